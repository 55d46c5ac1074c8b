import Derived.Test.YtclicjiakkcfcaaGreatDoorNsP
import Derived.Test.YtclicjiakkcfcaaGreatDoorTxZ
import Derived.Test.YtclicjiakkcfcaaGreatDoorSlA
namespace Go.Proofs.YtclicjiakkcfcaaGreatDoor
open Go.RowKit
theorem pre_no {x a : Int} {l R : List Int} (h : x ≠ a) : pre (a :: l) (x :: R) = false := by
 unfold pre
 rw [List.isPrefixOf]
 have : (a == x) = false := by simpa using fun e => h e.symm
 rw [this, Bool.false_and]
def Stops (R : List Int) : Prop := sName (ah R 0) = false ∧ esc R 0 = false
theorem letter_bd {a : Int} (h : sLetter a = true) : a ≠ 45 ∧ a ≠ 47 ∧ a ≠ 34 ∧ a ≠ 39 ∧ a ≠ 35 ∧ a ≠ 64 ∧ a ≠ 60 ∧ a ≠ 43 ∧ a ≠ 46 ∧ sWhite a = false ∧ sDigit a = false := by
 have h := of_decide_eq_true h
 refine ⟨by omega, by omega, by omega, by omega, by omega, by omega, by omega, by omega, by omega, ?_, ?_⟩
 · unfold sWhite; exact decide_eq_false (by omega)
 · unfold sDigit; exact decide_eq_false (by omega)
theorem tok_ident {a : Int} {l R : List Int} (ha : sLetter a = true) (hl : ∀ x ∈ l, sName x = true) (hR : Stops R) : toks (a :: l ++ R) = (identT (a :: l ++ R)).1 :: toks (identT (a :: l ++ R)).2 ∧ nm (a :: l ++ R) = (a :: l, R) := by
 obtain ⟨b1, b2, b3, b4, b5, b6, b7, b8, b9, b10, b11⟩ := letter_bd ha
 have a0 : ah (a :: l ++ R) 0 = a := rfl
 have hnm : nm (a :: l ++ R) = (a :: l, R) := nm_names (a :: l) R (fun x hx => by
  rcases List.mem_cons.1 hx with rfl | hx
  · unfold sName; rw [ha]; rfl
  · exact hl x hx) hR.1 hR.2
 refine ⟨?_, hnm⟩
 rw [List.cons_append] at a0 ⊢
 rw [toks_cons (pre_no b2) (by simp)]
 have hnum : numB (a :: (l ++ R)) = false := by
  unfold numB sgn frac
  rw [a0, if_neg (by simp; omega), b11, decide_eq_false (by omega : ¬ a = 46)]
  rfl
 have hn : nbg (a :: (l ++ R)) 0 = true := by
  unfold nbg
  rw [a0, if_neg (by omega), ha, Bool.true_or]
 have e : tokT (a :: (l ++ R)) = identT (a :: (l ++ R)) := by
  conv => lhs; unfold tokT
  rw [a0, if_neg (by rw [b10]; decide), if_neg (by omega), if_neg (by omega), if_neg (by omega), if_neg (by rw [hnum]; decide), if_neg (by rw [pre_no (by omega)]; decide), if_neg (by rw [pre_no (by omega)]; decide), if_pos hn]
 rw [e]
theorem toks_id {a : Int} {l R : List Int} (ha : sLetter a = true) (hl : ∀ x ∈ l, sName x = true) (hR : Stops R) (h40 : ah R 0 ≠ 40) : toks (a :: l ++ R) = { kind := 1, text := runesBytes (a :: l) } :: toks R := by
 obtain ⟨h1, h2⟩ := tok_ident ha hl hR
 have e : identT (a :: l ++ R) = ({ kind := 1, text := runesBytes (a :: l) }, R) := by
  unfold identT
  rw [h2, if_pos h40]
 rw [h1, e]
end Go.Proofs.YtclicjiakkcfcaaGreatDoor
set_option maxRecDepth 100000
namespace Go.Proofs.YtclicjiakkcfcaaGreatDoor
open Go.RowKit
abbrev tW : Tok := { kind := 13 }
abbrev tA : Tok := { kind := 1, text := ⟨#[97]⟩ }
def cbN (c : Nat) : Int := [32, 62, 43, 126].getD c 0
def cbB (c : Nat) : ByteArray := [⟨#[32]⟩, ⟨#[62]⟩, ⟨#[43]⟩, ⟨#[126]⟩].getD c ⟨#[]⟩
def pdN (p : Nat) : List Int := [ [], [32], [10, 32], [47, 42, 32, 120, 32, 42, 47], [32, 47, 42, 42, 47, 32]].getD p []
def pdT (p : Nat) : List Tok := [ [], [tW], [tW], [], [tW, tW]].getD p []
def pcL (c p : Nat) : List Int := pdN p ++ cbN c :: pdN p
def pcT (c p : Nat) : List Tok := if c = 0 then (if p = 4 then [tW, tW, tW] else [tW]) else pdT p ++ markT (cbN c) :: pdT p
theorem tk_white {x : Int} {R : List Int} (hx : sWhite x = true) : toks (x :: R) = tW :: toks (wh R) := by
 have h47 : x ≠ 47 := by intro e; rw [e] at hx; exact absurd hx (by decide)
 rw [toks_cons (pre_no h47) (by simp)]
 have e : tokT (x :: R) = (tW, wh R) := by
  rw [tokT, if_pos (show sWhite (ah (x :: R) 0) = true from hx), wh_white (show sWhite (ah (x :: R) 0) = true from hx)]
  rfl
 rw [e]
theorem tk_ww {x y : Int} {R : List Int} (hx : sWhite x = true) (hy : sWhite y = true) : toks (x :: y :: R) = toks (y :: R) := by
 rw [tk_white hx, tk_white hy, wh_white (show sWhite (ah (y :: R) 0) = true from hy)]
 rfl
theorem tk_w {x y : Int} {R : List Int} (hx : sWhite x = true) (hy : sWhite y = false) : toks (x :: y :: R) = tW :: toks (y :: R) := by
 rw [tk_white hx, wh_else (show sWhite (ah (y :: R) 0) = false from hy)]
theorem tk_d {x : Int} (hx : x = 62 ∨ x = 126) (R : List Int) : toks (x :: R) = markT x :: toks R := by
 have a0 : ah (x :: R) 0 = x := rfl
 rw [toks_cons (pre_no (by omega)) (by simp)]
 have hw : sWhite x = false := by unfold sWhite; exact decide_eq_false (by omega)
 have hl : sLetter x = false := by unfold sLetter; exact decide_eq_false (by omega)
 have hd : sDigit x = false := by unfold sDigit; exact decide_eq_false (by omega)
 have hnum : numB (x :: R) = false := by
  unfold numB sgn frac
  rw [a0, if_neg (by simp; omega), hd, decide_eq_false (by omega : ¬ x = 46)]
  rfl
 have hn : nbg (x :: R) 0 = false := by
  unfold nbg
  rw [a0, if_neg (by omega), hl, Bool.false_or]
  unfold esc
  rw [a0]
  exact decide_eq_false (by omega)
 have e : tokT (x :: R) = (markT x, R) := by
  unfold tokT
  rw [a0, if_neg (by rw [hw]; decide), if_neg (by omega), if_neg (by omega), if_neg (by omega), if_neg (by rw [hnum]; decide), if_neg (by rw [pre_no (by omega)]; decide), if_neg (by rw [pre_no (by omega)]; decide), if_neg (by rw [hn]; decide)]
  rfl
 rw [e]
theorem tk_p {y : Int} (hy : sDigit y = false) (h46 : y ≠ 46) (R : List Int) : toks (43 :: y :: R) = markT 43 :: toks (y :: R) := by
 have a0 : ah (43 :: y :: R) 0 = 43 := rfl
 have a1 : ah (43 :: y :: R) 1 = y := rfl
 rw [toks_cons (pre_no (by decide)) (by simp)]
 have hnum : numB (43 :: y :: R) = false := by
  unfold numB sgn frac
  rw [a0, if_pos (by decide), a1, hy, decide_eq_false h46]
  rfl
 have hn : nbg (43 :: y :: R) 0 = false := by
  unfold nbg
  rw [a0, if_neg (by decide)]
  unfold esc
  rw [a0, show sLetter 43 = false from by decide, Bool.false_or]
  exact decide_eq_false (fun e => absurd e.1 (by decide))
 have e : tokT (43 :: y :: R) = (markT 43, y :: R) := by
  unfold tokT
  rw [a0, if_neg (by decide), if_neg (by decide), if_neg (by decide), if_neg (by decide), if_neg (by rw [hnum]; decide), if_neg (by rw [pre_no (by decide)]; decide), if_neg (by rw [pre_no (by decide)]; decide), if_neg (by rw [hn]; decide)]
  rfl
 rw [e]
theorem pre_cm (R : List Int) : pre [47, 42] (47 :: 42 :: R) = true := by
 unfold pre
 simp [List.isPrefixOf]
theorem tk_c0 (Y : List Int) : toks (47 :: 42 :: 42 :: 47 :: Y) = toks Y := by
 rw [toks_eq, cm_yes (pre_cm _), toks_eq Y]
 congr 2
theorem tk_cx (Y : List Int) : toks (47 :: 42 :: 32 :: 120 :: 32 :: 42 :: 47 :: Y) = toks Y := by
 rw [toks_eq, cm_yes (pre_cm _), toks_eq Y]
 congr 2
theorem tk_a {y : Int} (h1 : sName y = false) (h2 : y ≠ 92) (h3 : y ≠ 40) (R : List Int) : toks (97 :: y :: R) = tA :: toks (y :: R) := by
 have h := toks_id (a := 97) (l := []) (R := y :: R) (by decide) (by simp) ⟨h1, by unfold esc; exact decide_eq_false (fun e => h2 e.1)⟩ h3
 rw [List.cons_append, List.nil_append] at h
 rw [h]
 rfl
theorem tk_end : toks [97] = [tA] := by kernel_rfl
theorem pc_step (R : List Int) {c p : Nat} (hc : c < 4) (hp : p < 5) : toks (97 :: (pcL c p ++ 97 :: R)) = tA :: (pcT c p ++ toks (97 :: R)) := by
 have h1 : c = 0 ∨ c = 1 ∨ c = 2 ∨ c = 3 := by omega
 have h2 : p = 0 ∨ p = 1 ∨ p = 2 ∨ p = 3 ∨ p = 4 := by omega
 rcases h1 with rfl | rfl | rfl | rfl <;> rcases h2 with rfl | rfl | rfl | rfl | rfl <;>
   (simp only [pcL, pdN, cbN, List.getD_cons_zero, List.getD_cons_succ, List.nil_append, List.cons_append]
    simp (discharger := decide) only [tk_a, tk_ww, tk_w, tk_d, tk_p, tk_c0, tk_cx]
    rfl)
def cmbL : List (Nat × Nat) → List Int
  | [] => [97]
  | (c, p) :: l => 97 :: (pcL c p ++ cmbL l)
theorem cmbL_head : ∀ l, ∃ R, cmbL l = 97 :: R
  | [] => ⟨[], rfl⟩
  | (_, _) :: _ => ⟨_, rfl⟩
theorem cmbL_snoc : ∀ (l : List (Nat × Nat)) (c p : Nat), cmbL (l ++ [(c, p)]) = cmbL l ++ pcL c p ++ [97]
  | [], c, p => by simp [cmbL]
  | (a, b) :: l, c, p => by
   rw [List.cons_append, cmbL, cmbL_snoc l c p, cmbL]
   simp
def cmbT : List (Nat × Nat) → List Tok
  | [] => [tA]
  | (c, p) :: l => tA :: (pcT c p ++ cmbT l)
def okCb (x : Nat × Nat) : Prop := x.1 < 4 ∧ x.2 < 5
theorem toks_cmb : ∀ l : List (Nat × Nat), (∀ x ∈ l, okCb x) → toks (cmbL l) = cmbT l
  | [], _ => tk_end
  | (c, p) :: l, h => by
   obtain ⟨R, hR⟩ := cmbL_head l
   have hx := h (c, p) (by simp)
   rw [cmbL, cmbT, hR, pc_step R hx.1 hx.2, ← hR, toks_cmb l (fun x hx => h x (by simp [hx]))]
abbrev lfN (t : Tok) : Nd := .mk t []
theorem flL_leaf : ∀ ts : List Tok, (∀ t ∈ ts, (cloB t).toList.isEmpty = true) → flL (ts.map lfN) = ts
  | [], _ => rfl
  | t :: ts, h => by
   rw [List.map_cons, flL, flN_leaf (h t (by simp)), flL_leaf ts (fun x hx => h x (by simp [hx]))]
   rfl
theorem dpL_leaf : ∀ ts : List Tok, dpL (ts.map lfN) ≤ 1
  | [] => by rw [List.map_nil, dpL]; omega
  | t :: ts => by
   have := dpL_leaf ts
   rw [List.map_cons, dpL, dpN, dpL]
   omega
theorem nds_leaf {ts : List Tok} (h : ∀ t ∈ ts, (cloB t).toList.isEmpty = true) : ndsS ts = ts.map lfN := by
 have e := nds_back (ts.map lfN) (fun x hx => by
  obtain ⟨t, ht, rfl⟩ := List.mem_map.1 hx
  exact .leaf t (h t ht)) (Nat.le_trans (dpL_leaf ts) (by decide))
 rw [flL_leaf ts h] at e
 exact e
theorem pcT_kinds {c p : Nat} (hc : c < 4) (hp : p < 5) : (pcT c p).all (fun t => (cloB t).toList.isEmpty && !(t.kind == 18)) = true := by
 have h1 : c = 0 ∨ c = 1 ∨ c = 2 ∨ c = 3 := by omega
 have h2 : p = 0 ∨ p = 1 ∨ p = 2 ∨ p = 3 ∨ p = 4 := by omega
 rcases h1 with rfl | rfl | rfl | rfl <;> rcases h2 with rfl | rfl | rfl | rfl | rfl <;> decide +kernel
theorem cmbT_kinds : ∀ l : List (Nat × Nat), (∀ x ∈ l, okCb x) → (cmbT l).all (fun t => (cloB t).toList.isEmpty && !(t.kind == 18)) = true
  | [], _ => by decide +kernel
  | (c, p) :: l, h => by
   have hx := h (c, p) (by simp)
   rw [cmbT, List.all_cons, List.all_append, pcT_kinds hx.1 hx.2, cmbT_kinds l (fun x hx => h x (by simp [hx]))]
   decide +kernel
def cmbN (l : List (Nat × Nat)) : List Nd := (cmbT l).map lfN
theorem cmbN_cons (c p : Nat) (l : List (Nat × Nat)) : cmbN ((c, p) :: l) = lfN tA :: ((pcT c p).map lfN ++ cmbN l) := by
 unfold cmbN
 rw [cmbT, List.map_cons, List.map_append]
theorem cmbN_head : ∀ l, ∃ R, cmbN l = lfN tA :: R
  | [] => ⟨[], rfl⟩
  | (c, p) :: l => ⟨_, cmbN_cons c p l⟩
theorem nds_cmb {l : List (Nat × Nat)} (h : ∀ x ∈ l, okCb x) : ndsS (toks (cmbL l)) = cmbN l := by
 rw [toks_cmb l h]
 exact nds_leaf fun t ht => by
  have := List.all_eq_true.1 (cmbT_kinds l h) t ht
  simp only [Bool.and_eq_true] at this
  exact this.1
theorem splA_none : ∀ (l now : List Nd), (∀ n ∈ l, isCm n = false) → splA now l = [now ++ l]
  | [], now, _ => by rw [splA, List.append_nil]
  | n :: l, now, h => by
   rw [splA, if_neg (by rw [h n (by simp)]; decide), splA_none l _ (fun x hx => h x (by simp [hx])), List.append_assoc]
   rfl
theorem spl_cmb {l : List (Nat × Nat)} (h : ∀ x ∈ l, okCb x) : splS (cmbN l) = [cmbN l] := by
 unfold splS
 rw [splA_none _ _ (fun n hn => ?_)]
 · rfl
 · unfold cmbN at hn
   obtain ⟨t, ht, rfl⟩ := List.mem_map.1 hn
   have := List.all_eq_true.1 (cmbT_kinds l h) t ht
   simp only [Bool.and_eq_true, Bool.not_eq_true', beq_eq_false_iff_ne] at this
   exact decide_eq_false this.2
abbrev cpA : CmD := .mk ⟨#[97]⟩ []
theorem pc_reads (fn : FnS) (R : List Nd) {c p : Nat} (hc : c < 4) (hp : p < 5) : compW fn (lfN tA :: ((pcT c p).map lfN ++ lfN tA :: R)) = some (cpA, (pcT c p).map lfN ++ lfN tA :: R) ∧ (elementR ((pcT c p).map lfN ++ lfN tA :: R)).2 = 0 ∧ combR ((pcT c p).map lfN ++ lfN tA :: R) = (cbB c, lfN tA :: R) := by
 have h1 : c = 0 ∨ c = 1 ∨ c = 2 ∨ c = 3 := by omega
 have h2 : p = 0 ∨ p = 1 ∨ p = 2 ∨ p = 3 ∨ p = 4 := by omega
 have hlen : ∀ X : List Nd, compW fn (lfN tA :: X) = (match simF fn 17 [] X with
  | some (s, r') => if r'.length < X.length + 1 then some (.mk ⟨#[97]⟩ s, r') else if 0 < (elementR (lfN tA :: X)).2 then some (.mk starB [], lfN tA :: X) else none
  | none => none) := fun X => by
   unfold compW
   rw [show tagR (lfN tA :: X) = (⟨#[97]⟩, X) by kernel_rfl]
   rfl
 have hsim : ∀ X : List Nd, atSimpleR X = false → simF fn 17 [] X = some ([], X) := fun X hX => by
  rw [simF, if_neg (by rw [hX]; decide)]
 refine ⟨?_, ?_, ?_⟩
 · rw [hlen, hsim _ (by rcases h1 with rfl | rfl | rfl | rfl <;> rcases h2 with rfl | rfl | rfl | rfl | rfl <;> (show (_ : Bool) = _; kernel_rfl))]
   simp
 · rcases h1 with rfl | rfl | rfl | rfl <;> rcases h2 with rfl | rfl | rfl | rfl | rfl <;> kernel_rfl
 · rcases h1 with rfl | rfl | rfl | rfl <;> rcases h2 with rfl | rfl | rfl | rfl | rfl <;> kernel_rfl
theorem cb_ne {c : Nat} (hc : c < 4) : ((cbB c).toList == []) = false := by
 have h1 : c = 0 ∨ c = 1 ∨ c = 2 ∨ c = 3 := by omega
 rcases h1 with rfl | rfl | rfl | rfl <;> (show (_ : Bool) = _; kernel_rfl)
theorem chain_cmb (fn : FnS) : ∀ (l : List (Nat × Nat)) (f : Nat) (parts : List CmD) (combs : List ByteArray), (∀ x ∈ l, okCb x) → parts.length ≤ 8 → f + parts.length = 9 →
    chainF fn true f parts combs (cmbN l) = if parts.length + l.length + 1 ≤ 8 then some (.mk (parts ++ List.replicate (l.length + 1) cpA) (combs ++ l.map fun x => cbB x.1) 0) else none
  | [], f, parts, combs, _, h8, hf => by
   obtain ⟨m, rfl⟩ : ∃ m, f = m + 1 := ⟨f - 1, by omega⟩
   have e1 : compW fn (cmbN []) = some (cpA, []) := by
    unfold compW
    rw [show tagR (cmbN []) = (⟨#[97]⟩, []) by kernel_rfl]
    rw [simF, if_neg (by decide +kernel)]
    rfl
   rw [chainF, e1]
   simp only
   by_cases h : parts.length = 8
   · rw [if_pos h, if_neg (by simp; omega)]
   · rw [if_neg h, if_neg (show ¬ 0 < (elementR []).2 from by decide), if_pos (by kernel_rfl), if_pos (by kernel_rfl), if_pos (by simp; omega)]
     simp
  | (c, p) :: l, f, parts, combs, hl, h8, hf => by
   obtain ⟨m, rfl⟩ : ∃ m, f = m + 1 := ⟨f - 1, by omega⟩
   have hx := hl (c, p) (by simp)
   obtain ⟨R, hR⟩ := cmbN_head l
   obtain ⟨e1, e2, e3⟩ := pc_reads fn R hx.1 hx.2
   rw [cmbN_cons, hR, chainF, e1]
   simp only
   by_cases h : parts.length = 8
   · rw [if_pos h, if_neg (by simp; omega)]
   · rw [if_neg h, if_neg (by rw [e2]; decide), e3]
     simp only
     rw [if_neg (by rw [cb_ne hx.1]; decide), ← hR, chain_cmb fn l m (parts ++ [cpA]) (combs ++ [cbB c]) (fun x hx => hl x (by simp [hx])) (by simp; omega) (by simp; omega)]
     simp only [List.length_append, List.length_cons, List.length_nil, List.append_assoc, List.singleton_append, List.map_cons]
     rw [show List.replicate (l.length + 1 + 1) cpA = cpA :: List.replicate (l.length + 1) cpA from rfl]
     by_cases h2 : parts.length + (l.length + 1) + 1 ≤ 8
     · rw [if_pos (by omega), if_pos h2]
     · rw [if_neg (by omega), if_neg h2]
theorem sel_cmb {l : List (Nat × Nat)} (ps : List Nd → Int × Int × Bool) (h : ∀ x ∈ l, okCb x) : selS ps (ndsS (toks (cmbL l))) = if l.length + 1 ≤ 8 then some [.mk (List.replicate (l.length + 1) cpA) (l.map fun x => cbB x.1) 0] else none := by
 rw [nds_cmb h]
 unfold selS listW
 rw [spl_cmb h]
 obtain ⟨R, hR⟩ := cmbN_head l
 have hw : whiteR (cmbN l) = cmbN l := by rw [hR]; kernel_rfl
 have e : chainW (fnS ps 4) true (cmbN l) = if l.length + 1 ≤ 8 then some (.mk (List.replicate (l.length + 1) cpA) (l.map fun x => cbB x.1) 0) else none := by
  unfold chainW
  rw [hw, chain_cmb (fnS ps 4) l 9 [] [] h (by simp) (by simp)]
  simp
 by_cases h8 : l.length + 1 ≤ 8
 · rw [if_pos h8] at e ⊢
   have hf : List.filterMap (chainW (fnS ps 4) true) [cmbN l] = [.mk (List.replicate (l.length + 1) cpA) (l.map fun x => cbB x.1) 0] := by simp [e]
   have ha : ([cmbN l].any fun p => (chainW (fnS ps 4) true p).isNone) = false := by simp [e]
   rw [ha, hf]
   rfl
 · rw [if_neg h8] at e ⊢
   have ha : ([cmbN l].any fun p => (chainW (fnS ps 4) true p).isNone) = true := by simp [e]
   rw [ha]
   rfl
end Go.Proofs.YtclicjiakkcfcaaGreatDoor
