
import Derived.Test.YtfggpenfdfklkaaGreatRuW
namespace Go.Proofs.YtfggpenfdfklkaaGreat
open Go.RowKit
/-! Tokens of texts that are put together: sign by sign, word by word. -/
abbrev mkL : List Int := [33, 40, 41, 44, 58, 59, 91, 93, 123, 125]
theorem pre2_no {x a b : Int} {R : List Int} (h : x ≠ a) : pre (a :: [b]) (x :: R) = false := by
  unfold pre
  rw [List.isPrefixOf]
  have : (a == x) = false := by simpa using fun e => h e.symm
  rw [this, Bool.false_and]
theorem pre_no {x a : Int} {l R : List Int} (h : x ≠ a) : pre (a :: l) (x :: R) = false := by
  unfold pre
  rw [List.isPrefixOf]
  have : (a == x) = false := by simpa using fun e => h e.symm
  rw [this, Bool.false_and]
theorem toks_mark {x : Int} (h : x ∈ mkL) (R : List Int) : toks (x :: R) = markT x :: toks R := by
  have hx : x = 33 ∨ x = 40 ∨ x = 41 ∨ x = 44 ∨ x = 58 ∨ x = 59 ∨ x = 91 ∨ x = 93 ∨ x = 123 ∨ x = 125 := by simpa [mkL] using h
  have a0 : ah (x :: R) 0 = x := rfl
  rw [toks_cons (pre_no (by omega)) (by simp)]
  have hw : sWhite x = false := by unfold sWhite; exact decide_eq_false (by omega)
  have hl : sLetter x = false := by unfold sLetter; exact decide_eq_false (by omega)
  have hd : sDigit x = false := by unfold sDigit; exact decide_eq_false (by omega)
  have hnum : numB (x :: R) = false := by
    unfold numB sgn frac
    rw [a0, if_neg (by simp; omega), hd, decide_eq_false (by omega : ¬ x = 46)]
    rfl
  have hn : nbg (x :: R) 0 = false := by
    unfold nbg
    rw [a0, if_neg (by omega), hl, Bool.false_or]
    unfold esc
    rw [a0]
    exact decide_eq_false (by omega)
  have e : tokT (x :: R) = (markT x, R) := by
    unfold tokT
    rw [a0, if_neg (by rw [hw]; decide), if_neg (by omega), if_neg (by omega), if_neg (by omega), if_neg (by rw [hnum]; decide), if_neg (by rw [pre_no (by omega)]; decide), if_neg (by rw [pre_no (by omega)]; decide), if_neg (by rw [hn]; decide)]
    rfl
  rw [e]
theorem toks_ws {x : Int} (h : sWhite x = true) {R : List Int} (hR : sWhite (ah R 0) = false) : toks (x :: R) = { kind := 13 } :: toks R := by
  have hx : x ≠ 47 := by intro e; rw [e] at h; exact absurd h (by decide)
  rw [toks_cons (pre_no hx) (by simp)]
  have e2 : tokT (x :: R) = ({ kind := 13 }, R) := by
    rw [tokT, if_pos (show sWhite (ah (x :: R) 0) = true from h), wh_white (show sWhite (ah (x :: R) 0) = true from h)]
    show (_, wh R) = _
    rw [wh_else hR]
  rw [e2]
theorem toks_wss {R : List Int} (hR : sWhite (ah R 0) = false) : ∀ n : Nat, toks (List.replicate (n + 1) 32 ++ R) = { kind := 13 } :: toks R := by
  intro n
  have hw : ∀ m : Nat, wh (List.replicate m 32 ++ R) = R := by
    intro m
    induction m with
    | zero => exact wh_else hR
    | succ m ih =>
      rw [List.replicate_succ, List.cons_append, wh_white (show sWhite (ah (32 :: (List.replicate m 32 ++ R)) 0) = true from (by decide : sWhite 32 = true))]
      exact ih
  rw [List.replicate_succ, List.cons_append, toks_cons (pre_no (by decide)) (by simp)]
  have e2 : tokT (32 :: (List.replicate n 32 ++ R)) = ({ kind := 13 }, R) := by
    rw [tokT, if_pos (show sWhite (ah (32 :: (List.replicate n 32 ++ R)) 0) = true from (by decide : sWhite 32 = true)), wh_white (show sWhite (ah (32 :: (List.replicate n 32 ++ R)) 0) = true from (by decide : sWhite 32 = true))]
    show (_, wh (List.replicate n 32 ++ R)) = _
    rw [hw]
  rw [e2]
/-- What may stand behind a name. -/
def Stops (R : List Int) : Prop := sName (ah R 0) = false ∧ esc R 0 = false
theorem stops_of {x : Int} {R : List Int} (h : x ∈ mkL ∨ x = 32 ∨ x = 10 ∨ x = 64) : Stops (x :: R) := by
  have hx : x = 33 ∨ x = 40 ∨ x = 41 ∨ x = 44 ∨ x = 58 ∨ x = 59 ∨ x = 91 ∨ x = 93 ∨ x = 123 ∨ x = 125 ∨ x = 32 ∨ x = 10 ∨ x = 64 := by simpa [mkL, or_assoc] using h
  have a0 : ah (x :: R) 0 = x := rfl
  refine ⟨?_, ?_⟩
  · rw [a0]
    unfold sName sLetter sDigit
    rw [decide_eq_false (by omega), decide_eq_false (by omega), decide_eq_false (by omega)]
    rfl
  · unfold esc
    rw [a0]
    exact decide_eq_false (by omega)
theorem stops_nil : Stops [] := ⟨by decide, by decide⟩
theorem letter_bd {a : Int} (h : sLetter a = true) : a ≠ 45 ∧ a ≠ 47 ∧ a ≠ 34 ∧ a ≠ 39 ∧ a ≠ 35 ∧ a ≠ 64 ∧ a ≠ 60 ∧ a ≠ 43 ∧ a ≠ 46 ∧ sWhite a = false ∧ sDigit a = false := by
  have h := of_decide_eq_true h
  refine ⟨by omega, by omega, by omega, by omega, by omega, by omega, by omega, by omega, by omega, ?_, ?_⟩
  · unfold sWhite; exact decide_eq_false (by omega)
  · unfold sDigit; exact decide_eq_false (by omega)
theorem tok_ident {a : Int} {l R : List Int} (ha : sLetter a = true) (hl : ∀ x ∈ l, sName x = true) (hR : Stops R) : toks (a :: l ++ R) = (identT (a :: l ++ R)).1 :: toks (identT (a :: l ++ R)).2 ∧ nm (a :: l ++ R) = (a :: l, R) := by
  obtain ⟨b1, b2, b3, b4, b5, b6, b7, b8, b9, b10, b11⟩ := letter_bd ha
  have a0 : ah (a :: l ++ R) 0 = a := rfl
  have hnm : nm (a :: l ++ R) = (a :: l, R) := nm_names (a :: l) R (fun x hx => by
    rcases List.mem_cons.1 hx with rfl | hx
    · unfold sName; rw [ha]; rfl
    · exact hl x hx) hR.1 hR.2
  refine ⟨?_, hnm⟩
  rw [List.cons_append] at a0 ⊢
  rw [toks_cons (pre_no b2) (by simp)]
  have hnum : numB (a :: (l ++ R)) = false := by
    unfold numB sgn frac
    rw [a0, if_neg (by simp; omega), b11, decide_eq_false (by omega : ¬ a = 46)]
    rfl
  have hn : nbg (a :: (l ++ R)) 0 = true := by
    unfold nbg
    rw [a0, if_neg (by omega), ha, Bool.true_or]
  have e : tokT (a :: (l ++ R)) = identT (a :: (l ++ R)) := by
    conv => lhs; unfold tokT
    rw [a0, if_neg (by rw [b10]; decide), if_neg (by omega), if_neg (by omega), if_neg (by omega), if_neg (by rw [hnum]; decide), if_neg (by rw [pre_no (by omega)]; decide), if_neg (by rw [pre_no (by omega)]; decide), if_pos hn]
  rw [e]
theorem toks_id {a : Int} {l R : List Int} (ha : sLetter a = true) (hl : ∀ x ∈ l, sName x = true) (hR : Stops R) (h40 : ah R 0 ≠ 40) : toks (a :: l ++ R) = { kind := 1, text := runesBytes (a :: l) } :: toks R := by
  obtain ⟨h1, h2⟩ := tok_ident ha hl hR
  have e : identT (a :: l ++ R) = ({ kind := 1, text := runesBytes (a :: l) }, R) := by
    unfold identT
    rw [h2, if_pos h40]
  rw [h1, e]
theorem toks_fn {a : Int} {l R : List Int} (ha : sLetter a = true) (hl : ∀ x ∈ l, sName x = true) (hu : ((lowS (runesBytes (a :: l))).toList == [117, 114, 108]) = false) : toks (a :: l ++ 40 :: R) = { kind := 2, text := runesBytes (a :: l) } :: toks R := by
  obtain ⟨h1, h2⟩ := tok_ident ha hl (stops_of (x := 40) (R := R) (.inl (by decide)))
  have e : identT (a :: l ++ 40 :: R) = ({ kind := 2, text := runesBytes (a :: l) }, R) := by
    unfold identT
    rw [h2, if_neg (show ¬ ah (40 :: R) 0 ≠ 40 from fun h => h rfl), if_neg (by rw [hu]; decide)]
    rfl
  rw [h1, e]
theorem toks_at {a : Int} {l R : List Int} (ha : sLetter a = true) (hl : ∀ x ∈ l, sName x = true) (hR : Stops R) : toks (64 :: (a :: l ++ R)) = { kind := 3, text := runesBytes (a :: l) } :: toks R := by
  have hnm : nm (a :: l ++ R) = (a :: l, R) := nm_names (a :: l) R (fun x hx => by
    rcases List.mem_cons.1 hx with rfl | hx
    · unfold sName; rw [ha]; rfl
    · exact hl x hx) hR.1 hR.2
  rw [toks_cons (pre_no (by decide)) (by simp)]
  have hn : nbg (64 :: (a :: l ++ R)) 1 = true := by
    unfold nbg
    rw [show ah (64 :: (a :: l ++ R)) 1 = a from rfl, if_neg (letter_bd ha).1, ha, Bool.true_or]
  have e : tokT (64 :: (a :: l ++ R)) = ({ kind := 3, text := runesBytes (a :: l) }, R) := by
    unfold tokT
    rw [show ah (64 :: (a :: l ++ R)) 0 = 64 from rfl, if_neg (by decide), if_neg (by decide), if_neg (by decide), if_pos rfl]
    unfold atT
    rw [if_pos hn, show dp 1 (64 :: (a :: l ++ R)) = a :: l ++ R from rfl, hnm]
  rw [e]
/-! Nodes piece by piece. -/
theorem fl_flat (f : Nat → List Nd) (g : Nat → List Tok) : ∀ ks : List Nat, (∀ k ∈ ks, flL (f k) = g k) → flL (ks.flatMap f) = ks.flatMap g
  | [], _ => rfl
  | k :: ks, h => by
    rw [List.flatMap_cons, List.flatMap_cons, flL_append, h k (by simp), fl_flat f g ks (fun x hx => h x (by simp [hx]))]
theorem ok_flat (f : Nat → List Nd) : ∀ ks : List Nat, (∀ k ∈ ks, (∀ x ∈ f k, OkN x) ∧ dpL (f k) ≤ 32) → (∀ x ∈ ks.flatMap f, OkN x) ∧ dpL (ks.flatMap f) ≤ 32
  | [], _ => ⟨fun x hx => by simp at hx, by rw [List.flatMap_nil]; decide +kernel⟩
  | k :: ks, h => by
    obtain ⟨i1, i2⟩ := ok_flat f ks (fun x hx => h x (by simp [hx]))
    obtain ⟨j1, j2⟩ := h k (by simp)
    refine ⟨fun x hx => ?_, ?_⟩
    · rw [List.flatMap_cons, List.mem_append] at hx
      exact hx.elim (j1 x) (i1 x)
    · rw [List.flatMap_cons, dpL_append]
      omega
end Go.Proofs.YtfggpenfdfklkaaGreat
namespace Go.Proofs.YtfggpenfdfklkaaGreat
open Go.RowKit
/-! Rules one behind the other, as plain functions. -/
theorem dw_stop {q : Nd → Bool} {s : Nd} {rest : List Nd} (hs : q s = false) : ∀ p : List Nd, (∀ n ∈ p, q n = true) → (p ++ s :: rest).dropWhile q = s :: rest ∧ (p ++ s :: rest).takeWhile q = p
  | [], _ => by
    rw [List.nil_append, List.dropWhile_cons, List.takeWhile_cons, if_neg (by rw [hs]; decide), if_neg (by rw [hs]; decide)]
    exact ⟨rfl, rfl⟩
  | n :: p, h => by
    obtain ⟨i1, i2⟩ := dw_stop hs p (fun x hx => h x (by simp [hx]))
    have hn := h n (by simp)
    rw [List.cons_append, List.dropWhile_cons, List.takeWhile_cons, if_pos hn, if_pos hn, i1, i2]
    exact ⟨rfl, rfl⟩
theorem dw_end {q : Nd → Bool} : ∀ p : List Nd, (∀ n ∈ p, q n = true) → p.dropWhile q = [] ∧ p.takeWhile q = p
  | [], _ => ⟨rfl, rfl⟩
  | n :: p, h => by
    obtain ⟨i1, i2⟩ := dw_end p (fun x hx => h x (by simp [hx]))
    have hn := h n (by simp)
    rw [List.dropWhile_cons, List.takeWhile_cons, if_pos hn, if_pos hn, i1, i2]
    exact ⟨rfl, rfl⟩
theorem rulesS_junk {n : Nd} (h : junkB n = true) (rest : List Nd) : rulesS (n :: rest) = rulesS rest := by
  rw [rulesS_cons, if_pos h]
theorem at_junk {q : Nd} (hq : (q.tok.kind == 3) = true) : junkB q = false := by
  have : q.tok.kind = 3 := by simpa using hq
  unfold junkB isWh semB
  rw [this]
  rfl
theorem rulesS_rule {q : Nd} {p : List Nd} {B : Nd} (hj : junkB q = false) (h3 : (q.tok.kind == 3) = false) (hp : ∀ n ∈ q :: p, blkB n = false) (hB : blkB B = true) (rest : List Nd) :
    rulesS (q :: p ++ B :: rest) = ⟨⟨#[]⟩, trimS (q :: p), true, declsS B.kids⟩ :: rulesS rest := by
  obtain ⟨e1, e2⟩ := dw_stop (q := preB false) (s := B) (rest := rest) (by unfold preB; rw [hB]; rfl) (q :: p) (fun n hn => by unfold preB; rw [hp n hn]; rfl)
  have eb : bodyOf q (p ++ B :: rest) = q :: p ++ B :: rest := by unfold bodyOf; rw [if_neg (by rw [h3]; decide)]; rfl
  rw [List.cons_append, rulesS_cons, if_neg (by rw [hj]; decide), h3, eb, e1, List.tail_cons]
  unfold ruleOf
  rw [e1, e2]
  have eh : headB (B :: rest) = true := hB
  have ek : kidsD (B :: rest) = declsS B.kids := by unfold kidsD; exact if_pos hB
  rw [eh, ek]
  rfl
theorem rulesS_atblk {q : Nd} {p : List Nd} {B : Nd} (h3 : (q.tok.kind == 3) = true) (hp : ∀ n ∈ p, blkB n = false ∧ semB n = false) (hB : blkB B = true) (rest : List Nd) :
    rulesS (q :: (p ++ B :: rest)) = ⟨lowS q.tok.text, trimS p, true, declsS B.kids⟩ :: rulesS rest := by
  obtain ⟨e1, e2⟩ := dw_stop (q := preB true) (s := B) (rest := rest) (by unfold preB; rw [hB]; rfl) p (fun n hn => by unfold preB; rw [(hp n hn).1, (hp n hn).2]; rfl)
  have eb : bodyOf q (p ++ B :: rest) = p ++ B :: rest := by unfold bodyOf; rw [if_pos h3]
  rw [rulesS_cons, if_neg (by rw [at_junk h3]; decide), h3, eb, e1, List.tail_cons]
  unfold ruleOf
  rw [e1, e2]
  have eh : headB (B :: rest) = true := hB
  have ek : kidsD (B :: rest) = declsS B.kids := by unfold kidsD; exact if_pos hB
  rw [eh, ek]
  rfl
theorem rulesS_atsem {q : Nd} {p : List Nd} {s : Nd} (h3 : (q.tok.kind == 3) = true) (hp : ∀ n ∈ p, blkB n = false ∧ semB n = false) (hs : semB s = true) (hs2 : blkB s = false) (rest : List Nd) :
    rulesS (q :: (p ++ s :: rest)) = ⟨lowS q.tok.text, trimS p, false, []⟩ :: rulesS rest := by
  obtain ⟨e1, e2⟩ := dw_stop (q := preB true) (s := s) (rest := rest) (by unfold preB; rw [hs, hs2]; rfl) p (fun n hn => by unfold preB; rw [(hp n hn).1, (hp n hn).2]; rfl)
  have eb : bodyOf q (p ++ s :: rest) = p ++ s :: rest := by unfold bodyOf; rw [if_pos h3]
  rw [rulesS_cons, if_neg (by rw [at_junk h3]; decide), h3, eb, e1, List.tail_cons]
  unfold ruleOf
  rw [e1, e2]
  have eh : headB (s :: rest) = false := hs2
  have ek : kidsD (s :: rest) = [] := by unfold kidsD; exact if_neg (by rw [hs2]; decide)
  rw [eh, ek]
  rfl
theorem rulesS_atend {q : Nd} {p : List Nd} (h3 : (q.tok.kind == 3) = true) (hp : ∀ n ∈ p, blkB n = false ∧ semB n = false) :
    rulesS (q :: p) = [⟨lowS q.tok.text, trimS p, false, []⟩] := by
  obtain ⟨e1, e2⟩ := dw_end (q := preB true) p (fun n hn => by unfold preB; rw [(hp n hn).1, (hp n hn).2]; rfl)
  have eb : bodyOf q p = p := by unfold bodyOf; rw [if_pos h3]
  rw [rulesS_cons, if_neg (by rw [at_junk h3]; decide), h3, eb, e1, List.tail_nil, rulesS_nil, List.append_nil]
  unfold ruleOf
  rw [e1, e2]
  rfl
end Go.Proofs.YtfggpenfdfklkaaGreat
