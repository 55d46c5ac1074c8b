
import Derived.Test.YtfggpenfdfklkaaGreatRxC
namespace Go.Proofs.YtfggpenfdfklkaaGreat
open Go.RowKit
/-! RulesAts: its texts. -/
abbrev pA : List Int := [32, 112, 40, 59, 123, 125, 41, 32, 91, 59, 93]
abbrev pAB : ByteArray := ⟨#[32, 112, 40, 59, 123, 125, 41, 32, 91, 59, 93]⟩
abbrev TPA : List Tok := [{ kind := 13 }, { kind := 2, text := ⟨#[112]⟩ }, { kind := 17 }, { kind := 19, text := ⟨#[123]⟩ }, { kind := 20, text := ⟨#[125]⟩ }, { kind := 20, text := ⟨#[41]⟩ }, { kind := 13 }, { kind := 19, text := ⟨#[91]⟩ }, { kind := 17 }, { kind := 20, text := ⟨#[93]⟩ }]
abbrev nFn : Nd := .mk { kind := 2, text := ⟨#[112]⟩ } [lf 17 ⟨#[]⟩, oB]
abbrev nBr : Nd := .mk { kind := 19, text := ⟨#[91]⟩ } [lf 17 ⟨#[]⟩]
abbrev NPA : List Nd := [lf 13 ⟨#[]⟩, nFn, lf 13 ⟨#[]⟩, nBr]
theorem toks_wsg {x y : Int} (hx : sWhite x = true) (hy : sWhite y = false) (R : List Int) : toks (x :: y :: R) = { kind := 13 } :: toks (y :: R) := toks_ws hx (R := y :: R) hy
theorem rb_p : runesBytes [112] = ⟨#[112]⟩ := by kernel_rfl
theorem toks_pA (R : List Int) : toks (pA ++ R) = TPA ++ toks R := by
  show toks (32 :: 112 :: 40 :: 59 :: 123 :: 125 :: 41 :: 32 :: 91 :: 59 :: 93 :: R) = _
  rw [toks_wsg (by decide) (by decide)]
  have h := toks_fn (a := 112) (l := []) (R := 59 :: 123 :: 125 :: 41 :: 32 :: 91 :: 59 :: 93 :: R) (by decide) (fun x hx => by simp at hx) (by decide +kernel)
  rw [List.cons_append, List.nil_append] at h
  rw [h, toks_mark (by decide), toks_mark (by decide), toks_mark (by decide), toks_mark (by decide), toks_wsg (by decide) (by decide), toks_mark (by decide), toks_mark (by decide), toks_mark (by decide), rb_p]
  rw [show markT 59 = { kind := 17 } by kernel_rfl, show markT 123 = { kind := 19, text := ⟨#[123]⟩ } by kernel_rfl, show markT 125 = { kind := 20, text := ⟨#[125]⟩ } by kernel_rfl, show markT 41 = { kind := 20, text := ⟨#[41]⟩ } by kernel_rfl, show markT 91 = { kind := 19, text := ⟨#[91]⟩ } by kernel_rfl, show markT 93 = { kind := 20, text := ⟨#[93]⟩ } by kernel_rfl]
  rfl
theorem toks_repA (X : List Int) : ∀ n, toks (rep pA n ++ X) = rep TPA n ++ toks X
  | 0 => rfl
  | n + 1 => by rw [rep_succ, rep_succ, List.append_assoc, List.append_assoc, toks_pA, toks_repA X n]
abbrev aX : List Int := [97, 32, 123, 32, 100, 58, 32, 101, 32, 125]
abbrev bX : List Int := [32, 123, 32, 99, 111, 108, 111, 114, 58, 32, 114, 101, 100, 59, 32, 64, 121, 32, 123, 32, 122, 58, 32, 119, 32, 125, 32, 98, 58, 32, 99, 32, 125]
def tlA (k : Nat) : List Int := if k = 0 then 59 :: aX else if k = 1 then bX ++ aX else []
def TTA (k : Nat) : List Tok := toks (tlA k)
def NTA (k : Nat) : List Nd := ndsS (TTA k)
theorem lt3 {k : Nat} (h : k < 3) : k = 0 ∨ k = 1 ∨ k = 2 := by omega
theorem fl_NTA {k : Nat} (h : k < 3) : flL (NTA k) = TTA k := by
  rcases lt3 h with rfl | rfl | rfl <;> (show flL _ = _; kernel_rfl)
abbrev aRule : RuleD := ⟨⟨#[]⟩, [lf 1 ⟨#[97]⟩], true, [⟨⟨#[100]⟩, [lf 1 ⟨#[101]⟩], false⟩]⟩
abbrev dA1 : DeclD := ⟨⟨#[99, 111, 108, 111, 114]⟩, [lf 1 ⟨#[114, 101, 100]⟩], false⟩
abbrev dA2 : DeclD := ⟨⟨#[98]⟩, [lf 1 ⟨#[99]⟩], false⟩
theorem NTA_0 : ∃ t, NTA 0 = lf 17 ⟨#[]⟩ :: t ∧ rulesS t = [aRule] := ⟨(NTA 0).tail, by show NTA 0 = _; kernel_rfl, by show rulesS _ = _; kernel_rfl⟩
theorem NTA_1 : ∃ B t, NTA 1 = lf 13 ⟨#[]⟩ :: B :: t ∧ blkB B = true ∧ declsS B.kids = [dA1, dA2] ∧ rulesS t = [aRule] :=
  ⟨(NTA 1).getD 1 oB, (NTA 1).tail.tail, by show NTA 1 = _; kernel_rfl, by show blkB _ = _; kernel_rfl, by show declsS _ = _; kernel_rfl, by show rulesS _ = _; kernel_rfl⟩
theorem NTA_2 : NTA 2 = [] := by show NTA 2 = _; kernel_rfl
theorem nds_ats (XW : ByteArray) (n : Nat) {k : Nat} (hk : k < 3) : ndsS ({ kind := 3, text := XW } :: (rep TPA n ++ TTA k)) = lf 3 XW :: (rep NPA n ++ NTA k) := by
  have e0 : flL [lf 3 XW] = [{ kind := 3, text := XW }] := by show flL _ = _; kernel_rfl
  have e00 : ndsS [{ kind := 3, text := XW }] = [lf 3 XW] := by show ndsS _ = _; kernel_rfl
  have e1 := fl_flat (fun _ => NPA) (fun _ => TPA) (List.replicate n 0) (fun _ _ => by show flL NPA = TPA; kernel_rfl)
  have e2 : flL (lf 3 XW :: (rep NPA n ++ NTA k)) = { kind := 3, text := XW } :: (rep TPA n ++ TTA k) := by
    show flL ([lf 3 XW] ++ (rep NPA n ++ NTA k)) = _
    rw [flL_append, flL_append, e0, fl_NTA hk]
    unfold rep
    rw [e1]
    rfl
  obtain ⟨o1, o2⟩ := nds_ok _ [({ kind := 3, text := XW } : Tok)] (Nat.le_refl _)
  rw [e00] at o1 o2
  obtain ⟨p1, p2⟩ := ok_flat (fun _ => NPA) (List.replicate n 0) (fun _ _ => by
    have := nds_ok _ TPA (Nat.le_refl _)
    rw [show ndsS TPA = NPA by show ndsS _ = _; kernel_rfl] at this
    exact this)
  obtain ⟨q1, q2⟩ := nds_ok _ (TTA k) (Nat.le_refl _)
  rw [← e2]
  refine nds_back _ (fun x hx => ?_) ?_
  · rcases List.mem_cons.1 hx with rfl | hx
    · exact o1 _ (by simp)
    · rcases List.mem_append.1 hx with hx | hx
      · exact p1 x hx
      · exact q1 x hx
  · show dpL ([lf 3 XW] ++ (rep NPA n ++ NTA k)) ≤ 32
    rw [dpL_append, dpL_append]
    unfold rep
    have : dpL (NTA k) ≤ 32 := q2
    omega
/-- The prelude of n pieces. -/
theorem trim_rep : ∀ n : Nat, (trimS (rep NPA n)).length = 4 * n - 1 ∧ (trimS (rep NPA n ++ [lf 13 ⟨#[]⟩])).length = 4 * n - 1
  | 0 => by
    refine ⟨?_, ?_⟩ <;> (show List.length _ = _; decide +kernel)
  | n + 1 => by
    have hlen : (rep NPA n).length = 4 * n := by
      unfold rep
      rw [List.length_flatMap]
      simp
      omega
    have ea : rep NPA (n + 1) = lf 13 ⟨#[]⟩ :: (nFn :: ([lf 13 ⟨#[]⟩, nBr] ++ rep NPA n)) := by rw [rep_succ]; rfl
    have eb : ∃ Y, nFn :: ([lf 13 ⟨#[]⟩, nBr] ++ rep NPA n) = Y ++ [nBr] ∧ Y.length = 4 * n + 2 := by
      cases n with
      | zero => exact ⟨[nFn, lf 13 ⟨#[]⟩], rfl, rfl⟩
      | succ m =>
        have hm : (rep NPA m).length = 4 * m := by
          unfold rep
          rw [List.length_flatMap]
          simp
          omega
        refine ⟨nFn :: ([lf 13 ⟨#[]⟩, nBr] ++ (rep NPA m ++ [lf 13 ⟨#[]⟩, nFn, lf 13 ⟨#[]⟩])), ?_, ?_⟩
        · rw [rep_snoc]; simp
        · simp [hm]; omega
    obtain ⟨Y, hY, hYl⟩ := eb
    have hw : isWh (lf 13 ⟨#[]⟩) = true := by decide +kernel
    have hn : isWh nFn = false := by decide +kernel
    have hb : isWh nBr = false := by decide +kernel
    have tA : ∀ Z : List Nd, trA (lf 13 ⟨#[]⟩ :: (nFn :: Z)) = nFn :: Z := fun Z => by
      rw [trA, if_pos hw, trA, if_neg (by rw [hn]; decide)]
    refine ⟨?_, ?_⟩
    · unfold trimS
      rw [ea, tA, hY, trZ_snoc_not _ _ hb, List.length_append, hYl]
      simp
      omega
    · unfold trimS
      rw [ea, List.cons_append, List.cons_append, tA, ← List.cons_append, hY, trZ_snoc_wh _ _ hw, trZ_snoc_not _ _ hb, List.length_append, hYl]
      simp
      omega
theorem NPA_ok : ∀ n ∈ NPA, blkB n = false ∧ semB n = false := fun n hn => by
  simp only [NPA, List.mem_cons, List.not_mem_nil, or_false] at hn
  rcases hn with rfl | rfl | rfl | rfl <;> exact ⟨by decide +kernel, by decide +kernel⟩
def DDA (k : Nat) : List DeclD := if k = 1 then [dA1, dA2] else []
theorem rules_ats (XW : ByteArray) (n : Nat) {k : Nat} (hk : k < 3) : ∃ PR, PR.length = 4 * n - 1 ∧ rulesS (lf 3 XW :: (rep NPA n ++ NTA k)) = ⟨lowS XW, PR, decide (k = 1), DDA k⟩ :: (if k = 2 then [] else [aRule]) := by
  have h3 : ((lf 3 XW).tok.kind == 3) = true := by show ((3 : Int) == 3) = true; rfl
  have hp : ∀ m ∈ rep NPA n, blkB m = false ∧ semB m = false := fun m hm => NPA_ok m (rep_mem hm)
  rcases lt3 hk with rfl | rfl | rfl
  · obtain ⟨t, e1, e2⟩ := NTA_0
    refine ⟨trimS (rep NPA n), (trim_rep n).1, ?_⟩
    rw [e1, rulesS_atsem h3 hp (by decide +kernel) (by decide +kernel), e2]
    rfl
  · obtain ⟨B, t, e1, e2, e3, e4⟩ := NTA_1
    refine ⟨trimS (rep NPA n ++ [lf 13 ⟨#[]⟩]), (trim_rep n).2, ?_⟩
    have e5 : lf 3 XW :: (rep NPA n ++ NTA 1) = lf 3 XW :: ((rep NPA n ++ [lf 13 ⟨#[]⟩]) ++ B :: t) := by rw [e1]; simp
    rw [e5, rulesS_atblk h3 (fun m hm => by
      rcases List.mem_append.1 hm with hm | hm
      · exact hp m hm
      · rw [List.mem_singleton] at hm
        rw [hm]
        exact ⟨by decide +kernel, by decide +kernel⟩) e2, e3, e4]
    rfl
  · refine ⟨trimS (rep NPA n), (trim_rep n).1, ?_⟩
    rw [NTA_2, List.append_nil, rulesS_atend h3 hp]
    rfl
theorem toks_ats (wl : List Int) (n : Nat) {k : Nat} (hk : k < 3) (hl : ∀ x ∈ wl, 97 ≤ x ∧ x ≤ 122) : toks (64 :: (88 :: wl ++ (rep pA n ++ tlA k))) = { kind := 3, text := runesBytes (88 :: wl) } :: (rep TPA n ++ TTA k) := by
  have hs : Stops (rep pA n ++ tlA k) := by
    cases n with
    | zero =>
      rcases lt3 hk with rfl | rfl | rfl
      · exact stops_of (x := 59) (R := aX) (.inl (by decide))
      · exact stops_of (x := 32) (R := _) (.inr (.inl rfl))
      · exact stops_nil
    | succ n =>
      rw [rep_succ]
      exact stops_of (x := 32) (R := _) (.inr (.inl rfl))
  rw [toks_at (by decide) (fun x hx => by
    unfold sName
    rw [show sLetter x = true from decide_eq_true (.inl (hl x hx))]
    rfl) hs, toks_repA]
  rfl
theorem low_XW (W : ByteArray) (hl : ∀ x ∈ nums W, 97 ≤ x ∧ x ≤ 122) : runesBytes (88 :: nums W) = ⟨#[88]⟩ ++ W ∧ lowS (⟨#[88]⟩ ++ W) = ⟨#[120]⟩ ++ W := by
  have e1 : nums (⟨#[88]⟩ ++ W) = 88 :: nums W := by rw [nums_append, show nums ⟨#[88]⟩ = [88] by decide +kernel]; rfl
  have e2 : nums (⟨#[120]⟩ ++ W) = 120 :: nums W := by rw [nums_append, show nums ⟨#[120]⟩ = [120] by decide +kernel]; rfl
  refine ⟨?_, ?_⟩
  · rw [← e1]
    refine runes_nums _ (fun x hx => ?_)
    rw [e1] at hx
    rcases List.mem_cons.1 hx with rfl | hx
    · decide
    · have := hl x hx; omega
  · unfold lowS
    rw [e1, List.map_cons]
    have e3 : (nums W).map lowI = nums W := by
      conv => rhs; rw [← List.map_id (nums W)]
      refine List.map_congr_left fun x hx => ?_
      have := hl x hx
      unfold lowI
      rw [if_neg (by omega)]
      rfl
    rw [e3, show lowI 88 = 120 by decide, ← e2, str_nums]
def txA (n : Nat) : ByteArray := (List.replicate n 0).foldl (fun s _ => s ++ pAB) ⟨#[]⟩
theorem txA_succ (n : Nat) : txA (n + 1) = txA n ++ pAB := by
  unfold txA
  rw [List.replicate_succ', List.foldl_append]
  rfl
theorem nums_txA : ∀ n, nums (txA n) = rep pA n
  | 0 => by rw [rep_zero]; show nums ⟨#[]⟩ = []; decide +kernel
  | n + 1 => by rw [txA_succ, nums_append, nums_txA n, rep_snoc, show nums pAB = pA by decide +kernel]
theorem txA_size : ∀ n, (txA n).size = 11 * n
  | 0 => rfl
  | n + 1 => by
    rw [txA_succ, ByteArray.size_append, txA_size n]
    show _ + 11 = _
    omega
/-- The rules of a text of RulesAts. -/
theorem rules_txA (W t : ByteArray) (n : Nat) {k : Nat} (hk : k < 3) (hl : ∀ x ∈ nums W, 97 ≤ x ∧ x ≤ 122) (ht : nums t = [64, 88] ++ (nums W ++ (rep pA n ++ tlA k))) :
    ∃ PR, PR.length = 4 * n - 1 ∧ rulesS (ndsS (toks (readS t))) = ⟨⟨#[120]⟩ ++ W, PR, decide (k = 1), DDA k⟩ :: (if k = 2 then [] else [aRule]) := by
  obtain ⟨r1, r2⟩ := low_XW W hl
  obtain ⟨PR, p1, p2⟩ := rules_ats (⟨#[88]⟩ ++ W) n hk
  refine ⟨PR, p1, ?_⟩
  rw [ascii_read, ht]
  · show rulesS (ndsS (toks (64 :: (88 :: nums W ++ (rep pA n ++ tlA k))))) = _
    rw [toks_ats _ n hk hl, r1, nds_ats _ n hk, p2, r2]
  · intro x hx
    rw [ht] at hx
    rcases List.mem_append.1 hx with hx | hx
    · have : x = 64 ∨ x = 88 := by simpa using hx
      omega
    rcases List.mem_append.1 hx with hx | hx
    · have := hl x hx; omega
    rcases List.mem_append.1 hx with hx | hx
    · have h := rep_mem hx
      have : ∀ x ∈ pA, 1 ≤ x ∧ x < 128 ∧ x ≠ 12 ∧ x ≠ 13 := by decide
      exact this x h
    · have : ∀ k : Fin 3, ∀ x ∈ tlA k.val, 1 ≤ x ∧ x < 128 ∧ x ≠ 12 ∧ x ≠ 13 := by decide +kernel
      exact this ⟨k, hk⟩ x hx
end Go.Proofs.YtfggpenfdfklkaaGreat
