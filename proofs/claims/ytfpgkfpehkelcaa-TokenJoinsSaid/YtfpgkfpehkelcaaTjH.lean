
import Derived.Test.YtfpgkfpehkelcaaTjG
namespace Go.Proofs.Ytfpgkfpehkelcaa
open Go.RowKit
theorem toksj_le : ∀ (n : Nat) (r : List Int), r.length ≤ n → (toks r).length ≤ n
  | 0, r, h => by
    obtain rfl : r = [] := List.eq_nil_of_length_eq_zero (by omega)
    rw [toks_eq]; decide
  | n + 1, r, h => by
    rw [toks_eq]
    unfold toksC
    split
    · simp
    · rename_i e
      have hlt := tokT_lt (ne_len e)
      have hcm := cm_len r
      have := toksj_le n (tokT (cm r)).2 (by omega)
      simp; omega
theorem toksj_size (s : ByteArray) : (toks (readS s)).length ≤ s.size := Nat.le_trans (toksj_le _ _ (Nat.le_refl _)) (readS_length s)
theorem white_first {Y : List Int} (h : ∀ t l, toks Y = t :: l → t.kind ≠ 13) : sWhite (ah Y 0) = false := by
  by_cases c : sWhite (ah Y 0) = true
  · exfalso
    cases Y with
    | nil => exact absurd c (by decide)
    | cons y Y =>
      have e0 : ah (y :: Y) 0 = y := rfl
      have p : pre [47, 42] (y :: Y) = false := by
        cases hp : pre [47, 42] (y :: Y) with
        | false => rfl
        | true =>
          have : y = 47 := by
            have := List.isPrefixOf_iff_prefix.1 hp
            exact (List.cons_prefix_cons.1 this).1.symm
          rw [e0, this] at c
          exact absurd c (by decide)
      have e1 : toks (y :: Y) = (tokT (y :: Y)).1 :: toks (tokT (y :: Y)).2 := by rw [toks_eq, cm_no p, toksC_cons]
      refine h _ _ e1 ?_
      unfold tokT
      rw [if_pos c]
  · simpa using c
theorem RdT.take {w : World} {g c : Nat} {x y : List Tok} (h : RdT w (.slice (some ⟨g, 0, none⟩) (x ++ y).length c) (x ++ y)) : RdT w (.slice (some ⟨g, 0, none⟩) x.length c) x := by
  obtain ⟨a', c', he, hle, hc⟩ := h
  injection he with e1 e2 e3
  subst e1; subst e3
  rw [List.length_append] at hle hc
  refine ⟨_, _, rfl, by omega, fun hp => ?_⟩
  obtain ⟨b, hb, hlt, hcc⟩ := hc (by omega)
  refine ⟨b, hb, hlt, fun j u hu => hcc j u ?_⟩
  rw [List.flatMap_append, List.getElem?_append_left (List.getElem?_eq_some_iff.1 hu).1]
  exact hu
theorem flat_one (l : List Tok) : ∀ u ∈ l.flatMap tcells, u.oneCell' = true := by
  intro u hu
  obtain ⟨t, _, ht⟩ := List.mem_flatMap.1 hu
  exact tcells_one t u ht
theorem flat_len (l : List Tok) : (l.flatMap tcells).length = l.length * 6 := by
  induction l with
  | nil => rfl
  | cons t l ih => rw [List.flatMap_cons, List.length_append, tcells_len, ih, List.length_cons]; omega
theorem below_drewNj (w : World) (n : Nat) : Below w.heap.size w (w.drewN n) := ⟨rfl, rfl, rfl, Nat.le_refl _, fun _ _ => rfl⟩
theorem grown_below {B : Nat} {w w' : World} {row : Option Nat} (h : w.grownBy w' row) (hrow : ∀ k, row = some k → B ≤ k) (hB : B ≤ w.heap.size) : Below B w w' :=
  ⟨h.os, h.tape, h.output, h.size, fun i hi => h.block i (Nat.lt_of_lt_of_le hi hB) (fun e => absurd (hrow i e.symm) (Nat.not_le.2 hi))⟩
theorem TokL.kept {B : Nat} {w w' : World} {v : Value} {l : List Tok} {row : Option Nat} (h : TokL B w v l) (hg : w.grownBy w' row) (hrow : ∀ k, row = some k → k < B) : TokL B w' v l := by
  refine World.ownsRow.kept h hg ?_
  cases hv : v.ownBlock with
  | none => exact .inl rfl
  | some k =>
    refine .inr fun e => ?_
    have := hrow k e.symm
    have := (World.ownsRow.lt h k hv).1
    omega
theorem TokL.more {B : Nat} {w : World} {v : Value} {l m : List Tok} (h : w.ownsRow B 26 6 v (l.length + m.length) (l.flatMap tcells ++ m.flatMap tcells)) : TokL B w v (l ++ m) := by
  unfold TokL
  rw [List.length_append, List.flatMap_append]
  exact h
set_option maxRecDepth 100000 in
set_option maxHeartbeats 3200000 in
theorem joins_at (w : World) (a : ByteArray) (b : ByteArray) (h1 : ¬ (500 : Int) < (a.size : Int)) (h2 : ¬ (500 : Int) < (b.size : Int)) :
    Calls Try.prog 3 #[.string a, .string b] w fun e w' => e = .returned (.bool true) ∧ Below w.heap.size w w' := by
  have e3 : readS (a ++ ⟨#[32]⟩) = readS a ++ [32] := readS_sp a
  have l1 := toksj_size a
  have l2 := toksj_size b
  have l3 := toksj_size (a ++ ⟨#[32]⟩)
  rw [e3] at l3
  have s3 : (a ++ ⟨#[32]⟩ : ByteArray).size = a.size + 1 := app_size _ _
  rw [s3] at l3
  go_enter Try.func3, Try.ntmps3
  go_wp2_with fail
  refine (allT_any a _ (by omega)).mono ?_
  rintro e w1 ⟨v1, rfl, hr1, hb1⟩
  go_wp2_with fail
  refine (allTO_any b _ (by omega)).mono ?_
  rintro e w2 ⟨v2, rfl, hr2, hb2⟩
  go_wp2_with fail
  refine (allTO_any _ _ (by rw [s3]; omega)).mono ?_
  rintro e w3 ⟨v3, rfl, hr3, hb3⟩
  rw [e3] at hr3
  have hB := below_seq (below_seq hb1 hb2) hb3
  have q2 := hr2.below hb3
  have q1 := hr1.below (below_seq hb2 hb3)
  obtain ⟨i0, hi, hz0, hz1, hz2⟩ := info_parts info_tok
  by_cases hL : (toks (readS a ++ [32])).length = (toks (readS a)).length + 1
  · have hz := joins_white hL
    have hj := fun Y (hY : sWhite (ah Y 0) = false) => joins hY _ (readS a) (Nat.le_refl _) hL
    have HJ := Lib.hid hj
    clear hj
    rw [hz] at hr3
    have hzd := hr3.rd
    rcases hr3.val with ⟨_, hn⟩ | ⟨g, c, rfl, hg, hgl⟩
    · simp at hn
    have hzx := hzd.take
    have hcz : ∀ j u, ((toks (readS a) ++ [({ kind := 13 } : Tok)]).flatMap tcells)[j]? = some u → w3.cell? ⟨g, j, none⟩ = some u := by
      obtain ⟨a', c', he, _, hc⟩ := hzd
      injection he with e1 e2 e3
      subst e1
      obtain ⟨b', hb', _, hcc⟩ := hc (by simp)
      injection hb' with hb'
      injection hb' with hb'
      subst hb'
      exact hcc
    have ca := cellsAt_of hcz (k := (toks (readS a)).length) (by simp)
    rw [List.getElem_concat_length rfl] at ca
    obtain ⟨p0, p1, p2, p3, p4, p5⟩ := ca
    have hlec : (toks (readS a)).length + 1 ≤ c := by
      obtain ⟨a', c', he, hle, _⟩ := hzd
      injection he with e1 e2 e3
      subst e3
      simpa using hle
    have HCZ := Lib.hid hcz
    clear hcz hzd
    have hzl : (toks (readS a) ++ [({ kind := 13 } : Tok)]).length = (toks (readS a)).length + 1 := by simp
    rw [hzl]
    replace p0 : w3.cell? ⟨g, (toks (readS a)).length * 6, none⟩ = some (.int .i64 13) := p0
    clear p1 p2 p3 p4 p5
    have Q1 := Lib.hid q1
    have HZX := Lib.hid hzx
    rw [hzl] at hr3
    have HR3 := Lib.hid hr3
    clear hzx hr3 hr1 hr2
    obtain ⟨a1, c1, rfl, hle1, _⟩ := q1
    clear hz hL
    go_wp2_with fail
    refine (tokens_same _ _ _ _ HZX.out Q1.out (by omega)).mono ?_
    rintro e w4 ⟨rfl, n4, rfl⟩
    have hb4 : Below w3.heap.size w3 (w3.drewN n4) := ⟨rfl, rfl, rfl, Nat.le_refl _, fun _ _ => rfl⟩
    have q4 := q2.below hb4
    have HO4 := Lib.hid (HR3.out.below hb4)
    have hB4 := below_seq hB hb4
    have hgl4 : g < (w3.drewN n4).heap.size := hgl
    have hw24 : w2.heap.size ≤ (w3.drewN n4).heap.size := hb3.size
    generalize w3.drewN n4 = w4 at *
    clear HZX Q1 HR3 q2 p0 HCZ hb4
    have s5 : (a ++ ⟨#[32]⟩ ++ b : ByteArray).size = a.size + 1 + b.size := by rw [app_size, s3]
    have e5 : ¬ (2 < b.size ∧ (b.get! 0).toNat = 239) → readS (a ++ ⟨#[32]⟩ ++ b) = readS a ++ 32 :: readS b := readS_join a b
    have hww : w.heap.size ≤ w2.heap.size := Nat.le_trans hb1.size hb2.size
    by_cases h13 : ∃ t l, toks (readS b) = t :: l ∧ t.kind = 13
    · obtain ⟨t, l, hy, ht⟩ := h13
      rw [hy] at q4
      have qd := q4.rd
      rcases q4.val with ⟨_, hn⟩ | ⟨gy, cy, rfl, _, _⟩
      · simp at hn
      obtain ⟨a', c', he, _, hc⟩ := qd
      injection he with e1 _ e3
      subst e1
      obtain ⟨b', hb', _, hcc⟩ := hc (by simp)
      injection hb' with hb'
      injection hb' with hb'
      subst hb'
      have py : w4.cell? ⟨gy, 0, none⟩ = some (.int .i64 t.kind) := hcc 0 _ rfl
      rw [ht] at py
      clear hcc hc HO4 HJ e5
      rw [List.length_cons]
      generalize l.length = ll at *
      go_wp2_with (go_at_call 7; (with_reducible refine (awake_any _).mono ?_); rintro e w9 ⟨rfl, hb9⟩)
      go_ret
      exact ⟨rfl, below_seq hB4 hb9⟩
    · have hj := HJ.out (readS b) (white_first fun t l he hk => h13 ⟨t, l, he, hk⟩)
      have hE : ¬ (2 < b.size ∧ (b.get! 0).toNat = 239) → toks (readS (a ++ ⟨#[32]⟩ ++ b)) = (toks (readS a) ++ [({ kind := 13 } : Tok)]) ++ toks (readS b) := by
        intro h
        rw [e5 h, hj, List.append_assoc]
        rfl
      clear hj HJ e5
      generalize toks (readS b) = YL at *
      have qd := q4.rd
      by_cases h0 : 0 < b.size
      · have hg0 : (b.get! 0).toNat = (b[0]'h0).toNat := by
          show (b.data[0]!).toNat = (b.data[0]'h0).toNat
          rw [getElem!_pos b.data 0 h0]
        rcases q4.val with ⟨rfl, rfl⟩ | ⟨gy, cy, rfl, hgy, hgyl⟩
        · simp only [List.append_nil] at hE
          have HE := Lib.hid hE
          clear hE
          go_wp2_with (first | (go_at_call 7; (with_reducible refine (awake_any _).mono ?_); rintro e w9 ⟨rfl, hb9⟩) | (go_at_call 8; refine (allTO_any _ _ (by rw [s5]; omega)).mono ?_; rintro e w5 ⟨v5, rfl, hr5, hb5⟩; have ho5 := HO4.out.below (hb5); rw [HE.out (by first | omega | (have hq := (‹((((b[0]'h0).toNat : Int) == 32) = false ∧ (((b[0]'h0).toNat : Int) == 47) = false) ∧ (((b[0]'h0).toNat : Int) == 239) = false› : _).2; simp only [beq_eq_false_iff_ne, ne_eq] at hq; omega))] at hr5; have hb45 := below_seq hB4 hb5; have ho6d := ho5.rd; have hr6d := hr5.rd; have hb46 := hb45) | (go_at_call 9; refine (tokens_same _ _ _ _ hr6d ho6d (by simp; omega)).mono ?_; rintro e w7 ⟨rfl, n7, rfl⟩))
          all_goals go_ret
          all_goals first | exact ⟨rfl, below_seq hB4 hb9⟩ | exact ⟨rfl, below_seq (below_seq hb46 (below_drewNj _ _)) hb9⟩
        · have hyc : ∀ w5, Below w4.heap.size w4 w5 → ∀ j u, (YL.flatMap tcells)[j]? = some u → w5.cell? ((⟨gy, 0, none⟩ : Addr).add j) = some u := by
            intro w5 hb5 j u hu
            rw [hb5.cell (p := (⟨gy, 0, none⟩ : Addr).add j) (by rw [Addr.add_lit]; exact hgyl), Addr.add_lit, Nat.zero_add]
            obtain ⟨a', c', he, _, hc⟩ := qd
            injection he with e1 _ _
            subst e1
            obtain ⟨b', hb', _, hcc⟩ := hc (by cases YL with | nil => simp at hu | cons _ _ => simp)
            injection hb' with hb'
            injection hb' with hb'
            subst hb'
            exact hcc j u hu
          cases YL with
          | nil =>
            simp only [List.append_nil] at hE
            have HE := Lib.hid hE
            clear hE
            rw [List.length_nil]
            go_wp2_with (first | (go_at_call 7; (with_reducible refine (awake_any _).mono ?_); rintro e w9 ⟨rfl, hb9⟩) | (go_at_call 8; refine (allTO_any _ _ (by rw [s5]; omega)).mono ?_; rintro e w5 ⟨v5, rfl, hr5, hb5⟩; have ho5 := HO4.out.below (hb5); rw [HE.out (by first | omega | (have hq := (‹((((b[0]'h0).toNat : Int) == 32) = false ∧ (((b[0]'h0).toNat : Int) == 47) = false) ∧ (((b[0]'h0).toNat : Int) == 239) = false› : _).2; simp only [beq_eq_false_iff_ne, ne_eq] at hq; omega))] at hr5; have hb45 := below_seq hB4 hb5; have ho6d := ho5.rd; have hr6d := hr5.rd; have hb46 := hb45) | (go_at_call 9; refine (tokens_same _ _ _ _ hr6d ho6d (by simp; omega)).mono ?_; rintro e w7 ⟨rfl, n7, rfl⟩))
            all_goals go_ret
            all_goals first | exact ⟨rfl, below_seq hB4 hb9⟩ | exact ⟨rfl, below_seq (below_seq hb46 (below_drewNj _ _)) hb9⟩
          | cons t l =>
            have HE := Lib.hid hE
            clear hE
            have ht : (t.kind == 13) = false := by simpa using fun hk => h13 ⟨t, l, rfl, hk⟩
            have py : w4.cell? ⟨gy, 0, none⟩ = some (.int .i64 t.kind) := by
              have := hyc w4 (Below.refl _ _) 0 _ (by rfl)
              rwa [Addr.add_lit] at this
            have HYC := Lib.hid hyc
            clear hyc
            have HM1 := Lib.hid (show (toks (readS a) ++ [({ kind := 13 } : Tok)]).length + (t :: l).length ≤ maxLen by rw [hzl]; unfold maxLen; omega)
            have HM2 := Lib.hid (show ((toks (readS a) ++ [({ kind := 13 } : Tok)]).length + (t :: l).length) * 40 ≤ 140737488355328 by rw [hzl]; omega)
            have HM3 := Lib.hid (show (toks (readS a) ++ [({ kind := 13 } : Tok)] ++ t :: l).length ≤ 1000000000 by rw [List.length_append, hzl]; omega)
            rw [List.length_cons]
            go_wp2_with (first | (go_at_call 7; (with_reducible refine (awake_any _).mono ?_); rintro e w9 ⟨rfl, hb9⟩) | (go_at_call 8; refine (allTO_any _ _ (by rw [s5]; omega)).mono ?_; rintro e w5 ⟨v5, rfl, hr5, hb5⟩; have ho5 := HO4.out.below (hb5); rw [HE.out (by first | omega | (have hq := (‹((((b[0]'h0).toNat : Int) == 32) = false ∧ (((b[0]'h0).toNat : Int) == 47) = false) ∧ (((b[0]'h0).toNat : Int) == 239) = false› : _).2; simp only [beq_eq_false_iff_ne, ne_eq] at hq; omega))] at hr5; have hb45 := below_seq hB4 hb5) | (at_builtin; refine wpList_append_own_at _ rfl _ _ 23 rfl w2.heap.size 26 i0 (.agg #[.int .i64 0, .string ⟨#[]⟩, .int .i64 0, .bool false, .bool false, .bool false]) 6 40 Try.underlying23 hi hz0 hz1 hz2 rfl (by decide) (.slice (some ⟨g, 0, none⟩) ((toks (readS a)).length + 1) c) _ _ rfl ho5 ⟨gy, 0, none⟩ (t :: l : List Tok).length cy ((t :: l : List Tok).flatMap tcells) rfl (flat_len _) (HYC.out _ hb5) (flat_one _) HM1.out HM2.out (Nat.le_trans hw24 hb5.size) ?_; intro v' w6 ho6 hg6 _ _; have ho6d := (TokL.more ho6).rd; have hr6d := (hr5.kept hg6 (fun k hk => by have e : g = k := (by simpa [Value.ownBlock] using hk); omega)).rd; have hb46 := hb45.trans (grown_below (B := w.heap.size) hg6 (fun k hk => by have e : g = k := (by simpa [Value.ownBlock] using hk); omega) (by have := hb45.size; omega))) | (go_at_call 9; refine (tokens_same _ _ _ _ hr6d ho6d HM3.out).mono ?_; rintro e w7 ⟨rfl, n7, rfl⟩))
            all_goals go_ret
            all_goals first | exact ⟨rfl, below_seq hB4 hb9⟩ | exact ⟨rfl, below_seq (below_seq hb46 (below_drewNj _ _)) hb9⟩
      · have hbz : (b.size : Int) = 0 := by omega
        have hyl : YL = [] := List.eq_nil_of_length_eq_zero (by omega)
        subst hyl
        simp only [List.append_nil] at hE
        have HE := Lib.hid hE
        clear hE
        rcases q4.val with ⟨rfl, _⟩ | ⟨gy, cy, rfl, hgy, hgyl⟩
        · skip
          go_wp2_with (first | (go_at_call 7; (with_reducible refine (awake_any _).mono ?_); rintro e w9 ⟨rfl, hb9⟩) | (go_at_call 8; refine (allTO_any _ _ (by rw [s5]; omega)).mono ?_; rintro e w5 ⟨v5, rfl, hr5, hb5⟩; have ho5 := HO4.out.below (hb5); rw [HE.out (by first | omega | (have hq := (‹((((b[0]'h0).toNat : Int) == 32) = false ∧ (((b[0]'h0).toNat : Int) == 47) = false) ∧ (((b[0]'h0).toNat : Int) == 239) = false› : _).2; simp only [beq_eq_false_iff_ne, ne_eq] at hq; omega))] at hr5; have hb45 := below_seq hB4 hb5; have ho6d := ho5.rd; have hr6d := hr5.rd; have hb46 := hb45) | (go_at_call 9; refine (tokens_same _ _ _ _ hr6d ho6d (by simp; omega)).mono ?_; rintro e w7 ⟨rfl, n7, rfl⟩))
          all_goals go_ret
          all_goals first | exact ⟨rfl, below_seq hB4 hb9⟩ | exact ⟨rfl, below_seq (below_seq hb46 (below_drewNj _ _)) hb9⟩
        · have hyc : ∀ w5, Below w4.heap.size w4 w5 → ∀ j u, (([] : List Tok).flatMap tcells)[j]? = some u → w5.cell? ((⟨gy, 0, none⟩ : Addr).add j) = some u := by
            intro w5 hb5 j u hu
            simp at hu
          rw [List.length_nil]
          go_wp2_with (first | (go_at_call 7; (with_reducible refine (awake_any _).mono ?_); rintro e w9 ⟨rfl, hb9⟩) | (go_at_call 8; refine (allTO_any _ _ (by rw [s5]; omega)).mono ?_; rintro e w5 ⟨v5, rfl, hr5, hb5⟩; have ho5 := HO4.out.below (hb5); rw [HE.out (by first | omega | (have hq := (‹((((b[0]'h0).toNat : Int) == 32) = false ∧ (((b[0]'h0).toNat : Int) == 47) = false) ∧ (((b[0]'h0).toNat : Int) == 239) = false› : _).2; simp only [beq_eq_false_iff_ne, ne_eq] at hq; omega))] at hr5; have hb45 := below_seq hB4 hb5; have ho6d := ho5.rd; have hr6d := hr5.rd; have hb46 := hb45) | (go_at_call 9; refine (tokens_same _ _ _ _ hr6d ho6d (by simp; omega)).mono ?_; rintro e w7 ⟨rfl, n7, rfl⟩))
          all_goals go_ret
          all_goals first | exact ⟨rfl, below_seq hB4 hb9⟩ | exact ⟨rfl, below_seq (below_seq hb46 (below_drewNj _ _)) hb9⟩
  · have hr1' := q1
    obtain ⟨a1, c1, rfl, hle1, _⟩ := hr1'
    have hne : ¬ ((toks (readS a ++ [32])).length : Int) = ((toks (readS a)).length : Int) + 1 := by omega
    rcases hr3.val with ⟨rfl, hn⟩ | ⟨g, c, rfl, hg, hgl⟩
    · have hne0 : ¬ (0 : Int) = ((toks (readS a)).length : Int) + 1 := by omega
      generalize (toks (readS a)).length = n1 at *
      go_wp2_with (go_at_call 7; (with_reducible refine (awake_any _).mono ?_); rintro e w4 ⟨rfl, hb4⟩)
      go_ret
      exact ⟨rfl, below_seq hB hb4⟩
    · generalize (toks (readS a)).length = n1 at *
      generalize (toks (readS a ++ [32])).length = n3 at *
      go_wp2_with (go_at_call 7; (with_reducible refine (awake_any _).mono ?_); rintro e w4 ⟨rfl, hb4⟩)
      go_ret
      exact ⟨rfl, below_seq hB hb4⟩
theorem joins_many (w : World) (a b : ByteArray) (h : (500 : Int) < (a.size : Int) ∨ (500 : Int) < (b.size : Int)) :
    Calls Try.prog 3 #[.string a, .string b] w fun e w' => e = .returned (.bool true) ∧ Below w.heap.size w w' := by
  by_cases h1 : (500 : Int) < (a.size : Int)
  · clear h
    go_enter Try.func3, Try.ntmps3
    go_wp2_with (go_at_call 7; (with_reducible refine (awake_any _).mono ?_); rintro e w9 ⟨rfl, hb9⟩)
    go_ret
    exact ⟨rfl, hb9⟩
  · have h2 : (500 : Int) < (b.size : Int) := h.resolve_left h1
    clear h
    go_enter Try.func3, Try.ntmps3
    go_wp2_with (go_at_call 7; (with_reducible refine (awake_any _).mono ?_); rintro e w9 ⟨rfl, hb9⟩)
    go_ret
    exact ⟨rfl, hb9⟩
theorem TokenJoins_any (w : World) (a : ByteArray) (_ha : a.size ≤ 9223372036854775807) (b : ByteArray) (_hb : b.size ≤ 9223372036854775807) :
    Calls Try.prog 3 #[.string a, .string b] w fun e w' => e = .returned (.bool true) ∧ Below w.heap.size w w' := by
  by_cases h1 : (500 : Int) < (a.size : Int)
  · exact joins_many w a b (.inl h1)
  · by_cases h2 : (500 : Int) < (b.size : Int)
    · exact joins_many w a b (.inr h2)
    · exact joins_at w a b h1 h2
end Go.Proofs.Ytfpgkfpehkelcaa
