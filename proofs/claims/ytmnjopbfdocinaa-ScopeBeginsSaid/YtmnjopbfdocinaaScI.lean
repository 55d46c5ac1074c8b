
import Derived.Test.YtmnjopbfdocinaaScH
import Derived.Test.YtmnjopbfdocinaaRkI
namespace Go.Proofs.Ytmnjopbfdocinaa
open Go.RowKit
/-! scope: the law's awake. -/
deriving instance DecidableEq for CoD
theorem MadeC.beg {R : List CoD} {w w' : World} {e : Ending} (h : MadeC R w e w') : BegPost R w e w' := by
  obtain ⟨g, cap, he, ho, _, hb⟩ := h
  exact ⟨_, he, ho.rd, hb⟩
theorem reset_beg {w : World} {v vs : Value} {s R : List CoD} {sib : List Int} (h : RdSt w v s) (hs : s.length ≤ 100000000) (hv : Rd .i64 w vs sib) (hvl : sib.length ≤ 100000000) (of n : Int) (nm : ByteArray) (hR : resetD s of sib nm n false false = R) :
    Calls Try.prog 7 #[v, .int .i64 of, vs, .agg #[.string nm, .int .i64 n, .bool false, .bool false]] w (BegPost R w) := by
  subst hR
  exact (reset_any h hs hv hvl of n nm false false).mono fun _ _ h => h.beg
theorem add_beg {w : World} {v : Value} {s R : List CoD} (h : RdSt w v s) (hs : s.length ≤ 100000000) (of n : Int) (nm : ByteArray) (ha : -2147483648 ≤ numD s of nm ∧ numD s of nm ≤ 2147483647) (hn : -1000000000000 ≤ n ∧ n ≤ 1000000000000) (hR : addD s of nm n = R) :
    Calls Try.prog 8 #[v, .int .i64 of, .agg #[.string nm, .int .i64 n, .bool false, .bool false]] w (BegPost R w) := by
  subst hR
  exact (add_any h hs of n nm false false ha hn).mono fun _ _ h => h.beg
theorem put_beg {w : World} {v : Value} {s R : List CoD} (h : RdSt w v s) (hs : s.length ≤ 100000000) (of n : Int) (nm : ByteArray) (hR : putD s of nm n = R) :
    Calls Try.prog 10 #[v, .int .i64 of, .agg #[.string nm, .int .i64 n, .bool false, .bool false]] w (BegPost R w) := by
  subst hR
  exact (put_any h hs of n nm false false).mono fun _ _ h => h.beg
theorem begin_beg {w : World} {vp vs vl vb : Value} {p s l R : List CoD} (hp : RdSt w vp p) (hs : RdSt w vs s) (hl : RdSt w vl l) (hpl : p.length ≤ 10000000) (hsl : s.length ≤ 10000000) (hll : l.length ≤ 10000000) (hok : ∀ c ∈ p, OkC c) (hok2 : ∀ c ∈ s, OkC c) (hok3 : ∀ c ∈ l, OkC c) (hR : beginD p s l = R) :
    Calls Try.prog 18 #[vp, vs, vl, vb] w (BegPost R w) := by
  subst hR
  exact begin_any hp hs hl hpl hsl hll hok hok2 hok3
theorem value_eq {w : World} {v : Value} {s : List CoD} (h : RdSt w v s) (hs : s.length ≤ 100000000) (nm : ByteArray) (n : Int) (ok : Bool) (hR : valueD s nm = (n, ok)) :
    Calls Try.prog 9 #[v, .string nm] w fun e w' => e = .returned (.tuple #[.int .i64 n, .bool ok]) ∧ w = w' := by
  have h1 := value_any h hs nm
  rw [hR] at h1
  exact h1
theorem values_eq {w : World} {v : Value} {s : List CoD} (h : RdSt w v s) (hs : s.length ≤ 100000000) (nm : ByteArray) (R : List Int) (hR : valuesD s nm = R) :
    Calls Try.prog 13 #[v, .string nm] w (IntsPost R w) := by
  subst hR
  exact values_any h hs nm
theorem rd_two (W : World) (x y : Int) : Rd .i64 (W.alloc (.cells #[.int .i64 x, .int .i64 y] 3)) (.slice (some ⟨W.heap.size, 0, none⟩) 2 2) [x, y] := by
  have h := CB.new (T := 3) W #[.int .i64 x, .int .i64 y]
  refine ⟨_, 2, rfl, Nat.le_refl _, fun _ => ⟨W.heap.size, 0, rfl, h.lt, fun j hj => ?_⟩⟩
  rw [Nat.zero_add, h.cell]
  match j, hj with
  | 0, _ => rfl
  | 1, _ => rfl
theorem rd_one (W : World) (x : Int) : Rd .i64 (W.alloc (.cells #[.int .i64 x] 3)) (.slice (some ⟨W.heap.size, 0, none⟩) 1 1) [x] := by
  have h := CB.new (T := 3) W #[.int .i64 x]
  refine ⟨_, 1, rfl, Nat.le_refl _, fun _ => ⟨W.heap.size, 0, rfl, h.lt, fun j hj => ?_⟩⟩
  rw [Nat.zero_add, h.cell]
  match j, hj with
  | 0, _ => rfl
theorem rd_nil0 (W : World) : Rd .i64 W (.slice none 0 0) [] := ⟨none, 0, rfl, Nat.le_refl _, fun hh => absurd hh (Nat.lt_irrefl 0)⟩
theorem wf_small {x : Int} (h : -1000000000000 ≤ x ∧ x ≤ 1000000000000) : (Lit.int .i64 x).wf = true := by
  have e1 : IntKind.i64.min = -9223372036854775808 := by decide
  have e2 : IntKind.i64.max = 9223372036854775807 := by decide
  simp only [Lit.wf, e1, e2, Bool.and_eq_true, decide_eq_true_eq]
  omega
theorem okC_small {c : CoD} (h1 : c.nm.size ≤ 1000) (h2 : -1000000000000 ≤ c.of ∧ c.of ≤ 1000000000000) (h3 : -1000000000000 ≤ c.n ∧ c.n ≤ 1000000000000) : OkC c :=
  ⟨⟨by unfold maxLen; omega, wf_small h2⟩, wf_small h3⟩
theorem aw_pure1 : resetD [] 1 [] ⟨#[97]⟩ 4 false false = [⟨⟨#[97]⟩, 1, 4, false⟩] := by decide +kernel
theorem aw_pure2 : resetD [⟨⟨#[97]⟩, 1, 4, false⟩] 2 [] ⟨#[97]⟩ 0 false false = [⟨⟨#[97]⟩, 1, 4, false⟩, ⟨⟨#[97]⟩, 2, 0, false⟩] := by decide +kernel
theorem aw_pure3 : resetD [⟨⟨#[97]⟩, 1, 4, false⟩, ⟨⟨#[97]⟩, 2, 0, false⟩] 3 [2] ⟨#[97]⟩ 9 false false = [⟨⟨#[97]⟩, 1, 4, false⟩, ⟨⟨#[97]⟩, 3, 9, false⟩] := by decide +kernel
theorem aw_pure4 : addD [⟨⟨#[97]⟩, 1, 4, false⟩, ⟨⟨#[97]⟩, 3, 9, false⟩] 3 ⟨#[97]⟩ (-2) = [⟨⟨#[97]⟩, 1, 4, false⟩, ⟨⟨#[97]⟩, 3, 7, false⟩] := by decide +kernel
theorem aw_pure5 : addD [⟨⟨#[97]⟩, 1, 4, false⟩, ⟨⟨#[97]⟩, 3, 7, false⟩] 3 ⟨#[98]⟩ 2147483647 = [⟨⟨#[97]⟩, 1, 4, false⟩, ⟨⟨#[97]⟩, 3, 7, false⟩, ⟨⟨#[98]⟩, 3, 2147483647, false⟩] := by decide +kernel
theorem aw_pure6 : addD [⟨⟨#[97]⟩, 1, 4, false⟩, ⟨⟨#[97]⟩, 3, 7, false⟩, ⟨⟨#[98]⟩, 3, 2147483647, false⟩] 3 ⟨#[98]⟩ 1 = [⟨⟨#[97]⟩, 1, 4, false⟩, ⟨⟨#[97]⟩, 3, 7, false⟩, ⟨⟨#[98]⟩, 3, 2147483647, false⟩] := by decide +kernel
theorem aw_pure7 : valueD [⟨⟨#[97]⟩, 1, 4, false⟩, ⟨⟨#[97]⟩, 3, 7, false⟩, ⟨⟨#[98]⟩, 3, 2147483647, false⟩] ⟨#[98]⟩ = (2147483647, true) := by decide +kernel
theorem aw_pure8 : valueD [⟨⟨#[97]⟩, 1, 4, false⟩, ⟨⟨#[97]⟩, 3, 7, false⟩, ⟨⟨#[98]⟩, 3, 2147483647, false⟩] ⟨#[99]⟩ = (0, false) := by decide +kernel
theorem aw_pure9 : valuesD [⟨⟨#[97]⟩, 1, 4, false⟩, ⟨⟨#[97]⟩, 2, 0, false⟩] ⟨#[97]⟩ = [4, 0] := by decide +kernel
theorem aw_pure10 : valuesD [⟨⟨#[97]⟩, 1, 4, false⟩, ⟨⟨#[97]⟩, 3, 7, false⟩] ⟨#[97]⟩ = [4, 7] := by decide +kernel
theorem aw_pure11 : beginD [⟨⟨#[97]⟩, 1, 4, false⟩, ⟨⟨#[97]⟩, 2, 0, false⟩] [⟨⟨#[97]⟩, 1, 4, false⟩, ⟨⟨#[97]⟩, 3, 9, false⟩] [] = [⟨⟨#[97]⟩, 1, 4, false⟩, ⟨⟨#[97]⟩, 2, 0, false⟩, ⟨⟨#[97]⟩, 3, 9, false⟩] := by decide +kernel
theorem aw_pure12 : putD [] 1 ⟨#[113]⟩ 3 = [⟨⟨#[113]⟩, 1, 3, false⟩] := by decide +kernel
theorem aw_num4 : numD [⟨⟨#[97]⟩, 1, 4, false⟩, ⟨⟨#[97]⟩, 3, 9, false⟩] 3 ⟨#[97]⟩ = 9 := by decide +kernel
theorem aw_num5 : numD [⟨⟨#[97]⟩, 1, 4, false⟩, ⟨⟨#[97]⟩, 3, 7, false⟩] 3 ⟨#[98]⟩ = 0 := by decide +kernel
theorem aw_num6 : numD [⟨⟨#[97]⟩, 1, 4, false⟩, ⟨⟨#[97]⟩, 3, 7, false⟩, ⟨⟨#[98]⟩, 3, 2147483647, false⟩] 3 ⟨#[98]⟩ = 2147483647 := by decide +kernel
theorem aw_ok2 : ∀ c ∈ ([⟨⟨#[97]⟩, 1, 4, false⟩, ⟨⟨#[97]⟩, 2, 0, false⟩] : List CoD), OkC c := by
  intro c hc
  simp only [List.mem_cons, List.not_mem_nil, or_false] at hc
  rcases hc with rfl | rfl <;> exact okC_small (by decide) (by decide) (by decide)
theorem aw_ok3 : ∀ c ∈ ([⟨⟨#[97]⟩, 1, 4, false⟩, ⟨⟨#[97]⟩, 3, 9, false⟩] : List CoD), OkC c := by
  intro c hc
  simp only [List.mem_cons, List.not_mem_nil, or_false] at hc
  rcases hc with rfl | rfl <;> exact okC_small (by decide) (by decide) (by decide)
set_option maxRecDepth 100000 in
set_option maxHeartbeats 6400000 in
theorem awake15_any (w : World) : Calls Try.prog 6 #[] w fun e w' => e = .returned (.bool true) ∧ Below w.heap.size w w' := by
  go_enter Try.func6, Try.ntmps6
  go_upto_region 2 with (go_at_call 7; go_must (refine (reset_beg (RdSt.nil _) (by decide) (rd_nil0 _) (by decide) _ _ _ aw_pure1).mono ?_); intro e w1 hq; obtain ⟨v1, he, h1, hb1⟩ := hq; subst he)
  go_upto_region 3 with (go_at_call 7; go_must (refine (reset_beg h1 (by decide) (rd_nil0 _) (by decide) _ _ _ aw_pure2).mono ?_); intro e w2 hq; obtain ⟨v2, he, h2, hb2⟩ := hq; subst he)
  have HB2 := Lib.hid (hb1.trans (hb2.mono hb1.size))
  have H2 := Lib.hid h2
  clear hb1 hb2 h1 h2
  have HA := Lib.hid (bel_new w2 (.cells #[.int .i64 2] 3))
  go_upto_region 4 with (go_at_call 7; go_must (refine (reset_beg (H2.out.below HA.out) (by decide) (rd_one w2 2) (by decide) _ _ _ aw_pure3).mono ?_); intro e w3 hq; obtain ⟨v3, he, h3, hb3⟩ := hq; subst he)
  have HB3 := Lib.hid (HA.out.trans (hb3.mono HA.out.size))
  have H3 := Lib.hid h3
  clear hb3 h3
  go_upto_region 5 with (go_at_call 8; go_must (refine (add_beg H3.out (by decide) _ _ _ (by rw [aw_num4]; decide) (by decide) aw_pure4).mono ?_); intro e w4 hq; obtain ⟨v4, he, h4, hb4⟩ := hq; subst he)
  have HB4 := Lib.hid hb4
  have H4 := Lib.hid h4
  clear hb4 h4
  go_upto_region 6 with (go_at_call 8; go_must (refine (add_beg H4.out (by decide) _ _ _ (by rw [aw_num5]; decide) (by decide) aw_pure5).mono ?_); intro e w5 hq; obtain ⟨v5, he, h5, hb5⟩ := hq; subst he)
  have HB5 := Lib.hid hb5
  have H5 := Lib.hid h5
  clear hb5 h5
  go_upto_region 7 with (go_at_call 8; go_must (refine (add_beg H5.out (by decide) _ _ _ (by rw [aw_num6]; decide) (by decide) aw_pure6).mono ?_); intro e w6 hq; obtain ⟨v6, he, h6, hb6⟩ := hq; subst he)
  have H6 := Lib.hid h6
  have H2' := Lib.hid ((((H2.out.below HB3.out).below HB4.out).below HB5.out).below hb6)
  have H3' := Lib.hid (((H3.out.below HB4.out).below HB5.out).below hb6)
  have H4' := Lib.hid ((H4.out.below HB5.out).below hb6)
  have HB6 := Lib.hid ((((HB2.out.trans (HB3.out.mono HB2.out.size)).trans (HB4.out.mono (by have := HB2.out.size; have := HB3.out.size; omega))).trans (HB5.out.mono (by have := HB2.out.size; have := HB3.out.size; have := HB4.out.size; omega))).trans (hb6.mono (by have := HB2.out.size; have := HB3.out.size; have := HB4.out.size; have := HB5.out.size; omega)))
  clear H2 H3 H4 H5 HB2 HB3 HB4 HB5 hb6 h6
  go_upto_region 8 with (go_at_call 9; (with_reducible refine (value_eq H6.out (by decide) _ _ _ aw_pure7).mono ?_); rintro e w' ⟨rfl, rfl⟩)
  go_upto_region 9 with (go_at_call 9; (with_reducible refine (value_eq H6.out (by decide) _ _ _ aw_pure8).mono ?_); rintro e w' ⟨rfl, rfl⟩)
  go_wp2_with (first | (have tk := hb9; go_at_call 13; go_must (refine (values_eq (H4'.out.below hb9) (by decide) _ _ aw_pure10).mono ?_); intro e w10 hq; obtain ⟨v10, he, h10, hb10⟩ := hq; obtain ⟨a10, c10, rfl, _⟩ := id h10; subst he) | (have tk := hb10; go_at_call 12; go_must (refine (intsK_any (h10.below (bel_new _ _)) (rd_two _ _ _) (by decide) (by decide)).mono ?_); intro e w11 hq; obtain ⟨he, hb11⟩ := hq; subst he; have hb12 := hb9.trans ((hb10.trans (((bel_new w10 _).trans (hb11.mono (by simp))).mono hb10.size)).mono hb9.size)) | (go_at_call 13; go_must (refine (values_eq H2'.out (by decide) _ _ aw_pure9).mono ?_); intro e w7 hq; obtain ⟨v7, he, h7, hb7⟩ := hq; obtain ⟨a7, c7, rfl, _⟩ := id h7; subst he) | (go_at_call 12; go_must (refine (intsK_any (h7.below (bel_new _ _)) (rd_two _ _ _) (by decide) (by decide)).mono ?_); intro e w9 hq; obtain ⟨he, hb8⟩ := hq; subst he; have hb9 := hb7.trans (((bel_new w7 _).trans (hb8.mono (by simp))).mono hb7.size)) | (go_at_call 19; go_must (refine (pairs_any (H6.out.below hb12) (by decide)).mono ?_); intro e w13 hq; obtain ⟨v13, he, h13, hb13⟩ := hq; obtain ⟨a13, c13, rfl, _⟩ := h13; subst he; have hb14 := hb12.trans (hb13.mono hb12.size)) | (go_at_call 18; go_must (refine (begin_beg (H2'.out.below hb14) (H3'.out.below hb14) (RdSt.nil _) (by decide) (by decide) (by decide) aw_ok2 aw_ok3 (fun c hc => absurd hc (by simp)) aw_pure11).mono ?_); intro e w15 hq; obtain ⟨v15, he, h15, hb15⟩ := hq; obtain ⟨a15, c15, rfl, _⟩ := h15.rd; subst he; have hb16 := hb14.trans (hb15.mono hb14.size)) | (go_at_call 10; go_must (refine (put_beg (RdSt.nil _) (by decide) _ _ _ aw_pure12).mono ?_); intro e w17 hq; obtain ⟨v17, he, h17, hb17⟩ := hq; obtain ⟨a17, c17, rfl, _⟩ := h17.rd; subst he; have hb18 := hb16.trans (hb17.mono hb16.size)))
  go_ret
  exact ⟨by rfl, HB6.out.trans (hb18.mono HB6.out.size)⟩
end Go.Proofs.Ytmnjopbfdocinaa
