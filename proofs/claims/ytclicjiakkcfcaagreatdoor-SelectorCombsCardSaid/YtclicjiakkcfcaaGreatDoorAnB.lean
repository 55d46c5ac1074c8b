import Derived.Test.YtclicjiakkcfcaaGreatDoorAnA
import Derived.Test.YtclicjiakkcfcaaGreatDoorTkI
import Derived.Test.YtclicjiakkcfcaaGreatDoorShelf
import Derived.Laws.RangeAny
set_option maxRecDepth 100000
set_option maxHeartbeats 3200000
namespace Go.Proofs.YtclicjiakkcfcaaGreatDoor
open Go.RowKit Go.Shelf
theorem numA_ne {l : List Nd} (h : l.length ≠ 1) (sg : Bool) : numA l sg = (0, false) := by
 unfold numA
 split
 · exact absurd rfl h
 · rfl
theorem number_any {l : List Nd} {v : Value} {w : World} {P : Nat → Prop} (h : RdN w P v l) (sg : Bool) (hl : l.length ≤ 100000000) :
    Calls Tryz.prog 118 #[v, .bool sg] w fun e w' => e = .returned (.tuple #[.int .i64 (numA l sg).1, .bool (numA l sg).2]) ∧ Below w.heap.size w w' := by
  by_cases h1 : l.length = 1
  · obtain ⟨n, rfl⟩ := List.length_eq_one_iff.1 h1
    obtain ⟨b, off, c, hv, hlc, _, hbl, g1⟩ := h.base (by simp)
    obtain ⟨u, hat, _⟩ := g1 0 (by simp)
    subst hv
    obtain ⟨t, k⟩ := n
    obtain ⟨c0, c1, c2, c3, c4, c5, _⟩ := hat
    simp only [List.getElem_cons_zero, Nd.tok, Nat.zero_mul, Nat.add_zero] at c0 c1 c2 c3 c4 c5
    have hlc1 : 1 ≤ c := by simpa using hlc
    have hb := (Below.refl w.heap.size w).alloc (Nat.le_refl _) (.cells #[.int .i64 t.kind, .string t.text, .int .i64 t.int, .bool t.whole, .bool t.sign, .bool t.id] 94)
    rw [show [Nd.mk t k].length = 1 from rfl]
    obtain ⟨R, hR⟩ : ∃ R, numA [.mk t k] sg = R := ⟨_, rfl⟩
    rw [hR]
    have HR := Lib.hid hR
    clear h g1 h1 hlc hR
    obtain ⟨tk, tx, ti, tw, ts, td⟩ := t
    simp only at *
    by_cases hk : (tk == 10) = true
    · have hk' : (tk != 10) = false := by rw [bne, hk]; rfl
      have HK := Lib.hid hk
      cases tw <;> cases ts <;> cases sg
      all_goals
        go_enter Tryz.func118, Tryz.ntmps118
        go_wp2
        go_ret2
        exact ⟨by rw [← HR.out]; simp [numA, numOk, Nd.tok, HK.out], hb⟩
    · have hk : (tk == 10) = false := by simpa using hk
      have hk' : (tk != 10) = true := by rw [bne, hk]; rfl
      have HK := Lib.hid hk
      go_enter Tryz.func118, Tryz.ntmps118
      go_wp2
      go_ret2
      exact ⟨by rw [← HR.out]; simp [numA, numOk, Nd.tok, HK.out], hb⟩
  · rw [numA_ne h1]
    obtain ⟨a, c, rfl, _⟩ := h.shape
    obtain ⟨N, hN⟩ : ∃ N, l.length = N := ⟨_, rfl⟩
    have h1N : ¬ N = 1 := by rw [← hN]; exact h1
    rw [hN] at hl ⊢
    have hne : ¬ (N : Int) = 1 := by omega
    have hne2 : ((N : Int) != 1) = true := by simpa using hne
    clear h hN h1 h1N
    go_enter Tryz.func118, Tryz.ntmps118
    go_wp2
    go_ret2
    exact ⟨rfl, Below.refl _ _⟩
def aloneA (l : List Nd) : Int × Int × Bool := match l with
 | [n] => if (n.tok.kind == 10) && n.tok.whole then (0, n.tok.int, true) else if (n.tok.kind == 1) = false then (0, 0, false) else
  if ((lowS n.tok.text).toList == [111, 100, 100]) = true then (2, 1, true) else if ((lowS n.tok.text).toList == [101, 118, 101, 110]) = true then (2, 0, true) else (0, 0, false)
 | _ => (0, 0, false)
theorem aloneA_ne {l : List Nd} (h : l.length ≠ 1) : aloneA l = (0, 0, false) := by
 unfold aloneA
 split
 · exact absurd rfl h
 · rfl
theorem alone_any {l : List Nd} {v : Value} {w : World} {P : Nat → Prop} (h : RdN w P v l) (hl : l.length ≤ 100000000) (hz : ∀ n ∈ l, n.tok.text.size ≤ 1000000000) :
    Calls Tryz.prog 108 #[v] w fun e w' => e = .returned (.tuple #[.int .i64 (aloneA l).1, .int .i64 (aloneA l).2.1, .bool (aloneA l).2.2]) ∧ Below w.heap.size w w' := by
  by_cases h1 : l.length = 1
  · obtain ⟨n, rfl⟩ := List.length_eq_one_iff.1 h1
    obtain ⟨b, off, c, hv, hlc, _, hbl, g1⟩ := h.base (by simp)
    obtain ⟨u, hat, _⟩ := g1 0 (by simp)
    subst hv
    have hzt := hz n (by simp)
    obtain ⟨t, k⟩ := n
    obtain ⟨c0, c1, c2, c3, c4, c5, _⟩ := hat
    simp only [List.getElem_cons_zero, Nd.tok, Nat.zero_mul, Nat.add_zero] at c0 c1 c2 c3 c4 c5 hzt
    have hlc1 : 1 ≤ c := by simpa using hlc
    have hb := (Below.refl w.heap.size w).alloc (Nat.le_refl _) (.cells #[.int .i64 t.kind, .string t.text, .int .i64 t.int, .bool t.whole, .bool t.sign, .bool t.id] 94)
    have x0 := heap_alloc_self w (.cells #[.int .i64 t.kind, .string t.text, .int .i64 t.int, .bool t.whole, .bool t.sign, .bool t.id] 94)
    rw [show [Nd.mk t k].length = 1 from rfl]
    obtain ⟨R, hR⟩ : ∃ R, aloneA [.mk t k] = R := ⟨_, rfl⟩
    rw [hR]
    have HR := Lib.hid hR
    clear h g1 h1 hlc hz hR
    obtain ⟨tk, tx, ti, tw, ts, td⟩ := t
    simp only at *
    by_cases hk : (tk == 10) = true
    · have hk' : tk = 10 := by simpa using hk
      subst hk'
      cases tw
      · go_enter Tryz.func108, Tryz.ntmps108
        go_wp2
        go_ret3
        exact ⟨by rw [← HR.out]; simp [aloneA, Nd.tok], hb⟩
      · go_enter Tryz.func108, Tryz.ntmps108
        go_upto_region 5 with fail
        generalize w.alloc (.cells #[.int .i64 10, .string tx, .int .i64 ti, .bool true, .bool ts, .bool td] 94) = W at *
        have d2 : W.cell? ⟨w.heap.size, 2, none⟩ = some (.int .i64 ti) := by simp [World.cell?, x0]
        clear x0
        go_quiet (fail)
        go_wp2
        go_ret3
        exact ⟨by rw [← HR.out]; simp [aloneA, Nd.tok], hb.trans (below_drawn _ _ _)⟩
    · have hk : (tk == 10) = false := by simpa using hk
      have HK := Lib.hid hk
      by_cases hi : (tk == 1) = true
      · have hi' : (tk != 1) = false := by rw [bne, hi]; rfl
        have HI := Lib.hid hi
        by_cases ho : ((lowS tx).toList == [111, 100, 100]) = true
        · have HO := Lib.hid ho
          go_enter Tryz.func108, Tryz.ntmps108
          go_wp2_with (go_at_call 67; refine (lower_any _ _ hzt).mono ?_; rintro e w2 ⟨rfl, hb2⟩)
          go_ret3
          exact ⟨by rw [← HR.out]; simp [aloneA, Nd.tok, HK.out, HI.out, HO.out], below_seq hb hb2⟩
        · have ho : ((lowS tx).toList == [111, 100, 100]) = false := by simpa using ho
          by_cases hv : ((lowS tx).toList == [101, 118, 101, 110]) = true
          · have HV := Lib.hid hv
            have HO := Lib.hid ho
            go_enter Tryz.func108, Tryz.ntmps108
            go_wp2_with (go_at_call 67; refine (lower_any _ _ hzt).mono ?_; rintro e w2 ⟨rfl, hb2⟩)
            go_ret3
            exact ⟨by rw [← HR.out]; simp [aloneA, Nd.tok, HK.out, HI.out, HO.out, HV.out], below_seq hb hb2⟩
          · have hv : ((lowS tx).toList == [101, 118, 101, 110]) = false := by simpa using hv
            have HV := Lib.hid hv
            have HO := Lib.hid ho
            go_enter Tryz.func108, Tryz.ntmps108
            go_wp2_with (go_at_call 67; refine (lower_any _ _ hzt).mono ?_; rintro e w2 ⟨rfl, hb2⟩)
            go_ret3
            exact ⟨by rw [← HR.out]; simp [aloneA, Nd.tok, HK.out, HI.out, HO.out, HV.out], below_seq hb hb2⟩
      · have hi : (tk == 1) = false := by simpa using hi
        have hi' : (tk != 1) = true := by rw [bne, hi]; rfl
        have HI := Lib.hid hi
        go_enter Tryz.func108, Tryz.ntmps108
        go_wp2
        go_ret3
        exact ⟨by rw [← HR.out]; simp [aloneA, Nd.tok, HK.out, HI.out], hb⟩
  · rw [aloneA_ne h1]
    obtain ⟨a, c, rfl, _⟩ := h.shape
    obtain ⟨N, hN⟩ : ∃ N, l.length = N := ⟨_, rfl⟩
    have h1N : ¬ N = 1 := by rw [← hN]; exact h1
    rw [hN] at hl ⊢
    have hne : ¬ (N : Int) = 1 := by omega
    have hne2 : ((N : Int) != 1) = true := by simpa using hne
    clear h hN h1 h1N hz
    go_enter Tryz.func108, Tryz.ntmps108
    go_wp2
    go_ret3
    exact ⟨rfl, Below.refl _ _⟩
def negS (b : Int) : Int := wrap64 (-b)
def behN (l : List Nd) : Int × Bool :=
 if l.isEmpty then (0, true) else if (numA (trA l) true).2 then numA (trA l) true else match trA l with
  | [] => (0, false)
  | d :: r => if isD d ⟨#[43]⟩ then numA (trA r) false else if isD d ⟨#[45]⟩ then (negS (numA (trA r) false).1, (numA (trA r) false).2) else (0, false)
theorem szL_trA : ∀ l : List Nd, szL (trA l) ≤ szL l
  | [] => Nat.le_refl _
  | n :: l => by
   rw [trA]
   split
   · rw [szL]; have := szL_trA l; omega
   · exact Nat.le_refl _
theorem numA_no {l : List Nd} {sg : Bool} (h : (numA l sg).2 = false) : (numA l sg).1 = 0 := by
 unfold numA at h ⊢
 split
 · split
   · rename_i n e
     simp [e] at h
   · rfl
 · rfl
theorem behindN_any {l : List Nd} {v : Value} {w : World} {P : Nat → Prop} (h : RdN w P v l) (hl : szL l ≤ 100000000) :
    Calls Tryz.prog 116 #[v] w fun e w' => e = .returned (.tuple #[.int .i64 (behN l).1, .bool (behN l).2]) ∧ Below w.heap.size w w' := by
  by_cases h0 : l.isEmpty = true
  · obtain rfl : l = [] := by simpa using h0
    obtain ⟨a, c, rfl, _⟩ := h.shape
    clear h h0
    go_enter Tryz.func116, Tryz.ntmps116
    go_wp2
    go_ret2
    exact ⟨rfl, Below.refl _ _⟩
  have hll := szL_ge l
  have hp : 0 < l.length := by cases l with | nil => simp at h0 | cons _ _ => simp
  obtain ⟨va, vc, hvs, _⟩ := h.shape
  obtain ⟨N, hN⟩ : ∃ N, l.length = N := ⟨_, rfl⟩
  rw [hN] at hvs hp hll
  subst hvs
  have HBW := Lib.hid (behindW_any h hl)
  have hT := szL_trA l
  have hn0 : ¬ (N : Int) = 0 := by omega
  have hn02 : ((N : Int) == 0) = false := by simpa using hn0
  have hB : behN l = if (numA (trA l) true).2 then numA (trA l) true else match trA l with
   | [] => (0, false)
   | d :: r => if isD d ⟨#[43]⟩ then numA (trA r) false else if isD d ⟨#[45]⟩ then (negS (numA (trA r) false).1, (numA (trA r) false).2) else (0, false) := by
   unfold behN; rw [if_neg h0]
  rw [hB]
  clear hB h h0 hN hn0
  generalize trA l = m at *
  cases m with
  | nil =>
   rw [show numA [] true = (0, false) from rfl]
   go_enter Tryz.func116, Tryz.ntmps116
   go_wp2_with (first | (go_at_call 119; refine HBW.out.mono ?_; rintro e w1 ⟨⟨v1, rfl, hm⟩, rfl⟩; obtain ⟨ma, mc, hms, _⟩ := hm.shape; subst hms; have HM := Lib.hid hm; clear hm) | (go_at_call 118; refine (number_any HM.out true (by simp)).mono ?_; rintro e w2 ⟨rfl, hb2⟩; rw [show numA [] true = (0, false) from rfl]))
   go_ret2
   exact ⟨rfl, hb2⟩
  | cons d r =>
   obtain ⟨x1, y1, hX⟩ : ∃ x y, numA (d :: r) true = (x, y) := ⟨_, _, rfl⟩
   obtain ⟨x2, y2, hX2⟩ : ∃ x y, numA (trA r) false = (x, y) := ⟨_, _, rfl⟩
   rw [hX]
   have HX := Lib.hid hX
   have HX2 := Lib.hid hX2
   have hrl := szL_ge r
   have hm1 : (d :: r).length ≤ 100000000 := by have := szL_ge (d :: r); omega
   rw [szL] at hT
   have hrz : szL r ≤ 100000000 := by omega
   have hrt := szL_trA r
   have hrtl := szL_ge (trA r)
   cases y1 with
   | true =>
    clear hX hX2
    go_enter Tryz.func116, Tryz.ntmps116
    go_wp2_with (first | (go_at_call 119; refine HBW.out.mono ?_; rintro e w1 ⟨⟨v1, rfl, hm⟩, rfl⟩; obtain ⟨ma, mc, hms, _⟩ := hm.shape; subst hms; have HM := Lib.hid hm; clear hm) | (go_at_call 118; refine (number_any HM.out true hm1).mono ?_; rintro e w2 ⟨rfl, hb2⟩; rw [HX.out]))
    go_ret2
    exact ⟨rfl, hb2⟩
   | false =>
    obtain ⟨t, k⟩ := d
    have hx0 : x1 = 0 := by have := numA_no (l := .mk t k :: r) (sg := true) (by rw [hX]); rw [hX] at this; exact this
    subst hx0
    simp only [Bool.false_eq_true, if_false]
    rw [hX2]
    simp only
    obtain ⟨R, hR⟩ : ∃ R : Int × Bool, (if isD (.mk t k) ⟨#[43]⟩ = true then (x2, y2) else if isD (.mk t k) ⟨#[45]⟩ = true then (negS x2, y2) else (0, false)) = R := ⟨_, rfl⟩
    rw [hR]
    have HR := Lib.hid hR
    clear hX hX2 hR
    go_enter Tryz.func116, Tryz.ntmps116
    go_upto_region 4 with (go_at_call 119; refine HBW.out.mono ?_; rintro e w1 ⟨⟨v1, rfl, hm⟩, rfl⟩)
    have HM := Lib.hid hm
    cases hm with
    | cons b off n c _ u _ _ _ hbl hat hku htl =>
    obtain ⟨a', c', he, hnc⟩ := htl.shape
    injection he with e1 e2 e3
    subst e1 e2 e3
    obtain ⟨ua, uc, hus, _⟩ := hku.shape
    subst hus
    obtain ⟨c0, c1, c2, c3, c4, c5, c6⟩ := hat
    have hTA : ∀ A, (c = 0 ∨ A = some ⟨b, off + 7, none⟩) → RdN w P (.slice A r.length c) r := fun A hA => htl.tail hA
    have HTA := Lib.hid hTA
    clear hTA htl hku
    go_upto_region 7 with (go_at_call 118; refine (number_any HM.out true hm1).mono ?_; rintro e w2 ⟨rfl, hb2⟩; rw [HX.out])
    have hW2 := fun A hA => (HTA.out A hA).under hb2 (Nat.le_refl _)
    have HW2 := Lib.hid hW2
    clear hW2
    by_cases hc0 : c = 0
    · subst hc0
      have hr0 : r = [] := List.eq_nil_of_length_eq_zero (by omega)
      subst hr0
      rw [show ([] : List Nd).length = 0 from rfl] at *
      go_upto_region 8 with (first | (go_at_call 119; refine (behindW_any (HW2.out _ (by first | exact .inr rfl | exact .inl rfl)) hrz).mono ?_; rintro e w3 ⟨⟨v3, rfl, hm3⟩, rfl⟩; have HM3 := Lib.hid hm3; clear hm3) | (go_at_call 118; refine (number_any HM3.out false (by omega)).mono ?_; rintro e w4 ⟨rfl, hb4⟩; rw [HX2.out]))
      have hb24 := below_seq hb2 hb4
      have d0 := (hb24.cell (p := ⟨b, off, none⟩) hbl).trans c0
      have d1 := (hb24.cell (p := ⟨b, off + 1, none⟩) hbl).trans c1
      have d2 := (hb24.cell (p := ⟨b, off + 2, none⟩) hbl).trans c2
      have d3 := (hb24.cell (p := ⟨b, off + 3, none⟩) hbl).trans c3
      have d4 := (hb24.cell (p := ⟨b, off + 4, none⟩) hbl).trans c4
      have d5 := (hb24.cell (p := ⟨b, off + 5, none⟩) hbl).trans c5
      have d6 := (hb24.cell (p := ⟨b, off + 6, none⟩) hbl).trans c6
      clear c0 c1 c2 c3 c4 c5 c6
      by_cases hp : isD (.mk t k) ⟨#[43]⟩ = true
      · have HP := Lib.hid hp
        clear hp
        go_wp2_with (go_at_call 114; refine (delim_any t ua k.length uc ⟨#[43]⟩ _ k).mono ?_; rintro e w5 ⟨rfl, hb5⟩; rw [HP.out])
        go_ret2
        exact ⟨by rw [← HR.out, if_pos HP.out]; try rfl, below_seq hb24 hb5⟩
      · have hp : isD (.mk t k) ⟨#[43]⟩ = false := by simpa using hp
        have HP := Lib.hid hp
        clear hp
        go_upto_region 10 with (go_at_call 114; refine (delim_any t ua k.length uc ⟨#[43]⟩ _ k).mono ?_; rintro e w5 ⟨rfl, hb5⟩; rw [HP.out])
        have hb25 := below_seq hb24 hb5
        have hbl4 : b < w4.heap.size := Nat.lt_of_lt_of_le hbl hb24.size
        replace d0 := (hb5.cell (p := ⟨b, off, none⟩) hbl4).trans d0
        replace d1 := (hb5.cell (p := ⟨b, off + 1, none⟩) hbl4).trans d1
        replace d2 := (hb5.cell (p := ⟨b, off + 2, none⟩) hbl4).trans d2
        replace d3 := (hb5.cell (p := ⟨b, off + 3, none⟩) hbl4).trans d3
        replace d4 := (hb5.cell (p := ⟨b, off + 4, none⟩) hbl4).trans d4
        replace d5 := (hb5.cell (p := ⟨b, off + 5, none⟩) hbl4).trans d5
        replace d6 := (hb5.cell (p := ⟨b, off + 6, none⟩) hbl4).trans d6
        by_cases hq : isD (.mk t k) ⟨#[45]⟩ = true
        · have HQ := Lib.hid hq
          clear hq
          go_wp2_with (go_at_call 114; refine (delim_any t ua k.length uc ⟨#[45]⟩ _ k).mono ?_; rintro e w6 ⟨rfl, hb6⟩; rw [HQ.out])
          go_ret2
          exact ⟨by rw [← HR.out, if_neg (by rw [HP.out]; decide), if_pos HQ.out]; try rfl, below_seq hb25 hb6⟩
        · have hq : isD (.mk t k) ⟨#[45]⟩ = false := by simpa using hq
          have HQ := Lib.hid hq
          clear hq
          go_wp2_with (go_at_call 114; refine (delim_any t ua k.length uc ⟨#[45]⟩ _ k).mono ?_; rintro e w6 ⟨rfl, hb6⟩; rw [HQ.out])
          go_ret2
          exact ⟨by rw [← HR.out, if_neg (by rw [HP.out]; decide), if_neg (by rw [HQ.out]; decide)]; try rfl, below_seq hb25 hb6⟩
    · have hc1 : ¬ c = 0 := hc0
      go_upto_region 8 with (first | (go_at_call 119; refine (behindW_any (HW2.out _ (by first | exact .inr rfl | exact .inl rfl)) hrz).mono ?_; rintro e w3 ⟨⟨v3, rfl, hm3⟩, rfl⟩; have HM3 := Lib.hid hm3; clear hm3) | (go_at_call 118; refine (number_any HM3.out false (by omega)).mono ?_; rintro e w4 ⟨rfl, hb4⟩; rw [HX2.out]))
      have hb24 := below_seq hb2 hb4
      have d0 := (hb24.cell (p := ⟨b, off, none⟩) hbl).trans c0
      have d1 := (hb24.cell (p := ⟨b, off + 1, none⟩) hbl).trans c1
      have d2 := (hb24.cell (p := ⟨b, off + 2, none⟩) hbl).trans c2
      have d3 := (hb24.cell (p := ⟨b, off + 3, none⟩) hbl).trans c3
      have d4 := (hb24.cell (p := ⟨b, off + 4, none⟩) hbl).trans c4
      have d5 := (hb24.cell (p := ⟨b, off + 5, none⟩) hbl).trans c5
      have d6 := (hb24.cell (p := ⟨b, off + 6, none⟩) hbl).trans c6
      clear c0 c1 c2 c3 c4 c5 c6
      by_cases hp : isD (.mk t k) ⟨#[43]⟩ = true
      · have HP := Lib.hid hp
        clear hp
        go_wp2_with (go_at_call 114; refine (delim_any t ua k.length uc ⟨#[43]⟩ _ k).mono ?_; rintro e w5 ⟨rfl, hb5⟩; rw [HP.out])
        go_ret2
        exact ⟨by rw [← HR.out, if_pos HP.out]; try rfl, below_seq hb24 hb5⟩
      · have hp : isD (.mk t k) ⟨#[43]⟩ = false := by simpa using hp
        have HP := Lib.hid hp
        clear hp
        go_upto_region 10 with (go_at_call 114; refine (delim_any t ua k.length uc ⟨#[43]⟩ _ k).mono ?_; rintro e w5 ⟨rfl, hb5⟩; rw [HP.out])
        have hb25 := below_seq hb24 hb5
        have hbl4 : b < w4.heap.size := Nat.lt_of_lt_of_le hbl hb24.size
        replace d0 := (hb5.cell (p := ⟨b, off, none⟩) hbl4).trans d0
        replace d1 := (hb5.cell (p := ⟨b, off + 1, none⟩) hbl4).trans d1
        replace d2 := (hb5.cell (p := ⟨b, off + 2, none⟩) hbl4).trans d2
        replace d3 := (hb5.cell (p := ⟨b, off + 3, none⟩) hbl4).trans d3
        replace d4 := (hb5.cell (p := ⟨b, off + 4, none⟩) hbl4).trans d4
        replace d5 := (hb5.cell (p := ⟨b, off + 5, none⟩) hbl4).trans d5
        replace d6 := (hb5.cell (p := ⟨b, off + 6, none⟩) hbl4).trans d6
        by_cases hq : isD (.mk t k) ⟨#[45]⟩ = true
        · have HQ := Lib.hid hq
          clear hq
          go_wp2_with (go_at_call 114; refine (delim_any t ua k.length uc ⟨#[45]⟩ _ k).mono ?_; rintro e w6 ⟨rfl, hb6⟩; rw [HQ.out])
          go_ret2
          exact ⟨by rw [← HR.out, if_neg (by rw [HP.out]; decide), if_pos HQ.out]; try rfl, below_seq hb25 hb6⟩
        · have hq : isD (.mk t k) ⟨#[45]⟩ = false := by simpa using hq
          have HQ := Lib.hid hq
          clear hq
          go_wp2_with (go_at_call 114; refine (delim_any t ua k.length uc ⟨#[45]⟩ _ k).mono ?_; rintro e w6 ⟨rfl, hb6⟩; rw [HQ.out])
          go_ret2
          exact ⟨by rw [← HR.out, if_neg (by rw [HP.out]; decide), if_neg (by rw [HQ.out]; decide)]; try rfl, below_seq hb25 hb6⟩
end Go.Proofs.YtclicjiakkcfcaaGreatDoor
namespace Go.Proofs.YtclicjiakkcfcaaGreatDoor
open Go.RowKit Go.Shelf
def digsS (s : ByteArray) : Bool := (nums s).all sDigit && !s.toList.isEmpty
theorem digs_all {s : ByteArray} (h : ∀ j, (hj : j < s.size) → sDigit ((s[j]'hj).toNat : Int) = true) : (nums s).all sDigit = true := by
 rw [List.all_eq_true]
 intro x hx
 unfold nums at hx
 rw [List.mem_map] at hx
 obtain ⟨b, hb, rfl⟩ := hx
 obtain ⟨j, hj, e⟩ := List.mem_iff_getElem.1 hb
 have hj2 : j < s.size := by have h := hj; rw [Array.length_toList] at h; exact h
 have := h j hj2
 rw [← e, Array.getElem_toList]
 exact this
theorem digs_no {s : ByteArray} {j : Nat} (hj : j < s.size) (h : sDigit ((s[j]'hj).toNat : Int) = false) : (nums s).all sDigit = false := by
 rw [List.all_eq_false]
 refine ⟨((s[j]'hj).toNat : Int), ?_, by rw [h]; decide⟩
 unfold nums
 refine List.mem_map.2 ⟨s[j]'hj, ?_, rfl⟩
 have hj2 : j < s.data.toList.length := by rw [Array.length_toList]; exact hj
 have e : s.data.toList[j]'hj2 = s[j]'hj := by rw [Array.getElem_toList]; rfl
 rw [← e]; exact List.getElem_mem _
theorem adigits_any (s : ByteArray) (w : World) :
    Calls Tryz.prog 120 #[.string s] w fun e w' => e = .returned (.bool (digsS s)) ∧ Below w.heap.size w w' := by
  go_enter Tryz.func120, Tryz.ntmps120
  go_wp2
  go_loopw [] (fun wr => ∃ pos : Nat, wr = w.iter s pos ∧ pos ≤ s.size ∧ ∀ j, (hj : j < s.size) → j < pos → sDigit ((s[j]'hj).toNat : Int) = true) (fun wr => s.size - wr.iterPos w.heap.size)
  case atStart => exact ⟨0, rfl, Nat.zero_le _, fun j _ h => absurd h (by omega)⟩
  case round =>
   obtain ⟨pos, rfl, hps, hall⟩ := hrel
   have HA := Lib.hid hall
   clear hall
   have hbi : Below w.heap.size w (w.iter s pos) := (Below.refl _ w).alloc (Nat.le_refl _) _
   by_cases hp : pos < s.size
   · by_cases hd : sDigit ((s[pos]'hp).toNat : Int) = true
     · have hb : 48 ≤ (s[pos]'hp).toNat ∧ (s[pos]'hp).toNat ≤ 57 := by unfold sDigit at hd; have := of_decide_eq_true hd; omega
       have hnx : ∀ ty, (Instr.next (.pointer (some ⟨w.heap.size, 0, none⟩)) true ty).run Tryz.prog (w.iter s pos) = _ := fun ty => run_next_ascii w s pos ty hp (by omega)
       have HD := Lib.hid hd
       clear hd hb
       go_wp2_with (go_at_call 124; refine (digit_any _ _).mono ?_; rintro e w1 ⟨rfl, rfl⟩; rw [HD.out])
       go_roundw
       case rel =>
        refine ⟨pos + 1, rfl, by omega, fun j hj hjp => ?_⟩
        by_cases e : j = pos
        · subst e; exact HD.out
        · exact HA.out j hj (by omega)
       case measure => simp; omega
     · have hd : sDigit ((s[pos]'hp).toNat : Int) = false := by simpa using hd
       have hr : sDigit ((Utf8.decode s pos).1 : Int) = false := by
        by_cases ha : (s[pos]'hp).toNat < 128
        · rw [decode_ascii s pos hp ha]; exact hd
        · have := (decode_high s pos hp (by omega)).1
          unfold sDigit; exact decide_eq_false (by omega)
       have hnx : ∀ ty, (Instr.next (.pointer (some ⟨w.heap.size, 0, none⟩)) true ty).run Tryz.prog (w.iter s pos) = _ := fun ty => run_next_any w s pos ty hp
       have HR := Lib.hid hr
       have HN := Lib.hid (digs_no hp hd)
       have hbi2 : Below w.heap.size w (w.iter s (pos + (Utf8.decode s pos).2)) := (Below.refl _ w).alloc (Nat.le_refl _) _
       clear hd hr
       go_wp2_with (go_at_call 124; refine (digit_any _ _).mono ?_; rintro e w1 ⟨rfl, rfl⟩; rw [HR.out])
       go_ret
       exact ⟨by unfold digsS; rw [HN.out]; rfl, hbi2⟩
   · have hnx : ∀ ty, (Instr.next (.pointer (some ⟨w.heap.size, 0, none⟩)) true ty).run Tryz.prog (w.iter s pos) = _ := fun ty => run_next_end w s pos ty hp
     have HN := Lib.hid (digs_all fun j hj => HA.out j hj (by omega))
     go_wp2
     go_ret
     exact ⟨by unfold digsS; rw [HN.out]; simp, hbi⟩
def toldS (u : ByteArray) : ByteArray := ⟨(Lib.trimPrefix u.data.toList [110, 45]).toArray⟩
def offS (u : ByteArray) (rest : List Nd) : Int × Bool :=
 if (u.toList == [110]) = true then behN rest else if Lib.hasPrefix u.data.toList [110, 45] = false then (0, false) else
 if (toldS u).toList.isEmpty = true then (negS (numA (trA rest) false).1, (numA (trA rest) false).2) else
 if (digsS (toldS u) && rest.isEmpty) = true then (intV (nums (⟨#[45]⟩ ++ toldS u)), true) else (0, false)
theorem toldS_size (u : ByteArray) : (toldS u).size ≤ u.size := by
 show ((Lib.trimPrefix u.data.toList [110, 45]).toArray).size ≤ u.data.size
 rw [List.size_toArray]
 unfold Lib.trimPrefix
 split
 · rw [List.length_drop, Array.length_toList]; omega
 · rw [Array.length_toList]; exact Nat.le_refl _
theorem offset_any {rest : List Nd} {v : Value} {w : World} {P : Nat → Prop} (u : ByteArray) (h : RdN w P v rest) (hl : szL rest ≤ 100000000) (hu : u.size ≤ 500000000) :
    Calls Tryz.prog 113 #[.string u, v] w fun e w' => e = .returned (.tuple #[.int .i64 (offS u rest).1, .bool (offS u rest).2]) ∧ Below w.heap.size w w' := by
  obtain ⟨R, hR⟩ : ∃ R, offS u rest = R := ⟨_, rfl⟩
  rw [hR]
  have hll := szL_ge rest
  obtain ⟨a, c, hvs, hlc⟩ := h.shape
  have HH := Lib.hid h
  subst hvs
  by_cases hn : (u.toList == [110]) = true
  · have HR := Lib.hid (show behN rest = R by rw [← hR]; unfold offS; rw [if_pos hn])
    clear hR h
    go_enter Tryz.func113, Tryz.ntmps113
    go_wp2_with (go_at_call 116; refine (behindN_any HH.out hl).mono ?_; rintro e w2 ⟨rfl, hb2⟩; rw [HR.out])
    go_ret2
    exact ⟨rfl, hb2⟩
  have hn : (u.toList == [110]) = false := by simpa using hn
  have HC := Lib.hid (Tryz.strings_CutPrefix u ⟨#[110, 45]⟩ w)
  have hts := toldS_size u
  have hT : (⟨(Lib.trimPrefix u.data.toList (⟨#[110, 45]⟩ : ByteArray).data.toList).toArray⟩ : ByteArray) = toldS u := rfl
  rw [hT, show (⟨#[110, 45]⟩ : ByteArray).data.toList = [110, 45] from rfl] at HC
  unfold offS at hR
  rw [if_neg (by rw [hn]; decide)] at hR
  clear hT
  generalize toldS u = T at *
  generalize Lib.hasPrefix u.data.toList [110, 45] = p at *
  cases p with
  | false =>
   have HR := Lib.hid hR
   clear hR h
   go_enter Tryz.func113, Tryz.ntmps113
   go_wp2_with (go_at_call 117; refine HC.out.mono ?_; rintro e w2 ⟨rfl, rfl⟩)
   go_ret2
   exact ⟨by rw [← HR.out]; rfl, Below.refl _ _⟩
  | true =>
   rw [if_neg (by decide)] at hR
   by_cases hTe : T.toList.isEmpty = true
   · rw [if_pos hTe] at hR
     have HR := Lib.hid hR
     have HBW := Lib.hid (behindW_any HH.out hl)
     have hmt := szL_trA rest
     have hml := szL_ge (trA rest)
     clear hR h
     generalize trA rest = m at *
     go_enter Tryz.func113, Tryz.ntmps113
     go_wp2_with (first | (go_at_call 117; refine HC.out.mono ?_; rintro e w2 ⟨rfl, rfl⟩) | (go_at_call 119; refine HBW.out.mono ?_; rintro e w3 ⟨⟨v3, rfl, hm3⟩, rfl⟩; have HM3 := Lib.hid hm3; clear hm3) | (go_at_call 118; refine (number_any HM3.out false (by omega)).mono ?_; rintro e w4 ⟨rfl, hb4⟩))
     go_ret2
     exact ⟨by rw [← HR.out]; try rfl, hb4⟩
   · have hTe : T.toList.isEmpty = false := by simpa using hTe
     rw [if_neg (by rw [hTe]; decide)] at hR
     by_cases hd : digsS T = true
     · rw [hd] at hR
       cases rest with
       | nil =>
        have HR := Lib.hid hR
        have HD := Lib.hid hd
        clear hR h hd
        have hz : (⟨#[45]⟩ ++ T : ByteArray).size ≤ 1000000000 := by rw [ByteArray.size_append, show (⟨#[45]⟩ : ByteArray).size = 1 from rfl]; omega
        rw [show ([] : List Nd).length = 0 from rfl]
        go_enter Tryz.func113, Tryz.ntmps113
        go_wp2_with (first | (go_at_call 117; refine HC.out.mono ?_; rintro e w2 ⟨rfl, rfl⟩) | (go_at_call 120; refine (adigits_any T _).mono ?_; rintro e w3 ⟨rfl, hb3⟩; rw [HD.out]) | (go_at_call 121; refine (int_any _ _ hz).mono ?_; rintro e w4 ⟨rfl, hb4⟩))
        go_ret2
        exact ⟨by rw [← HR.out]; rfl, below_seq hb3 hb4⟩
       | cons n r =>
        have HR := Lib.hid hR
        have HD := Lib.hid hd
        have hne : ¬ (r.length : Int) + 1 = 0 := by omega
        have hne2 : (((r.length : Int) + 1) == 0) = false := by simpa using hne
        clear hR h hd hne
        rw [List.length_cons]
        go_enter Tryz.func113, Tryz.ntmps113
        go_wp2_with (first | (go_at_call 117; refine HC.out.mono ?_; rintro e w2 ⟨rfl, rfl⟩) | (go_at_call 120; refine (adigits_any T _).mono ?_; rintro e w3 ⟨rfl, hb3⟩; rw [HD.out]))
        go_ret2
        exact ⟨by rw [← HR.out]; rfl, hb3⟩
     · have hd : digsS T = false := by simpa using hd
       rw [hd] at hR
       have HR := Lib.hid hR
       have HD := Lib.hid hd
       clear hR h hd
       go_enter Tryz.func113, Tryz.ntmps113
       go_wp2_with (first | (go_at_call 117; refine HC.out.mono ?_; rintro e w2 ⟨rfl, rfl⟩) | (go_at_call 120; refine (adigits_any T _).mono ?_; rintro e w3 ⟨rfl, hb3⟩; rw [HD.out]))
       go_ret2
       exact ⟨by rw [← HR.out]; rfl, hb3⟩
end Go.Proofs.YtclicjiakkcfcaaGreatDoor
