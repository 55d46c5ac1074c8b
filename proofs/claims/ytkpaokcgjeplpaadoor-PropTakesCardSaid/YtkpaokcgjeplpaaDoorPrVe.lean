
import Derived.Test.YtkpaokcgjeplpaaDoorPrV
namespace Go.Proofs.YtkpaokcgjeplpaaDoor
open Go.RowKit
/-! fleuronalike.Pairs, fleuronalike.Style. -/
def PaPost (w : World) (P : Prop) (e : Ending) (w' : World) : Prop := (∃ r : Bool, e = .returned (.bool r) ∧ (r = true → P)) ∧ Below w.heap.size w w'
set_option maxRecDepth 100000 in
set_option maxHeartbeats 1600000 in
theorem pairsok_any (l : List PaD) (v : Value) (w : World) (h : RdPa w v l) :
    Calls Tryd.prog 17 #[v] w (PaPost w (l.length ≤ 40)) := by
  obtain ⟨pa, ca, rfl, hla, hca⟩ := h
  obtain ⟨N, hN⟩ : ∃ N, l.length = N := ⟨_, rfl⟩
  have HA := Lib.hid hca
  have HN := Lib.hid hN
  rw [hN] at hla ⊢
  clear hca hN
  go_enter Tryd.func17, Tryd.ntmps17
  go_wp2
  go_loopw [3] (fun iv wr => ∃ i : Nat, iv = .int .i64 i ∧ i ≤ N ∧ i ≤ 50 ∧ Below w.heap.size w wr) (fun iv _ => 50 - (intOf iv).toNat)
  case atStart => exact ⟨0, rfl, Nat.zero_le _, Nat.zero_le _, Below.refl _ _⟩
  case round =>
    obtain ⟨i, rfl, hi, hi50, hbl⟩ := hrel
    have HW := Lib.hid hbl
    have hI0 : (0 : Int) ≤ (i : Int) := by omega
    clear hbl
    by_cases hlt : i < N
    · have hI : (i : Int) < (N : Int) := by omega
      by_cases h50 : i < 50
      · have hI5 : (i : Int) < 50 := by omega
        obtain ⟨ga, oa, rfl, hga, fa⟩ := HA.out (by rw [HN.out]; omega)
        have fa := fa i (by rw [HN.out]; exact hlt)
        generalize l[i]'(by rw [HN.out]; exact hlt) = x at *
        have a0 := (HW.out.cell (p := ⟨ga, oa + i * 4, none⟩) hga).trans (fa 0 _ rfl)
        clear fa
        by_cases hs : 100 < x.name.size
        · have hsI : (100 : Int) < (x.name.size : Int) := by omega
          go_wp2
          go_ret
          exact ⟨⟨false, rfl, fun h => by cases h⟩, HW.out⟩
        · have hsI : ¬ (100 : Int) < (x.name.size : Int) := by omega
          go_wp2
          go_roundw
          case rel => exact ⟨i + 1, by go_num, by omega, by omega, HW.out⟩
          case measure => simp [intOf]; omega
      · have hI5 : ¬ (i : Int) < 50 := by omega
        go_wp2
        go_ret
        exact ⟨⟨decide ((N : Int) ≤ 40), rfl, fun h => by have := of_decide_eq_true h; omega⟩, HW.out⟩
    · have hI : ¬ (i : Int) < (N : Int) := by omega
      go_wp2
      go_ret
      exact ⟨⟨decide ((N : Int) ≤ 40), rfl, fun h => by have := of_decide_eq_true h; omega⟩, HW.out⟩
set_option maxRecDepth 100000 in
set_option maxHeartbeats 6400000 in
theorem stylelook_any {d : StyD} {p1 p2 p3 p4 p5 : Value} {w : World} (ha : RdSty w p1 p2 p3 p4 p5 d) :
    Calls Tryd.prog 6 #[.agg (styC d p1 p2 p3 p4 p5)] w (PaPost w (SLen d)) := by
  have HR1 := Lib.hid ha.reset
  have HD1 := Lib.hid ha.add
  have HS1 := Lib.hid ha.set
  obtain ⟨aC, cC, rfl, _, fC⟩ := ha.cont
  obtain ⟨aQ, cQ, rfl, _, fQ⟩ := ha.quotes
  obtain ⟨aR, nR, cR, rfl⟩ := ha.reset.sl
  obtain ⟨aA, nA, cA, rfl⟩ := ha.add.sl
  obtain ⟨aU, nU, cU, rfl⟩ := ha.set.sl
  obtain ⟨NC, hNC⟩ : ∃ N, d.cont.length = N := ⟨_, rfl⟩
  obtain ⟨NQ, hNQ⟩ : ∃ N, d.quotes.length = N := ⟨_, rfl⟩
  have HNC := Lib.hid hNC
  have HNQ := Lib.hid hNQ
  have HFC := Lib.hid fC
  have HFQ := Lib.hid fQ
  rw [hNC, hNQ]
  clear fC fQ hNC hNQ ha
  have HB0 : Hid (Below w.heap.size w (w.alloc (.cells (styC d (.slice aC NC cC) (.slice aQ NQ cQ) (.slice aR nR cR) (.slice aA nA cA) (.slice aU nU cU)) 26))) := (Below.refl w.heap.size w).alloc (Nat.le_refl _) _
  have HX0 := Lib.hid (CB.new (T := 26) w (styC d (.slice aC NC cC) (.slice aQ NQ cQ) (.slice aR nR cR) (.slice aA nA cA) (.slice aU nU cU)))
  by_cases t_d_disp_size : 100 < d.disp.size
  · have u_d_disp_size : (100 : Int) < ((d.disp.size : Nat) : Int) := by omega
    go_enter Tryd.func6, Tryd.ntmps6
    go_upto_region 1 with fail
    generalize w.alloc (.cells (styC d _ _ _ _ _) 26) = W0 at *
    obtain ⟨g0, g1, g2, g3, g4, g5, g6, g7, g8, g9, g10⟩ := HX0.out.s11
    have hx0 := HX0.out.lt
    go_wp2
    go_ret
    exact ⟨⟨false, rfl, fun h => by cases h⟩, HB0.out⟩
  have u_d_disp_size : ¬ (100 : Int) < ((d.disp.size : Nat) : Int) := by omega
  by_cases t_d_lt_size : 300 < d.lt.size
  · have u_d_lt_size : (300 : Int) < ((d.lt.size : Nat) : Int) := by omega
    go_enter Tryd.func6, Tryd.ntmps6
    go_upto_region 1 with fail
    generalize w.alloc (.cells (styC d _ _ _ _ _) 26) = W0 at *
    obtain ⟨g0, g1, g2, g3, g4, g5, g6, g7, g8, g9, g10⟩ := HX0.out.s11
    have hx0 := HX0.out.lt
    go_wp2
    go_ret
    exact ⟨⟨false, rfl, fun h => by cases h⟩, HB0.out⟩
  have u_d_lt_size : ¬ (300 : Int) < ((d.lt.size : Nat) : Int) := by omega
  by_cases t_d_color_size : 100 < d.color.size
  · have u_d_color_size : (100 : Int) < ((d.color.size : Nat) : Int) := by omega
    go_enter Tryd.func6, Tryd.ntmps6
    go_upto_region 1 with fail
    generalize w.alloc (.cells (styC d _ _ _ _ _) 26) = W0 at *
    obtain ⟨g0, g1, g2, g3, g4, g5, g6, g7, g8, g9, g10⟩ := HX0.out.s11
    have hx0 := HX0.out.lt
    go_wp2
    go_ret
    exact ⟨⟨false, rfl, fun h => by cases h⟩, HB0.out⟩
  have u_d_color_size : ¬ (100 : Int) < ((d.color.size : Nat) : Int) := by omega
  by_cases t_NC : 40 < NC
  · have u_NC : (40 : Int) < ((NC : Nat) : Int) := by omega
    go_enter Tryd.func6, Tryd.ntmps6
    go_upto_region 1 with fail
    generalize w.alloc (.cells (styC d _ _ _ _ _) 26) = W0 at *
    obtain ⟨g0, g1, g2, g3, g4, g5, g6, g7, g8, g9, g10⟩ := HX0.out.s11
    have hx0 := HX0.out.lt
    go_wp2
    go_ret
    exact ⟨⟨false, rfl, fun h => by cases h⟩, HB0.out⟩
  have u_NC : ¬ (40 : Int) < ((NC : Nat) : Int) := by omega
  by_cases t_NQ : 40 < NQ
  · have u_NQ : (40 : Int) < ((NQ : Nat) : Int) := by omega
    go_enter Tryd.func6, Tryd.ntmps6
    go_upto_region 1 with fail
    generalize w.alloc (.cells (styC d _ _ _ _ _) 26) = W0 at *
    obtain ⟨g0, g1, g2, g3, g4, g5, g6, g7, g8, g9, g10⟩ := HX0.out.s11
    have hx0 := HX0.out.lt
    go_wp2
    go_ret
    exact ⟨⟨false, rfl, fun h => by cases h⟩, HB0.out⟩
  have u_NQ : ¬ (40 : Int) < ((NQ : Nat) : Int) := by omega
  go_enter Tryd.func6, Tryd.ntmps6
  go_upto_region 1 with fail
  generalize w.alloc (.cells (styC d _ _ _ _ _) 26) = W0 at *
  obtain ⟨g0, g1, g2, g3, g4, g5, g6, g7, g8, g9, g10⟩ := HX0.out.s11
  have hx0 := HX0.out.lt
  go_wp2_with fail
  refine (pairsok_any d.reset _ _ (HR1.out.below HB0.out)).mono ?_
  rintro e w1 ⟨⟨r1, rfl, k1⟩, hb1⟩
  have HB1 := Lib.hid (below_seq HB0.out hb1)
  have HX1 := Lib.hid (HX0.out.below hb1 hx0)
  have hx1 := HX1.out.lt
  have m9 := HX1.out.s11.2.2.2.2.2.2.2.2.2.1
  cases r1
  · go_wp2
    go_ret
    exact ⟨⟨false, rfl, fun h => by cases h⟩, HB1.out⟩
  go_wp2_with fail
  refine (pairsok_any d.add _ _ (HD1.out.below HB1.out)).mono ?_
  rintro e w2 ⟨⟨r2, rfl, k2⟩, hb2⟩
  have HB2 := Lib.hid (below_seq HB1.out hb2)
  have HX2 := Lib.hid (HX1.out.below hb2 hx1)
  have hx2 := HX2.out.lt
  have m10 := HX2.out.s11.2.2.2.2.2.2.2.2.2.2
  cases r2
  · go_wp2
    go_ret
    exact ⟨⟨false, rfl, fun h => by cases h⟩, HB2.out⟩
  go_wp2_with fail
  refine (pairsok_any d.set _ _ (HS1.out.below HB2.out)).mono ?_
  rintro e w3 ⟨⟨r3, rfl, k3⟩, hb3⟩
  have HB3 := Lib.hid (below_seq HB2.out hb3)
  have HX3 := Lib.hid (HX2.out.below hb3 hx2)
  cases r3
  · go_wp2
    go_ret
    exact ⟨⟨false, rfl, fun h => by cases h⟩, HB3.out⟩
  have hok : SLen d := ⟨by rw [HNC.out]; omega, by rw [HNQ.out]; omega, Nat.le_trans (k1 (by simp)) (by decide), Nat.le_trans (k2 (by simp)) (by decide), Nat.le_trans (k3 (by simp)) (by decide)⟩
  have HOK := Lib.hid hok
  clear hok k1 k2 k3 g0 g1 g2 g3 g4 g5 g6 g7 g8 g9 g10 m9 m10
  go_wp2
  go_loopw [3] (fun iv wr => ∃ i : Nat, iv = .int .i64 i ∧ i ≤ NC ∧ Below w3.heap.size w3 wr) (fun iv _ => NC - (intOf iv).toNat)
  case atStart => exact ⟨0, rfl, Nat.zero_le _, Below.refl _ _⟩
  case round =>
    obtain ⟨i, rfl, hi, hbl⟩ := hrel
    have HW := Lib.hid hbl
    have HX4 := Lib.hid (HX3.out.below hbl HX3.out.lt)
    have HB4 := Lib.hid (below_seq HB3.out hbl)
    have hgx := HX4.out.s11.2.2.2.1
    clear hbl
    by_cases hlt : i < NC
    · have hI : (i : Int) < (NC : Int) := by omega
      have hI0 : (0 : Int) ≤ (i : Int) := by omega
      obtain ⟨ga, oa, rfl, hga, fa⟩ := HFC.out (by rw [HNC.out]; omega)
      have fa := fa i (by rw [HNC.out]; exact hlt)
      generalize d.cont[i]'(by rw [HNC.out]; exact hlt) = x at *
      have a1 := (HB4.out.cell (p := ⟨ga, oa + i * 4 + 1, none⟩) hga).trans (fa 1 _ rfl)
      have a2 := (HB4.out.cell (p := ⟨ga, oa + i * 4 + 2, none⟩) hga).trans (fa 2 _ rfl)
      have a3 := (HB4.out.cell (p := ⟨ga, oa + i * 4 + 3, none⟩) hga).trans (fa 3 _ rfl)
      clear fa
      by_cases s1 : 300 < x.text.size
      · have s1I : (300 : Int) < (x.text.size : Int) := by omega
        go_wp2
        go_ret
        exact ⟨⟨false, rfl, fun h => by cases h⟩, HB4.out⟩
      have s1I : ¬ (300 : Int) < (x.text.size : Int) := by omega
      by_cases s2 : 300 < x.sep.size
      · have s2I : (300 : Int) < (x.sep.size : Int) := by omega
        go_wp2
        go_ret
        exact ⟨⟨false, rfl, fun h => by cases h⟩, HB4.out⟩
      have s2I : ¬ (300 : Int) < (x.sep.size : Int) := by omega
      by_cases s3 : 100 < x.style.size
      · have s3I : (100 : Int) < (x.style.size : Int) := by omega
        go_wp2
        go_ret
        exact ⟨⟨false, rfl, fun h => by cases h⟩, HB4.out⟩
      have s3I : ¬ (100 : Int) < (x.style.size : Int) := by omega
      go_wp2
      go_roundw
      case rel => exact ⟨i + 1, by go_num, by omega, HW.out⟩
      case measure => simp [intOf]; omega
    · obtain rfl : i = NC := by omega
      have hq6 := HX4.out.s11.2.2.2.2.2.2.1
      go_wp2
      go_loopw [4] (fun iv wr2 => ∃ i2 : Nat, iv = .int .i64 i2 ∧ i2 ≤ NQ ∧ Below wr.heap.size wr wr2) (fun iv _ => NQ - (intOf iv).toNat)
      case atStart => exact ⟨0, rfl, Nat.zero_le _, Below.refl _ _⟩
      case round =>
        obtain ⟨j, rfl, hj, hbl⟩ := hrel
        have HW5 := Lib.hid hbl
        have HX5 := Lib.hid (HX4.out.below hbl HX4.out.lt)
        have HB5 := Lib.hid (below_seq HB4.out hbl)
        have hgx5 := HX5.out.s11.2.2.2.2.2.2.1
        clear hbl hgx hq6
        by_cases hlt : j < NQ
        · have hI : (j : Int) < (NQ : Int) := by omega
          have hI0 : (0 : Int) ≤ (j : Int) := by omega
          obtain ⟨ga, oa, rfl, hga, fa⟩ := HFQ.out (by rw [HNQ.out]; omega)
          have fa := fa j (by rw [HNQ.out]; exact hlt)
          generalize d.quotes[j]'(by rw [HNQ.out]; exact hlt) = x at *
          have a0 := (HB5.out.cell (p := ⟨ga, oa + j, none⟩) hga).trans fa
          clear fa
          by_cases s1 : 300 < x.size
          · have s1I : (300 : Int) < (x.size : Int) := by omega
            go_wp2
            go_ret
            exact ⟨⟨false, rfl, fun h => by cases h⟩, HB5.out⟩
          have s1I : ¬ (300 : Int) < (x.size : Int) := by omega
          go_wp2
          go_roundw
          case rel => exact ⟨j + 1, by go_num, by omega, HW5.out⟩
          case measure => simp [intOf]; omega
        · obtain rfl : j = NQ := by omega
          go_wp2
          go_ret
          exact ⟨⟨true, rfl, fun _ => HOK.out⟩, HB5.out⟩
end Go.Proofs.YtkpaokcgjeplpaaDoor
