
import Derived.Test.YtkpaokcgjeplpaaDoorPrA
namespace Go.Proofs.YtkpaokcgjeplpaaDoor
open Go.RowKit
/-! Styles that lie in memory: how they read; fleuronref12's SamePairs, SameStyle of equal ones. -/
def RdK {α : Type} (f : α → List Value) (k : Nat) (w : World) (v : Value) (l : List α) : Prop :=
  ∃ (a : Option Addr) (c : Nat), v = .slice a l.length c ∧ l.length ≤ c ∧ (0 < l.length → ∃ b off, a = some ⟨b, off, none⟩ ∧ b < w.heap.size ∧ ∀ j, (hj : j < l.length) → ∀ m u, (f l[j])[m]? = some u → w.cell? ⟨b, off + j * k + m, none⟩ = some u)
theorem RdK.below {α : Type} {f : α → List Value} {k : Nat} {w w' : World} {v : Value} {l : List α} (h : RdK f k w v l) (hb : Below w.heap.size w w') : RdK f k w' v l := by
  obtain ⟨a, c, hv, hle, h⟩ := h
  refine ⟨a, c, hv, hle, fun hp => ?_⟩
  obtain ⟨b, off, ha, hlt, hc⟩ := h hp
  exact ⟨b, off, ha, Nat.lt_of_lt_of_le hlt hb.size, fun j hj m u hu => (hb.cell (p := ⟨b, _, none⟩) hlt).trans (hc j hj m u hu)⟩
theorem RdK.nil {α : Type} (f : α → List Value) (k : Nat) (w : World) (a : Option Addr) (c : Nat) : RdK f k w (.slice a 0 c) [] := ⟨a, c, rfl, Nat.zero_le _, fun h => absurd h (Nat.lt_irrefl 0)⟩
theorem RdK.own {α : Type} {f : α → List Value} {k B : Nat} {T : TypeId} {w : World} {v : Value} {l : List α} (hf : ∀ x, (f x).length = k) (h : w.ownsRow B T k v l.length (l.flatMap f)) : RdK f k w v l := by
  have hl := h.lt
  have hc := fun g hg => h.cells (g := g) hg
  obtain ⟨a, c, hv, hle⟩ := row_sl h
  refine ⟨a, c, hv, hle, fun hp => ?_⟩
  rcases h.2 with ⟨h1, h0⟩ | ⟨g, cap, cur, hg, _⟩
  · omega
  · rw [hv] at hg
    injection hg with hg _ _
    subst hg
    have ho : v.ownBlock = some g := by rw [hv]; rfl
    refine ⟨g, 0, rfl, (hl g ho).2, fun j hj m u hu => ?_⟩
    have hm : m < k := by
      have := (List.getElem?_eq_some_iff.1 hu).1
      rw [hf] at this
      exact this
    have := hc g ho (j * k + m) u ((flat_at f k hf l j hj m hm).trans hu)
    rw [add0] at this
    rw [Nat.zero_add]
    exact this
abbrev RdIt (w : World) (v : Value) (l : List ItD) : Prop := RdK icells 4 w v l
abbrev RdPa (w : World) (v : Value) (l : List PaD) : Prop := RdK pcells 4 w v l
/-- A style that reads as one. -/
structure RdSty (w : World) (vc vq vr va vs : Value) (d : StyD) : Prop where
  cont : RdIt w vc d.cont
  quotes : RdTx w vq d.quotes
  reset : RdPa w vr d.reset
  add : RdPa w va d.add
  set : RdPa w vs d.set
theorem RdSty.below {w w' : World} {vc vq vr va vs : Value} {d : StyD} (h : RdSty w vc vq vr va vs d) (hb : Below w.heap.size w w') : RdSty w' vc vq vr va vs d :=
  ⟨h.cont.below hb, h.quotes.below hb, h.reset.below hb, h.add.below hb, h.set.below hb⟩
set_option maxRecDepth 100000 in
set_option maxHeartbeats 400000 in
theorem paNe_run (a : ByteArray) (b : Int) (c d : Bool) (w : World) : (binOp .neq 47 (.agg #[.string a, .int .i64 b, .bool c, .bool d]) (.agg #[.string a, .int .i64 b, .bool c, .bool d])).run Tryd.prog w = .ok (.bool false) w := by
  have ht : Tryd.prog.underlying 47 = some (.struct (Tryd.prog.fieldsOf 47)) := by kernel_rfl
  have hp : Tryd.prog.stoodInHeld 47 = false := by kernel_rfl
  have hq : (Op.equalIn 10000 47 (.agg #[.string a, .int .i64 b, .bool c, .bool d]) (.agg #[.string a, .int .i64 b, .bool c, .bool d])).run Tryd.prog w = .ok true w := by
    rw [run_equalIn_agg _ _ _ _ _ ht hp]
    have hf := ht
    rw [Tryd.underlying47] at hf
    injection hf with hf
    injection hf with hf
    rw [← hf]
    simp [go_sem, Op.eqFields, Tryd.underlying3, Tryd.underlying9, Tryd.underlying4]
  simp only [run_neq_struct]
  rw [hq]
  rfl
set_option maxRecDepth 100000 in
set_option maxHeartbeats 400000 in
theorem itNe_run (a : Int) (b c d : ByteArray) (w : World) : (binOp .neq 45 (.agg #[.int .i64 a, .string b, .string c, .string d]) (.agg #[.int .i64 a, .string b, .string c, .string d])).run Tryd.prog w = .ok (.bool false) w := by
  have ht : Tryd.prog.underlying 45 = some (.struct (Tryd.prog.fieldsOf 45)) := by kernel_rfl
  have hp : Tryd.prog.stoodInHeld 45 = false := by kernel_rfl
  have hq : (Op.equalIn 10000 45 (.agg #[.int .i64 a, .string b, .string c, .string d]) (.agg #[.int .i64 a, .string b, .string c, .string d])).run Tryd.prog w = .ok true w := by
    rw [run_equalIn_agg _ _ _ _ _ ht hp]
    have hf := ht
    rw [Tryd.underlying45] at hf
    injection hf with hf
    injection hf with hf
    rw [← hf]
    simp [go_sem, Op.eqFields, Tryd.underlying3, Tryd.underlying9]
  simp only [run_neq_struct]
  rw [hq]
  rfl
set_option maxRecDepth 100000 in
set_option maxHeartbeats 1600000 in
theorem samepairs_any (l : List PaD) (va vb : Value) (w : World) (ha : RdPa w va l) (hb : RdPa w vb l) (hl : l.length ≤ 1000000000) :
    Calls Tryd.prog 20 #[va, vb] w fun e w' => e = .returned (.bool true) ∧ Below w.heap.size w w' := by
  obtain ⟨pa, ca, rfl, hla, hca⟩ := ha
  obtain ⟨pb, cb, rfl, hlb, hcb⟩ := hb
  obtain ⟨N, hN⟩ : ∃ N, l.length = N := ⟨_, rfl⟩
  have HA := Lib.hid hca
  have HB := Lib.hid hcb
  have HN := Lib.hid hN
  have n1 : ((N : Int) != (N : Int)) = false := by simp
  rw [hN] at hl hla hlb ⊢
  clear hca hcb hN
  go_enter Tryd.func20, Tryd.ntmps20
  go_wp2
  go_loopw [5] (fun iv wr => ∃ i : Nat, iv = .int .i64 i ∧ i ≤ N ∧ Below w.heap.size w wr) (fun iv _ => N - (intOf iv).toNat)
  case atStart => exact ⟨0, rfl, Nat.zero_le _, Below.refl _ _⟩
  case round =>
    obtain ⟨i, rfl, hi, hbl⟩ := hrel
    have HW := Lib.hid hbl
    have HD := Lib.hid hbl.drew
    clear hbl
    by_cases hlt : i < N
    · have hI : (i : Int) < (N : Int) := by omega
      have hI0 : (0 : Int) ≤ (i : Int) := by omega
      obtain ⟨ga, oa, rfl, hga, fa⟩ := HA.out (by rw [HN.out]; omega)
      obtain ⟨gb, ob, rfl, hgb, fb⟩ := HB.out (by rw [HN.out]; omega)
      have fa := fa i (by rw [HN.out]; exact hlt)
      have fb := fb i (by rw [HN.out]; exact hlt)
      generalize l[i]'(by rw [HN.out]; exact hlt) = x at *
      have a0 := (HW.out.cell (p := ⟨ga, oa + i * 4, none⟩) hga).trans (fa 0 _ rfl)
      have a1 := (HW.out.cell (p := ⟨ga, oa + i * 4 + 1, none⟩) hga).trans (fa 1 _ rfl)
      have a2 := (HW.out.cell (p := ⟨ga, oa + i * 4 + 2, none⟩) hga).trans (fa 2 _ rfl)
      have a3 := (HW.out.cell (p := ⟨ga, oa + i * 4 + 3, none⟩) hga).trans (fa 3 _ rfl)
      have b0 := (HW.out.cell (p := ⟨gb, ob + i * 4, none⟩) hgb).trans (fb 0 _ rfl)
      have b1 := (HW.out.cell (p := ⟨gb, ob + i * 4 + 1, none⟩) hgb).trans (fb 1 _ rfl)
      have b2 := (HW.out.cell (p := ⟨gb, ob + i * 4 + 2, none⟩) hgb).trans (fb 2 _ rfl)
      have b3 := (HW.out.cell (p := ⟨gb, ob + i * 4 + 3, none⟩) hgb).trans (fb 3 _ rfl)
      have hne := paNe_run x.name x.n x.rev x.auto
      clear fa fb
      go_upto_region 6 with fail
      go_region
      all_goals go_wp2
      all_goals exact ⟨⟨i + 1, by go_num, by omega, HD.out⟩, by simp [intOf]; omega⟩
    · obtain rfl : i = N := by omega
      go_wp2
      go_ret
      exact ⟨rfl, HW.out⟩
theorem CB.s11 {w : World} {b : Nat} {d : StyD} {vc vq vr va vs : Value} (h : CB 26 w b (styC d vc vq vr va vs)) : w.cell? ⟨b, 0, none⟩ = some (.string d.disp) ∧ w.cell? ⟨b, 1, none⟩ = some (.string d.lt) ∧ w.cell? ⟨b, 2, none⟩ = some (.string d.color) ∧ w.cell? ⟨b, 3, none⟩ = some (vc) ∧ w.cell? ⟨b, 4, none⟩ = some (.bool d.normal) ∧ w.cell? ⟨b, 5, none⟩ = some (.bool d.none) ∧ w.cell? ⟨b, 6, none⟩ = some (vq) ∧ w.cell? ⟨b, 7, none⟩ = some (.bool d.auto) ∧ w.cell? ⟨b, 8, none⟩ = some (vr) ∧ w.cell? ⟨b, 9, none⟩ = some (va) ∧ w.cell? ⟨b, 10, none⟩ = some (vs) :=
  ⟨h.cell 0, h.cell 1, h.cell 2, h.cell 3, h.cell 4, h.cell 5, h.cell 6, h.cell 7, h.cell 8, h.cell 9, h.cell 10⟩
set_option maxRecDepth 100000 in
set_option maxHeartbeats 3200000 in
theorem samestyle_any {d : StyD} {p1 p2 p3 p4 p5 q1 q2 q3 q4 q5 : Value} {w : World} (ha : RdSty w p1 p2 p3 p4 p5 d) (hb : RdSty w q1 q2 q3 q4 q5 d) (l1 : d.cont.length ≤ 1000000000) (l2 : d.quotes.length ≤ 1000000000) (l3 : d.reset.length ≤ 1000000000) (l4 : d.add.length ≤ 1000000000) (l5 : d.set.length ≤ 1000000000) :
    Calls Tryd.prog 8 #[.agg (styC d p1 p2 p3 p4 p5), .agg (styC d q1 q2 q3 q4 q5)] w fun e w' => e = .returned (.bool true) ∧ Below w.heap.size w w' := by
  obtain ⟨hc1, hq1, hr1, hd1, hs1⟩ := ha
  obtain ⟨hc2, hq2, hr2, hd2, hs2⟩ := hb
  have HR1 := Lib.hid hr1
  have HR2 := Lib.hid hr2
  have HD1 := Lib.hid hd1
  have HD2 := Lib.hid hd2
  have HS1 := Lib.hid hs1
  have HS2 := Lib.hid hs2
  obtain ⟨aC, cC, rfl, _, fC⟩ := hc1
  obtain ⟨aD, cD, rfl, _, fD⟩ := hc2
  obtain ⟨aQ, cQ, rfl, _, fQ⟩ := hq1
  obtain ⟨aP, cP, rfl, _, fP⟩ := hq2
  obtain ⟨aR, cR, rfl, _, _⟩ := hr1
  obtain ⟨aS, cS, rfl, _, _⟩ := hr2
  obtain ⟨aA, cA, rfl, _, _⟩ := hd1
  obtain ⟨aB, cB, rfl, _, _⟩ := hd2
  obtain ⟨aU, cU, rfl, _, _⟩ := hs1
  obtain ⟨aV, cV, rfl, _, _⟩ := hs2
  obtain ⟨NC, hNC⟩ : ∃ N, d.cont.length = N := ⟨_, rfl⟩
  obtain ⟨NQ, hNQ⟩ : ∃ N, d.quotes.length = N := ⟨_, rfl⟩
  have HNC := Lib.hid hNC
  have HNQ := Lib.hid hNQ
  have n1 : ((NC : Int) != (NC : Int)) = false := by simp
  have n2 : ((NQ : Int) != (NQ : Int)) = false := by simp
  have b1 : ∀ b : Bool, (b != b) = false := by simp
  rw [hNC] at l1 ⊢
  rw [hNQ] at l2 ⊢
  have HFC := Lib.hid fC
  have HFD := Lib.hid fD
  have HFQ := Lib.hid fQ
  have HFP := Lib.hid fP
  clear fC fD fQ fP hNC hNQ
  have HB0 : Hid (Below w.heap.size w ((w.alloc (.cells (styC d (.slice aC NC cC) (.slice aQ NQ cQ) (.slice aR d.reset.length cR) (.slice aA d.add.length cA) (.slice aU d.set.length cU)) 26)).alloc (.cells (styC d (.slice aD NC cD) (.slice aP NQ cP) (.slice aS d.reset.length cS) (.slice aB d.add.length cB) (.slice aV d.set.length cV)) 26))) := ((Below.refl w.heap.size w).alloc (Nat.le_refl _) _).alloc (by simp) _
  have HX0 := Lib.hid ((CB.new (T := 26) w (styC d (.slice aC NC cC) (.slice aQ NQ cQ) (.slice aR d.reset.length cR) (.slice aA d.add.length cA) (.slice aU d.set.length cU))).alloc (.cells (styC d (.slice aD NC cD) (.slice aP NQ cP) (.slice aS d.reset.length cS) (.slice aB d.add.length cB) (.slice aV d.set.length cV)) 26))
  have HY0 : Hid (CB 26 ((w.alloc (.cells (styC d (.slice aC NC cC) (.slice aQ NQ cQ) (.slice aR d.reset.length cR) (.slice aA d.add.length cA) (.slice aU d.set.length cU)) 26)).alloc (.cells (styC d (.slice aD NC cD) (.slice aP NQ cP) (.slice aS d.reset.length cS) (.slice aB d.add.length cB) (.slice aV d.set.length cV)) 26)) (w.heap.size + 1) (styC d (.slice aD NC cD) (.slice aP NQ cP) (.slice aS d.reset.length cS) (.slice aB d.add.length cB) (.slice aV d.set.length cV))) := by
    have := CB.new (T := 26) (w.alloc (.cells (styC d (.slice aC NC cC) (.slice aQ NQ cQ) (.slice aR d.reset.length cR) (.slice aA d.add.length cA) (.slice aU d.set.length cU)) 26)) (styC d (.slice aD NC cD) (.slice aP NQ cP) (.slice aS d.reset.length cS) (.slice aB d.add.length cB) (.slice aV d.set.length cV))
    rw [show (w.alloc (.cells (styC d (.slice aC NC cC) (.slice aQ NQ cQ) (.slice aR d.reset.length cR) (.slice aA d.add.length cA) (.slice aU d.set.length cU)) 26)).heap.size = w.heap.size + 1 by simp] at this
    exact this
  go_enter Tryd.func8, Tryd.ntmps8
  go_upto_region 1 with fail
  generalize (w.alloc (.cells (styC d _ _ _ _ _) 26)).alloc (.cells (styC d _ _ _ _ _) 26) = W0 at *
  obtain ⟨g0, g1, g2, g3, g4, g5, g6, g7, g8, g9, g10⟩ := HX0.out.s11
  obtain ⟨h0, h1, h2, h3, h4, h5, h6, h7, h8, h9, h10⟩ := HY0.out.s11
  have hx0 := HX0.out.lt
  have hy0 := HY0.out.lt
  go_wp2_with (first | (go_at_call 20; (with_reducible refine (samepairs_any d.reset _ _ _ (HR1.out.below HB0.out) (HR2.out.below HB0.out) l3).mono ?_); rintro e w1 ⟨rfl, hb1⟩; have HB1 := Lib.hid (below_seq HB0.out hb1); have HX1 := Lib.hid (HX0.out.below hb1 hx0); have HY1 := Lib.hid (HY0.out.below hb1 hy0); have hx1 := HX1.out.lt; have hy1 := HY1.out.lt; have k9 := HX1.out.s11.2.2.2.2.2.2.2.2.2.1; have m9 := HY1.out.s11.2.2.2.2.2.2.2.2.2.1) | (go_at_call 20; (with_reducible refine (samepairs_any d.add _ _ _ (HD1.out.below HB1.out) (HD2.out.below HB1.out) l4).mono ?_); rintro e w2 ⟨rfl, hb2⟩; have HB2 := Lib.hid (below_seq HB1.out hb2); have HX2 := Lib.hid (HX1.out.below hb2 hx1); have HY2 := Lib.hid (HY1.out.below hb2 hy1); have hx2 := HX2.out.lt; have hy2 := HY2.out.lt; have k10 := HX2.out.s11.2.2.2.2.2.2.2.2.2.2; have m10 := HY2.out.s11.2.2.2.2.2.2.2.2.2.2) | (go_at_call 20; (with_reducible refine (samepairs_any d.set _ _ _ (HS1.out.below HB2.out) (HS2.out.below HB2.out) l5).mono ?_); rintro e w3 ⟨rfl, hb3⟩; have HB3 := Lib.hid (below_seq HB2.out hb3); have HX3 := Lib.hid (HX2.out.below hb3 hx2); have HY3 := Lib.hid (HY2.out.below hb3 hy2)))
  clear g0 g1 g2 g3 g4 g5 g6 g7 g8 g9 g10 h0 h1 h2 h3 h4 h5 h6 h7 h8 h9 h10
  go_loopw [5] (fun iv wr => ∃ i : Nat, iv = .int .i64 i ∧ i ≤ NC ∧ Below w3.heap.size w3 wr) (fun iv _ => NC - (intOf iv).toNat)
  case atStart => exact ⟨0, rfl, Nat.zero_le _, Below.refl _ _⟩
  case round =>
    obtain ⟨i, rfl, hi, hbl⟩ := hrel
    have HW := Lib.hid hbl
    have HD := Lib.hid hbl.drew
    have HX4 := Lib.hid (HX3.out.below hbl HX3.out.lt)
    have HY4 := Lib.hid (HY3.out.below hbl HY3.out.lt)
    have HB4 := Lib.hid (below_seq HB3.out hbl)
    have hgx := HX4.out.s11.2.2.2.1
    have hgy := HY4.out.s11.2.2.2.1
    clear hbl
    by_cases hlt : i < NC
    · have hI : (i : Int) < (NC : Int) := by omega
      have hI0 : (0 : Int) ≤ (i : Int) := by omega
      obtain ⟨ga, oa, rfl, hga, fa⟩ := HFC.out (by rw [HNC.out]; omega)
      obtain ⟨gb, ob, rfl, hgb, fb⟩ := HFD.out (by rw [HNC.out]; omega)
      have fa := fa i (by rw [HNC.out]; exact hlt)
      have fb := fb i (by rw [HNC.out]; exact hlt)
      generalize d.cont[i]'(by rw [HNC.out]; exact hlt) = x at *
      have a0 := (HB4.out.cell (p := ⟨ga, oa + i * 4, none⟩) hga).trans (fa 0 _ rfl)
      have a1 := (HB4.out.cell (p := ⟨ga, oa + i * 4 + 1, none⟩) hga).trans (fa 1 _ rfl)
      have a2 := (HB4.out.cell (p := ⟨ga, oa + i * 4 + 2, none⟩) hga).trans (fa 2 _ rfl)
      have a3 := (HB4.out.cell (p := ⟨ga, oa + i * 4 + 3, none⟩) hga).trans (fa 3 _ rfl)
      have b0 := (HB4.out.cell (p := ⟨gb, ob + i * 4, none⟩) hgb).trans (fb 0 _ rfl)
      have b1 := (HB4.out.cell (p := ⟨gb, ob + i * 4 + 1, none⟩) hgb).trans (fb 1 _ rfl)
      have b2 := (HB4.out.cell (p := ⟨gb, ob + i * 4 + 2, none⟩) hgb).trans (fb 2 _ rfl)
      have b3 := (HB4.out.cell (p := ⟨gb, ob + i * 4 + 3, none⟩) hgb).trans (fb 3 _ rfl)
      have hne := itNe_run x.kind x.text x.sep x.style
      clear fa fb
      go_upto_region 6 with fail
      go_region
      all_goals go_wp2
      all_goals exact ⟨⟨i + 1, by go_num, by omega, HD.out⟩, by simp [intOf]; omega⟩
    · obtain rfl : i = NC := by omega
      have hq6 := HX4.out.s11.2.2.2.2.2.2.1
      go_wp2
      go_loopw [6] (fun iv wr2 => ∃ i2 : Nat, iv = .int .i64 i2 ∧ i2 ≤ NQ ∧ Below wr.heap.size wr wr2) (fun iv _ => NQ - (intOf iv).toNat)
      case atStart => exact ⟨0, rfl, Nat.zero_le _, Below.refl _ _⟩
      case round =>
        obtain ⟨j, rfl, hj, hbl⟩ := hrel
        have HW5 := Lib.hid hbl
        have HD5 := Lib.hid hbl.drew
        have HX5 := Lib.hid (HX4.out.below hbl HX4.out.lt)
        have HY5 := Lib.hid (HY4.out.below hbl HY4.out.lt)
        have HB5 := Lib.hid (below_seq HB4.out hbl)
        have hgx5 := HX5.out.s11.2.2.2.2.2.2.1
        have hgy5 := HY5.out.s11.2.2.2.2.2.2.1
        clear hbl hgx hgy hq6
        by_cases hlt : j < NQ
        · have hI : (j : Int) < (NQ : Int) := by omega
          have hI0 : (0 : Int) ≤ (j : Int) := by omega
          obtain ⟨ga, oa, rfl, hga, fa⟩ := HFQ.out (by rw [HNQ.out]; omega)
          obtain ⟨gb, ob, rfl, hgb, fb⟩ := HFP.out (by rw [HNQ.out]; omega)
          have fa := fa j (by rw [HNQ.out]; exact hlt)
          have fb := fb j (by rw [HNQ.out]; exact hlt)
          generalize d.quotes[j]'(by rw [HNQ.out]; exact hlt) = x at *
          have a0 := (HB5.out.cell (p := ⟨ga, oa + j, none⟩) hga).trans fa
          have b0 := (HB5.out.cell (p := ⟨gb, ob + j, none⟩) hgb).trans fb
          clear fa fb
          go_upto_region 11 with fail
          go_region
          all_goals go_wp2
          all_goals exact ⟨⟨j + 1, by go_num, by omega, HD5.out⟩, by simp [intOf]; omega⟩
        · obtain rfl : j = NQ := by omega
          go_wp2
          go_ret
          exact ⟨rfl, HB5.out⟩
end Go.Proofs.YtkpaokcgjeplpaaDoor
