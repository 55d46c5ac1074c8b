
import Derived.Test.YtfggpenfdfklkaaGreatShA
import Derived.BigQuiet
namespace Go.Proofs.YtfggpenfdfklkaaGreat
open Go.RowKit
/-! The document's own comparing of declarations and of rules: of equal ones. -/
theorem RdD.base {w : World} {P : Nat → Prop} {v : Value} {ds : List DeclD} (h : RdD w P v ds) (hp : 0 < ds.length) : ∃ b off c, v = .slice (some ⟨b, off, none⟩) ds.length c ∧ ds.length ≤ c ∧ P b ∧ b < w.heap.size ∧ ∀ j, (hj : j < ds.length) → DAt w P b (off + j * 3) ds[j] := by
  obtain ⟨a, c, hv, hle, h⟩ := h
  obtain ⟨b, off, rfl, hP, hb, hc⟩ := h hp
  exact ⟨b, off, c, hv, hle, hP, hb, hc⟩
theorem RdRu.base {w : World} {P : Nat → Prop} {v : Value} {ds : List RuleD} (h : RdRu w P v ds) (hp : 0 < ds.length) : ∃ b off c, v = .slice (some ⟨b, off, none⟩) ds.length c ∧ ds.length ≤ c ∧ P b ∧ b < w.heap.size ∧ ∀ j, (hj : j < ds.length) → RAt w P b (off + j * 4) ds[j] := by
  obtain ⟨a, c, hv, hle, h⟩ := h
  obtain ⟨b, off, rfl, hP, hb, hc⟩ := h hp
  exact ⟨b, off, c, hv, hle, hP, hb, hc⟩
theorem RdRu.sl {w : World} {P : Nat → Prop} {v : Value} {ds : List RuleD} (h : RdRu w P v ds) : ∃ a c, v = .slice a ds.length c := by
  obtain ⟨a, c, hv, _, _⟩ := h
  exact ⟨a, c, hv⟩
set_option maxRecDepth 100000 in
set_option maxHeartbeats 3200000 in
theorem samedecls_any {ds : List DeclD} {v1 v2 : Value} {w : World} {P Q : Nat → Prop} (h1 : RdD w P v1 ds) (h2 : RdD w Q v2 ds) (hz : ∀ d ∈ ds, szL d.val ≤ 1000000000) (hl : ds.length ≤ 100000000) :
    Calls Tryz.prog 16 #[v1, v2] w fun e w' => e = .returned (.bool true) ∧ ∃ k, w' = w.drewN k := by
  by_cases hp : 0 < ds.length
  · obtain ⟨b1, o1, c1, rfl, hle1, _, hb1, g1⟩ := h1.base hp
    obtain ⟨b2, o2, c2, rfl, hle2, _, hb2, g2⟩ := h2.base hp
    have G1 := Lib.hid g1
    have G2 := Lib.hid g2
    have HZ := Lib.hid hz
    clear g1 g2 h1 h2 hp hz
    obtain ⟨N, hN⟩ : ∃ N, ds.length = N := ⟨_, rfl⟩
    rw [hN] at hl hle1 hle2 ⊢
    have HN := Lib.hid hN
    clear hN
    go_enter Tryz.func16, Tryz.ntmps16
    go_wp2
    go_loopw [5] (fun i wr => ∃ k j : Nat, k ≤ N ∧ i = .int .i64 k ∧ wr = w.drewN j) (fun i _ => N - (intOf i).toNat)
    case atStart => exact ⟨0, 0, Nat.zero_le _, rfl, rfl⟩
    case round =>
      obtain ⟨k, j, hk, rfl, hwr⟩ := hrel
      have hh : wr.heap = w.heap := by rw [hwr]; rfl
      have HW := Lib.hid hwr
      have HH := Lib.hid hh
      clear hwr hh
      by_cases hlt : k < N
      · have d1 := G1.out k (by rw [HN.out]; exact hlt)
        have d2 := G2.out k (by rw [HN.out]; exact hlt)
        have hs := HZ.out _ (List.getElem_mem (by rw [HN.out]; exact hlt : k < ds.length))
        generalize ds[k]'(by rw [HN.out]; exact hlt) = d at *
        obtain ⟨nm, vl, im⟩ := d
        obtain ⟨u1, e1, r1⟩ := d1.c1
        obtain ⟨u2, e2, r2⟩ := d2.c1
        have p0 := (World.cell?_of_block (a := ⟨b1, o1 + k * 3, none⟩) (show wr.heap[b1]? = w.heap[b1]? by rw [HH.out])).trans d1.c0
        have p1 := (World.cell?_of_block (a := ⟨b1, o1 + k * 3 + 1, none⟩) (show wr.heap[b1]? = w.heap[b1]? by rw [HH.out])).trans e1
        have p2 := (World.cell?_of_block (a := ⟨b1, o1 + k * 3 + 2, none⟩) (show wr.heap[b1]? = w.heap[b1]? by rw [HH.out])).trans d1.c2
        have q0 := (World.cell?_of_block (a := ⟨b2, o2 + k * 3, none⟩) (show wr.heap[b2]? = w.heap[b2]? by rw [HH.out])).trans d2.c0
        have q1 := (World.cell?_of_block (a := ⟨b2, o2 + k * 3 + 1, none⟩) (show wr.heap[b2]? = w.heap[b2]? by rw [HH.out])).trans e2
        have q2 := (World.cell?_of_block (a := ⟨b2, o2 + k * 3 + 2, none⟩) (show wr.heap[b2]? = w.heap[b2]? by rw [HH.out])).trans d2.c2
        replace r1 := r1.move (w' := wr) (fun _ _ _ => by rw [HH.out]) (by rw [HH.out]; exact Nat.le_refl _)
        replace r2 := r2.move (w' := wr) (fun _ _ _ => by rw [HH.out]) (by rw [HH.out]; exact Nat.le_refl _)
        simp only at p0 p1 p2 q0 q1 q2 r1 r2 hs
        have hi1 : (0 : Int) ≤ (k : Int) := by omega
        have hi2 : (k : Int) < (N : Int) := by omega
        have R1 := Lib.hid r1
        have R2 := Lib.hid r2
        have HS := Lib.hid (refsame_any _ vl (Nat.le_refl _) hs u1 u2)
        have s0 : (nm.toList == nm.toList) = true := by simp
        have s1 : (im != im) = false := by simp
        clear r1 r2 d1 d2 e1 e2 hs
        go_wp2
        go_quiet ((go_at_call 19; refine Calls.quiet_of (HS.out _ P Q ?_ ?_); exact R1.out.move (fun _ _ _ => rfl) (Nat.le_refl _); exact R2.out.move (fun _ _ _ => rfl) (Nat.le_refl _)))
        go_wp2
        go_roundw
        case rel => exact ⟨k + 1, _, by omega, by go_num, by rw [HW.out, World.drewN_drewN]⟩
        case measure => simp [intOf]; omega
      · go_wp2
        go_ret
        exact ⟨rfl, _, HW.out⟩
  · obtain rfl : ds = [] := List.eq_nil_of_length_eq_zero (by omega)
    obtain ⟨a1, c1, rfl⟩ := h1.sl
    obtain ⟨a2, c2, rfl⟩ := h2.sl
    clear h1 h2 hz hl hp
    go_enter Tryz.func16, Tryz.ntmps16
    go_wp2
    refine wp_loop_rounds 1 ?_
    rw [rounds_succ]
    go_wp2
    go_ret
    exact ⟨rfl, 0, rfl⟩
set_option maxRecDepth 100000 in
set_option maxHeartbeats 3200000 in
theorem samerules_any {ds : List RuleD} {v1 v2 : Value} {w : World} {P Q : Nat → Prop} (h1 : RdRu w P v1 ds) (h2 : RdRu w Q v2 ds) (hz : ∀ r ∈ ds, szL r.pre ≤ 1000000000 ∧ r.decls.length ≤ 100000000 ∧ ∀ d ∈ r.decls, szL d.val ≤ 1000000000) (hl : ds.length ≤ 100000000) :
    Calls Tryz.prog 15 #[v1, v2] w fun e w' => e = .returned (.bool true) ∧ ∃ k, w' = w.drewN k := by
  by_cases hp : 0 < ds.length
  · obtain ⟨b1, o1, c1, rfl, hle1, _, hb1, g1⟩ := h1.base hp
    obtain ⟨b2, o2, c2, rfl, hle2, _, hb2, g2⟩ := h2.base hp
    have G1 := Lib.hid g1
    have G2 := Lib.hid g2
    have HZ := Lib.hid hz
    clear g1 g2 h1 h2 hp hz
    obtain ⟨N, hN⟩ : ∃ N, ds.length = N := ⟨_, rfl⟩
    rw [hN] at hl hle1 hle2 ⊢
    have HN := Lib.hid hN
    clear hN
    go_enter Tryz.func15, Tryz.ntmps15
    go_wp2
    go_loopw [5] (fun i wr => ∃ k j : Nat, k ≤ N ∧ i = .int .i64 k ∧ wr = w.drewN j) (fun i _ => N - (intOf i).toNat)
    case atStart => exact ⟨0, 0, Nat.zero_le _, rfl, rfl⟩
    case round =>
      obtain ⟨k, j, hk, rfl, hwr⟩ := hrel
      have hh : wr.heap = w.heap := by rw [hwr]; rfl
      have HW := Lib.hid hwr
      have HH := Lib.hid hh
      clear hwr hh
      by_cases hlt : k < N
      · have d1 := G1.out k (by rw [HN.out]; exact hlt)
        have d2 := G2.out k (by rw [HN.out]; exact hlt)
        have hs := HZ.out _ (List.getElem_mem (by rw [HN.out]; exact hlt : k < ds.length))
        generalize ds[k]'(by rw [HN.out]; exact hlt) = d at *
        obtain ⟨nm, pl, bl, dl⟩ := d
        obtain ⟨u1, e1, r1⟩ := d1.c1
        obtain ⟨u2, e2, r2⟩ := d2.c1
        obtain ⟨y1, f1, t1⟩ := d1.c3
        obtain ⟨y2, f2, t2⟩ := d2.c3
        have p0 := (World.cell?_of_block (a := ⟨b1, o1 + k * 4, none⟩) (show wr.heap[b1]? = w.heap[b1]? by rw [HH.out])).trans d1.c0
        have p1 := (World.cell?_of_block (a := ⟨b1, o1 + k * 4 + 1, none⟩) (show wr.heap[b1]? = w.heap[b1]? by rw [HH.out])).trans e1
        have p2 := (World.cell?_of_block (a := ⟨b1, o1 + k * 4 + 2, none⟩) (show wr.heap[b1]? = w.heap[b1]? by rw [HH.out])).trans d1.c2
        have p3 := (World.cell?_of_block (a := ⟨b1, o1 + k * 4 + 3, none⟩) (show wr.heap[b1]? = w.heap[b1]? by rw [HH.out])).trans f1
        have q0 := (World.cell?_of_block (a := ⟨b2, o2 + k * 4, none⟩) (show wr.heap[b2]? = w.heap[b2]? by rw [HH.out])).trans d2.c0
        have q1 := (World.cell?_of_block (a := ⟨b2, o2 + k * 4 + 1, none⟩) (show wr.heap[b2]? = w.heap[b2]? by rw [HH.out])).trans e2
        have q2 := (World.cell?_of_block (a := ⟨b2, o2 + k * 4 + 2, none⟩) (show wr.heap[b2]? = w.heap[b2]? by rw [HH.out])).trans d2.c2
        have q3 := (World.cell?_of_block (a := ⟨b2, o2 + k * 4 + 3, none⟩) (show wr.heap[b2]? = w.heap[b2]? by rw [HH.out])).trans f2
        replace r1 := r1.move (w' := wr) (fun _ _ _ => by rw [HH.out]) (by rw [HH.out]; exact Nat.le_refl _)
        replace r2 := r2.move (w' := wr) (fun _ _ _ => by rw [HH.out]) (by rw [HH.out]; exact Nat.le_refl _)
        replace t1 := t1.move (w' := wr) (fun _ _ _ => by rw [HH.out]) (by rw [HH.out]; exact Nat.le_refl _)
        replace t2 := t2.move (w' := wr) (fun _ _ _ => by rw [HH.out]) (by rw [HH.out]; exact Nat.le_refl _)
        simp only at p0 p1 p2 p3 q0 q1 q2 q3 r1 r2 t1 t2 hs
        have hi1 : (0 : Int) ≤ (k : Int) := by omega
        have hi2 : (k : Int) < (N : Int) := by omega
        have R1 := Lib.hid r1
        have R2 := Lib.hid r2
        have T1 := Lib.hid t1
        have T2 := Lib.hid t2
        have HS := Lib.hid (refsame_any _ pl (Nat.le_refl _) hs.1 u1 u2)
        have HD := Lib.hid hs.2
        have s0 : (nm.toList == nm.toList) = true := by simp
        have s1 : (bl != bl) = false := by simp
        clear r1 r2 d1 d2 e1 e2 f1 f2 t1 t2 hs
        go_wp2
        go_quiet (first | (go_at_call 19; refine Calls.quiet_of (HS.out _ P Q ?_ ?_); exact R1.out.move (fun _ _ _ => rfl) (Nat.le_refl _); exact R2.out.move (fun _ _ _ => rfl) (Nat.le_refl _)) | (go_at_call 16; refine Calls.quiet_of (samedecls_any (P := P) (Q := Q) (ds := dl) ?_ ?_ HD.out.2 HD.out.1); exact T1.out.move (fun _ _ _ => rfl) (Nat.le_refl _); exact T2.out.move (fun _ _ _ => rfl) (Nat.le_refl _)))
        go_wp2
        go_roundw
        case rel => exact ⟨k + 1, _, by omega, by go_num, by rw [HW.out, World.drewN_drewN]⟩
        case measure => simp [intOf]; omega
      · go_wp2
        go_ret
        exact ⟨rfl, _, HW.out⟩
  · obtain rfl : ds = [] := List.eq_nil_of_length_eq_zero (by omega)
    obtain ⟨a1, c1, rfl⟩ := h1.sl
    obtain ⟨a2, c2, rfl⟩ := h2.sl
    clear h1 h2 hz hl hp
    go_enter Tryz.func15, Tryz.ntmps15
    go_wp2
    refine wp_loop_rounds 1 ?_
    rw [rounds_succ]
    go_wp2
    go_ret
    exact ⟨rfl, 0, rfl⟩
end Go.Proofs.YtfggpenfdfklkaaGreat
