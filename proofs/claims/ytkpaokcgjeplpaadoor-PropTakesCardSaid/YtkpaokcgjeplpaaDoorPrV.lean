
import Derived.Test.YtkpaokcgjeplpaaDoorPrR
import Derived.Lib.SliceRun
namespace Go.Proofs.YtkpaokcgjeplpaaDoor
open Go.RowKit Go.Maps Go.WideMaps Go.Shelf
/-! Styles taken over: clones of their lists. -/
def ClonePost {α : Type} (f : α → List Value) (k : Nat) (T : TypeId) (w : World) (l : List α) (e : Ending) (w' : World) : Prop := ∃ v, e = .returned v ∧ w'.ownsRow w.heap.size T k v l.length (l.flatMap f) ∧ Below w.heap.size w w'
theorem flat_lenK {α : Type} (f : α → List Value) (k : Nat) (hf : ∀ x, (f x).length = k) : ∀ l : List α, (l.flatMap f).length = l.length * k
  | [] => by simp
  | x :: l => by rw [List.flatMap_cons, List.length_append, hf, flat_lenK f k hf l, List.length_cons, Nat.succ_mul]; omega
theorem RdK.cell {α : Type} {f : α → List Value} {k : Nat} (hk : 0 < k) (hf : ∀ x, (f x).length = k) {w : World} {ad : Addr} {n c : Nat} {l : List α} (h : RdK f k w (.slice (some ad) n c) l) : ∀ j u, (l.flatMap f)[j]? = some u → w.cell? (ad.add j) = some u := fun j u hj => by
  have hjl := (List.getElem?_eq_some_iff.1 hj).1
  rw [flat_lenK f k hf] at hjl
  obtain ⟨a, c2, hv, _, hc⟩ := h
  injection hv with e1 _ _
  have hp : 0 < l.length := by
    rcases Nat.eq_zero_or_pos l.length with h0 | h0
    · rw [h0, Nat.zero_mul] at hjl; omega
    · exact h0
  obtain ⟨b, off, h1, _, h3⟩ := hc hp
  rw [h1] at e1
  injection e1 with e1
  subst e1
  have hadd : (⟨b, off, none⟩ : Addr).add j = ⟨b, off + j, none⟩ := by unfold Addr.add; split <;> simp_all
  rw [hadd]
  have hq : j / k < l.length := Nat.div_lt_of_lt_mul (by rw [Nat.mul_comm]; exact hjl)
  have hm : j % k < k := Nat.mod_lt _ hk
  have hjq : j = j / k * k + j % k := by rw [Nat.mul_comm]; exact (Nat.div_add_mod j k).symm
  have h4 := flat_at f k hf l (j / k) hq (j % k) hm
  rw [← hjq] at h4
  have h5 := h3 (j / k) hq (j % k) u (h4.symm.trans hj)
  rw [Nat.add_assoc, ← hjq] at h5
  exact h5
theorem RdK.far {α : Type} {f : α → List Value} {k : Nat} {w : World} {ad : Addr} {n c : Nat} {l : List α} (h : RdK f k w (.slice (some ad) n c) l) : 0 < l.length → ad.block < w.heap.size := fun hp => by
  obtain ⟨a, c2, hv, _, hc⟩ := h
  injection hv with e1 _ _
  obtain ⟨b, off, h1, h2, _⟩ := hc hp
  rw [h1] at e1
  injection e1 with e1
  subst e1
  exact h2
theorem RdK.none0 {α : Type} {f : α → List Value} {k : Nat} {w : World} {n c : Nat} {l : List α} (h : RdK f k w (.slice none n c) l) : l = [] := by
  cases l with
  | nil => rfl
  | cons x l =>
    obtain ⟨a, c2, hv, _, hc⟩ := h
    injection hv with e1 _ _
    obtain ⟨b, off, h1, _⟩ := hc (by simp)
    rw [h1] at e1
    cases e1
theorem RdTx.k {w : World} {v : Value} {l : List ByteArray} (h : RdTx w v l) : RdK (fun s => [Value.string s]) 1 w v l := by
  obtain ⟨a, c, hv, hle, h⟩ := h
  refine ⟨a, c, hv, hle, fun hp => ?_⟩
  obtain ⟨b, off, ha, hlt, hc⟩ := h hp
  refine ⟨b, off, ha, hlt, fun j hj m u hu => ?_⟩
  match m, hu with
  | 0, hu => injection hu with hu; subst hu; rw [Nat.mul_one, Nat.add_zero]; exact hc j hj
  | m + 1, hu => simp at hu
theorem flat_txt : ∀ ss : List ByteArray, ss.flatMap (fun s => [Value.string s]) = ss.map Value.string
  | [] => rfl
  | s :: l => by rw [List.flatMap_cons, flat_txt l]; rfl
theorem own_emptyI (w : World) : (w.alloc (.cells #[] 45)).ownsRow w.heap.size 45 4 (.slice (some ⟨w.heap.size, 0, none⟩) 0 0) 0 [] :=
  World.ownsRow_made w #[] 0 (Nat.le_refl _) (Nat.zero_le _) rfl
set_option maxRecDepth 100000 in
set_option maxHeartbeats 1600000 in
theorem cloneI_any {w : World} {v : Value} {l : List ItD} (h : RdK icells 4 w v l) (hl : l.length ≤ 100000000) : Calls Tryd.prog 22 #[v] w (ClonePost icells 4 45 w l) := by
  obtain ⟨i0, hi, hz0, hz1, hz2⟩ := info_parts info_item
  have hcc := h
  obtain ⟨a, c, rfl, hle, _⟩ := h
  cases a with
  | none =>
    obtain rfl := hcc.none0
    have heq := fun wx => Lib.run_eql_slice_nil (P := Tryd.prog) wx 22 45 none 0 c 0 0 Tryd.underlying22
    rw [show ([] : List ItD).length = 0 from rfl]
    clear hle hcc
    go_enter Tryd.func22, Tryd.ntmps22
    go_wp2
    go_ret
    exact ⟨_, rfl, World.ownsRow_nil _ _ _ _, Below.refl _ _⟩
  | some ad =>
    have heq := fun wx => Lib.run_eql_slice_nil (P := Tryd.prog) wx 22 45 (some ad) l.length c 0 0 Tryd.underlying22
    have HNW := Lib.hid (RdK.cell (f := icells) (k := 4) (by decide) (fun _ => rfl) hcc)
    have HLT := Lib.hid hcc.far
    have HAL := Lib.hid (flat_lenK icells 4 (fun _ => rfl) l)
    have h1cH : Hid (∀ u ∈ l.flatMap icells, u.oneCell' = true) := fun u hu => by
      obtain ⟨x, _, hx⟩ := List.mem_flatMap.1 hu
      simp only [icells, List.mem_cons, List.not_mem_nil, or_false] at hx
      rcases hx with rfl | rfl | rfl | rfl <;> rfl
    obtain ⟨N, hN⟩ : ∃ N, l.length = N := ⟨_, rfl⟩
    have HN := Lib.hid hN
    rw [hN] at hl hle heq ⊢
    clear hcc hN
    have hnews2 : Hid (∀ j u, (l.flatMap icells)[j]? = some u → (w.alloc (.cells #[] 45)).cell? (ad.add j) = some u) := fun j u hj => by
      have hjl := (List.getElem?_eq_some_iff.1 hj).1
      rw [HAL.out] at hjl
      have hb : (ad.add j).block < w.heap.size := by
        have := HLT.out (by omega)
        unfold Addr.add; split <;> exact this
      exact ((ibx_bel_any w _).cell hb).trans (HNW.out j u hj)
    go_enter Tryd.func22, Tryd.ntmps22
    go_wp2_with (at_builtin; refine wpList_append_own _ rfl _ _ 22 rfl w.heap.size 45 i0 (.agg #[.int .i64 0, .string ⟨#[]⟩, .string ⟨#[]⟩, .string ⟨#[]⟩]) 4 56 Tryd.underlying22 hi hz0 hz1 hz2 rfl (by decide) _ _ _ rfl (own_emptyI w) ad N c (l.flatMap icells) rfl (by rw [HAL.out, HN.out]) hnews2.out h1cH.out (by unfold maxLen; omega) (by omega) (by simp) ?_; intro v' w4 ho4 hg4 _)
    go_ret
    refine ⟨_, rfl, ?_, ?_⟩
    · rw [HN.out]
      simpa using ho4
    · exact (ibx_bel_any w _).grown hg4 (by simp) (fun j hj => by injection hj with hj; simp at hj; omega)
theorem own_emptyP (w : World) : (w.alloc (.cells #[] 47)).ownsRow w.heap.size 47 4 (.slice (some ⟨w.heap.size, 0, none⟩) 0 0) 0 [] :=
  World.ownsRow_made w #[] 0 (Nat.le_refl _) (Nat.zero_le _) rfl
set_option maxRecDepth 100000 in
set_option maxHeartbeats 1600000 in
theorem cloneP_any {w : World} {v : Value} {l : List PaD} (h : RdK pcells 4 w v l) (hl : l.length ≤ 100000000) : Calls Tryd.prog 24 #[v] w (ClonePost pcells 4 47 w l) := by
  obtain ⟨i0, hi, hz0, hz1, hz2⟩ := info_parts info_pair
  have hcc := h
  obtain ⟨a, c, rfl, hle, _⟩ := h
  cases a with
  | none =>
    obtain rfl := hcc.none0
    have heq := fun wx => Lib.run_eql_slice_nil (P := Tryd.prog) wx 24 47 none 0 c 0 0 Tryd.underlying24
    rw [show ([] : List PaD).length = 0 from rfl]
    clear hle hcc
    go_enter Tryd.func24, Tryd.ntmps24
    go_wp2
    go_ret
    exact ⟨_, rfl, World.ownsRow_nil _ _ _ _, Below.refl _ _⟩
  | some ad =>
    have heq := fun wx => Lib.run_eql_slice_nil (P := Tryd.prog) wx 24 47 (some ad) l.length c 0 0 Tryd.underlying24
    have HNW := Lib.hid (RdK.cell (f := pcells) (k := 4) (by decide) (fun _ => rfl) hcc)
    have HLT := Lib.hid hcc.far
    have HAL := Lib.hid (flat_lenK pcells 4 (fun _ => rfl) l)
    have h1cH : Hid (∀ u ∈ l.flatMap pcells, u.oneCell' = true) := fun u hu => by
      obtain ⟨x, _, hx⟩ := List.mem_flatMap.1 hu
      simp only [pcells, List.mem_cons, List.not_mem_nil, or_false] at hx
      rcases hx with rfl | rfl | rfl | rfl <;> rfl
    obtain ⟨N, hN⟩ : ∃ N, l.length = N := ⟨_, rfl⟩
    have HN := Lib.hid hN
    rw [hN] at hl hle heq ⊢
    clear hcc hN
    have hnews2 : Hid (∀ j u, (l.flatMap pcells)[j]? = some u → (w.alloc (.cells #[] 47)).cell? (ad.add j) = some u) := fun j u hj => by
      have hjl := (List.getElem?_eq_some_iff.1 hj).1
      rw [HAL.out] at hjl
      have hb : (ad.add j).block < w.heap.size := by
        have := HLT.out (by omega)
        unfold Addr.add; split <;> exact this
      exact ((ibx_bel_any w _).cell hb).trans (HNW.out j u hj)
    go_enter Tryd.func24, Tryd.ntmps24
    go_wp2_with (at_builtin; refine wpList_append_own _ rfl _ _ 24 rfl w.heap.size 47 i0 (.agg #[.string ⟨#[]⟩, .int .i64 0, .bool false, .bool false]) 4 32 Tryd.underlying24 hi hz0 hz1 hz2 rfl (by decide) _ _ _ rfl (own_emptyP w) ad N c (l.flatMap pcells) rfl (by rw [HAL.out, HN.out]) hnews2.out h1cH.out (by unfold maxLen; omega) (by omega) (by simp) ?_; intro v' w4 ho4 hg4 _)
    go_ret
    refine ⟨_, rfl, ?_, ?_⟩
    · rw [HN.out]
      simpa using ho4
    · exact (ibx_bel_any w _).grown hg4 (by simp) (fun j hj => by injection hj with hj; simp at hj; omega)
theorem own_emptyT (w : World) : (w.alloc (.cells #[] 9)).ownsRow w.heap.size 9 1 (.slice (some ⟨w.heap.size, 0, none⟩) 0 0) 0 [] :=
  World.ownsRow_made w #[] 0 (Nat.le_refl _) (Nat.zero_le _) rfl
set_option maxRecDepth 100000 in
set_option maxHeartbeats 1600000 in
theorem cloneT_any {w : World} {v : Value} {l : List ByteArray} (h : RdK (fun s => [Value.string s]) 1 w v l) (hl : l.length ≤ 100000000) : Calls Tryd.prog 23 #[v] w (ClonePost (fun s => [Value.string s]) 1 9 w l) := by
  obtain ⟨i0, hi, hz0, hz1, hz2⟩ := info_parts info_str
  have hcc := h
  obtain ⟨a, c, rfl, hle, _⟩ := h
  cases a with
  | none =>
    obtain rfl := hcc.none0
    have heq := fun wx => Lib.run_eql_slice_nil (P := Tryd.prog) wx 23 9 none 0 c 0 0 Tryd.underlying23
    rw [show ([] : List ByteArray).length = 0 from rfl]
    clear hle hcc
    go_enter Tryd.func23, Tryd.ntmps23
    go_wp2
    go_ret
    exact ⟨_, rfl, World.ownsRow_nil _ _ _ _, Below.refl _ _⟩
  | some ad =>
    have heq := fun wx => Lib.run_eql_slice_nil (P := Tryd.prog) wx 23 9 (some ad) l.length c 0 0 Tryd.underlying23
    have HNW := Lib.hid (RdK.cell (f := (fun s => [Value.string s])) (k := 1) (by decide) (fun _ => rfl) hcc)
    have HLT := Lib.hid hcc.far
    have HAL := Lib.hid (flat_lenK (fun s => [Value.string s]) 1 (fun _ => rfl) l)
    have h1cH : Hid (∀ u ∈ l.flatMap (fun s => [Value.string s]), u.oneCell' = true) := fun u hu => by
      obtain ⟨x, _, hx⟩ := List.mem_flatMap.1 hu
      simp only [List.mem_cons, List.not_mem_nil, or_false] at hx
      rw [hx]; rfl
    obtain ⟨N, hN⟩ : ∃ N, l.length = N := ⟨_, rfl⟩
    have HN := Lib.hid hN
    rw [hN] at hl hle heq ⊢
    clear hcc hN
    have hnews2 : Hid (∀ j u, (l.flatMap (fun s => [Value.string s]))[j]? = some u → (w.alloc (.cells #[] 9)).cell? (ad.add j) = some u) := fun j u hj => by
      have hjl := (List.getElem?_eq_some_iff.1 hj).1
      rw [HAL.out] at hjl
      have hb : (ad.add j).block < w.heap.size := by
        have := HLT.out (by omega)
        unfold Addr.add; split <;> exact this
      exact ((ibx_bel_any w _).cell hb).trans (HNW.out j u hj)
    go_enter Tryd.func23, Tryd.ntmps23
    go_wp2_with (at_builtin; refine wpList_append_own _ rfl _ _ 23 rfl w.heap.size 9 i0 (.string ⟨#[]⟩) 1 16 Tryd.underlying23 hi hz0 hz1 hz2 rfl (by decide) _ _ _ rfl (own_emptyT w) ad N c (l.flatMap (fun s => [Value.string s])) rfl (by rw [HAL.out, HN.out]) hnews2.out h1cH.out (by unfold maxLen; omega) (by omega) (by simp) ?_; intro v' w4 ho4 hg4 _)
    go_ret
    refine ⟨_, rfl, ?_, ?_⟩
    · rw [HN.out]
      simpa using ho4
    · exact (ibx_bel_any w _).grown hg4 (by simp) (fun j hj => by injection hj with hj; simp at hj; omega)
end Go.Proofs.YtkpaokcgjeplpaaDoor
namespace Go.Proofs.YtkpaokcgjeplpaaDoor
open Go.RowKit
/-! What one property's taker does. -/
/-- A slice. -/
def IsSl (v : Value) : Prop := ∃ a n c, v = .slice a n c
/-- What a taker answers, and leaves: the style's box written, nothing else that was. -/
def TakerPost (b : Nat) (w : World) (s f D : StyD) (p1 p2 p3 p4 p5 q1 q2 q3 q4 q5 : Value) (e : Ending) (w' : World) : Prop :=
  e = .returned (.tuple #[]) ∧ (∃ r1 r2 r3 r4 r5, CB 26 w' b (styC D r1 r2 r3 r4 r5) ∧ ∀ w0, RdSty w0 p1 p2 p3 p4 p5 s → RdSty w0 q1 q2 q3 q4 q5 f → RdSty w0 r1 r2 r3 r4 r5 D) ∧ (∀ B a, B ≤ b → Below B a w → Below B a w') ∧ ∀ T g cs, g ≠ b → CB T w g cs → CB T w' g cs
theorem CB.f11 {w : World} {b : Nat} {d : StyD} {vc vq vr va vs : Value} (h : CB 26 w b (styC d vc vq vr va vs)) : ∀ j, w.frozen? ⟨b, j, none⟩ = false := fun j => h.frozen j
set_option maxRecDepth 100000 in
set_option maxHeartbeats 1600000 in
theorem takeColor_any (b : Nat) (w : World) (s f : StyD) (p1 p2 p3 p4 p5 : Value) (q1 q2 q3 q4 q5 : Value) (hb : CB 26 w b (styC s p1 p2 p3 p4 p5)) (hq1 : IsSl q1) (hq2 : IsSl q2) (hq3 : IsSl q3) (hq4 : IsSl q4) (hq5 : IsSl q5) :
    Calls Tryd.prog 29 #[.pointer (some ⟨b, 0, none⟩), .agg (styC f q1 q2 q3 q4 q5)] w (TakerPost b w s f ({ s with color := f.color }) p1 p2 p3 p4 p5 q1 q2 q3 q4 q5) := by
  obtain ⟨a1, n1, c1, rfl⟩ := hq1
  obtain ⟨a2, n2, c2, rfl⟩ := hq2
  obtain ⟨a3, n3, c3, rfl⟩ := hq3
  obtain ⟨a4, n4, c4, rfl⟩ := hq4
  obtain ⟨a5, n5, c5, rfl⟩ := hq5
  have hlt := hb.lt
  have HS := Lib.hid (hb.alloc (.cells (styC f (.slice a1 n1 c1) (.slice a2 n2 c2) (.slice a3 n3 c3) (.slice a4 n4 c4) (.slice a5 n5 c5)) 26))
  have HF := Lib.hid (CB.new (T := 26) w (styC f (.slice a1 n1 c1) (.slice a2 n2 c2) (.slice a3 n3 c3) (.slice a4 n4 c4) (.slice a5 n5 c5)))
  have HB : Hid (∀ B a, B ≤ b → Below B a w → Below B a (w.alloc (.cells (styC f (.slice a1 n1 c1) (.slice a2 n2 c2) (.slice a3 n3 c3) (.slice a4 n4 c4) (.slice a5 n5 c5)) 26))) := fun B a hB h => h.alloc (by omega) _
  have HG : Hid (∀ T g cs, g ≠ b → CB T w g cs → CB T (w.alloc (.cells (styC f (.slice a1 n1 c1) (.slice a2 n2 c2) (.slice a3 n3 c3) (.slice a4 n4 c4) (.slice a5 n5 c5)) 26)) g cs) := fun T g cs _ h => h.alloc _
  have hne : w.heap.size ≠ b := by omega
  go_enter Tryd.func29, Tryd.ntmps29
  go_upto_region 1 with fail
  generalize w.alloc (.cells (styC f (.slice a1 n1 c1) (.slice a2 n2 c2) (.slice a3 n3 c3) (.slice a4 n4 c4) (.slice a5 n5 c5)) 26) = W at *
  have g2 : W.cell? ⟨w.heap.size, 2, none⟩ = some (.string f.color) := HF.out.cell 2
  have s2 : W.cell? ⟨b, 2, none⟩ = some (.string s.color) := HS.out.cell 2
  have t2 : W.frozen? ⟨b, 2, none⟩ = false := HS.out.frozen 2
  go_wp2
  refine ⟨rfl, .tuple #[], by simp [results, Tryd.results29, go_sem], rfl, ⟨p1, p2, p3, p4, p5, (show CB 26 _ b (styC ({ s with color := f.color }) p1 p2 p3 p4 p5) from HS.out.set 2 (.string f.color)), fun w0 h1 h2 => ⟨h1.cont, h1.quotes, h1.reset, h1.add, h1.set⟩⟩, fun B a hB h => (HB.out B a hB h).setCell (p := ⟨b, 2, none⟩) hB _, fun T g cs hg h => (HG.out T g cs hg h).far (p := ⟨b, 2, none⟩) hg _⟩
set_option maxRecDepth 100000 in
set_option maxHeartbeats 1600000 in
theorem takeContent_any (b : Nat) (w : World) (s f : StyD) (p1 p2 p3 p4 p5 : Value) (q1 q2 q3 q4 q5 : Value) (hb : CB 26 w b (styC s p1 p2 p3 p4 p5)) (hq1 : IsSl q1) (hq2 : IsSl q2) (hq3 : IsSl q3) (hq4 : IsSl q4) (hq5 : IsSl q5) :
    Calls Tryd.prog 31 #[.pointer (some ⟨b, 0, none⟩), .agg (styC f q1 q2 q3 q4 q5)] w (TakerPost b w s f ({ s with cont := f.cont, normal := f.normal, none := f.none }) p1 p2 p3 p4 p5 q1 q2 q3 q4 q5) := by
  obtain ⟨a1, n1, c1, rfl⟩ := hq1
  obtain ⟨a2, n2, c2, rfl⟩ := hq2
  obtain ⟨a3, n3, c3, rfl⟩ := hq3
  obtain ⟨a4, n4, c4, rfl⟩ := hq4
  obtain ⟨a5, n5, c5, rfl⟩ := hq5
  have hlt := hb.lt
  have HS := Lib.hid (hb.alloc (.cells (styC f (.slice a1 n1 c1) (.slice a2 n2 c2) (.slice a3 n3 c3) (.slice a4 n4 c4) (.slice a5 n5 c5)) 26))
  have HF := Lib.hid (CB.new (T := 26) w (styC f (.slice a1 n1 c1) (.slice a2 n2 c2) (.slice a3 n3 c3) (.slice a4 n4 c4) (.slice a5 n5 c5)))
  have HB : Hid (∀ B a, B ≤ b → Below B a w → Below B a (w.alloc (.cells (styC f (.slice a1 n1 c1) (.slice a2 n2 c2) (.slice a3 n3 c3) (.slice a4 n4 c4) (.slice a5 n5 c5)) 26))) := fun B a hB h => h.alloc (by omega) _
  have HG : Hid (∀ T g cs, g ≠ b → CB T w g cs → CB T (w.alloc (.cells (styC f (.slice a1 n1 c1) (.slice a2 n2 c2) (.slice a3 n3 c3) (.slice a4 n4 c4) (.slice a5 n5 c5)) 26)) g cs) := fun T g cs _ h => h.alloc _
  have hne : w.heap.size ≠ b := by omega
  go_enter Tryd.func31, Tryd.ntmps31
  go_upto_region 1 with fail
  generalize w.alloc (.cells (styC f (.slice a1 n1 c1) (.slice a2 n2 c2) (.slice a3 n3 c3) (.slice a4 n4 c4) (.slice a5 n5 c5)) 26) = W at *
  have g3 : W.cell? ⟨w.heap.size, 3, none⟩ = some ((.slice a1 n1 c1)) := HF.out.cell 3
  have g4 : W.cell? ⟨w.heap.size, 4, none⟩ = some (.bool f.normal) := HF.out.cell 4
  have g5 : W.cell? ⟨w.heap.size, 5, none⟩ = some (.bool f.none) := HF.out.cell 5
  have s3 : W.cell? ⟨b, 3, none⟩ = some (p1) := (HS.out).cell 3
  have t3 : W.frozen? ⟨b, 3, none⟩ = false := (HS.out).frozen 3
  have s4 : (W.setCell ⟨b, 3, none⟩ ((.slice a1 n1 c1))).cell? ⟨b, 4, none⟩ = some (.bool s.normal) := ((HS.out).set 3 ((.slice a1 n1 c1))).cell 4
  have t4 : (W.setCell ⟨b, 3, none⟩ ((.slice a1 n1 c1))).frozen? ⟨b, 4, none⟩ = false := ((HS.out).set 3 ((.slice a1 n1 c1))).frozen 4
  have s5 : ((W.setCell ⟨b, 3, none⟩ ((.slice a1 n1 c1))).setCell ⟨b, 4, none⟩ (.bool f.normal)).cell? ⟨b, 5, none⟩ = some (.bool s.none) := (((HS.out).set 3 ((.slice a1 n1 c1))).set 4 (.bool f.normal)).cell 5
  have t5 : ((W.setCell ⟨b, 3, none⟩ ((.slice a1 n1 c1))).setCell ⟨b, 4, none⟩ (.bool f.normal)).frozen? ⟨b, 5, none⟩ = false := (((HS.out).set 3 ((.slice a1 n1 c1))).set 4 (.bool f.normal)).frozen 5
  have HC : Hid (CB 26 (((W.setCell ⟨b, 3, none⟩ ((.slice a1 n1 c1))).setCell ⟨b, 4, none⟩ (.bool f.normal)).setCell ⟨b, 5, none⟩ (.bool f.none)) b (styC ({ s with cont := f.cont, normal := f.normal, none := f.none }) (.slice a1 n1 c1) p2 p3 p4 p5)) := (((HS.out).set 3 ((.slice a1 n1 c1))).set 4 (.bool f.normal)).set 5 (.bool f.none)
  go_region
  all_goals refine ⟨rfl, .tuple #[], by simp [results, Tryd.results31, go_sem], rfl, ⟨(.slice a1 n1 c1), p2, p3, p4, p5, HC.out, fun w0 h1 h2 => ⟨h2.cont, h1.quotes, h1.reset, h1.add, h1.set⟩⟩, fun B a hB h => ?_, fun T g cs hg h => (((HG.out T g cs hg h).far (p := ⟨b, 3, none⟩) hg ((.slice a1 n1 c1))).far (p := ⟨b, 4, none⟩) hg (.bool f.normal)).far (p := ⟨b, 5, none⟩) hg (.bool f.none)⟩
  all_goals first | exact ((((HB.out B a hB h).setCell (p := ⟨b, 3, none⟩) hB ((.slice a1 n1 c1))).setCell (p := ⟨b, 4, none⟩) hB (.bool f.normal)).setCell (p := ⟨b, 5, none⟩) hB (.bool f.none)).drew | exact (((HB.out B a hB h).setCell (p := ⟨b, 3, none⟩) hB ((.slice a1 n1 c1))).setCell (p := ⟨b, 4, none⟩) hB (.bool f.normal)).setCell (p := ⟨b, 5, none⟩) hB (.bool f.none)
set_option maxRecDepth 100000 in
set_option maxHeartbeats 1600000 in
theorem takeAdd_any (b : Nat) (w : World) (s f : StyD) (p1 p2 p3 p4 p5 : Value) (q1 q2 q3 q4 q5 : Value) (hb : CB 26 w b (styC s p1 p2 p3 p4 p5)) (hq1 : IsSl q1) (hq2 : IsSl q2) (hq3 : IsSl q3) (hq4 : IsSl q4) (hq5 : IsSl q5) :
    Calls Tryd.prog 33 #[.pointer (some ⟨b, 0, none⟩), .agg (styC f q1 q2 q3 q4 q5)] w (TakerPost b w s f ({ s with add := f.add }) p1 p2 p3 p4 p5 q1 q2 q3 q4 q5) := by
  obtain ⟨a1, n1, c1, rfl⟩ := hq1
  obtain ⟨a2, n2, c2, rfl⟩ := hq2
  obtain ⟨a3, n3, c3, rfl⟩ := hq3
  obtain ⟨a4, n4, c4, rfl⟩ := hq4
  obtain ⟨a5, n5, c5, rfl⟩ := hq5
  have hlt := hb.lt
  have HS := Lib.hid (hb.alloc (.cells (styC f (.slice a1 n1 c1) (.slice a2 n2 c2) (.slice a3 n3 c3) (.slice a4 n4 c4) (.slice a5 n5 c5)) 26))
  have HF := Lib.hid (CB.new (T := 26) w (styC f (.slice a1 n1 c1) (.slice a2 n2 c2) (.slice a3 n3 c3) (.slice a4 n4 c4) (.slice a5 n5 c5)))
  have HB : Hid (∀ B a, B ≤ b → Below B a w → Below B a (w.alloc (.cells (styC f (.slice a1 n1 c1) (.slice a2 n2 c2) (.slice a3 n3 c3) (.slice a4 n4 c4) (.slice a5 n5 c5)) 26))) := fun B a hB h => h.alloc (by omega) _
  have HG : Hid (∀ T g cs, g ≠ b → CB T w g cs → CB T (w.alloc (.cells (styC f (.slice a1 n1 c1) (.slice a2 n2 c2) (.slice a3 n3 c3) (.slice a4 n4 c4) (.slice a5 n5 c5)) 26)) g cs) := fun T g cs _ h => h.alloc _
  have hne : w.heap.size ≠ b := by omega
  go_enter Tryd.func33, Tryd.ntmps33
  go_upto_region 1 with fail
  generalize w.alloc (.cells (styC f (.slice a1 n1 c1) (.slice a2 n2 c2) (.slice a3 n3 c3) (.slice a4 n4 c4) (.slice a5 n5 c5)) 26) = W at *
  have g9 : W.cell? ⟨w.heap.size, 9, none⟩ = some ((.slice a4 n4 c4)) := HF.out.cell 9
  have s9 : W.cell? ⟨b, 9, none⟩ = some (p4) := HS.out.cell 9
  have t9 : W.frozen? ⟨b, 9, none⟩ = false := HS.out.frozen 9
  go_wp2
  refine ⟨rfl, .tuple #[], by simp [results, Tryd.results33, go_sem], rfl, ⟨p1, p2, p3, (.slice a4 n4 c4), p5, (show CB 26 _ b (styC ({ s with add := f.add }) p1 p2 p3 (.slice a4 n4 c4) p5) from HS.out.set 9 ((.slice a4 n4 c4))), fun w0 h1 h2 => ⟨h1.cont, h1.quotes, h1.reset, h2.add, h1.set⟩⟩, fun B a hB h => (HB.out B a hB h).setCell (p := ⟨b, 9, none⟩) hB _, fun T g cs hg h => (HG.out T g cs hg h).far (p := ⟨b, 9, none⟩) hg _⟩
set_option maxRecDepth 100000 in
set_option maxHeartbeats 1600000 in
theorem takeReset_any (b : Nat) (w : World) (s f : StyD) (p1 p2 p3 p4 p5 : Value) (q1 q2 q3 q4 q5 : Value) (hb : CB 26 w b (styC s p1 p2 p3 p4 p5)) (hq1 : IsSl q1) (hq2 : IsSl q2) (hq3 : IsSl q3) (hq4 : IsSl q4) (hq5 : IsSl q5) :
    Calls Tryd.prog 35 #[.pointer (some ⟨b, 0, none⟩), .agg (styC f q1 q2 q3 q4 q5)] w (TakerPost b w s f ({ s with reset := f.reset }) p1 p2 p3 p4 p5 q1 q2 q3 q4 q5) := by
  obtain ⟨a1, n1, c1, rfl⟩ := hq1
  obtain ⟨a2, n2, c2, rfl⟩ := hq2
  obtain ⟨a3, n3, c3, rfl⟩ := hq3
  obtain ⟨a4, n4, c4, rfl⟩ := hq4
  obtain ⟨a5, n5, c5, rfl⟩ := hq5
  have hlt := hb.lt
  have HS := Lib.hid (hb.alloc (.cells (styC f (.slice a1 n1 c1) (.slice a2 n2 c2) (.slice a3 n3 c3) (.slice a4 n4 c4) (.slice a5 n5 c5)) 26))
  have HF := Lib.hid (CB.new (T := 26) w (styC f (.slice a1 n1 c1) (.slice a2 n2 c2) (.slice a3 n3 c3) (.slice a4 n4 c4) (.slice a5 n5 c5)))
  have HB : Hid (∀ B a, B ≤ b → Below B a w → Below B a (w.alloc (.cells (styC f (.slice a1 n1 c1) (.slice a2 n2 c2) (.slice a3 n3 c3) (.slice a4 n4 c4) (.slice a5 n5 c5)) 26))) := fun B a hB h => h.alloc (by omega) _
  have HG : Hid (∀ T g cs, g ≠ b → CB T w g cs → CB T (w.alloc (.cells (styC f (.slice a1 n1 c1) (.slice a2 n2 c2) (.slice a3 n3 c3) (.slice a4 n4 c4) (.slice a5 n5 c5)) 26)) g cs) := fun T g cs _ h => h.alloc _
  have hne : w.heap.size ≠ b := by omega
  go_enter Tryd.func35, Tryd.ntmps35
  go_upto_region 1 with fail
  generalize w.alloc (.cells (styC f (.slice a1 n1 c1) (.slice a2 n2 c2) (.slice a3 n3 c3) (.slice a4 n4 c4) (.slice a5 n5 c5)) 26) = W at *
  have g8 : W.cell? ⟨w.heap.size, 8, none⟩ = some ((.slice a3 n3 c3)) := HF.out.cell 8
  have s8 : W.cell? ⟨b, 8, none⟩ = some (p3) := HS.out.cell 8
  have t8 : W.frozen? ⟨b, 8, none⟩ = false := HS.out.frozen 8
  go_wp2
  refine ⟨rfl, .tuple #[], by simp [results, Tryd.results35, go_sem], rfl, ⟨p1, p2, (.slice a3 n3 c3), p4, p5, (show CB 26 _ b (styC ({ s with reset := f.reset }) p1 p2 (.slice a3 n3 c3) p4 p5) from HS.out.set 8 ((.slice a3 n3 c3))), fun w0 h1 h2 => ⟨h1.cont, h1.quotes, h2.reset, h1.add, h1.set⟩⟩, fun B a hB h => (HB.out B a hB h).setCell (p := ⟨b, 8, none⟩) hB _, fun T g cs hg h => (HG.out T g cs hg h).far (p := ⟨b, 8, none⟩) hg _⟩
set_option maxRecDepth 100000 in
set_option maxHeartbeats 1600000 in
theorem takeSet_any (b : Nat) (w : World) (s f : StyD) (p1 p2 p3 p4 p5 : Value) (q1 q2 q3 q4 q5 : Value) (hb : CB 26 w b (styC s p1 p2 p3 p4 p5)) (hq1 : IsSl q1) (hq2 : IsSl q2) (hq3 : IsSl q3) (hq4 : IsSl q4) (hq5 : IsSl q5) :
    Calls Tryd.prog 37 #[.pointer (some ⟨b, 0, none⟩), .agg (styC f q1 q2 q3 q4 q5)] w (TakerPost b w s f ({ s with set := f.set }) p1 p2 p3 p4 p5 q1 q2 q3 q4 q5) := by
  obtain ⟨a1, n1, c1, rfl⟩ := hq1
  obtain ⟨a2, n2, c2, rfl⟩ := hq2
  obtain ⟨a3, n3, c3, rfl⟩ := hq3
  obtain ⟨a4, n4, c4, rfl⟩ := hq4
  obtain ⟨a5, n5, c5, rfl⟩ := hq5
  have hlt := hb.lt
  have HS := Lib.hid (hb.alloc (.cells (styC f (.slice a1 n1 c1) (.slice a2 n2 c2) (.slice a3 n3 c3) (.slice a4 n4 c4) (.slice a5 n5 c5)) 26))
  have HF := Lib.hid (CB.new (T := 26) w (styC f (.slice a1 n1 c1) (.slice a2 n2 c2) (.slice a3 n3 c3) (.slice a4 n4 c4) (.slice a5 n5 c5)))
  have HB : Hid (∀ B a, B ≤ b → Below B a w → Below B a (w.alloc (.cells (styC f (.slice a1 n1 c1) (.slice a2 n2 c2) (.slice a3 n3 c3) (.slice a4 n4 c4) (.slice a5 n5 c5)) 26))) := fun B a hB h => h.alloc (by omega) _
  have HG : Hid (∀ T g cs, g ≠ b → CB T w g cs → CB T (w.alloc (.cells (styC f (.slice a1 n1 c1) (.slice a2 n2 c2) (.slice a3 n3 c3) (.slice a4 n4 c4) (.slice a5 n5 c5)) 26)) g cs) := fun T g cs _ h => h.alloc _
  have hne : w.heap.size ≠ b := by omega
  go_enter Tryd.func37, Tryd.ntmps37
  go_upto_region 1 with fail
  generalize w.alloc (.cells (styC f (.slice a1 n1 c1) (.slice a2 n2 c2) (.slice a3 n3 c3) (.slice a4 n4 c4) (.slice a5 n5 c5)) 26) = W at *
  have g10 : W.cell? ⟨w.heap.size, 10, none⟩ = some ((.slice a5 n5 c5)) := HF.out.cell 10
  have s10 : W.cell? ⟨b, 10, none⟩ = some (p5) := HS.out.cell 10
  have t10 : W.frozen? ⟨b, 10, none⟩ = false := HS.out.frozen 10
  go_wp2
  refine ⟨rfl, .tuple #[], by simp [results, Tryd.results37, go_sem], rfl, ⟨p1, p2, p3, p4, (.slice a5 n5 c5), (show CB 26 _ b (styC ({ s with set := f.set }) p1 p2 p3 p4 (.slice a5 n5 c5)) from HS.out.set 10 ((.slice a5 n5 c5))), fun w0 h1 h2 => ⟨h1.cont, h1.quotes, h1.reset, h1.add, h2.set⟩⟩, fun B a hB h => (HB.out B a hB h).setCell (p := ⟨b, 10, none⟩) hB _, fun T g cs hg h => (HG.out T g cs hg h).far (p := ⟨b, 10, none⟩) hg _⟩
set_option maxRecDepth 100000 in
set_option maxHeartbeats 1600000 in
theorem takeDisplay_any (b : Nat) (w : World) (s f : StyD) (p1 p2 p3 p4 p5 : Value) (q1 q2 q3 q4 q5 : Value) (hb : CB 26 w b (styC s p1 p2 p3 p4 p5)) (hq1 : IsSl q1) (hq2 : IsSl q2) (hq3 : IsSl q3) (hq4 : IsSl q4) (hq5 : IsSl q5) :
    Calls Tryd.prog 39 #[.pointer (some ⟨b, 0, none⟩), .agg (styC f q1 q2 q3 q4 q5)] w (TakerPost b w s f ({ s with disp := f.disp }) p1 p2 p3 p4 p5 q1 q2 q3 q4 q5) := by
  obtain ⟨a1, n1, c1, rfl⟩ := hq1
  obtain ⟨a2, n2, c2, rfl⟩ := hq2
  obtain ⟨a3, n3, c3, rfl⟩ := hq3
  obtain ⟨a4, n4, c4, rfl⟩ := hq4
  obtain ⟨a5, n5, c5, rfl⟩ := hq5
  have hlt := hb.lt
  have HS := Lib.hid (hb.alloc (.cells (styC f (.slice a1 n1 c1) (.slice a2 n2 c2) (.slice a3 n3 c3) (.slice a4 n4 c4) (.slice a5 n5 c5)) 26))
  have HF := Lib.hid (CB.new (T := 26) w (styC f (.slice a1 n1 c1) (.slice a2 n2 c2) (.slice a3 n3 c3) (.slice a4 n4 c4) (.slice a5 n5 c5)))
  have HB : Hid (∀ B a, B ≤ b → Below B a w → Below B a (w.alloc (.cells (styC f (.slice a1 n1 c1) (.slice a2 n2 c2) (.slice a3 n3 c3) (.slice a4 n4 c4) (.slice a5 n5 c5)) 26))) := fun B a hB h => h.alloc (by omega) _
  have HG : Hid (∀ T g cs, g ≠ b → CB T w g cs → CB T (w.alloc (.cells (styC f (.slice a1 n1 c1) (.slice a2 n2 c2) (.slice a3 n3 c3) (.slice a4 n4 c4) (.slice a5 n5 c5)) 26)) g cs) := fun T g cs _ h => h.alloc _
  have hne : w.heap.size ≠ b := by omega
  go_enter Tryd.func39, Tryd.ntmps39
  go_upto_region 1 with fail
  generalize w.alloc (.cells (styC f (.slice a1 n1 c1) (.slice a2 n2 c2) (.slice a3 n3 c3) (.slice a4 n4 c4) (.slice a5 n5 c5)) 26) = W at *
  have g0 : W.cell? ⟨w.heap.size, 0, none⟩ = some (.string f.disp) := HF.out.cell 0
  have s0 : W.cell? ⟨b, 0, none⟩ = some (.string s.disp) := HS.out.cell 0
  have t0 : W.frozen? ⟨b, 0, none⟩ = false := HS.out.frozen 0
  go_wp2
  refine ⟨rfl, .tuple #[], by simp [results, Tryd.results39, go_sem], rfl, ⟨p1, p2, p3, p4, p5, (show CB 26 _ b (styC ({ s with disp := f.disp }) p1 p2 p3 p4 p5) from HS.out.set 0 (.string f.disp)), fun w0 h1 h2 => ⟨h1.cont, h1.quotes, h1.reset, h1.add, h1.set⟩⟩, fun B a hB h => (HB.out B a hB h).setCell (p := ⟨b, 0, none⟩) hB _, fun T g cs hg h => (HG.out T g cs hg h).far (p := ⟨b, 0, none⟩) hg _⟩
set_option maxRecDepth 100000 in
set_option maxHeartbeats 1600000 in
theorem takeListType_any (b : Nat) (w : World) (s f : StyD) (p1 p2 p3 p4 p5 : Value) (q1 q2 q3 q4 q5 : Value) (hb : CB 26 w b (styC s p1 p2 p3 p4 p5)) (hq1 : IsSl q1) (hq2 : IsSl q2) (hq3 : IsSl q3) (hq4 : IsSl q4) (hq5 : IsSl q5) :
    Calls Tryd.prog 41 #[.pointer (some ⟨b, 0, none⟩), .agg (styC f q1 q2 q3 q4 q5)] w (TakerPost b w s f ({ s with lt := f.lt }) p1 p2 p3 p4 p5 q1 q2 q3 q4 q5) := by
  obtain ⟨a1, n1, c1, rfl⟩ := hq1
  obtain ⟨a2, n2, c2, rfl⟩ := hq2
  obtain ⟨a3, n3, c3, rfl⟩ := hq3
  obtain ⟨a4, n4, c4, rfl⟩ := hq4
  obtain ⟨a5, n5, c5, rfl⟩ := hq5
  have hlt := hb.lt
  have HS := Lib.hid (hb.alloc (.cells (styC f (.slice a1 n1 c1) (.slice a2 n2 c2) (.slice a3 n3 c3) (.slice a4 n4 c4) (.slice a5 n5 c5)) 26))
  have HF := Lib.hid (CB.new (T := 26) w (styC f (.slice a1 n1 c1) (.slice a2 n2 c2) (.slice a3 n3 c3) (.slice a4 n4 c4) (.slice a5 n5 c5)))
  have HB : Hid (∀ B a, B ≤ b → Below B a w → Below B a (w.alloc (.cells (styC f (.slice a1 n1 c1) (.slice a2 n2 c2) (.slice a3 n3 c3) (.slice a4 n4 c4) (.slice a5 n5 c5)) 26))) := fun B a hB h => h.alloc (by omega) _
  have HG : Hid (∀ T g cs, g ≠ b → CB T w g cs → CB T (w.alloc (.cells (styC f (.slice a1 n1 c1) (.slice a2 n2 c2) (.slice a3 n3 c3) (.slice a4 n4 c4) (.slice a5 n5 c5)) 26)) g cs) := fun T g cs _ h => h.alloc _
  have hne : w.heap.size ≠ b := by omega
  go_enter Tryd.func41, Tryd.ntmps41
  go_upto_region 1 with fail
  generalize w.alloc (.cells (styC f (.slice a1 n1 c1) (.slice a2 n2 c2) (.slice a3 n3 c3) (.slice a4 n4 c4) (.slice a5 n5 c5)) 26) = W at *
  have g1 : W.cell? ⟨w.heap.size, 1, none⟩ = some (.string f.lt) := HF.out.cell 1
  have s1 : W.cell? ⟨b, 1, none⟩ = some (.string s.lt) := HS.out.cell 1
  have t1 : W.frozen? ⟨b, 1, none⟩ = false := HS.out.frozen 1
  go_wp2
  refine ⟨rfl, .tuple #[], by simp [results, Tryd.results41, go_sem], rfl, ⟨p1, p2, p3, p4, p5, (show CB 26 _ b (styC ({ s with lt := f.lt }) p1 p2 p3 p4 p5) from HS.out.set 1 (.string f.lt)), fun w0 h1 h2 => ⟨h1.cont, h1.quotes, h1.reset, h1.add, h1.set⟩⟩, fun B a hB h => (HB.out B a hB h).setCell (p := ⟨b, 1, none⟩) hB _, fun T g cs hg h => (HG.out T g cs hg h).far (p := ⟨b, 1, none⟩) hg _⟩
set_option maxRecDepth 100000 in
set_option maxHeartbeats 1600000 in
theorem takeQuotes_any (b : Nat) (w : World) (s f : StyD) (p1 p2 p3 p4 p5 : Value) (q1 q2 q3 q4 q5 : Value) (hb : CB 26 w b (styC s p1 p2 p3 p4 p5)) (hq1 : IsSl q1) (hq2 : IsSl q2) (hq3 : IsSl q3) (hq4 : IsSl q4) (hq5 : IsSl q5) :
    Calls Tryd.prog 43 #[.pointer (some ⟨b, 0, none⟩), .agg (styC f q1 q2 q3 q4 q5)] w (TakerPost b w s f ({ s with quotes := f.quotes, auto := f.auto }) p1 p2 p3 p4 p5 q1 q2 q3 q4 q5) := by
  obtain ⟨a1, n1, c1, rfl⟩ := hq1
  obtain ⟨a2, n2, c2, rfl⟩ := hq2
  obtain ⟨a3, n3, c3, rfl⟩ := hq3
  obtain ⟨a4, n4, c4, rfl⟩ := hq4
  obtain ⟨a5, n5, c5, rfl⟩ := hq5
  have hlt := hb.lt
  have HS := Lib.hid (hb.alloc (.cells (styC f (.slice a1 n1 c1) (.slice a2 n2 c2) (.slice a3 n3 c3) (.slice a4 n4 c4) (.slice a5 n5 c5)) 26))
  have HF := Lib.hid (CB.new (T := 26) w (styC f (.slice a1 n1 c1) (.slice a2 n2 c2) (.slice a3 n3 c3) (.slice a4 n4 c4) (.slice a5 n5 c5)))
  have HB : Hid (∀ B a, B ≤ b → Below B a w → Below B a (w.alloc (.cells (styC f (.slice a1 n1 c1) (.slice a2 n2 c2) (.slice a3 n3 c3) (.slice a4 n4 c4) (.slice a5 n5 c5)) 26))) := fun B a hB h => h.alloc (by omega) _
  have HG : Hid (∀ T g cs, g ≠ b → CB T w g cs → CB T (w.alloc (.cells (styC f (.slice a1 n1 c1) (.slice a2 n2 c2) (.slice a3 n3 c3) (.slice a4 n4 c4) (.slice a5 n5 c5)) 26)) g cs) := fun T g cs _ h => h.alloc _
  have hne : w.heap.size ≠ b := by omega
  go_enter Tryd.func43, Tryd.ntmps43
  go_upto_region 1 with fail
  generalize w.alloc (.cells (styC f (.slice a1 n1 c1) (.slice a2 n2 c2) (.slice a3 n3 c3) (.slice a4 n4 c4) (.slice a5 n5 c5)) 26) = W at *
  have g6 : W.cell? ⟨w.heap.size, 6, none⟩ = some ((.slice a2 n2 c2)) := HF.out.cell 6
  have g7 : W.cell? ⟨w.heap.size, 7, none⟩ = some (.bool f.auto) := HF.out.cell 7
  have s6 : W.cell? ⟨b, 6, none⟩ = some (p2) := (HS.out).cell 6
  have t6 : W.frozen? ⟨b, 6, none⟩ = false := (HS.out).frozen 6
  have s7 : (W.setCell ⟨b, 6, none⟩ ((.slice a2 n2 c2))).cell? ⟨b, 7, none⟩ = some (.bool s.auto) := ((HS.out).set 6 ((.slice a2 n2 c2))).cell 7
  have t7 : (W.setCell ⟨b, 6, none⟩ ((.slice a2 n2 c2))).frozen? ⟨b, 7, none⟩ = false := ((HS.out).set 6 ((.slice a2 n2 c2))).frozen 7
  have HC : Hid (CB 26 ((W.setCell ⟨b, 6, none⟩ ((.slice a2 n2 c2))).setCell ⟨b, 7, none⟩ (.bool f.auto)) b (styC ({ s with quotes := f.quotes, auto := f.auto }) p1 (.slice a2 n2 c2) p3 p4 p5)) := ((HS.out).set 6 ((.slice a2 n2 c2))).set 7 (.bool f.auto)
  go_region
  all_goals refine ⟨rfl, .tuple #[], by simp [results, Tryd.results43, go_sem], rfl, ⟨p1, (.slice a2 n2 c2), p3, p4, p5, HC.out, fun w0 h1 h2 => ⟨h1.cont, h2.quotes, h1.reset, h1.add, h1.set⟩⟩, fun B a hB h => ?_, fun T g cs hg h => ((HG.out T g cs hg h).far (p := ⟨b, 6, none⟩) hg ((.slice a2 n2 c2))).far (p := ⟨b, 7, none⟩) hg (.bool f.auto)⟩
  all_goals first | exact (((HB.out B a hB h).setCell (p := ⟨b, 6, none⟩) hB ((.slice a2 n2 c2))).setCell (p := ⟨b, 7, none⟩) hB (.bool f.auto)).drew | exact ((HB.out B a hB h).setCell (p := ⟨b, 6, none⟩) hB ((.slice a2 n2 c2))).setCell (p := ⟨b, 7, none⟩) hB (.bool f.auto)
theorem taker_any {p : PrD} (hp : p ∈ prL) (b : Nat) (w : World) (s f : StyD) (p1 p2 p3 p4 p5 : Value) (q1 q2 q3 q4 q5 : Value) (hb : CB 26 w b (styC s p1 p2 p3 p4 p5)) (hq1 : IsSl q1) (hq2 : IsSl q2) (hq3 : IsSl q3) (hq4 : IsSl q4) (hq5 : IsSl q5) :
    Calls Tryd.prog p.tk #[.pointer (some ⟨b, 0, none⟩), .agg (styC f q1 q2 q3 q4 q5)] w (TakerPost b w s f (p.tf s f) p1 p2 p3 p4 p5 q1 q2 q3 q4 q5) := by
  rcases List.mem_cons.1 hp with rfl | hp
  · exact takeColor_any b w s f p1 p2 p3 p4 p5 q1 q2 q3 q4 q5 hb hq1 hq2 hq3 hq4 hq5
  rcases List.mem_cons.1 hp with rfl | hp
  · exact takeContent_any b w s f p1 p2 p3 p4 p5 q1 q2 q3 q4 q5 hb hq1 hq2 hq3 hq4 hq5
  rcases List.mem_cons.1 hp with rfl | hp
  · exact takeAdd_any b w s f p1 p2 p3 p4 p5 q1 q2 q3 q4 q5 hb hq1 hq2 hq3 hq4 hq5
  rcases List.mem_cons.1 hp with rfl | hp
  · exact takeReset_any b w s f p1 p2 p3 p4 p5 q1 q2 q3 q4 q5 hb hq1 hq2 hq3 hq4 hq5
  rcases List.mem_cons.1 hp with rfl | hp
  · exact takeSet_any b w s f p1 p2 p3 p4 p5 q1 q2 q3 q4 q5 hb hq1 hq2 hq3 hq4 hq5
  rcases List.mem_cons.1 hp with rfl | hp
  · exact takeDisplay_any b w s f p1 p2 p3 p4 p5 q1 q2 q3 q4 q5 hb hq1 hq2 hq3 hq4 hq5
  rcases List.mem_cons.1 hp with rfl | hp
  · exact takeListType_any b w s f p1 p2 p3 p4 p5 q1 q2 q3 q4 q5 hb hq1 hq2 hq3 hq4 hq5
  rcases List.mem_cons.1 hp with rfl | hp
  · exact takeQuotes_any b w s f p1 p2 p3 p4 p5 q1 q2 q3 q4 q5 hb hq1 hq2 hq3 hq4 hq5
  cases hp
theorem taker_en {p : PrD} (hp : p ∈ prL) : ∀ (args : Array Value) (w : World), (callFunc p.tk args).run Tryd.prog w = .ok (.enter p.tk args) w := by
  rcases List.mem_cons.1 hp with rfl | hp
  · exact enters_of Tryd.func29 (by kernel_rfl) rfl
  rcases List.mem_cons.1 hp with rfl | hp
  · exact enters_of Tryd.func31 (by kernel_rfl) rfl
  rcases List.mem_cons.1 hp with rfl | hp
  · exact enters_of Tryd.func33 (by kernel_rfl) rfl
  rcases List.mem_cons.1 hp with rfl | hp
  · exact enters_of Tryd.func35 (by kernel_rfl) rfl
  rcases List.mem_cons.1 hp with rfl | hp
  · exact enters_of Tryd.func37 (by kernel_rfl) rfl
  rcases List.mem_cons.1 hp with rfl | hp
  · exact enters_of Tryd.func39 (by kernel_rfl) rfl
  rcases List.mem_cons.1 hp with rfl | hp
  · exact enters_of Tryd.func41 (by kernel_rfl) rfl
  rcases List.mem_cons.1 hp with rfl | hp
  · exact enters_of Tryd.func43 (by kernel_rfl) rfl
  cases hp
end Go.Proofs.YtkpaokcgjeplpaaDoor
namespace Go.Proofs.YtkpaokcgjeplpaaDoor
open Go.RowKit
/-! prop.Take. -/
def takeS (s f : StyD) (nm : ByteArray) : StyD := match findF nm prL with
  | some p => p.tf s f
  | none => s
structure SLen (d : StyD) : Prop where
  cont : d.cont.length ≤ 100000000
  quotes : d.quotes.length ≤ 100000000
  reset : d.reset.length ≤ 100000000
  add : d.add.length ≤ 100000000
  set : d.set.length ≤ 100000000
theorem tf_len {p : PrD} (hp : p ∈ prL) {s f : StyD} (hs : SLen s) (hf : SLen f) : SLen (p.tf s f) := by
  rcases List.mem_cons.1 hp with rfl | hp
  · exact ⟨hs.cont, hs.quotes, hs.reset, hs.add, hs.set⟩
  rcases List.mem_cons.1 hp with rfl | hp
  · exact ⟨hf.cont, hs.quotes, hs.reset, hs.add, hs.set⟩
  rcases List.mem_cons.1 hp with rfl | hp
  · exact ⟨hs.cont, hs.quotes, hs.reset, hf.add, hs.set⟩
  rcases List.mem_cons.1 hp with rfl | hp
  · exact ⟨hs.cont, hs.quotes, hf.reset, hs.add, hs.set⟩
  rcases List.mem_cons.1 hp with rfl | hp
  · exact ⟨hs.cont, hs.quotes, hs.reset, hs.add, hf.set⟩
  rcases List.mem_cons.1 hp with rfl | hp
  · exact ⟨hs.cont, hs.quotes, hs.reset, hs.add, hs.set⟩
  rcases List.mem_cons.1 hp with rfl | hp
  · exact ⟨hs.cont, hs.quotes, hs.reset, hs.add, hs.set⟩
  rcases List.mem_cons.1 hp with rfl | hp
  · exact ⟨hs.cont, hf.quotes, hs.reset, hs.add, hs.set⟩
  cases hp
theorem SLen.take {s f : StyD} (hs : SLen s) (hf : SLen f) (nm : ByteArray) : SLen (takeS s f nm) := by
  unfold takeS
  split
  · next p hp => exact tf_len (findF_mem hp) hs hf
  · exact hs
theorem RdK.sl {α : Type} {f : α → List Value} {k : Nat} {w : World} {v : Value} {l : List α} (h : RdK f k w v l) : IsSl v := by
  obtain ⟨a, c, hv, _⟩ := h
  exact ⟨a, _, c, hv⟩
theorem RdTx.sl {w : World} {v : Value} {l : List ByteArray} (h : RdTx w v l) : IsSl v := h.k.sl
/-- The boxes that a call of Take lays first. -/
structure TkB (w W : World) (s f : StyD) (p1 p2 p3 p4 p5 q1 q2 q3 q4 q5 : Value) : Prop where
  bel : Below w.heap.size w W
  box : CB 26 W w.heap.size (styC s p1 p2 p3 p4 p5)
  frm : CB 26 W (w.heap.size + 1) (styC f q1 q2 q3 q4 q5)
  res : CB 26 W (w.heap.size + 2) zS
  size : w.heap.size + 3 ≤ W.heap.size
theorem TkB.start (w : World) (s f : StyD) (p1 p2 p3 p4 p5 q1 q2 q3 q4 q5 : Value) : TkB w (((w.alloc (.cells (styC s p1 p2 p3 p4 p5) 26)).alloc (.cells (styC f q1 q2 q3 q4 q5) 26)).alloc (.cells zS 26)) s f p1 p2 p3 p4 p5 q1 q2 q3 q4 q5 := by
  have e1 : (w.alloc (.cells (styC s p1 p2 p3 p4 p5) 26)).heap.size = w.heap.size + 1 := by simp
  have e2 : ((w.alloc (.cells (styC s p1 p2 p3 p4 p5) 26)).alloc (.cells (styC f q1 q2 q3 q4 q5) 26)).heap.size = w.heap.size + 2 := by simp
  refine ⟨(((Below.refl w.heap.size w).alloc (Nat.le_refl _) _).alloc (by simp) _).alloc (by simp; omega) _, ((CB.new _ _).alloc _).alloc _, ?_, ?_, by simp⟩
  · have := CB.new (T := 26) (w.alloc (.cells (styC s p1 p2 p3 p4 p5) 26)) (styC f q1 q2 q3 q4 q5)
    rw [e1] at this
    exact this.alloc _
  · have := CB.new (T := 26) ((w.alloc (.cells (styC s p1 p2 p3 p4 p5) 26)).alloc (.cells (styC f q1 q2 q3 q4 q5) 26)) zS
    rw [e2] at this
    exact this
theorem TkB.below {w W W' : World} {s f : StyD} {p1 p2 p3 p4 p5 q1 q2 q3 q4 q5 : Value} (h : TkB w W s f p1 p2 p3 p4 p5 q1 q2 q3 q4 q5) (hb : Below W.heap.size W W') : TkB w W' s f p1 p2 p3 p4 p5 q1 q2 q3 q4 q5 :=
  ⟨below_seq h.bel hb, h.box.below hb h.box.lt, h.frm.below hb h.frm.lt, h.res.below hb h.res.lt, Nat.le_trans h.size hb.size⟩
theorem TkB.taken {w W W' : World} {s f D : StyD} {p1 p2 p3 p4 p5 q1 q2 q3 q4 q5 r1 r2 r3 r4 r5 : Value} (h : TkB w W s f p1 p2 p3 p4 p5 q1 q2 q3 q4 q5) (hb : ∀ B a, B ≤ w.heap.size → Below B a W → Below B a W') (hc : ∀ T g cs, g ≠ w.heap.size → CB T W g cs → CB T W' g cs) (hx : CB 26 W' w.heap.size (styC D r1 r2 r3 r4 r5)) : TkB w W' D f r1 r2 r3 r4 r5 q1 q2 q3 q4 q5 :=
  ⟨hb _ _ (Nat.le_refl _) h.bel, hx, hc _ _ _ (by omega) h.frm, hc _ _ _ (by omega) h.res, by have := (hc _ _ _ (by omega) h.res).lt; omega⟩
theorem TkB.put {w W : World} {s f D : StyD} {p1 p2 p3 p4 p5 q1 q2 q3 q4 q5 r1 r2 r3 r4 r5 : Value} (h : TkB w W s f p1 p2 p3 p4 p5 q1 q2 q3 q4 q5) (o : Nat) (v : Value) (he : (styC s p1 p2 p3 p4 p5).setIfInBounds o v = styC D r1 r2 r3 r4 r5) : TkB w (W.setCell ⟨w.heap.size, o, none⟩ v) D f r1 r2 r3 r4 r5 q1 q2 q3 q4 q5 :=
  ⟨h.bel.setCell (p := ⟨w.heap.size, o, none⟩) (Nat.le_refl _) v, by rw [← he]; exact h.box.set o v, h.frm.far (p := ⟨w.heap.size, o, none⟩) (by show w.heap.size + 1 ≠ w.heap.size; omega) v, h.res.far (p := ⟨w.heap.size, o, none⟩) (by show w.heap.size + 2 ≠ w.heap.size; omega) v, by have := h.size; simpa using this⟩
theorem RdSty.own {W : World} {B : Nat} {D : StyD} {v1 v2 v3 v4 v5 : Value} (h1 : W.ownsRow B 45 4 v1 D.cont.length (D.cont.flatMap icells)) (h2 : W.ownsRow B 9 1 v2 D.quotes.length (D.quotes.flatMap fun s => [Value.string s])) (h3 : W.ownsRow B 47 4 v3 D.reset.length (D.reset.flatMap pcells)) (h4 : W.ownsRow B 47 4 v4 D.add.length (D.add.flatMap pcells)) (h5 : W.ownsRow B 47 4 v5 D.set.length (D.set.flatMap pcells)) : RdSty W v1 v2 v3 v4 v5 D :=
  ⟨RdK.own (fun _ => rfl) h1, OwnT.rd (by rw [flat_txt] at h2; exact h2), RdK.own (fun _ => rfl) h3, RdK.own (fun _ => rfl) h4, RdK.own (fun _ => rfl) h5⟩
/-- A style's lists as rows of the call's own. -/
structure OwnRows (B : Nat) (W : World) (v1 v2 v3 v4 v5 : Value) (D : StyD) : Prop where
  o1 : W.ownsRow B 45 4 v1 D.cont.length (D.cont.flatMap icells)
  o2 : W.ownsRow B 9 1 v2 D.quotes.length (D.quotes.flatMap fun s => [Value.string s])
  o3 : W.ownsRow B 47 4 v3 D.reset.length (D.reset.flatMap pcells)
  o4 : W.ownsRow B 47 4 v4 D.add.length (D.add.flatMap pcells)
  o5 : W.ownsRow B 47 4 v5 D.set.length (D.set.flatMap pcells)
theorem OwnRows.rd {W : World} {B : Nat} {D : StyD} {v1 v2 v3 v4 v5 : Value} (h : OwnRows B W v1 v2 v3 v4 v5 D) : RdSty W v1 v2 v3 v4 v5 D := RdSty.own h.o1 h.o2 h.o3 h.o4 h.o5
theorem OwnRows.sets {W : World} {B b : Nat} {D : StyD} {v1 v2 v3 v4 v5 : Value} (h : OwnRows B W v1 v2 v3 v4 v5 D) (hb : b < B) (vs : List Value) (o : Nat) : OwnRows B (W.setCells b o vs) v1 v2 v3 v4 v5 D :=
  ⟨own_sets hb vs o W h.o1, own_sets hb vs o W h.o2, own_sets hb vs o W h.o3, own_sets hb vs o W h.o4, own_sets hb vs o W h.o5⟩
theorem OwnRows.mono {W : World} {B B' : Nat} {D : StyD} {v1 v2 v3 v4 v5 : Value} (h : OwnRows B W v1 v2 v3 v4 v5 D) (hb : B' ≤ B) : OwnRows B' W v1 v2 v3 v4 v5 D :=
  ⟨h.o1.mono hb, h.o2.mono hb, h.o3.mono hb, h.o4.mono hb, h.o5.mono hb⟩
def PTakeOwn (w : World) (D : StyD) (e : Ending) (w' : World) : Prop := (∃ r1 r2 r3 r4 r5, e = .returned (.agg (styC D r1 r2 r3 r4 r5)) ∧ OwnRows w.heap.size w' r1 r2 r3 r4 r5 D) ∧ Below w.heap.size w w'
def PTakePost (w : World) (D : StyD) (e : Ending) (w' : World) : Prop := (∃ r1 r2 r3 r4 r5, e = .returned (.agg (styC D r1 r2 r3 r4 r5)) ∧ RdSty w' r1 r2 r3 r4 r5 D) ∧ Below w.heap.size w w'
set_option maxRecDepth 100000 in
set_option maxHeartbeats 6400000 in
theorem ptake_own (nm : ByteArray) {s f : StyD} {p1 p2 p3 p4 p5 q1 q2 q3 q4 q5 : Value} {w : World} (hs : RdSty w p1 p2 p3 p4 p5 s) (hf : RdSty w q1 q2 q3 q4 q5 f) (lns : SLen s) (lnf : SLen f) :
    Calls Tryd.prog 9 #[.agg (styC s p1 p2 p3 p4 p5), .agg (styC f q1 q2 q3 q4 q5),   .string nm] w (PTakeOwn w (takeS s f nm)) := by
  have HL := Lib.hid (lns.take lnf nm)
  have HK := Lib.hid (TkB.start w s f p1 p2 p3 p4 p5 q1 q2 q3 q4 q5)
  have HFN := Lib.hid (fun W => find_any nm W)
  cases hfd : findF nm prL with
  | none =>
    rw [hfd] at HFN
    simp only [foundV] at HFN
    have hD : takeS s f nm = s := by unfold takeS; rw [hfd]
    rw [hD] at HL ⊢
    obtain ⟨D, hDD⟩ : ∃ D, s = D := ⟨_, rfl⟩
    subst hDD
    obtain ⟨D, rfl⟩ : ∃ D, D = s := ⟨_, rfl⟩
    obtain ⟨r1, rfl⟩ : ∃ r, r = p1 := ⟨_, rfl⟩
    obtain ⟨r2, rfl⟩ : ∃ r, r = p2 := ⟨_, rfl⟩
    obtain ⟨r3, rfl⟩ : ∃ r, r = p3 := ⟨_, rfl⟩
    obtain ⟨r4, rfl⟩ : ∃ r, r = p4 := ⟨_, rfl⟩
    obtain ⟨r5, rfl⟩ : ∃ r, r = p5 := ⟨_, rfl⟩
    have HRD : Hid (∀ W : World, Below w.heap.size w W → RdSty W r1 r2 r3 r4 r5 D) := fun W hb => hs.below hb
    clear hfd hD hs hf lns lnf
    go_enter Tryd.func9, Tryd.ntmps9
    go_upto_region 1 with fail
    generalize ((w.alloc (.cells (styC D _ _ _ _ _) 26)).alloc (.cells (styC f _ _ _ _ _) 26)).alloc (.cells _ 26) = W0 at *
    go_upto_region 2 with (first | (go_at_call 21; (with_reducible refine (HFN.out _).mono ?_); rintro e w1 ⟨rfl, hb1⟩; have HTH := Lib.hid (CB.thereP (CB.new (T := 54) w1 prz)); have HB1 := Lib.hid (box_below (z := prz) (T := 54) hb1 prz.toList)) | (refine wpList_store_mid (by rfl) 54 (.tmp 7) (.tmp 12) (by rfl) w1.heap.size 0 prz (by rfl) (by rfl) HTH.out prp_size prz_one ?_; generalize World.setCells (w1.alloc (.cells prz 54)) w1.heap.size 0 prz.toList = WA0 at *))
    have HK0 := Lib.hid (HK.out.below HB1.out)
    go_upto_region 4 with fail
    have m1 : WA0.cell? ⟨w.heap.size, 3, none⟩ = some r1 := HK0.out.box.cell 3
    have z1 := HK0.out.size
    go_upto_region 5 with (go_at_call 22; (with_reducible refine (cloneI_any (HRD.out _ HK0.out.bel).cont HL.out.cont).mono ?_); rintro e u1 ⟨x1, rfl, o1, hb1⟩; have HJ1 := Lib.hid (HK0.out.below hb1); obtain ⟨ya1, yc1, rfl, _⟩ := row_sl o1; have HO1 := Lib.hid (o1.mono z1); clear o1 hb1; have d1 : u1.cell? ⟨w.heap.size, 3, none⟩ = some r1 := HJ1.out.box.cell 3; have e1 : u1.frozen? ⟨w.heap.size, 3, none⟩ = false := HJ1.out.box.frozen 3)
    have HK1 := Lib.hid (HJ1.out.put (D := D) (r1 := (.slice ya1 D.cont.length yc1)) (r2 := r2) (r3 := r3) (r4 := r4) (r5 := r5) 3 (.slice ya1 D.cont.length yc1) rfl)
    have HO1 := Lib.hid (own_sets (b := w.heap.size) (B := w.heap.size + 3) (by omega) [(.slice ya1 D.cont.length yc1)] 3 u1 HO1.out)
    simp only [World.setCells] at HO1
    generalize hWA1 : u1.setCell ⟨w.heap.size, 3, none⟩ (.slice ya1 D.cont.length yc1) = WA1 at *
    clear hWA1 m1 d1 e1 HJ1
    have m2 : WA1.cell? ⟨w.heap.size, 6, none⟩ = some r2 := HK1.out.box.cell 6
    have z2 := HK1.out.size
    go_upto_region 6 with (go_at_call 23; (with_reducible refine (cloneT_any ((HRD.out _ HK1.out.bel).quotes).k HL.out.quotes).mono ?_); rintro e u2 ⟨x2, rfl, o2, hb2⟩; have HJ2 := Lib.hid (HK1.out.below hb2); obtain ⟨ya2, yc2, rfl, _⟩ := row_sl o2; have HO1 := Lib.hid (prow_below HO1.out hb2); have HO2 := Lib.hid (o2.mono z2); clear o2 hb2; have d2 : u2.cell? ⟨w.heap.size, 6, none⟩ = some r2 := HJ2.out.box.cell 6; have e2 : u2.frozen? ⟨w.heap.size, 6, none⟩ = false := HJ2.out.box.frozen 6)
    have HK2 := Lib.hid (HJ2.out.put (D := D) (r1 := (.slice ya1 D.cont.length yc1)) (r2 := (.slice ya2 D.quotes.length yc2)) (r3 := r3) (r4 := r4) (r5 := r5) 6 (.slice ya2 D.quotes.length yc2) rfl)
    have HO1 := Lib.hid (own_sets (b := w.heap.size) (B := w.heap.size + 3) (by omega) [(.slice ya2 D.quotes.length yc2)] 6 u2 HO1.out)
    have HO2 := Lib.hid (own_sets (b := w.heap.size) (B := w.heap.size + 3) (by omega) [(.slice ya2 D.quotes.length yc2)] 6 u2 HO2.out)
    simp only [World.setCells] at HO1 HO2
    generalize hWA2 : u2.setCell ⟨w.heap.size, 6, none⟩ (.slice ya2 D.quotes.length yc2) = WA2 at *
    clear hWA2 m2 d2 e2 HJ2
    have m3 : WA2.cell? ⟨w.heap.size, 8, none⟩ = some r3 := HK2.out.box.cell 8
    have z3 := HK2.out.size
    go_upto_region 7 with (go_at_call 24; (with_reducible refine (cloneP_any (HRD.out _ HK2.out.bel).reset HL.out.reset).mono ?_); rintro e u3 ⟨x3, rfl, o3, hb3⟩; have HJ3 := Lib.hid (HK2.out.below hb3); obtain ⟨ya3, yc3, rfl, _⟩ := row_sl o3; have HO1 := Lib.hid (prow_below HO1.out hb3); have HO2 := Lib.hid (prow_below HO2.out hb3); have HO3 := Lib.hid (o3.mono z3); clear o3 hb3; have d3 : u3.cell? ⟨w.heap.size, 8, none⟩ = some r3 := HJ3.out.box.cell 8; have e3 : u3.frozen? ⟨w.heap.size, 8, none⟩ = false := HJ3.out.box.frozen 8)
    have HK3 := Lib.hid (HJ3.out.put (D := D) (r1 := (.slice ya1 D.cont.length yc1)) (r2 := (.slice ya2 D.quotes.length yc2)) (r3 := (.slice ya3 D.reset.length yc3)) (r4 := r4) (r5 := r5) 8 (.slice ya3 D.reset.length yc3) rfl)
    have HO1 := Lib.hid (own_sets (b := w.heap.size) (B := w.heap.size + 3) (by omega) [(.slice ya3 D.reset.length yc3)] 8 u3 HO1.out)
    have HO2 := Lib.hid (own_sets (b := w.heap.size) (B := w.heap.size + 3) (by omega) [(.slice ya3 D.reset.length yc3)] 8 u3 HO2.out)
    have HO3 := Lib.hid (own_sets (b := w.heap.size) (B := w.heap.size + 3) (by omega) [(.slice ya3 D.reset.length yc3)] 8 u3 HO3.out)
    simp only [World.setCells] at HO1 HO2 HO3
    generalize hWA3 : u3.setCell ⟨w.heap.size, 8, none⟩ (.slice ya3 D.reset.length yc3) = WA3 at *
    clear hWA3 m3 d3 e3 HJ3
    have m4 : WA3.cell? ⟨w.heap.size, 9, none⟩ = some r4 := HK3.out.box.cell 9
    have z4 := HK3.out.size
    go_upto_region 8 with (go_at_call 24; (with_reducible refine (cloneP_any (HRD.out _ HK3.out.bel).add HL.out.add).mono ?_); rintro e u4 ⟨x4, rfl, o4, hb4⟩; have HJ4 := Lib.hid (HK3.out.below hb4); obtain ⟨ya4, yc4, rfl, _⟩ := row_sl o4; have HO1 := Lib.hid (prow_below HO1.out hb4); have HO2 := Lib.hid (prow_below HO2.out hb4); have HO3 := Lib.hid (prow_below HO3.out hb4); have HO4 := Lib.hid (o4.mono z4); clear o4 hb4; have d4 : u4.cell? ⟨w.heap.size, 9, none⟩ = some r4 := HJ4.out.box.cell 9; have e4 : u4.frozen? ⟨w.heap.size, 9, none⟩ = false := HJ4.out.box.frozen 9)
    have HK4 := Lib.hid (HJ4.out.put (D := D) (r1 := (.slice ya1 D.cont.length yc1)) (r2 := (.slice ya2 D.quotes.length yc2)) (r3 := (.slice ya3 D.reset.length yc3)) (r4 := (.slice ya4 D.add.length yc4)) (r5 := r5) 9 (.slice ya4 D.add.length yc4) rfl)
    have HO1 := Lib.hid (own_sets (b := w.heap.size) (B := w.heap.size + 3) (by omega) [(.slice ya4 D.add.length yc4)] 9 u4 HO1.out)
    have HO2 := Lib.hid (own_sets (b := w.heap.size) (B := w.heap.size + 3) (by omega) [(.slice ya4 D.add.length yc4)] 9 u4 HO2.out)
    have HO3 := Lib.hid (own_sets (b := w.heap.size) (B := w.heap.size + 3) (by omega) [(.slice ya4 D.add.length yc4)] 9 u4 HO3.out)
    have HO4 := Lib.hid (own_sets (b := w.heap.size) (B := w.heap.size + 3) (by omega) [(.slice ya4 D.add.length yc4)] 9 u4 HO4.out)
    simp only [World.setCells] at HO1 HO2 HO3 HO4
    generalize hWA4 : u4.setCell ⟨w.heap.size, 9, none⟩ (.slice ya4 D.add.length yc4) = WA4 at *
    clear hWA4 m4 d4 e4 HJ4
    have m5 : WA4.cell? ⟨w.heap.size, 10, none⟩ = some r5 := HK4.out.box.cell 10
    have z5 := HK4.out.size
    go_upto_region 9 with (go_at_call 24; (with_reducible refine (cloneP_any (HRD.out _ HK4.out.bel).set HL.out.set).mono ?_); rintro e u5 ⟨x5, rfl, o5, hb5⟩; have HJ5 := Lib.hid (HK4.out.below hb5); obtain ⟨ya5, yc5, rfl, _⟩ := row_sl o5; have HO1 := Lib.hid (prow_below HO1.out hb5); have HO2 := Lib.hid (prow_below HO2.out hb5); have HO3 := Lib.hid (prow_below HO3.out hb5); have HO4 := Lib.hid (prow_below HO4.out hb5); have HO5 := Lib.hid (o5.mono z5); clear o5 hb5; have d5 : u5.cell? ⟨w.heap.size, 10, none⟩ = some r5 := HJ5.out.box.cell 10; have e5 : u5.frozen? ⟨w.heap.size, 10, none⟩ = false := HJ5.out.box.frozen 10)
    have HK5 := Lib.hid (HJ5.out.put (D := D) (r1 := (.slice ya1 D.cont.length yc1)) (r2 := (.slice ya2 D.quotes.length yc2)) (r3 := (.slice ya3 D.reset.length yc3)) (r4 := (.slice ya4 D.add.length yc4)) (r5 := (.slice ya5 D.set.length yc5)) 10 (.slice ya5 D.set.length yc5) rfl)
    have HO1 := Lib.hid (own_sets (b := w.heap.size) (B := w.heap.size + 3) (by omega) [(.slice ya5 D.set.length yc5)] 10 u5 HO1.out)
    have HO2 := Lib.hid (own_sets (b := w.heap.size) (B := w.heap.size + 3) (by omega) [(.slice ya5 D.set.length yc5)] 10 u5 HO2.out)
    have HO3 := Lib.hid (own_sets (b := w.heap.size) (B := w.heap.size + 3) (by omega) [(.slice ya5 D.set.length yc5)] 10 u5 HO3.out)
    have HO4 := Lib.hid (own_sets (b := w.heap.size) (B := w.heap.size + 3) (by omega) [(.slice ya5 D.set.length yc5)] 10 u5 HO4.out)
    have HO5 := Lib.hid (own_sets (b := w.heap.size) (B := w.heap.size + 3) (by omega) [(.slice ya5 D.set.length yc5)] 10 u5 HO5.out)
    simp only [World.setCells] at HO1 HO2 HO3 HO4 HO5
    generalize hWA5 : u5.setCell ⟨w.heap.size, 10, none⟩ (.slice ya5 D.set.length yc5) = WA5 at *
    clear hWA5 m5 d5 e5 HJ5
    have HTR := Lib.hid (vthere HK5.out.res (n := 11) rfl)
    have HRP := Lib.hid (HK5.out.res.all11 D (.slice ya1 D.cont.length yc1) (.slice ya2 D.quotes.length yc2) (.slice ya3 D.reset.length yc3) (.slice ya4 D.add.length yc4) (.slice ya5 D.set.length yc5))
    have HWB := Lib.hid (setsS_below (show w.heap.size ≤ w.heap.size + 2 by omega) (styC D (.slice ya1 D.cont.length yc1) (.slice ya2 D.quotes.length yc2) (.slice ya3 D.reset.length yc3) (.slice ya4 D.add.length yc4) (.slice ya5 D.set.length yc5)).toList 0 _ HK5.out.bel)
    have HFIN := Lib.hid (((OwnRows.mk (B := w.heap.size + 3) HO1.out HO2.out HO3.out HO4.out HO5.out).sets (b := w.heap.size + 2) (by omega) (styC D (.slice ya1 D.cont.length yc1) (.slice ya2 D.quotes.length yc2) (.slice ya3 D.reset.length yc3) (.slice ya4 D.add.length yc4) (.slice ya5 D.set.length yc5)).toList 0).mono (show w.heap.size ≤ w.heap.size + 3 by omega))
    go_wp2_with (first | (refine wpList_load_mid (by rfl) 26 (.tmp 3) (by rfl) w.heap.size 0 (by rfl) (styC D (.slice ya1 D.cont.length yc1) (.slice ya2 D.quotes.length yc2) (.slice ya3 D.reset.length yc3) (.slice ya4 D.add.length yc4) (.slice ya5 D.set.length yc5)).toList _ HK5.out.box.range Tryd.underlying26 (by rfl) style_size ?_) | (refine wpList_store_mid (by rfl) 26 (.tmp 6) (.tmp 39) (by rfl) (w.heap.size + 2) 0 (styC D (.slice ya1 D.cont.length yc1) (.slice ya2 D.quotes.length yc2) (.slice ya3 D.reset.length yc3) (.slice ya4 D.add.length yc4) (.slice ya5 D.set.length yc5)) (by rfl) (by rfl) HTR.out style_size (sty_one _ _ _ _ _ _ _ _ _ _ _ _ _ _ _ _) ?_; generalize World.setCells WA5 (w.heap.size + 2) 0 (styC D (.slice ya1 D.cont.length yc1) (.slice ya2 D.quotes.length yc2) (.slice ya3 D.reset.length yc3) (.slice ya4 D.add.length yc4) (.slice ya5 D.set.length yc5)).toList = WF at *))
    exact bodyPost_ret (v := .agg (styC D (.slice ya1 D.cont.length yc1) (.slice ya2 D.quotes.length yc2) (.slice ya3 D.reset.length yc3) (.slice ya4 D.add.length yc4) (.slice ya5 D.set.length yc5))) (results_cell_row (by rfl) _ _ (w.heap.size + 2) _ _ _ _ (by rfl) HRP.out Tryd.underlying26 (by rfl) style_size) rfl ⟨⟨_, _, _, _, _, rfl, HFIN.out⟩, HWB.out⟩
  | some p =>
    have hp := findF_mem hfd
    have htk := fun (W : World) (hb : CB 26 W w.heap.size (styC s p1 p2 p3 p4 p5)) => taker_any hp w.heap.size W s f p1 p2 p3 p4 p5 q1 q2 q3 q4 q5 hb hf.cont.sl hf.quotes.sl hf.reset.sl hf.add.sl hf.set.sl
    have hen := taker_en hp
    rw [hfd] at HFN
    have hD : takeS s f nm = p.tf s f := by unfold takeS; rw [hfd]
    rw [hD] at HL ⊢
    obtain ⟨D, hDD⟩ : ∃ D, p.tf s f = D := ⟨_, rfl⟩
    rw [hDD] at htk HL ⊢
    obtain ⟨pn, pin, prd, ptk, prs, ptf⟩ := p
    simp only [foundV, prcells] at HFN htk hen
    have HTK := Lib.hid htk
    have HEN := Lib.hid hen
    have HSS := Lib.hid hs
    have HFF := Lib.hid hf
    clear hfd hD hDD hs hf lns lnf hp htk hen
    go_enter Tryd.func9, Tryd.ntmps9
    go_upto_region 1 with fail
    generalize ((w.alloc (.cells (styC s _ _ _ _ _) 26)).alloc (.cells (styC f _ _ _ _ _) 26)).alloc (.cells _ 26) = W0 at *
    go_upto_region 2 with (first | (go_at_call 21; (with_reducible refine (HFN.out _).mono ?_); rintro e w1 ⟨rfl, hb1⟩; have HTH := Lib.hid (CB.thereP (CB.new (T := 54) w1 prz)); have HP1 := Lib.hid (box_put (T := 54) (W := w1) (.string pn) (.bool pin) (.func (.func prd) #[] #[]) (.func (.func ptk) #[] #[])); have HB1 := Lib.hid (box_below (z := prz) (T := 54) hb1 #[.string pn, .bool pin, .func (.func prd) #[] #[], .func (.func ptk) #[] #[]].toList)) | (refine wpList_store_mid (by rfl) 54 (.tmp 7) (.tmp 12) (by rfl) w1.heap.size 0 #[.string pn, .bool pin, .func (.func prd) #[] #[], .func (.func ptk) #[] #[]] (by rfl) (by rfl) HTH.out prp_size (pr4_one _ _ _ _) ?_; generalize World.setCells (w1.alloc (.cells prz 54)) w1.heap.size 0 #[.string pn, .bool pin, .func (.func prd) #[] #[], .func (.func ptk) #[] #[]].toList = WA at *))
    have HKA := Lib.hid (HK.out.below HB1.out)
    have q3c : WA.cell? ⟨w1.heap.size, 3, none⟩ = some (.func (.func ptk) #[] #[]) := HP1.out.cell 3
    go_upto_region 3 with fail
    have he := HEN.out
    go_upto_region 4 with (first | (refine wpList_load_mid (by rfl) 26 (.tmp 4) (by rfl) (w.heap.size + 1) 0 (by rfl) (styC f q1 q2 q3 q4 q5).toList _ HKA.out.frm.range Tryd.underlying26 (by rfl) style_size ?_) | ((with_reducible refine (HTK.out _ HKA.out.box).mono ?_); rintro e WA0 ⟨rfl, ⟨r1, r2, r3, r4, r5, hx, hrr⟩, hbb, hcc⟩; have HK0 := Lib.hid (HKA.out.taken hbb hcc hx); have HRD : Hid (∀ W : World, Below w.heap.size w W → RdSty W r1 r2 r3 r4 r5 D) := fun W hb => hrr W (HSS.out.below hb) (HFF.out.below hb); clear hx hrr hbb hcc))
    have m1 : WA0.cell? ⟨w.heap.size, 3, none⟩ = some r1 := HK0.out.box.cell 3
    have z1 := HK0.out.size
    go_upto_region 5 with (go_at_call 22; (with_reducible refine (cloneI_any (HRD.out _ HK0.out.bel).cont HL.out.cont).mono ?_); rintro e u1 ⟨x1, rfl, o1, hb1⟩; have HJ1 := Lib.hid (HK0.out.below hb1); obtain ⟨ya1, yc1, rfl, _⟩ := row_sl o1; have HO1 := Lib.hid (o1.mono z1); clear o1 hb1; have d1 : u1.cell? ⟨w.heap.size, 3, none⟩ = some r1 := HJ1.out.box.cell 3; have e1 : u1.frozen? ⟨w.heap.size, 3, none⟩ = false := HJ1.out.box.frozen 3)
    have HK1 := Lib.hid (HJ1.out.put (D := D) (r1 := (.slice ya1 D.cont.length yc1)) (r2 := r2) (r3 := r3) (r4 := r4) (r5 := r5) 3 (.slice ya1 D.cont.length yc1) rfl)
    have HO1 := Lib.hid (own_sets (b := w.heap.size) (B := w.heap.size + 3) (by omega) [(.slice ya1 D.cont.length yc1)] 3 u1 HO1.out)
    simp only [World.setCells] at HO1
    generalize hWA1 : u1.setCell ⟨w.heap.size, 3, none⟩ (.slice ya1 D.cont.length yc1) = WA1 at *
    clear hWA1 m1 d1 e1 HJ1
    have m2 : WA1.cell? ⟨w.heap.size, 6, none⟩ = some r2 := HK1.out.box.cell 6
    have z2 := HK1.out.size
    go_upto_region 6 with (go_at_call 23; (with_reducible refine (cloneT_any ((HRD.out _ HK1.out.bel).quotes).k HL.out.quotes).mono ?_); rintro e u2 ⟨x2, rfl, o2, hb2⟩; have HJ2 := Lib.hid (HK1.out.below hb2); obtain ⟨ya2, yc2, rfl, _⟩ := row_sl o2; have HO1 := Lib.hid (prow_below HO1.out hb2); have HO2 := Lib.hid (o2.mono z2); clear o2 hb2; have d2 : u2.cell? ⟨w.heap.size, 6, none⟩ = some r2 := HJ2.out.box.cell 6; have e2 : u2.frozen? ⟨w.heap.size, 6, none⟩ = false := HJ2.out.box.frozen 6)
    have HK2 := Lib.hid (HJ2.out.put (D := D) (r1 := (.slice ya1 D.cont.length yc1)) (r2 := (.slice ya2 D.quotes.length yc2)) (r3 := r3) (r4 := r4) (r5 := r5) 6 (.slice ya2 D.quotes.length yc2) rfl)
    have HO1 := Lib.hid (own_sets (b := w.heap.size) (B := w.heap.size + 3) (by omega) [(.slice ya2 D.quotes.length yc2)] 6 u2 HO1.out)
    have HO2 := Lib.hid (own_sets (b := w.heap.size) (B := w.heap.size + 3) (by omega) [(.slice ya2 D.quotes.length yc2)] 6 u2 HO2.out)
    simp only [World.setCells] at HO1 HO2
    generalize hWA2 : u2.setCell ⟨w.heap.size, 6, none⟩ (.slice ya2 D.quotes.length yc2) = WA2 at *
    clear hWA2 m2 d2 e2 HJ2
    have m3 : WA2.cell? ⟨w.heap.size, 8, none⟩ = some r3 := HK2.out.box.cell 8
    have z3 := HK2.out.size
    go_upto_region 7 with (go_at_call 24; (with_reducible refine (cloneP_any (HRD.out _ HK2.out.bel).reset HL.out.reset).mono ?_); rintro e u3 ⟨x3, rfl, o3, hb3⟩; have HJ3 := Lib.hid (HK2.out.below hb3); obtain ⟨ya3, yc3, rfl, _⟩ := row_sl o3; have HO1 := Lib.hid (prow_below HO1.out hb3); have HO2 := Lib.hid (prow_below HO2.out hb3); have HO3 := Lib.hid (o3.mono z3); clear o3 hb3; have d3 : u3.cell? ⟨w.heap.size, 8, none⟩ = some r3 := HJ3.out.box.cell 8; have e3 : u3.frozen? ⟨w.heap.size, 8, none⟩ = false := HJ3.out.box.frozen 8)
    have HK3 := Lib.hid (HJ3.out.put (D := D) (r1 := (.slice ya1 D.cont.length yc1)) (r2 := (.slice ya2 D.quotes.length yc2)) (r3 := (.slice ya3 D.reset.length yc3)) (r4 := r4) (r5 := r5) 8 (.slice ya3 D.reset.length yc3) rfl)
    have HO1 := Lib.hid (own_sets (b := w.heap.size) (B := w.heap.size + 3) (by omega) [(.slice ya3 D.reset.length yc3)] 8 u3 HO1.out)
    have HO2 := Lib.hid (own_sets (b := w.heap.size) (B := w.heap.size + 3) (by omega) [(.slice ya3 D.reset.length yc3)] 8 u3 HO2.out)
    have HO3 := Lib.hid (own_sets (b := w.heap.size) (B := w.heap.size + 3) (by omega) [(.slice ya3 D.reset.length yc3)] 8 u3 HO3.out)
    simp only [World.setCells] at HO1 HO2 HO3
    generalize hWA3 : u3.setCell ⟨w.heap.size, 8, none⟩ (.slice ya3 D.reset.length yc3) = WA3 at *
    clear hWA3 m3 d3 e3 HJ3
    have m4 : WA3.cell? ⟨w.heap.size, 9, none⟩ = some r4 := HK3.out.box.cell 9
    have z4 := HK3.out.size
    go_upto_region 8 with (go_at_call 24; (with_reducible refine (cloneP_any (HRD.out _ HK3.out.bel).add HL.out.add).mono ?_); rintro e u4 ⟨x4, rfl, o4, hb4⟩; have HJ4 := Lib.hid (HK3.out.below hb4); obtain ⟨ya4, yc4, rfl, _⟩ := row_sl o4; have HO1 := Lib.hid (prow_below HO1.out hb4); have HO2 := Lib.hid (prow_below HO2.out hb4); have HO3 := Lib.hid (prow_below HO3.out hb4); have HO4 := Lib.hid (o4.mono z4); clear o4 hb4; have d4 : u4.cell? ⟨w.heap.size, 9, none⟩ = some r4 := HJ4.out.box.cell 9; have e4 : u4.frozen? ⟨w.heap.size, 9, none⟩ = false := HJ4.out.box.frozen 9)
    have HK4 := Lib.hid (HJ4.out.put (D := D) (r1 := (.slice ya1 D.cont.length yc1)) (r2 := (.slice ya2 D.quotes.length yc2)) (r3 := (.slice ya3 D.reset.length yc3)) (r4 := (.slice ya4 D.add.length yc4)) (r5 := r5) 9 (.slice ya4 D.add.length yc4) rfl)
    have HO1 := Lib.hid (own_sets (b := w.heap.size) (B := w.heap.size + 3) (by omega) [(.slice ya4 D.add.length yc4)] 9 u4 HO1.out)
    have HO2 := Lib.hid (own_sets (b := w.heap.size) (B := w.heap.size + 3) (by omega) [(.slice ya4 D.add.length yc4)] 9 u4 HO2.out)
    have HO3 := Lib.hid (own_sets (b := w.heap.size) (B := w.heap.size + 3) (by omega) [(.slice ya4 D.add.length yc4)] 9 u4 HO3.out)
    have HO4 := Lib.hid (own_sets (b := w.heap.size) (B := w.heap.size + 3) (by omega) [(.slice ya4 D.add.length yc4)] 9 u4 HO4.out)
    simp only [World.setCells] at HO1 HO2 HO3 HO4
    generalize hWA4 : u4.setCell ⟨w.heap.size, 9, none⟩ (.slice ya4 D.add.length yc4) = WA4 at *
    clear hWA4 m4 d4 e4 HJ4
    have m5 : WA4.cell? ⟨w.heap.size, 10, none⟩ = some r5 := HK4.out.box.cell 10
    have z5 := HK4.out.size
    go_upto_region 9 with (go_at_call 24; (with_reducible refine (cloneP_any (HRD.out _ HK4.out.bel).set HL.out.set).mono ?_); rintro e u5 ⟨x5, rfl, o5, hb5⟩; have HJ5 := Lib.hid (HK4.out.below hb5); obtain ⟨ya5, yc5, rfl, _⟩ := row_sl o5; have HO1 := Lib.hid (prow_below HO1.out hb5); have HO2 := Lib.hid (prow_below HO2.out hb5); have HO3 := Lib.hid (prow_below HO3.out hb5); have HO4 := Lib.hid (prow_below HO4.out hb5); have HO5 := Lib.hid (o5.mono z5); clear o5 hb5; have d5 : u5.cell? ⟨w.heap.size, 10, none⟩ = some r5 := HJ5.out.box.cell 10; have e5 : u5.frozen? ⟨w.heap.size, 10, none⟩ = false := HJ5.out.box.frozen 10)
    have HK5 := Lib.hid (HJ5.out.put (D := D) (r1 := (.slice ya1 D.cont.length yc1)) (r2 := (.slice ya2 D.quotes.length yc2)) (r3 := (.slice ya3 D.reset.length yc3)) (r4 := (.slice ya4 D.add.length yc4)) (r5 := (.slice ya5 D.set.length yc5)) 10 (.slice ya5 D.set.length yc5) rfl)
    have HO1 := Lib.hid (own_sets (b := w.heap.size) (B := w.heap.size + 3) (by omega) [(.slice ya5 D.set.length yc5)] 10 u5 HO1.out)
    have HO2 := Lib.hid (own_sets (b := w.heap.size) (B := w.heap.size + 3) (by omega) [(.slice ya5 D.set.length yc5)] 10 u5 HO2.out)
    have HO3 := Lib.hid (own_sets (b := w.heap.size) (B := w.heap.size + 3) (by omega) [(.slice ya5 D.set.length yc5)] 10 u5 HO3.out)
    have HO4 := Lib.hid (own_sets (b := w.heap.size) (B := w.heap.size + 3) (by omega) [(.slice ya5 D.set.length yc5)] 10 u5 HO4.out)
    have HO5 := Lib.hid (own_sets (b := w.heap.size) (B := w.heap.size + 3) (by omega) [(.slice ya5 D.set.length yc5)] 10 u5 HO5.out)
    simp only [World.setCells] at HO1 HO2 HO3 HO4 HO5
    generalize hWA5 : u5.setCell ⟨w.heap.size, 10, none⟩ (.slice ya5 D.set.length yc5) = WA5 at *
    clear hWA5 m5 d5 e5 HJ5
    have HTR := Lib.hid (vthere HK5.out.res (n := 11) rfl)
    have HRP := Lib.hid (HK5.out.res.all11 D (.slice ya1 D.cont.length yc1) (.slice ya2 D.quotes.length yc2) (.slice ya3 D.reset.length yc3) (.slice ya4 D.add.length yc4) (.slice ya5 D.set.length yc5))
    have HWB := Lib.hid (setsS_below (show w.heap.size ≤ w.heap.size + 2 by omega) (styC D (.slice ya1 D.cont.length yc1) (.slice ya2 D.quotes.length yc2) (.slice ya3 D.reset.length yc3) (.slice ya4 D.add.length yc4) (.slice ya5 D.set.length yc5)).toList 0 _ HK5.out.bel)
    have HFIN := Lib.hid (((OwnRows.mk (B := w.heap.size + 3) HO1.out HO2.out HO3.out HO4.out HO5.out).sets (b := w.heap.size + 2) (by omega) (styC D (.slice ya1 D.cont.length yc1) (.slice ya2 D.quotes.length yc2) (.slice ya3 D.reset.length yc3) (.slice ya4 D.add.length yc4) (.slice ya5 D.set.length yc5)).toList 0).mono (show w.heap.size ≤ w.heap.size + 3 by omega))
    go_wp2_with (first | (refine wpList_load_mid (by rfl) 26 (.tmp 3) (by rfl) w.heap.size 0 (by rfl) (styC D (.slice ya1 D.cont.length yc1) (.slice ya2 D.quotes.length yc2) (.slice ya3 D.reset.length yc3) (.slice ya4 D.add.length yc4) (.slice ya5 D.set.length yc5)).toList _ HK5.out.box.range Tryd.underlying26 (by rfl) style_size ?_) | (refine wpList_store_mid (by rfl) 26 (.tmp 6) (.tmp 39) (by rfl) (w.heap.size + 2) 0 (styC D (.slice ya1 D.cont.length yc1) (.slice ya2 D.quotes.length yc2) (.slice ya3 D.reset.length yc3) (.slice ya4 D.add.length yc4) (.slice ya5 D.set.length yc5)) (by rfl) (by rfl) HTR.out style_size (sty_one _ _ _ _ _ _ _ _ _ _ _ _ _ _ _ _) ?_; generalize World.setCells WA5 (w.heap.size + 2) 0 (styC D (.slice ya1 D.cont.length yc1) (.slice ya2 D.quotes.length yc2) (.slice ya3 D.reset.length yc3) (.slice ya4 D.add.length yc4) (.slice ya5 D.set.length yc5)).toList = WF at *))
    exact bodyPost_ret (v := .agg (styC D (.slice ya1 D.cont.length yc1) (.slice ya2 D.quotes.length yc2) (.slice ya3 D.reset.length yc3) (.slice ya4 D.add.length yc4) (.slice ya5 D.set.length yc5))) (results_cell_row (by rfl) _ _ (w.heap.size + 2) _ _ _ _ (by rfl) HRP.out Tryd.underlying26 (by rfl) style_size) rfl ⟨⟨_, _, _, _, _, rfl, HFIN.out⟩, HWB.out⟩
theorem ptake_any (nm : ByteArray) {s f : StyD} {p1 p2 p3 p4 p5 q1 q2 q3 q4 q5 : Value} {w : World} (hs : RdSty w p1 p2 p3 p4 p5 s) (hf : RdSty w q1 q2 q3 q4 q5 f) (lns : SLen s) (lnf : SLen f) :
    Calls Tryd.prog 9 #[.agg (styC s p1 p2 p3 p4 p5), .agg (styC f q1 q2 q3 q4 q5), .string nm] w (PTakePost w (takeS s f nm)) :=
  (ptake_own nm hs hf lns lnf).mono fun _ _ ⟨⟨r1, r2, r3, r4, r5, h1, h2⟩, h3⟩ => ⟨⟨r1, r2, r3, r4, r5, h1, h2.rd⟩, h3⟩
end Go.Proofs.YtkpaokcgjeplpaaDoor
namespace Go.Proofs.YtkpaokcgjeplpaaDoor
open Go.RowKit
/-! The document's own Take. -/
set_option maxRecDepth 100000 in
set_option maxHeartbeats 3200000 in
theorem rtake0 {s f : StyD} {p1 p2 p3 p4 p5 q1 q2 q3 q4 q5 : Value} {w : World} (hs : RdSty w p1 p2 p3 p4 p5 s) (hf : RdSty w q1 q2 q3 q4 q5 f) :
    Calls Tryd.prog 10 #[.agg (styC s p1 p2 p3 p4 p5), .agg (styC f q1 q2 q3 q4 q5), .string ⟨#[99, 111, 108, 111, 114]⟩] w (PTakePost w ({ s with color := f.color })) := by
  obtain ⟨b1, l1, d1, rfl⟩ := hs.cont.sl
  obtain ⟨b2, l2, d2, rfl⟩ := hs.quotes.sl
  obtain ⟨b3, l3, d3, rfl⟩ := hs.reset.sl
  obtain ⟨b4, l4, d4, rfl⟩ := hs.add.sl
  obtain ⟨b5, l5, d5, rfl⟩ := hs.set.sl
  obtain ⟨a1, n1, c1, rfl⟩ := hf.cont.sl
  obtain ⟨a2, n2, c2, rfl⟩ := hf.quotes.sl
  obtain ⟨a3, n3, c3, rfl⟩ := hf.reset.sl
  obtain ⟨a4, n4, c4, rfl⟩ := hf.add.sl
  obtain ⟨a5, n5, c5, rfl⟩ := hf.set.sl
  have HK0 := Lib.hid (TkB.start w s f (.slice b1 l1 d1) (.slice b2 l2 d2) (.slice b3 l3 d3) (.slice b4 l4 d4) (.slice b5 l5 d5) (.slice a1 n1 c1) (.slice a2 n2 c2) (.slice a3 n3 c3) (.slice a4 n4 c4) (.slice a5 n5 c5))
  have HRS : Hid (∀ W : World, Below w.heap.size w W → RdSty W (.slice b1 l1 d1) (.slice b2 l2 d2) (.slice b3 l3 d3) (.slice b4 l4 d4) (.slice b5 l5 d5) ({ s with color := f.color })) := fun W hb => (fun h1 h2 => ⟨h1.cont, h1.quotes, h1.reset, h1.add, h1.set⟩ : RdSty W (.slice b1 l1 d1) (.slice b2 l2 d2) (.slice b3 l3 d3) (.slice b4 l4 d4) (.slice b5 l5 d5) s → RdSty W (.slice a1 n1 c1) (.slice a2 n2 c2) (.slice a3 n3 c3) (.slice a4 n4 c4) (.slice a5 n5 c5) f → RdSty W (.slice b1 l1 d1) (.slice b2 l2 d2) (.slice b3 l3 d3) (.slice b4 l4 d4) (.slice b5 l5 d5) ({ s with color := f.color })) (hs.below hb) (hf.below hb)
  clear hs hf
  go_enter Tryd.func10, Tryd.ntmps10
  go_upto_region 1 with fail
  generalize ((w.alloc (.cells (styC s _ _ _ _ _) 26)).alloc (.cells (styC f _ _ _ _ _) 26)).alloc (.cells _ 26) = W0 at *
  have g2 : W0.cell? ⟨w.heap.size + 1, 2, none⟩ = some (.string f.color) := HK0.out.frm.cell 2
  have s2 : W0.cell? ⟨w.heap.size, 2, none⟩ = some (.string s.color) := HK0.out.box.cell 2
  have t2 : W0.frozen? ⟨w.heap.size, 2, none⟩ = false := HK0.out.box.frozen 2
  have HK1 := Lib.hid (HK0.out.put (D := ({ s with color := f.color } : StyD)) (r1 := (.slice b1 l1 d1)) (r2 := (.slice b2 l2 d2)) (r3 := (.slice b3 l3 d3)) (r4 := (.slice b4 l4 d4)) (r5 := (.slice b5 l5 d5)) 2 (.string f.color) rfl)
  go_upto_region 18 with fail
  generalize hWA : (W0.setCell ⟨w.heap.size, 2, none⟩ (.string f.color)) = WA at *
  have HTR := Lib.hid (vthere HK1.out.res (n := 11) rfl)
  have HRP := Lib.hid (HK1.out.res.all11 ({ s with color := f.color }) (.slice b1 l1 d1) (.slice b2 l2 d2) (.slice b3 l3 d3) (.slice b4 l4 d4) (.slice b5 l5 d5))
  have HWB := Lib.hid (setsS_below (show w.heap.size ≤ w.heap.size + 2 by omega) (styC ({ s with color := f.color }) (.slice b1 l1 d1) (.slice b2 l2 d2) (.slice b3 l3 d3) (.slice b4 l4 d4) (.slice b5 l5 d5)).toList 0 _ HK1.out.bel)
  go_wp2_with (first | (refine wpList_load_mid (by rfl) 26 (.tmp 3) (by rfl) w.heap.size 0 (by rfl) (styC ({ s with color := f.color }) (.slice b1 l1 d1) (.slice b2 l2 d2) (.slice b3 l3 d3) (.slice b4 l4 d4) (.slice b5 l5 d5)).toList _ HK1.out.box.range Tryd.underlying26 (by rfl) style_size ?_) | (refine wpList_store_mid (by rfl) 26 (.tmp 6) (.tmp 57) (by rfl) (w.heap.size + 2) 0 (styC ({ s with color := f.color }) (.slice b1 l1 d1) (.slice b2 l2 d2) (.slice b3 l3 d3) (.slice b4 l4 d4) (.slice b5 l5 d5)) (by rfl) (by rfl) HTR.out style_size (sty_one _ _ _ _ _ _ _ _ _ _ _ _ _ _ _ _) ?_; generalize World.setCells WA (w.heap.size + 2) 0 (styC ({ s with color := f.color }) (.slice b1 l1 d1) (.slice b2 l2 d2) (.slice b3 l3 d3) (.slice b4 l4 d4) (.slice b5 l5 d5)).toList = WF at *))
  exact bodyPost_ret (v := .agg (styC ({ s with color := f.color }) (.slice b1 l1 d1) (.slice b2 l2 d2) (.slice b3 l3 d3) (.slice b4 l4 d4) (.slice b5 l5 d5))) (results_cell_row (by rfl) _ _ (w.heap.size + 2) _ _ _ _ (by rfl) HRP.out Tryd.underlying26 (by rfl) style_size) rfl ⟨⟨_, _, _, _, _, rfl, HRS.out _ HWB.out⟩, HWB.out⟩
set_option maxRecDepth 100000 in
set_option maxHeartbeats 3200000 in
theorem rtake1 {s f : StyD} {p1 p2 p3 p4 p5 q1 q2 q3 q4 q5 : Value} {w : World} (hs : RdSty w p1 p2 p3 p4 p5 s) (hf : RdSty w q1 q2 q3 q4 q5 f) :
    Calls Tryd.prog 10 #[.agg (styC s p1 p2 p3 p4 p5), .agg (styC f q1 q2 q3 q4 q5), .string ⟨#[99, 111, 110, 116, 101, 110, 116]⟩] w (PTakePost w ({ s with cont := f.cont, normal := f.normal, none := f.none })) := by
  obtain ⟨b1, l1, d1, rfl⟩ := hs.cont.sl
  obtain ⟨b2, l2, d2, rfl⟩ := hs.quotes.sl
  obtain ⟨b3, l3, d3, rfl⟩ := hs.reset.sl
  obtain ⟨b4, l4, d4, rfl⟩ := hs.add.sl
  obtain ⟨b5, l5, d5, rfl⟩ := hs.set.sl
  obtain ⟨a1, n1, c1, rfl⟩ := hf.cont.sl
  obtain ⟨a2, n2, c2, rfl⟩ := hf.quotes.sl
  obtain ⟨a3, n3, c3, rfl⟩ := hf.reset.sl
  obtain ⟨a4, n4, c4, rfl⟩ := hf.add.sl
  obtain ⟨a5, n5, c5, rfl⟩ := hf.set.sl
  have HK0 := Lib.hid (TkB.start w s f (.slice b1 l1 d1) (.slice b2 l2 d2) (.slice b3 l3 d3) (.slice b4 l4 d4) (.slice b5 l5 d5) (.slice a1 n1 c1) (.slice a2 n2 c2) (.slice a3 n3 c3) (.slice a4 n4 c4) (.slice a5 n5 c5))
  have HRS : Hid (∀ W : World, Below w.heap.size w W → RdSty W (.slice a1 n1 c1) (.slice b2 l2 d2) (.slice b3 l3 d3) (.slice b4 l4 d4) (.slice b5 l5 d5) ({ s with cont := f.cont, normal := f.normal, none := f.none })) := fun W hb => (fun h1 h2 => ⟨h2.cont, h1.quotes, h1.reset, h1.add, h1.set⟩ : RdSty W (.slice b1 l1 d1) (.slice b2 l2 d2) (.slice b3 l3 d3) (.slice b4 l4 d4) (.slice b5 l5 d5) s → RdSty W (.slice a1 n1 c1) (.slice a2 n2 c2) (.slice a3 n3 c3) (.slice a4 n4 c4) (.slice a5 n5 c5) f → RdSty W (.slice a1 n1 c1) (.slice b2 l2 d2) (.slice b3 l3 d3) (.slice b4 l4 d4) (.slice b5 l5 d5) ({ s with cont := f.cont, normal := f.normal, none := f.none })) (hs.below hb) (hf.below hb)
  clear hs hf
  go_enter Tryd.func10, Tryd.ntmps10
  go_upto_region 1 with fail
  generalize ((w.alloc (.cells (styC s _ _ _ _ _) 26)).alloc (.cells (styC f _ _ _ _ _) 26)).alloc (.cells _ 26) = W0 at *
  have g3 : W0.cell? ⟨w.heap.size + 1, 3, none⟩ = some ((.slice a1 n1 c1)) := HK0.out.frm.cell 3
  have g4 : W0.cell? ⟨w.heap.size + 1, 4, none⟩ = some (.bool f.normal) := HK0.out.frm.cell 4
  have g5 : W0.cell? ⟨w.heap.size + 1, 5, none⟩ = some (.bool f.none) := HK0.out.frm.cell 5
  have s3 : W0.cell? ⟨w.heap.size, 3, none⟩ = some ((.slice b1 l1 d1)) := HK0.out.box.cell 3
  have t3 : W0.frozen? ⟨w.heap.size, 3, none⟩ = false := HK0.out.box.frozen 3
  have HK1 := Lib.hid (HK0.out.put (D := ({ s with cont := f.cont } : StyD)) (r1 := (.slice a1 n1 c1)) (r2 := (.slice b2 l2 d2)) (r3 := (.slice b3 l3 d3)) (r4 := (.slice b4 l4 d4)) (r5 := (.slice b5 l5 d5)) 3 ((.slice a1 n1 c1)) rfl)
  have s4 : (W0.setCell ⟨w.heap.size, 3, none⟩ ((.slice a1 n1 c1))).cell? ⟨w.heap.size, 4, none⟩ = some (.bool s.normal) := HK1.out.box.cell 4
  have t4 : (W0.setCell ⟨w.heap.size, 3, none⟩ ((.slice a1 n1 c1))).frozen? ⟨w.heap.size, 4, none⟩ = false := HK1.out.box.frozen 4
  have HK2 := Lib.hid (HK1.out.put (D := ({ s with cont := f.cont, normal := f.normal } : StyD)) (r1 := (.slice a1 n1 c1)) (r2 := (.slice b2 l2 d2)) (r3 := (.slice b3 l3 d3)) (r4 := (.slice b4 l4 d4)) (r5 := (.slice b5 l5 d5)) 4 (.bool f.normal) rfl)
  have s5 : ((W0.setCell ⟨w.heap.size, 3, none⟩ ((.slice a1 n1 c1))).setCell ⟨w.heap.size, 4, none⟩ (.bool f.normal)).cell? ⟨w.heap.size, 5, none⟩ = some (.bool s.none) := HK2.out.box.cell 5
  have t5 : ((W0.setCell ⟨w.heap.size, 3, none⟩ ((.slice a1 n1 c1))).setCell ⟨w.heap.size, 4, none⟩ (.bool f.normal)).frozen? ⟨w.heap.size, 5, none⟩ = false := HK2.out.box.frozen 5
  have HK3 := Lib.hid (HK2.out.put (D := ({ s with cont := f.cont, normal := f.normal, none := f.none } : StyD)) (r1 := (.slice a1 n1 c1)) (r2 := (.slice b2 l2 d2)) (r3 := (.slice b3 l3 d3)) (r4 := (.slice b4 l4 d4)) (r5 := (.slice b5 l5 d5)) 5 (.bool f.none) rfl)
  have HKD : Hid (TkB w (((W0.setCell ⟨w.heap.size, 3, none⟩ ((.slice a1 n1 c1))).setCell ⟨w.heap.size, 4, none⟩ (.bool f.normal)).setCell ⟨w.heap.size, 5, none⟩ (.bool f.none)).drew ({ s with cont := f.cont, normal := f.normal, none := f.none }) f (.slice a1 n1 c1) (.slice b2 l2 d2) (.slice b3 l3 d3) (.slice b4 l4 d4) (.slice b5 l5 d5) (.slice a1 n1 c1) (.slice a2 n2 c2) (.slice a3 n3 c3) (.slice a4 n4 c4) (.slice a5 n5 c5)) := ⟨HK3.out.bel.drew, HK3.out.box, HK3.out.frm, HK3.out.res, HK3.out.size⟩
  go_upto_region 5 with fail
  go_region
  all_goals go_upto_region 18 with fail
  all_goals generalize hWA : World.drew _ = WA at *
  have HTR := Lib.hid (vthere HKD.out.res (n := 11) rfl)
  have HRP := Lib.hid (HKD.out.res.all11 ({ s with cont := f.cont, normal := f.normal, none := f.none }) (.slice a1 n1 c1) (.slice b2 l2 d2) (.slice b3 l3 d3) (.slice b4 l4 d4) (.slice b5 l5 d5))
  have HWB := Lib.hid (setsS_below (show w.heap.size ≤ w.heap.size + 2 by omega) (styC ({ s with cont := f.cont, normal := f.normal, none := f.none }) (.slice a1 n1 c1) (.slice b2 l2 d2) (.slice b3 l3 d3) (.slice b4 l4 d4) (.slice b5 l5 d5)).toList 0 _ HKD.out.bel)
  go_wp2_with (first | (refine wpList_load_mid (by rfl) 26 (.tmp 3) (by rfl) w.heap.size 0 (by rfl) (styC ({ s with cont := f.cont, normal := f.normal, none := f.none }) (.slice a1 n1 c1) (.slice b2 l2 d2) (.slice b3 l3 d3) (.slice b4 l4 d4) (.slice b5 l5 d5)).toList _ HKD.out.box.range Tryd.underlying26 (by rfl) style_size ?_) | (refine wpList_store_mid (by rfl) 26 (.tmp 6) (.tmp 57) (by rfl) (w.heap.size + 2) 0 (styC ({ s with cont := f.cont, normal := f.normal, none := f.none }) (.slice a1 n1 c1) (.slice b2 l2 d2) (.slice b3 l3 d3) (.slice b4 l4 d4) (.slice b5 l5 d5)) (by rfl) (by rfl) HTR.out style_size (sty_one _ _ _ _ _ _ _ _ _ _ _ _ _ _ _ _) ?_; generalize World.setCells WA (w.heap.size + 2) 0 (styC ({ s with cont := f.cont, normal := f.normal, none := f.none }) (.slice a1 n1 c1) (.slice b2 l2 d2) (.slice b3 l3 d3) (.slice b4 l4 d4) (.slice b5 l5 d5)).toList = WF at *))
  exact bodyPost_ret (v := .agg (styC ({ s with cont := f.cont, normal := f.normal, none := f.none }) (.slice a1 n1 c1) (.slice b2 l2 d2) (.slice b3 l3 d3) (.slice b4 l4 d4) (.slice b5 l5 d5))) (results_cell_row (by rfl) _ _ (w.heap.size + 2) _ _ _ _ (by rfl) HRP.out Tryd.underlying26 (by rfl) style_size) rfl ⟨⟨_, _, _, _, _, rfl, HRS.out _ HWB.out⟩, HWB.out⟩
set_option maxRecDepth 100000 in
set_option maxHeartbeats 3200000 in
theorem rtake2 {s f : StyD} {p1 p2 p3 p4 p5 q1 q2 q3 q4 q5 : Value} {w : World} (hs : RdSty w p1 p2 p3 p4 p5 s) (hf : RdSty w q1 q2 q3 q4 q5 f) :
    Calls Tryd.prog 10 #[.agg (styC s p1 p2 p3 p4 p5), .agg (styC f q1 q2 q3 q4 q5), .string ⟨#[99, 111, 117, 110, 116, 101, 114, 45, 105, 110, 99, 114, 101, 109, 101, 110, 116]⟩] w (PTakePost w ({ s with add := f.add })) := by
  obtain ⟨b1, l1, d1, rfl⟩ := hs.cont.sl
  obtain ⟨b2, l2, d2, rfl⟩ := hs.quotes.sl
  obtain ⟨b3, l3, d3, rfl⟩ := hs.reset.sl
  obtain ⟨b4, l4, d4, rfl⟩ := hs.add.sl
  obtain ⟨b5, l5, d5, rfl⟩ := hs.set.sl
  obtain ⟨a1, n1, c1, rfl⟩ := hf.cont.sl
  obtain ⟨a2, n2, c2, rfl⟩ := hf.quotes.sl
  obtain ⟨a3, n3, c3, rfl⟩ := hf.reset.sl
  obtain ⟨a4, n4, c4, rfl⟩ := hf.add.sl
  obtain ⟨a5, n5, c5, rfl⟩ := hf.set.sl
  have HK0 := Lib.hid (TkB.start w s f (.slice b1 l1 d1) (.slice b2 l2 d2) (.slice b3 l3 d3) (.slice b4 l4 d4) (.slice b5 l5 d5) (.slice a1 n1 c1) (.slice a2 n2 c2) (.slice a3 n3 c3) (.slice a4 n4 c4) (.slice a5 n5 c5))
  have HRS : Hid (∀ W : World, Below w.heap.size w W → RdSty W (.slice b1 l1 d1) (.slice b2 l2 d2) (.slice b3 l3 d3) (.slice a4 n4 c4) (.slice b5 l5 d5) ({ s with add := f.add })) := fun W hb => (fun h1 h2 => ⟨h1.cont, h1.quotes, h1.reset, h2.add, h1.set⟩ : RdSty W (.slice b1 l1 d1) (.slice b2 l2 d2) (.slice b3 l3 d3) (.slice b4 l4 d4) (.slice b5 l5 d5) s → RdSty W (.slice a1 n1 c1) (.slice a2 n2 c2) (.slice a3 n3 c3) (.slice a4 n4 c4) (.slice a5 n5 c5) f → RdSty W (.slice b1 l1 d1) (.slice b2 l2 d2) (.slice b3 l3 d3) (.slice a4 n4 c4) (.slice b5 l5 d5) ({ s with add := f.add })) (hs.below hb) (hf.below hb)
  clear hs hf
  go_enter Tryd.func10, Tryd.ntmps10
  go_upto_region 1 with fail
  generalize ((w.alloc (.cells (styC s _ _ _ _ _) 26)).alloc (.cells (styC f _ _ _ _ _) 26)).alloc (.cells _ 26) = W0 at *
  have g9 : W0.cell? ⟨w.heap.size + 1, 9, none⟩ = some ((.slice a4 n4 c4)) := HK0.out.frm.cell 9
  have s9 : W0.cell? ⟨w.heap.size, 9, none⟩ = some ((.slice b4 l4 d4)) := HK0.out.box.cell 9
  have t9 : W0.frozen? ⟨w.heap.size, 9, none⟩ = false := HK0.out.box.frozen 9
  have HK1 := Lib.hid (HK0.out.put (D := ({ s with add := f.add } : StyD)) (r1 := (.slice b1 l1 d1)) (r2 := (.slice b2 l2 d2)) (r3 := (.slice b3 l3 d3)) (r4 := (.slice a4 n4 c4)) (r5 := (.slice b5 l5 d5)) 9 ((.slice a4 n4 c4)) rfl)
  go_upto_region 18 with fail
  generalize hWA : (W0.setCell ⟨w.heap.size, 9, none⟩ ((.slice a4 n4 c4))) = WA at *
  have HTR := Lib.hid (vthere HK1.out.res (n := 11) rfl)
  have HRP := Lib.hid (HK1.out.res.all11 ({ s with add := f.add }) (.slice b1 l1 d1) (.slice b2 l2 d2) (.slice b3 l3 d3) (.slice a4 n4 c4) (.slice b5 l5 d5))
  have HWB := Lib.hid (setsS_below (show w.heap.size ≤ w.heap.size + 2 by omega) (styC ({ s with add := f.add }) (.slice b1 l1 d1) (.slice b2 l2 d2) (.slice b3 l3 d3) (.slice a4 n4 c4) (.slice b5 l5 d5)).toList 0 _ HK1.out.bel)
  go_wp2_with (first | (refine wpList_load_mid (by rfl) 26 (.tmp 3) (by rfl) w.heap.size 0 (by rfl) (styC ({ s with add := f.add }) (.slice b1 l1 d1) (.slice b2 l2 d2) (.slice b3 l3 d3) (.slice a4 n4 c4) (.slice b5 l5 d5)).toList _ HK1.out.box.range Tryd.underlying26 (by rfl) style_size ?_) | (refine wpList_store_mid (by rfl) 26 (.tmp 6) (.tmp 57) (by rfl) (w.heap.size + 2) 0 (styC ({ s with add := f.add }) (.slice b1 l1 d1) (.slice b2 l2 d2) (.slice b3 l3 d3) (.slice a4 n4 c4) (.slice b5 l5 d5)) (by rfl) (by rfl) HTR.out style_size (sty_one _ _ _ _ _ _ _ _ _ _ _ _ _ _ _ _) ?_; generalize World.setCells WA (w.heap.size + 2) 0 (styC ({ s with add := f.add }) (.slice b1 l1 d1) (.slice b2 l2 d2) (.slice b3 l3 d3) (.slice a4 n4 c4) (.slice b5 l5 d5)).toList = WF at *))
  exact bodyPost_ret (v := .agg (styC ({ s with add := f.add }) (.slice b1 l1 d1) (.slice b2 l2 d2) (.slice b3 l3 d3) (.slice a4 n4 c4) (.slice b5 l5 d5))) (results_cell_row (by rfl) _ _ (w.heap.size + 2) _ _ _ _ (by rfl) HRP.out Tryd.underlying26 (by rfl) style_size) rfl ⟨⟨_, _, _, _, _, rfl, HRS.out _ HWB.out⟩, HWB.out⟩
set_option maxRecDepth 100000 in
set_option maxHeartbeats 3200000 in
theorem rtake3 {s f : StyD} {p1 p2 p3 p4 p5 q1 q2 q3 q4 q5 : Value} {w : World} (hs : RdSty w p1 p2 p3 p4 p5 s) (hf : RdSty w q1 q2 q3 q4 q5 f) :
    Calls Tryd.prog 10 #[.agg (styC s p1 p2 p3 p4 p5), .agg (styC f q1 q2 q3 q4 q5), .string ⟨#[99, 111, 117, 110, 116, 101, 114, 45, 114, 101, 115, 101, 116]⟩] w (PTakePost w ({ s with reset := f.reset })) := by
  obtain ⟨b1, l1, d1, rfl⟩ := hs.cont.sl
  obtain ⟨b2, l2, d2, rfl⟩ := hs.quotes.sl
  obtain ⟨b3, l3, d3, rfl⟩ := hs.reset.sl
  obtain ⟨b4, l4, d4, rfl⟩ := hs.add.sl
  obtain ⟨b5, l5, d5, rfl⟩ := hs.set.sl
  obtain ⟨a1, n1, c1, rfl⟩ := hf.cont.sl
  obtain ⟨a2, n2, c2, rfl⟩ := hf.quotes.sl
  obtain ⟨a3, n3, c3, rfl⟩ := hf.reset.sl
  obtain ⟨a4, n4, c4, rfl⟩ := hf.add.sl
  obtain ⟨a5, n5, c5, rfl⟩ := hf.set.sl
  have HK0 := Lib.hid (TkB.start w s f (.slice b1 l1 d1) (.slice b2 l2 d2) (.slice b3 l3 d3) (.slice b4 l4 d4) (.slice b5 l5 d5) (.slice a1 n1 c1) (.slice a2 n2 c2) (.slice a3 n3 c3) (.slice a4 n4 c4) (.slice a5 n5 c5))
  have HRS : Hid (∀ W : World, Below w.heap.size w W → RdSty W (.slice b1 l1 d1) (.slice b2 l2 d2) (.slice a3 n3 c3) (.slice b4 l4 d4) (.slice b5 l5 d5) ({ s with reset := f.reset })) := fun W hb => (fun h1 h2 => ⟨h1.cont, h1.quotes, h2.reset, h1.add, h1.set⟩ : RdSty W (.slice b1 l1 d1) (.slice b2 l2 d2) (.slice b3 l3 d3) (.slice b4 l4 d4) (.slice b5 l5 d5) s → RdSty W (.slice a1 n1 c1) (.slice a2 n2 c2) (.slice a3 n3 c3) (.slice a4 n4 c4) (.slice a5 n5 c5) f → RdSty W (.slice b1 l1 d1) (.slice b2 l2 d2) (.slice a3 n3 c3) (.slice b4 l4 d4) (.slice b5 l5 d5) ({ s with reset := f.reset })) (hs.below hb) (hf.below hb)
  clear hs hf
  go_enter Tryd.func10, Tryd.ntmps10
  go_upto_region 1 with fail
  generalize ((w.alloc (.cells (styC s _ _ _ _ _) 26)).alloc (.cells (styC f _ _ _ _ _) 26)).alloc (.cells _ 26) = W0 at *
  have g8 : W0.cell? ⟨w.heap.size + 1, 8, none⟩ = some ((.slice a3 n3 c3)) := HK0.out.frm.cell 8
  have s8 : W0.cell? ⟨w.heap.size, 8, none⟩ = some ((.slice b3 l3 d3)) := HK0.out.box.cell 8
  have t8 : W0.frozen? ⟨w.heap.size, 8, none⟩ = false := HK0.out.box.frozen 8
  have HK1 := Lib.hid (HK0.out.put (D := ({ s with reset := f.reset } : StyD)) (r1 := (.slice b1 l1 d1)) (r2 := (.slice b2 l2 d2)) (r3 := (.slice a3 n3 c3)) (r4 := (.slice b4 l4 d4)) (r5 := (.slice b5 l5 d5)) 8 ((.slice a3 n3 c3)) rfl)
  go_upto_region 18 with fail
  generalize hWA : (W0.setCell ⟨w.heap.size, 8, none⟩ ((.slice a3 n3 c3))) = WA at *
  have HTR := Lib.hid (vthere HK1.out.res (n := 11) rfl)
  have HRP := Lib.hid (HK1.out.res.all11 ({ s with reset := f.reset }) (.slice b1 l1 d1) (.slice b2 l2 d2) (.slice a3 n3 c3) (.slice b4 l4 d4) (.slice b5 l5 d5))
  have HWB := Lib.hid (setsS_below (show w.heap.size ≤ w.heap.size + 2 by omega) (styC ({ s with reset := f.reset }) (.slice b1 l1 d1) (.slice b2 l2 d2) (.slice a3 n3 c3) (.slice b4 l4 d4) (.slice b5 l5 d5)).toList 0 _ HK1.out.bel)
  go_wp2_with (first | (refine wpList_load_mid (by rfl) 26 (.tmp 3) (by rfl) w.heap.size 0 (by rfl) (styC ({ s with reset := f.reset }) (.slice b1 l1 d1) (.slice b2 l2 d2) (.slice a3 n3 c3) (.slice b4 l4 d4) (.slice b5 l5 d5)).toList _ HK1.out.box.range Tryd.underlying26 (by rfl) style_size ?_) | (refine wpList_store_mid (by rfl) 26 (.tmp 6) (.tmp 57) (by rfl) (w.heap.size + 2) 0 (styC ({ s with reset := f.reset }) (.slice b1 l1 d1) (.slice b2 l2 d2) (.slice a3 n3 c3) (.slice b4 l4 d4) (.slice b5 l5 d5)) (by rfl) (by rfl) HTR.out style_size (sty_one _ _ _ _ _ _ _ _ _ _ _ _ _ _ _ _) ?_; generalize World.setCells WA (w.heap.size + 2) 0 (styC ({ s with reset := f.reset }) (.slice b1 l1 d1) (.slice b2 l2 d2) (.slice a3 n3 c3) (.slice b4 l4 d4) (.slice b5 l5 d5)).toList = WF at *))
  exact bodyPost_ret (v := .agg (styC ({ s with reset := f.reset }) (.slice b1 l1 d1) (.slice b2 l2 d2) (.slice a3 n3 c3) (.slice b4 l4 d4) (.slice b5 l5 d5))) (results_cell_row (by rfl) _ _ (w.heap.size + 2) _ _ _ _ (by rfl) HRP.out Tryd.underlying26 (by rfl) style_size) rfl ⟨⟨_, _, _, _, _, rfl, HRS.out _ HWB.out⟩, HWB.out⟩
set_option maxRecDepth 100000 in
set_option maxHeartbeats 3200000 in
theorem rtake4 {s f : StyD} {p1 p2 p3 p4 p5 q1 q2 q3 q4 q5 : Value} {w : World} (hs : RdSty w p1 p2 p3 p4 p5 s) (hf : RdSty w q1 q2 q3 q4 q5 f) :
    Calls Tryd.prog 10 #[.agg (styC s p1 p2 p3 p4 p5), .agg (styC f q1 q2 q3 q4 q5), .string ⟨#[99, 111, 117, 110, 116, 101, 114, 45, 115, 101, 116]⟩] w (PTakePost w ({ s with set := f.set })) := by
  obtain ⟨b1, l1, d1, rfl⟩ := hs.cont.sl
  obtain ⟨b2, l2, d2, rfl⟩ := hs.quotes.sl
  obtain ⟨b3, l3, d3, rfl⟩ := hs.reset.sl
  obtain ⟨b4, l4, d4, rfl⟩ := hs.add.sl
  obtain ⟨b5, l5, d5, rfl⟩ := hs.set.sl
  obtain ⟨a1, n1, c1, rfl⟩ := hf.cont.sl
  obtain ⟨a2, n2, c2, rfl⟩ := hf.quotes.sl
  obtain ⟨a3, n3, c3, rfl⟩ := hf.reset.sl
  obtain ⟨a4, n4, c4, rfl⟩ := hf.add.sl
  obtain ⟨a5, n5, c5, rfl⟩ := hf.set.sl
  have HK0 := Lib.hid (TkB.start w s f (.slice b1 l1 d1) (.slice b2 l2 d2) (.slice b3 l3 d3) (.slice b4 l4 d4) (.slice b5 l5 d5) (.slice a1 n1 c1) (.slice a2 n2 c2) (.slice a3 n3 c3) (.slice a4 n4 c4) (.slice a5 n5 c5))
  have HRS : Hid (∀ W : World, Below w.heap.size w W → RdSty W (.slice b1 l1 d1) (.slice b2 l2 d2) (.slice b3 l3 d3) (.slice b4 l4 d4) (.slice a5 n5 c5) ({ s with set := f.set })) := fun W hb => (fun h1 h2 => ⟨h1.cont, h1.quotes, h1.reset, h1.add, h2.set⟩ : RdSty W (.slice b1 l1 d1) (.slice b2 l2 d2) (.slice b3 l3 d3) (.slice b4 l4 d4) (.slice b5 l5 d5) s → RdSty W (.slice a1 n1 c1) (.slice a2 n2 c2) (.slice a3 n3 c3) (.slice a4 n4 c4) (.slice a5 n5 c5) f → RdSty W (.slice b1 l1 d1) (.slice b2 l2 d2) (.slice b3 l3 d3) (.slice b4 l4 d4) (.slice a5 n5 c5) ({ s with set := f.set })) (hs.below hb) (hf.below hb)
  clear hs hf
  go_enter Tryd.func10, Tryd.ntmps10
  go_upto_region 1 with fail
  generalize ((w.alloc (.cells (styC s _ _ _ _ _) 26)).alloc (.cells (styC f _ _ _ _ _) 26)).alloc (.cells _ 26) = W0 at *
  have g10 : W0.cell? ⟨w.heap.size + 1, 10, none⟩ = some ((.slice a5 n5 c5)) := HK0.out.frm.cell 10
  have s10 : W0.cell? ⟨w.heap.size, 10, none⟩ = some ((.slice b5 l5 d5)) := HK0.out.box.cell 10
  have t10 : W0.frozen? ⟨w.heap.size, 10, none⟩ = false := HK0.out.box.frozen 10
  have HK1 := Lib.hid (HK0.out.put (D := ({ s with set := f.set } : StyD)) (r1 := (.slice b1 l1 d1)) (r2 := (.slice b2 l2 d2)) (r3 := (.slice b3 l3 d3)) (r4 := (.slice b4 l4 d4)) (r5 := (.slice a5 n5 c5)) 10 ((.slice a5 n5 c5)) rfl)
  go_upto_region 18 with fail
  generalize hWA : (W0.setCell ⟨w.heap.size, 10, none⟩ ((.slice a5 n5 c5))) = WA at *
  have HTR := Lib.hid (vthere HK1.out.res (n := 11) rfl)
  have HRP := Lib.hid (HK1.out.res.all11 ({ s with set := f.set }) (.slice b1 l1 d1) (.slice b2 l2 d2) (.slice b3 l3 d3) (.slice b4 l4 d4) (.slice a5 n5 c5))
  have HWB := Lib.hid (setsS_below (show w.heap.size ≤ w.heap.size + 2 by omega) (styC ({ s with set := f.set }) (.slice b1 l1 d1) (.slice b2 l2 d2) (.slice b3 l3 d3) (.slice b4 l4 d4) (.slice a5 n5 c5)).toList 0 _ HK1.out.bel)
  go_wp2_with (first | (refine wpList_load_mid (by rfl) 26 (.tmp 3) (by rfl) w.heap.size 0 (by rfl) (styC ({ s with set := f.set }) (.slice b1 l1 d1) (.slice b2 l2 d2) (.slice b3 l3 d3) (.slice b4 l4 d4) (.slice a5 n5 c5)).toList _ HK1.out.box.range Tryd.underlying26 (by rfl) style_size ?_) | (refine wpList_store_mid (by rfl) 26 (.tmp 6) (.tmp 57) (by rfl) (w.heap.size + 2) 0 (styC ({ s with set := f.set }) (.slice b1 l1 d1) (.slice b2 l2 d2) (.slice b3 l3 d3) (.slice b4 l4 d4) (.slice a5 n5 c5)) (by rfl) (by rfl) HTR.out style_size (sty_one _ _ _ _ _ _ _ _ _ _ _ _ _ _ _ _) ?_; generalize World.setCells WA (w.heap.size + 2) 0 (styC ({ s with set := f.set }) (.slice b1 l1 d1) (.slice b2 l2 d2) (.slice b3 l3 d3) (.slice b4 l4 d4) (.slice a5 n5 c5)).toList = WF at *))
  exact bodyPost_ret (v := .agg (styC ({ s with set := f.set }) (.slice b1 l1 d1) (.slice b2 l2 d2) (.slice b3 l3 d3) (.slice b4 l4 d4) (.slice a5 n5 c5))) (results_cell_row (by rfl) _ _ (w.heap.size + 2) _ _ _ _ (by rfl) HRP.out Tryd.underlying26 (by rfl) style_size) rfl ⟨⟨_, _, _, _, _, rfl, HRS.out _ HWB.out⟩, HWB.out⟩
set_option maxRecDepth 100000 in
set_option maxHeartbeats 3200000 in
theorem rtake5 {s f : StyD} {p1 p2 p3 p4 p5 q1 q2 q3 q4 q5 : Value} {w : World} (hs : RdSty w p1 p2 p3 p4 p5 s) (hf : RdSty w q1 q2 q3 q4 q5 f) :
    Calls Tryd.prog 10 #[.agg (styC s p1 p2 p3 p4 p5), .agg (styC f q1 q2 q3 q4 q5), .string ⟨#[100, 105, 115, 112, 108, 97, 121]⟩] w (PTakePost w ({ s with disp := f.disp })) := by
  obtain ⟨b1, l1, d1, rfl⟩ := hs.cont.sl
  obtain ⟨b2, l2, d2, rfl⟩ := hs.quotes.sl
  obtain ⟨b3, l3, d3, rfl⟩ := hs.reset.sl
  obtain ⟨b4, l4, d4, rfl⟩ := hs.add.sl
  obtain ⟨b5, l5, d5, rfl⟩ := hs.set.sl
  obtain ⟨a1, n1, c1, rfl⟩ := hf.cont.sl
  obtain ⟨a2, n2, c2, rfl⟩ := hf.quotes.sl
  obtain ⟨a3, n3, c3, rfl⟩ := hf.reset.sl
  obtain ⟨a4, n4, c4, rfl⟩ := hf.add.sl
  obtain ⟨a5, n5, c5, rfl⟩ := hf.set.sl
  have HK0 := Lib.hid (TkB.start w s f (.slice b1 l1 d1) (.slice b2 l2 d2) (.slice b3 l3 d3) (.slice b4 l4 d4) (.slice b5 l5 d5) (.slice a1 n1 c1) (.slice a2 n2 c2) (.slice a3 n3 c3) (.slice a4 n4 c4) (.slice a5 n5 c5))
  have HRS : Hid (∀ W : World, Below w.heap.size w W → RdSty W (.slice b1 l1 d1) (.slice b2 l2 d2) (.slice b3 l3 d3) (.slice b4 l4 d4) (.slice b5 l5 d5) ({ s with disp := f.disp })) := fun W hb => (fun h1 h2 => ⟨h1.cont, h1.quotes, h1.reset, h1.add, h1.set⟩ : RdSty W (.slice b1 l1 d1) (.slice b2 l2 d2) (.slice b3 l3 d3) (.slice b4 l4 d4) (.slice b5 l5 d5) s → RdSty W (.slice a1 n1 c1) (.slice a2 n2 c2) (.slice a3 n3 c3) (.slice a4 n4 c4) (.slice a5 n5 c5) f → RdSty W (.slice b1 l1 d1) (.slice b2 l2 d2) (.slice b3 l3 d3) (.slice b4 l4 d4) (.slice b5 l5 d5) ({ s with disp := f.disp })) (hs.below hb) (hf.below hb)
  clear hs hf
  go_enter Tryd.func10, Tryd.ntmps10
  go_upto_region 1 with fail
  generalize ((w.alloc (.cells (styC s _ _ _ _ _) 26)).alloc (.cells (styC f _ _ _ _ _) 26)).alloc (.cells _ 26) = W0 at *
  have g0 : W0.cell? ⟨w.heap.size + 1, 0, none⟩ = some (.string f.disp) := HK0.out.frm.cell 0
  have s0 : W0.cell? ⟨w.heap.size, 0, none⟩ = some (.string s.disp) := HK0.out.box.cell 0
  have t0 : W0.frozen? ⟨w.heap.size, 0, none⟩ = false := HK0.out.box.frozen 0
  have HK1 := Lib.hid (HK0.out.put (D := ({ s with disp := f.disp } : StyD)) (r1 := (.slice b1 l1 d1)) (r2 := (.slice b2 l2 d2)) (r3 := (.slice b3 l3 d3)) (r4 := (.slice b4 l4 d4)) (r5 := (.slice b5 l5 d5)) 0 (.string f.disp) rfl)
  go_upto_region 18 with fail
  generalize hWA : (W0.setCell ⟨w.heap.size, 0, none⟩ (.string f.disp)) = WA at *
  have HTR := Lib.hid (vthere HK1.out.res (n := 11) rfl)
  have HRP := Lib.hid (HK1.out.res.all11 ({ s with disp := f.disp }) (.slice b1 l1 d1) (.slice b2 l2 d2) (.slice b3 l3 d3) (.slice b4 l4 d4) (.slice b5 l5 d5))
  have HWB := Lib.hid (setsS_below (show w.heap.size ≤ w.heap.size + 2 by omega) (styC ({ s with disp := f.disp }) (.slice b1 l1 d1) (.slice b2 l2 d2) (.slice b3 l3 d3) (.slice b4 l4 d4) (.slice b5 l5 d5)).toList 0 _ HK1.out.bel)
  go_wp2_with (first | (refine wpList_load_mid (by rfl) 26 (.tmp 3) (by rfl) w.heap.size 0 (by rfl) (styC ({ s with disp := f.disp }) (.slice b1 l1 d1) (.slice b2 l2 d2) (.slice b3 l3 d3) (.slice b4 l4 d4) (.slice b5 l5 d5)).toList _ HK1.out.box.range Tryd.underlying26 (by rfl) style_size ?_) | (refine wpList_store_mid (by rfl) 26 (.tmp 6) (.tmp 57) (by rfl) (w.heap.size + 2) 0 (styC ({ s with disp := f.disp }) (.slice b1 l1 d1) (.slice b2 l2 d2) (.slice b3 l3 d3) (.slice b4 l4 d4) (.slice b5 l5 d5)) (by rfl) (by rfl) HTR.out style_size (sty_one _ _ _ _ _ _ _ _ _ _ _ _ _ _ _ _) ?_; generalize World.setCells WA (w.heap.size + 2) 0 (styC ({ s with disp := f.disp }) (.slice b1 l1 d1) (.slice b2 l2 d2) (.slice b3 l3 d3) (.slice b4 l4 d4) (.slice b5 l5 d5)).toList = WF at *))
  exact bodyPost_ret (v := .agg (styC ({ s with disp := f.disp }) (.slice b1 l1 d1) (.slice b2 l2 d2) (.slice b3 l3 d3) (.slice b4 l4 d4) (.slice b5 l5 d5))) (results_cell_row (by rfl) _ _ (w.heap.size + 2) _ _ _ _ (by rfl) HRP.out Tryd.underlying26 (by rfl) style_size) rfl ⟨⟨_, _, _, _, _, rfl, HRS.out _ HWB.out⟩, HWB.out⟩
set_option maxRecDepth 100000 in
set_option maxHeartbeats 3200000 in
theorem rtake6 {s f : StyD} {p1 p2 p3 p4 p5 q1 q2 q3 q4 q5 : Value} {w : World} (hs : RdSty w p1 p2 p3 p4 p5 s) (hf : RdSty w q1 q2 q3 q4 q5 f) :
    Calls Tryd.prog 10 #[.agg (styC s p1 p2 p3 p4 p5), .agg (styC f q1 q2 q3 q4 q5), .string ⟨#[108, 105, 115, 116, 45, 115, 116, 121, 108, 101, 45, 116, 121, 112, 101]⟩] w (PTakePost w ({ s with lt := f.lt })) := by
  obtain ⟨b1, l1, d1, rfl⟩ := hs.cont.sl
  obtain ⟨b2, l2, d2, rfl⟩ := hs.quotes.sl
  obtain ⟨b3, l3, d3, rfl⟩ := hs.reset.sl
  obtain ⟨b4, l4, d4, rfl⟩ := hs.add.sl
  obtain ⟨b5, l5, d5, rfl⟩ := hs.set.sl
  obtain ⟨a1, n1, c1, rfl⟩ := hf.cont.sl
  obtain ⟨a2, n2, c2, rfl⟩ := hf.quotes.sl
  obtain ⟨a3, n3, c3, rfl⟩ := hf.reset.sl
  obtain ⟨a4, n4, c4, rfl⟩ := hf.add.sl
  obtain ⟨a5, n5, c5, rfl⟩ := hf.set.sl
  have HK0 := Lib.hid (TkB.start w s f (.slice b1 l1 d1) (.slice b2 l2 d2) (.slice b3 l3 d3) (.slice b4 l4 d4) (.slice b5 l5 d5) (.slice a1 n1 c1) (.slice a2 n2 c2) (.slice a3 n3 c3) (.slice a4 n4 c4) (.slice a5 n5 c5))
  have HRS : Hid (∀ W : World, Below w.heap.size w W → RdSty W (.slice b1 l1 d1) (.slice b2 l2 d2) (.slice b3 l3 d3) (.slice b4 l4 d4) (.slice b5 l5 d5) ({ s with lt := f.lt })) := fun W hb => (fun h1 h2 => ⟨h1.cont, h1.quotes, h1.reset, h1.add, h1.set⟩ : RdSty W (.slice b1 l1 d1) (.slice b2 l2 d2) (.slice b3 l3 d3) (.slice b4 l4 d4) (.slice b5 l5 d5) s → RdSty W (.slice a1 n1 c1) (.slice a2 n2 c2) (.slice a3 n3 c3) (.slice a4 n4 c4) (.slice a5 n5 c5) f → RdSty W (.slice b1 l1 d1) (.slice b2 l2 d2) (.slice b3 l3 d3) (.slice b4 l4 d4) (.slice b5 l5 d5) ({ s with lt := f.lt })) (hs.below hb) (hf.below hb)
  clear hs hf
  go_enter Tryd.func10, Tryd.ntmps10
  go_upto_region 1 with fail
  generalize ((w.alloc (.cells (styC s _ _ _ _ _) 26)).alloc (.cells (styC f _ _ _ _ _) 26)).alloc (.cells _ 26) = W0 at *
  have g1 : W0.cell? ⟨w.heap.size + 1, 1, none⟩ = some (.string f.lt) := HK0.out.frm.cell 1
  have s1 : W0.cell? ⟨w.heap.size, 1, none⟩ = some (.string s.lt) := HK0.out.box.cell 1
  have t1 : W0.frozen? ⟨w.heap.size, 1, none⟩ = false := HK0.out.box.frozen 1
  have HK1 := Lib.hid (HK0.out.put (D := ({ s with lt := f.lt } : StyD)) (r1 := (.slice b1 l1 d1)) (r2 := (.slice b2 l2 d2)) (r3 := (.slice b3 l3 d3)) (r4 := (.slice b4 l4 d4)) (r5 := (.slice b5 l5 d5)) 1 (.string f.lt) rfl)
  go_upto_region 18 with fail
  generalize hWA : (W0.setCell ⟨w.heap.size, 1, none⟩ (.string f.lt)) = WA at *
  have HTR := Lib.hid (vthere HK1.out.res (n := 11) rfl)
  have HRP := Lib.hid (HK1.out.res.all11 ({ s with lt := f.lt }) (.slice b1 l1 d1) (.slice b2 l2 d2) (.slice b3 l3 d3) (.slice b4 l4 d4) (.slice b5 l5 d5))
  have HWB := Lib.hid (setsS_below (show w.heap.size ≤ w.heap.size + 2 by omega) (styC ({ s with lt := f.lt }) (.slice b1 l1 d1) (.slice b2 l2 d2) (.slice b3 l3 d3) (.slice b4 l4 d4) (.slice b5 l5 d5)).toList 0 _ HK1.out.bel)
  go_wp2_with (first | (refine wpList_load_mid (by rfl) 26 (.tmp 3) (by rfl) w.heap.size 0 (by rfl) (styC ({ s with lt := f.lt }) (.slice b1 l1 d1) (.slice b2 l2 d2) (.slice b3 l3 d3) (.slice b4 l4 d4) (.slice b5 l5 d5)).toList _ HK1.out.box.range Tryd.underlying26 (by rfl) style_size ?_) | (refine wpList_store_mid (by rfl) 26 (.tmp 6) (.tmp 57) (by rfl) (w.heap.size + 2) 0 (styC ({ s with lt := f.lt }) (.slice b1 l1 d1) (.slice b2 l2 d2) (.slice b3 l3 d3) (.slice b4 l4 d4) (.slice b5 l5 d5)) (by rfl) (by rfl) HTR.out style_size (sty_one _ _ _ _ _ _ _ _ _ _ _ _ _ _ _ _) ?_; generalize World.setCells WA (w.heap.size + 2) 0 (styC ({ s with lt := f.lt }) (.slice b1 l1 d1) (.slice b2 l2 d2) (.slice b3 l3 d3) (.slice b4 l4 d4) (.slice b5 l5 d5)).toList = WF at *))
  exact bodyPost_ret (v := .agg (styC ({ s with lt := f.lt }) (.slice b1 l1 d1) (.slice b2 l2 d2) (.slice b3 l3 d3) (.slice b4 l4 d4) (.slice b5 l5 d5))) (results_cell_row (by rfl) _ _ (w.heap.size + 2) _ _ _ _ (by rfl) HRP.out Tryd.underlying26 (by rfl) style_size) rfl ⟨⟨_, _, _, _, _, rfl, HRS.out _ HWB.out⟩, HWB.out⟩
set_option maxRecDepth 100000 in
set_option maxHeartbeats 3200000 in
theorem rtake7 {s f : StyD} {p1 p2 p3 p4 p5 q1 q2 q3 q4 q5 : Value} {w : World} (hs : RdSty w p1 p2 p3 p4 p5 s) (hf : RdSty w q1 q2 q3 q4 q5 f) :
    Calls Tryd.prog 10 #[.agg (styC s p1 p2 p3 p4 p5), .agg (styC f q1 q2 q3 q4 q5), .string ⟨#[113, 117, 111, 116, 101, 115]⟩] w (PTakePost w ({ s with quotes := f.quotes, auto := f.auto })) := by
  obtain ⟨b1, l1, d1, rfl⟩ := hs.cont.sl
  obtain ⟨b2, l2, d2, rfl⟩ := hs.quotes.sl
  obtain ⟨b3, l3, d3, rfl⟩ := hs.reset.sl
  obtain ⟨b4, l4, d4, rfl⟩ := hs.add.sl
  obtain ⟨b5, l5, d5, rfl⟩ := hs.set.sl
  obtain ⟨a1, n1, c1, rfl⟩ := hf.cont.sl
  obtain ⟨a2, n2, c2, rfl⟩ := hf.quotes.sl
  obtain ⟨a3, n3, c3, rfl⟩ := hf.reset.sl
  obtain ⟨a4, n4, c4, rfl⟩ := hf.add.sl
  obtain ⟨a5, n5, c5, rfl⟩ := hf.set.sl
  have HK0 := Lib.hid (TkB.start w s f (.slice b1 l1 d1) (.slice b2 l2 d2) (.slice b3 l3 d3) (.slice b4 l4 d4) (.slice b5 l5 d5) (.slice a1 n1 c1) (.slice a2 n2 c2) (.slice a3 n3 c3) (.slice a4 n4 c4) (.slice a5 n5 c5))
  have HRS : Hid (∀ W : World, Below w.heap.size w W → RdSty W (.slice b1 l1 d1) (.slice a2 n2 c2) (.slice b3 l3 d3) (.slice b4 l4 d4) (.slice b5 l5 d5) ({ s with quotes := f.quotes, auto := f.auto })) := fun W hb => (fun h1 h2 => ⟨h1.cont, h2.quotes, h1.reset, h1.add, h1.set⟩ : RdSty W (.slice b1 l1 d1) (.slice b2 l2 d2) (.slice b3 l3 d3) (.slice b4 l4 d4) (.slice b5 l5 d5) s → RdSty W (.slice a1 n1 c1) (.slice a2 n2 c2) (.slice a3 n3 c3) (.slice a4 n4 c4) (.slice a5 n5 c5) f → RdSty W (.slice b1 l1 d1) (.slice a2 n2 c2) (.slice b3 l3 d3) (.slice b4 l4 d4) (.slice b5 l5 d5) ({ s with quotes := f.quotes, auto := f.auto })) (hs.below hb) (hf.below hb)
  clear hs hf
  go_enter Tryd.func10, Tryd.ntmps10
  go_upto_region 1 with fail
  generalize ((w.alloc (.cells (styC s _ _ _ _ _) 26)).alloc (.cells (styC f _ _ _ _ _) 26)).alloc (.cells _ 26) = W0 at *
  have g6 : W0.cell? ⟨w.heap.size + 1, 6, none⟩ = some ((.slice a2 n2 c2)) := HK0.out.frm.cell 6
  have g7 : W0.cell? ⟨w.heap.size + 1, 7, none⟩ = some (.bool f.auto) := HK0.out.frm.cell 7
  have s6 : W0.cell? ⟨w.heap.size, 6, none⟩ = some ((.slice b2 l2 d2)) := HK0.out.box.cell 6
  have t6 : W0.frozen? ⟨w.heap.size, 6, none⟩ = false := HK0.out.box.frozen 6
  have HK1 := Lib.hid (HK0.out.put (D := ({ s with quotes := f.quotes } : StyD)) (r1 := (.slice b1 l1 d1)) (r2 := (.slice a2 n2 c2)) (r3 := (.slice b3 l3 d3)) (r4 := (.slice b4 l4 d4)) (r5 := (.slice b5 l5 d5)) 6 ((.slice a2 n2 c2)) rfl)
  have s7 : (W0.setCell ⟨w.heap.size, 6, none⟩ ((.slice a2 n2 c2))).cell? ⟨w.heap.size, 7, none⟩ = some (.bool s.auto) := HK1.out.box.cell 7
  have t7 : (W0.setCell ⟨w.heap.size, 6, none⟩ ((.slice a2 n2 c2))).frozen? ⟨w.heap.size, 7, none⟩ = false := HK1.out.box.frozen 7
  have HK2 := Lib.hid (HK1.out.put (D := ({ s with quotes := f.quotes, auto := f.auto } : StyD)) (r1 := (.slice b1 l1 d1)) (r2 := (.slice a2 n2 c2)) (r3 := (.slice b3 l3 d3)) (r4 := (.slice b4 l4 d4)) (r5 := (.slice b5 l5 d5)) 7 (.bool f.auto) rfl)
  have HKD : Hid (TkB w ((W0.setCell ⟨w.heap.size, 6, none⟩ ((.slice a2 n2 c2))).setCell ⟨w.heap.size, 7, none⟩ (.bool f.auto)).drew ({ s with quotes := f.quotes, auto := f.auto }) f (.slice b1 l1 d1) (.slice a2 n2 c2) (.slice b3 l3 d3) (.slice b4 l4 d4) (.slice b5 l5 d5) (.slice a1 n1 c1) (.slice a2 n2 c2) (.slice a3 n3 c3) (.slice a4 n4 c4) (.slice a5 n5 c5)) := ⟨HK2.out.bel.drew, HK2.out.box, HK2.out.frm, HK2.out.res, HK2.out.size⟩
  go_upto_region 17 with fail
  go_region
  all_goals go_upto_region 18 with fail
  all_goals generalize hWA : World.drew _ = WA at *
  have HTR := Lib.hid (vthere HKD.out.res (n := 11) rfl)
  have HRP := Lib.hid (HKD.out.res.all11 ({ s with quotes := f.quotes, auto := f.auto }) (.slice b1 l1 d1) (.slice a2 n2 c2) (.slice b3 l3 d3) (.slice b4 l4 d4) (.slice b5 l5 d5))
  have HWB := Lib.hid (setsS_below (show w.heap.size ≤ w.heap.size + 2 by omega) (styC ({ s with quotes := f.quotes, auto := f.auto }) (.slice b1 l1 d1) (.slice a2 n2 c2) (.slice b3 l3 d3) (.slice b4 l4 d4) (.slice b5 l5 d5)).toList 0 _ HKD.out.bel)
  go_wp2_with (first | (refine wpList_load_mid (by rfl) 26 (.tmp 3) (by rfl) w.heap.size 0 (by rfl) (styC ({ s with quotes := f.quotes, auto := f.auto }) (.slice b1 l1 d1) (.slice a2 n2 c2) (.slice b3 l3 d3) (.slice b4 l4 d4) (.slice b5 l5 d5)).toList _ HKD.out.box.range Tryd.underlying26 (by rfl) style_size ?_) | (refine wpList_store_mid (by rfl) 26 (.tmp 6) (.tmp 57) (by rfl) (w.heap.size + 2) 0 (styC ({ s with quotes := f.quotes, auto := f.auto }) (.slice b1 l1 d1) (.slice a2 n2 c2) (.slice b3 l3 d3) (.slice b4 l4 d4) (.slice b5 l5 d5)) (by rfl) (by rfl) HTR.out style_size (sty_one _ _ _ _ _ _ _ _ _ _ _ _ _ _ _ _) ?_; generalize World.setCells WA (w.heap.size + 2) 0 (styC ({ s with quotes := f.quotes, auto := f.auto }) (.slice b1 l1 d1) (.slice a2 n2 c2) (.slice b3 l3 d3) (.slice b4 l4 d4) (.slice b5 l5 d5)).toList = WF at *))
  exact bodyPost_ret (v := .agg (styC ({ s with quotes := f.quotes, auto := f.auto }) (.slice b1 l1 d1) (.slice a2 n2 c2) (.slice b3 l3 d3) (.slice b4 l4 d4) (.slice b5 l5 d5))) (results_cell_row (by rfl) _ _ (w.heap.size + 2) _ _ _ _ (by rfl) HRP.out Tryd.underlying26 (by rfl) style_size) rfl ⟨⟨_, _, _, _, _, rfl, HRS.out _ HWB.out⟩, HWB.out⟩
set_option maxRecDepth 100000 in
set_option maxHeartbeats 3200000 in
theorem rtake_no {nm : ByteArray} {s f : StyD} {p1 p2 p3 p4 p5 q1 q2 q3 q4 q5 : Value} {w : World} (hs : RdSty w p1 p2 p3 p4 p5 s) (hf : RdSty w q1 q2 q3 q4 q5 f) (h0 : (nm.toList == [99, 111, 108, 111, 114]) = false) (h1 : (nm.toList == [99, 111, 110, 116, 101, 110, 116]) = false) (h2 : (nm.toList == [99, 111, 117, 110, 116, 101, 114, 45, 105, 110, 99, 114, 101, 109, 101, 110, 116]) = false) (h3 : (nm.toList == [99, 111, 117, 110, 116, 101, 114, 45, 114, 101, 115, 101, 116]) = false) (h4 : (nm.toList == [99, 111, 117, 110, 116, 101, 114, 45, 115, 101, 116]) = false) (h5 : (nm.toList == [100, 105, 115, 112, 108, 97, 121]) = false) (h6 : (nm.toList == [108, 105, 115, 116, 45, 115, 116, 121, 108, 101, 45, 116, 121, 112, 101]) = false) (h7 : (nm.toList == [113, 117, 111, 116, 101, 115]) = false) :
    Calls Tryd.prog 10 #[.agg (styC s p1 p2 p3 p4 p5), .agg (styC f q1 q2 q3 q4 q5), .string nm] w (PTakePost w s) := by
  obtain ⟨b1, l1, d1, rfl⟩ := hs.cont.sl
  obtain ⟨b2, l2, d2, rfl⟩ := hs.quotes.sl
  obtain ⟨b3, l3, d3, rfl⟩ := hs.reset.sl
  obtain ⟨b4, l4, d4, rfl⟩ := hs.add.sl
  obtain ⟨b5, l5, d5, rfl⟩ := hs.set.sl
  obtain ⟨a1, n1, c1, rfl⟩ := hf.cont.sl
  obtain ⟨a2, n2, c2, rfl⟩ := hf.quotes.sl
  obtain ⟨a3, n3, c3, rfl⟩ := hf.reset.sl
  obtain ⟨a4, n4, c4, rfl⟩ := hf.add.sl
  obtain ⟨a5, n5, c5, rfl⟩ := hf.set.sl
  have HK0 := Lib.hid (TkB.start w s f (.slice b1 l1 d1) (.slice b2 l2 d2) (.slice b3 l3 d3) (.slice b4 l4 d4) (.slice b5 l5 d5) (.slice a1 n1 c1) (.slice a2 n2 c2) (.slice a3 n3 c3) (.slice a4 n4 c4) (.slice a5 n5 c5))
  have HRS : Hid (∀ W : World, Below w.heap.size w W → RdSty W (.slice b1 l1 d1) (.slice b2 l2 d2) (.slice b3 l3 d3) (.slice b4 l4 d4) (.slice b5 l5 d5) s) := fun W hb => hs.below hb
  clear hs hf
  go_enter Tryd.func10, Tryd.ntmps10
  go_upto_region 1 with fail
  generalize ((w.alloc (.cells (styC s _ _ _ _ _) 26)).alloc (.cells (styC f _ _ _ _ _) 26)).alloc (.cells _ 26) = WA at *
  go_upto_region 18 with fail
  have HTR := Lib.hid (vthere HK0.out.res (n := 11) rfl)
  have HRP := Lib.hid (HK0.out.res.all11 s (.slice b1 l1 d1) (.slice b2 l2 d2) (.slice b3 l3 d3) (.slice b4 l4 d4) (.slice b5 l5 d5))
  have HWB := Lib.hid (setsS_below (show w.heap.size ≤ w.heap.size + 2 by omega) (styC s (.slice b1 l1 d1) (.slice b2 l2 d2) (.slice b3 l3 d3) (.slice b4 l4 d4) (.slice b5 l5 d5)).toList 0 _ HK0.out.bel)
  go_wp2_with (first | (refine wpList_load_mid (by rfl) 26 (.tmp 3) (by rfl) w.heap.size 0 (by rfl) (styC s (.slice b1 l1 d1) (.slice b2 l2 d2) (.slice b3 l3 d3) (.slice b4 l4 d4) (.slice b5 l5 d5)).toList _ HK0.out.box.range Tryd.underlying26 (by rfl) style_size ?_) | (refine wpList_store_mid (by rfl) 26 (.tmp 6) (.tmp 57) (by rfl) (w.heap.size + 2) 0 (styC s (.slice b1 l1 d1) (.slice b2 l2 d2) (.slice b3 l3 d3) (.slice b4 l4 d4) (.slice b5 l5 d5)) (by rfl) (by rfl) HTR.out style_size (sty_one _ _ _ _ _ _ _ _ _ _ _ _ _ _ _ _) ?_; generalize World.setCells WA (w.heap.size + 2) 0 (styC s (.slice b1 l1 d1) (.slice b2 l2 d2) (.slice b3 l3 d3) (.slice b4 l4 d4) (.slice b5 l5 d5)).toList = WF at *))
  exact bodyPost_ret (v := .agg (styC s (.slice b1 l1 d1) (.slice b2 l2 d2) (.slice b3 l3 d3) (.slice b4 l4 d4) (.slice b5 l5 d5))) (results_cell_row (by rfl) _ _ (w.heap.size + 2) _ _ _ _ (by rfl) HRP.out Tryd.underlying26 (by rfl) style_size) rfl ⟨⟨_, _, _, _, _, rfl, HRS.out _ HWB.out⟩, HWB.out⟩
theorem beq_no {x y : List UInt8} (h : (x == y) = false) : (y == x) = false := by
  rw [Bool.eq_false_iff] at h ⊢
  intro hh
  rw [beq_iff_eq] at hh
  exact h (by rw [hh]; simp)
theorem rtake_any (nm : ByteArray) {s f : StyD} {p1 p2 p3 p4 p5 q1 q2 q3 q4 q5 : Value} {w : World} (hs : RdSty w p1 p2 p3 p4 p5 s) (hf : RdSty w q1 q2 q3 q4 q5 f) :
    Calls Tryd.prog 10 #[.agg (styC s p1 p2 p3 p4 p5), .agg (styC f q1 q2 q3 q4 q5), .string nm] w (PTakePost w (takeS s f nm)) := by
  cases h0 : (nm.toList == [99, 111, 108, 111, 114])
  rotate_left
  · obtain rfl : nm = ⟨#[99, 111, 108, 111, 114]⟩ := bl_eq (by rw [show (⟨#[99, 111, 108, 111, 114]⟩ : ByteArray).toList = [99, 111, 108, 111, 114] by kernel_rfl]; exact h0)
    rw [show takeS s f ⟨#[99, 111, 108, 111, 114]⟩ = ({ s with color := f.color }) by kernel_rfl]
    exact rtake0 hs hf
  cases h1 : (nm.toList == [99, 111, 110, 116, 101, 110, 116])
  rotate_left
  · obtain rfl : nm = ⟨#[99, 111, 110, 116, 101, 110, 116]⟩ := bl_eq (by rw [show (⟨#[99, 111, 110, 116, 101, 110, 116]⟩ : ByteArray).toList = [99, 111, 110, 116, 101, 110, 116] by kernel_rfl]; exact h1)
    rw [show takeS s f ⟨#[99, 111, 110, 116, 101, 110, 116]⟩ = ({ s with cont := f.cont, normal := f.normal, none := f.none }) by kernel_rfl]
    exact rtake1 hs hf
  cases h2 : (nm.toList == [99, 111, 117, 110, 116, 101, 114, 45, 105, 110, 99, 114, 101, 109, 101, 110, 116])
  rotate_left
  · obtain rfl : nm = ⟨#[99, 111, 117, 110, 116, 101, 114, 45, 105, 110, 99, 114, 101, 109, 101, 110, 116]⟩ := bl_eq (by rw [show (⟨#[99, 111, 117, 110, 116, 101, 114, 45, 105, 110, 99, 114, 101, 109, 101, 110, 116]⟩ : ByteArray).toList = [99, 111, 117, 110, 116, 101, 114, 45, 105, 110, 99, 114, 101, 109, 101, 110, 116] by kernel_rfl]; exact h2)
    rw [show takeS s f ⟨#[99, 111, 117, 110, 116, 101, 114, 45, 105, 110, 99, 114, 101, 109, 101, 110, 116]⟩ = ({ s with add := f.add }) by kernel_rfl]
    exact rtake2 hs hf
  cases h3 : (nm.toList == [99, 111, 117, 110, 116, 101, 114, 45, 114, 101, 115, 101, 116])
  rotate_left
  · obtain rfl : nm = ⟨#[99, 111, 117, 110, 116, 101, 114, 45, 114, 101, 115, 101, 116]⟩ := bl_eq (by rw [show (⟨#[99, 111, 117, 110, 116, 101, 114, 45, 114, 101, 115, 101, 116]⟩ : ByteArray).toList = [99, 111, 117, 110, 116, 101, 114, 45, 114, 101, 115, 101, 116] by kernel_rfl]; exact h3)
    rw [show takeS s f ⟨#[99, 111, 117, 110, 116, 101, 114, 45, 114, 101, 115, 101, 116]⟩ = ({ s with reset := f.reset }) by kernel_rfl]
    exact rtake3 hs hf
  cases h4 : (nm.toList == [99, 111, 117, 110, 116, 101, 114, 45, 115, 101, 116])
  rotate_left
  · obtain rfl : nm = ⟨#[99, 111, 117, 110, 116, 101, 114, 45, 115, 101, 116]⟩ := bl_eq (by rw [show (⟨#[99, 111, 117, 110, 116, 101, 114, 45, 115, 101, 116]⟩ : ByteArray).toList = [99, 111, 117, 110, 116, 101, 114, 45, 115, 101, 116] by kernel_rfl]; exact h4)
    rw [show takeS s f ⟨#[99, 111, 117, 110, 116, 101, 114, 45, 115, 101, 116]⟩ = ({ s with set := f.set }) by kernel_rfl]
    exact rtake4 hs hf
  cases h5 : (nm.toList == [100, 105, 115, 112, 108, 97, 121])
  rotate_left
  · obtain rfl : nm = ⟨#[100, 105, 115, 112, 108, 97, 121]⟩ := bl_eq (by rw [show (⟨#[100, 105, 115, 112, 108, 97, 121]⟩ : ByteArray).toList = [100, 105, 115, 112, 108, 97, 121] by kernel_rfl]; exact h5)
    rw [show takeS s f ⟨#[100, 105, 115, 112, 108, 97, 121]⟩ = ({ s with disp := f.disp }) by kernel_rfl]
    exact rtake5 hs hf
  cases h6 : (nm.toList == [108, 105, 115, 116, 45, 115, 116, 121, 108, 101, 45, 116, 121, 112, 101])
  rotate_left
  · obtain rfl : nm = ⟨#[108, 105, 115, 116, 45, 115, 116, 121, 108, 101, 45, 116, 121, 112, 101]⟩ := bl_eq (by rw [show (⟨#[108, 105, 115, 116, 45, 115, 116, 121, 108, 101, 45, 116, 121, 112, 101]⟩ : ByteArray).toList = [108, 105, 115, 116, 45, 115, 116, 121, 108, 101, 45, 116, 121, 112, 101] by kernel_rfl]; exact h6)
    rw [show takeS s f ⟨#[108, 105, 115, 116, 45, 115, 116, 121, 108, 101, 45, 116, 121, 112, 101]⟩ = ({ s with lt := f.lt }) by kernel_rfl]
    exact rtake6 hs hf
  cases h7 : (nm.toList == [113, 117, 111, 116, 101, 115])
  rotate_left
  · obtain rfl : nm = ⟨#[113, 117, 111, 116, 101, 115]⟩ := bl_eq (by rw [show (⟨#[113, 117, 111, 116, 101, 115]⟩ : ByteArray).toList = [113, 117, 111, 116, 101, 115] by kernel_rfl]; exact h7)
    rw [show takeS s f ⟨#[113, 117, 111, 116, 101, 115]⟩ = ({ s with quotes := f.quotes, auto := f.auto }) by kernel_rfl]
    exact rtake7 hs hf
  have e : takeS s f nm = s := by
    unfold takeS
    rw [show findF nm prL = none by
      simp only [findF]
      rw [if_neg (by rw [show (⟨#[99, 111, 108, 111, 114]⟩ : ByteArray).toList = [99, 111, 108, 111, 114] by kernel_rfl, beq_no h0]; exact Bool.false_ne_true)]
      rw [if_neg (by rw [show (⟨#[99, 111, 110, 116, 101, 110, 116]⟩ : ByteArray).toList = [99, 111, 110, 116, 101, 110, 116] by kernel_rfl, beq_no h1]; exact Bool.false_ne_true)]
      rw [if_neg (by rw [show (⟨#[99, 111, 117, 110, 116, 101, 114, 45, 105, 110, 99, 114, 101, 109, 101, 110, 116]⟩ : ByteArray).toList = [99, 111, 117, 110, 116, 101, 114, 45, 105, 110, 99, 114, 101, 109, 101, 110, 116] by kernel_rfl, beq_no h2]; exact Bool.false_ne_true)]
      rw [if_neg (by rw [show (⟨#[99, 111, 117, 110, 116, 101, 114, 45, 114, 101, 115, 101, 116]⟩ : ByteArray).toList = [99, 111, 117, 110, 116, 101, 114, 45, 114, 101, 115, 101, 116] by kernel_rfl, beq_no h3]; exact Bool.false_ne_true)]
      rw [if_neg (by rw [show (⟨#[99, 111, 117, 110, 116, 101, 114, 45, 115, 101, 116]⟩ : ByteArray).toList = [99, 111, 117, 110, 116, 101, 114, 45, 115, 101, 116] by kernel_rfl, beq_no h4]; exact Bool.false_ne_true)]
      rw [if_neg (by rw [show (⟨#[100, 105, 115, 112, 108, 97, 121]⟩ : ByteArray).toList = [100, 105, 115, 112, 108, 97, 121] by kernel_rfl, beq_no h5]; exact Bool.false_ne_true)]
      rw [if_neg (by rw [show (⟨#[108, 105, 115, 116, 45, 115, 116, 121, 108, 101, 45, 116, 121, 112, 101]⟩ : ByteArray).toList = [108, 105, 115, 116, 45, 115, 116, 121, 108, 101, 45, 116, 121, 112, 101] by kernel_rfl, beq_no h6]; exact Bool.false_ne_true)]
      rw [if_neg (by rw [show (⟨#[113, 117, 111, 116, 101, 115]⟩ : ByteArray).toList = [113, 117, 111, 116, 101, 115] by kernel_rfl, beq_no h7]; exact Bool.false_ne_true)]]
  rw [e]
  exact rtake_no hs hf h0 h1 h2 h3 h4 h5 h6 h7
end Go.Proofs.YtkpaokcgjeplpaaDoor
