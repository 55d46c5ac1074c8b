
import Derived.Test.YtlkfibjbfnaagaaDoorDmY
import Derived.Test.YtlkfibjbfnaagaaDoorDmX
import Derived.Deep.DeepMust
namespace Go.Proofs.YtlkfibjbfnaagaaDoor
open Go.RowKit Go.Shelf
attribute [local go_sem] Oper.semAt_some
abbrev whiteV : Value := .func (.func 41) #[] #[]
theorem ffs_in (n : Nat) (S : ByteArray) (w : World) :
    CallsIn Fence.wide n Tryd.prog 40 #[.string S, whiteV] w fun e w' => e = .returned (.func (.func 48) #[] #[.pointer (some ⟨w.heap.size, 0, none⟩), .pointer (some ⟨w.heap.size + 1, 0, none⟩)]) ∧ w' = (w.alloc (.cells #[.string S] 9)).alloc (.cells #[whiteV] 75) := by
  refine callsIn_of_wp Tryd.func40 rfl trivial ?_ rfl
  simp only [Tryd.ntmps40, List.size_toArray, List.length_cons, List.length_nil, Nat.reduceAdd, Nat.reduceSub, Array.replicate_succ, Array.replicate_zero, List.push_toArray, List.append_toArray, List.nil_append, List.cons_append]
  gi_wp2
  go_ret
  exact ⟨rfl, rfl⟩
theorem tabs_two {w : World} (h : Lib.Utf8Tabs 0 1 w) : 2 ≤ w.heap.size := by
  have h1 := (h.2 0 (by decide)).1
  unfold World.cell? at h1
  rcases Nat.lt_or_ge 1 w.heap.size with h2 | h2
  · exact h2
  · simp only [Array.getElem?_eq_none h2] at h1
    cases h1
theorem ffs_stops (n : Nat) (hn : 1 ≤ n) (Bs Bf : Nat) (S : ByteArray) (hS : S.size ≤ 1000000000) (w : World) (hbs : Bs < w.heap.size) (hbf : Bf < w.heap.size)
    (hcs : w.cell? ⟨Bs, 0, none⟩ = some (.string S)) (hcf : w.cell? ⟨Bf, 0, none⟩ = some whiteV) (hT : Lib.Utf8Tabs 0 1 w) :
    SeqStopsK Fence.wide n Tryd.prog 48 #[.pointer (some ⟨Bs, 0, none⟩), .pointer (some ⟨Bf, 0, none⟩)] (fun x : ByteArray => #[Value.string x]) (Below w.heap.size) (fun ys => ys.map (·.data.toList) = wordsS S)
      (fun pre => ∃ r, pre.map (·.data.toList) ++ r = wordsS S) (S.size + 1) w := fun l J Jx W hW hJ _ hY h0 =>
  ffs1_in n l Bs Bf w.heap.size hn S hS hbs hbf (tabs_two hT) J Jx W.heap.size hJ hY W ((hW.cell (p := ⟨Bs, 0, none⟩) hbs).trans hcs) ((hW.cell (p := ⟨Bf, 0, none⟩) hbf).trans hcf) (tabs_below hT hW (tabs_two hT)) hW.size h0
abbrev classB : ByteArray := ⟨#[99, 108, 97, 115, 115]⟩
def hasS (es : List NdD) (i : Int) (word : ByteArray) : Bool := decide (word.data.toList ∈ wordsS (attrF classB (attrsS es i)).1)
set_option maxRecDepth 100000 in
set_option maxRecDepth 100000 in
set_option maxHeartbeats 3200000 in
theorem has_any {w : World} {tb g c : Nat} {es : List NdD} (h : TreeR w tb g c es) (hT : Lib.Utf8Tabs 0 1 w) (i : Int) (word : ByteArray) (hl : (attrsS es i).length ≤ 100000000) (hv : (attrF classB (attrsS es i)).1.size ≤ 1000000000) :
    Calls Tryd.prog 20 #[tp tb, .int .i64 i, .string word] w fun e w' => e = .returned (.bool (hasS es i word)) ∧ Below w.heap.size w w' := by
  obtain ⟨A, hA⟩ : ∃ A, attrF classB (attrsS es i) = A := ⟨_, rfl⟩
  have hH : hasS es i word = decide (word.data.toList ∈ wordsS A.1) := by unfold hasS; rw [hA]
  rw [hH]
  rw [hA] at hv
  have hA2 : Below w.heap.size w ((w.alloc (.cells #[.string word] 9)).alloc (.cells #[.bool false] 4)) := ((Below.refl _ w).alloc (Nat.le_refl _) _).alloc (by rw [World.size_alloc]; omega) _
  have HL := Lib.hid (show Calls Tryd.prog 18 #[tp tb, .int .i64 i, .string classB] ((w.alloc (.cells #[.string word] 9)).alloc (.cells #[.bool false] 4)) _ from by
    have := attr_any (h.below hA2) i classB hl
    rw [hA] at this
    exact this)
  clear hl hA hH
  refine (callsIn_wide (n := 8)).1 ?_
  refine callsIn_of_wp_marks Tryd.func20 rfl trivial ?_ rfl
  simp only [Tryd.ntmps20, List.size_toArray, List.length_cons, List.length_nil, Nat.reduceAdd, Nat.reduceSub, Array.replicate_succ, Array.replicate_zero, List.push_toArray, List.append_toArray, List.nil_append, List.cons_append]
  gi_wp2
  refine ⟨trivial, ?_⟩
  (with_reducible refine (callsIn_wide.2 HL.out).mono ?_)
  rintro e w1 ⟨rfl, hb1⟩
  gi_wp2
  refine ⟨trivial, ?_⟩
  refine (ffs_in _ _ _).mono ?_
  rintro e w2 ⟨rfl, rfl⟩
  gi_wp2
  have hw1 := hb1.size
  rw [World.size_alloc, World.size_alloc] at hw1
  have hb1' : Below w.heap.size w w1 := hA2.trans (hb1.mono (by rw [World.size_alloc, World.size_alloc]; omega))
  have hbw1 : Boxed w1 w.heap.size 9 (.string word) := ((Boxed.new w 9 (.string word)).alloc (.cells #[.bool false] 4)).kept (grown_below hb1) (by simp)
  have hbr1 : Boxed w1 (w.heap.size + 1) 4 (.bool false) := by
    have := Boxed.new (w.alloc (.cells #[.string word] 9)) 4 (.bool false)
    rw [World.size_alloc] at this
    exact this.kept (grown_below hb1) (by simp)
  obtain ⟨wr, hwr⟩ : ∃ wr, (w1.alloc (.cells #[.string A.1] 9)).alloc (.cells #[whiteV] 75) = wr := ⟨_, rfl⟩
  have hwrs : wr.heap.size = w1.heap.size + 1 + 1 := by rw [← hwr, World.size_alloc, World.size_alloc]
  have hbs : Boxed wr w1.heap.size 9 (.string A.1) := by rw [← hwr]; exact (Boxed.new w1 _ _).alloc _
  have hbf : Boxed wr (w1.heap.size + 1) 75 whiteV := by
    rw [← hwr]
    have := Boxed.new (w1.alloc (.cells #[.string A.1] 9)) 75 whiteV
    rw [World.size_alloc] at this
    exact this
  have hbw : Boxed wr w.heap.size 9 (.string word) := by rw [← hwr]; exact (hbw1.alloc _).alloc _
  have hbr : Boxed wr (w.heap.size + 1) 4 (.bool false) := by rw [← hwr]; exact (hbr1.alloc _).alloc _
  have hblr : Below w.heap.size w wr := by
    rw [← hwr]
    exact (hb1'.alloc (by omega) _).alloc (by rw [World.size_alloc]; omega) _
  have hTr := tabs_below hT hblr (tabs_two hT)
  rw [hwr]
  clear hwr hb1 hbw1 hbr1 HL
  obtain ⟨S, hS⟩ : ∃ S, A.1 = S := ⟨_, rfl⟩
  rw [hS] at hv hbs ⊢
  refine wpIn_rangeFunc_ownG rfl (by decide) (gf := 48) (lb := #[.pointer (some ⟨w1.heap.size, 0, none⟩), .pointer (some ⟨w1.heap.size + 1, 0, none⟩)]) rfl trivial (enters_of Tryd.func48 (by kernel_rfl) rfl)
    (ffs_stops (8 - 1) (by decide) w1.heap.size (w1.heap.size + 1) S hv wr (by omega) (by omega) hbs.cell hbf.cell hTr) belowK_t (belowK_b (Nat.le_refl _)) (Below.refl _ _) (fun _ => rfl)
    (fun pre W => (∀ y ∈ pre, ¬ y.data.toList = word.data.toList) ∧ (Boxed W w.heap.size 9 (.string word) ∧ (Boxed W (w.heap.size + 1) 4 (.bool false) ∧ Below w.heap.size w W)))
    (fun c pre W => (c = .ret ∧ word.data.toList ∈ pre.map (fun y => y.data.toList)) ∧ (Boxed W (w.heap.size + 1) 4 (.bool true) ∧ Below w.heap.size w W))
    (OwnFrom.and (ownFrom_pure _ (fun pre : List ByteArray => ∀ y ∈ pre, ¬ y.data.toList = word.data.toList)) (OwnFrom.and (Own.from (boxed_own _ _ _) _) (OwnFrom.and (Own.from (boxed_own _ _ _) _) (ownFrom_below (Nat.le_refl _) (by omega)))))
    (fun c => OwnFrom.and (ownFrom_pure _ (fun pre : List ByteArray => c = .ret ∧ word.data.toList ∈ pre.map (fun y => y.data.toList))) (OwnFrom.and (Own.from (boxed_own _ _ _) _) (ownFrom_below (Nat.le_refl _) (by omega))))
    ⟨fun y hy => (by cases hy), hbw, hbr, hblr⟩
    (fun x => { tmps := #[tp tb, .int .i64 i, .string word, undef, undef, .pointer (some ⟨w.heap.size, 0, none⟩), .pointer (some ⟨w.heap.size + 1, 0, none⟩), .string S, .bool A.2, .string x, .tuple #[.string S, .bool A.2], tp tb, .int .i64 i, .tuple #[.string S, .bool A.2], .string S, .bool A.2, .string S,
      .func (.func 48) #[] #[.pointer (some ⟨w1.heap.size, 0, none⟩), .pointer (some ⟨w1.heap.size + 1, 0, none⟩)], .string x, undef, undef, undef], defers := [] }) ?assign ?body ?done ?stop
  case assign =>
    intro l x W K hK
    gi_wp2
    exact hK
  case body =>
    rintro l pre x W ⟨hp, hcw, hcr, hB⟩ _
    have q1 := hcw.cell
    have q2 := hcr.cell
    have q3 := hcr.frozen
    by_cases hx : (x.toList == word.toList) = true
    · gi_wp2
      have hxe : x.data.toList = word.data.toList := by rw [← Lib.toList_data, ← Lib.toList_data]; exact eq_of_beq hx
      exact ⟨(KeepsOthers.setCell _ _ _).from _, ⟨rfl, by rw [List.map_append, List.map_singleton, hxe]; simp⟩, hcr.set _, hB.setCell (p := ⟨w.heap.size + 1, 0, none⟩) (by show w.heap.size ≤ w.heap.size + 1; omega) _⟩
    · have hx : (x.toList == word.toList) = false := by simpa using hx
      have hxe : ¬ x.data.toList = word.data.toList := fun e => by
        rw [← Lib.toList_data, ← Lib.toList_data] at e
        rw [e] at hx
        simp at hx
      gi_wp2
      exact ⟨KeepsFrom.refl _ _, Below.refl _ _, fun y hy => (List.mem_append.1 hy).elim (hp y) (fun e => by rw [List.mem_singleton] at e; subst e; exact hxe), hcw, hcr, hB⟩
  case done =>
    rintro D ys W hD hys ⟨hne, _, hcr, hB⟩ hK
    have q2 := hcr.cell
    have q3 := hcr.frozen
    gi_wp2
    have hK' := (KeepsOthers.setCell W ⟨w.heap.size + 1, 0, none⟩ (.bool false)).same D _ hK rfl
    refine ⟨by simp, .inl ⟨_, _, rfl, run_takeDeferred hK', ?_⟩⟩
    have hbx := (hcr.set (.bool false)).kept (grownBy_putObj' _ D (.deferred none)) (by intro e; have e2 := Option.some.inj e; omega)
    have hc5 := hbx.cell
    have hB3 : Below w.heap.size w (W.setCell ⟨w.heap.size + 1, 0, none⟩ (.bool false)) := hB.setCell (p := ⟨w.heap.size + 1, 0, none⟩) (by show w.heap.size ≤ w.heap.size + 1; omega) _
    have hno : ¬ word.data.toList ∈ wordsS A.1 := fun hm => by
      rw [hS, ← hys] at hm
      obtain ⟨y, hy, e⟩ := List.mem_map.1 hm
      exact hne y hy e
    refine ⟨.bool false, ?_, by rw [decide_eq_false hno], hB3.trans (belowK_b (w := w) (Nat.le_refl _) _ D _ _ (by omega) hK' rfl rfl)⟩
    simp [results, Tryd.results20, go_sem, hc5]
  case stop =>
    rintro D c pre W hD ⟨r, hr⟩ ⟨⟨rfl, hin⟩, hcr, hB⟩ hK
    have q2 := hcr.cell
    gi_wp2
    refine ⟨by simp, .inl ⟨_, _, rfl, run_takeDeferred hK, ?_⟩⟩
    have hbx := hcr.kept (grownBy_putObj' _ D (.deferred none)) (by intro e; have e2 := Option.some.inj e; omega)
    have hc5 := hbx.cell
    have hyes : word.data.toList ∈ wordsS A.1 := by
      rw [hS, ← hr]
      exact List.mem_append_left _ hin
    refine ⟨.bool true, ?_, by rw [decide_eq_true hyes], hB.trans (belowK_b (w := w) (Nat.le_refl _) W D _ _ (by omega) hK rfl rfl)⟩
    simp [results, Tryd.results20, go_sem, hc5]
end Go.Proofs.YtlkfibjbfnaagaaDoor
