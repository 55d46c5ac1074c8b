
import Derived.Test.YtlkfibjbfnaagaaDoorDmA
import Derived.Lib.SmallJoins
namespace Go.Proofs.YtlkfibjbfnaagaaDoor
open Go.RowKit Go.ChangeShapes Go.WideShapes Go.ChangeAt
/-! A table that comes in, read. -/
instance : Inhabited RawD := ⟨⟨0, ⟨#[]⟩, ⟨#[]⟩, []⟩⟩
theorem open_sl {H : Type} {enc : TypeId × Value → H} {P : Program} {w : World} {base : Nat} {spare : Nat → Bool} {held : Bool} {t e : TypeId} {fuel : Nat} {v : Value} {x : DataW H × List MemPlace} (ht : P.underlying t = some (.slice e)) (hc : 0 < P.cellsOf e)
    (h : DataW.trod enc P w base spare held fuel t [v] = some x) :
    ∃ a len cap n, v = .slice a len cap ∧ len ≤ cap ∧ len ≤ maxLen ∧ (0 < len → ∃ b off, a = some ⟨b, off, none⟩ ∧ b < w.heap.size ∧ ∀ i, i < len → ∃ cs y, cs.length = P.cellsOf e ∧ (∀ j, j < P.cellsOf e → w.cell? ⟨b, off + i * P.cellsOf e + j, none⟩ = cs[j]?) ∧ DataW.trod enc P w base spare held n e cs = some y) := by
  rcases DataW.trod_slice ht h with ⟨hcs, _⟩ | ⟨a, len, cap, elems, rest, n, _, hcs, _, _, hl, hm, hel, hall, _, _⟩
  · injection hcs with hcs _
    exact ⟨none, 0, 0, 0, hcs, Nat.le_refl _, Nat.zero_le _, fun h => absurd h (by decide)⟩
  · injection hcs with hcs _
    refine ⟨some a, len, cap, n, hcs, hl, by omega, fun hp => ?_⟩
    obtain ⟨b, off, spot⟩ := a
    have each : ∀ i, i < len → ∃ cs y, w.cells? base ((⟨b, off, spot⟩ : Addr).add (i * P.cellsOf e)) (P.cellsOf e) = some cs ∧ DataW.trod enc P w base spare held n e cs = some y := fun i hi => by
      have h1 := hall i hi
      rw [List.getElem?_eq_getElem (by omega : i < elems.length)] at h1
      obtain ⟨cs, h2, h3⟩ := Option.bind_eq_some_iff.1 h1
      exact ⟨cs, _, h2, h3⟩
    obtain ⟨cs0, y0, h2, _⟩ := each 0 hp
    have hblk := World.cells?_block h2 hc
    obtain ⟨_, hl0, hc0⟩ := World.cells?_some h2
    have hsp : spot = none := by
      have h3 := hc0 0 hc
      rw [List.getElem?_eq_getElem (by omega)] at h3
      simpa [Addr.add] using World.cell?_spot h3
    subst hsp
    have hadd : ∀ o m : Nat, (⟨b, o, none⟩ : Addr).add m = ⟨b, o + m, none⟩ := fun o m => by unfold Addr.add; split <;> simp_all
    refine ⟨b, off, rfl, by rw [hadd] at hblk; exact hblk, fun i hi => ?_⟩
    obtain ⟨cs, y, h3, h4⟩ := each i hi
    obtain ⟨_, h5, h6⟩ := World.cells?_some h3
    refine ⟨cs, y, h5, fun j hj => ?_, h4⟩
    have h7 := h6 j hj
    rw [hadd, hadd] at h7
    exact h7
theorem rda_of {H : Type} {enc : TypeId × Value → H} {w : World} {base : Nat} {spare : Nat → Bool} {held : Bool} {fuel : Nat} {v : Value} {x : DataW H × List MemPlace} (h : DataW.trod enc Tryd.prog w base spare held fuel 35 [v] = some x) :
    ∃ l : List (ByteArray × ByteArray), RdA w v l ∧ l.length ≤ maxLen := by
  have c2 : Tryd.prog.cellsOf 57 = 2 := by kernel_rfl
  have c1 : Tryd.prog.cellsOf 9 = 1 := by kernel_rfl
  obtain ⟨a, len, cap, n, rfl, hl, hm, hx⟩ := open_sl Tryd.underlying35 (by rw [c2]; decide) h
  by_cases hp : 0 < len
  · obtain ⟨b, off, rfl, hb, hall⟩ := hx hp
    rw [c2] at hall
    have each : ∀ i, i < len → ∃ p : ByteArray × ByteArray, w.cell? ⟨b, off + i * 2, none⟩ = some (.string p.1) ∧ w.cell? ⟨b, off + i * 2 + 1, none⟩ = some (.string p.2) := fun i hi => by
      obtain ⟨cs, y, h1, h2, h3⟩ := hall i hi
      obtain ⟨y0, y1, n2, _, _, h4, h5⟩ := trod_struct2 Tryd.underlying57 h3
      obtain ⟨s0, e0, _⟩ := DataW.trod_string Tryd.underlying9 h4
      obtain ⟨s1, e1, _⟩ := DataW.trod_string Tryd.underlying9 h5
      match cs, h1 with
      | [p, q], _ =>
        rw [c1] at e0 e1
        simp at e0 e1
        subst e0 e1
        exact ⟨(s0, s1), h2 0 (by decide), h2 1 (by decide)⟩
    obtain ⟨f, hf⟩ := Go.Deep.choose_lt each
    refine ⟨(List.range len).map f, ⟨some ⟨b, off, none⟩, cap, by simp, by simpa using hl, fun _ => ⟨b, off, rfl, hb, fun j hj => ?_⟩⟩, by simpa using hm⟩
    simp only [List.length_map, List.length_range] at hj
    simp only [List.getElem_map, List.getElem_range]
    exact hf j hj
  · obtain rfl : len = 0 := by omega
    exact ⟨[], ⟨a, cap, rfl, Nat.zero_le _, fun h => absurd h (by decide)⟩, by simp⟩
theorem rdw_of {H : Type} {enc : TypeId × Value → H} {w : World} {base : Nat} {spare : Nat → Bool} {held : Bool} {fuel : Nat} {v : Value} {x : DataW H × List MemPlace} (h : DataW.trod enc Tryd.prog w base spare held fuel 22 [v] = some x) :
    ∃ l : List RawD, RdW w v l ∧ l.length ≤ maxLen ∧ ∀ r ∈ l, (Lit.int .i64 r.par).wf = true ∧ r.attrs.length ≤ maxLen := by
  have c4 : Tryd.prog.cellsOf 37 = 4 := by kernel_rfl
  have c1 : Tryd.prog.cellsOf 9 = 1 := by kernel_rfl
  have ci : Tryd.prog.cellsOf 3 = 1 := by kernel_rfl
  have ca : Tryd.prog.cellsOf 35 = 1 := by kernel_rfl
  obtain ⟨a, len, cap, n, rfl, hl, hm, hx⟩ := open_sl Tryd.underlying22 (by rw [c4]; decide) h
  by_cases hp : 0 < len
  · obtain ⟨b, off, rfl, hb, hall⟩ := hx hp
    rw [c4] at hall
    have each : ∀ i, i < len → ∃ r : RawD, (∃ u, RdA w u r.attrs ∧ w.cell? ⟨b, off + i * 4, none⟩ = some (.int .i64 r.par) ∧ w.cell? ⟨b, off + i * 4 + 1, none⟩ = some (.string r.tag) ∧ w.cell? ⟨b, off + i * 4 + 2, none⟩ = some (.string r.text) ∧ w.cell? ⟨b, off + i * 4 + 3, none⟩ = some u) ∧ (Lit.int .i64 r.par).wf = true ∧ r.attrs.length ≤ maxLen := fun i hi => by
      obtain ⟨cs, y, h1, h2, h3⟩ := hall i hi
      obtain ⟨y0, y1, y2, y3, n2, _, _, h4, h5, h6, h7⟩ := Go.Joins.trod_struct4 Tryd.underlying37 h3
      match cs, h1 with
      | [p, q, r, s], _ =>
        rw [ca] at h7
        simp at h7
        obtain ⟨z, e0, _, hz⟩ := DataW.trod_int Tryd.underlying3 h4
        obtain ⟨s1, e1, _⟩ := DataW.trod_string Tryd.underlying9 h5
        obtain ⟨s2, e2, _⟩ := DataW.trod_string Tryd.underlying9 h6
        obtain ⟨l, hl1, hl2⟩ := rda_of h7
        rw [c1] at e1 e2
        rw [ci] at e0
        simp at e0 e1 e2
        subst e0 e1 e2
        exact ⟨⟨z, s1, s2, l⟩, ⟨s, hl1, h2 0 (by decide), h2 1 (by decide), h2 2 (by decide), h2 3 (by decide)⟩, hz, hl2⟩
    obtain ⟨f, hf⟩ := Go.Deep.choose_lt each
    refine ⟨(List.range len).map f, ⟨some ⟨b, off, none⟩, cap, by simp, by simpa using hl, fun _ => ⟨b, off, rfl, hb, fun j hj => ?_⟩⟩, by simpa using hm, fun r hr => ?_⟩
    · simp only [List.length_map, List.length_range] at hj
      simp only [List.getElem_map, List.getElem_range]
      exact (hf j hj).1
    · obtain ⟨i, hi, rfl⟩ := List.mem_map.1 hr
      exact (hf i (List.mem_range.1 hi)).2
  · obtain rfl : len = 0 := by omega
    exact ⟨[], ⟨a, cap, rfl, Nat.zero_le _, fun h => absurd h (by decide)⟩, by simp, fun r hr => (by cases hr)⟩
theorem rdw_of_trod {H : Type} {enc : TypeId × Value → H} {W : World} {v : Value} {d : DataW H} {ps : List MemPlace} {r : Reach} {b0 : Nat}
    (hval : Value.okWide Tryd.prog W r b0 22 v) (h : DataW.Trod enc Tryd.prog W 0 (fun _ => true) true 22 v d ps) :
    ∃ l : List RawD, RdW W v l ∧ l.length ≤ maxLen ∧ ∀ r ∈ l, (Lit.int .i64 r.par).wf = true ∧ r.attrs.length ≤ maxLen := by
  obtain ⟨a0, len, cap, rfl⟩ := okWide_slice Tryd.underlying22 hval
  obtain ⟨fuel, hf⟩ := h
  exact rdw_of (by simpa [Value.cells] using hf)
end Go.Proofs.YtlkfibjbfnaagaaDoor
