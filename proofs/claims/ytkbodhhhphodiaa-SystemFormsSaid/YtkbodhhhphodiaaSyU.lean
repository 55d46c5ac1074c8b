
import Derived.Test.YtkbodhhhphodiaaSyA
import Derived.Lib.SmallJoins
import Derived.OpenShut
import Derived.Deep.Grids
import Derived.Test.YtkbodhhhphodiaaShelf
namespace Go.Proofs.Ytkbodhhhphodiaa
open Go.RowKit Go.ChangeShapes Go.WideShapes Go.ChangeAt Go.Maps Go.WideMaps
/-! A style that comes in, read. -/
theorem sy_open_sl {H : Type} {enc : TypeId × Value → H} {P : Program} {w : World} {base : Nat} {spare : Nat → Bool} {held : Bool} {t e : TypeId} {fuel : Nat} {v : Value} {x : DataW H × List MemPlace} (ht : P.underlying t = some (.slice e)) (hc : 0 < P.cellsOf e)
    (h : DataW.trod enc P w base spare held fuel t [v] = some x) :
    ∃ a len cap n, v = .slice a len cap ∧ len ≤ cap ∧ len ≤ maxLen ∧ (0 < len → ∃ b off, a = some ⟨b, off, none⟩ ∧ b < w.heap.size ∧ ∀ i, i < len → ∃ cs y, cs.length = P.cellsOf e ∧ (∀ j, j < P.cellsOf e → w.cell? ⟨b, off + i * P.cellsOf e + j, none⟩ = cs[j]?) ∧ DataW.trod enc P w base spare held n e cs = some y) := by
  rcases DataW.trod_slice ht h with ⟨hcs, _⟩ | ⟨a, len, cap, elems, rest, n, _, hcs, _, _, hl, hm, hel, hall, _, _⟩
  · injection hcs with hcs _
    exact ⟨none, 0, 0, 0, hcs, Nat.le_refl _, Nat.zero_le _, fun h => absurd h (by decide)⟩
  · injection hcs with hcs _
    refine ⟨some a, len, cap, n, hcs, hl, by omega, fun hp => ?_⟩
    obtain ⟨b, off, spot⟩ := a
    have each : ∀ i, i < len → ∃ cs y, w.cells? base ((⟨b, off, spot⟩ : Addr).add (i * P.cellsOf e)) (P.cellsOf e) = some cs ∧ DataW.trod enc P w base spare held n e cs = some y := fun i hi => by
      have h1 := hall i hi
      rw [List.getElem?_eq_getElem (by omega : i < elems.length)] at h1
      obtain ⟨cs, h2, h3⟩ := Option.bind_eq_some_iff.1 h1
      exact ⟨cs, _, h2, h3⟩
    obtain ⟨cs0, y0, h2, _⟩ := each 0 hp
    have hblk := World.cells?_block h2 hc
    obtain ⟨_, hl0, hc0⟩ := World.cells?_some h2
    have hsp : spot = none := by
      have h3 := hc0 0 hc
      rw [List.getElem?_eq_getElem (by omega)] at h3
      simpa [Addr.add] using World.cell?_spot h3
    subst hsp
    have hadd : ∀ o m : Nat, (⟨b, o, none⟩ : Addr).add m = ⟨b, o + m, none⟩ := fun o m => by unfold Addr.add; split <;> simp_all
    refine ⟨b, off, rfl, by rw [hadd] at hblk; exact hblk, fun i hi => ?_⟩
    obtain ⟨cs, y, h3, h4⟩ := each i hi
    obtain ⟨_, h5, h6⟩ := World.cells?_some h3
    refine ⟨cs, y, h5, fun j hj => ?_, h4⟩
    have h7 := h6 j hj
    rw [hadd, hadd] at h7
    exact h7
section
variable {H : Type} {enc : TypeId × Value → H} {w : World} {base : Nat} {spare : Nat → Bool} {held : Bool} {fuel : Nat} {v : Value} {x : DataW H × List MemPlace}
theorem sy_rdt (h : DataW.trod enc Try.prog w base spare held fuel 23 [v] = some x) : ∃ l : List ByteArray, RdT w v l ∧ l.length ≤ maxLen := by
  have c1 : Try.prog.cellsOf 9 = 1 := by kernel_rfl
  obtain ⟨a, len, cap, n, rfl, hl, hm, hx⟩ := sy_open_sl Try.underlying23 (by rw [c1]; decide) h
  by_cases hp : 0 < len
  · obtain ⟨b, off, rfl, hb, hall⟩ := hx hp
    rw [c1] at hall
    have each : ∀ i, i < len → ∃ s : ByteArray, w.cell? ⟨b, off + i, none⟩ = some (.string s) := fun i hi => by
      obtain ⟨cs, y, h1, h2, h3⟩ := hall i hi
      obtain ⟨s0, e0, _⟩ := DataW.trod_string Try.underlying9 h3
      have h4 := h2 0 (by decide)
      rw [e0] at h4
      simp only [Nat.mul_one, Nat.add_zero] at h4
      exact ⟨s0, h4⟩
    obtain ⟨f, hf⟩ := Go.Deep.choose_lt each
    refine ⟨(List.range len).map f, ⟨some ⟨b, off, none⟩, cap, by simp, by simpa using hl, fun _ => ⟨b, off, rfl, hb, fun j hj => ?_⟩⟩, by simpa using hm⟩
    simp only [List.length_map, List.length_range] at hj
    simp only [List.getElem_map, List.getElem_range]
    exact hf j hj
  · obtain rfl : len = 0 := by omega
    exact ⟨[], RdT.nil _ _ _, by simp⟩
theorem sy_rdi (h : DataW.trod enc Try.prog w base spare held fuel 24 [v] = some x) : ∃ l : List Int, Rd .i64 w v l ∧ l.length ≤ maxLen ∧ ∀ j, nth l j ≤ 9223372036854775807 := by
  have c1 : Try.prog.cellsOf 3 = 1 := by kernel_rfl
  obtain ⟨a, len, cap, n, rfl, hl, hm, hx⟩ := sy_open_sl Try.underlying24 (by rw [c1]; decide) h
  by_cases hp : 0 < len
  · obtain ⟨b, off, rfl, hb, hall⟩ := hx hp
    rw [c1] at hall
    have each : ∀ i, i < len → ∃ s : Int, w.cell? ⟨b, off + i, none⟩ = some (.int .i64 s) ∧ s ≤ 9223372036854775807 := fun i hi => by
      obtain ⟨cs, y, h1, h2, h3⟩ := hall i hi
      obtain ⟨s0, e0, _, hwf⟩ := DataW.trod_int Try.underlying3 h3
      have h4 := h2 0 (by decide)
      rw [e0] at h4
      simp only [Nat.mul_one, Nat.add_zero] at h4
      exact ⟨s0, h4, (bounds_i64 hwf).2⟩
    obtain ⟨f, hf⟩ := Go.Deep.choose_lt each
    refine ⟨(List.range len).map f, ⟨some ⟨b, off, none⟩, cap, by simp, by simpa using hl, fun _ => ⟨b, off, rfl, hb, fun j hj => ?_⟩⟩, by simpa using hm, fun j => ?_⟩
    · simp only [List.length_map, List.length_range] at hj
      have : nth ((List.range len).map f) j = f j := by
        unfold nth
        rw [List.getD_eq_getElem?_getD, List.getElem?_map, List.getElem?_range hj]
        rfl
      rw [this]
      exact (hf j hj).1
    · unfold nth
      rw [List.getD_eq_getElem?_getD, List.getElem?_map]
      by_cases hj : j < len
      · rw [List.getElem?_range hj]
        exact (hf j hj).2
      · rw [List.getElem?_eq_none (by simpa using hj)]
        show (0 : Int) ≤ _
        decide
  · obtain rfl : len = 0 := by omega
    exact ⟨[], Rd.nil' _ _ _, by simp, fun j => by show (0 : Int) ≤ _; decide⟩
theorem sy_rdp (h : DataW.trod enc Try.prog w base spare held fuel 26 [v] = some x) : ∃ l : List (Int × Int), RdP w v l ∧ l.length ≤ maxLen := by
  have c1 : Try.prog.cellsOf 3 = 1 := by kernel_rfl
  have c2 : Try.prog.cellsOf 38 = 2 := by kernel_rfl
  obtain ⟨a, len, cap, n, rfl, hl, hm, hx⟩ := sy_open_sl Try.underlying26 (by rw [c2]; decide) h
  by_cases hp : 0 < len
  · obtain ⟨b, off, rfl, hb, hall⟩ := hx hp
    rw [c2] at hall
    have each : ∀ i, i < len → ∃ s : Int × Int, w.cell? ⟨b, off + i * 2, none⟩ = some (.int .i64 s.1) ∧ w.cell? ⟨b, off + i * 2 + 1, none⟩ = some (.int .i64 s.2) := fun i hi => by
      obtain ⟨cs, y, h1, h2, h3⟩ := hall i hi
      obtain ⟨xs, m, _, _, _, hxl, hf⟩ := DataW.trod_array Try.underlying38 h3
      rw [c1] at hf
      match cs, h1 with
      | [p, q], _ =>
        have g0 := hf 0 (by decide)
        have g1 := hf 1 (by decide)
        rw [List.getElem?_eq_getElem (by omega)] at g0 g1
        obtain ⟨s0, e0, _⟩ := DataW.trod_int Try.underlying3 g0
        obtain ⟨s1, e1, _⟩ := DataW.trod_int Try.underlying3 g1
        simp at e0 e1
        subst e0 e1
        exact ⟨(s0, s1), h2 0 (by decide), h2 1 (by decide)⟩
    obtain ⟨f, hf⟩ := Go.Deep.choose_lt each
    refine ⟨(List.range len).map f, ⟨some ⟨b, off, none⟩, cap, by simp, by simpa using hl, fun _ => ⟨b, off, rfl, hb, fun j hj => ?_⟩⟩, by simpa using hm⟩
    simp only [List.length_map, List.length_range] at hj
    simp only [List.getElem_map, List.getElem_range]
    exact hf j hj
  · obtain rfl : len = 0 := by omega
    exact ⟨[], RdP.nil _ _ _, by simp⟩
end
/-- What is known of a style that comes in. -/
structure DefI (w : World) (d : DefD) (sv wv rv : Value) : Prop where
  syms : RdT w sv d.syms
  wts : Rd .i64 w wv d.wts
  rng : RdP w rv d.rng
  ls : d.syms.length ≤ maxLen
  lw : d.wts.length ≤ maxLen
  lr : d.rng.length ≤ maxLen
  hf : -9223372036854775808 ≤ d.first ∧ d.first ≤ 9223372036854775807
  hw : ∀ j, nth d.wts j ≤ 9223372036854775807
theorem def_of_trod {H : Type} {enc : TypeId × Value → H} {W : World} {v : Value} {d : DataW H} {ps : List MemPlace} {r : Reach} {b0 : Nat}
    (hval : Value.okWide Try.prog W r b0 28 v) (h : DataW.Trod enc Try.prog W 0 (fun _ => true) true 28 v d ps) : ∃ (D : DefD) (sv wv rv : Value), v = defV D sv wv rv ∧ DefI W D sv wv rv := by
  obtain ⟨cs, rfl, hsz⟩ := okWide_struct Try.underlying28 hval
  have c16 : Try.prog.cellsOf 28 = 16 := by kernel_rfl
  have c1 : Try.prog.cellsOf 9 = 1 := by kernel_rfl
  have ci : Try.prog.cellsOf 3 = 1 := by kernel_rfl
  have cb : Try.prog.cellsOf 4 = 1 := by kernel_rfl
  have c3 : Try.prog.cellsOf 23 = 1 := by kernel_rfl
  have c4 : Try.prog.cellsOf 24 = 1 := by kernel_rfl
  have c5 : Try.prog.cellsOf 25 = 2 := by kernel_rfl
  have c6 : Try.prog.cellsOf 26 = 1 := by kernel_rfl
  rw [c16] at hsz
  obtain ⟨fuel, hf⟩ := h
  obtain ⟨xs, n, _, _, _, hxl, hall⟩ := DataW.trod_struct Try.underlying28 hf
  obtain ⟨l⟩ := cs
  match l, hsz with
  | [c0', c1', c2', c3', c4', c5', c6', c7', c8', c9', c10', c11', c12', c13', c14', c15'], _ =>
    have g0 : DataW.trod enc Try.prog W 0 (fun _ => true) true n 9 [c0'] = xs[0]? := by
      have h1 : DataW.trod enc Try.prog W 0 (fun _ => true) true n 9 (([c0', c1', c2', c3', c4', c5', c6', c7', c8', c9', c10', c11', c12', c13', c14', c15'].drop 0).take (Try.prog.cellsOf 9)) = xs[0]? := hall 0 _ rfl
      rw [c1] at h1
      exact h1
    rw [List.getElem?_eq_getElem (show 0 < xs.length by rw [hxl]; decide)] at g0
    have g1 : DataW.trod enc Try.prog W 0 (fun _ => true) true n 9 [c1'] = xs[1]? := by
      have h1 : DataW.trod enc Try.prog W 0 (fun _ => true) true n 9 (([c0', c1', c2', c3', c4', c5', c6', c7', c8', c9', c10', c11', c12', c13', c14', c15'].drop 1).take (Try.prog.cellsOf 9)) = xs[1]? := hall 1 _ rfl
      rw [c1] at h1
      exact h1
    rw [List.getElem?_eq_getElem (show 1 < xs.length by rw [hxl]; decide)] at g1
    have g2 : DataW.trod enc Try.prog W 0 (fun _ => true) true n 3 [c2'] = xs[2]? := by
      have h1 : DataW.trod enc Try.prog W 0 (fun _ => true) true n 3 (([c0', c1', c2', c3', c4', c5', c6', c7', c8', c9', c10', c11', c12', c13', c14', c15'].drop 2).take (Try.prog.cellsOf 3)) = xs[2]? := hall 2 _ rfl
      rw [ci] at h1
      exact h1
    rw [List.getElem?_eq_getElem (show 2 < xs.length by rw [hxl]; decide)] at g2
    have g3 : DataW.trod enc Try.prog W 0 (fun _ => true) true n 23 [c3'] = xs[3]? := by
      have h1 : DataW.trod enc Try.prog W 0 (fun _ => true) true n 23 (([c0', c1', c2', c3', c4', c5', c6', c7', c8', c9', c10', c11', c12', c13', c14', c15'].drop 3).take (Try.prog.cellsOf 23)) = xs[3]? := hall 3 _ rfl
      rw [c3] at h1
      exact h1
    rw [List.getElem?_eq_getElem (show 3 < xs.length by rw [hxl]; decide)] at g3
    have g4 : DataW.trod enc Try.prog W 0 (fun _ => true) true n 24 [c4'] = xs[4]? := by
      have h1 : DataW.trod enc Try.prog W 0 (fun _ => true) true n 24 (([c0', c1', c2', c3', c4', c5', c6', c7', c8', c9', c10', c11', c12', c13', c14', c15'].drop 4).take (Try.prog.cellsOf 24)) = xs[4]? := hall 4 _ rfl
      rw [c4] at h1
      exact h1
    rw [List.getElem?_eq_getElem (show 4 < xs.length by rw [hxl]; decide)] at g4
    have g5 : DataW.trod enc Try.prog W 0 (fun _ => true) true n 25 [c5', c6'] = xs[5]? := by
      have h1 : DataW.trod enc Try.prog W 0 (fun _ => true) true n 25 (([c0', c1', c2', c3', c4', c5', c6', c7', c8', c9', c10', c11', c12', c13', c14', c15'].drop 5).take (Try.prog.cellsOf 25)) = xs[5]? := hall 5 _ rfl
      rw [c5] at h1
      exact h1
    rw [List.getElem?_eq_getElem (show 5 < xs.length by rw [hxl]; decide)] at g5
    have g6 : DataW.trod enc Try.prog W 0 (fun _ => true) true n 9 [c7'] = xs[6]? := by
      have h1 : DataW.trod enc Try.prog W 0 (fun _ => true) true n 9 (([c0', c1', c2', c3', c4', c5', c6', c7', c8', c9', c10', c11', c12', c13', c14', c15'].drop 7).take (Try.prog.cellsOf 9)) = xs[6]? := hall 6 _ rfl
      rw [c1] at h1
      exact h1
    rw [List.getElem?_eq_getElem (show 6 < xs.length by rw [hxl]; decide)] at g6
    have g7 : DataW.trod enc Try.prog W 0 (fun _ => true) true n 9 [c8'] = xs[7]? := by
      have h1 : DataW.trod enc Try.prog W 0 (fun _ => true) true n 9 (([c0', c1', c2', c3', c4', c5', c6', c7', c8', c9', c10', c11', c12', c13', c14', c15'].drop 8).take (Try.prog.cellsOf 9)) = xs[7]? := hall 7 _ rfl
      rw [c1] at h1
      exact h1
    rw [List.getElem?_eq_getElem (show 7 < xs.length by rw [hxl]; decide)] at g7
    have g8 : DataW.trod enc Try.prog W 0 (fun _ => true) true n 4 [c9'] = xs[8]? := by
      have h1 : DataW.trod enc Try.prog W 0 (fun _ => true) true n 4 (([c0', c1', c2', c3', c4', c5', c6', c7', c8', c9', c10', c11', c12', c13', c14', c15'].drop 9).take (Try.prog.cellsOf 4)) = xs[8]? := hall 8 _ rfl
      rw [cb] at h1
      exact h1
    rw [List.getElem?_eq_getElem (show 8 < xs.length by rw [hxl]; decide)] at g8
    have g9 : DataW.trod enc Try.prog W 0 (fun _ => true) true n 26 [c10'] = xs[9]? := by
      have h1 : DataW.trod enc Try.prog W 0 (fun _ => true) true n 26 (([c0', c1', c2', c3', c4', c5', c6', c7', c8', c9', c10', c11', c12', c13', c14', c15'].drop 10).take (Try.prog.cellsOf 26)) = xs[9]? := hall 9 _ rfl
      rw [c6] at h1
      exact h1
    rw [List.getElem?_eq_getElem (show 9 < xs.length by rw [hxl]; decide)] at g9
    have g10 : DataW.trod enc Try.prog W 0 (fun _ => true) true n 3 [c11'] = xs[10]? := by
      have h1 : DataW.trod enc Try.prog W 0 (fun _ => true) true n 3 (([c0', c1', c2', c3', c4', c5', c6', c7', c8', c9', c10', c11', c12', c13', c14', c15'].drop 11).take (Try.prog.cellsOf 3)) = xs[10]? := hall 10 _ rfl
      rw [ci] at h1
      exact h1
    rw [List.getElem?_eq_getElem (show 10 < xs.length by rw [hxl]; decide)] at g10
    have g11 : DataW.trod enc Try.prog W 0 (fun _ => true) true n 9 [c12'] = xs[11]? := by
      have h1 : DataW.trod enc Try.prog W 0 (fun _ => true) true n 9 (([c0', c1', c2', c3', c4', c5', c6', c7', c8', c9', c10', c11', c12', c13', c14', c15'].drop 12).take (Try.prog.cellsOf 9)) = xs[11]? := hall 11 _ rfl
      rw [c1] at h1
      exact h1
    rw [List.getElem?_eq_getElem (show 11 < xs.length by rw [hxl]; decide)] at g11
    have g12 : DataW.trod enc Try.prog W 0 (fun _ => true) true n 9 [c13'] = xs[12]? := by
      have h1 : DataW.trod enc Try.prog W 0 (fun _ => true) true n 9 (([c0', c1', c2', c3', c4', c5', c6', c7', c8', c9', c10', c11', c12', c13', c14', c15'].drop 13).take (Try.prog.cellsOf 9)) = xs[12]? := hall 12 _ rfl
      rw [c1] at h1
      exact h1
    rw [List.getElem?_eq_getElem (show 12 < xs.length by rw [hxl]; decide)] at g12
    have g13 : DataW.trod enc Try.prog W 0 (fun _ => true) true n 9 [c14'] = xs[13]? := by
      have h1 : DataW.trod enc Try.prog W 0 (fun _ => true) true n 9 (([c0', c1', c2', c3', c4', c5', c6', c7', c8', c9', c10', c11', c12', c13', c14', c15'].drop 14).take (Try.prog.cellsOf 9)) = xs[13]? := hall 13 _ rfl
      rw [c1] at h1
      exact h1
    rw [List.getElem?_eq_getElem (show 13 < xs.length by rw [hxl]; decide)] at g13
    have g14 : DataW.trod enc Try.prog W 0 (fun _ => true) true n 3 [c15'] = xs[14]? := by
      have h1 : DataW.trod enc Try.prog W 0 (fun _ => true) true n 3 (([c0', c1', c2', c3', c4', c5', c6', c7', c8', c9', c10', c11', c12', c13', c14', c15'].drop 15).take (Try.prog.cellsOf 3)) = xs[14]? := hall 14 _ rfl
      rw [ci] at h1
      exact h1
    rw [List.getElem?_eq_getElem (show 14 < xs.length by rw [hxl]; decide)] at g14
    obtain ⟨s0, e0, _⟩ := DataW.trod_string Try.underlying9 g0
    injection e0 with e0 _
    subst e0
    obtain ⟨s1, e1, _⟩ := DataW.trod_string Try.underlying9 g1
    injection e1 with e1 _
    subst e1
    obtain ⟨s2, e2, _, w2⟩ := DataW.trod_int Try.underlying3 g2
    injection e2 with e2 _
    subst e2
    obtain ⟨l3, r3, m3⟩ := sy_rdt g3
    obtain ⟨l4, r4, m4, b4⟩ := sy_rdi g4
    obtain ⟨ys, m, _, _, _, hyl, hy⟩ := DataW.trod_array Try.underlying25 g5
    have y0 := hy 0 (by decide)
    have y1 := hy 1 (by decide)
    rw [List.getElem?_eq_getElem (by omega)] at y0 y1
    rw [c1] at y0 y1
    obtain ⟨sa, ea, _⟩ := DataW.trod_string Try.underlying9 y0
    obtain ⟨sb, eb, _⟩ := DataW.trod_string Try.underlying9 y1
    simp at ea eb
    subst ea eb
    obtain ⟨s6, e6, _⟩ := DataW.trod_string Try.underlying9 g6
    injection e6 with e6 _
    subst e6
    obtain ⟨s7, e7, _⟩ := DataW.trod_string Try.underlying9 g7
    injection e7 with e7 _
    subst e7
    obtain ⟨s8, e8, _⟩ := DataW.trod_bool Try.underlying4 g8
    injection e8 with e8 _
    subst e8
    obtain ⟨l9, r9, m9⟩ := sy_rdp g9
    obtain ⟨s10, e10, _, w10⟩ := DataW.trod_int Try.underlying3 g10
    injection e10 with e10 _
    subst e10
    obtain ⟨s11, e11, _⟩ := DataW.trod_string Try.underlying9 g11
    injection e11 with e11 _
    subst e11
    obtain ⟨s12, e12, _⟩ := DataW.trod_string Try.underlying9 g12
    injection e12 with e12 _
    subst e12
    obtain ⟨s13, e13, _⟩ := DataW.trod_string Try.underlying9 g13
    injection e13 with e13 _
    subst e13
    obtain ⟨s14, e14, _, w14⟩ := DataW.trod_int Try.underlying3 g14
    injection e14 with e14 _
    subst e14
    exact ⟨⟨s0, s1, s2, l3, l4, sa, sb, s6, s7, s8, l9, s10, s11, s12, s13, s14⟩, c3', c4', c10', rfl, ⟨r3, r4, r9, m3, m4, m9, bounds_i64 w2, b4⟩⟩
end Go.Proofs.Ytkbodhhhphodiaa
