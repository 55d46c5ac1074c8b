
import Derived.Test.YtkpaokcgjeplpaaDoorPrP
import Derived.Lib.SmallJoins
import Derived.OpenShut
import Derived.Deep.Grids
import Derived.Lib.LazyBuf
namespace Go.Proofs.YtkpaokcgjeplpaaDoor
open Go.RowKit Go.ChangeShapes Go.WideShapes Go.ChangeAt Go.Maps Go.WideMaps
/-! Styles that come in, read. -/
theorem pv_open_sl {H : Type} {enc : TypeId × Value → H} {P : Program} {w : World} {base : Nat} {spare : Nat → Bool} {held : Bool} {t e : TypeId} {fuel : Nat} {v : Value} {x : DataW H × List MemPlace} (ht : P.underlying t = some (.slice e)) (hc : 0 < P.cellsOf e)
    (h : DataW.trod enc P w base spare held fuel t [v] = some x) :
    ∃ a len cap n, v = .slice a len cap ∧ len ≤ cap ∧ len ≤ maxLen ∧ (0 < len → ∃ b off, a = some ⟨b, off, none⟩ ∧ b < w.heap.size ∧ ∀ i, i < len → ∃ cs y, cs.length = P.cellsOf e ∧ (∀ j, j < P.cellsOf e → w.cell? ⟨b, off + i * P.cellsOf e + j, none⟩ = cs[j]?) ∧ DataW.trod enc P w base spare held n e cs = some y) := by
  rcases DataW.trod_slice ht h with ⟨hcs, _⟩ | ⟨a, len, cap, elems, rest, n, _, hcs, _, _, hl, hm, hel, hall, _, _⟩
  · injection hcs with hcs _
    exact ⟨none, 0, 0, 0, hcs, Nat.le_refl _, Nat.zero_le _, fun h => absurd h (by decide)⟩
  · injection hcs with hcs _
    refine ⟨some a, len, cap, n, hcs, hl, by omega, fun hp => ?_⟩
    obtain ⟨b, off, spot⟩ := a
    have each : ∀ i, i < len → ∃ cs y, w.cells? base ((⟨b, off, spot⟩ : Addr).add (i * P.cellsOf e)) (P.cellsOf e) = some cs ∧ DataW.trod enc P w base spare held n e cs = some y := fun i hi => by
      have h1 := hall i hi
      rw [List.getElem?_eq_getElem (by omega : i < elems.length)] at h1
      obtain ⟨cs, h2, h3⟩ := Option.bind_eq_some_iff.1 h1
      exact ⟨cs, _, h2, h3⟩
    obtain ⟨cs0, y0, h2, _⟩ := each 0 hp
    have hblk := World.cells?_block h2 hc
    obtain ⟨_, hl0, hc0⟩ := World.cells?_some h2
    have hsp : spot = none := by
      have h3 := hc0 0 hc
      rw [List.getElem?_eq_getElem (by omega)] at h3
      simpa [Addr.add] using World.cell?_spot h3
    subst hsp
    have hadd : ∀ o m : Nat, (⟨b, o, none⟩ : Addr).add m = ⟨b, o + m, none⟩ := fun o m => by unfold Addr.add; split <;> simp_all
    refine ⟨b, off, rfl, by rw [hadd] at hblk; exact hblk, fun i hi => ?_⟩
    obtain ⟨cs, y, h3, h4⟩ := each i hi
    obtain ⟨_, h5, h6⟩ := World.cells?_some h3
    refine ⟨cs, y, h5, fun j hj => ?_, h4⟩
    have h7 := h6 j hj
    rw [hadd, hadd] at h7
    exact h7
section
variable {H : Type} {enc : TypeId × Value → H} {w : World} {base : Nat} {spare : Nat → Bool} {held : Bool} {fuel : Nat} {v : Value} {x : DataW H × List MemPlace}
theorem pv_rdt (h : DataW.trod enc Tryd.prog w base spare held fuel 23 [v] = some x) : ∃ l : List ByteArray, RdTx w v l ∧ l.length ≤ maxLen := by
  have c1 : Tryd.prog.cellsOf 9 = 1 := by kernel_rfl
  obtain ⟨a, len, cap, n, rfl, hl, hm, hx⟩ := pv_open_sl Tryd.underlying23 (by rw [c1]; decide) h
  by_cases hp : 0 < len
  · obtain ⟨b, off, rfl, hb, hall⟩ := hx hp
    rw [c1] at hall
    have each : ∀ i, i < len → ∃ s : ByteArray, w.cell? ⟨b, off + i, none⟩ = some (.string s) := fun i hi => by
      obtain ⟨cs, y, h1, h2, h3⟩ := hall i hi
      obtain ⟨s0, e0, _⟩ := DataW.trod_string Tryd.underlying9 h3
      have h4 := h2 0 (by decide)
      rw [e0] at h4
      simp only [Nat.mul_one, Nat.add_zero] at h4
      exact ⟨s0, h4⟩
    obtain ⟨f, hf⟩ := Go.Deep.choose_lt each
    refine ⟨(List.range len).map f, ⟨some ⟨b, off, none⟩, cap, by simp, by simpa using hl, fun _ => ⟨b, off, rfl, hb, fun j hj => ?_⟩⟩, by simpa using hm⟩
    simp only [List.length_map, List.length_range] at hj
    simp only [List.getElem_map, List.getElem_range]
    exact hf j hj
  · obtain rfl : len = 0 := by omega
    exact ⟨[], RdTx.nil _ _ _, by simp⟩
instance : Inhabited ItD := ⟨⟨0, ⟨#[]⟩, ⟨#[]⟩, ⟨#[]⟩⟩⟩
instance : Inhabited PaD := ⟨⟨⟨#[]⟩, 0, false, false⟩⟩
set_option maxRecDepth 100000 in
theorem pv_rdI (h : DataW.trod enc Tryd.prog w base spare held fuel 22 [v] = some x) : ∃ l : List ItD, RdK icells 4 w v l := by
  have c4 : Tryd.prog.cellsOf 45 = 4 := by kernel_rfl
  obtain ⟨a, len, cap, n0, rfl, hl, hm, hx⟩ := pv_open_sl Tryd.underlying22 (by rw [c4]; decide) h
  by_cases hp : 0 < len
  · obtain ⟨b, off, rfl, hb, hall0⟩ := hx hp
    rw [c4] at hall0
    have each : ∀ i, i < len → ∃ s : ItD, ∀ m u, (icells s)[m]? = some u → w.cell? ⟨b, off + i * 4 + m, none⟩ = some u := fun i hi => by
      obtain ⟨cs, y, h1, h2, h3⟩ := hall0 i hi
      obtain ⟨xs, n, _, _, _, hxl, hall⟩ := DataW.trod_struct Tryd.underlying45 h3
      match cs, h1 with
      | [c0', c1', c2', c3'], _ =>
        have g0 : DataW.trod enc Tryd.prog w base spare held n 3 [c0'] = xs[0]? := by
          have h1 : DataW.trod enc Tryd.prog w base spare held n 3 (([c0', c1', c2', c3'].drop 0).take (Tryd.prog.cellsOf 3)) = xs[0]? := hall 0 _ rfl
          rw [show Tryd.prog.cellsOf 3 = 1 by kernel_rfl] at h1
          exact h1
        rw [List.getElem?_eq_getElem (show 0 < xs.length by rw [hxl]; decide)] at g0
        have g1 : DataW.trod enc Tryd.prog w base spare held n 9 [c1'] = xs[1]? := by
          have h1 : DataW.trod enc Tryd.prog w base spare held n 9 (([c0', c1', c2', c3'].drop 1).take (Tryd.prog.cellsOf 9)) = xs[1]? := hall 1 _ rfl
          rw [show Tryd.prog.cellsOf 9 = 1 by kernel_rfl] at h1
          exact h1
        rw [List.getElem?_eq_getElem (show 1 < xs.length by rw [hxl]; decide)] at g1
        have g2 : DataW.trod enc Tryd.prog w base spare held n 9 [c2'] = xs[2]? := by
          have h1 : DataW.trod enc Tryd.prog w base spare held n 9 (([c0', c1', c2', c3'].drop 2).take (Tryd.prog.cellsOf 9)) = xs[2]? := hall 2 _ rfl
          rw [show Tryd.prog.cellsOf 9 = 1 by kernel_rfl] at h1
          exact h1
        rw [List.getElem?_eq_getElem (show 2 < xs.length by rw [hxl]; decide)] at g2
        have g3 : DataW.trod enc Tryd.prog w base spare held n 9 [c3'] = xs[3]? := by
          have h1 : DataW.trod enc Tryd.prog w base spare held n 9 (([c0', c1', c2', c3'].drop 3).take (Tryd.prog.cellsOf 9)) = xs[3]? := hall 3 _ rfl
          rw [show Tryd.prog.cellsOf 9 = 1 by kernel_rfl] at h1
          exact h1
        rw [List.getElem?_eq_getElem (show 3 < xs.length by rw [hxl]; decide)] at g3
        obtain ⟨s0, e0, _⟩ := DataW.trod_int Tryd.underlying3 g0
        injection e0 with e0 _
        subst e0
        obtain ⟨s1, e1, _⟩ := DataW.trod_string Tryd.underlying9 g1
        injection e1 with e1 _
        subst e1
        obtain ⟨s2, e2, _⟩ := DataW.trod_string Tryd.underlying9 g2
        injection e2 with e2 _
        subst e2
        obtain ⟨s3, e3, _⟩ := DataW.trod_string Tryd.underlying9 g3
        injection e3 with e3 _
        subst e3
        refine ⟨⟨s0, s1, s2, s3⟩, fun m u hu => ?_⟩
        have hm4 : m < 4 := (List.getElem?_eq_some_iff.1 hu).1
        exact (h2 m hm4).trans hu
    obtain ⟨f, hf⟩ := Go.Deep.choose_lt each
    refine ⟨(List.range len).map f, some ⟨b, off, none⟩, cap, by simp, by simpa using hl, fun _ => ⟨b, off, rfl, hb, fun j hj m u hu => ?_⟩⟩
    simp only [List.length_map, List.length_range] at hj
    simp only [List.getElem_map, List.getElem_range] at hu
    exact hf j hj m u hu
  · obtain rfl : len = 0 := by omega
    exact ⟨[], RdK.nil _ _ _ _ _⟩
set_option maxRecDepth 100000 in
theorem pv_rdP (h : DataW.trod enc Tryd.prog w base spare held fuel 24 [v] = some x) : ∃ l : List PaD, RdK pcells 4 w v l := by
  have c4 : Tryd.prog.cellsOf 47 = 4 := by kernel_rfl
  obtain ⟨a, len, cap, n0, rfl, hl, hm, hx⟩ := pv_open_sl Tryd.underlying24 (by rw [c4]; decide) h
  by_cases hp : 0 < len
  · obtain ⟨b, off, rfl, hb, hall0⟩ := hx hp
    rw [c4] at hall0
    have each : ∀ i, i < len → ∃ s : PaD, ∀ m u, (pcells s)[m]? = some u → w.cell? ⟨b, off + i * 4 + m, none⟩ = some u := fun i hi => by
      obtain ⟨cs, y, h1, h2, h3⟩ := hall0 i hi
      obtain ⟨xs, n, _, _, _, hxl, hall⟩ := DataW.trod_struct Tryd.underlying47 h3
      match cs, h1 with
      | [c0', c1', c2', c3'], _ =>
        have g0 : DataW.trod enc Tryd.prog w base spare held n 9 [c0'] = xs[0]? := by
          have h1 : DataW.trod enc Tryd.prog w base spare held n 9 (([c0', c1', c2', c3'].drop 0).take (Tryd.prog.cellsOf 9)) = xs[0]? := hall 0 _ rfl
          rw [show Tryd.prog.cellsOf 9 = 1 by kernel_rfl] at h1
          exact h1
        rw [List.getElem?_eq_getElem (show 0 < xs.length by rw [hxl]; decide)] at g0
        have g1 : DataW.trod enc Tryd.prog w base spare held n 3 [c1'] = xs[1]? := by
          have h1 : DataW.trod enc Tryd.prog w base spare held n 3 (([c0', c1', c2', c3'].drop 1).take (Tryd.prog.cellsOf 3)) = xs[1]? := hall 1 _ rfl
          rw [show Tryd.prog.cellsOf 3 = 1 by kernel_rfl] at h1
          exact h1
        rw [List.getElem?_eq_getElem (show 1 < xs.length by rw [hxl]; decide)] at g1
        have g2 : DataW.trod enc Tryd.prog w base spare held n 4 [c2'] = xs[2]? := by
          have h1 : DataW.trod enc Tryd.prog w base spare held n 4 (([c0', c1', c2', c3'].drop 2).take (Tryd.prog.cellsOf 4)) = xs[2]? := hall 2 _ rfl
          rw [show Tryd.prog.cellsOf 4 = 1 by kernel_rfl] at h1
          exact h1
        rw [List.getElem?_eq_getElem (show 2 < xs.length by rw [hxl]; decide)] at g2
        have g3 : DataW.trod enc Tryd.prog w base spare held n 4 [c3'] = xs[3]? := by
          have h1 : DataW.trod enc Tryd.prog w base spare held n 4 (([c0', c1', c2', c3'].drop 3).take (Tryd.prog.cellsOf 4)) = xs[3]? := hall 3 _ rfl
          rw [show Tryd.prog.cellsOf 4 = 1 by kernel_rfl] at h1
          exact h1
        rw [List.getElem?_eq_getElem (show 3 < xs.length by rw [hxl]; decide)] at g3
        obtain ⟨s0, e0, _⟩ := DataW.trod_string Tryd.underlying9 g0
        injection e0 with e0 _
        subst e0
        obtain ⟨s1, e1, _⟩ := DataW.trod_int Tryd.underlying3 g1
        injection e1 with e1 _
        subst e1
        obtain ⟨s2, e2, _⟩ := DataW.trod_bool Tryd.underlying4 g2
        injection e2 with e2 _
        subst e2
        obtain ⟨s3, e3, _⟩ := DataW.trod_bool Tryd.underlying4 g3
        injection e3 with e3 _
        subst e3
        refine ⟨⟨s0, s1, s2, s3⟩, fun m u hu => ?_⟩
        have hm4 : m < 4 := (List.getElem?_eq_some_iff.1 hu).1
        exact (h2 m hm4).trans hu
    obtain ⟨f, hf⟩ := Go.Deep.choose_lt each
    refine ⟨(List.range len).map f, some ⟨b, off, none⟩, cap, by simp, by simpa using hl, fun _ => ⟨b, off, rfl, hb, fun j hj m u hu => ?_⟩⟩
    simp only [List.length_map, List.length_range] at hj
    simp only [List.getElem_map, List.getElem_range] at hu
    exact hf j hj m u hu
  · obtain rfl : len = 0 := by omega
    exact ⟨[], RdK.nil _ _ _ _ _⟩
end
set_option maxRecDepth 100000 in
theorem sty_of_trod {H : Type} {enc : TypeId × Value → H} {W : World} {v : Value} {d : DataW H} {ps : List MemPlace} {r : Reach} {b0 : Nat}
    (hval : Value.okWide Tryd.prog W r b0 26 v) (h : DataW.Trod enc Tryd.prog W 0 (fun _ => true) true 26 v d ps) : ∃ (D : StyD) (v1 v2 v3 v4 v5 : Value), v = .agg (styC D v1 v2 v3 v4 v5) ∧ RdSty W v1 v2 v3 v4 v5 D := by
  obtain ⟨cs, rfl, hsz⟩ := okWide_struct Tryd.underlying26 hval
  have c11 : Tryd.prog.cellsOf 26 = 11 := by kernel_rfl
  rw [c11] at hsz
  obtain ⟨fuel, hf⟩ := h
  obtain ⟨xs, n, _, _, _, hxl, hall⟩ := DataW.trod_struct Tryd.underlying26 hf
  obtain ⟨l⟩ := cs
  match l, hsz with
  | [c0', c1', c2', c3', c4', c5', c6', c7', c8', c9', c10'], _ =>
    have g0 : DataW.trod enc Tryd.prog W 0 (fun _ => true) true n 9 [c0'] = xs[0]? := by
      have h1 : DataW.trod enc Tryd.prog W 0 (fun _ => true) true n 9 (([c0', c1', c2', c3', c4', c5', c6', c7', c8', c9', c10'].drop 0).take (Tryd.prog.cellsOf 9)) = xs[0]? := hall 0 _ rfl
      rw [show Tryd.prog.cellsOf 9 = 1 by kernel_rfl] at h1
      exact h1
    rw [List.getElem?_eq_getElem (show 0 < xs.length by rw [hxl]; decide)] at g0
    have g1 : DataW.trod enc Tryd.prog W 0 (fun _ => true) true n 9 [c1'] = xs[1]? := by
      have h1 : DataW.trod enc Tryd.prog W 0 (fun _ => true) true n 9 (([c0', c1', c2', c3', c4', c5', c6', c7', c8', c9', c10'].drop 1).take (Tryd.prog.cellsOf 9)) = xs[1]? := hall 1 _ rfl
      rw [show Tryd.prog.cellsOf 9 = 1 by kernel_rfl] at h1
      exact h1
    rw [List.getElem?_eq_getElem (show 1 < xs.length by rw [hxl]; decide)] at g1
    have g2 : DataW.trod enc Tryd.prog W 0 (fun _ => true) true n 9 [c2'] = xs[2]? := by
      have h1 : DataW.trod enc Tryd.prog W 0 (fun _ => true) true n 9 (([c0', c1', c2', c3', c4', c5', c6', c7', c8', c9', c10'].drop 2).take (Tryd.prog.cellsOf 9)) = xs[2]? := hall 2 _ rfl
      rw [show Tryd.prog.cellsOf 9 = 1 by kernel_rfl] at h1
      exact h1
    rw [List.getElem?_eq_getElem (show 2 < xs.length by rw [hxl]; decide)] at g2
    have g3 : DataW.trod enc Tryd.prog W 0 (fun _ => true) true n 22 [c3'] = xs[3]? := by
      have h1 : DataW.trod enc Tryd.prog W 0 (fun _ => true) true n 22 (([c0', c1', c2', c3', c4', c5', c6', c7', c8', c9', c10'].drop 3).take (Tryd.prog.cellsOf 22)) = xs[3]? := hall 3 _ rfl
      rw [show Tryd.prog.cellsOf 22 = 1 by kernel_rfl] at h1
      exact h1
    rw [List.getElem?_eq_getElem (show 3 < xs.length by rw [hxl]; decide)] at g3
    have g4 : DataW.trod enc Tryd.prog W 0 (fun _ => true) true n 4 [c4'] = xs[4]? := by
      have h1 : DataW.trod enc Tryd.prog W 0 (fun _ => true) true n 4 (([c0', c1', c2', c3', c4', c5', c6', c7', c8', c9', c10'].drop 4).take (Tryd.prog.cellsOf 4)) = xs[4]? := hall 4 _ rfl
      rw [show Tryd.prog.cellsOf 4 = 1 by kernel_rfl] at h1
      exact h1
    rw [List.getElem?_eq_getElem (show 4 < xs.length by rw [hxl]; decide)] at g4
    have g5 : DataW.trod enc Tryd.prog W 0 (fun _ => true) true n 4 [c5'] = xs[5]? := by
      have h1 : DataW.trod enc Tryd.prog W 0 (fun _ => true) true n 4 (([c0', c1', c2', c3', c4', c5', c6', c7', c8', c9', c10'].drop 5).take (Tryd.prog.cellsOf 4)) = xs[5]? := hall 5 _ rfl
      rw [show Tryd.prog.cellsOf 4 = 1 by kernel_rfl] at h1
      exact h1
    rw [List.getElem?_eq_getElem (show 5 < xs.length by rw [hxl]; decide)] at g5
    have g6 : DataW.trod enc Tryd.prog W 0 (fun _ => true) true n 23 [c6'] = xs[6]? := by
      have h1 : DataW.trod enc Tryd.prog W 0 (fun _ => true) true n 23 (([c0', c1', c2', c3', c4', c5', c6', c7', c8', c9', c10'].drop 6).take (Tryd.prog.cellsOf 23)) = xs[6]? := hall 6 _ rfl
      rw [show Tryd.prog.cellsOf 23 = 1 by kernel_rfl] at h1
      exact h1
    rw [List.getElem?_eq_getElem (show 6 < xs.length by rw [hxl]; decide)] at g6
    have g7 : DataW.trod enc Tryd.prog W 0 (fun _ => true) true n 4 [c7'] = xs[7]? := by
      have h1 : DataW.trod enc Tryd.prog W 0 (fun _ => true) true n 4 (([c0', c1', c2', c3', c4', c5', c6', c7', c8', c9', c10'].drop 7).take (Tryd.prog.cellsOf 4)) = xs[7]? := hall 7 _ rfl
      rw [show Tryd.prog.cellsOf 4 = 1 by kernel_rfl] at h1
      exact h1
    rw [List.getElem?_eq_getElem (show 7 < xs.length by rw [hxl]; decide)] at g7
    have g8 : DataW.trod enc Tryd.prog W 0 (fun _ => true) true n 24 [c8'] = xs[8]? := by
      have h1 : DataW.trod enc Tryd.prog W 0 (fun _ => true) true n 24 (([c0', c1', c2', c3', c4', c5', c6', c7', c8', c9', c10'].drop 8).take (Tryd.prog.cellsOf 24)) = xs[8]? := hall 8 _ rfl
      rw [show Tryd.prog.cellsOf 24 = 1 by kernel_rfl] at h1
      exact h1
    rw [List.getElem?_eq_getElem (show 8 < xs.length by rw [hxl]; decide)] at g8
    have g9 : DataW.trod enc Tryd.prog W 0 (fun _ => true) true n 24 [c9'] = xs[9]? := by
      have h1 : DataW.trod enc Tryd.prog W 0 (fun _ => true) true n 24 (([c0', c1', c2', c3', c4', c5', c6', c7', c8', c9', c10'].drop 9).take (Tryd.prog.cellsOf 24)) = xs[9]? := hall 9 _ rfl
      rw [show Tryd.prog.cellsOf 24 = 1 by kernel_rfl] at h1
      exact h1
    rw [List.getElem?_eq_getElem (show 9 < xs.length by rw [hxl]; decide)] at g9
    have g10 : DataW.trod enc Tryd.prog W 0 (fun _ => true) true n 24 [c10'] = xs[10]? := by
      have h1 : DataW.trod enc Tryd.prog W 0 (fun _ => true) true n 24 (([c0', c1', c2', c3', c4', c5', c6', c7', c8', c9', c10'].drop 10).take (Tryd.prog.cellsOf 24)) = xs[10]? := hall 10 _ rfl
      rw [show Tryd.prog.cellsOf 24 = 1 by kernel_rfl] at h1
      exact h1
    rw [List.getElem?_eq_getElem (show 10 < xs.length by rw [hxl]; decide)] at g10
    obtain ⟨s0, e0, _⟩ := DataW.trod_string Tryd.underlying9 g0
    injection e0 with e0 _
    subst e0
    obtain ⟨s1, e1, _⟩ := DataW.trod_string Tryd.underlying9 g1
    injection e1 with e1 _
    subst e1
    obtain ⟨s2, e2, _⟩ := DataW.trod_string Tryd.underlying9 g2
    injection e2 with e2 _
    subst e2
    obtain ⟨l3, r3⟩ := pv_rdI g3
    obtain ⟨s4, e4, _⟩ := DataW.trod_bool Tryd.underlying4 g4
    injection e4 with e4 _
    subst e4
    obtain ⟨s5, e5, _⟩ := DataW.trod_bool Tryd.underlying4 g5
    injection e5 with e5 _
    subst e5
    obtain ⟨l6, r6, _⟩ := pv_rdt g6
    obtain ⟨s7, e7, _⟩ := DataW.trod_bool Tryd.underlying4 g7
    injection e7 with e7 _
    subst e7
    obtain ⟨l8, r8⟩ := pv_rdP g8
    obtain ⟨l9, r9⟩ := pv_rdP g9
    obtain ⟨l10, r10⟩ := pv_rdP g10
    exact ⟨⟨s0, s1, s2, l3, s4, s5, l6, s7, l8, l9, l10⟩, c3', c6', c8', c9', c10', rfl, ⟨r3, r6, r8, r9, r10⟩⟩
end Go.Proofs.YtkpaokcgjeplpaaDoor
