
import Derived.Test.YtkpaokcgjeplpaaDoorSyA
import Derived.Laws.OwnMore
import Derived.Laws.Rows
import Derived.BigRegion
import Derived.Deep.CutBlock
import Derived.Deep.Cut
namespace Go.Proofs.YtkpaokcgjeplpaaDoor
open Go.RowKit
/-! A style in a variable of the law's own, and its rows. -/
theorem row_far {B : Nat} {w : World} {e : TypeId} {size n : Nat} {v : Value} {xs : List Value} (h : w.ownsRow B e size v n xs) {g o : Nat} (hne : v.ownBlock ≠ some g) (u : Value) : (w.setCell ⟨g, o, none⟩ u).ownsRow B e size v n xs :=
  h.kept (row := some g) ⟨rfl, rfl, rfl, by simp [World.setCell], fun i _ hi => heap_setCell_other w ⟨g, o, none⟩ i u (fun e => hi (by rw [e]))⟩ (.inr hne)
/-- A row of texts of the call's own. -/
abbrev OwnT (B : Nat) (w : World) (v : Value) (l : List ByteArray) : Prop := w.ownsRow B 9 1 v l.length (l.map Value.string)
theorem OwnT.nil (B : Nat) (w : World) : OwnT B w (.slice none 0 0) [] := ⟨by simp, .inl ⟨rfl, rfl⟩⟩
theorem OwnT.snoc {B : Nat} {w : World} {v : Value} {l : List ByteArray} {x : ByteArray} (h : w.ownsRow B 9 1 v (l.length + 1) (l.map Value.string ++ [.string x])) : OwnT B w v (l ++ [x]) := by
  unfold OwnT
  rw [List.length_append, List.length_singleton, List.map_append]
  exact h
theorem ownT_len {B : Nat} {w : World} {v : Value} {l : List ByteArray} (h : OwnT B w v l) : ∃ a c, v = .slice a l.length c := by
  rcases h.2 with ⟨hv, h0⟩ | ⟨g, cap, cur, hv, _⟩
  · exact ⟨none, 0, by rw [hv, h0]⟩
  · exact ⟨_, _, hv⟩
theorem OwnT.rd {B : Nat} {w : World} {v : Value} {l : List ByteArray} (h : OwnT B w v l) : RdTx w v l := by
  have hl := h.lt
  have hc := fun g hg => h.cells (g := g) hg
  rcases h.2 with ⟨rfl, h0⟩ | ⟨g, cap, cur, rfl, b, c, d, _⟩
  · exact ⟨none, 0, by rw [h0], by omega, fun hp => by omega⟩
  · refine ⟨_, cap, rfl, d, fun _ => ⟨g, 0, rfl, (hl g rfl).2, fun j hj => ?_⟩⟩
    have := hc g rfl j (.string l[j]) (by rw [List.getElem?_map, List.getElem?_eq_getElem hj]; rfl)
    have hadd : (⟨g, 0, none⟩ : Addr).add j = ⟨g, j, none⟩ := by unfold Addr.add; split <;> simp_all
    rw [hadd] at this
    rw [Nat.zero_add]
    exact this
theorem info_str : (Tryd.prog.info? 9).map (fun i => (i.zero, i.size, i.bytes)) = some (some (.string ⟨#[]⟩), 1, 16) := by kernel_rfl
end Go.Proofs.YtkpaokcgjeplpaaDoor
namespace Go.Proofs.YtkpaokcgjeplpaaDoor
open Go.RowKit
/-! fleuronalike.Texts. -/
theorem bytes_ne {x y : ByteArray} (h : (x.toList == y.toList) = false) : x ≠ y := fun e => by subst e; simp at h
theorem blq_go (b : ByteArray) : ∀ (n i : Nat) (r : List UInt8), b.size - i = n → ByteArray.toList.loop b i r = r.reverse ++ b.data.toList.drop i := by
  intro n
  induction n with
  | zero =>
    intro i r h
    unfold ByteArray.toList.loop
    have hz : b.size = b.data.toList.length := by rw [Array.length_toList]; rfl
    rw [if_neg (by omega), List.drop_eq_nil_of_le (by omega), List.append_nil]
  | succ n ih =>
    intro i r h
    unfold ByteArray.toList.loop
    have hz : b.size = b.data.toList.length := by rw [Array.length_toList]; rfl
    have hi : i < b.data.toList.length := by omega
    rw [if_pos (by omega), ih (i + 1) _ (by omega), List.reverse_cons, List.append_assoc, List.drop_eq_getElem_cons hi]
    congr 2
    show [b.data[i]!] ++ _ = _
    rw [getElem!_pos b.data i (by rw [← Array.length_toList]; exact hi)]
    rfl
theorem blq_data (b : ByteArray) : b.toList = b.data.toList := by
  unfold ByteArray.toList
  rw [blq_go b _ 0 [] rfl]; rfl
theorem bl_eq {x y : ByteArray} (h : (x.toList == y.toList) = true) : x = y := by
  have h1 : x.toList = y.toList := by simpa using h
  rw [blq_data, blq_data] at h1
  exact ByteArray.ext (Array.ext' h1)
set_option maxRecDepth 100000 in
set_option maxHeartbeats 1600000 in
theorem texts_any (a b : List ByteArray) (va vb : Value) (w : World) (ha : RdTx w va a) (hb : RdTx w vb b) (hl : a.length ≤ 1000000000) :
    Calls Tryd.prog 16 #[va, vb] w fun e w' => e = .returned (.bool (decide (a = b))) ∧ Below w.heap.size w w' := by
  obtain ⟨pa, ca, rfl, hla, hca⟩ := ha
  obtain ⟨pb, cb, rfl, hlb, hcb⟩ := hb
  by_cases hlen : a.length = b.length
  · obtain ⟨N, hN⟩ : ∃ N, a.length = N := ⟨_, rfl⟩
    have hNb : b.length = N := by omega
    have HA := Lib.hid hca
    have HB := Lib.hid hcb
    have HNA := Lib.hid hN
    have HNB := Lib.hid hNb
    have n1 : ((N : Int) != (N : Int)) = false := by simp
    rw [hN] at hl ⊢
    rw [hNb]
    clear hca hcb hla hlb hlen hN hNb
    go_enter Tryd.func16, Tryd.ntmps16
    go_wp2
    go_loopw [5] (fun iv wr => ∃ i : Nat, iv = .int .i64 i ∧ i ≤ N ∧ (∀ j, (h1 : j < a.length) → (h2 : j < b.length) → j < i → a[j] = b[j]) ∧ Below w.heap.size w wr) (fun iv _ => N - (intOf iv).toNat)
    case atStart => exact ⟨0, rfl, Nat.zero_le _, fun _ _ _ h => absurd h (by omega), Below.refl _ _⟩
    case round =>
      obtain ⟨i, rfl, hi, heq, hbl⟩ := hrel
      have HE := Lib.hid heq
      have HW := Lib.hid hbl
      have HD := Lib.hid hbl.drew
      clear heq hbl
      by_cases hlt : i < N
      · have hI : (i : Int) < (N : Int) := by omega
        have hI0 : (0 : Int) ≤ (i : Int) := by omega
        obtain ⟨ga, oa, rfl, hga, fa⟩ := HA.out (by rw [HNA.out]; omega)
        obtain ⟨gb, ob, rfl, hgb, fb⟩ := HB.out (by rw [HNB.out]; omega)
        have e1 := (HW.out.cell (p := ⟨ga, oa + i, none⟩) hga).trans (fa i (by rw [HNA.out]; exact hlt))
        have e2 := (HW.out.cell (p := ⟨gb, ob + i, none⟩) hgb).trans (fb i (by rw [HNB.out]; exact hlt))
        have HX : Hid (∀ x y, a[i]'(by rw [HNA.out]; exact hlt) = x → b[i]'(by rw [HNB.out]; exact hlt) = y → x = y → ∀ j, (h1 : j < a.length) → (h2 : j < b.length) → j < i + 1 → a[j] = b[j]) := fun x y hx hy hxy j h1 h2 hj => by
          by_cases c : j < i
          · exact HE.out j h1 h2 c
          · obtain rfl : j = i := by omega
            rw [hx, hy, hxy]
        have HY : Hid (∀ x y, a[i]'(by rw [HNA.out]; exact hlt) = x → b[i]'(by rw [HNB.out]; exact hlt) = y → x ≠ y → a ≠ b) := fun x y hx hy hxy hab => by
          subst hab
          exact hxy (hx.symm.trans hy)
        clear fa fb
        generalize hxa : a[i]'(by rw [HNA.out]; exact hlt) = x at *
        generalize hxb : b[i]'(by rw [HNB.out]; exact hlt) = y at *
        cases hc : (x.toList == y.toList)
        · go_upto_region 6 with fail
          go_region
          all_goals go_wp2
          all_goals go_ret
          all_goals exact ⟨ret_bool (decide_eq_false (HY.out x y rfl rfl (bytes_ne hc))).symm, HD.out⟩
        · go_upto_region 6 with fail
          go_region
          all_goals go_wp2
          all_goals go_roundw
          case rel => exact ⟨i + 1, by go_num, by omega, HX.out x y rfl rfl (bl_eq hc), HD.out⟩
          case measure => simp [intOf]; omega
      · obtain rfl : i = N := by omega
        have hI : ¬ (i : Int) < (i : Int) := by omega
        have HEQ : Hid (a = b) := List.ext_getElem (by rw [HNA.out, HNB.out]) fun j h1 h2 => HE.out j h1 h2 (by rw [← HNA.out]; exact h1)
        go_wp2
        go_ret
        exact ⟨ret_bool (decide_eq_true HEQ.out).symm, HW.out⟩
  · have HNE : Hid (a ≠ b) := fun e => hlen (by rw [e])
    have n1 : ((a.length : Int) != (b.length : Int)) = true := by simp; omega
    have n2 : ¬ (a.length : Int) = (b.length : Int) := by omega
    clear hca hcb
    go_enter Tryd.func16, Tryd.ntmps16
    go_wp2
    go_ret
    exact ⟨ret_bool (decide_eq_false HNE.out).symm, Below.refl _ _⟩
end Go.Proofs.YtkpaokcgjeplpaaDoor
