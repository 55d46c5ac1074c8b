
import Derived.Test.YtkpaokcgjeplpaaDoorShA
import Derived.Test.YtkpaokcgjeplpaaDoorSyQ0
import Derived.Deep.RegionHeld3
import Derived.Deep.DeepMust
import Derived.Deep.CutBlock
namespace Go.Proofs.YtkpaokcgjeplpaaDoor
open Go.RowKit
/-! The document's own reader of rules: Block, may, Value. -/
set_option maxRecDepth 100000 in
set_option maxHeartbeats 1600000 in
theorem refblk_any (t : Tok) (a : Option Addr) (n c : Nat) (w : World) (k : List Nd) :
    Calls Tryd.prog 55 #[nval t (.slice a n c)] w fun e w' => e = .returned (.bool (blkB (.mk t k))) ∧ Below w.heap.size w w' := by
  have hb := (Below.refl w.heap.size w).alloc (Nat.le_refl _) (.cells #[.int .i64 t.kind, .string t.text, .int .i64 t.int, .bool t.whole, .bool t.sign, .bool t.id, .slice a n c] 86)
  unfold blkB
  simp only [Nd.tok]
  by_cases hk : (t.kind == 19) = true
  · by_cases hx : (t.text.toList == [123]) = true
    · go_enter Tryd.func55, Tryd.ntmps55
      go_wp2
      go_ret
      exact ⟨by rw [hk, hx]; rfl, hb⟩
    · have hx : (t.text.toList == [123]) = false := by simpa using hx
      go_enter Tryd.func55, Tryd.ntmps55
      go_wp2
      go_ret
      exact ⟨by rw [hk, hx]; rfl, hb⟩
  · have hk : (t.kind == 19) = false := by simpa using hk
    go_enter Tryd.func55, Tryd.ntmps55
    go_wp2
    go_ret
    exact ⟨by rw [hk]; rfl, hb⟩
theorem refblk_is {t : Tok} {x : Bool} {k : List Nd} (hx : blkB (.mk t k) = x) (a : Option Addr) (n c : Nat) (w : World) :
    Calls Tryd.prog 55 #[nval t (.slice a n c)] w fun e w' => e = .returned (.bool x) ∧ Below w.heap.size w w' := by
  rw [← hx]
  exact refblk_any t a n c w k
theorem bad_cases (t : Tok) (k : List Nd) :
    (badN (.mk t k) = true ∧ (t.kind == 6) = true) ∨
    (badN (.mk t k) = true ∧ (t.kind == 6) = false ∧ (t.kind == 8) = true) ∨
    (badN (.mk t k) = true ∧ (t.kind == 6) = false ∧ (t.kind == 8) = false ∧ (t.kind == 20) = true) ∨
    (badN (.mk t k) = true ∧ (t.kind == 6) = false ∧ (t.kind == 8) = false ∧ (t.kind == 20) = false ∧ (t.kind == 9) = true ∧ (t.text.toList == [33]) = true) ∨
    (badN (.mk t k) = false ∧ (t.kind == 6) = false ∧ (t.kind == 8) = false ∧ (t.kind == 20) = false ∧ (t.kind == 9) = true ∧ (t.text.toList == [33]) = false) ∨
    (badN (.mk t k) = false ∧ (t.kind == 6) = false ∧ (t.kind == 8) = false ∧ (t.kind == 20) = false ∧ (t.kind == 9) = false) := by
  unfold badN bangB
  simp only [Nd.tok]
  cases (t.kind == 6) <;> cases (t.kind == 8) <;> cases (t.kind == 20) <;> cases (t.kind == 9) <;> cases (t.text.toList == [33]) <;> simp
theorem mayV_no {l : List Nd} (h : l.any badN = true) : false = mayV l := by unfold mayV; rw [h]; rfl
theorem mayV_yes {l : List Nd} (h : l.any badN = false) : decide (0 < l.length) = mayV l := by unfold mayV; rw [h]; rfl
set_option maxRecDepth 100000 in
set_option maxHeartbeats 3200000 in
theorem refmay_any {l : List Nd} {v : Value} {w : World} {P : Nat → Prop} (h : RdN w P v l) (hl : szL l ≤ 100000000) :
    Calls Tryd.prog 58 #[v] w fun e w' => e = .returned (.bool (mayV l)) ∧ Below w.heap.size w w' := by
  have hll := szL_ge l
  have HH := Lib.hid h
  obtain ⟨a, c, rfl, hlc⟩ := h.shape
  obtain ⟨N, hN⟩ : ∃ N, l.length = N := ⟨_, rfl⟩
  rw [hN] at hll hlc ⊢
  have HN := Lib.hid hN
  clear h hN
  go_enter Tryd.func58, Tryd.ntmps58
  go_wp2
  go_loopw [3] (fun iv wr => ∃ i : Nat, iv = .int .i64 i ∧ i ≤ N ∧ (l.drop i).any badN = l.any badN ∧ Below w.heap.size w wr) (fun iv _ => N - (intOf iv).toNat)
  case atStart => exact ⟨0, rfl, Nat.zero_le _, rfl, Below.refl _ _⟩
  case round =>
    obtain ⟨i, rfl, hiN, hix, hB⟩ := hrel
    have HB := Lib.hid hB
    have HX := Lib.hid hix
    clear hB hix
    by_cases hlt : i < N
    · have hr := HH.out.under HB.out (Nat.le_refl _)
      obtain ⟨b, off, c2, hv2, _, _, hbl, g1⟩ := hr.base (by rw [HN.out]; omega)
      rw [HN.out] at hv2
      injection hv2 with e1 _ e3
      subst e1 e3
      obtain ⟨u, hat, hku⟩ := g1 i (by rw [HN.out]; exact hlt)
      have hdr : l.drop i = l[i]'(by rw [HN.out]; exact hlt) :: l.drop (i + 1) := List.drop_eq_getElem_cons (by rw [HN.out]; exact hlt)
      generalize l[i]'(by rw [HN.out]; exact hlt) = nd at *
      obtain ⟨t, k⟩ := nd
      simp only [Nd.tok] at hat
      obtain ⟨c0, c1, c2', c3, c4, c5, c6⟩ := hat
      have HD := Lib.hid hdr
      have hx0 : (0 : Int) ≤ (i : Int) := by omega
      have hx1 : (i : Int) < (N : Int) := by omega
      clear hdr hku g1 hr c6
      have HA := Lib.hid (HB.out.alloc HB.out.size (.cells #[.int .i64 t.kind, .string t.text, .int .i64 t.int, .bool t.whole, .bool t.sign, .bool t.id] 84))
      have hcs := bad_cases t k
      rcases hcs with ⟨hb, k6⟩ | ⟨hb, k6, k8⟩ | ⟨hb, k6, k8, k20⟩ | ⟨hb, k6, k8, k20, k9, kx⟩ | ⟨hb, k6, k8, k20, k9, kx⟩ | ⟨hb, k6, k8, k20, k9⟩
      · have HM := Lib.hid (show false = mayV l from mayV_no (by rw [← HX.out, HD.out, List.any_cons, hb]; rfl))
        clear hb
        go_wp2
        go_ret
        exact ⟨by rw [← HM.out]; rfl, HA.out⟩
      · have HM := Lib.hid (show false = mayV l from mayV_no (by rw [← HX.out, HD.out, List.any_cons, hb]; rfl))
        clear hb
        go_wp2
        go_ret
        exact ⟨by rw [← HM.out]; rfl, HA.out⟩
      · have HM := Lib.hid (show false = mayV l from mayV_no (by rw [← HX.out, HD.out, List.any_cons, hb]; rfl))
        clear hb
        go_wp2
        go_ret
        exact ⟨by rw [← HM.out]; rfl, HA.out⟩
      · have HM := Lib.hid (show false = mayV l from mayV_no (by rw [← HX.out, HD.out, List.any_cons, hb]; rfl))
        clear hb
        go_wp2
        go_ret
        exact ⟨by rw [← HM.out]; rfl, HA.out⟩
      all_goals
        have HM := Lib.hid (show (l.drop (i + 1)).any badN = l.any badN by have h := HX.out; rw [HD.out, List.any_cons, hb, Bool.false_or] at h; exact h)
        clear hb
        go_wp2
        go_roundw
        case rel => exact ⟨i + 1, by go_num, by omega, HM.out, HA.out⟩
        case measure => simp [intOf]; omega
    · have hiN2 : i = N := by omega
      subst hiN2
      have HM := Lib.hid (show decide (0 < i) = mayV l by
        have h := HX.out
        rw [show l.drop i = [] from List.drop_eq_nil_of_le (by rw [HN.out]; omega)] at h
        rw [← mayV_yes h.symm, HN.out])
      by_cases h0 : 0 < i
      · have h0I : (0 : Int) < (i : Int) := by omega
        go_wp2
        go_ret
        exact ⟨by rw [← HM.out, decide_eq_true h0]; rfl, HB.out⟩
      · have h0I : ¬ (0 : Int) < (i : Int) := by omega
        have h0d : decide ((0 : Int) < (i : Int)) = false := decide_eq_false h0I
        go_wp2
        go_ret
        exact ⟨by rw [← HM.out, decide_eq_false h0]; rfl, HB.out⟩
theorem atS_mem : ∀ (l : List Nd) (i : Nat), ∀ x ∈ atS l i, (i : Int) ≤ x ∧ x < (i : Int) + l.length
  | [], _, x, h => by simp [atS] at h
  | n :: l, i, x, h => by
    rw [atS] at h
    split at h
    · have := atS_mem l (i + 1) x h
      rw [List.length_cons]
      omega
    · rcases List.mem_cons.1 h with h | h
      · rw [List.length_cons]
        omega
      · have := atS_mem l (i + 1) x h
        rw [List.length_cons]
        omega
theorem nth_in {l : List Int} {j : Nat} (h : j < l.length) : nth l j ∈ l := by
  unfold nth
  rw [List.getD_eq_getElem?_getD, List.getElem?_eq_getElem h]
  exact List.getElem_mem h
theorem tokAt_nat (l : List Nd) {I : Nat} (h : I < l.length) : tokAt l (I : Int) = (l[I]).tok := by
  unfold tokAt
  rw [Int.toNat_natCast, List.getD_eq_getElem?_getD, List.getElem?_eq_getElem h]
  rfl
theorem imp_cases (t u : Tok) :
    ((bangB t && impB u) = false ∧ (t.kind == 9) = false) ∨
    ((bangB t && impB u) = false ∧ (t.kind == 9) = true ∧ (t.text.toList == [33]) = false) ∨
    ((bangB t && impB u) = false ∧ (t.kind == 9) = true ∧ (t.text.toList == [33]) = true ∧ (u.kind == 1) = false) ∨
    ((bangB t && impB u) = false ∧ (t.kind == 9) = true ∧ (t.text.toList == [33]) = true ∧ (u.kind == 1) = true ∧ ((lowS u.text).toList == [105, 109, 112, 111, 114, 116, 97, 110, 116]) = false) ∨
    ((bangB t && impB u) = true ∧ (t.kind == 9) = true ∧ (t.text.toList == [33]) = true ∧ (u.kind == 1) = true ∧ ((lowS u.text).toList == [105, 109, 112, 111, 114, 116, 97, 110, 116]) = true) := by
  unfold bangB impB
  cases (t.kind == 9) <;> cases (t.text.toList == [33]) <;> cases (u.kind == 1) <;> cases ((lowS u.text).toList == [105, 109, 112, 111, 114, 116, 97, 110, 116]) <;> simp
/-- What Value answers: in the same memory. -/
def ValuePost (w : World) (P : Nat → Prop) (r : List Nd × Bool) (e : Ending) (w' : World) : Prop := (∃ v', e = .returned (.tuple #[v', .bool r.2]) ∧ RdN w' P v' r.1) ∧ Below w.heap.size w w'
/-- A token in a variable. -/
def TB (w : World) (b : Nat) (t : Tok) : Prop := w.heap[b]? = some (.cells #[.int .i64 t.kind, .string t.text, .int .i64 t.int, .bool t.whole, .bool t.sign, .bool t.id] 84 (0, 0))
theorem TB.lt {w : World} {b : Nat} {t : Tok} (h : TB w b t) : b < w.heap.size := (Array.getElem?_eq_some_iff.1 h).1
theorem TB.at {w : World} {b : Nat} {t : Tok} (h : TB w b t) : w.cell? ⟨b, 0, none⟩ = some (.int .i64 t.kind) ∧ w.cell? ⟨b, 1, none⟩ = some (.string t.text) :=
  ⟨cell_of_row w b 0 _ _ (0, 0) h, cell_of_row w b 1 _ _ (0, 0) h⟩
theorem TB.new (w : World) (t : Tok) : TB (w.alloc (.cells #[.int .i64 t.kind, .string t.text, .int .i64 t.int, .bool t.whole, .bool t.sign, .bool t.id] 84)) w.heap.size t := heap_alloc_self _ _
theorem TB.below {B : Nat} {w w' : World} {b : Nat} {t : Tok} (h : TB w b t) (hb : Below B w w') (hB : b < B) : TB w' b t := (hb.block b hB).trans h
theorem TB.alloc {w : World} {b : Nat} {t : Tok} (h : TB w b t) (o : Obj) : TB (w.alloc o) b t := (Below.heap_alloc w o b h.lt).trans h
theorem TB.drew {w : World} {b : Nat} {t : Tok} (h : TB w b t) : TB w.drew b t := h
theorem two_tb (w : World) (t u : Tok) : TB ((w.alloc (.cells #[.int .i64 t.kind, .string t.text, .int .i64 t.int, .bool t.whole, .bool t.sign, .bool t.id] 84)).alloc (.cells #[.int .i64 u.kind, .string u.text, .int .i64 u.int, .bool u.whole, .bool u.sign, .bool u.id] 84)).drew w.heap.size t ∧ TB ((w.alloc (.cells #[.int .i64 t.kind, .string t.text, .int .i64 t.int, .bool t.whole, .bool t.sign, .bool t.id] 84)).alloc (.cells #[.int .i64 u.kind, .string u.text, .int .i64 u.int, .bool u.whole, .bool u.sign, .bool u.id] 84)).drew (w.heap.size + 1) u := by
  refine ⟨((TB.new w t).alloc _).drew, ?_⟩
  have h := TB.new (w.alloc (.cells #[.int .i64 t.kind, .string t.text, .int .i64 t.int, .bool t.whole, .bool t.sign, .bool t.id] 84)) u
  rw [show (w.alloc (.cells #[.int .i64 t.kind, .string t.text, .int .i64 t.int, .bool t.whole, .bool t.sign, .bool t.id] 84)).heap.size = w.heap.size + 1 by simp] at h
  exact h.drew
end Go.Proofs.YtkpaokcgjeplpaaDoor
