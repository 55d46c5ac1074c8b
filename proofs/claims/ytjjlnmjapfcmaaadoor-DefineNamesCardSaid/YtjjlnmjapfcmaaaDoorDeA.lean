
import Derived.Test.YtjjlnmjapfcmaaaDoorShE
namespace Go.Proofs.YtjjlnmjapfcmaaaDoor
open Go.RowKit
/-! Package define: what one node says. -/
def symS (t : Tok) : ByteArray × Bool := if ((t.kind == 5) || (t.kind == 1)) = true then (t.text, true) else (⟨#[]⟩, false)
def wordS (t : Tok) : ByteArray := if (t.kind == 1) = true then lowS t.text else ⟨#[]⟩
def numS (t : Tok) : Int × Bool := if ((t.kind == 10) && t.whole) = true then (t.int, true) else (0, false)
abbrev infL : List UInt8 := [105, 110, 102, 105, 110, 105, 116, 101]
def bouS (t : Tok) (far : Int) : Int × Bool := if ((wordS t).toList == infL) = true then (far, true) else numS t
abbrev nodeC (t : Tok) (u : Value) : Array Value := #[.int .i64 t.kind, .string t.text, .int .i64 t.int, .bool t.whole, .bool t.sign, .bool t.id, u]
theorem box_bel (w : World) (t : Tok) (u : Value) : Below w.heap.size w (w.alloc (.cells (nodeC t u) 50)) := (Below.refl w.heap.size w).alloc (Nat.le_refl _) _
set_option maxRecDepth 100000 in
set_option maxHeartbeats 1600000 in
theorem symbol_any (t : Tok) (a : Option Addr) (n c : Nat) (w : World) :
    Calls Tryd.prog 17 #[nval t (.slice a n c)] w fun e w' => e = .returned (.tuple #[.string (symS t).1, .bool (symS t).2]) ∧ Below w.heap.size w w' := by
  have hb := box_bel w t (.slice a n c)
  by_cases h5 : (t.kind == 5) = true
  · have HS : Hid (symS t = (t.text, true)) := if_pos (by rw [h5]; rfl)
    go_enter Tryd.func17, Tryd.ntmps17
    go_wp2
    refine bodyPost_ret (v := .tuple #[.string t.text, .bool true]) (by simp [results, Tryd.results17, go_sem]) rfl ⟨?_, hb⟩
    rw [HS.out]
  have h5 : (t.kind == 5) = false := by simpa using h5
  by_cases h1 : (t.kind == 1) = true
  · have HS : Hid (symS t = (t.text, true)) := if_pos (by rw [h1, Bool.or_true])
    go_enter Tryd.func17, Tryd.ntmps17
    go_wp2
    refine bodyPost_ret (v := .tuple #[.string t.text, .bool true]) (by simp [results, Tryd.results17, go_sem]) rfl ⟨?_, hb⟩
    rw [HS.out]
  have h1 : (t.kind == 1) = false := by simpa using h1
  have HS : Hid (symS t = (⟨#[]⟩, false)) := if_neg (by rw [h5, h1]; decide)
  go_enter Tryd.func17, Tryd.ntmps17
  go_wp2
  refine bodyPost_ret (v := .tuple #[.string ⟨#[]⟩, .bool false]) (by simp [results, Tryd.results17, go_sem]) rfl ⟨?_, hb⟩
  rw [HS.out]
set_option maxRecDepth 100000 in
set_option maxHeartbeats 1600000 in
theorem word_any (t : Tok) (a : Option Addr) (n c : Nat) (w : World) (hx : t.text.size ≤ 1000000000) :
    Calls Tryd.prog 72 #[nval t (.slice a n c)] w fun e w' => e = .returned (.string (wordS t)) ∧ Below w.heap.size w w' := by
  have hb := box_bel w t (.slice a n c)
  by_cases h1 : (t.kind == 1) = true
  · have h1b : (t.kind != 1) = false := by rw [bne, h1]; rfl
    have HW : Hid (wordS t = lowS t.text) := if_pos h1
    go_enter Tryd.func72, Tryd.ntmps72
    go_wp2_with (go_at_call 39; (with_reducible refine (lower_any _ _ hx).mono ?_); rintro e w1 ⟨rfl, hb1⟩)
    go_ret
    exact ⟨by rw [HW.out]; rfl, below_seq hb hb1⟩
  · have h1 : (t.kind == 1) = false := by simpa using h1
    have h1b : (t.kind != 1) = true := by rw [bne, h1]; rfl
    have HW : Hid (wordS t = ⟨#[]⟩) := if_neg (by rw [h1]; decide)
    go_enter Tryd.func72, Tryd.ntmps72
    go_wp2
    go_ret
    exact ⟨by rw [HW.out]; rfl, hb⟩
set_option maxRecDepth 100000 in
set_option maxHeartbeats 1600000 in
theorem number_any (t : Tok) (a : Option Addr) (n c : Nat) (w : World) :
    Calls Tryd.prog 75 #[nval t (.slice a n c)] w fun e w' => e = .returned (.tuple #[.int .i64 (numS t).1, .bool (numS t).2]) ∧ Below w.heap.size w w' := by
  have hb := box_bel w t (.slice a n c)
  by_cases h1 : (t.kind == 10) = true
  · have h1b : (t.kind != 10) = false := by rw [bne, h1]; rfl
    by_cases hw : t.whole = true
    · have HS : Hid (numS t = (t.int, true)) := if_pos (by rw [h1, hw]; rfl)
      go_enter Tryd.func75, Tryd.ntmps75
      go_wp2
      refine bodyPost_ret (v := .tuple #[.int .i64 t.int, .bool true]) (by simp [results, Tryd.results75, go_sem]) rfl ⟨?_, (Below.refl _ _).alloc (Nat.le_refl _) _⟩
      rw [HS.out]
    · have hw : t.whole = false := by simpa using hw
      have HS : Hid (numS t = (0, false)) := if_neg (by rw [h1, hw]; decide)
      go_enter Tryd.func75, Tryd.ntmps75
      go_wp2
      refine bodyPost_ret (v := .tuple #[.int .i64 0, .bool false]) (by simp [results, Tryd.results75, go_sem]) rfl ⟨?_, (Below.refl _ _).alloc (Nat.le_refl _) _⟩
      rw [HS.out]
  · have h1 : (t.kind == 10) = false := by simpa using h1
    have h1b : (t.kind != 10) = true := by rw [bne, h1]; rfl
    have HS : Hid (numS t = (0, false)) := if_neg (by rw [h1, Bool.false_and]; decide)
    go_enter Tryd.func75, Tryd.ntmps75
    go_wp2
    refine bodyPost_ret (v := .tuple #[.int .i64 0, .bool false]) (by simp [results, Tryd.results75, go_sem]) rfl ⟨?_, hb⟩
    rw [HS.out]
set_option maxRecDepth 100000 in
set_option maxHeartbeats 1600000 in
theorem bound_any (t : Tok) (a : Option Addr) (n c : Nat) (far : Int) (w : World) (hx : t.text.size ≤ 1000000000) :
    Calls Tryd.prog 78 #[nval t (.slice a n c), .int .i64 far] w fun e w' => e = .returned (.tuple #[.int .i64 (bouS t far).1, .bool (bouS t far).2]) ∧ Below w.heap.size w w' := by
  have hb := box_bel w t (.slice a n c)
  have HBX := Lib.hid (CB.new (T := 50) w (nodeC t (.slice a n c)))
  cases hw : ((wordS t).toList == [105, 110, 102, 105, 110, 105, 116, 101])
  · have HB : Hid (bouS t far = numS t) := if_neg (by rw [hw]; decide)
    go_enter Tryd.func78, Tryd.ntmps78
    generalize hWS : wordS t = WS at *
    have HWS := Lib.hid hWS
    generalize hNS : numS t = NS at *
    have HNS := Lib.hid hNS
    go_upto_region 1 with fail
    generalize w.alloc (.cells #[.int .i64 t.kind, .string t.text, .int .i64 t.int, .bool t.whole, .bool t.sign, .bool t.id, .slice a n c] 50) = W at *
    have hc := fun o => HBX.out.cell o
    have d0 : W.cell? ⟨w.heap.size, 0, none⟩ = some (.int .i64 t.kind) := hc 0
    have d1 : W.cell? ⟨w.heap.size, 1, none⟩ = some (.string t.text) := hc 1
    have d2 : W.cell? ⟨w.heap.size, 2, none⟩ = some (.int .i64 t.int) := hc 2
    have d3 : W.cell? ⟨w.heap.size, 3, none⟩ = some (.bool t.whole) := hc 3
    have d4 : W.cell? ⟨w.heap.size, 4, none⟩ = some (.bool t.sign) := hc 4
    have d5 : W.cell? ⟨w.heap.size, 5, none⟩ = some (.bool t.id) := hc 5
    have d6 : W.cell? ⟨w.heap.size, 6, none⟩ = some (.slice a n c) := hc 6
    clear hc
    go_wp2_with (first | (go_at_call 72; (with_reducible refine (word_any _ _ _ _ _ hx).mono ?_); rintro e w1 ⟨rfl, hb1⟩; rw [HWS.out]; have HB1 := HBX.out.below hb1 HBX.out.lt; have hc := fun o => HB1.cell o; have e0 : w1.cell? ⟨w.heap.size, 0, none⟩ = some (.int .i64 t.kind) := hc 0; have e1 : w1.cell? ⟨w.heap.size, 1, none⟩ = some (.string t.text) := hc 1; have e2 : w1.cell? ⟨w.heap.size, 2, none⟩ = some (.int .i64 t.int) := hc 2; have e3 : w1.cell? ⟨w.heap.size, 3, none⟩ = some (.bool t.whole) := hc 3; have e4 : w1.cell? ⟨w.heap.size, 4, none⟩ = some (.bool t.sign) := hc 4; have e5 : w1.cell? ⟨w.heap.size, 5, none⟩ = some (.bool t.id) := hc 5; have e6 : w1.cell? ⟨w.heap.size, 6, none⟩ = some (.slice a n c) := hc 6) | (go_at_call 75; (with_reducible refine (number_any _ _ _ _ _).mono ?_); rintro e w2 ⟨rfl, hb2⟩; rw [HNS.out]))
    refine bodyPost_ret (v := .tuple #[.int .i64 NS.1, .bool NS.2]) (by simp [results, Tryd.results78, go_sem]) rfl ⟨?_, below_seq (below_seq hb hb1) hb2⟩
    rw [HB.out]
  · have HB : Hid (bouS t far = (far, true)) := if_pos hw
    go_enter Tryd.func78, Tryd.ntmps78
    generalize hWS : wordS t = WS at *
    have HWS := Lib.hid hWS
    go_upto_region 1 with fail
    generalize w.alloc (.cells #[.int .i64 t.kind, .string t.text, .int .i64 t.int, .bool t.whole, .bool t.sign, .bool t.id, .slice a n c] 50) = W at *
    have hc := fun o => HBX.out.cell o
    have d0 : W.cell? ⟨w.heap.size, 0, none⟩ = some (.int .i64 t.kind) := hc 0
    have d1 : W.cell? ⟨w.heap.size, 1, none⟩ = some (.string t.text) := hc 1
    have d2 : W.cell? ⟨w.heap.size, 2, none⟩ = some (.int .i64 t.int) := hc 2
    have d3 : W.cell? ⟨w.heap.size, 3, none⟩ = some (.bool t.whole) := hc 3
    have d4 : W.cell? ⟨w.heap.size, 4, none⟩ = some (.bool t.sign) := hc 4
    have d5 : W.cell? ⟨w.heap.size, 5, none⟩ = some (.bool t.id) := hc 5
    have d6 : W.cell? ⟨w.heap.size, 6, none⟩ = some (.slice a n c) := hc 6
    clear hc
    go_wp2_with (go_at_call 72; (with_reducible refine (word_any _ _ _ _ _ hx).mono ?_); rintro e w1 ⟨rfl, hb1⟩; rw [HWS.out])
    refine bodyPost_ret (v := .tuple #[.int .i64 far, .bool true]) (by simp [results, Tryd.results78, go_sem]) rfl ⟨?_, below_seq hb hb1⟩
    rw [HB.out]
end Go.Proofs.YtjjlnmjapfcmaaaDoor
