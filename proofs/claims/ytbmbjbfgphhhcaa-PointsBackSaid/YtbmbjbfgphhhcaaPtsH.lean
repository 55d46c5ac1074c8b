import Derived.Test.YtbmbjbfgphhhcaaPtsG
import Derived.Lib.SlBytesConst
namespace Go.Proofs.Ytbmbjbfgphhhcaa
open Go.RowKit

/-- One step behind another. -/
theorem below_seq {w a b : World} (h : Below w.heap.size w a) (k : Below a.heap.size a b) : Below w.heap.size w b := h.trans (k.mono h.size)

theorem heap_alloc_self (w : World) (o : Obj) : (w.alloc o).heap[w.heap.size]? = some o := by
  show (w.heap.push o)[w.heap.size]? = _
  simp

/-- A slice that has been written out. -/
theorem Rd.lit (w : World) (k : IntKind) (xs : List Int) (C : Array Value) (t : TypeId) (fr : Nat × Nat) (n : Nat) (hC : C = (xs.map (Value.int k)).toArray) (hn : n = xs.length) :
    Rd k (w.alloc (.cells C t fr)) (.slice (some ⟨w.heap.size, 0, none⟩) n n) xs := by
  subst hC hn
  refine ⟨_, _, rfl, Nat.le_refl _, fun _ => ⟨w.heap.size, 0, rfl, by simp, fun j hj => ?_⟩⟩
  rw [Nat.zero_add]
  unfold World.cell?
  rw [heap_alloc_self]
  simp [nth, hj]

theorem awake_read : readS (strOfNums [97, 13, 10, 98, 0, 255]) = [97, 10, 98, 65533, 65533] := by decide +kernel
theorem awake_put : Utf8.encode 8226 = ⟨#[226, 128, 162]⟩ := by decide +kernel
theorem awake_low : lowS ⟨#[65, 98, 195, 132]⟩ = ⟨#[97, 98, 195, 132]⟩ := by decide +kernel

set_option maxHeartbeats 800000 in
theorem awake_any (w : World) :
    Calls Try.prog 8 #[] w fun e w' => e = .returned (.bool true) ∧ Below w.heap.size w w' := by
  have h1 : sHex 70 = 15 := by decide
  have h2 : sHexOk 70 = true := by decide
  have h3 : sHexOk 103 = false := by decide
  have h4 : sLetter 95 = true := by decide
  have h5 : sLetter 45 = false := by decide
  have h6 : sName 45 = true := by decide
  have h7 : sDigit 55 = true := by decide
  have h8 : sWhite 9 = true := by decide
  have h9 : sWhite 13 = false := by decide
  have hd : decide (readS (strOfNums [97, 13, 10, 98, 0, 255]) = [97, 10, 98, 65533, 65533]) = true := by rw [awake_read]; rfl
  have hp := awake_put
  have hl := awake_low
  have kc := fun (w : World) (C : Array Value) (n c : Nat) => Lib.run_convert_bytes_const (P := Try.prog) w 22 5 C n c Try.underlying22 Try.underlying5
  have hrd := Rd.lit w .u8 [97, 13, 10, 98, 0, 255] #[.int .u8 97, .int .u8 13, .int .u8 10, .int .u8 98, .int .u8 0, .int .u8 255] 5 (6, 7) 6 rfl rfl
  go_enter Try.func8, Try.ntmps8
  go_wp2_with (first | (go_at_call 9; refine (hex_any _ _).mono ?_; rintro e w' ⟨rfl, rfl⟩)
                      | (go_at_call 12; refine (read_any [97, 13, 10, 98, 0, 255] _ _ hrd (by simp)).mono ?_; rintro e w1 ⟨⟨v1, rfl, hr1⟩, hb1⟩)
                      | (go_at_call 11; refine (same_any _ [97, 10, 98, 65533, 65533] _ _ _ (hr1.below ((Below.refl _ _).alloc (Nat.le_refl _) _)) (Rd.lit w1 .i32 [97, 10, 98, 65533, 65533] _ _ _ 5 rfl rfl) (by rw [awake_read]; simp)).mono ?_; rintro e w2 ⟨rfl, n2, rfl⟩)
                      | (go_at_call 14; refine (put_any _ _).mono ?_; rintro e w' ⟨rfl, rfl⟩)
                      | (go_at_call 16; refine (letter_any _ _).mono ?_; rintro e w' ⟨rfl, rfl⟩)
                      | (go_at_call 20; refine (name_any _ _).mono ?_; rintro e w' ⟨rfl, rfl⟩)
                      | (go_at_call 18; refine (digit_any _ _).mono ?_; rintro e w' ⟨rfl, rfl⟩)
                      | (go_at_call 22; refine (white_any _ _).mono ?_; rintro e w' ⟨rfl, rfl⟩)
                      | (go_at_call 24; refine (lower_any _ _ (by decide)).mono ?_; rintro e w3 ⟨rfl, hb3⟩))
  go_ret
  have a2 := below_seq ((Below.refl w.heap.size w).alloc (Nat.le_refl _) _) hb1
  refine ⟨rfl, below_seq ?_ hb3⟩
  exact below_drewN (a2.alloc a2.size _) n2
end Go.Proofs.Ytbmbjbfgphhhcaa
