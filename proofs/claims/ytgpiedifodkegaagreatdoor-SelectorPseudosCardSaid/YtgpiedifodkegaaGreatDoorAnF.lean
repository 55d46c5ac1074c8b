import Derived.Test.YtgpiedifodkegaaGreatDoorAnD
import Derived.Test.YtgpiedifodkegaaGreatDoorTrK
import Derived.Shelf.Unicode.PredsPay
import Derived.Lib.AppendIntMem
import Derived.Lib.ItoaLen
import Derived.KernelRfl
set_option maxRecDepth 100000
set_option maxHeartbeats 1600000
namespace Go.Proofs.YtgpiedifodkegaaGreatDoor
open Go.RowKit Go.Shelf
end Go.Proofs.YtgpiedifodkegaaGreatDoor
namespace Go.Proofs.YtgpiedifodkegaaGreatDoor
open Go.RowKit Go.Shelf
def Tab (w : World) : Prop := Lib.TabIs Tryz.prog w "internal/strconv.uint64pow10" .u64 Lib.pow10Tab
theorem Tab.below {w w' : World} (h : Tab w) (hb : Below w.heap.size w w') : Tab w' := TabIs_below (g := 2) (by kernel_rfl) h hb
def itB (n : Int) : ByteArray := ⟨(Lib.itoa n).toArray⟩
theorem itB_size (n : Int) (h : -9223372036854775808 ≤ n ∧ n ≤ 9223372036854775807) : (itB n).size ≤ 21 := by
 show ((Lib.itoa n).toArray).size ≤ 21
 rw [List.size_toArray]
 exact Lib.itoa_length_le n h.1 h.2
theorem itoa_any (n : Int) (w : World) (h : -9223372036854775808 ≤ n ∧ n ≤ 9223372036854775807) (ht : Tab w) :
    Calls Tryz.prog 79 #[.int .i64 n] w fun e w' => e = .returned (.string (itB n)) ∧ Below w.heap.size w w' :=
  (Tryz.strconv_Itoa n h.1 h.2 w ht).mono fun _ _ ⟨he, k, os, hw⟩ => ⟨he, by rw [hw]; exact Lib.below_grow _ _ (Nat.le_refl _) _ _⟩
def textS (a b : Int) : ByteArray := if a = 0 then itB b else if b = 0 then itB a ++ ⟨#[110]⟩ else if 0 < b then itB a ++ ⟨#[110, 43]⟩ ++ itB b else itB a ++ ⟨#[110]⟩ ++ itB b
theorem text_any (a b : Int) (w : World) (ha : -9223372036854775808 ≤ a ∧ a ≤ 9223372036854775807) (hb : -9223372036854775808 ≤ b ∧ b ≤ 9223372036854775807) (ht : Tab w) :
    Calls Tryz.prog 60 #[.int .i64 a, .int .i64 b] w fun e w' => e = .returned (.string (textS a b)) ∧ Below w.heap.size w w' := by
  have hza := itB_size a ha
  have hzb := itB_size b hb
  have HT := Lib.hid ht
  have HA := Lib.hid ha
  have HB := Lib.hid hb
  clear ht ha hb
  by_cases h0 : a = 0
  · have e : textS a b = itB b := by unfold textS; rw [if_pos h0]
    rw [e]
    clear e
    subst h0
    go_enter Tryz.func60, Tryz.ntmps60
    go_wp2_with (go_at_call 79; refine (itoa_any b _ HB.out HT.out).mono ?_; rintro e w1 ⟨rfl, hb1⟩)
    go_ret
    exact ⟨rfl, hb1⟩
  have h0' : (a == 0) = false := by simpa using h0
  by_cases h1 : b = 0
  · have e : textS a b = itB a ++ ⟨#[110]⟩ := by unfold textS; rw [if_neg h0, if_pos h1]
    rw [e]
    clear e
    subst h1
    go_enter Tryz.func60, Tryz.ntmps60
    go_wp2_with (go_at_call 79; refine (itoa_any a _ HA.out HT.out).mono ?_; rintro e w1 ⟨rfl, hb1⟩)
    go_ret
    exact ⟨rfl, hb1⟩
  have h1' : (b == 0) = false := by simpa using h1
  by_cases h2 : 0 < b
  · have e : textS a b = itB a ++ ⟨#[110, 43]⟩ ++ itB b := by unfold textS; rw [if_neg h0, if_neg h1, if_pos h2]
    rw [e]
    clear e h0 h1
    go_enter Tryz.func60, Tryz.ntmps60
    go_wp2_with fail
    refine (itoa_any a _ HA.out HT.out).mono ?_
    rintro e w1 ⟨rfl, hb1⟩
    have HT1 := Lib.hid (HT.out.below hb1)
    go_wp2_with (go_at_call 79; refine (itoa_any b _ HB.out HT1.out).mono ?_; rintro e w2 ⟨rfl, hb2⟩)
    go_ret
    exact ⟨rfl, below_seq hb1 hb2⟩
  · have e : textS a b = itB a ++ ⟨#[110]⟩ ++ itB b := by unfold textS; rw [if_neg h0, if_neg h1, if_neg h2]
    rw [e]
    clear e h0 h1
    go_enter Tryz.func60, Tryz.ntmps60
    go_wp2_with fail
    refine (itoa_any a _ HA.out HT.out).mono ?_
    rintro e w1 ⟨rfl, hb1⟩
    have HT1 := Lib.hid (HT.out.below hb1)
    go_wp2_with (go_at_call 79; refine (itoa_any b _ HB.out HT1.out).mono ?_; rintro e w2 ⟨rfl, hb2⟩)
    go_ret
    exact ⟨rfl, below_seq hb1 hb2⟩
end Go.Proofs.YtgpiedifodkegaaGreatDoor
namespace Go.Proofs.YtgpiedifodkegaaGreatDoor
open Go.RowKit Go.Shelf
end Go.Proofs.YtgpiedifodkegaaGreatDoor
