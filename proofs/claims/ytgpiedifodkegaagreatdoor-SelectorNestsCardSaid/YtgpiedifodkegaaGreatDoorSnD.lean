/- SelectorNests holds of every argument, where package selector's two tables of words and the library's tables of decimals hold what the program's own text lays in them (the card ties that): the call returns true, and each argument reads behind it as it did before. -/
import Derived.Test.YtgpiedifodkegaaGreatDoorSnA
import Derived.Test.YtgpiedifodkegaaGreatDoorTie
import Derived.Test.YtgpiedifodkegaaGreatDoorCards
import Derived.SevenTiedAt
import Derived.LaidMore
import Derived.MakeChecks
import Derived.Lay
import Derived.Lib.LaidU8
import Derived.Stop.Joined
set_option maxRecDepth 100000
set_option maxHeartbeats 3200000
namespace Go.Proofs.YtgpiedifodkegaaGreatDoor
open Go.RowKit
def nestT (f : ByteArray) : Nat → ByteArray
  | 0 => ⟨#[97]⟩
  | n + 1 => f ++ nestT f n ++ ⟨#[41]⟩
def nestOk (f : ByteArray) (n : Nat) (b : Bool) : Bool := (selS parseS (ndsS (toks (readS (nestT f n))))).isSome == b
theorem nestT_size (f : ByteArray) (h : f.size ≤ 20) : ∀ n, (nestT f n).size ≤ 1 + 21 * n
  | 0 => Nat.le_refl _
  | n + 1 => by
   have := nestT_size f h n
   rw [nestT, sz_app, sz_app]
   have : (⟨#[41]⟩ : ByteArray).size = 1 := rfl
   omega
theorem nests_all : ((List.range 11).all fun n => nestOk ⟨#[58, 110, 111, 116, 40]⟩ n (decide (n ≤ 4)) && nestOk ⟨#[58, 105, 115, 40]⟩ n true && nestOk ⟨#[58, 119, 104, 101, 114, 101, 40]⟩ n true && nestOk ⟨#[58, 110, 116, 104, 45, 99, 104, 105, 108, 100, 40, 110, 32, 111, 102, 32]⟩ n (decide (n ≤ 4))) = true := by decide +kernel
theorem nests_at {n : Nat} (h : n ≤ 10) : nestOk ⟨#[58, 110, 111, 116, 40]⟩ n (decide (n ≤ 4)) = true ∧ nestOk ⟨#[58, 105, 115, 40]⟩ n true = true ∧ nestOk ⟨#[58, 119, 104, 101, 114, 101, 40]⟩ n true = true ∧ nestOk ⟨#[58, 110, 116, 104, 45, 99, 104, 105, 108, 100, 40, 110, 32, 111, 102, 32]⟩ n (decide (n ≤ 4)) = true := by
 have := List.all_eq_true.1 nests_all n (by simp; omega)
 simp only [Bool.and_eq_true] at this
 exact ⟨this.1.1.1, this.1.1.2, this.1.2, this.2⟩
theorem nests_0 (w : World) (n : Nat) (k : Int) (hl : TabL w) (ht : Tab w) (hn : n ≤ 10) (hk : k % 4 = 0) (hd : ¬ 4 < n) :
    Calls Tryz.prog 5 #[.int .i64 n, .int .i64 k] w fun e w' => e = .returned (.bool true) ∧ Below w.heap.size w w' := by
  have HL := Lib.hid hl
  have HT := Lib.hid ht
  have HK := Lib.hid hk
  have HS := Lib.hid (nestT_size ⟨#[58, 110, 111, 116, 40]⟩ (by decide))
  have hr : (selS parseS (ndsS (toks (readS (nestT ⟨#[58, 110, 111, 116, 40]⟩ n))))).isSome = true := by
   have h := (nests_at hn).1
   unfold nestOk at h
   rw [beq_iff_eq] at h
   rw [h]
   exact decide_eq_true (by omega)
  obtain ⟨r, hr2⟩ : ∃ r, selS parseS (ndsS (toks (readS (nestT ⟨#[58, 110, 111, 116, 40]⟩ n)))) = r := ⟨_, rfl⟩
  rw [hr2] at hr
  have HR := Lib.hid hr
  have HR2 := Lib.hid hr2
  have hnI0 : ¬ (n : Int) < 0 := by omega
  have hnI1 : ¬ (10 : Int) < (n : Int) := by omega
  have hdI : ¬ (4 : Int) < (n : Int) := by omega
  clear hl ht hk hr hr2 hd
  go_enter Tryz.func5, Tryz.ntmps5
  go_wp2_with (go_at_call 16; (with_reducible refine (round_any k 4 0 _ (by decide) (by decide) HK.out).mono ?_); rintro e w' ⟨rfl, rfl⟩)
  have HB0 := Lib.hid (bel_newS w (.cells #[.string ⟨#[58, 110, 111, 116, 40]⟩, .string ⟨#[58, 105, 115, 40]⟩, .string ⟨#[58, 119, 104, 101, 114, 101, 40]⟩, .string ⟨#[58, 110, 116, 104, 45, 99, 104, 105, 108, 100, 40, 110, 32, 111, 102, 32]⟩] 9))
  generalize w.alloc _ = W0 at *
  go_loopw [6, 7] (fun sv iv wr => ∃ i : Nat, iv = .int .i64 i ∧ sv = .string (nestT ⟨#[58, 110, 111, 116, 40]⟩ i) ∧ i ≤ n ∧ Below w.heap.size w wr) (fun _ iv _ => n - (intOf iv).toNat)
  case atStart => exact ⟨0, rfl, rfl, Nat.zero_le _, HB0.out⟩
  case round =>
   obtain ⟨i, rfl, rfl, hin, hB⟩ := hrel
   have HB := Lib.hid hB
   clear hB
   by_cases hlt : i < n
   · have hltI : (i : Int) < (n : Int) := by omega
     have hs := HS.out i
     have c1 := cat_ok ⟨#[58, 110, 111, 116, 40]⟩ (nestT ⟨#[58, 110, 111, 116, 40]⟩ i) (by have : (⟨#[58, 110, 111, 116, 40]⟩ : ByteArray).size = 5 := rfl; omega)
     have c2 := cat_ok (⟨#[58, 110, 111, 116, 40]⟩ ++ nestT ⟨#[58, 110, 111, 116, 40]⟩ i) ⟨#[41]⟩ (by rw [sz_app]; have : (⟨#[58, 110, 111, 116, 40]⟩ : ByteArray).size = 5 := rfl; have : (⟨#[41]⟩ : ByteArray).size = 1 := rfl; omega)
     rw [show ⟨#[58, 110, 111, 116, 40]⟩ ++ nestT ⟨#[58, 110, 111, 116, 40]⟩ i ++ ⟨#[41]⟩ = nestT ⟨#[58, 110, 111, 116, 40]⟩ (i + 1) from rfl] at c2
     have hwi := wrap_succ1 (i := i) (by omega)
     clear hs
     go_wp2
     go_roundw
     case rel => exact ⟨i + 1, by first | rfl | exact congrArg (Value.int .i64) hwi, rfl, hlt, HB.out⟩
     case measure => first | (rw [hwi]; exact meas_succ hlt) | exact meas_succ hlt
   · obtain rfl : i = n := by omega
     have hltI : ¬ (i : Int) < (i : Int) := Int.lt_irrefl _
     have hs5 : (nestT ⟨#[58, 110, 111, 116, 40]⟩ i).size ≤ 5000000 := by have := HS.out i; omega
     have HS5 := Lib.hid hs5
     obtain ⟨S, hS⟩ : ∃ S, nestT ⟨#[58, 110, 111, 116, 40]⟩ i = S := ⟨_, rfl⟩
     rw [hS] at HS5 HR2 ⊢
     clear hs5 hS
     go_wp2_with fail
     refine (nodes6_any S _ HS5.out).mono ?_
     rintro e w1 ⟨⟨v1, rfl, hv1⟩, ha1⟩
     go_wp2_with fail
     refine (parse6 S HS5.out hv1 (HL.out.below (below_seq HB.out ha1)) HR2.out).mono ?_
     rintro e w2 ⟨⟨L, u, rfl, hr1, hL⟩, hb1⟩
     obtain ⟨q1, q2, rfl, _⟩ := hr1.shape
     have HB2 := Lib.hid (below_seq (below_seq HB.out ha1) hb1)
     rw [HR.out]
     clear hv1 ha1 hb1 hr1 hL
     generalize (cxsDt L).length = m1 at *
     go_wp2_with (go_at_call 9; refine (awake6_any _ (HL.out.below HB2.out) (HT.out.below HB2.out)).mono ?_; rintro e w3 ⟨rfl, hb3⟩; have HB3 := Lib.hid (below_seq HB2.out hb3))
     go_ret
     exact ⟨rfl, HB3.out⟩
theorem nests_0d (w : World) (n : Nat) (k : Int) (hl : TabL w) (ht : Tab w) (hn : n ≤ 10) (hk : k % 4 = 0) (hd : 4 < n) :
    Calls Tryz.prog 5 #[.int .i64 n, .int .i64 k] w fun e w' => e = .returned (.bool true) ∧ Below w.heap.size w w' := by
  have HL := Lib.hid hl
  have HT := Lib.hid ht
  have HK := Lib.hid hk
  have HS := Lib.hid (nestT_size ⟨#[58, 110, 111, 116, 40]⟩ (by decide))
  have hr : (selS parseS (ndsS (toks (readS (nestT ⟨#[58, 110, 111, 116, 40]⟩ n))))).isSome = false := by
   have h := (nests_at hn).1
   unfold nestOk at h
   rw [beq_iff_eq] at h
   rw [h]
   exact decide_eq_false (by omega)
  obtain ⟨r, hr2⟩ : ∃ r, selS parseS (ndsS (toks (readS (nestT ⟨#[58, 110, 111, 116, 40]⟩ n)))) = r := ⟨_, rfl⟩
  rw [hr2] at hr
  have HR := Lib.hid hr
  have HR2 := Lib.hid hr2
  have hnI0 : ¬ (n : Int) < 0 := by omega
  have hnI1 : ¬ (10 : Int) < (n : Int) := by omega
  have hdI : (4 : Int) < (n : Int) := by omega
  clear hl ht hk hr hr2 hd
  go_enter Tryz.func5, Tryz.ntmps5
  go_wp2_with (go_at_call 16; (with_reducible refine (round_any k 4 0 _ (by decide) (by decide) HK.out).mono ?_); rintro e w' ⟨rfl, rfl⟩)
  have HB0 := Lib.hid (bel_newS w (.cells #[.string ⟨#[58, 110, 111, 116, 40]⟩, .string ⟨#[58, 105, 115, 40]⟩, .string ⟨#[58, 119, 104, 101, 114, 101, 40]⟩, .string ⟨#[58, 110, 116, 104, 45, 99, 104, 105, 108, 100, 40, 110, 32, 111, 102, 32]⟩] 9))
  generalize w.alloc _ = W0 at *
  go_loopw [6, 7] (fun sv iv wr => ∃ i : Nat, iv = .int .i64 i ∧ sv = .string (nestT ⟨#[58, 110, 111, 116, 40]⟩ i) ∧ i ≤ n ∧ Below w.heap.size w wr) (fun _ iv _ => n - (intOf iv).toNat)
  case atStart => exact ⟨0, rfl, rfl, Nat.zero_le _, HB0.out⟩
  case round =>
   obtain ⟨i, rfl, rfl, hin, hB⟩ := hrel
   have HB := Lib.hid hB
   clear hB
   by_cases hlt : i < n
   · have hltI : (i : Int) < (n : Int) := by omega
     have hs := HS.out i
     have c1 := cat_ok ⟨#[58, 110, 111, 116, 40]⟩ (nestT ⟨#[58, 110, 111, 116, 40]⟩ i) (by have : (⟨#[58, 110, 111, 116, 40]⟩ : ByteArray).size = 5 := rfl; omega)
     have c2 := cat_ok (⟨#[58, 110, 111, 116, 40]⟩ ++ nestT ⟨#[58, 110, 111, 116, 40]⟩ i) ⟨#[41]⟩ (by rw [sz_app]; have : (⟨#[58, 110, 111, 116, 40]⟩ : ByteArray).size = 5 := rfl; have : (⟨#[41]⟩ : ByteArray).size = 1 := rfl; omega)
     rw [show ⟨#[58, 110, 111, 116, 40]⟩ ++ nestT ⟨#[58, 110, 111, 116, 40]⟩ i ++ ⟨#[41]⟩ = nestT ⟨#[58, 110, 111, 116, 40]⟩ (i + 1) from rfl] at c2
     have hwi := wrap_succ1 (i := i) (by omega)
     clear hs
     go_wp2
     go_roundw
     case rel => exact ⟨i + 1, by first | rfl | exact congrArg (Value.int .i64) hwi, rfl, hlt, HB.out⟩
     case measure => first | (rw [hwi]; exact meas_succ hlt) | exact meas_succ hlt
   · obtain rfl : i = n := by omega
     have hltI : ¬ (i : Int) < (i : Int) := Int.lt_irrefl _
     have hs5 : (nestT ⟨#[58, 110, 111, 116, 40]⟩ i).size ≤ 5000000 := by have := HS.out i; omega
     have HS5 := Lib.hid hs5
     obtain ⟨S, hS⟩ : ∃ S, nestT ⟨#[58, 110, 111, 116, 40]⟩ i = S := ⟨_, rfl⟩
     rw [hS] at HS5 HR2 ⊢
     clear hs5 hS
     go_wp2_with fail
     refine (nodes6_any S _ HS5.out).mono ?_
     rintro e w1 ⟨⟨v1, rfl, hv1⟩, ha1⟩
     go_wp2_with fail
     refine (parse6 S HS5.out hv1 (HL.out.below (below_seq HB.out ha1)) HR2.out).mono ?_
     rintro e w2 ⟨⟨L, u, rfl, hr1, hL⟩, hb1⟩
     obtain ⟨q1, q2, rfl, _⟩ := hr1.shape
     have HB2 := Lib.hid (below_seq (below_seq HB.out ha1) hb1)
     rw [HR.out]
     clear hv1 ha1 hb1 hr1 hL
     generalize (cxsDt L).length = m1 at *
     go_wp2_with (go_at_call 9; refine (awake6_any _ (HL.out.below HB2.out) (HT.out.below HB2.out)).mono ?_; rintro e w3 ⟨rfl, hb3⟩; have HB3 := Lib.hid (below_seq HB2.out hb3))
     go_ret
     exact ⟨rfl, HB3.out⟩
theorem nests_1 (w : World) (n : Nat) (k : Int) (hl : TabL w) (ht : Tab w) (hn : n ≤ 10) (hk : k % 4 = 1) (hd : ¬ 4 < n) :
    Calls Tryz.prog 5 #[.int .i64 n, .int .i64 k] w fun e w' => e = .returned (.bool true) ∧ Below w.heap.size w w' := by
  have HL := Lib.hid hl
  have HT := Lib.hid ht
  have HK := Lib.hid hk
  have HS := Lib.hid (nestT_size ⟨#[58, 105, 115, 40]⟩ (by decide))
  have hr : (selS parseS (ndsS (toks (readS (nestT ⟨#[58, 105, 115, 40]⟩ n))))).isSome = true := by
   have h := (nests_at hn).2.1
   unfold nestOk at h
   rw [beq_iff_eq] at h
   rw [h]
  obtain ⟨r, hr2⟩ : ∃ r, selS parseS (ndsS (toks (readS (nestT ⟨#[58, 105, 115, 40]⟩ n)))) = r := ⟨_, rfl⟩
  rw [hr2] at hr
  have HR := Lib.hid hr
  have HR2 := Lib.hid hr2
  have hnI0 : ¬ (n : Int) < 0 := by omega
  have hnI1 : ¬ (10 : Int) < (n : Int) := by omega
  have hdI : ¬ (4 : Int) < (n : Int) := by omega
  clear hl ht hk hr hr2 hd
  go_enter Tryz.func5, Tryz.ntmps5
  go_wp2_with (go_at_call 16; (with_reducible refine (round_any k 4 1 _ (by decide) (by decide) HK.out).mono ?_); rintro e w' ⟨rfl, rfl⟩)
  have HB0 := Lib.hid (bel_newS w (.cells #[.string ⟨#[58, 110, 111, 116, 40]⟩, .string ⟨#[58, 105, 115, 40]⟩, .string ⟨#[58, 119, 104, 101, 114, 101, 40]⟩, .string ⟨#[58, 110, 116, 104, 45, 99, 104, 105, 108, 100, 40, 110, 32, 111, 102, 32]⟩] 9))
  generalize w.alloc _ = W0 at *
  go_loopw [6, 7] (fun sv iv wr => ∃ i : Nat, iv = .int .i64 i ∧ sv = .string (nestT ⟨#[58, 105, 115, 40]⟩ i) ∧ i ≤ n ∧ Below w.heap.size w wr) (fun _ iv _ => n - (intOf iv).toNat)
  case atStart => exact ⟨0, rfl, rfl, Nat.zero_le _, HB0.out⟩
  case round =>
   obtain ⟨i, rfl, rfl, hin, hB⟩ := hrel
   have HB := Lib.hid hB
   clear hB
   by_cases hlt : i < n
   · have hltI : (i : Int) < (n : Int) := by omega
     have hs := HS.out i
     have c1 := cat_ok ⟨#[58, 105, 115, 40]⟩ (nestT ⟨#[58, 105, 115, 40]⟩ i) (by have : (⟨#[58, 105, 115, 40]⟩ : ByteArray).size = 4 := rfl; omega)
     have c2 := cat_ok (⟨#[58, 105, 115, 40]⟩ ++ nestT ⟨#[58, 105, 115, 40]⟩ i) ⟨#[41]⟩ (by rw [sz_app]; have : (⟨#[58, 105, 115, 40]⟩ : ByteArray).size = 4 := rfl; have : (⟨#[41]⟩ : ByteArray).size = 1 := rfl; omega)
     rw [show ⟨#[58, 105, 115, 40]⟩ ++ nestT ⟨#[58, 105, 115, 40]⟩ i ++ ⟨#[41]⟩ = nestT ⟨#[58, 105, 115, 40]⟩ (i + 1) from rfl] at c2
     have hwi := wrap_succ1 (i := i) (by omega)
     clear hs
     go_wp2
     go_roundw
     case rel => exact ⟨i + 1, by first | rfl | exact congrArg (Value.int .i64) hwi, rfl, hlt, HB.out⟩
     case measure => first | (rw [hwi]; exact meas_succ hlt) | exact meas_succ hlt
   · obtain rfl : i = n := by omega
     have hltI : ¬ (i : Int) < (i : Int) := Int.lt_irrefl _
     have hs5 : (nestT ⟨#[58, 105, 115, 40]⟩ i).size ≤ 5000000 := by have := HS.out i; omega
     have HS5 := Lib.hid hs5
     obtain ⟨S, hS⟩ : ∃ S, nestT ⟨#[58, 105, 115, 40]⟩ i = S := ⟨_, rfl⟩
     rw [hS] at HS5 HR2 ⊢
     clear hs5 hS
     go_wp2_with fail
     refine (nodes6_any S _ HS5.out).mono ?_
     rintro e w1 ⟨⟨v1, rfl, hv1⟩, ha1⟩
     go_wp2_with fail
     refine (parse6 S HS5.out hv1 (HL.out.below (below_seq HB.out ha1)) HR2.out).mono ?_
     rintro e w2 ⟨⟨L, u, rfl, hr1, hL⟩, hb1⟩
     obtain ⟨q1, q2, rfl, _⟩ := hr1.shape
     have HB2 := Lib.hid (below_seq (below_seq HB.out ha1) hb1)
     rw [HR.out]
     clear hv1 ha1 hb1 hr1 hL
     generalize (cxsDt L).length = m1 at *
     go_wp2_with (go_at_call 9; refine (awake6_any _ (HL.out.below HB2.out) (HT.out.below HB2.out)).mono ?_; rintro e w3 ⟨rfl, hb3⟩; have HB3 := Lib.hid (below_seq HB2.out hb3))
     go_ret
     exact ⟨rfl, HB3.out⟩
theorem nests_1d (w : World) (n : Nat) (k : Int) (hl : TabL w) (ht : Tab w) (hn : n ≤ 10) (hk : k % 4 = 1) (hd : 4 < n) :
    Calls Tryz.prog 5 #[.int .i64 n, .int .i64 k] w fun e w' => e = .returned (.bool true) ∧ Below w.heap.size w w' := by
  have HL := Lib.hid hl
  have HT := Lib.hid ht
  have HK := Lib.hid hk
  have HS := Lib.hid (nestT_size ⟨#[58, 105, 115, 40]⟩ (by decide))
  have hr : (selS parseS (ndsS (toks (readS (nestT ⟨#[58, 105, 115, 40]⟩ n))))).isSome = true := by
   have h := (nests_at hn).2.1
   unfold nestOk at h
   rw [beq_iff_eq] at h
   rw [h]
  obtain ⟨r, hr2⟩ : ∃ r, selS parseS (ndsS (toks (readS (nestT ⟨#[58, 105, 115, 40]⟩ n)))) = r := ⟨_, rfl⟩
  rw [hr2] at hr
  have HR := Lib.hid hr
  have HR2 := Lib.hid hr2
  have hnI0 : ¬ (n : Int) < 0 := by omega
  have hnI1 : ¬ (10 : Int) < (n : Int) := by omega
  have hdI : (4 : Int) < (n : Int) := by omega
  clear hl ht hk hr hr2 hd
  go_enter Tryz.func5, Tryz.ntmps5
  go_wp2_with (go_at_call 16; (with_reducible refine (round_any k 4 1 _ (by decide) (by decide) HK.out).mono ?_); rintro e w' ⟨rfl, rfl⟩)
  have HB0 := Lib.hid (bel_newS w (.cells #[.string ⟨#[58, 110, 111, 116, 40]⟩, .string ⟨#[58, 105, 115, 40]⟩, .string ⟨#[58, 119, 104, 101, 114, 101, 40]⟩, .string ⟨#[58, 110, 116, 104, 45, 99, 104, 105, 108, 100, 40, 110, 32, 111, 102, 32]⟩] 9))
  generalize w.alloc _ = W0 at *
  go_loopw [6, 7] (fun sv iv wr => ∃ i : Nat, iv = .int .i64 i ∧ sv = .string (nestT ⟨#[58, 105, 115, 40]⟩ i) ∧ i ≤ n ∧ Below w.heap.size w wr) (fun _ iv _ => n - (intOf iv).toNat)
  case atStart => exact ⟨0, rfl, rfl, Nat.zero_le _, HB0.out⟩
  case round =>
   obtain ⟨i, rfl, rfl, hin, hB⟩ := hrel
   have HB := Lib.hid hB
   clear hB
   by_cases hlt : i < n
   · have hltI : (i : Int) < (n : Int) := by omega
     have hs := HS.out i
     have c1 := cat_ok ⟨#[58, 105, 115, 40]⟩ (nestT ⟨#[58, 105, 115, 40]⟩ i) (by have : (⟨#[58, 105, 115, 40]⟩ : ByteArray).size = 4 := rfl; omega)
     have c2 := cat_ok (⟨#[58, 105, 115, 40]⟩ ++ nestT ⟨#[58, 105, 115, 40]⟩ i) ⟨#[41]⟩ (by rw [sz_app]; have : (⟨#[58, 105, 115, 40]⟩ : ByteArray).size = 4 := rfl; have : (⟨#[41]⟩ : ByteArray).size = 1 := rfl; omega)
     rw [show ⟨#[58, 105, 115, 40]⟩ ++ nestT ⟨#[58, 105, 115, 40]⟩ i ++ ⟨#[41]⟩ = nestT ⟨#[58, 105, 115, 40]⟩ (i + 1) from rfl] at c2
     have hwi := wrap_succ1 (i := i) (by omega)
     clear hs
     go_wp2
     go_roundw
     case rel => exact ⟨i + 1, by first | rfl | exact congrArg (Value.int .i64) hwi, rfl, hlt, HB.out⟩
     case measure => first | (rw [hwi]; exact meas_succ hlt) | exact meas_succ hlt
   · obtain rfl : i = n := by omega
     have hltI : ¬ (i : Int) < (i : Int) := Int.lt_irrefl _
     have hs5 : (nestT ⟨#[58, 105, 115, 40]⟩ i).size ≤ 5000000 := by have := HS.out i; omega
     have HS5 := Lib.hid hs5
     obtain ⟨S, hS⟩ : ∃ S, nestT ⟨#[58, 105, 115, 40]⟩ i = S := ⟨_, rfl⟩
     rw [hS] at HS5 HR2 ⊢
     clear hs5 hS
     go_wp2_with fail
     refine (nodes6_any S _ HS5.out).mono ?_
     rintro e w1 ⟨⟨v1, rfl, hv1⟩, ha1⟩
     go_wp2_with fail
     refine (parse6 S HS5.out hv1 (HL.out.below (below_seq HB.out ha1)) HR2.out).mono ?_
     rintro e w2 ⟨⟨L, u, rfl, hr1, hL⟩, hb1⟩
     obtain ⟨q1, q2, rfl, _⟩ := hr1.shape
     have HB2 := Lib.hid (below_seq (below_seq HB.out ha1) hb1)
     rw [HR.out]
     clear hv1 ha1 hb1 hr1 hL
     generalize (cxsDt L).length = m1 at *
     go_wp2_with (go_at_call 9; refine (awake6_any _ (HL.out.below HB2.out) (HT.out.below HB2.out)).mono ?_; rintro e w3 ⟨rfl, hb3⟩; have HB3 := Lib.hid (below_seq HB2.out hb3))
     go_ret
     exact ⟨rfl, HB3.out⟩
theorem nests_2 (w : World) (n : Nat) (k : Int) (hl : TabL w) (ht : Tab w) (hn : n ≤ 10) (hk : k % 4 = 2) (hd : ¬ 4 < n) :
    Calls Tryz.prog 5 #[.int .i64 n, .int .i64 k] w fun e w' => e = .returned (.bool true) ∧ Below w.heap.size w w' := by
  have HL := Lib.hid hl
  have HT := Lib.hid ht
  have HK := Lib.hid hk
  have HS := Lib.hid (nestT_size ⟨#[58, 119, 104, 101, 114, 101, 40]⟩ (by decide))
  have hr : (selS parseS (ndsS (toks (readS (nestT ⟨#[58, 119, 104, 101, 114, 101, 40]⟩ n))))).isSome = true := by
   have h := (nests_at hn).2.2.1
   unfold nestOk at h
   rw [beq_iff_eq] at h
   rw [h]
  obtain ⟨r, hr2⟩ : ∃ r, selS parseS (ndsS (toks (readS (nestT ⟨#[58, 119, 104, 101, 114, 101, 40]⟩ n)))) = r := ⟨_, rfl⟩
  rw [hr2] at hr
  have HR := Lib.hid hr
  have HR2 := Lib.hid hr2
  have hnI0 : ¬ (n : Int) < 0 := by omega
  have hnI1 : ¬ (10 : Int) < (n : Int) := by omega
  have hdI : ¬ (4 : Int) < (n : Int) := by omega
  clear hl ht hk hr hr2 hd
  go_enter Tryz.func5, Tryz.ntmps5
  go_wp2_with (go_at_call 16; (with_reducible refine (round_any k 4 2 _ (by decide) (by decide) HK.out).mono ?_); rintro e w' ⟨rfl, rfl⟩)
  have HB0 := Lib.hid (bel_newS w (.cells #[.string ⟨#[58, 110, 111, 116, 40]⟩, .string ⟨#[58, 105, 115, 40]⟩, .string ⟨#[58, 119, 104, 101, 114, 101, 40]⟩, .string ⟨#[58, 110, 116, 104, 45, 99, 104, 105, 108, 100, 40, 110, 32, 111, 102, 32]⟩] 9))
  generalize w.alloc _ = W0 at *
  go_loopw [6, 7] (fun sv iv wr => ∃ i : Nat, iv = .int .i64 i ∧ sv = .string (nestT ⟨#[58, 119, 104, 101, 114, 101, 40]⟩ i) ∧ i ≤ n ∧ Below w.heap.size w wr) (fun _ iv _ => n - (intOf iv).toNat)
  case atStart => exact ⟨0, rfl, rfl, Nat.zero_le _, HB0.out⟩
  case round =>
   obtain ⟨i, rfl, rfl, hin, hB⟩ := hrel
   have HB := Lib.hid hB
   clear hB
   by_cases hlt : i < n
   · have hltI : (i : Int) < (n : Int) := by omega
     have hs := HS.out i
     have c1 := cat_ok ⟨#[58, 119, 104, 101, 114, 101, 40]⟩ (nestT ⟨#[58, 119, 104, 101, 114, 101, 40]⟩ i) (by have : (⟨#[58, 119, 104, 101, 114, 101, 40]⟩ : ByteArray).size = 7 := rfl; omega)
     have c2 := cat_ok (⟨#[58, 119, 104, 101, 114, 101, 40]⟩ ++ nestT ⟨#[58, 119, 104, 101, 114, 101, 40]⟩ i) ⟨#[41]⟩ (by rw [sz_app]; have : (⟨#[58, 119, 104, 101, 114, 101, 40]⟩ : ByteArray).size = 7 := rfl; have : (⟨#[41]⟩ : ByteArray).size = 1 := rfl; omega)
     rw [show ⟨#[58, 119, 104, 101, 114, 101, 40]⟩ ++ nestT ⟨#[58, 119, 104, 101, 114, 101, 40]⟩ i ++ ⟨#[41]⟩ = nestT ⟨#[58, 119, 104, 101, 114, 101, 40]⟩ (i + 1) from rfl] at c2
     have hwi := wrap_succ1 (i := i) (by omega)
     clear hs
     go_wp2
     go_roundw
     case rel => exact ⟨i + 1, by first | rfl | exact congrArg (Value.int .i64) hwi, rfl, hlt, HB.out⟩
     case measure => first | (rw [hwi]; exact meas_succ hlt) | exact meas_succ hlt
   · obtain rfl : i = n := by omega
     have hltI : ¬ (i : Int) < (i : Int) := Int.lt_irrefl _
     have hs5 : (nestT ⟨#[58, 119, 104, 101, 114, 101, 40]⟩ i).size ≤ 5000000 := by have := HS.out i; omega
     have HS5 := Lib.hid hs5
     obtain ⟨S, hS⟩ : ∃ S, nestT ⟨#[58, 119, 104, 101, 114, 101, 40]⟩ i = S := ⟨_, rfl⟩
     rw [hS] at HS5 HR2 ⊢
     clear hs5 hS
     go_wp2_with fail
     refine (nodes6_any S _ HS5.out).mono ?_
     rintro e w1 ⟨⟨v1, rfl, hv1⟩, ha1⟩
     go_wp2_with fail
     refine (parse6 S HS5.out hv1 (HL.out.below (below_seq HB.out ha1)) HR2.out).mono ?_
     rintro e w2 ⟨⟨L, u, rfl, hr1, hL⟩, hb1⟩
     obtain ⟨q1, q2, rfl, _⟩ := hr1.shape
     have HB2 := Lib.hid (below_seq (below_seq HB.out ha1) hb1)
     rw [HR.out]
     clear hv1 ha1 hb1 hr1 hL
     generalize (cxsDt L).length = m1 at *
     go_wp2_with (go_at_call 9; refine (awake6_any _ (HL.out.below HB2.out) (HT.out.below HB2.out)).mono ?_; rintro e w3 ⟨rfl, hb3⟩; have HB3 := Lib.hid (below_seq HB2.out hb3))
     go_ret
     exact ⟨rfl, HB3.out⟩
theorem nests_2d (w : World) (n : Nat) (k : Int) (hl : TabL w) (ht : Tab w) (hn : n ≤ 10) (hk : k % 4 = 2) (hd : 4 < n) :
    Calls Tryz.prog 5 #[.int .i64 n, .int .i64 k] w fun e w' => e = .returned (.bool true) ∧ Below w.heap.size w w' := by
  have HL := Lib.hid hl
  have HT := Lib.hid ht
  have HK := Lib.hid hk
  have HS := Lib.hid (nestT_size ⟨#[58, 119, 104, 101, 114, 101, 40]⟩ (by decide))
  have hr : (selS parseS (ndsS (toks (readS (nestT ⟨#[58, 119, 104, 101, 114, 101, 40]⟩ n))))).isSome = true := by
   have h := (nests_at hn).2.2.1
   unfold nestOk at h
   rw [beq_iff_eq] at h
   rw [h]
  obtain ⟨r, hr2⟩ : ∃ r, selS parseS (ndsS (toks (readS (nestT ⟨#[58, 119, 104, 101, 114, 101, 40]⟩ n)))) = r := ⟨_, rfl⟩
  rw [hr2] at hr
  have HR := Lib.hid hr
  have HR2 := Lib.hid hr2
  have hnI0 : ¬ (n : Int) < 0 := by omega
  have hnI1 : ¬ (10 : Int) < (n : Int) := by omega
  have hdI : (4 : Int) < (n : Int) := by omega
  clear hl ht hk hr hr2 hd
  go_enter Tryz.func5, Tryz.ntmps5
  go_wp2_with (go_at_call 16; (with_reducible refine (round_any k 4 2 _ (by decide) (by decide) HK.out).mono ?_); rintro e w' ⟨rfl, rfl⟩)
  have HB0 := Lib.hid (bel_newS w (.cells #[.string ⟨#[58, 110, 111, 116, 40]⟩, .string ⟨#[58, 105, 115, 40]⟩, .string ⟨#[58, 119, 104, 101, 114, 101, 40]⟩, .string ⟨#[58, 110, 116, 104, 45, 99, 104, 105, 108, 100, 40, 110, 32, 111, 102, 32]⟩] 9))
  generalize w.alloc _ = W0 at *
  go_loopw [6, 7] (fun sv iv wr => ∃ i : Nat, iv = .int .i64 i ∧ sv = .string (nestT ⟨#[58, 119, 104, 101, 114, 101, 40]⟩ i) ∧ i ≤ n ∧ Below w.heap.size w wr) (fun _ iv _ => n - (intOf iv).toNat)
  case atStart => exact ⟨0, rfl, rfl, Nat.zero_le _, HB0.out⟩
  case round =>
   obtain ⟨i, rfl, rfl, hin, hB⟩ := hrel
   have HB := Lib.hid hB
   clear hB
   by_cases hlt : i < n
   · have hltI : (i : Int) < (n : Int) := by omega
     have hs := HS.out i
     have c1 := cat_ok ⟨#[58, 119, 104, 101, 114, 101, 40]⟩ (nestT ⟨#[58, 119, 104, 101, 114, 101, 40]⟩ i) (by have : (⟨#[58, 119, 104, 101, 114, 101, 40]⟩ : ByteArray).size = 7 := rfl; omega)
     have c2 := cat_ok (⟨#[58, 119, 104, 101, 114, 101, 40]⟩ ++ nestT ⟨#[58, 119, 104, 101, 114, 101, 40]⟩ i) ⟨#[41]⟩ (by rw [sz_app]; have : (⟨#[58, 119, 104, 101, 114, 101, 40]⟩ : ByteArray).size = 7 := rfl; have : (⟨#[41]⟩ : ByteArray).size = 1 := rfl; omega)
     rw [show ⟨#[58, 119, 104, 101, 114, 101, 40]⟩ ++ nestT ⟨#[58, 119, 104, 101, 114, 101, 40]⟩ i ++ ⟨#[41]⟩ = nestT ⟨#[58, 119, 104, 101, 114, 101, 40]⟩ (i + 1) from rfl] at c2
     have hwi := wrap_succ1 (i := i) (by omega)
     clear hs
     go_wp2
     go_roundw
     case rel => exact ⟨i + 1, by first | rfl | exact congrArg (Value.int .i64) hwi, rfl, hlt, HB.out⟩
     case measure => first | (rw [hwi]; exact meas_succ hlt) | exact meas_succ hlt
   · obtain rfl : i = n := by omega
     have hltI : ¬ (i : Int) < (i : Int) := Int.lt_irrefl _
     have hs5 : (nestT ⟨#[58, 119, 104, 101, 114, 101, 40]⟩ i).size ≤ 5000000 := by have := HS.out i; omega
     have HS5 := Lib.hid hs5
     obtain ⟨S, hS⟩ : ∃ S, nestT ⟨#[58, 119, 104, 101, 114, 101, 40]⟩ i = S := ⟨_, rfl⟩
     rw [hS] at HS5 HR2 ⊢
     clear hs5 hS
     go_wp2_with fail
     refine (nodes6_any S _ HS5.out).mono ?_
     rintro e w1 ⟨⟨v1, rfl, hv1⟩, ha1⟩
     go_wp2_with fail
     refine (parse6 S HS5.out hv1 (HL.out.below (below_seq HB.out ha1)) HR2.out).mono ?_
     rintro e w2 ⟨⟨L, u, rfl, hr1, hL⟩, hb1⟩
     obtain ⟨q1, q2, rfl, _⟩ := hr1.shape
     have HB2 := Lib.hid (below_seq (below_seq HB.out ha1) hb1)
     rw [HR.out]
     clear hv1 ha1 hb1 hr1 hL
     generalize (cxsDt L).length = m1 at *
     go_wp2_with (go_at_call 9; refine (awake6_any _ (HL.out.below HB2.out) (HT.out.below HB2.out)).mono ?_; rintro e w3 ⟨rfl, hb3⟩; have HB3 := Lib.hid (below_seq HB2.out hb3))
     go_ret
     exact ⟨rfl, HB3.out⟩
theorem nests_3 (w : World) (n : Nat) (k : Int) (hl : TabL w) (ht : Tab w) (hn : n ≤ 10) (hk : k % 4 = 3) (hd : ¬ 4 < n) :
    Calls Tryz.prog 5 #[.int .i64 n, .int .i64 k] w fun e w' => e = .returned (.bool true) ∧ Below w.heap.size w w' := by
  have HL := Lib.hid hl
  have HT := Lib.hid ht
  have HK := Lib.hid hk
  have HS := Lib.hid (nestT_size ⟨#[58, 110, 116, 104, 45, 99, 104, 105, 108, 100, 40, 110, 32, 111, 102, 32]⟩ (by decide))
  have hr : (selS parseS (ndsS (toks (readS (nestT ⟨#[58, 110, 116, 104, 45, 99, 104, 105, 108, 100, 40, 110, 32, 111, 102, 32]⟩ n))))).isSome = true := by
   have h := (nests_at hn).2.2.2
   unfold nestOk at h
   rw [beq_iff_eq] at h
   rw [h]
   exact decide_eq_true (by omega)
  obtain ⟨r, hr2⟩ : ∃ r, selS parseS (ndsS (toks (readS (nestT ⟨#[58, 110, 116, 104, 45, 99, 104, 105, 108, 100, 40, 110, 32, 111, 102, 32]⟩ n)))) = r := ⟨_, rfl⟩
  rw [hr2] at hr
  have HR := Lib.hid hr
  have HR2 := Lib.hid hr2
  have hnI0 : ¬ (n : Int) < 0 := by omega
  have hnI1 : ¬ (10 : Int) < (n : Int) := by omega
  have hdI : ¬ (4 : Int) < (n : Int) := by omega
  clear hl ht hk hr hr2 hd
  go_enter Tryz.func5, Tryz.ntmps5
  go_wp2_with (go_at_call 16; (with_reducible refine (round_any k 4 3 _ (by decide) (by decide) HK.out).mono ?_); rintro e w' ⟨rfl, rfl⟩)
  have HB0 := Lib.hid (bel_newS w (.cells #[.string ⟨#[58, 110, 111, 116, 40]⟩, .string ⟨#[58, 105, 115, 40]⟩, .string ⟨#[58, 119, 104, 101, 114, 101, 40]⟩, .string ⟨#[58, 110, 116, 104, 45, 99, 104, 105, 108, 100, 40, 110, 32, 111, 102, 32]⟩] 9))
  generalize w.alloc _ = W0 at *
  go_loopw [6, 7] (fun sv iv wr => ∃ i : Nat, iv = .int .i64 i ∧ sv = .string (nestT ⟨#[58, 110, 116, 104, 45, 99, 104, 105, 108, 100, 40, 110, 32, 111, 102, 32]⟩ i) ∧ i ≤ n ∧ Below w.heap.size w wr) (fun _ iv _ => n - (intOf iv).toNat)
  case atStart => exact ⟨0, rfl, rfl, Nat.zero_le _, HB0.out⟩
  case round =>
   obtain ⟨i, rfl, rfl, hin, hB⟩ := hrel
   have HB := Lib.hid hB
   clear hB
   by_cases hlt : i < n
   · have hltI : (i : Int) < (n : Int) := by omega
     have hs := HS.out i
     have c1 := cat_ok ⟨#[58, 110, 116, 104, 45, 99, 104, 105, 108, 100, 40, 110, 32, 111, 102, 32]⟩ (nestT ⟨#[58, 110, 116, 104, 45, 99, 104, 105, 108, 100, 40, 110, 32, 111, 102, 32]⟩ i) (by have : (⟨#[58, 110, 116, 104, 45, 99, 104, 105, 108, 100, 40, 110, 32, 111, 102, 32]⟩ : ByteArray).size = 16 := rfl; omega)
     have c2 := cat_ok (⟨#[58, 110, 116, 104, 45, 99, 104, 105, 108, 100, 40, 110, 32, 111, 102, 32]⟩ ++ nestT ⟨#[58, 110, 116, 104, 45, 99, 104, 105, 108, 100, 40, 110, 32, 111, 102, 32]⟩ i) ⟨#[41]⟩ (by rw [sz_app]; have : (⟨#[58, 110, 116, 104, 45, 99, 104, 105, 108, 100, 40, 110, 32, 111, 102, 32]⟩ : ByteArray).size = 16 := rfl; have : (⟨#[41]⟩ : ByteArray).size = 1 := rfl; omega)
     rw [show ⟨#[58, 110, 116, 104, 45, 99, 104, 105, 108, 100, 40, 110, 32, 111, 102, 32]⟩ ++ nestT ⟨#[58, 110, 116, 104, 45, 99, 104, 105, 108, 100, 40, 110, 32, 111, 102, 32]⟩ i ++ ⟨#[41]⟩ = nestT ⟨#[58, 110, 116, 104, 45, 99, 104, 105, 108, 100, 40, 110, 32, 111, 102, 32]⟩ (i + 1) from rfl] at c2
     have hwi := wrap_succ1 (i := i) (by omega)
     clear hs
     go_wp2
     go_roundw
     case rel => exact ⟨i + 1, by first | rfl | exact congrArg (Value.int .i64) hwi, rfl, hlt, HB.out⟩
     case measure => first | (rw [hwi]; exact meas_succ hlt) | exact meas_succ hlt
   · obtain rfl : i = n := by omega
     have hltI : ¬ (i : Int) < (i : Int) := Int.lt_irrefl _
     have hs5 : (nestT ⟨#[58, 110, 116, 104, 45, 99, 104, 105, 108, 100, 40, 110, 32, 111, 102, 32]⟩ i).size ≤ 5000000 := by have := HS.out i; omega
     have HS5 := Lib.hid hs5
     obtain ⟨S, hS⟩ : ∃ S, nestT ⟨#[58, 110, 116, 104, 45, 99, 104, 105, 108, 100, 40, 110, 32, 111, 102, 32]⟩ i = S := ⟨_, rfl⟩
     rw [hS] at HS5 HR2 ⊢
     clear hs5 hS
     go_wp2_with fail
     refine (nodes6_any S _ HS5.out).mono ?_
     rintro e w1 ⟨⟨v1, rfl, hv1⟩, ha1⟩
     go_wp2_with fail
     refine (parse6 S HS5.out hv1 (HL.out.below (below_seq HB.out ha1)) HR2.out).mono ?_
     rintro e w2 ⟨⟨L, u, rfl, hr1, hL⟩, hb1⟩
     obtain ⟨q1, q2, rfl, _⟩ := hr1.shape
     have HB2 := Lib.hid (below_seq (below_seq HB.out ha1) hb1)
     rw [HR.out]
     clear hv1 ha1 hb1 hr1 hL
     generalize (cxsDt L).length = m1 at *
     go_wp2_with (go_at_call 9; refine (awake6_any _ (HL.out.below HB2.out) (HT.out.below HB2.out)).mono ?_; rintro e w3 ⟨rfl, hb3⟩; have HB3 := Lib.hid (below_seq HB2.out hb3))
     go_ret
     exact ⟨rfl, HB3.out⟩
theorem nests_3d (w : World) (n : Nat) (k : Int) (hl : TabL w) (ht : Tab w) (hn : n ≤ 10) (hk : k % 4 = 3) (hd : 4 < n) :
    Calls Tryz.prog 5 #[.int .i64 n, .int .i64 k] w fun e w' => e = .returned (.bool true) ∧ Below w.heap.size w w' := by
  have HL := Lib.hid hl
  have HT := Lib.hid ht
  have HK := Lib.hid hk
  have HS := Lib.hid (nestT_size ⟨#[58, 110, 116, 104, 45, 99, 104, 105, 108, 100, 40, 110, 32, 111, 102, 32]⟩ (by decide))
  have hr : (selS parseS (ndsS (toks (readS (nestT ⟨#[58, 110, 116, 104, 45, 99, 104, 105, 108, 100, 40, 110, 32, 111, 102, 32]⟩ n))))).isSome = false := by
   have h := (nests_at hn).2.2.2
   unfold nestOk at h
   rw [beq_iff_eq] at h
   rw [h]
   exact decide_eq_false (by omega)
  obtain ⟨r, hr2⟩ : ∃ r, selS parseS (ndsS (toks (readS (nestT ⟨#[58, 110, 116, 104, 45, 99, 104, 105, 108, 100, 40, 110, 32, 111, 102, 32]⟩ n)))) = r := ⟨_, rfl⟩
  rw [hr2] at hr
  have HR := Lib.hid hr
  have HR2 := Lib.hid hr2
  have hnI0 : ¬ (n : Int) < 0 := by omega
  have hnI1 : ¬ (10 : Int) < (n : Int) := by omega
  have hdI : (4 : Int) < (n : Int) := by omega
  clear hl ht hk hr hr2 hd
  go_enter Tryz.func5, Tryz.ntmps5
  go_wp2_with (go_at_call 16; (with_reducible refine (round_any k 4 3 _ (by decide) (by decide) HK.out).mono ?_); rintro e w' ⟨rfl, rfl⟩)
  have HB0 := Lib.hid (bel_newS w (.cells #[.string ⟨#[58, 110, 111, 116, 40]⟩, .string ⟨#[58, 105, 115, 40]⟩, .string ⟨#[58, 119, 104, 101, 114, 101, 40]⟩, .string ⟨#[58, 110, 116, 104, 45, 99, 104, 105, 108, 100, 40, 110, 32, 111, 102, 32]⟩] 9))
  generalize w.alloc _ = W0 at *
  go_loopw [6, 7] (fun sv iv wr => ∃ i : Nat, iv = .int .i64 i ∧ sv = .string (nestT ⟨#[58, 110, 116, 104, 45, 99, 104, 105, 108, 100, 40, 110, 32, 111, 102, 32]⟩ i) ∧ i ≤ n ∧ Below w.heap.size w wr) (fun _ iv _ => n - (intOf iv).toNat)
  case atStart => exact ⟨0, rfl, rfl, Nat.zero_le _, HB0.out⟩
  case round =>
   obtain ⟨i, rfl, rfl, hin, hB⟩ := hrel
   have HB := Lib.hid hB
   clear hB
   by_cases hlt : i < n
   · have hltI : (i : Int) < (n : Int) := by omega
     have hs := HS.out i
     have c1 := cat_ok ⟨#[58, 110, 116, 104, 45, 99, 104, 105, 108, 100, 40, 110, 32, 111, 102, 32]⟩ (nestT ⟨#[58, 110, 116, 104, 45, 99, 104, 105, 108, 100, 40, 110, 32, 111, 102, 32]⟩ i) (by have : (⟨#[58, 110, 116, 104, 45, 99, 104, 105, 108, 100, 40, 110, 32, 111, 102, 32]⟩ : ByteArray).size = 16 := rfl; omega)
     have c2 := cat_ok (⟨#[58, 110, 116, 104, 45, 99, 104, 105, 108, 100, 40, 110, 32, 111, 102, 32]⟩ ++ nestT ⟨#[58, 110, 116, 104, 45, 99, 104, 105, 108, 100, 40, 110, 32, 111, 102, 32]⟩ i) ⟨#[41]⟩ (by rw [sz_app]; have : (⟨#[58, 110, 116, 104, 45, 99, 104, 105, 108, 100, 40, 110, 32, 111, 102, 32]⟩ : ByteArray).size = 16 := rfl; have : (⟨#[41]⟩ : ByteArray).size = 1 := rfl; omega)
     rw [show ⟨#[58, 110, 116, 104, 45, 99, 104, 105, 108, 100, 40, 110, 32, 111, 102, 32]⟩ ++ nestT ⟨#[58, 110, 116, 104, 45, 99, 104, 105, 108, 100, 40, 110, 32, 111, 102, 32]⟩ i ++ ⟨#[41]⟩ = nestT ⟨#[58, 110, 116, 104, 45, 99, 104, 105, 108, 100, 40, 110, 32, 111, 102, 32]⟩ (i + 1) from rfl] at c2
     have hwi := wrap_succ1 (i := i) (by omega)
     clear hs
     go_wp2
     go_roundw
     case rel => exact ⟨i + 1, by first | rfl | exact congrArg (Value.int .i64) hwi, rfl, hlt, HB.out⟩
     case measure => first | (rw [hwi]; exact meas_succ hlt) | exact meas_succ hlt
   · obtain rfl : i = n := by omega
     have hltI : ¬ (i : Int) < (i : Int) := Int.lt_irrefl _
     have hs5 : (nestT ⟨#[58, 110, 116, 104, 45, 99, 104, 105, 108, 100, 40, 110, 32, 111, 102, 32]⟩ i).size ≤ 5000000 := by have := HS.out i; omega
     have HS5 := Lib.hid hs5
     obtain ⟨S, hS⟩ : ∃ S, nestT ⟨#[58, 110, 116, 104, 45, 99, 104, 105, 108, 100, 40, 110, 32, 111, 102, 32]⟩ i = S := ⟨_, rfl⟩
     rw [hS] at HS5 HR2 ⊢
     clear hs5 hS
     go_wp2_with fail
     refine (nodes6_any S _ HS5.out).mono ?_
     rintro e w1 ⟨⟨v1, rfl, hv1⟩, ha1⟩
     go_wp2_with fail
     refine (parse6 S HS5.out hv1 (HL.out.below (below_seq HB.out ha1)) HR2.out).mono ?_
     rintro e w2 ⟨⟨L, u, rfl, hr1, hL⟩, hb1⟩
     obtain ⟨q1, q2, rfl, _⟩ := hr1.shape
     have HB2 := Lib.hid (below_seq (below_seq HB.out ha1) hb1)
     rw [HR.out]
     clear hv1 ha1 hb1 hr1 hL
     generalize (cxsDt L).length = m1 at *
     go_wp2_with (go_at_call 9; refine (awake6_any _ (HL.out.below HB2.out) (HT.out.below HB2.out)).mono ?_; rintro e w3 ⟨rfl, hb3⟩; have HB3 := Lib.hid (below_seq HB2.out hb3))
     go_ret
     exact ⟨rfl, HB3.out⟩
theorem nests_any (w : World) (hl : TabL w) (ht : Tab w) (n k : Int) : Calls Tryz.prog 5 #[.int .i64 n, .int .i64 k] w fun e w' => e = .returned (.bool true) ∧ Below w.heap.size w w' := by
 by_cases h0 : n < 0
 · have HL := Lib.hid hl
   have HT := Lib.hid ht
   clear hl ht
   go_enter Tryz.func5, Tryz.ntmps5
   go_wp2_with (go_at_call 9; refine (awake6_any _ HL.out HT.out).mono ?_; rintro e w3 ⟨rfl, hb3⟩)
   go_ret
   exact ⟨rfl, hb3⟩
 · by_cases h1 : 10 < n
   · have HL := Lib.hid hl
     have HT := Lib.hid ht
     clear hl ht
     go_enter Tryz.func5, Tryz.ntmps5
     go_wp2_with (go_at_call 9; refine (awake6_any _ HL.out HT.out).mono ?_; rintro e w3 ⟨rfl, hb3⟩)
     go_ret
     exact ⟨rfl, hb3⟩
   · obtain ⟨m, rfl⟩ : ∃ m : Nat, n = m := ⟨n.toNat, by omega⟩
     have hm : m ≤ 10 := by omega
     have hk : k % 4 = 0 ∨ k % 4 = 1 ∨ k % 4 = 2 ∨ k % 4 = 3 := by omega
     by_cases hd : 4 < m
     · rcases hk with hk | hk | hk | hk
       · exact nests_0d w m k hl ht hm hk hd
       · exact nests_1d w m k hl ht hm hk hd
       · exact nests_2d w m k hl ht hm hk hd
       · exact nests_3d w m k hl ht hm hk hd
     · rcases hk with hk | hk | hk | hk
       · exact nests_0 w m k hl ht hm hk hd
       · exact nests_1 w m k hl ht hm hk hd
       · exact nests_2 w m k hl ht hm hk hd
       · exact nests_3 w m k hl ht hm hk hd
theorem SelectorNests_any (w : World) (ht : Tab6 w) (n : Int) (_wn : (Lit.int .i64 n).wf = true) (k : Int) (_wk : (Lit.int .i64 k).wf = true) : Calls Tryz.prog 5 #[.int .i64 n, .int .i64 k] w fun e w' => e = .returned (.bool true) ∧ Below w.heap.size w w' := nests_any w ht.1 ht.2 n k
end Go.Proofs.YtgpiedifodkegaaGreatDoor
namespace Go.Proofs.YtgpiedifodkegaaGreatDoor.selectorNests
open Go.ChangeShapes Go.WideShapes Go.ChangeAt Go.RowKit
abbrev laidL : List (String × DataW Unit) := [("math/bits.deBruijn32tab", Rows.laid_math_bits_deBruijn32tab), ("math/bits.deBruijn64tab", Rows.laid_math_bits_deBruijn64tab), ("internal/strconv.uint64pow10", Rows.laid_internal_strconv_uint64pow10), ("fleuron/selector.words", Rows.laid_fleuron_selector_words), ("fleuron/selector.elements", Rows.laid_fleuron_selector_elements)]
theorem tab_of {W : World} (h : laidMetH Tryz.prog laidL W) : Tab6 W := by
 rw [MakeChecks.laidMetH_plain _ _ _ (by kernel_rfl)] at h
 exact tab6_of h (.tail _ (.tail _ (.tail _ (.head _)))) (.tail _ (.tail _ (.tail _ (.tail _ (.head _))))) (.tail _ (.tail _ (.head _)))
theorem lifted (os : Os) (started : os.Started) (H : Type) (enc : TypeId × Value → H) :
    ReturnsInHanded {} Tryz.checked os 5 .any (fun w args => (Rows.selectorNestsSpec.pre enc Tryz.prog Tryz.f5 [] false w args ∧ laidMetH Tryz.prog laidL w) ∧ sizedMet enc Tryz.prog Tryz.f5 (OpenSpec.ofChange Rows.selectorNestsSpec) false w args) (Rows.selectorNestsSpec.post enc Tryz.prog Tryz.f5 false true false false) := by
  refine returnsInHanded_of_change_and (C := Tryz.checked) (X := fun w _ => laidMetH Tryz.prog laidL w) (fun _ _ _ hh h => h.of_heap hh) own started (by kernel_rfl) Tryz.func5
    (ChangeSpec.witness_shaped (enc := enc) (C := Tryz.checked) (os := os) (X := fun w _ => laidMetH Tryz.prog laidL w) false (World.laidAll Tryz.prog os laidL) #[.int .i64 0, .int .i64 0] 8 (World.laidAll_os _ _ _)
      (World.shaped_of_ZipB (by kernel_rfl) (by kernel_rfl)) (by kernel_rfl) (by kernel_rfl) (by kernel_rfl)
      (by rw [MakeChecks.laidMetH_plain _ _ _ (by kernel_rfl)]; exact laidMet_laidAll _ (by kernel_rfl) (by kernel_rfl))) ?_
  intro W base args ds gs before hval0 hW _ _ hL _
  have hval : ∀ (j : Nat) t v, Tryz.f5.params[j]? = some t → args[j]? = some v → Value.okWide Tryz.prog W .any base t v := hval0
  have hW' := hW
  obtain ⟨p, q, hA0, hV, rfl, hfz, hnd⟩ := hW
  have hlt : ∀ x ∈ p, x.block < W.heap.size := fun x hx => hW'.lt x (List.mem_append_left _ hx)
  have hA : DataW.TrodAll enc Tryz.prog W 0 (fun _ => true) true Tryz.f5.params.toList args.toList ds p := hA0
  rw [Tryz.params5] at hA hval
  obtain ⟨v0, vs0, d0, ds0, p0, q0, hargs, rfl, rfl, h0, r0⟩ := trodAll_cons hA
  obtain ⟨v1, vs1, d1, ds1, p1, q1, rfl, rfl, rfl, h1, r1⟩ := trodAll_cons r0
  obtain ⟨rfl, rfl, rfl⟩ := trodAll_nil r1
  obtain rfl : args = #[v0, v1] := by cases args; simp_all
  have hV' := hV
  obtain ⟨rfl, rfl⟩ := trodVars_none hV
  obtain ⟨a0, rfl, rfl, rfl, w0⟩ := open_int Tryz.underlying3 (hval 0 3 v0 rfl rfl) h0
  obtain ⟨a1, rfl, rfl, rfl, w1⟩ := open_int Tryz.underlying3 (hval 1 3 v1 rfl rfl) h1
  refine (SelectorNests_any W (tab_of hL) a0 w0 a1 w1).mono fun e W' ⟨he, hg⟩ => ?_
  subst he
  exact ⟨_, rfl, law_post laidOut (by kernel_rfl) rfl rfl Tryz.underlying4 rfl rfl rfl hW' hg⟩
theorem over : Rows.selectorNestsRow.holds Tryz.pinned (OpenSpec.ofChange Rows.selectorNestsSpec) :=
 OpenClaim.holds_of_wide 5 Tryz.f5 rfl rfl rfl rfl rfl rfl rfl ⟨rfl, rfl, rfl, rfl, rfl⟩ rfl rfl rfl rfl rfl (by kernel_rfl) Tryz.func5 (by kernel_rfl)
   (of_decide_eq_true (by kernel_rfl)) (by unfold Func.isWrapper; first | (rw [if_pos (by decide +kernel)]; kernel_rfl) | (rw [if_neg (by decide +kernel)]; exact ⟨rfl, rfl⟩))
   (fun os started H enc _ => lifted os started H enc)
theorem proved : Rows.SelectorNestsCardSaid :=
 Claim7.holds_tied_plain_at .later [] [.data, .data, .data, .data, .data] true (true, "d0036d5512a72c49b745c0c6c8ca9f9d6f6837c966c9eb1ac8f280244e3c1477") false
   over (fun _ h => by cases h) (by kernel_rfl) (fun _ h => by cases h) selectorNests_row_tie rfl ⟨rfl, rfl⟩ (by kernel_rfl) rfl
   (fun f fn hf hfn => by
    obtain rfl : f = 5 := Option.some.inj ((show Tryz.prog.funcNamed "fleuron/fleuronlaw6.SelectorNests" = some 5 by kernel_rfl).symm.trans hf) |>.symm
    obtain rfl : fn = Tryz.f5 := (Option.some.inj (Tryz.func5.symm.trans hfn)).symm
    exact ⟨by kernel_rfl, fun j t ht => by
     rw [Tryz.params5] at ht
     have hm : t ∈ [ 3, 3 ] := by simpa using Array.mem_of_getElem? ht
     have hall : ([ 3, 3 ].all fun u => !Tryz.prog.wantsStandIn u) = true := by kernel_rfl
     exact (show Tryz.prog.wantsStandIn t = false by simpa using List.all_eq_true.1 hall t hm)⟩)
   (by kernel_rfl)
end Go.Proofs.YtgpiedifodkegaaGreatDoor.selectorNests
