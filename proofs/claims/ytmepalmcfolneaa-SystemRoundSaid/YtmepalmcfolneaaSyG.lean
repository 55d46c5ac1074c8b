
import Derived.Test.YtmepalmcfolneaaSyF
import Derived.Deep.AppendLies
import Derived.Maps.AppendAt
import Derived.IntWalk
import Derived.Laws.Bits64
namespace Go.Proofs.Ytmepalmcfolneaa
open Go.RowKit
theorem ret_bt {v v' : Value} {a b : Bool} (h : a = b) (hv : v = v') : Ending.returned (.tuple #[v, .bool a]) = .returned (.tuple #[v', .bool b]) := by rw [h, hv]
/-- Places, or that there are none. -/
def PlPost (w : World) (o : Option (List Int)) (e : Ending) (w' : World) : Prop := ∃ v, e = .returned (.tuple #[v, .bool o.isSome]) ∧ Below w.heap.size w w' ∧ ∀ l, o = some l → Rd .i64 w' v l
theorem rd_one (w : World) (t : TypeId) (x : Int) : Rd .i64 (w.alloc (.cells #[.int .i64 x] t)) (.slice (some ⟨w.heap.size, 0, none⟩) 1 1) [x] := by
  refine ⟨_, 1, rfl, Nat.le_refl _, fun _ => ⟨_, 0, rfl, by simp, fun j hj => ?_⟩⟩
  obtain rfl : j = 0 := by simpa using hj
  unfold World.cell?
  rw [heap_alloc_self]
  rfl
theorem rd_one' (w : World) (t : TypeId) (x : Int) (H : Nat) (hH : w.heap.size = H) : Rd .i64 (w.alloc (.cells #[.int .i64 x] t)) (.slice (some ⟨H, 0, none⟩) 1 1) [x] := by
  subst hH
  exact rd_one w t x
theorem pl_one (w : World) (t : TypeId) (x : Int) (o : Option (List Int)) (h : o = some [x]) : PlPost w o (.returned (.tuple #[.slice (some ⟨w.heap.size, 0, none⟩) 1 1, .bool true])) (w.alloc (.cells #[.int .i64 x] t)) := by
  subst h
  exact ⟨_, rfl, below_al2 _ _, fun l hl => by injection hl with hl; subst hl; exact rd_one w t x⟩
theorem pl_none (w w' : World) (v : Value) (o : Option (List Int)) (h : o = none) (hb : Below w.heap.size w w') : PlPost w o (.returned (.tuple #[v, .bool false])) w' := by
  subst h
  exact ⟨_, rfl, hb, fun l hl => by cases hl⟩
set_option maxRecDepth 100000 in
set_option maxHeartbeats 400000 in
theorem around_any (n : Int) (k : Nat) (w : World) (hn : nearB n = true) (hk : 1 ≤ k) (hk2 : k ≤ 64) :
    Calls Try.prog 19 #[.int .i64 n, .int .i64 k] w fun e w' => e = .returned (.int .i64 ((n - 1) % k)) ∧ w = w' := by
  have hb := of_decide_eq_true hn
  clear hn
  obtain ⟨h1, h2⟩ := hb
  have hkI : (1 : Int) ≤ (k : Int) := by omega
  have hkI2 : (k : Int) ≤ 64 := by omega
  by_cases h0 : 0 ≤ n - 1
  · have hm : 0 ≤ (n - 1) % (k : Int) := Int.emod_nonneg _ (by omega)
    have hm2 : ¬ (n - 1) % (k : Int) < 0 := by omega
    go_enter Try.func19, Try.ntmps19
    go_wp2
    go_ret
    exact ⟨rfl, rfl⟩
  · obtain ⟨y, hy⟩ : ∃ y : Int, n - 1 = -y := ⟨-(n - 1), by omega⟩
    have hy0 : 0 < y := by omega
    have hyb : y ≤ 2147483649 := by omega
    have HM : Hid ((n - 1).tmod (k : Int) = -(y % k)) := by
      show _ = _
      rw [hy, Int.neg_tmod, Int.tmod_eq_emod_of_nonneg (by omega)]
    have hr0 := Int.emod_nonneg y (b := (k : Int)) (by omega)
    have hr1 := Int.emod_lt_of_pos y (b := (k : Int)) (by omega)
    have HE : Hid ((n - 1) % (k : Int) = if y % (k : Int) = 0 then 0 else k - y % (k : Int)) := by
      show _ = _
      have e := Int.emod_add_mul_ediv y (k : Int)
      rw [hy]
      split
      · rename_i h
        exact Int.emod_eq_zero_of_dvd (Int.dvd_neg.2 (Int.dvd_of_emod_eq_zero h))
      · have e2 : -y = (k - y % (k : Int)) + k * (-(y / k) - 1) := by
          rw [Int.mul_sub, Int.mul_neg, Int.mul_one]
          omega
        rw [e2, Int.add_mul_emod_self_left]
        exact Int.emod_eq_of_lt (by omega) (by omega)
    have hlow : -9223372036854775808 ≤ n - 1 := by omega
    generalize y % (k : Int) = r at *
    clear hy hyb hy0
    by_cases hz : r = 0
    · have HR : Hid ((0 : Int) = (n - 1) % (k : Int)) := by
        show _ = _
        rw [HE.out, if_pos hz]
      have HT : Hid ((n - 1).tmod (k : Int) = 0) := by
        show _ = _
        rw [HM.out, hz]; rfl
      clear hz HM HE
      go_enter Try.func19, Try.ntmps19
      have ht := HT.out
      go_wp2
      go_ret
      exact ⟨ret_int (by rw [← HR.out]), rfl⟩
    · have HR : Hid ((k : Int) - r = (n - 1) % (k : Int)) := by
        show _ = _
        rw [HE.out, if_neg hz]
      have ht := HM.out
      have hneg : -r < 0 := by omega
      clear HM HE
      go_enter Try.func19, Try.ntmps19
      go_wp2
      go_ret
      exact ⟨ret_int (by rw [← HR.out]; omega), rfl⟩
set_option maxRecDepth 100000 in
set_option maxHeartbeats 400000 in
theorem since_any (first n : Int) (k : Nat) (w : World) (hn : nearB n = true) (hk : 1 ≤ k) (hk2 : k ≤ 64) (hf : -9223372036854775808 ≤ first ∧ first ≤ 9223372036854775807) :
    Calls Try.prog 20 #[.int .i64 first, .int .i64 n, .int .i64 k] w (PlPost w (sinceD first n k)) := by
  have hb := of_decide_eq_true hn
  clear hn
  obtain ⟨h1, h2⟩ := hb
  obtain ⟨hf1, hf2⟩ := hf
  have hkI : (1 : Int) ≤ (k : Int) := by omega
  have hkI2 : (k : Int) ≤ 64 := by omega
  by_cases hin : first ≤ n ∧ n - first < k
  · have HU : Hid (IntKind.u64.wrap (IntKind.u64.wrap n - IntKind.u64.wrap first) = n - first) := by
      show _ = _
      simp only [IntKind.wrap_u64]
      omega
    have HW : Hid (wrap64 (n - first) = n - first) := by
      show _ = _
      unfold wrap64
      omega
    have HO := Lib.hid (if_pos hin : sinceD first n k = some [n - first])
    have hlt : ¬ (k : Int) ≤ IntKind.u64.wrap (IntKind.u64.wrap n - IntKind.u64.wrap first) := by rw [HU.out]; omega
    clear hin
    go_enter Try.func20, Try.ntmps20
    go_wp2
    go_ret2
    rw [HU.out, HW.out]
    exact pl_one _ _ _ _ HO.out
  · have HG : Hid ((k : Int) ≤ IntKind.u64.wrap (IntKind.u64.wrap n - IntKind.u64.wrap first)) := by
      show _ ≤ _
      simp only [IntKind.wrap_u64]
      omega
    have HO := Lib.hid (if_neg hin : sinceD first n k = none)
    have hge := HG.out
    clear hin
    go_enter Try.func20, Try.ntmps20
    go_wp2
    go_ret2
    exact pl_none _ _ _ _ HO.out (Below.refl _ _)
end Go.Proofs.Ytmepalmcfolneaa
