
import Derived.Test.YtmepalmcfolneaaSyI
namespace Go.Proofs.Ytmepalmcfolneaa
open Go.RowKit
theorem wz_zero (k : Nat) : wzD k 0 = [] := by rw [wzD]; rfl
theorem wz_succ (k m : Nat) : wzD k (m + 1) = ((m % k : Nat) : Int) :: wzD k (m / k) := by rw [wzD]; simp
theorem dz_zero (k : Nat) : dzD k 0 = [] := by rw [dzD]; simp
theorem dz_pos (k n : Nat) (h : 0 < n) (hk : 2 ≤ k) : dzD k n = ((n % k : Nat) : Int) :: dzD k (n / k) := by
  rw [dzD, dif_neg (by omega)]
theorem div_half {n k j : Nat} (hk : 2 ≤ k) (h : n < 2 ^ (j + 1)) : n / k < 2 ^ j := by
  rw [Nat.div_lt_iff_lt_mul (by omega)]
  have : 2 ^ j * 2 ≤ 2 ^ j * k := Nat.mul_le_mul_left _ hk
  rw [Nat.pow_succ] at h
  omega
theorem wz_len {k : Nat} (hk : 2 ≤ k) : ∀ (j n : Nat), n < 2 ^ j → (wzD k n).length ≤ j
  | 0, n, h => by
    obtain rfl : n = 0 := by simpa using h
    rw [wz_zero]; exact Nat.le_refl _
  | j + 1, 0, _ => by rw [wz_zero]; exact Nat.zero_le _
  | j + 1, m + 1, h => by
    rw [wz_succ, List.length_cons]
    exact Nat.succ_le_succ (wz_len hk j _ (div_half hk (by omega)))
theorem dz_len {k : Nat} (hk : 2 ≤ k) : ∀ (j n : Nat), n < 2 ^ j → (dzD k n).length ≤ j
  | 0, n, h => by
    obtain rfl : n = 0 := by simpa using h
    rw [dz_zero]; exact Nat.le_refl _
  | j + 1, n, h => by
    by_cases h0 : n = 0
    · rw [h0, dz_zero]; exact Nat.zero_le _
    · rw [dz_pos k n (by omega) hk, List.length_cons]
      exact Nat.succ_le_succ (dz_len hk j _ (div_half hk h))
/-- What a list of one's own gains. -/
theorem own_more {B : Nat} {w0 w w1 : World} {q v' : Value} {xs : List Int} {x : Int} {o : Obj} (hbw : Below B w0 w) (hB : B ≤ w.heap.size) (hown : OwnN B w q xs)
    (hown' : w1.ownsRow B 3 1 v' (xs.length + 1) (xs.map (Value.int .i64) ++ [.int .i64 x])) (hgrow : (w.alloc o).grownBy w1 q.ownBlock) : OwnN B w1 v' (xs ++ [x]) ∧ Below B w0 w1 :=
  ⟨OwnN.snoc hown', (hbw.alloc hB _).grown hgrow (by simp; omega) (fun k hk => (hown.lt k hk).1)⟩
set_option maxRecDepth 100000 in
set_option maxHeartbeats 1600000 in
theorem withoutZero_any (w : World) (n k : Nat) (hn : n ≤ 4294967295) (hk : 2 ≤ k) (hk2 : k ≤ 64) :
    Calls Try.prog 22 #[.int .u32 n, .int .u32 k] w (PlPost w (alphaD k n)) := by
  obtain ⟨i0, hi, hz0, hz1, hz2⟩ := info_parts info_int
  generalize hOO : alphaD k n = OO
  have hkI : (1 : Int) ≤ (k : Int) := by omega
  have hk0 : ¬ (k : Int) = 0 := by omega
  by_cases h0 : n = 0
  · have HO : Hid (OO = none) := by rw [← hOO]; exact if_pos h0
    have h0I : ((n : Int) == 0) = true := by simpa using h0
    have h0J : (n : Int) = 0 := by omega
    clear h0 hOO
    go_enter Try.func22, Try.ntmps22
    go_wp2
    go_ret2
    exact pl_none _ _ _ _ HO.out (Below.refl _ _)
  · have HO : Hid (OO = some (wzD k n).reverse) := by rw [← hOO]; exact if_neg h0
    have HL : Hid ((wzD k n).length ≤ 32) := wz_len hk 32 n (by omega)
    have h0I : ((n : Int) == 0) = false := by simpa using h0
    have h0J : ¬ (n : Int) = 0 := by omega
    clear hOO
    generalize hT : wzD k n = T at *
    have HT := Lib.hid hT
    clear hT
    go_enter Try.func22, Try.ntmps22
    go_wp2
    go_loopw [0, 6] (fun nv q wr => ∃ (m : Nat) (q0 : Value) (xs : List Int), q0 = q ∧ nv = .int .u32 m ∧ m ≤ 4294967295 ∧ Below w.heap.size w wr ∧ OwnN w.heap.size wr q0 xs ∧ xs ++ wzD k m = T) (fun nv _ _ => (intOf nv).toNat)
    case atStart => exact ⟨n, _, [], rfl, rfl, hn, Below.refl _ _, OwnN.nil _ _, HT.out⟩
    case round =>
      obtain ⟨m, q0, xs, rfl, rfl, hm, hbw, hown, heq⟩ := hrel
      have hws := hbw.size
      have hlen : xs.length ≤ 32 := by
        have := HL.out
        rw [← heq, List.length_append] at this
        omega
      have HE := Lib.hid heq
      have HOW := Lib.hid hown
      obtain ⟨b, cc, rfl⟩ := ownN_len hown
      clear hown heq
      generalize hN : xs.length = N at *
      have HN := Lib.hid hN
      clear hN
      by_cases hp : 0 < m
      · obtain ⟨p, rfl⟩ : ∃ p, m = p + 1 := ⟨m - 1, by omega⟩
        have hpI : (0 : Int) < ((p + 1 : Nat) : Int) := by omega
        have hQn : p / k ≤ p := Nat.div_le_self _ _
        have hRn : p % k ≤ p := Nat.mod_le _ _
        have hQ : (p : Int) / (k : Int) = ((p / k : Nat) : Int) := (Int.natCast_ediv _ _).symm
        have hR : (p : Int) % (k : Int) = ((p % k : Nat) : Int) := (Int.natCast_emod _ _).symm
        have HW : Hid (xs ++ [((p % k : Nat) : Int)] ++ wzD k (p / k) = T) := by
          show _ = _
          rw [← HE.out, wz_succ, List.append_assoc]
          rfl
        generalize p / k = Q at *
        generalize p % k = R at *
        have HOW2 : Hid (wr.ownsRow w.heap.size 3 1 (.slice b N cc) N (xs.map (Value.int .i64))) := by
          have hh := HOW.out
          unfold OwnN at hh
          rw [HN.out] at hh
          exact hh
        go_wp2_with (at_builtin; refine wpList_append_own_at _ rfl _ _ 24 rfl w.heap.size 3 i0 (.int .i64 0) 1 8 Try.underlying24 hi hz0 hz1 hz2 rfl (by decide) _ _ _ rfl (HOW2.out.alloc _) ⟨wr.heap.size, 0, none⟩ 1 1 [.int .i64 R] rfl rfl (cell_one_new _ _ _) (by simp [Value.oneCell']) (by unfold maxLen; omega) (by omega) (by simp; omega) ?_)
        intro v' w1 hown' hgrow _ hat
        have HNX := Lib.hid (own_more (x := R) (v' := v') hbw hws HOW.out (by rw [HN.out]; exact hown') hgrow)
        clear hown' hgrow hat
        go_wp2
        go_roundw
        case rel => exact ⟨Q, _, _, rfl, by go_num, by omega, HNX.out.2, HNX.out.1, HW.out⟩
        case measure => simp [intOf]; omega
      · obtain rfl : m = 0 := by omega
        have HX : Hid (xs = T) := by
          show _ = _
          rw [← HE.out, wz_zero, List.append_nil]
        go_wp2_with (go_at_call 30; refine (rd_rev HOW.out (by rw [HN.out]; omega) hws).mono ?_; rintro e w1 ⟨rfl, hr1, hb1⟩)
        go_ret2
        exact ⟨_, by rw [HO.out]; rfl, hbw.trans hb1, fun l hl => by rw [HO.out] at hl; injection hl with hl; subst hl; rw [← HX.out]; exact hr1⟩
end Go.Proofs.Ytmepalmcfolneaa
