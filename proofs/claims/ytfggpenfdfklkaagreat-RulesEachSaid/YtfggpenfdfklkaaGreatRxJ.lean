
import Derived.Test.YtfggpenfdfklkaaGreatRxI
import Derived.Test.YtfggpenfdfklkaaGreatRxD
import Derived.Deep.RegionHeld3
import Derived.BigQuiet
namespace Go.Proofs.YtfggpenfdfklkaaGreat
open Go.RowKit
/-! RulesEach: the walk. -/
def rnd9 (x : Int) : Nat := (x % 9).toNat
theorem rnd9_lt (x : Int) : rnd9 x < 9 := by unfold rnd9; omega
theorem rnd9_is (x : Int) : x % 9 = (rnd9 x : Int) := by unfold rnd9; omega
def rnd8 (x : Int) : Nat := (x % 8).toNat
theorem rnd8_lt (x : Int) : rnd8 x < 8 := by unfold rnd8; omega
theorem rnd8_is (x : Int) : x % 8 = (rnd8 x : Int) := by unfold rnd8; omega
def rsE (xs : List Int) (i : Nat) : Nat := rnd9 (nth xs i)
def ksE (ys : List Int) (i : Nat) : Nat := if i < ys.length then rnd8 (nth ys i) else 0
theorem ksE_lt (ys : List Int) (i : Nat) : ksE ys i < 8 := by
  unfold ksE
  split
  · exact rnd8_lt _
  · omega
theorem decT_nat (u : Nat) : strOfNums (decT (u : Int)) = dcB u := by
  unfold decT dcB
  rw [if_neg (by omega), Int.natAbs_natCast]
  rfl
abbrev odC : Array Value := #[.string ⟨#[]⟩, .string ⟨#[120, 59]⟩, .string ⟨#[38, 58, 121, 59]⟩, .string ⟨#[97, 59, 98, 58, 99, 59]⟩, .string ⟨#[58, 59]⟩, .string ⟨#[64, 113, 32, 123, 122, 58, 49, 125, 32]⟩, .string ⟨#[100, 58, 59]⟩, .string ⟨#[40, 101, 58, 102, 59, 41, 59]⟩]
theorem odC_at {k : Nat} (h : k < 8) : odC[k]? = some (.string (od k)) := by
  rcases lt8 h with rfl | rfl | rfl | rfl | rfl | rfl | rfl | rfl <;> rfl
theorem od_size : ∀ k : Fin 8, (od k.val).size ≤ 9 := by decide +kernel
theorem dcB_size {u : Nat} (h : u < 100) : (dcB u).size ≤ 2 := by
  have h1 := nums_length (dcB u)
  rw [nums_dcB] at h1
  have := decD_ln2 u h
  omega
theorem txE_size (xs ys : List Int) : ∀ n, n ≤ 30 → (txE (rsE xs) (ksE ys) n).size ≤ 26 * n
  | 0, _ => Nat.le_refl _
  | n + 1, h => by
    have h1 := txE_size xs ys n (by omega)
    have h2 : (dcB (rsE xs n)).size ≤ 2 := dcB_size (by have := rnd9_lt (nth xs n); unfold rsE; omega)
    have h3 : (dcB n).size ≤ 2 := dcB_size (by omega)
    have h4 : (od (ksE ys n)).size ≤ 9 := od_size ⟨_, ksE_lt ys n⟩
    rw [txE_succ]
    simp only [ByteArray.size_append]
    have e1 : (⟨#[114]⟩ : ByteArray).size = 1 := rfl
    have e2 : (⟨#[32, 123]⟩ : ByteArray).size = 2 := rfl
    have e3 : (⟨#[99, 111, 108, 111, 114, 58, 32, 99]⟩ : ByteArray).size = 8 := rfl
    have e4 : (⟨#[125, 10]⟩ : ByteArray).size = 2 := rfl
    omega
theorem decN_any (u : Nat) (w : World) (hu : u ≤ 1000) : Calls Tryz.prog 21 #[.int .i64 (u : Int)] w fun e w' => e = .returned (.string (dcB u)) ∧ Below w.heap.size w w' := by
  have h := decimal_any (u : Int) w (by omega)
  rwa [decT_nat] at h
set_option maxRecDepth 100000 in
set_option maxHeartbeats 800000 in
theorem each_out (w : World) (xs ys : List Int) (v1 v2 : Value) (hv1 : Rd .i64 w v1 xs) (hv2 : Rd .i64 w v2 ys) (_hm1 : xs.length ≤ 9223372036854775807) (_hm2 : ys.length ≤ 9223372036854775807) (h : 30 < xs.length ∨ 40 < ys.length) :
    Calls Tryz.prog 4 #[v1, v2] w fun e w' => e = .returned (.bool true) ∧ Below w.heap.size w w' := by
  obtain ⟨a, c, rfl, _, hc1⟩ := hv1
  obtain ⟨b, d, rfl, _, hc2⟩ := hv2
  clear hc1 hc2
  by_cases h1 : (30 : Int) < (xs.length : Int)
  · go_enter Tryz.func4, Tryz.ntmps4
    go_wp2_with (go_at_call 9; (with_reducible refine (awake4_any _).mono ?_); rintro e w2 ⟨rfl, hb2⟩)
    go_ret
    exact ⟨rfl, hb2⟩
  have d1 : decide ((30 : Int) < (xs.length : Int)) = false := decide_eq_false h1
  have h2 : (40 : Int) < (ys.length : Int) := by omega
  go_enter Tryz.func4, Tryz.ntmps4
  go_wp2_with (go_at_call 9; (with_reducible refine (awake4_any _).mono ?_); rintro e w2 ⟨rfl, hb2⟩)
  go_ret
  exact ⟨rfl, hb2⟩
theorem run_add (W : World) (a b c : ByteArray) (h : a ++ b = c) (hs : a.size + b.size ≤ 100000) : (Op.stringOp .add a b).run Tryz.prog W = .ok (.string c) W := by
  rw [← h]
  exact run_string_add_sum W _ _ (by omega)
set_option maxRecDepth 100000 in
set_option maxHeartbeats 12800000 in
theorem each_main (w : World) (xs ys : List Int) (v1 v2 : Value) (hv1 : Rd .i64 w v1 xs) (hv2 : Rd .i64 w v2 ys) (hl1 : xs.length ≤ 30) (hl2 : ys.length ≤ 40) :
    Calls Tryz.prog 4 #[v1, v2] w fun e w' => e = .returned (.bool true) ∧ Below w.heap.size w w' := by
  obtain ⟨a, c, rfl, hle1, hcell1⟩ := hv1
  obtain ⟨b, d, rfl, hle2, hcell2⟩ := hv2
  have d1 : decide ((30 : Int) < (xs.length : Int)) = false := decide_eq_false (by omega)
  have d2 : decide ((40 : Int) < (ys.length : Int)) = false := decide_eq_false (by omega)
  have HB1 := Lib.hid ((Below.refl w.heap.size w).alloc (Nat.le_refl _) (.cells odC 9))
  have HC1 := Lib.hid (CB.new (T := 9) w odC)
  go_enter Tryz.func4, Tryz.ntmps4
  go_upto_region 4 with fail
  generalize hW : (w.alloc (.cells _ 9)) = w1 at *
  clear hW
  go_wp2
  go_loopw [6, 7] (fun tv iv wr => ∃ (i : Nat) (t : ByteArray), i ≤ xs.length ∧ iv = .int .i64 i ∧ tv = .string t ∧ t = txE (rsE xs) (ksE ys) i ∧ Below w1.heap.size w1 wr) (fun _ iv _ => xs.length - (intOf iv).toNat)
  case atStart => exact ⟨0, _, Nat.zero_le _, rfl, rfl, rfl, Below.refl _ _⟩
  case round =>
    obtain ⟨i, t, hi5, rfl, rfl, ht, hB⟩ := hrel
    have HT := Lib.hid ht
    have HB := Lib.hid hB
    have hts : t.size ≤ 780 := by
      have := txE_size xs ys i (by omega)
      rw [ht]
      omega
    clear ht hB
    by_cases hlt : i < xs.length
    · obtain ⟨g1, o1, rfl, hg1, hc1⟩ := hcell1 (by omega)
      have x1 : wr.cell? ⟨g1, o1 + i, none⟩ = some (.int .i64 (nth xs i)) := by rw [HB.out.cell (p := ⟨g1, o1 + i, none⟩) (Nat.lt_of_lt_of_le hg1 HB1.out.size), HB1.out.cell (p := ⟨g1, o1 + i, none⟩) hg1]; exact hc1 i hlt
      have hgw : g1 < wr.heap.size := Nat.lt_of_lt_of_le hg1 (Nat.le_trans HB1.out.size HB.out.size)
      have hk8 := ksE_lt ys i
      have x2 : wr.cell? ⟨w.heap.size, ksE ys i, none⟩ = some (.string (od (ksE ys i))) := ((HC1.out.below HB.out HC1.out.lt).cell _).trans (odC_at hk8)
      have how : w.heap.size < wr.heap.size := Nat.lt_of_lt_of_le HC1.out.lt HB.out.size
      have HR := Lib.hid (rnd9_is (nth xs i))
      have hr9 := rnd9_lt (nth xs i)
      have HTS : Hid (txE (rsE xs) (ksE ys) (i + 1) = t ++ ⟨#[114]⟩ ++ dcB (rnd9 (nth xs i)) ++ ⟨#[32, 123]⟩ ++ od (ksE ys i) ++ ⟨#[99, 111, 108, 111, 114, 58, 32, 99]⟩ ++ dcB i ++ ⟨#[125, 10]⟩) := by
        show _ = _
        rw [HT.out]
        rfl
      have HDR := Lib.hid (fun W => decN_any (rnd9 (nth xs i)) W (by omega))
      have HDI := Lib.hid (fun W => decN_any i W (by omega))
      have z1 : (dcB (rnd9 (nth xs i))).size ≤ 2 := dcB_size (by omega)
      have z2 : (dcB i).size ≤ 2 := dcB_size (by omega)
      have z3 : (od (ksE ys i)).size ≤ 9 := od_size ⟨_, hk8⟩
      generalize nth xs i = x at *
      generalize rnd9 x = r at *
      have HKS : Hid (ksE ys i = if i < ys.length then rnd8 (nth ys i) else 0) := rfl
      generalize ksE ys i = k at *
      generalize od k = OD at *
      generalize hDR : dcB r = DR at *
      generalize hDI : dcB i = DI at *
      clear hDR hDI hc1
      obtain ⟨A1, hA1⟩ : ∃ A, t ++ ⟨#[114]⟩ = A := ⟨_, rfl⟩
      obtain ⟨A2, hA2⟩ : ∃ A, A1 ++ DR = A := ⟨_, rfl⟩
      obtain ⟨A3, hA3⟩ : ∃ A, A2 ++ ⟨#[32, 123]⟩ = A := ⟨_, rfl⟩
      obtain ⟨A4, hA4⟩ : ∃ A, A3 ++ OD = A := ⟨_, rfl⟩
      obtain ⟨A5, hA5⟩ : ∃ A, A4 ++ ⟨#[99, 111, 108, 111, 114, 58, 32, 99]⟩ = A := ⟨_, rfl⟩
      obtain ⟨A6, hA6⟩ : ∃ A, A5 ++ DI = A := ⟨_, rfl⟩
      obtain ⟨A7, hA7⟩ : ∃ A, A6 ++ ⟨#[125, 10]⟩ = A := ⟨_, rfl⟩
      rw [hA1, hA2, hA3, hA4, hA5, hA6, hA7] at HTS
      have q1 : A1.size = t.size + 1 := by rw [← hA1, ByteArray.size_append]; rfl
      have q2 : A2.size ≤ A1.size + 2 := by rw [← hA2, ByteArray.size_append]; omega
      have q3 : A3.size = A2.size + 2 := by rw [← hA3, ByteArray.size_append]; rfl
      have q4 : A4.size ≤ A3.size + 9 := by rw [← hA4, ByteArray.size_append]; omega
      have q5 : A5.size = A4.size + 8 := by rw [← hA5, ByteArray.size_append]; rfl
      have q6 : A6.size ≤ A5.size + 2 := by rw [← hA6, ByteArray.size_append]; omega
      have f1 : ∀ W : World, (Op.stringOp .add t ⟨#[114]⟩).run Tryz.prog W = .ok (.string A1) W := fun W => run_add W _ _ _ hA1 (by show _ + 1 ≤ _; omega)
      have f2 : ∀ W : World, (Op.stringOp .add A1 DR).run Tryz.prog W = .ok (.string A2) W := fun W => run_add W _ _ _ hA2 (by omega)
      have f3 : ∀ W : World, (Op.stringOp .add A2 ⟨#[32, 123]⟩).run Tryz.prog W = .ok (.string A3) W := fun W => run_add W _ _ _ hA3 (by show _ + 2 ≤ _; omega)
      have f4 : ∀ W : World, (Op.stringOp .add A3 OD).run Tryz.prog W = .ok (.string A4) W := fun W => run_add W _ _ _ hA4 (by omega)
      have f5 : ∀ W : World, (Op.stringOp .add A4 ⟨#[99, 111, 108, 111, 114, 58, 32, 99]⟩).run Tryz.prog W = .ok (.string A5) W := fun W => run_add W _ _ _ hA5 (by show _ + 8 ≤ _; omega)
      have f6 : ∀ W : World, (Op.stringOp .add A5 DI).run Tryz.prog W = .ok (.string A6) W := fun W => run_add W _ _ _ hA6 (by omega)
      have f7 : ∀ W : World, (Op.stringOp .add A6 ⟨#[125, 10]⟩).run Tryz.prog W = .ok (.string A7) W := fun W => run_add W _ _ _ hA7 (by show _ + 2 ≤ _; omega)
      clear hA1 hA2 hA3 hA4 hA5 hA6 hA7 q1 q2 q3 q4 q5 q6 z1 z2 z3
      have i1 : (0 : Int) ≤ (i : Int) := by omega
      have i2 : (i : Int) < (xs.length : Int) := by omega
      have k1 : (0 : Int) ≤ (k : Int) := by omega
      have k2 : (k : Int) < 8 := by omega
      by_cases hlb : i < ys.length
      · obtain ⟨g2, o2, rfl, hg2, hc2⟩ := hcell2 (by omega)
        have x3 : wr.cell? ⟨g2, o2 + i, none⟩ = some (.int .i64 (nth ys i)) := by rw [HB.out.cell (p := ⟨g2, o2 + i, none⟩) (Nat.lt_of_lt_of_le hg2 HB1.out.size), HB1.out.cell (p := ⟨g2, o2 + i, none⟩) hg2]; exact hc2 i hlb
        have hks := HKS.out
        rw [if_pos hlb] at hks
        have HK := Lib.hid (show nth ys i % 8 = (k : Int) by rw [hks]; exact rnd8_is _)
        have j2 : (i : Int) < (ys.length : Int) := by omega
        generalize nth ys i = y at *
        clear hks hc2
        go_upto_region 11 with (go_at_call 20; refine (round_any y 8 (k : Int) _ (by decide) (by decide) HK.out).mono ?_; rintro e w3 ⟨rfl, rfl⟩)
        go_region_held3 (fun w' => w'.cell? ⟨g1, o1 + i, none⟩ = some (.int .i64 x) ∧ w'.cell? ⟨w.heap.size, k, none⟩ = some (.string OD)) (first | go_keep | exact ⟨(hb4.cell (p := ⟨g1, o1 + i, none⟩) hgw).trans x1, (hb4.cell (p := ⟨w.heap.size, k, none⟩) how).trans x2⟩ | exact ⟨((below_seq HB4.out hb5).cell (p := ⟨g1, o1 + i, none⟩) hgw).trans x1, ((below_seq HB4.out hb5).cell (p := ⟨w.heap.size, k, none⟩) how).trans x2⟩) (first | (go_at_call 20; refine (round_any x 9 (r : Int) _ (by decide) (by decide) HR.out).mono ?_; rintro e w3 ⟨rfl, rfl⟩) | (go_at_call 21; (with_reducible refine (HDR.out _).mono ?_); rintro e w4 ⟨rfl, hb4⟩; have HB4 := Lib.hid (((Below.refl wr.heap.size wr).drew).trans hb4)) | (go_at_call 21; (with_reducible refine (HDI.out _).mono ?_); rintro e w5 ⟨rfl, hb5⟩))
        go_wp2
        go_roundw
        case rel => exact ⟨i + 1, _, by omega, by go_num, rfl, HTS.out.symm, below_seq (below_seq HB.out HB4.out) hb5⟩
        case measure => simp [intOf]; omega
      · have hks := HKS.out
        rw [if_neg hlb] at hks
        subst hks
        have j2 : ¬ (i : Int) < (ys.length : Int) := by omega
        have j2d : decide ((i : Int) < (ys.length : Int)) = false := decide_eq_false j2
        go_upto_region 11 with fail
        go_region_held3 (fun w' => w'.cell? ⟨g1, o1 + i, none⟩ = some (.int .i64 x) ∧ w'.cell? ⟨w.heap.size, 0, none⟩ = some (.string OD)) (first | go_keep | exact ⟨(hb4.cell (p := ⟨g1, o1 + i, none⟩) hgw).trans x1, (hb4.cell (p := ⟨w.heap.size, 0, none⟩) how).trans x2⟩ | exact ⟨((below_seq HB4.out hb5).cell (p := ⟨g1, o1 + i, none⟩) hgw).trans x1, ((below_seq HB4.out hb5).cell (p := ⟨w.heap.size, 0, none⟩) how).trans x2⟩) (first | (go_at_call 20; refine (round_any x 9 (r : Int) _ (by decide) (by decide) HR.out).mono ?_; rintro e w3 ⟨rfl, rfl⟩) | (go_at_call 21; (with_reducible refine (HDR.out _).mono ?_); rintro e w4 ⟨rfl, hb4⟩; have HB4 := Lib.hid (((Below.refl wr.heap.size wr).drew).trans hb4)) | (go_at_call 21; (with_reducible refine (HDI.out _).mono ?_); rintro e w5 ⟨rfl, hb5⟩))
        go_wp2
        go_roundw
        case rel => exact ⟨i + 1, _, by omega, by go_num, rfl, HTS.out.symm, below_seq (below_seq HB.out HB4.out) hb5⟩
        case measure => simp [intOf]; omega
    · obtain rfl : i = xs.length := by omega
      have HRU := Lib.hid (rules_txE (rsE xs) (ksE ys) xs.length (fun j _ => ksE_lt ys j))
      rw [← HT.out] at HRU
      obtain ⟨cap, wb, hcv, hrd, hb0⟩ := bytes_in wr t
      have HA := Lib.hid (rsheet_any (nums t) _ wb hrd (by rw [nums_length]; omega))
      rw [str_nums, HRU.out] at HA
      obtain ⟨RS, hRS⟩ : ∃ RS, ((List.range xs.length).map fun i => RE (⟨#[114]⟩ ++ dcB (rsE xs i)) (⟨#[99]⟩ ++ dcB i) (ksE ys i)) = RS := ⟨_, rfl⟩
      have hlen : RS.length = xs.length := by rw [← hRS, List.length_map, List.length_range]
      have HLN := Lib.hid hlen
      have HAT : Hid (∀ j (hj : j < xs.length), RS[j]'(by rw [HLN.out]; exact hj) = RE (⟨#[114]⟩ ++ dcB (rsE xs j)) (⟨#[99]⟩ ++ dcB j) (ksE ys j)) := by
        show ∀ _ _, _
        intro j hj
        subst hRS
        rw [List.getElem_map, List.getElem_range]
      rw [hRS] at HA
      have HSE : Hid (shE RS = 0 ∧ shR RS = RS) := by
        show _ ∧ _
        unfold shE shR
        rw [hlen, if_pos (by omega), if_pos (by omega)]
        exact ⟨rfl, rfl⟩
      have HB0 := Lib.hid (below_seq HB.out hb0)
      clear hrd hb0 HRU hRS hlen
      go_upto_region 15 with (go_at_call 10; refine HA.out.mono ?_; intro e w5 hq; unfold SheetP at hq; rw [HSE.out.1, HSE.out.2] at hq; obtain ⟨⟨v5, rfl, hr5⟩, hb5⟩ := hq; have HR5 := Lib.hid hr5; obtain ⟨ra, rc, hus5⟩ := hr5.sl; rw [HLN.out] at hus5; subst hus5; have HB5 := Lib.hid (below_seq HB0.out hb5); clear hr5)
      go_wp2
      go_loopw [11] (fun jv wr => ∃ j : Nat, j ≤ xs.length ∧ jv = .int .i64 j ∧ Below w5.heap.size w5 wr) (fun jv _ => xs.length - (intOf jv).toNat)
      case atStart => exact ⟨0, Nat.zero_le _, rfl, Below.refl _ _⟩
      case round =>
        obtain ⟨j, hj, rfl, hB⟩ := hrel
        have HB6 := Lib.hid hB
        clear hB
        by_cases hlt : j < xs.length
        · obtain ⟨g1, o1, rfl, hg1, hc1⟩ := hcell1 (by omega)
          have hb15 := below_seq HB5.out HB6.out
          have x1 : wr.cell? ⟨g1, o1 + j, none⟩ = some (.int .i64 (nth xs j)) := by rw [hb15.cell (p := ⟨g1, o1 + j, none⟩) (Nat.lt_of_lt_of_le hg1 HB1.out.size), HB1.out.cell (p := ⟨g1, o1 + j, none⟩) hg1]; exact hc1 j hlt
          have hgw : g1 < wr.heap.size := Nat.lt_of_lt_of_le hg1 (Nat.le_trans HB1.out.size hb15.size)
          obtain ⟨g, off, c3, hgv, _, _, hgl, hat⟩ := HR5.out.base (by rw [HLN.out]; omega)
          rw [HLN.out] at hgv
          injection hgv with e1 _ e3
          subst e1 e3
          have hra := hat j (by rw [HLN.out]; exact hlt)
          rw [HAT.out j hlt] at hra
          have HR := Lib.hid (rnd9_is (nth xs j))
          have hr9 := rnd9_lt (nth xs j)
          have HDR := Lib.hid (fun W => decN_any (rsE xs j) W (by unfold rsE; omega))
          have HRE : Hid (rnd9 (nth xs j) = rsE xs j) := rfl
          rw [HRE.out] at HR hr9
          have HDI := Lib.hid (fun W => decN_any j W (by omega))
          have z1 : (dcB (rsE xs j)).size ≤ 2 := dcB_size (by omega)
          have z2 : (dcB j).size ≤ 2 := dcB_size (by omega)
          have HKS : Hid (ksE ys j = if j < ys.length then rnd8 (nth ys j) else 0) := rfl
          clear hat hc1 HRE
          generalize nth xs j = x at *
          generalize rsE xs j = r at *
          generalize ksE ys j = k at *
          generalize hDR : dcB r = DR at *
          generalize hDI : dcB j = DI at *
          clear hDR hDI
          obtain ⟨RB, hRB⟩ : ∃ A, ⟨#[114]⟩ ++ DR = A := ⟨_, rfl⟩
          obtain ⟨CN, hCN⟩ : ∃ A, ⟨#[99]⟩ ++ DI = A := ⟨_, rfl⟩
          have f1 : ∀ W : World, (Op.stringOp .add ⟨#[114]⟩ DR).run Tryz.prog W = .ok (.string RB) W := fun W => run_add W _ _ _ hRB (by show 1 + _ ≤ _; omega)
          have f2 : ∀ W : World, (Op.stringOp .add ⟨#[99]⟩ DI).run Tryz.prog W = .ok (.string CN) W := fun W => run_add W _ _ _ hCN (by show 1 + _ ≤ _; omega)
          rw [hRB, hCN] at hra
          clear hRB hCN z1 z2
          have s0 : (RB.toList == RB.toList) = true := by simp
          have s1 : (CN.toList == CN.toList) = true := by simp
          have y0 : wr.cell? ⟨g, off + j * 4, none⟩ = some (.string ⟨#[]⟩) := (HB6.out.cell (p := ⟨g, off + j * 4, none⟩) hgl).trans hra.c0
          have y2 : wr.cell? ⟨g, off + j * 4 + 2, none⟩ = some (.bool true) := (HB6.out.cell (p := ⟨g, off + j * 4 + 2, none⟩) hgl).trans hra.c2
          obtain ⟨pu, yp, hp⟩ := hra.c1
          obtain ⟨ng, noff, nc, hnv, _, _, hngl, hnat⟩ := hp.base (Nat.succ_pos _)
          subst hnv
          obtain ⟨_, hn0, _⟩ := hnat 0 (Nat.succ_pos _)
          have y1 : wr.cell? ⟨g, off + j * 4 + 1, none⟩ = some (.slice (some ⟨ng, noff, none⟩) 1 nc) := (HB6.out.cell (p := ⟨g, off + j * 4 + 1, none⟩) hgl).trans yp
          have n1 : wr.cell? ⟨ng, noff + 1, none⟩ = some (.string RB) := (HB6.out.cell (p := ⟨ng, noff + 1, none⟩) hngl).trans hn0.c1
          obtain ⟨du, yd, hd⟩ := hra.c3
          have hgl2 : g < wr.heap.size := Nat.lt_of_lt_of_le hgl HB6.out.size
          have hngl2 : ng < wr.heap.size := Nat.lt_of_lt_of_le hngl HB6.out.size
          clear hra hp hnat hn0 yp
          have i1 : (0 : Int) ≤ (j : Int) := by omega
          have i2 : (j : Int) < (xs.length : Int) := by omega
          by_cases hlb : j < ys.length
          · obtain ⟨g2, o2, rfl, hg2, hc2⟩ := hcell2 (by omega)
            have x3 : wr.cell? ⟨g2, o2 + j, none⟩ = some (.int .i64 (nth ys j)) := by rw [hb15.cell (p := ⟨g2, o2 + j, none⟩) (Nat.lt_of_lt_of_le hg2 HB1.out.size), HB1.out.cell (p := ⟨g2, o2 + j, none⟩) hg2]; exact hc2 j hlb
            have hks := HKS.out
            rw [if_pos hlb] at hks
            have HK := Lib.hid (show nth ys j % 8 = (k : Int) by rw [hks]; exact rnd8_is _)
            have j2 : (j : Int) < (ys.length : Int) := by omega
            have hgw2 : g2 < wr.heap.size := Nat.lt_of_lt_of_le hg2 (Nat.le_trans HB1.out.size hb15.size)
            generalize nth ys j = y at *
            clear hks hc2 hb15
            by_cases h3 : k = 3
            · subst h3
              have hde : (RE RB CN 3).decls = [dBC, ⟨⟨#[99, 111, 108, 111, 114]⟩, [lf 1 CN], false⟩] := rfl
              rw [hde] at hd
              obtain ⟨dg, doff, dc, hdv, _, _, hdl, hdat⟩ := hd.base (Nat.succ_pos _)
              subst hdv
              have hd0 := hdat 1 (by show 1 < 2; omega)
              have y3 : wr.cell? ⟨g, off + j * 4 + 3, none⟩ = some (.slice (some ⟨dg, doff, none⟩) 2 dc) := (HB6.out.cell (p := ⟨g, off + j * 4 + 3, none⟩) hgl).trans yd
              have t0 : wr.cell? ⟨dg, doff + 3, none⟩ = some (.string ⟨#[99, 111, 108, 111, 114]⟩) := (HB6.out.cell (p := ⟨dg, doff + 3, none⟩) hdl).trans hd0.c0
              obtain ⟨vu, yv, hv⟩ := hd0.c1
              obtain ⟨vg, voff, vc, hvv, _, _, hvl, hvat⟩ := hv.base (Nat.succ_pos _)
              subst hvv
              obtain ⟨_, hv0, _⟩ := hvat 0 (Nat.succ_pos _)
              have t1 : wr.cell? ⟨dg, doff + 3 + 1, none⟩ = some (.slice (some ⟨vg, voff, none⟩) 1 vc) := (HB6.out.cell (p := ⟨dg, doff + 3 + 1, none⟩) hdl).trans yv
              have t2 : wr.cell? ⟨vg, voff + 1, none⟩ = some (.string CN) := (HB6.out.cell (p := ⟨vg, voff + 1, none⟩) hvl).trans hv0.c1
              have hdl2 : dg < wr.heap.size := Nat.lt_of_lt_of_le hdl HB6.out.size
              have hvl2 : vg < wr.heap.size := Nat.lt_of_lt_of_le hvl HB6.out.size
              clear hd hdat hd0 hv hvat hv0 yv yd hde
              go_upto_region 18 with fail
              go_region_held3 (fun w' => w'.cell? ⟨g, off + j * 4, none⟩ = some (.string ⟨#[]⟩) ∧ w'.cell? ⟨g, off + j * 4 + 2, none⟩ = some (.bool true) ∧ w'.cell? ⟨g, off + j * 4 + 1, none⟩ = some (.slice (some ⟨ng, noff, none⟩) 1 nc) ∧ w'.cell? ⟨ng, noff + 1, none⟩ = some (.string RB) ∧ w'.cell? ⟨g1, o1 + j, none⟩ = some (.int .i64 x)) (first | go_keep | exact ⟨(hb4.cell (p := ⟨g, off + j * 4, none⟩) hgl2).trans y0, (hb4.cell (p := ⟨g, off + j * 4 + 2, none⟩) hgl2).trans y2, (hb4.cell (p := ⟨g, off + j * 4 + 1, none⟩) hgl2).trans y1, (hb4.cell (p := ⟨ng, noff + 1, none⟩) hngl2).trans n1, (hb4.cell (p := ⟨g1, o1 + j, none⟩) hgw).trans x1⟩) (first | (go_at_call 20; refine (round_any x 9 (r : Int) _ (by decide) (by decide) HR.out).mono ?_; rintro e w3 ⟨rfl, rfl⟩) | (go_at_call 21; (with_reducible refine (HDR.out _).mono ?_); rintro e w4 ⟨rfl, hb4⟩; have HB4 := Lib.hid (((Below.refl wr.heap.size wr).drew).trans hb4)))
              have y3' := (HB4.out.cell (p := ⟨g, off + j * 4 + 3, none⟩) hgl2).trans y3
              have t0' := (HB4.out.cell (p := ⟨dg, doff + 3, none⟩) hdl2).trans t0
              have t1' := (HB4.out.cell (p := ⟨dg, doff + 3 + 1, none⟩) hdl2).trans t1
              have t2' := (HB4.out.cell (p := ⟨vg, voff + 1, none⟩) hvl2).trans t2
              have x3' := (HB4.out.cell (p := ⟨g2, o2 + j, none⟩) hgw2).trans x3
              have hs4 := HB4.out.size
              clear y0 y1 y2 n1 x1 x3 y3 t0 t1 t2 hb4
              go_upto_region 27 with (go_at_call 20; refine (round_any y 8 3 _ (by decide) (by decide) HK.out).mono ?_; rintro e w6 ⟨rfl, rfl⟩)
              have wr9 : IntKind.i64.wrap 1 = 1 := by decide
              go_region_held3 (fun w' => w'.cell? ⟨g, off + j * 4 + 3, none⟩ = some (.slice (some ⟨dg, doff, none⟩) 2 dc) ∧ w'.cell? ⟨dg, doff + 3, none⟩ = some (.string ⟨#[99, 111, 108, 111, 114]⟩) ∧ w'.cell? ⟨dg, doff + 3 + 1, none⟩ = some (.slice (some ⟨vg, voff, none⟩) 1 vc) ∧ w'.cell? ⟨vg, voff + 1, none⟩ = some (.string CN)) (first | go_keep | exact ⟨(hb7.cell (p := ⟨g, off + j * 4 + 3, none⟩) (Nat.lt_of_lt_of_le hgl2 hs4)).trans y3', (hb7.cell (p := ⟨dg, doff + 3, none⟩) (Nat.lt_of_lt_of_le hdl2 hs4)).trans t0', (hb7.cell (p := ⟨dg, doff + 3 + 1, none⟩) (Nat.lt_of_lt_of_le hdl2 hs4)).trans t1', (hb7.cell (p := ⟨vg, voff + 1, none⟩) (Nat.lt_of_lt_of_le hvl2 hs4)).trans t2'⟩) ((go_at_call 21; (with_reducible refine (HDI.out _).mono ?_); rintro e w7 ⟨rfl, hb7⟩; have HB7 := Lib.hid (((Below.refl w4.heap.size w4).drew).trans hb7)))
              clear wr9
              go_wp2
              go_roundw
              case rel => exact ⟨j + 1, by omega, by go_num, below_seq (below_seq HB6.out HB4.out) HB7.out⟩
              case measure => simp [intOf]; omega
            · have k3 : ((k : Int) == 3) = false := beq_eq_false_iff_ne.2 (by omega)
              have hde : (RE RB CN k).decls = [⟨⟨#[99, 111, 108, 111, 114]⟩, [lf 1 CN], false⟩] := by show DE CN k = _; unfold DE; rw [if_neg h3]; rfl
              rw [hde] at hd
              obtain ⟨dg, doff, dc, hdv, _, _, hdl, hdat⟩ := hd.base (Nat.succ_pos _)
              subst hdv
              have hd0 := hdat 0 (by show 0 < 1; omega)
              have y3 : wr.cell? ⟨g, off + j * 4 + 3, none⟩ = some (.slice (some ⟨dg, doff, none⟩) 1 dc) := (HB6.out.cell (p := ⟨g, off + j * 4 + 3, none⟩) hgl).trans yd
              have t0 : wr.cell? ⟨dg, doff, none⟩ = some (.string ⟨#[99, 111, 108, 111, 114]⟩) := (HB6.out.cell (p := ⟨dg, doff, none⟩) hdl).trans hd0.c0
              obtain ⟨vu, yv, hv⟩ := hd0.c1
              obtain ⟨vg, voff, vc, hvv, _, _, hvl, hvat⟩ := hv.base (Nat.succ_pos _)
              subst hvv
              obtain ⟨_, hv0, _⟩ := hvat 0 (Nat.succ_pos _)
              have t1 : wr.cell? ⟨dg, doff + 1, none⟩ = some (.slice (some ⟨vg, voff, none⟩) 1 vc) := (HB6.out.cell (p := ⟨dg, doff + 1, none⟩) hdl).trans yv
              have t2 : wr.cell? ⟨vg, voff + 1, none⟩ = some (.string CN) := (HB6.out.cell (p := ⟨vg, voff + 1, none⟩) hvl).trans hv0.c1
              have hdl2 : dg < wr.heap.size := Nat.lt_of_lt_of_le hdl HB6.out.size
              have hvl2 : vg < wr.heap.size := Nat.lt_of_lt_of_le hvl HB6.out.size
              clear hd hdat hd0 hv hvat hv0 yv yd hde
              go_upto_region 18 with fail
              go_region_held3 (fun w' => w'.cell? ⟨g, off + j * 4, none⟩ = some (.string ⟨#[]⟩) ∧ w'.cell? ⟨g, off + j * 4 + 2, none⟩ = some (.bool true) ∧ w'.cell? ⟨g, off + j * 4 + 1, none⟩ = some (.slice (some ⟨ng, noff, none⟩) 1 nc) ∧ w'.cell? ⟨ng, noff + 1, none⟩ = some (.string RB) ∧ w'.cell? ⟨g1, o1 + j, none⟩ = some (.int .i64 x)) (first | go_keep | exact ⟨(hb4.cell (p := ⟨g, off + j * 4, none⟩) hgl2).trans y0, (hb4.cell (p := ⟨g, off + j * 4 + 2, none⟩) hgl2).trans y2, (hb4.cell (p := ⟨g, off + j * 4 + 1, none⟩) hgl2).trans y1, (hb4.cell (p := ⟨ng, noff + 1, none⟩) hngl2).trans n1, (hb4.cell (p := ⟨g1, o1 + j, none⟩) hgw).trans x1⟩) (first | (go_at_call 20; refine (round_any x 9 (r : Int) _ (by decide) (by decide) HR.out).mono ?_; rintro e w3 ⟨rfl, rfl⟩) | (go_at_call 21; (with_reducible refine (HDR.out _).mono ?_); rintro e w4 ⟨rfl, hb4⟩; have HB4 := Lib.hid (((Below.refl wr.heap.size wr).drew).trans hb4)))
              have y3' := (HB4.out.cell (p := ⟨g, off + j * 4 + 3, none⟩) hgl2).trans y3
              have t0' := (HB4.out.cell (p := ⟨dg, doff, none⟩) hdl2).trans t0
              have t1' := (HB4.out.cell (p := ⟨dg, doff + 1, none⟩) hdl2).trans t1
              have t2' := (HB4.out.cell (p := ⟨vg, voff + 1, none⟩) hvl2).trans t2
              have x3' := (HB4.out.cell (p := ⟨g2, o2 + j, none⟩) hgw2).trans x3
              have hs4 := HB4.out.size
              clear y0 y1 y2 n1 x1 x3 y3 t0 t1 t2 hb4
              go_upto_region 27 with (go_at_call 20; refine (round_any y 8 (k : Int) _ (by decide) (by decide) HK.out).mono ?_; rintro e w6 ⟨rfl, rfl⟩)
              have wr9 : IntKind.i64.wrap 0 = 0 := by decide
              go_region_held3 (fun w' => w'.cell? ⟨g, off + j * 4 + 3, none⟩ = some (.slice (some ⟨dg, doff, none⟩) 1 dc) ∧ w'.cell? ⟨dg, doff, none⟩ = some (.string ⟨#[99, 111, 108, 111, 114]⟩) ∧ w'.cell? ⟨dg, doff + 1, none⟩ = some (.slice (some ⟨vg, voff, none⟩) 1 vc) ∧ w'.cell? ⟨vg, voff + 1, none⟩ = some (.string CN)) (first | go_keep | exact ⟨(hb7.cell (p := ⟨g, off + j * 4 + 3, none⟩) (Nat.lt_of_lt_of_le hgl2 hs4)).trans y3', (hb7.cell (p := ⟨dg, doff, none⟩) (Nat.lt_of_lt_of_le hdl2 hs4)).trans t0', (hb7.cell (p := ⟨dg, doff + 1, none⟩) (Nat.lt_of_lt_of_le hdl2 hs4)).trans t1', (hb7.cell (p := ⟨vg, voff + 1, none⟩) (Nat.lt_of_lt_of_le hvl2 hs4)).trans t2'⟩) ((go_at_call 21; (with_reducible refine (HDI.out _).mono ?_); rintro e w7 ⟨rfl, hb7⟩; have HB7 := Lib.hid (((Below.refl w4.heap.size w4).drew).trans hb7)))
              clear wr9
              go_wp2
              go_roundw
              case rel => exact ⟨j + 1, by omega, by go_num, below_seq (below_seq HB6.out HB4.out) HB7.out⟩
              case measure => simp [intOf]; omega
          · have hks := HKS.out
            rw [if_neg hlb] at hks
            subst hks
            have j2 : ¬ (j : Int) < (ys.length : Int) := by omega
            have j2d : decide ((j : Int) < (ys.length : Int)) = false := decide_eq_false j2
            clear hb15
            have hde : (RE RB CN 0).decls = [⟨⟨#[99, 111, 108, 111, 114]⟩, [lf 1 CN], false⟩] := rfl
            rw [hde] at hd
            obtain ⟨dg, doff, dc, hdv, _, _, hdl, hdat⟩ := hd.base (Nat.succ_pos _)
            subst hdv
            have hd0 := hdat 0 (by show 0 < 1; omega)
            have y3 : wr.cell? ⟨g, off + j * 4 + 3, none⟩ = some (.slice (some ⟨dg, doff, none⟩) 1 dc) := (HB6.out.cell (p := ⟨g, off + j * 4 + 3, none⟩) hgl).trans yd
            have t0 : wr.cell? ⟨dg, doff, none⟩ = some (.string ⟨#[99, 111, 108, 111, 114]⟩) := (HB6.out.cell (p := ⟨dg, doff, none⟩) hdl).trans hd0.c0
            obtain ⟨vu, yv, hv⟩ := hd0.c1
            obtain ⟨vg, voff, vc, hvv, _, _, hvl, hvat⟩ := hv.base (Nat.succ_pos _)
            subst hvv
            obtain ⟨_, hv0, _⟩ := hvat 0 (Nat.succ_pos _)
            have t1 : wr.cell? ⟨dg, doff + 1, none⟩ = some (.slice (some ⟨vg, voff, none⟩) 1 vc) := (HB6.out.cell (p := ⟨dg, doff + 1, none⟩) hdl).trans yv
            have t2 : wr.cell? ⟨vg, voff + 1, none⟩ = some (.string CN) := (HB6.out.cell (p := ⟨vg, voff + 1, none⟩) hvl).trans hv0.c1
            have hdl2 : dg < wr.heap.size := Nat.lt_of_lt_of_le hdl HB6.out.size
            have hvl2 : vg < wr.heap.size := Nat.lt_of_lt_of_le hvl HB6.out.size
            clear hd hdat hd0 hv hvat hv0 yv yd hde
            go_upto_region 18 with fail
            go_region_held3 (fun w' => w'.cell? ⟨g, off + j * 4, none⟩ = some (.string ⟨#[]⟩) ∧ w'.cell? ⟨g, off + j * 4 + 2, none⟩ = some (.bool true) ∧ w'.cell? ⟨g, off + j * 4 + 1, none⟩ = some (.slice (some ⟨ng, noff, none⟩) 1 nc) ∧ w'.cell? ⟨ng, noff + 1, none⟩ = some (.string RB) ∧ w'.cell? ⟨g1, o1 + j, none⟩ = some (.int .i64 x)) (first | go_keep | exact ⟨(hb4.cell (p := ⟨g, off + j * 4, none⟩) hgl2).trans y0, (hb4.cell (p := ⟨g, off + j * 4 + 2, none⟩) hgl2).trans y2, (hb4.cell (p := ⟨g, off + j * 4 + 1, none⟩) hgl2).trans y1, (hb4.cell (p := ⟨ng, noff + 1, none⟩) hngl2).trans n1, (hb4.cell (p := ⟨g1, o1 + j, none⟩) hgw).trans x1⟩) (first | (go_at_call 20; refine (round_any x 9 (r : Int) _ (by decide) (by decide) HR.out).mono ?_; rintro e w3 ⟨rfl, rfl⟩) | (go_at_call 21; (with_reducible refine (HDR.out _).mono ?_); rintro e w4 ⟨rfl, hb4⟩; have HB4 := Lib.hid (((Below.refl wr.heap.size wr).drew).trans hb4)))
            have y3' := (HB4.out.cell (p := ⟨g, off + j * 4 + 3, none⟩) hgl2).trans y3
            have t0' := (HB4.out.cell (p := ⟨dg, doff, none⟩) hdl2).trans t0
            have t1' := (HB4.out.cell (p := ⟨dg, doff + 1, none⟩) hdl2).trans t1
            have t2' := (HB4.out.cell (p := ⟨vg, voff + 1, none⟩) hvl2).trans t2
            have hs4 := HB4.out.size
            clear y0 y1 y2 n1 x1 y3 t0 t1 t2 hb4
            go_upto_region 27 with fail
            have wr9 : IntKind.i64.wrap 0 = 0 := by decide
            go_region_held3 (fun w' => w'.cell? ⟨g, off + j * 4 + 3, none⟩ = some (.slice (some ⟨dg, doff, none⟩) 1 dc) ∧ w'.cell? ⟨dg, doff, none⟩ = some (.string ⟨#[99, 111, 108, 111, 114]⟩) ∧ w'.cell? ⟨dg, doff + 1, none⟩ = some (.slice (some ⟨vg, voff, none⟩) 1 vc) ∧ w'.cell? ⟨vg, voff + 1, none⟩ = some (.string CN)) (first | go_keep | exact ⟨(hb7.cell (p := ⟨g, off + j * 4 + 3, none⟩) (Nat.lt_of_lt_of_le hgl2 hs4)).trans y3', (hb7.cell (p := ⟨dg, doff, none⟩) (Nat.lt_of_lt_of_le hdl2 hs4)).trans t0', (hb7.cell (p := ⟨dg, doff + 1, none⟩) (Nat.lt_of_lt_of_le hdl2 hs4)).trans t1', (hb7.cell (p := ⟨vg, voff + 1, none⟩) (Nat.lt_of_lt_of_le hvl2 hs4)).trans t2'⟩) ((go_at_call 21; (with_reducible refine (HDI.out _).mono ?_); rintro e w7 ⟨rfl, hb7⟩; have HB7 := Lib.hid (((Below.refl w4.heap.size w4).drew).trans hb7)))
            clear wr9
            go_wp2
            go_roundw
            case rel => exact ⟨j + 1, by omega, by go_num, below_seq (below_seq HB6.out HB4.out) HB7.out⟩
            case measure => simp [intOf]; omega
        · go_wp2_with (go_at_call 9; refine (awake4_any _).mono ?_; rintro e w9 ⟨rfl, hb9⟩)
          go_ret
          exact ⟨rfl, below_seq (below_seq (below_seq HB1.out HB5.out) HB6.out) hb9⟩
end Go.Proofs.YtfggpenfdfklkaaGreat
