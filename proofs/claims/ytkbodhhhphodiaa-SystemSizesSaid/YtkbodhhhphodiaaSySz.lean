
import Derived.Test.YtkbodhhhphodiaaSyQ
namespace Go.Proofs.Ytkbodhhhphodiaa
open Go.RowKit
abbrev sB : ByteArray := ⟨#[115]⟩
theorem sz_sym : ∀ k : Fin 20, signsB (madeD syT (List.replicate (k.val + 1) sB)) (60 * ((k.val + 1 : Nat) : Int)) = true ∧ (signsT (madeD syT (List.replicate (k.val + 1) sB)) (60 * ((k.val + 1 : Nat) : Int))).size = 60 := by decide +kernel
theorem sz_symo : ∀ k : Fin 20, signsB (madeD syT (List.replicate (k.val + 1) sB)) (60 * ((k.val + 1 : Nat) : Int) + 1) = false ∧ (signsT (madeD syT (List.replicate (k.val + 1) sB)) (60 * ((k.val + 1 : Nat) : Int) + 1)).size = 0 := by decide +kernel
abbrev addD (k : Int) : DefD := ⟨⟨#[]⟩, adT, 1, [xB, yB], [1000 * k, k], ⟨#[]⟩, ⟨#[]⟩, ⟨#[]⟩, ⟨#[]⟩, true, [], 0, ⟨#[]⟩, ⟨#[]⟩, ⟨#[]⟩, 0⟩
theorem sz_add : ∀ k : Fin 20, signsB (addD ((k.val + 1 : Nat) : Int)) (1000 * ((k.val + 1 : Nat) : Int) * (60 - ((k.val + 1 : Nat) : Int)) + ((k.val + 1 : Nat) : Int) * ((k.val + 1 : Nat) : Int)) = true ∧ (signsT (addD ((k.val + 1 : Nat) : Int)) (1000 * ((k.val + 1 : Nat) : Int) * (60 - ((k.val + 1 : Nat) : Int)) + ((k.val + 1 : Nat) : Int) * ((k.val + 1 : Nat) : Int))).size = 60 := by decide +kernel
theorem sz_addo : ∀ k : Fin 20, signsB (addD ((k.val + 1 : Nat) : Int)) (1000 * ((k.val + 1 : Nat) : Int) * (60 - ((k.val + 1 : Nat) : Int)) + ((k.val + 1 : Nat) : Int) * ((k.val + 1 : Nat) : Int) + ((k.val + 1 : Nat) : Int)) = false ∧ (signsT (addD ((k.val + 1 : Nat) : Int)) (1000 * ((k.val + 1 : Nat) : Int) * (60 - ((k.val + 1 : Nat) : Int)) + ((k.val + 1 : Nat) : Int) * ((k.val + 1 : Nat) : Int) + ((k.val + 1 : Nat) : Int))).size = 0 := by decide +kernel
set_option maxRecDepth 100000 in
set_option maxHeartbeats 400000 in
theorem map2_any (b : Bool) (w : World) : Calls Try.prog 17 #[.bool b] w fun e w' => e = .returned (.int .i64 (if b = true then 1 else 0)) ∧ w = w' := by
  cases b
  all_goals go_enter Try.func17, Try.ntmps17
  all_goals go_wp2
  all_goals go_ret
  all_goals exact ⟨rfl, rfl⟩
theorem rep_snoc' (j : Nat) (x : ByteArray) : List.replicate j x ++ [x] = List.replicate (j + 1) x := by
  rw [List.replicate_succ']
set_option maxRecDepth 100000 in
set_option maxHeartbeats 1600000 in
theorem sizes_no (k : Int) (over additive : Bool) (w : World) (hk : k < 1 ∨ 20 < k) :
    Calls Try.prog 8 #[.int .i64 k, .bool over, .bool additive] w fun e w' => e = .returned (.bool true) ∧ Below w.heap.size w w' := by
  rcases hk with h | h
  · go_enter Try.func8, Try.ntmps8
    go_wp2_with (go_at_call 9; (with_reducible refine (awake_any _).mono ?_); rintro e w1 ⟨rfl, hb1⟩)
    go_ret
    exact ⟨rfl, hb1⟩
  · have h1 : ¬ k < 1 := by omega
    have hd : decide (k < 1) = false := decide_eq_false h1
    go_enter Try.func8, Try.ntmps8
    go_wp2_with (go_at_call 9; (with_reducible refine (awake_any _).mono ?_); rintro e w1 ⟨rfl, hb1⟩)
    go_ret
    exact ⟨rfl, hb1⟩
set_option maxRecDepth 100000 in
set_option maxHeartbeats 3200000 in
theorem sizes_sym (K : Nat) (over : Bool) (n : Int) (S : Int) (ok : Bool) (w : World) (hk1 : 1 ≤ K) (hk2 : K ≤ 20) (hov : over = true ∧ n = 60 * (K : Int) + 1 ∧ ok = false ∧ S = 0 ∨ over = false ∧ n = 60 * (K : Int) ∧ ok = true ∧ S = 60)
    (HS : Hid (signsB (madeD syT (List.replicate K sB)) n = ok ∧ ((signsT (madeD syT (List.replicate K sB)) n).size : Int) = S)) :
    Calls Try.prog 8 #[.int .i64 K, .bool over, .bool false] w fun e w' => e = .returned (.bool true) ∧ Below w.heap.size w w' := by
  obtain ⟨i0, hi, hz0, hz1, hz2⟩ := info_parts info_str
  have c1 : (1 : Int) ≤ (K : Int) := by omega
  have c2 : (K : Int) ≤ 20 := by omega
  have c3 : ¬ (K : Int) < 1 := by omega
  have c4 : ¬ (20 : Int) < (K : Int) := by omega
  have d3 : decide ((K : Int) < 1) = false := decide_eq_false c3
  have d4 : decide ((20 : Int) < (K : Int)) = false := decide_eq_false c4
  have HOV := Lib.hid hov
  clear hov
  go_enter Try.func8, Try.ntmps8
  go_wp2_with fail
  refine (made_any _ _ _ _ _).mono ?_
  rintro e w1 ⟨rfl, hb1⟩
  have hz := hb1.size
  go_wp2_with fail
  go_loopw [8] (fun iv wr => ∃ (j : Nat) (sv : Value), iv = .int .i64 j ∧ j ≤ K ∧ SzI w w1.heap.size syT 1 sv (List.replicate j sB) wr) (fun iv _ => K - (intOf iv).toNat)
  case atStart => exact ⟨0, _, rfl, Nat.zero_le _, ⟨Bx.new _ _, OwnT.nil _ _, hb1.alloc hz _, hz⟩⟩
  case round =>
    obtain ⟨j, sv, rfl, hj, hI⟩ := hrel
    have hws := hI.below.size
    obtain ⟨sa, sc, rfl⟩ := ownT_len hI.own
    rw [List.length_replicate] at hI
    have HI := Lib.hid hI
    have HOW : Hid (wr.ownsRow w.heap.size 9 1 (.slice sa j sc) j ((List.replicate j sB).map Value.string)) := by
      have hh := hI.own
      unfold OwnT at hh
      rw [List.length_replicate] at hh
      exact hh
    have e3 : wr.cell? ⟨w1.heap.size, 3, none⟩ = some (.slice sa j sc) := hI.bx.cell 3
    have hbl := hI.bx.lt
    clear hI
    by_cases hlt : j < K
    · have hltI : (j : Int) < (K : Int) := by omega
      go_wp2_with (at_builtin; refine wpList_append_own_at _ rfl _ _ 23 rfl w.heap.size 9 i0 (.string ⟨#[]⟩) 1 16 Try.underlying23 hi hz0 hz1 hz2 rfl (by decide) _ _ _ rfl (HOW.out.alloc _) ⟨wr.heap.size, 0, none⟩ 1 1 [.string sB] rfl rfl (cell_one_new _ _ _) (by simp [Value.oneCell']) (by unfold maxLen; omega) (by omega) (by simp; omega) ?_; intro v' w3 hown' hgrow _ hat; have hbx3 := (HI.out.alloc _).bx.grown hgrow (row_ne HI.out.own HI.out.bx (by decide)); have g3 : w3.cell? ⟨w1.heap.size, 3, none⟩ = some (.slice sa j sc) := hbx3.cell 3; have f3 := hbx3.frozen 3; have HNX : Hid (SzI w w1.heap.size syT 1 v' (List.replicate (j + 1) sB) (w3.setCell ⟨w1.heap.size, 3, none⟩ v')) := (by rw [← rep_snoc']; exact (HI.out.alloc _).step (by rw [List.length_replicate]; exact hown') hgrow); obtain ⟨va, vc, hva⟩ := ownT_len HNX.out.own; rw [List.length_replicate] at hva; subst hva; clear hown' hgrow hat hbx3)
      go_roundw
      case rel => exact ⟨j + 1, _, by go_num, by omega, HNX.out⟩
      case measure => simp [intOf]; omega
    · obtain rfl : j = K := by omega
      have hbx := HI.out.bx
      have hcx := fun o => hbx.cell o
      have HQ : Hid (DefQ wr (madeD syT (List.replicate j sB)) (.slice sa j sc) (.slice none 0 0) (.slice none 0 0)) := madeQ HI.out.own.rd (by rw [List.length_replicate]; omega)
      clear e3 hbx
      rcases HOV.out with ⟨rfl, rfl, rfl, rfl⟩ | ⟨rfl, rfl, rfl, rfl⟩
      · have ht1 := HS.out.1
        have ht2 := HS.out.2
        have HT1 := Lib.hid ht1
        have HT2 := Lib.hid ht2
        clear ht1 ht2
        go_wp2_with (first | (go_at_call 11; (with_reducible refine (signs_any _ (madeD syT (List.replicate j sB)) _ _ _ HQ.out _).mono ?_); rintro e w4 ⟨rfl, hb4⟩; rw [HT1.out]; generalize signsT (madeD syT (List.replicate j sB)) (60 * (j : Int) + 1) = T at *; have ht := HT2.out) | (go_at_call 17; (with_reducible refine (map2_any _ _).mono ?_); rintro e w5 ⟨rfl, rfl⟩) | (go_at_call 9; (with_reducible refine (awake_any _).mono ?_); rintro e w6 ⟨rfl, hb6⟩))
        go_ret
        exact ⟨rfl, bseq ((bseq HI.out.below hb4 (Nat.le_refl _)).alloc (Nat.le_trans hws hb4.size) _) hb6 (Nat.le_refl _)⟩
      · have ht1 := HS.out.1
        have ht2 := HS.out.2
        have HT1 := Lib.hid ht1
        have HT2 := Lib.hid ht2
        clear ht1 ht2
        go_wp2_with (first | (go_at_call 11; (with_reducible refine (signs_any _ (madeD syT (List.replicate j sB)) _ _ _ HQ.out _).mono ?_); rintro e w4 ⟨rfl, hb4⟩; rw [HT1.out]; generalize signsT (madeD syT (List.replicate j sB)) (60 * (j : Int)) = T at *; have ht := HT2.out) | (go_at_call 17; (with_reducible refine (map2_any _ _).mono ?_); rintro e w5 ⟨rfl, rfl⟩) | (go_at_call 9; (with_reducible refine (awake_any _).mono ?_); rintro e w6 ⟨rfl, hb6⟩))
        go_ret
        exact ⟨rfl, bseq ((bseq HI.out.below hb4 (Nat.le_refl _)).alloc (Nat.le_trans hws hb4.size) _) hb6 (Nat.le_refl _)⟩
end Go.Proofs.Ytkbodhhhphodiaa
