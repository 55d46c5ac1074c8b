
import Derived.Test.YtkbodhhhphodiaaSySz
import Derived.Test.YtkbodhhhphodiaaSyQ2
import Derived.Deep.CutBlock
import Derived.Deep.DeepMust
namespace Go.Proofs.Ytkbodhhhphodiaa
open Go.RowKit
theorem sz_q : ∀ k : Fin 20, wrap64 (1000 * ((k.val + 1 : Nat) : Int) * (60 - ((k.val + 1 : Nat) : Int))) = 1000 * ((k.val + 1 : Nat) : Int) * (60 - ((k.val + 1 : Nat) : Int)) ∧ wrap64 (((k.val + 1 : Nat) : Int) * ((k.val + 1 : Nat) : Int)) = ((k.val + 1 : Nat) : Int) * ((k.val + 1 : Nat) : Int) ∧ wrap64 (1000 * ((k.val + 1 : Nat) : Int) * (60 - ((k.val + 1 : Nat) : Int)) + ((k.val + 1 : Nat) : Int) * ((k.val + 1 : Nat) : Int)) = 1000 * ((k.val + 1 : Nat) : Int) * (60 - ((k.val + 1 : Nat) : Int)) + ((k.val + 1 : Nat) : Int) * ((k.val + 1 : Nat) : Int) ∧ (0 : Int) ≤ 1000 * ((k.val + 1 : Nat) : Int) * (60 - ((k.val + 1 : Nat) : Int)) + ((k.val + 1 : Nat) : Int) * ((k.val + 1 : Nat) : Int) ∧ 1000 * ((k.val + 1 : Nat) : Int) * (60 - ((k.val + 1 : Nat) : Int)) + ((k.val + 1 : Nat) : Int) * ((k.val + 1 : Nat) : Int) ≤ 2000000 := by decide +kernel
set_option maxRecDepth 100000 in
set_option maxHeartbeats 3200000 in
theorem sizes_add (K : Nat) (over : Bool) (n : Int) (S : Int) (ok : Bool) (w : World) (hk1 : 1 ≤ K) (hk2 : K ≤ 20) (p1 p2 q : Int) (hp : 0 ≤ q ∧ q ≤ 2000000) (HQ1 : Hid (wrap64 (p1 + p2) = q)) (HP1 : Hid (wrap64 (1000 * (K : Int) * (60 - (K : Int))) = p1)) (HP2 : Hid (wrap64 ((K : Int) * (K : Int)) = p2)) (hov : over = true ∧ n = q + (K : Int) ∧ ok = false ∧ S = 0 ∨ over = false ∧ n = q ∧ ok = true ∧ S = 60)
    (HS : Hid (signsB (addD K) n = ok ∧ ((signsT (addD K) n).size : Int) = S)) :
    Calls Try.prog 8 #[.int .i64 K, .bool over, .bool true] w fun e w' => e = .returned (.bool true) ∧ Below w.heap.size w w' := by
  obtain ⟨i0, hi, hz0, hz1, hz2⟩ := info_parts info_str
  have c1 : (1 : Int) ≤ (K : Int) := by omega
  have c2 : (K : Int) ≤ 20 := by omega
  have c3 : ¬ (K : Int) < 1 := by omega
  have c4 : ¬ (20 : Int) < (K : Int) := by omega
  have d3 : decide ((K : Int) < 1) = false := decide_eq_false c3
  have d4 : decide ((20 : Int) < (K : Int)) = false := decide_eq_false c4
  have HOV := Lib.hid hov
  clear hov
  go_enter Try.func8, Try.ntmps8
  go_wp2_with fail
  refine (made_any _ _ _ _ _).mono ?_
  rintro e w1 ⟨rfl, hb1⟩
  have hz := hb1.size
  go_wp2_with fail
  go_loopw [8] (fun iv wr => ∃ (j : Nat) (sv : Value), iv = .int .i64 j ∧ j ≤ K ∧ SzI w w1.heap.size syT 1 sv (List.replicate j sB) wr) (fun iv _ => K - (intOf iv).toNat)
  case atStart => exact ⟨0, _, rfl, Nat.zero_le _, ⟨Bx.new _ _, OwnT.nil _ _, hb1.alloc hz _, hz⟩⟩
  case round =>
    obtain ⟨j, sv, rfl, hj, hI⟩ := hrel
    have hws := hI.below.size
    obtain ⟨sa, sc, rfl⟩ := ownT_len hI.own
    rw [List.length_replicate] at hI
    have HI := Lib.hid hI
    have HOW : Hid (wr.ownsRow w.heap.size 9 1 (.slice sa j sc) j ((List.replicate j sB).map Value.string)) := by
      have hh := hI.own
      unfold OwnT at hh
      rw [List.length_replicate] at hh
      exact hh
    have e3 : wr.cell? ⟨w1.heap.size, 3, none⟩ = some (.slice sa j sc) := hI.bx.cell 3
    have hbl := hI.bx.lt
    clear hI
    by_cases hlt : j < K
    · have hltI : (j : Int) < (K : Int) := by omega
      go_wp2_with (at_builtin; refine wpList_append_own_at _ rfl _ _ 23 rfl w.heap.size 9 i0 (.string ⟨#[]⟩) 1 16 Try.underlying23 hi hz0 hz1 hz2 rfl (by decide) _ _ _ rfl (HOW.out.alloc _) ⟨wr.heap.size, 0, none⟩ 1 1 [.string sB] rfl rfl (cell_one_new _ _ _) (by simp [Value.oneCell']) (by unfold maxLen; omega) (by omega) (by simp; omega) ?_; intro v' w3 hown' hgrow _ hat; have hbx3 := (HI.out.alloc _).bx.grown hgrow (row_ne HI.out.own HI.out.bx (by decide)); have g3 : w3.cell? ⟨w1.heap.size, 3, none⟩ = some (.slice sa j sc) := hbx3.cell 3; have f3 := hbx3.frozen 3; have HNX : Hid (SzI w w1.heap.size syT 1 v' (List.replicate (j + 1) sB) (w3.setCell ⟨w1.heap.size, 3, none⟩ v')) := (by rw [← rep_snoc']; exact (HI.out.alloc _).step (by rw [List.length_replicate]; exact hown') hgrow); obtain ⟨va, vc, hva⟩ := ownT_len HNX.out.own; rw [List.length_replicate] at hva; subst hva; clear hown' hgrow hat hbx3)
      go_roundw
      case rel => exact ⟨j + 1, _, by go_num, by omega, HNX.out⟩
      case measure => simp [intOf]; omega
    · obtain rfl : j = K := by omega
      have hbx := HI.out.bx
      have hcx := fun o => hbx.cell o
      clear e3 hbx
      obtain ⟨hp0, hp1⟩ := hp
      go_wp2_with fail
      refine (made_any _ _ _ _ _).mono ?_
      rintro e w4 ⟨rfl, hb4⟩
      have hb4s := hb4.size
      have HB4 : Hid (Bx w4 w1.heap.size (madeC syT 1 (.slice sa j sc))) := (HI.out.bx.alloc _).below hb4 (by simp; omega)
      have HTH := Lib.hid (bx_there HB4.out)
      have HBW4 : Hid (Below w.heap.size w w4) := bseq (HI.out.below.alloc hws _) hb4 (Nat.le_refl _)
      have HR4 := Lib.hid ((rdT_two wr 9 xB yB _ rfl).below hb4)
      clear hb4 hcx
      dsimp only
      refine (show ∀ (a : Act) (w : World), wpList _ _ _ _ a w → _ by assumption) _ _ ?_
      refine wpList_store_mid ?g1 28 (.tmp 7) (.tmp 34) ?g2 w1.heap.size 0 (madeC adT 1 (.slice (some ⟨wr.heap.size, 0, none⟩) 2 2)) ?g3 ?g4 HTH.out def_size ?g5 ?_
      case g1 => rfl
      case g2 => rfl
      case g3 => rfl
      case g4 => rfl
      case g5 => exact one_all _ _ _ _ _
      have HBX : Hid (Bx (w4.setCells w1.heap.size 0 (madeC adT 1 (.slice (some ⟨wr.heap.size, 0, none⟩) 2 2)).toList) w1.heap.size (madeC adT 1 (.slice (some ⟨wr.heap.size, 0, none⟩) 2 2))) := bx_all HB4.out
      have HBS : Hid (Below w.heap.size w (w4.setCells w1.heap.size 0 (madeC adT 1 (.slice (some ⟨wr.heap.size, 0, none⟩) 2 2)).toList)) := sets_below hz _ 0 _ HBW4.out
      have HRS := Lib.hid (rdT_sets (b := w1.heap.size) (vs := (madeC adT 1 (.slice (some ⟨wr.heap.size, 0, none⟩) 2 2)).toList) HR4.out (by omega))
      generalize World.setCells w4 w1.heap.size 0 (madeC adT 1 (.slice (some ⟨wr.heap.size, 0, none⟩) 2 2)).toList = W at *
      have hWs := HBS.out.size
      have hbW := HBX.out.lt
      have q4 : W.cell? ⟨w1.heap.size, 4, none⟩ = some (.slice none 0 0) := HBX.out.cell 4
      have f4 : W.frozen? ⟨w1.heap.size, 4, none⟩ = false := HBX.out.frozen 4
      go_upto_region 12 with fail
      have HXX : Hid (Bx ((W.setCell ⟨w1.heap.size, 4, none⟩ (.slice (some ⟨W.heap.size, 0, none⟩) 2 2)).alloc (.cells #[.int .i64 (1000 * (j : Int)), .int .i64 (j : Int)] 3)) w1.heap.size (madeC4 adT 1 (.slice (some ⟨wr.heap.size, 0, none⟩) 2 2) (.slice (some ⟨W.heap.size, 0, none⟩) 2 2))) := by
        have h1 := (HBX.out.set 4 (.slice (some ⟨W.heap.size, 0, none⟩) 2 2)).alloc (.cells #[.int .i64 (1000 * (j : Int)), .int .i64 (j : Int)] 3)
        rw [set_four] at h1
        exact h1
      have HBXX : Hid (Below w.heap.size w ((W.setCell ⟨w1.heap.size, 4, none⟩ (.slice (some ⟨W.heap.size, 0, none⟩) 2 2)).alloc (.cells #[.int .i64 (1000 * (j : Int)), .int .i64 (j : Int)] 3))) := (HBS.out.setCell (p := ⟨w1.heap.size, 4, none⟩) hz _).alloc (by simpa [World.setCell] using hWs) _
      have HQX : Hid (DefQ ((W.setCell ⟨w1.heap.size, 4, none⟩ (.slice (some ⟨W.heap.size, 0, none⟩) 2 2)).alloc (.cells #[.int .i64 (1000 * (j : Int)), .int .i64 (j : Int)] 3)) (addD (j : Int)) (.slice (some ⟨wr.heap.size, 0, none⟩) 2 2) (.slice (some ⟨W.heap.size, 0, none⟩) 2 2) (.slice none 0 0)) :=
        ⟨⟨(rdT_far HRS.out (by omega)).below (below_al2 _ _), rdI_two _ _ _ _ _ (by simp [World.setCell]), RdP.nil _ _ _, (show 2 ≤ 100000 by decide), (show 2 ≤ 100000 by decide), (show 0 ≤ 100000 by decide)⟩, ⟨show (-9223372036854775808 : Int) ≤ 1 by decide, show (1 : Int) ≤ 9223372036854775807 by decide⟩, fun i => by
          match i with
          | 0 => show 1000 * (j : Int) ≤ 9223372036854775807; omega
          | 1 => show (j : Int) ≤ 9223372036854775807; omega
          | i + 2 => show (0 : Int) ≤ 9223372036854775807; decide⟩
      generalize (W.setCell ⟨w1.heap.size, 4, none⟩ (.slice (some ⟨W.heap.size, 0, none⟩) 2 2)).alloc (.cells #[.int .i64 (1000 * (j : Int)), .int .i64 (j : Int)] 3) = X at *
      have hXs := HBXX.out.size
      have hcx := fun o => HXX.out.cell o
      clear q4 f4
      have P1 := HP1.out
      have P2 := HP2.out
      go_upto_region 13 with fail
      clear P1 P2
      rw [HQ1.out]
      generalize wrap64 (1000 * (j : Int) * (60 - (j : Int))) = z1
      generalize wrap64 ((j : Int) * (j : Int)) = z2
      rcases HOV.out with ⟨rfl, rfl, rfl, rfl⟩ | ⟨rfl, rfl, rfl, rfl⟩
      · have HT1 := Lib.hid HS.out.1
        have HT2 := Lib.hid HS.out.2
        go_wp2_with (first | (go_at_call 11; (with_reducible refine (signs_any _ (addD (j : Int)) _ _ _ HQX.out _).mono ?_); rintro e w5 ⟨rfl, hb5⟩; rw [HT1.out]; generalize signsT (addD (j : Int)) (q + (j : Int)) = T at *; have ht := HT2.out) | (go_at_call 17; (with_reducible refine (map2_any _ _).mono ?_); rintro e w9 ⟨rfl, rfl⟩) | (go_at_call 9; (with_reducible refine (awake_any _).mono ?_); rintro e w6 ⟨rfl, hb6⟩))
        go_ret
        exact ⟨rfl, bseq ((bseq HBXX.out hb5 (Nat.le_refl _)).alloc (Nat.le_trans hXs hb5.size) _) hb6 (Nat.le_refl _)⟩
      · have HT1 := Lib.hid HS.out.1
        have HT2 := Lib.hid HS.out.2
        go_wp2_with (first | (go_at_call 11; (with_reducible refine (signs_any _ (addD (j : Int)) _ _ _ HQX.out _).mono ?_); rintro e w5 ⟨rfl, hb5⟩; rw [HT1.out]; (first | generalize signsT (addD (j : Int)) q = T at * | generalize signsT (addD (j : Int)) n = T at *); have ht := HT2.out) | (go_at_call 17; (with_reducible refine (map2_any _ _).mono ?_); rintro e w9 ⟨rfl, rfl⟩) | (go_at_call 9; (with_reducible refine (awake_any _).mono ?_); rintro e w6 ⟨rfl, hb6⟩))
        go_ret
        exact ⟨rfl, bseq ((bseq HBXX.out hb5 (Nat.le_refl _)).alloc (Nat.le_trans hXs hb5.size) _) hb6 (Nat.le_refl _)⟩
theorem SystemSizes_any (w : World) (k : Int) (_wk : (Lit.int .i64 k).wf = true) (over additive : Bool) :
    Calls Try.prog 8 #[.int .i64 k, .bool over, .bool additive] w fun e w' => e = .returned (.bool true) ∧ Below w.heap.size w w' := by
  by_cases hk : k < 1 ∨ 20 < k
  · exact sizes_no k over additive w hk
  · obtain ⟨K, rfl⟩ : ∃ K : Nat, k = (K : Int) := ⟨k.toNat, by omega⟩
    have h1 : 1 ≤ K := by omega
    have h2 : K ≤ 20 := by omega
    obtain ⟨m, rfl⟩ : ∃ m, K = m + 1 := ⟨K - 1, by omega⟩
    have hm : m < 20 := by omega
    cases additive
    · cases over
      · have h := sz_sym ⟨m, hm⟩
        exact sizes_sym (m + 1) false _ 60 true w h1 h2 (.inr ⟨rfl, rfl, rfl, rfl⟩) ⟨h.1, by have := h.2; simp only at this; rw [this]; rfl⟩
      · have h := sz_symo ⟨m, hm⟩
        exact sizes_sym (m + 1) true _ 0 false w h1 h2 (.inl ⟨rfl, rfl, rfl, rfl⟩) ⟨h.1, by have := h.2; simp only at this; rw [this]; rfl⟩
    · have hq := sz_q ⟨m, hm⟩
      have hp : (0 : Int) ≤ 1000 * ((m + 1 : Nat) : Int) * (60 - ((m + 1 : Nat) : Int)) + ((m + 1 : Nat) : Int) * ((m + 1 : Nat) : Int) ∧ 1000 * ((m + 1 : Nat) : Int) * (60 - ((m + 1 : Nat) : Int)) + ((m + 1 : Nat) : Int) * ((m + 1 : Nat) : Int) ≤ 2000000 := hq.2.2.2
      cases over
      · have h := sz_add ⟨m, hm⟩
        exact sizes_add (m + 1) false _ 60 true w h1 h2 _ _ _ hp hq.2.2.1 hq.1 hq.2.1 (.inr ⟨rfl, rfl, rfl, rfl⟩) ⟨h.1, by have := h.2; simp only at this; rw [this]; rfl⟩
      · have h := sz_addo ⟨m, hm⟩
        exact sizes_add (m + 1) true _ 0 false w h1 h2 _ _ _ hp hq.2.2.1 hq.1 hq.2.1 (.inl ⟨rfl, rfl, rfl, rfl⟩) ⟨h.1, by have := h.2; simp only at this; rw [this]; rfl⟩
end Go.Proofs.Ytkbodhhhphodiaa
