
import Derived.Test.YtjjlnmjapfcmaaaDoorDeU
import Derived.Deep.CutBlock
import Derived.Deep.Cut
import Derived.StillTailTactics
namespace Go.Proofs.YtjjlnmjapfcmaaaDoor
open Go.RowKit
set_option maxRecDepth 100000 in
set_option maxHeartbeats 12800000 in
theorem names_main (k how : Int) (i h : Nat) (hi : i < 12) (hh : h < 4) (hk : k % 12 = (i : Int)) (hw : how % 4 = (h : Int)) (w : World) (ht : Tab w) :
    Calls Tryd.prog 6 #[.int .i64 k, .int .i64 how] w fun e w' => e = .returned (.bool true) ∧ Below w.heap.size w w' := by
  have hck := checkN_all ⟨i, hi⟩ ⟨h, hh⟩
  have hW := dnW_at ⟨i, hi⟩
  have hZ := dnZ_at ⟨i, hi⟩
  have hxs := wdN_size ⟨i, hi⟩
  simp only at hck hW hZ hxs
  generalize hX : wdN i = X at *
  generalize hZZ : wnN i = Z at *
  have hF := form_at X ⟨h, hh⟩
  simp only at hF
  obtain ⟨A1, hA1⟩ : ∃ A, (⟨#[32]⟩ : ByteArray) ++ X = A := ⟨_, rfl⟩
  obtain ⟨A2, hA2⟩ : ∃ A, A1 ++ (⟨#[10]⟩ : ByteArray) = A := ⟨_, rfl⟩
  obtain ⟨A3, hA3⟩ : ∃ A, X ++ (⟨#[32, 120]⟩ : ByteArray) = A := ⟨_, rfl⟩
  obtain ⟨A4, hA4⟩ : ∃ A, (⟨#[39]⟩ : ByteArray) ++ X = A := ⟨_, rfl⟩
  obtain ⟨A5, hA5⟩ : ∃ A, A4 ++ (⟨#[39]⟩ : ByteArray) = A := ⟨_, rfl⟩
  have z1 : A1.size = 1 + X.size := by rw [← hA1, ByteArray.size_append]; rfl
  have z4 : A4.size = 1 + X.size := by rw [← hA4, ByteArray.size_append]; rfl
  have g1 : ∀ W : World, (Op.stringOp .add ⟨#[32]⟩ X).run Tryd.prog W = .ok (.string A1) W := fun W => by rw [← hA1]; exact run_string_add_sum W _ _ (by show 1 + X.size ≤ _; omega)
  have g2 : ∀ W : World, (Op.stringOp .add A1 ⟨#[10]⟩).run Tryd.prog W = .ok (.string A2) W := fun W => by rw [← hA2]; exact run_string_add_sum W _ _ (by show A1.size + 1 ≤ _; omega)
  have g3 : ∀ W : World, (Op.stringOp .add X ⟨#[32, 120]⟩).run Tryd.prog W = .ok (.string A3) W := fun W => by rw [← hA3]; exact run_string_add_sum W _ _ (by show X.size + 2 ≤ _; omega)
  have g4 : ∀ W : World, (Op.stringOp .add ⟨#[39]⟩ X).run Tryd.prog W = .ok (.string A4) W := fun W => by rw [← hA4]; exact run_string_add_sum W _ _ (by show 1 + X.size ≤ _; omega)
  have g5 : ∀ W : World, (Op.stringOp .add A4 ⟨#[39]⟩).run Tryd.prog W = .ok (.string A5) W := fun W => by rw [← hA5]; exact run_string_add_sum W _ _ (by show A4.size + 1 ≤ _; omega)
  rw [hA1, hA2, hA3, hA4, hA5] at hF
  clear z1 z4 hA1 hA2 hA3 hA4 hA5
  generalize hY : formN X h = Y at *
  have HCK := Lib.hid hck
  have HF := Lib.hid hF
  have HB : Hid (Below w.heap.size w ((w.alloc (.cells dnW 9)).alloc (.cells dnZ 9))) := ((Below.refl w.heap.size w).alloc (Nat.le_refl _) _).alloc (by simp) _
  have HCW : Hid (((w.alloc (.cells dnW 9)).alloc (.cells dnZ 9)).cell? ⟨w.heap.size, i, none⟩ = some (.string X)) := by
    have := cell_of_row ((w.alloc (.cells dnW 9)).alloc (.cells dnZ 9)) w.heap.size i _ _ (0, 0) ((CB.new (T := 9) w dnW).alloc _)
    exact this.trans hW
  have HCZ : Hid (((w.alloc (.cells dnW 9)).alloc (.cells dnZ 9)).cell? ⟨w.heap.size + 1, i, none⟩ = some (.string Z)) := by
    have h1 := CB.new (T := 9) (w.alloc (.cells dnW 9)) dnZ
    rw [show (w.alloc (.cells dnW 9)).heap.size = w.heap.size + 1 by simp] at h1
    exact (cell_of_row _ (w.heap.size + 1) i _ _ (0, 0) h1).trans hZ
  have HZ2 : Hid (((w.alloc (.cells dnW 9)).alloc (.cells dnZ 9)).heap.size = w.heap.size + 2) := by show _ = _; simp
  have HK := Lib.hid hk
  have HW := Lib.hid hw
  have HT := Lib.hid ht
  clear hck hW hZ hF hX hZZ hY hk hw ht
  go_enter Tryd.func6, Tryd.ntmps6
  go_upto_region 3 with fail
  generalize ((w.alloc (.cells _ 9)).alloc (.cells _ 9)) = W2 at *
  have cW := HCW.out
  have cZ := HCZ.out
  have hi0 : (0 : Int) ≤ (i : Int) := by omega
  have hi1 : (i : Int) < 12 := by omega
  have hh0 : (0 : Int) ≤ (h : Int) := by omega
  have hh1 : (h : Int) < 4 := by omega
  have hz : ∀ W : World, (W.alloc (.cells #[.string X, .string A2, .string A3, .string A5] 9)).cell? ⟨W.heap.size, h, none⟩ = some (.string Y) := fun W => by
    have := cell_of_row (W.alloc (.cells #[.string X, .string A2, .string A3, .string A5] 9)) W.heap.size h _ _ (0, 0) (CB.new (T := 9) W _)
    exact this.trans HF.out
  go_upto_region 4 with (go_at_call 19; refine (round_any k 12 i _ (by decide) (by decide) HK.out).mono ?_; rintro e w3 ⟨rfl, rfl⟩)
  have HB4 := Lib.hid (show ∀ o, Below W2.heap.size W2 (W2.drew.alloc o) from fun o => (Below.refl _ _).drew.alloc (Nat.le_refl _) o)
  go_cut [8] from 18 to 43 (fun yv wx => yv = .string Y ∧ Below W2.heap.size W2 wx)
  case first =>
    have hS0 : (fun w' : World => w'.cell? ⟨w.heap.size, i, none⟩ = some (.string X)) W2.drew := cW
    refine wp_region_held_drew (S := (fun w' : World => w'.cell? ⟨w.heap.size, i, none⟩ = some (.string X))) (by kernel_rfl) hS0 (fun hHeld => ?_)
    refine wpAnyH_take (i := 0) (oi := _) (v := ?_) rfl (by kernel_rfl) (by kernel_rfl) (by kernel_rfl) (fun _ _ _ h => h) (Or.inl ⟨by rfl, ?hyQ⟩) (by assumption) ?_
    case hyQ => (intro wq hSw; (try dsimp only at hSw); go_simp; try (with_reducible rfl))
    try simp only [Act.put, List.setIfInBounds_toArray]
    refine wpAnyH_take (i := 1) (oi := _) (v := ?_) rfl (by kernel_rfl) (by kernel_rfl) (by kernel_rfl) (fun _ _ _ h => h) (Or.inl ⟨by rfl, ?hyQ⟩) (by assumption) ?_
    case hyQ => (intro wq hSw; (try dsimp only at hSw); go_simp; try (with_reducible rfl))
    try simp only [Act.put]
    refine wpAnyH_take (i := 2) (oi := _) (v := ?_) rfl (by kernel_rfl) (by kernel_rfl) (by kernel_rfl) (fun _ _ _ h => h) (Or.inl ⟨by rfl, ?hyQ⟩) (by assumption) ?_
    case hyQ => (intro wq hSw; (try dsimp only at hSw); go_simp; try (with_reducible rfl))
    try simp only [Act.put]
    refine wpAnyH_take (i := 3) (oi := _) (v := ?_) rfl (by kernel_rfl) (by kernel_rfl) (by kernel_rfl) (fun _ _ _ h => h) (Or.inl ⟨by rfl, ?hyQ⟩) (by assumption) ?_
    case hyQ => (intro wq hSw; (try dsimp only at hSw); go_simp; try (with_reducible rfl))
    try simp only [Act.put]
    refine wpAnyH_take (i := 4) (oi := _) (v := ?_) rfl (by kernel_rfl) (by kernel_rfl) (by kernel_rfl) (fun _ _ _ h => h) (Or.inl ⟨by rfl, ?hyQ⟩) (by assumption) ?_
    case hyQ => (intro wq hSw; (try dsimp only at hSw); go_simp; try (with_reducible rfl))
    try simp only [Act.put]
    refine wpAnyH_take (i := 5) (oi := _) (v := ?_) rfl (by kernel_rfl) (by kernel_rfl) (by kernel_rfl) (fun _ _ _ h => h) (Or.inl ⟨by rfl, ?hyQ⟩) (by assumption) ?_
    case hyQ => (intro wq hSw; (try dsimp only at hSw); go_simp; try (with_reducible rfl))
    try simp only [Act.put]
    refine wpAnyH_take (i := 6) (oi := _) (v := ?_) rfl (by kernel_rfl) (by kernel_rfl) (by kernel_rfl) (fun _ _ _ h => h) (Or.inl ⟨by rfl, ?hyQ⟩) (by assumption) ?_
    case hyQ => (intro wq hSw; (try dsimp only at hSw); go_simp; try (with_reducible rfl))
    try simp only [Act.put]
    refine wpAnyH_take (i := 7) (oi := _) (v := ?_) rfl (by kernel_rfl) (by kernel_rfl) (by kernel_rfl) (fun _ _ _ h => h) (Or.inl ⟨by rfl, ?hyQ⟩) (by assumption) ?_
    case hyQ => (intro wq hSw; (try dsimp only at hSw); go_simp; try (with_reducible rfl))
    try simp only [Act.put]
    refine wpAnyH_take (i := 8) (oi := _) (v := ?_) rfl (by kernel_rfl) (by kernel_rfl) (by kernel_rfl) (fun _ _ _ h => h) (Or.inl ⟨by rfl, ?hyQ⟩) (by assumption) ?_
    case hyQ => (intro wq hSw; (try dsimp only at hSw); go_simp; try (with_reducible rfl))
    try simp only [Act.put]
    refine wpAnyH_take (i := 9) (oi := _) (v := ?_) rfl (by kernel_rfl) (by kernel_rfl) (by kernel_rfl) (fun _ _ _ h => h) (Or.inl ⟨by rfl, ?hyQ⟩) (by assumption) ?_
    case hyQ => (intro wq hSw; (try dsimp only at hSw); go_simp; try (with_reducible rfl))
    try simp only [Act.put]
    refine wpAnyH_take (i := 10) (oi := _) (v := ?_) rfl (by kernel_rfl) (by kernel_rfl) (by kernel_rfl) (fun _ _ _ h => h) (Or.inl ⟨by rfl, ?hyQ⟩) (by assumption) ?_
    case hyQ => (intro wq hSw; (try dsimp only at hSw); go_simp; try (with_reducible rfl))
    try simp only [Act.put]
    refine wpAnyH_take (i := 11) (oi := _) (v := ?_) rfl (by kernel_rfl) (by kernel_rfl) (by kernel_rfl) (fun _ _ _ h => h) (Or.inl ⟨by rfl, ?hyQ⟩) (by assumption) ?_
    case hyQ => (intro wq hSw; (try dsimp only at hSw); go_simp; try (with_reducible rfl))
    try simp only [Act.put]
    refine wpAnyH_take (i := 12) (oi := _) (v := ?_) rfl (by kernel_rfl) (by kernel_rfl) (by kernel_rfl) (fun _ _ _ h => h) (Or.inl ⟨by rfl, ?hyQ⟩) (by assumption) ?_
    case hyQ => (intro wq hSw; (try dsimp only at hSw); go_simp; try (with_reducible rfl))
    try simp only [Act.put]
    refine wpAnyH_take (i := 13) (oi := _) (v := ?_) rfl (by kernel_rfl) (by kernel_rfl) (by kernel_rfl) (fun _ _ _ h => h) (Or.inl ⟨by rfl, ?hyQ⟩) (by assumption) ?_
    case hyQ => (intro wq hSw; (try dsimp only at hSw); go_simp; try (with_reducible rfl))
    try simp only [Act.put]
    refine wpAnyH_take (i := 14) (oi := _) (v := ?_) rfl (by kernel_rfl) (by kernel_rfl) (by kernel_rfl) (fun _ _ _ h => h) (Or.inl ⟨by rfl, ?hyQ⟩) (by assumption) ?_
    case hyQ => (intro wq hSw; (try dsimp only at hSw); go_simp; try (with_reducible rfl))
    try simp only [Act.put]
    refine wpAnyH_take (i := 15) (oi := _) (v := ?_) rfl (by kernel_rfl) (by kernel_rfl) (by kernel_rfl) (fun _ _ _ h => h) (Or.inl ⟨by rfl, ?hyQ⟩) (by assumption) ?_
    case hyQ => (intro wq hSw; (try dsimp only at hSw); go_simp; try (with_reducible rfl))
    try simp only [Act.put]
    refine wpAnyH_take (i := 16) (oi := _) (v := ?_) rfl (by kernel_rfl) (by kernel_rfl) (by kernel_rfl) (fun _ _ _ h => h) (Or.inl ⟨by rfl, ?hyQ⟩) (by assumption) ?_
    case hyQ => (intro wq hSw; (try dsimp only at hSw); go_simp; try (with_reducible rfl))
    try simp only [Act.put]
    refine wpAnyH_take (i := 17) (oi := _) (v := ?_) rfl (by kernel_rfl) (by kernel_rfl) (by kernel_rfl) (fun _ _ _ h => h) (Or.inl ⟨by rfl, ?hyQ⟩) (by assumption) ?_
    case hyQ => (intro wq hSw; (try dsimp only at hSw); go_simp; try (with_reducible rfl))
    try simp only [Act.put]
    refine wpAnyH_take (i := 18) (oi := _) (v := ?_) rfl (by kernel_rfl) (by kernel_rfl) (by kernel_rfl) (fun _ _ _ h => h) (Or.inl ⟨by rfl, ?hyQ⟩) (by assumption) ?_
    case hyQ => (intro wq hSw; (try dsimp only at hSw); go_simp; try (with_reducible rfl))
    try simp only [Act.put]
    refine wpAnyH_take (i := 19) (oi := _) (v := ?_) rfl (by kernel_rfl) (by kernel_rfl) (by kernel_rfl) (fun _ _ _ h => h) (Or.inl ⟨by rfl, ?hyQ⟩) (by assumption) ?_
    case hyQ => (intro wq hSw; (try dsimp only at hSw); go_simp; try (with_reducible rfl))
    try simp only [Act.put]
    refine wpAnyH_take (i := 20) (oi := _) (v := ?_) rfl (by kernel_rfl) (by kernel_rfl) (by kernel_rfl) (fun _ _ _ h => h) (Or.inl ⟨by rfl, ?hyQ⟩) (by assumption) ?_
    case hyQ => (intro wq hSw; (try dsimp only at hSw); go_simp; try (with_reducible rfl))
    try simp only [Act.put]
    refine wpAnyH_take (i := 22) (oi := _) (v := ?_) rfl (by kernel_rfl) (by kernel_rfl) (by kernel_rfl) (fun _ _ _ h => h) (Or.inl ⟨by rfl, ?hyQ⟩) (by assumption) ?_
    case hyQ => (intro wq hSw; (try dsimp only at hSw); go_simp; try (with_reducible rfl))
    try simp only [Act.put]
    have hSA : (fun w' : World => w'.cell? ⟨w.heap.size, i, none⟩ = some (.string X)) (W2.drew.alloc (.cells #[.string X, .string A2, .string A3, .string A5] 9)) := (((Below.refl W2.drew.heap.size W2.drew).alloc (Nat.le_refl _) _).cell (p := ⟨w.heap.size, i, none⟩) (by have := HZ2.out; show w.heap.size < W2.heap.size; omega)).trans cW
    refine wpAnyH_ready (rs := [21, 23]) (by kernel_rfl) (by simp) ?_
    refine AllReadyH.cons rfl (fun K hK => ?_) (AllReadyH.cons rfl (fun K hK => ?_) AllReadyH.nil)
    · rw [if_pos (by rfl)]
      go_simp
      refine hK.out _ _ hSA (fun hHeld2 => ?_)
      clear hK K
      refine wpAnyH_ready (rs := [23]) (by kernel_rfl) (by simp) ?_
      refine AllReadyH.cons rfl (fun K hK => ?_) AllReadyH.nil
      rw [if_pos (by rfl)]
      go_simp
      go_at_call 19
      refine (round_any how 4 h _ (by decide) (by decide) HW.out).mono ?_
      rintro e w3 ⟨rfl, rfl⟩
      refine hK.out _ _ hSA (fun hHeld3 => ?_)
      clear hK K
      refine wpAnyH_take (i := 24) (oi := _) (v := ?_) rfl (by kernel_rfl) (by kernel_rfl) (by kernel_rfl) (fun _ _ _ h => h) (Or.inl ⟨by rfl, ?hyQ⟩) (by assumption) ?_
      case hyQ => (intro wq hSw; (try dsimp only at hSw); go_simp; try (with_reducible rfl))
      try simp only [Act.put, List.setIfInBounds_toArray]
      refine wpAnyH_ready (rs := [25]) (by kernel_rfl) (by simp) ?_
      refine AllReadyH.cons rfl (fun K hK => ?_) AllReadyH.nil
      rw [if_pos (by rfl)]
      go_simp
      refine hK.out _ _ hSA (fun hHeld5 => ?_)
      clear hK K
      refine wpAnyH_take (i := 26) (oi := _) (v := ?_) rfl (by kernel_rfl) (by kernel_rfl) (by kernel_rfl) (fun _ _ _ h => h) (Or.inl ⟨by rfl, ?hyQ⟩) (by assumption) ?_
      case hyQ => (intro wq hSw; (try dsimp only at hSw); go_simp; try (with_reducible rfl))
      try simp only [Act.put, List.setIfInBounds_toArray]
      refine wpAnyH_done (by kernel_rfl) ?_ _
      go_wp2
      go_meet
      exact ⟨rfl, HB4.out _⟩
    · rw [if_pos (by rfl)]
      go_simp
      go_at_call 19
      refine (round_any how 4 h _ (by decide) (by decide) HW.out).mono ?_
      rintro e w3 ⟨rfl, rfl⟩
      refine hK.out _ _ hS0 (fun hHeld2 => ?_)
      clear hK K
      refine wpAnyH_ready (rs := [21]) (by kernel_rfl) (by simp) ?_
      refine AllReadyH.cons rfl (fun K hK => ?_) AllReadyH.nil
      rw [if_pos (by rfl)]
      go_simp
      refine hK.out _ _ hSA (fun hHeld3 => ?_)
      clear hK K
      refine wpAnyH_take (i := 24) (oi := _) (v := ?_) rfl (by kernel_rfl) (by kernel_rfl) (by kernel_rfl) (fun _ _ _ h => h) (Or.inl ⟨by rfl, ?hyQ⟩) (by assumption) ?_
      case hyQ => (intro wq hSw; (try dsimp only at hSw); go_simp; try (with_reducible rfl))
      try simp only [Act.put, List.setIfInBounds_toArray]
      refine wpAnyH_ready (rs := [25]) (by kernel_rfl) (by simp) ?_
      refine AllReadyH.cons rfl (fun K hK => ?_) AllReadyH.nil
      rw [if_pos (by rfl)]
      go_simp
      refine hK.out _ _ hSA (fun hHeld5 => ?_)
      clear hK K
      refine wpAnyH_take (i := 26) (oi := _) (v := ?_) rfl (by kernel_rfl) (by kernel_rfl) (by kernel_rfl) (fun _ _ _ h => h) (Or.inl ⟨by rfl, ?hyQ⟩) (by assumption) ?_
      case hyQ => (intro wq hSw; (try dsimp only at hSw); go_simp; try (with_reducible rfl))
      try simp only [Act.put, List.setIfInBounds_toArray]
      refine wpAnyH_done (by kernel_rfl) ?_ _
      go_wp2
      go_meet
      exact ⟨rfl, HB4.out _⟩
  case rest =>
    obtain ⟨rfl, hbc⟩ := hcut
    clear g1 g2 g3 g4 g5 hz
    have cZ := (hbc.cell (p := ⟨w.heap.size + 1, i, none⟩) (by have := HZ2.out; show w.heap.size + 1 < W2.heap.size; omega)).trans cZ
    have HBC := Lib.hid (below_seq HB.out hbc)
    have HTC := Lib.hid (HT.out.below HBC.out)
    have hck := HCK.out
    unfold checkN at hck
    simp only [Bool.and_eq_true, decide_eq_true_eq] at hck
    obtain ⟨⟨⟨k1, k2⟩, k3⟩, k4⟩ := hck
    have HNC := Lib.hid (fun (W : World) => nodes10_any Y W (by omega))
    have K2 := Lib.hid k2
    have K3 := Lib.hid (tx_of k3)
    clear k2 k3
    by_cases h1 : h ≤ 1
    · rw [if_pos h1] at k4
      simp only [Bool.and_eq_true, decide_eq_true_eq, beq_iff_eq] at k4
      obtain ⟨⟨⟨k5, k6⟩, k7⟩, k8⟩ := k4
      have HNA : Hid (nameS (ndsS (toks (readS Y))) = (Z, !Z.toList.isEmpty)) := Prod.ext k5 k6
      have HON := Lib.hid (fun (W : World) (ht : Tab W) => one_any (oneN Y) W ht k7)
      clear k5 k6 k7
      have hhI : ¬ (1 : Int) < (h : Int) := by omega
      have hhd : decide ((1 : Int) < (h : Int)) = false := decide_eq_false hhI
      generalize hze : Z.toList.isEmpty = z0 at *
      generalize hzd : (Z.toList == [100, 105, 115, 99]) = z1 at *
      generalize hzc : (Z.toList == [100, 101, 99, 105, 109, 97, 108]) = z2 at *
      have HMY : Hid (mayN Z = (!z0 && !z1 && !z2)) := by show _ = _; unfold mayN; rw [hze, hzd, hzc]
      generalize hmb : mayN Z = MB at *
      have HK8 := Lib.hid k8
      obtain ⟨B1, hB1⟩ : ∃ B, preN ++ Y = B := ⟨_, rfl⟩
      have z9 : B1.size = 15 + Y.size := by rw [← hB1, ByteArray.size_append]; rfl
      have g6 : ∀ W : World, (Op.stringOp .add preN Y).run Tryd.prog W = .ok (.string B1) W := fun W => by rw [← hB1]; exact run_string_add_sum W _ _ (by show 15 + Y.size ≤ _; omega)
      have g7 : ∀ W : World, (Op.stringOp .add B1 postN).run Tryd.prog W = .ok (.string (oneN Y)) W := fun W => by
        have := run_string_add_sum (P := Tryd.prog) W B1 postN (by show B1.size + 15 ≤ _; omega)
        rw [this]
        unfold oneN
        rw [hB1]
      generalize hres : resO (oneN Y) = RD at *
      generalize herr : errO (oneN Y) = RE at *
      generalize oneN Y = OY at *
      clear hmb k8 z9 hB1 k1 hres herr
      go_upto_region 9 with (first | (go_at_call 14; refine (HNC.out _).mono ?_; rintro e w5 ⟨⟨v5, rfl, hr5⟩, hb5⟩; have HR5 := Lib.hid hr5; have HB5 := Lib.hid (below_seq HBC.out hb5); have HC5 := Lib.hid hb5; clear hb5 hr5) | (go_at_call 15; refine (name_any (HT.out.below HB5.out) HR5.out K2.out K3.out).mono ?_; rintro e w6 ⟨rfl, hb6⟩; rw [HNA.out]; have HB6 := Lib.hid (below_seq HB5.out hb6); have HC6 := Lib.hid (below_seq HC5.out hb6); clear hb6) | (go_at_call 19; refine (round_any how 4 h _ (by decide) (by decide) HW.out).mono ?_; rintro e w7 ⟨rfl, rfl⟩) | (go_at_call 20; refine (HON.out _ (HT.out.below HB6.out)).mono ?_; rintro e w8 ⟨⟨sv8, rv8, rfl, hs8, hr8⟩, hb8⟩; obtain ⟨sa8, sc8, rfl⟩ := ownT_len hs8; obtain ⟨ra8, rc8, rfl, _⟩ := row_sl hr8; have HB8 := Lib.hid (below_seq HB6.out hb8); have HC8 := Lib.hid (below_seq HC6.out hb8); clear hs8 hr8 hb8))
      have HA9 := Lib.hid (show Below w8.heap.size w8 (w8.alloc (.cells (defC RD (.slice sa8 RD.syms.length sc8) (.slice none 0 0) (.slice ra8 RD.rng.length rc8)) 30)) from (Below.refl _ _).alloc (Nat.le_refl _) _)
      have HX9 := Lib.hid (CB.new (T := 30) w8 (defC RD (.slice sa8 RD.syms.length sc8) (.slice none 0 0) (.slice ra8 RD.rng.length rc8)))
      have HB9 := Lib.hid (below_seq HB8.out HA9.out)
      have HT9 := Lib.hid (HT.out.below HB9.out)
      have HC9 := Lib.hid (below_seq HC8.out HA9.out)
      generalize w8.alloc (.cells _ 30) = W9 at *
      have cZ9 := (HC9.out.cell (p := ⟨w.heap.size + 1, i, none⟩) (by have := HZ2.out; have := hbc.size; show w.heap.size + 1 < wc.heap.size; omega)).trans cZ
      have cN9 : W9.cell? ⟨w8.heap.size, 0, none⟩ = some (.string RD.name) := HX9.out.cell 0
      clear cZ cW g6 g7
      go_cut [13] from 69 to 87 (fun mv wx => mv = .bool MB ∧ W9 = wx)
      case first =>
        have HMY2 := HMY
        cases z0 <;> cases z1 <;> cases z2
        all_goals go_wp2
        all_goals go_meet
        all_goals exact ⟨by rw [HMY.out]; rfl, rfl⟩
      case rest =>
        obtain ⟨rfl, rfl⟩ := hcut
        have HTD := Lib.hid HT9.out.drew
        have HBD := Lib.hid HB9.out.drew
        have cZD : W9.drew.cell? ⟨w.heap.size + 1, i, none⟩ = some (.string Z) := cZ9
        have cND : W9.drew.cell? ⟨w8.heap.size, 0, none⟩ = some (.string RD.name) := cN9
        clear cZ9 cN9
        cases z0
        · cases MB
          · have he : RE = 2 := by have := HK8.out; simpa using this
            subst he
            go_upto_region 10 with fail
            refine wp_region_still_tail 35 (by kernel_rfl) (by kernel_rfl) ?_
            simp only [List.take_succ_cons, List.take_zero, List.drop_succ_cons, List.drop_zero]
            change wpStill _ _ W9.drew (fun a' => wpList _ _ _ _ a' W9.drew) _ _
            generalize hWD : W9.drew = WD at *
            generalize hG : (Act.mk _ _) = G
            iterate 35 (refine wpStill_step (fun K hK => ?_); simp only [← hG]; clear hG; go_simp; (try rw [if_neg (by decide)]); generalize hG : (Act.mk _ _) = G; refine hK G ?_; clear hK K)
            refine wpStill_nil ?_
            subst hG
            go_wp2_with (go_at_call 8; refine (awake10_any _ HTD.out).mono ?_; rintro e w11 ⟨rfl, hb11⟩)
            go_ret
            exact ⟨rfl, below_seq HBD.out hb11⟩
          · have hk := HK8.out
            rw [if_pos rfl] at hk
            simp only [Bool.and_eq_true, decide_eq_true_eq] at hk
            obtain ⟨rfl, hnm⟩ := hk
            rw [hnm] at cND
            go_upto_region 10 with fail
            refine wp_region_still_tail 35 (by kernel_rfl) (by kernel_rfl) ?_
            simp only [List.take_succ_cons, List.take_zero, List.drop_succ_cons, List.drop_zero]
            change wpStill _ _ W9.drew (fun a' => wpList _ _ _ _ a' W9.drew) _ _
            generalize hWD : W9.drew = WD at *
            generalize hG : (Act.mk _ _) = G
            iterate 35 (refine wpStill_step (fun K hK => ?_); simp only [← hG]; clear hG; go_simp; (try rw [if_neg (by decide)]); generalize hG : (Act.mk _ _) = G; refine hK G ?_; clear hK K)
            refine wpStill_nil ?_
            subst hG
            go_wp2_with (go_at_call 8; refine (awake10_any _ HTD.out).mono ?_; rintro e w11 ⟨rfl, hb11⟩)
            go_ret
            exact ⟨rfl, below_seq HBD.out hb11⟩
        · have hm : MB = false := by rw [HMY.out]; rfl
          subst hm
          have he : RE = 2 := by have := HK8.out; simpa using this
          subst he
          go_upto_region 10 with fail
          refine wp_region_still_tail 35 (by kernel_rfl) (by kernel_rfl) ?_
          simp only [List.take_succ_cons, List.take_zero, List.drop_succ_cons, List.drop_zero]
          change wpStill _ _ W9.drew (fun a' => wpList _ _ _ _ a' W9.drew) _ _
          generalize hWD : W9.drew = WD at *
          generalize hG : (Act.mk _ _) = G
          iterate 35 (refine wpStill_step (fun K hK => ?_); simp only [← hG]; clear hG; go_simp; (try rw [if_neg (by decide)]); generalize hG : (Act.mk _ _) = G; refine hK G ?_; clear hK K)
          refine wpStill_nil ?_
          subst hG
          go_wp2_with (go_at_call 8; refine (awake10_any _ HTD.out).mono ?_; rintro e w11 ⟨rfl, hb11⟩)
          go_ret
          exact ⟨rfl, below_seq HBD.out hb11⟩
    · rw [if_neg h1] at k4
      have HNA := Lib.hid (show nameS (ndsS (toks (readS Y))) = (⟨#[]⟩, false) from of_decide_eq_true k4)
      have hhI : (1 : Int) < (h : Int) := by omega
      have hhd : decide ((1 : Int) < (h : Int)) = true := decide_eq_true hhI
      go_wp2_with (first | (go_at_call 14; refine (HNC.out _).mono ?_; rintro e w5 ⟨⟨v5, rfl, hr5⟩, hb5⟩; have HR5 := Lib.hid hr5; have HB5 := Lib.hid (below_seq HBC.out hb5); clear hb5 hr5) | (go_at_call 15; refine (name_any (HT.out.below HB5.out) HR5.out K2.out K3.out).mono ?_; rintro e w6 ⟨rfl, hb6⟩; rw [HNA.out]; have HB6 := Lib.hid (below_seq HB5.out hb6); clear hb6) | (go_at_call 19; refine (round_any how 4 h _ (by decide) (by decide) HW.out).mono ?_; rintro e w7 ⟨rfl, rfl⟩) | (go_at_call 8; refine (awake10_any _ (HT.out.below HB6.out)).mono ?_; rintro e w8 ⟨rfl, hb8⟩))
      go_ret
      exact ⟨rfl, below_seq HB6.out hb8⟩
theorem DefineNames_any (w : World) (ht : Tab w) (k : Int) (_wk : (Lit.int .i64 k).wf = true) (how : Int) (_wh : (Lit.int .i64 how).wf = true) :
    Calls Tryd.prog 6 #[.int .i64 k, .int .i64 how] w fun e w' => e = .returned (.bool true) ∧ Below w.heap.size w w' := by
  have h0 := Int.emod_nonneg k (show (12 : Int) ≠ 0 by decide)
  have h1 := Int.emod_lt_of_pos k (show (0 : Int) < 12 by decide)
  have h2 := Int.emod_nonneg how (show (4 : Int) ≠ 0 by decide)
  have h3 := Int.emod_lt_of_pos how (show (0 : Int) < 4 by decide)
  exact names_main k how (k % 12).toNat (how % 4).toNat (by omega) (by omega) (by omega) (by omega) w ht
end Go.Proofs.YtjjlnmjapfcmaaaDoor
