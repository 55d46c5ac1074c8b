
import Derived.Test.YtmepalmcfolneaaSyP1
namespace Go.Proofs.Ytmepalmcfolneaa
open Go.RowKit
theorem bseq {w a b : World} {B : Nat} (h : Below w.heap.size w a) (k : Below B a b) (hB : a.heap.size ≤ B) : Below w.heap.size w b := h.trans (k.mono (Nat.le_trans h.size hB))
theorem rdI_three (w : World) (t : TypeId) (x y z : Int) (H : Nat) (hH : w.heap.size = H) : Rd .i64 (w.alloc (.cells #[.int .i64 x, .int .i64 y, .int .i64 z] t)) (.slice (some ⟨H, 0, none⟩) 3 3) [x, y, z] := by
  subst hH
  refine ⟨_, 3, rfl, Nat.le_refl _, fun _ => ⟨_, 0, rfl, by simp, fun j hj => ?_⟩⟩
  unfold World.cell?
  rw [heap_alloc_self]
  have hj5 : j < 3 := hj
  rcases (by omega : j = 0 ∨ j = 1 ∨ j = 2) with rfl | rfl | rfl <;> rfl
theorem rQ {w : World} {sv wv : Value} (h : RdTx w sv [xB, vB, iB]) (h2 : Rd .i64 w wv [10, 5, 1]) : DefQ w rD sv wv (.slice none 0 0) :=
  ⟨⟨h, h2, RdP.nil _ _ _, by decide, by decide, by decide⟩, by decide, fun j => by
    match j with
    | 0 => decide
    | 1 => decide
    | 2 => decide
    | j + 3 =>
      have : nth rD.wts (j + 3) = 0 := rfl
      rw [this]; decide⟩
set_option maxRecDepth 100000 in
set_option maxHeartbeats 6400000 in
theorem awake_any (w : World) :
    Calls Try.prog 4 #[] w fun e w' => e = .returned (.bool true) ∧ Below w.heap.size w w' := by
  go_enter Try.func4, Try.ntmps4
  go_wp2_with fail
  refine (made_any _ _ _ _ _).mono ?_
  rintro e wa0 ⟨rfl, ha0⟩
  have r0 := (rdT_two w 9 aB bB _ rfl).below ha0
  go_wp2_with fail
  refine (signs_any _ (madeD alT [aB, bB]) _ _ _ (madeQ r0 (by decide)) 3).mono ?_
  rintro e wb0 ⟨rfl, hb0⟩
  rw [sg1.1, sg1.2]
  have HW0 := Lib.hid (bseq (below_seq (below_al2 w _) ha0) hb0 (Nat.le_refl _))
  clear ha0 r0 hb0
  go_wp2_with fail
  refine (made_any _ _ _ _ _).mono ?_
  rintro e wa1 ⟨rfl, ha1⟩
  have r1 := (rdT_two wb0 9 b0B b1B _ rfl).below ha1
  go_wp2_with fail
  refine (signs_any _ (madeD nuT [b0B, b1B]) _ _ _ (madeQ r1 (by decide)) 5).mono ?_
  rintro e wb1 ⟨rfl, hb1⟩
  rw [sg2.1, sg2.2]
  have HW1 := Lib.hid (bseq (bseq (HW0.out.alloc HW0.out.size _) ha1 (Nat.le_refl _)) hb1 (Nat.le_refl _))
  clear HW0
  clear ha1 r1 hb1
  go_wp2_with fail
  refine (made_any _ _ _ _ _).mono ?_
  rintro e wa2 ⟨rfl, ha2⟩
  have r2 := (rdT_two wb1 9 xB yB _ rfl).below ha2
  go_wp2_with fail
  refine (signs_any _ (madeD syT [xB, yB]) _ _ _ (madeQ r2 (by decide)) 4).mono ?_
  rintro e wb2 ⟨rfl, hb2⟩
  rw [sg3.1, sg3.2]
  have HW2 := Lib.hid (bseq (bseq (HW1.out.alloc HW1.out.size _) ha2 (Nat.le_refl _)) hb2 (Nat.le_refl _))
  clear HW1
  clear ha2 r2 hb2
  go_wp2_with fail
  refine (made_any _ _ _ _ _).mono ?_
  rintro e wa3 ⟨rfl, ha3⟩
  have r3 := (rdT_two wb2 9 xB yB _ rfl).below ha3
  go_wp2_with fail
  refine (signs_any _ (madeD cyT [xB, yB]) _ _ _ (madeQ r3 (by decide)) (-1)).mono ?_
  rintro e wb3 ⟨rfl, hb3⟩
  rw [sg4.1, sg4.2]
  have HW3 := Lib.hid (bseq (bseq (HW2.out.alloc HW2.out.size _) ha3 (Nat.le_refl _)) hb3 (Nat.le_refl _))
  clear HW2
  clear ha3 r3 hb3
  go_wp2_with fail
  refine (made_any _ _ _ _ _).mono ?_
  rintro e wa4 ⟨rfl, ha4⟩
  have r4 := (rdT_two wb3 9 xB yB _ rfl).below ha4
  go_wp2_with fail
  refine (signs_any _ (madeD fiT [xB, yB]) _ _ _ (madeQ r4 (by decide)) 3).mono ?_
  rintro e wb4 ⟨rfl, hb4⟩
  rw [sg5.1, sg5.2]
  have HW4 := Lib.hid (bseq (bseq (HW3.out.alloc HW3.out.size _) ha4 (Nat.le_refl _)) hb4 (Nat.le_refl _))
  clear HW3
  clear ha4 r4 hb4
  go_wp2_with fail
  refine (made_any _ _ _ _ _).mono ?_
  rintro e wr ⟨rfl, ha⟩
  have r := (rdT_three wb4 9 xB vB iB _ rfl).below ha
  have HWR := Lib.hid (bseq (HW4.out.alloc HW4.out.size _) ha (Nat.le_refl _))
  clear ha HW4
  go_wp2_with fail
  have HQB := Lib.hid (rQ ((r.below (below_al2 wr _)).below (below_al2 _ _)) (rdI_three (wr.alloc (.cells #[.string ⟨#[]⟩, .string adT, .int .i64 1, .slice (some ⟨wb4.heap.size, 0, none⟩) 3 3, .slice (some ⟨wr.heap.size + 1, 0, none⟩) 3 3, .string ⟨#[]⟩, .string ⟨#[]⟩, .string ⟨#[]⟩, .string ⟨#[]⟩, .bool true, .slice none 0 0, .int .i64 0, .string ⟨#[]⟩, .string ⟨#[]⟩, .string ⟨#[]⟩, .int .i64 0] 28)) 3 10 5 1 (wr.heap.size + 1) (by simp)))
  refine (signs_any _ rD _ _ _ HQB.out 27).mono ?_
  rintro e w6 ⟨rfl, hb6⟩
  rw [sg6.1, sg6.2]
  have HWB : Hid (∀ o1 o2, Below w.heap.size w ((wr.alloc o1).alloc o2)) := fun o1 o2 => (HWR.out.alloc HWR.out.size o1).alloc (Nat.le_trans HWR.out.size (by simp)) o2
  obtain ⟨hc6, hf6⟩ := keepB hb6
  clear r HWR hf6
  go_wp2_with fail
  refine (may_any _ rD _ _ _ (HQB.out.below hb6).toR).mono ?_
  rintro e w7 ⟨rfl, hb7⟩
  rw [my1]
  have HR7 := Lib.hid (hb6.trans (hb7.mono hb6.size))
  clear hb6 hc6 hb7
  go_wp2_with fail
  refine (made_any _ _ _ _ _).mono ?_
  rintro e w8 ⟨rfl, ha⟩
  have r8 := (rdT_one w7 9 b0B _ rfl).below ha
  have HR8 := Lib.hid (bseq (HR7.out.alloc HR7.out.size _) ha (Nat.le_refl _))
  clear ha HR7
  go_wp2_with fail
  refine (may_any _ (madeD nuT [b0B]) _ _ _ (madeQ r8 (by decide)).toR).mono ?_
  rintro e w9 ⟨rfl, hb9⟩
  rw [my2]
  have HR9 := Lib.hid (bseq HR8.out hb9 (Nat.le_refl _))
  clear hb9 r8 HR8
  go_wp2_with fail
  refine (made_any _ _ _ _ _).mono ?_
  rintro e w10 ⟨rfl, ha⟩
  have r10 := (rdT_one w9 9 xB _ rfl).below ha
  have HR10 := Lib.hid (bseq (HR9.out.alloc HR9.out.size _) ha (Nat.le_refl _))
  clear ha HR9
  go_wp2_with fail
  refine (in_any _ (madeD cyT [xB]) _ _ _ (RdP.nil _ _ _) (by decide) (-5)).mono ?_
  rintro e w11 ⟨rfl, hb11⟩
  rw [in1]
  have HR11 := Lib.hid (bseq HR10.out hb11 (Nat.le_refl _))
  clear hb11 r10 HR10
  go_wp2_with fail
  refine (made_any _ _ _ _ _).mono ?_
  rintro e w12 ⟨rfl, ha⟩
  have HR12 := Lib.hid (bseq (HR11.out.alloc HR11.out.size _) ha (Nat.le_refl _))
  clear ha HR11
  go_wp2_with fail
  refine (in_any _ (madeD syT [xB]) _ _ _ (RdP.nil _ _ _) (by decide) 0).mono ?_
  rintro e w13 ⟨rfl, hb13⟩
  rw [in2]
  have HR13 := bseq HR12.out hb13 (Nat.le_refl _)
  obtain ⟨hc13, hf13⟩ := keepB HR13
  clear hb13 HR12 hf13
  go_wp2_with fail
  refine (uses_any _ rD _ _ _ (-1)).mono ?_
  rintro e w14 ⟨rfl, hb14⟩
  rw [us1]
  have HR14 := Lib.hid (bseq HR13 hb14 (Nat.le_refl _))
  clear hb14 HR13 hc13
  go_wp2_with fail
  refine (made_any _ _ _ _ _).mono ?_
  rintro e w15 ⟨rfl, ha⟩
  have HR15 := Lib.hid (bseq (HR14.out.alloc HR14.out.size _) ha (Nat.le_refl _))
  clear ha HR14
  go_wp2_with fail
  refine (uses_any _ (madeD cyT [xB]) _ _ _ (-1)).mono ?_
  rintro e w16 ⟨rfl, hb16⟩
  rw [us2]
  go_wp2_with fail
  go_ret
  exact ⟨rfl, bseq (HWB.out _ _) (bseq HR15.out hb16 (Nat.le_refl _)) (Nat.le_refl _)⟩
end Go.Proofs.Ytmepalmcfolneaa
