import Derived.Test.YtclicjiakkcfcaaGreatDoorSlA
import Derived.Laws.Concat
set_option maxRecDepth 100000
set_option maxHeartbeats 6400000
namespace Go.Proofs.YtclicjiakkcfcaaGreatDoor
open Go.RowKit
theorem delim_lt {l : List Nd} {i n : Nat} {c : List UInt8} (h : ((delimA (l.drop i) n).toList == c) = true) (hc : c ≠ []) : i + n < l.length := by
 apply kind_lt
 intro e
 have e' : ((atK (l.drop i) n).tok.kind == 9) = false := by rw [show (atK (l.drop i) n).tok.kind = 0 from e]; rfl
 unfold delimA delimN at h
 rw [if_neg (by rw [e']; decide)] at h
 have h' := eq_of_beq h
 rw [show (⟨#[]⟩ : ByteArray).toList = [] from by kernel_rfl] at h'
 exact hc h'.symm
def tagI (l : List Nd) (i : Nat) : Nat := if ((delimA (l.drop i) 0).toList == [42]) = true then i + 1 else idI l i
theorem tag_rest (l : List Nd) (i : Nat) : (tagR (l.drop i)).2 = l.drop (tagI l i) := by
 unfold tagR tagI
 split
 · exact tailK l i
 · exact lower_rest l i
theorem tagI_le (l : List Nd) (i : Nat) : i ≤ tagI l i ∧ (i < tagI l i → i < l.length ∧ tagI l i ≤ l.length) := by
 unfold tagI
 split
 · rename_i h
   have := delim_lt h (by simp)
   omega
 · unfold idI
   split
   · rename_i h
     have := kind_lt (l := l) (i := i) (n := 0) (fun e => by rw [e] at h; cases h)
     omega
   · omega
def opT (r : List Nd) : ByteArray × Bool := match opR r with
 | some (o, _) => (o, true)
 | none => (⟨#[]⟩, false)
def opI (l : List Nd) (i : Nat) : Nat := if ((delimA (l.drop i) 0).toList == [61]) = true then i + 1 else if (op2 (delimA (l.drop i) 0) && (delimA (l.drop i) 1).toList == [61]) = true then i + 2 else i
theorem op_rest {l : List Nd} {i : Nat} {o : ByteArray} {r : List Nd} (h : opR (l.drop i) = some (o, r)) : r = l.drop (opI l i) := by
 unfold opR at h
 unfold opI
 split at h
 · rename_i c
   rw [if_pos c]
   cases h
   exact tailK l i
 · rename_i c
   rw [if_neg c]
   split at h
   · rename_i c2
     rw [if_pos c2]
     cases h
     rw [tailK, tailK]
   · cases h
theorem opI_le (l : List Nd) (i : Nat) : i ≤ opI l i ∧ (i < opI l i → opI l i ≤ l.length) := by
 unfold opI
 split
 · rename_i h
   have := delim_lt h (by simp)
   omega
 · split
   · rename_i h
     have := delim_lt (Bool.and_eq_true_iff.1 h).2 (by simp)
     omega
   · omega
theorem stag_any {P : Nat → Prop} {w0 w : World} {b : Nat} {v : Value} {l : List Nd} {dp : Int} {i : Nat} (h : SN P w0 b v l dp i w) (hi : i < 1000000000) (hx : ∀ n ∈ l, n.tok.text.size ≤ 1000000000) :
    Calls Tryz.prog 61 #[.pointer (some ⟨b, 0, none⟩)] w fun e w' => e = .returned (.string (tagR (l.drop i)).1) ∧ SN P w0 b v l dp (tagI l i) w' := by
  have HD := Lib.hid (sdelim_any h 0 (by omega))
  have HL := Lib.hid (fun (W : World) (hW : SN P w0 b v l dp i W) => slower_any hW hi hx)
  have HS := Lib.hid h
  cases hd : ((delimA (l.drop i) 0).toList == [42])
  · have HR : Hid (tagR (l.drop i) = ((lowerR (l.drop i)).1, (lowerR (l.drop i)).2.2)) := if_neg (by rw [hd]; decide)
    have HI : Hid (tagI l i = idI l i) := if_neg (by rw [hd]; decide)
    rw [HR.out, HI.out]
    clear h HR HI
    generalize delimA (l.drop i) 0 = D at *
    generalize (lowerR (l.drop i)).1 = X at *
    generalize (lowerR (l.drop i)).2.1 = Y at *
    generalize idI l i = j at *
    go_enter Tryz.func61, Tryz.ntmps61
    go_wp2_with (first | (go_at_call 68; refine HD.out.mono ?_; rintro e w1 ⟨rfl, hb1⟩) | (go_at_call 77; refine (HL.out _ (HS.out.below hb1)).mono ?_; rintro e w2 ⟨rfl, hs2⟩))
    go_ret
    exact ⟨rfl, hs2⟩
  · have HR : Hid (tagR (l.drop i) = (starB, (l.drop i).tail)) := if_pos hd
    have HI : Hid (tagI l i = i + 1) := if_pos hd
    have hw2 : wrap64 ((i : Int) + 1) = ((i + 1 : Nat) : Int) := by unfold wrap64; omega
    rw [HR.out, HI.out]
    clear h HR HI
    generalize delimA (l.drop i) 0 = D at *
    go_enter Tryz.func61, Tryz.ntmps61
    go_wp2_with (go_at_call 68; refine HD.out.mono ?_; rintro e w1 ⟨rfl, hb1⟩; have HS1 := Lib.hid (HS.out.below hb1); have d1 := HS1.out.wk.c1; have e1 := HS1.out.wk.f1)
    have hput := HS1.out.put (i + 1) (by omega)
    rw [Int.natCast_add, Int.natCast_one] at hput
    go_ret
    exact ⟨rfl, hput⟩
theorem satSimple_any {P : Nat → Prop} {w0 w : World} {b : Nat} {v : Value} {l : List Nd} {dp : Int} {i : Nat} (h : SN P w0 b v l dp i w) (ht : TabL w) (hx : ∀ n ∈ l, n.tok.text.size ≤ 1000000000) :
    Calls Tryz.prog 62 #[.pointer (some ⟨b, 0, none⟩)] w fun e w' => e = .returned (.bool (atSimpleR (l.drop i))) ∧ Below w.heap.size w w' := by
  have HK := Lib.hid (skind_any h 0 (by omega))
  cases h4 : (kindA (l.drop i) 0 == 4)
  · cases h9 : (kindA (l.drop i) 0 == 9)
    · cases h19 : (kindA (l.drop i) 0 == 19)
      · cases h16 : (kindA (l.drop i) 0 == 16)
        · have HR : Hid (atSimpleR (l.drop i) = false) := by
           show atSimpleR _ = _
           unfold atSimpleR
           rw [h4, h9, h19, h16]
           simp
          rw [HR.out]
          clear h HR
          generalize kindA (l.drop i) 0 = K at *
          go_enter Tryz.func62, Tryz.ntmps62
          go_wp2_with (go_at_call 60; refine HK.out.mono ?_; rintro e w1 ⟨rfl, hb1⟩)
          go_ret
          exact ⟨rfl, hb1⟩
        · have HR : Hid (atSimpleR (l.drop i) = ((elementR (l.drop i)).2 == 0)) := by
           show atSimpleR _ = _
           unfold atSimpleR
           rw [h4, h9, h19, h16]
           simp
          have HE := Lib.hid (fun (W : World) (hW : SN P w0 b v l dp i W) (hT : TabL W) => selement_any hW hT hx)
          have HS := Lib.hid h
          have HT := Lib.hid ht
          have HZ : Hid (((elementR (l.drop i)).2 == 0) = (((elementR (l.drop i)).2 : Int) == 0)) := by
           show _ = _
           rw [Bool.eq_iff_iff, beq_iff_eq, beq_iff_eq]
           omega
          rw [HR.out, HZ.out]
          clear h ht HR HZ
          generalize kindA (l.drop i) 0 = K at *
          generalize elementR (l.drop i) = E at *
          obtain ⟨E1, E2⟩ := E
          simp only at *
          go_enter Tryz.func62, Tryz.ntmps62
          go_wp2_with (first | (go_at_call 60; refine HK.out.mono ?_; rintro e w1 ⟨rfl, hb1⟩) | (go_at_call 39; refine (HE.out _ (HS.out.below hb1) (HT.out.below hb1)).mono ?_; rintro e w2 ⟨rfl, hb2⟩))
          go_ret
          exact ⟨rfl, below_seq hb1 hb2⟩
      · have HR : Hid (atSimpleR (l.drop i) = ((atK (l.drop i) 0).tok.text.toList == [91])) := by
         show atSimpleR _ = _
         unfold atSimpleR
         rw [h4, h9, h19]
         simp
        have HA := Lib.hid (fun (W : World) (hW : SN P w0 b v l dp i W) => sahead_any hW 0 (by omega))
        have HS := Lib.hid h
        have hf1 := fld_tok (atK (l.drop i) 0).tok
        have hf2 := fld_text (atK (l.drop i) 0).tok
        rw [HR.out]
        clear h HR
        unfold AheadPost at HA
        generalize kindA (l.drop i) 0 = K at *
        generalize (atK (l.drop i) 0).kids = ks at *
        generalize (atK (l.drop i) 0).tok = t at *
        go_enter Tryz.func62, Tryz.ntmps62
        go_wp2_with (first | (go_at_call 60; refine HK.out.mono ?_; rintro e w1 ⟨rfl, hb1⟩) | (go_at_call 65; refine (HA.out _ (HS.out.below hb1)).mono ?_; rintro e w2 ⟨⟨u, rfl, _⟩, hb2⟩))
        go_ret
        exact ⟨rfl, below_seq hb1 hb2⟩
    · have HR : Hid (atSimpleR (l.drop i) = ((delimA (l.drop i) 0).toList == [46])) := by
       show atSimpleR _ = _
       unfold atSimpleR
       rw [h4, h9]
       simp
      have HD := Lib.hid (fun (W : World) (hW : SN P w0 b v l dp i W) => sdelim_any hW 0 (by omega))
      have HS := Lib.hid h
      rw [HR.out]
      clear h HR
      generalize kindA (l.drop i) 0 = K at *
      generalize delimA (l.drop i) 0 = D at *
      go_enter Tryz.func62, Tryz.ntmps62
      go_wp2_with (first | (go_at_call 60; refine HK.out.mono ?_; rintro e w1 ⟨rfl, hb1⟩) | (go_at_call 68; refine (HD.out _ (HS.out.below hb1)).mono ?_; rintro e w2 ⟨rfl, hb2⟩))
      go_ret
      exact ⟨rfl, below_seq hb1 hb2⟩
  · have HR : Hid (atSimpleR (l.drop i) = true) := if_pos h4
    rw [HR.out]
    clear h HR
    generalize kindA (l.drop i) 0 = K at *
    go_enter Tryz.func62, Tryz.ntmps62
    go_wp2_with (go_at_call 60; refine HK.out.mono ?_; rintro e w1 ⟨rfl, hb1⟩)
    go_ret
    exact ⟨rfl, hb1⟩
section
variable {P : Nat → Prop} {w0 w : World} {b : Nat} {v : Value} {l : List Nd} {dp : Int} {i j : Nat}
theorem sdelim_w (hj : whiteR (l.drop i) = l.drop j) (h : SN P w0 b v l dp j w) : Calls Tryz.prog 68 #[.pointer (some ⟨b, 0, none⟩), .int .i64 0] w fun e w' => e = .returned (.string (delimA (whiteR (l.drop i)) 0)) ∧ Below w.heap.size w w' := by
 rw [hj]
 exact sdelim_any h 0 (by omega)
theorem sended_w (hj : whiteR (l.drop i) = l.drop j) (h : SN P w0 b v l dp j w) : Calls Tryz.prog 40 #[.pointer (some ⟨b, 0, none⟩)] w fun e w' => e = .returned (.bool (whiteR (l.drop i)).isEmpty) ∧ Below w.heap.size w w' := by
 rw [hj]
 exact sended_any h
theorem swhite_w (hj : whiteR (l.drop i) = l.drop j) (h : SN P w0 b v l dp (j + 1) w) : Calls Tryz.prog 37 #[.pointer (some ⟨b, 0, none⟩)] w fun e w' => (∃ c, e = .returned (.bool c)) ∧ ∃ k, j + 1 ≤ k ∧ whiteR (whiteR (l.drop i)).tail = l.drop k ∧ (j + 1 < k → k ≤ l.length) ∧ SN P w0 b v l dp k w' := by
 rw [hj, tailK]
 exact (swhite_any h).mono fun e w' ⟨h1, h2⟩ => ⟨⟨_, h1⟩, h2⟩
theorem comb_lt {c : List UInt8} (hd : ((delimA (whiteR (l.drop i)) 0).toList == c) = true) (hc : c ≠ []) (hj : whiteR (l.drop i) = l.drop j) : j < l.length := by
 rw [hj] at hd
 exact delim_lt hd hc
end
def CombPost (P : Nat → Prop) (w0 : World) (b : Nat) (v : Value) (l : List Nd) (dp : Int) (i : Nat) (e : Ending) (w' : World) : Prop := e = .returned (.string (combR (l.drop i)).1) ∧ ∃ j, i ≤ j ∧ (combR (l.drop i)).2 = l.drop j ∧ (i < j → i < l.length ∧ j ≤ l.length) ∧ SN P w0 b v l dp j w'
theorem scomb_62 {P : Nat → Prop} {w0 w : World} {b : Nat} {v : Value} {l : List Nd} {dp : Int} {i : Nat} (h : SN P w0 b v l dp i w) (hd : ((delimA (whiteR (l.drop i)) 0).toList == [62]) = true) :
    Calls Tryz.prog 41 #[.pointer (some ⟨b, 0, none⟩)] w (CombPost P w0 b v l dp i) := by
  have HW := Lib.hid (swhite_any h)
  have HD := Lib.hid (fun (j : Nat) (hj : whiteR (l.drop i) = l.drop j) (W : World) (hW : SN P w0 b v l dp j W) => sdelim_w hj hW)
  have HV := Lib.hid (fun (j : Nat) (hj : whiteR (l.drop i) = l.drop j) (W : World) (hW : SN P w0 b v l dp (j + 1) W) => swhite_w hj hW)
  have HR : Hid (combR (l.drop i) = (delimA (whiteR (l.drop i)) 0, whiteR (whiteR (l.drop i)).tail)) := if_pos (by rw [hd]; simp)
  have HLT := Lib.hid (fun (j : Nat) (hj : whiteR (l.drop i) = l.drop j) => comb_lt hd (by decide) hj)
  have hll := h.len
  unfold CombPost
  rw [HR.out]
  clear h HR
  generalize whiteR (l.drop i) = R at *
  generalize kindA (l.drop i) 0 = K at *
  generalize delimA R 0 = D at *
  generalize whiteR R.tail = R2 at *
  go_enter Tryz.func41, Tryz.ntmps41
  go_wp2_with (first | (go_at_call 37; refine HW.out.mono ?_; rintro e w1 ⟨rfl, j, hij, hj, hjl, hs1⟩; have HJ := Lib.hid hj; have HS1 := Lib.hid hs1; clear hs1) | (go_at_call 68; refine (HD.out j HJ.out _ HS1.out).mono ?_; rintro e w2 ⟨rfl, hb2⟩; have HS2 := Lib.hid (HS1.out.below hb2); have d2 := HS2.out.wk.c1; have e2 := HS2.out.wk.f1; have hlt := HLT.out j HJ.out; have hw2 : wrap64 ((j : Int) + 1) = ((j + 1 : Nat) : Int) := by (unfold wrap64; omega)) | (go_at_call 37; refine (HV.out j HJ.out _ (by have hp := HS2.out.put (j + 1) (by omega); rw [Int.natCast_add, Int.natCast_one] at hp; exact hp)).mono ?_; rintro e w3 ⟨⟨c, rfl⟩, k, hjk, hk, hkl, hs3⟩; have HS3 := Lib.hid hs3; have HK2 := Lib.hid hk; clear hs3))
  go_ret
  exact ⟨rfl, k, by omega, HK2.out, fun _ => ⟨by omega, by omega⟩, HS3.out⟩
theorem scomb_43 {P : Nat → Prop} {w0 w : World} {b : Nat} {v : Value} {l : List Nd} {dp : Int} {i : Nat} (h : SN P w0 b v l dp i w) (h62 : ((delimA (whiteR (l.drop i)) 0).toList == [62]) = false) (hd : ((delimA (whiteR (l.drop i)) 0).toList == [43]) = true) :
    Calls Tryz.prog 41 #[.pointer (some ⟨b, 0, none⟩)] w (CombPost P w0 b v l dp i) := by
  have HW := Lib.hid (swhite_any h)
  have HD := Lib.hid (fun (j : Nat) (hj : whiteR (l.drop i) = l.drop j) (W : World) (hW : SN P w0 b v l dp j W) => sdelim_w hj hW)
  have HV := Lib.hid (fun (j : Nat) (hj : whiteR (l.drop i) = l.drop j) (W : World) (hW : SN P w0 b v l dp (j + 1) W) => swhite_w hj hW)
  have HR : Hid (combR (l.drop i) = (delimA (whiteR (l.drop i)) 0, whiteR (whiteR (l.drop i)).tail)) := if_pos (by rw [h62, hd]; simp)
  have HLT := Lib.hid (fun (j : Nat) (hj : whiteR (l.drop i) = l.drop j) => comb_lt hd (by decide) hj)
  have hll := h.len
  unfold CombPost
  rw [HR.out]
  clear h HR
  generalize whiteR (l.drop i) = R at *
  generalize kindA (l.drop i) 0 = K at *
  generalize delimA R 0 = D at *
  generalize whiteR R.tail = R2 at *
  go_enter Tryz.func41, Tryz.ntmps41
  go_wp2_with (first | (go_at_call 37; refine HW.out.mono ?_; rintro e w1 ⟨rfl, j, hij, hj, hjl, hs1⟩; have HJ := Lib.hid hj; have HS1 := Lib.hid hs1; clear hs1) | (go_at_call 68; refine (HD.out j HJ.out _ HS1.out).mono ?_; rintro e w2 ⟨rfl, hb2⟩; have HS2 := Lib.hid (HS1.out.below hb2); have d2 := HS2.out.wk.c1; have e2 := HS2.out.wk.f1; have hlt := HLT.out j HJ.out; have hw2 : wrap64 ((j : Int) + 1) = ((j + 1 : Nat) : Int) := by (unfold wrap64; omega)) | (go_at_call 37; refine (HV.out j HJ.out _ (by have hp := HS2.out.put (j + 1) (by omega); rw [Int.natCast_add, Int.natCast_one] at hp; exact hp)).mono ?_; rintro e w3 ⟨⟨c, rfl⟩, k, hjk, hk, hkl, hs3⟩; have HS3 := Lib.hid hs3; have HK2 := Lib.hid hk; clear hs3))
  go_ret
  exact ⟨rfl, k, by omega, HK2.out, fun _ => ⟨by omega, by omega⟩, HS3.out⟩
theorem scomb_126 {P : Nat → Prop} {w0 w : World} {b : Nat} {v : Value} {l : List Nd} {dp : Int} {i : Nat} (h : SN P w0 b v l dp i w) (h62 : ((delimA (whiteR (l.drop i)) 0).toList == [62]) = false) (h43 : ((delimA (whiteR (l.drop i)) 0).toList == [43]) = false) (hd : ((delimA (whiteR (l.drop i)) 0).toList == [126]) = true) :
    Calls Tryz.prog 41 #[.pointer (some ⟨b, 0, none⟩)] w (CombPost P w0 b v l dp i) := by
  have HW := Lib.hid (swhite_any h)
  have HD := Lib.hid (fun (j : Nat) (hj : whiteR (l.drop i) = l.drop j) (W : World) (hW : SN P w0 b v l dp j W) => sdelim_w hj hW)
  have HV := Lib.hid (fun (j : Nat) (hj : whiteR (l.drop i) = l.drop j) (W : World) (hW : SN P w0 b v l dp (j + 1) W) => swhite_w hj hW)
  have HR : Hid (combR (l.drop i) = (delimA (whiteR (l.drop i)) 0, whiteR (whiteR (l.drop i)).tail)) := if_pos (by rw [h62, h43, hd]; simp)
  have HLT := Lib.hid (fun (j : Nat) (hj : whiteR (l.drop i) = l.drop j) => comb_lt hd (by decide) hj)
  have hll := h.len
  unfold CombPost
  rw [HR.out]
  clear h HR
  generalize whiteR (l.drop i) = R at *
  generalize kindA (l.drop i) 0 = K at *
  generalize delimA R 0 = D at *
  generalize whiteR R.tail = R2 at *
  go_enter Tryz.func41, Tryz.ntmps41
  go_wp2_with (first | (go_at_call 37; refine HW.out.mono ?_; rintro e w1 ⟨rfl, j, hij, hj, hjl, hs1⟩; have HJ := Lib.hid hj; have HS1 := Lib.hid hs1; clear hs1) | (go_at_call 68; refine (HD.out j HJ.out _ HS1.out).mono ?_; rintro e w2 ⟨rfl, hb2⟩; have HS2 := Lib.hid (HS1.out.below hb2); have d2 := HS2.out.wk.c1; have e2 := HS2.out.wk.f1; have hlt := HLT.out j HJ.out; have hw2 : wrap64 ((j : Int) + 1) = ((j + 1 : Nat) : Int) := by (unfold wrap64; omega)) | (go_at_call 37; refine (HV.out j HJ.out _ (by have hp := HS2.out.put (j + 1) (by omega); rw [Int.natCast_add, Int.natCast_one] at hp; exact hp)).mono ?_; rintro e w3 ⟨⟨c, rfl⟩, k, hjk, hk, hkl, hs3⟩; have HS3 := Lib.hid hs3; have HK2 := Lib.hid hk; clear hs3))
  go_ret
  exact ⟨rfl, k, by omega, HK2.out, fun _ => ⟨by omega, by omega⟩, HS3.out⟩
theorem scomb_none {P : Nat → Prop} {w0 w : World} {b : Nat} {v : Value} {l : List Nd} {dp : Int} {i : Nat} (h : SN P w0 b v l dp i w) (h62 : ((delimA (whiteR (l.drop i)) 0).toList == [62]) = false) (h43 : ((delimA (whiteR (l.drop i)) 0).toList == [43]) = false) (h126 : ((delimA (whiteR (l.drop i)) 0).toList == [126]) = false) :
    Calls Tryz.prog 41 #[.pointer (some ⟨b, 0, none⟩)] w (CombPost P w0 b v l dp i) := by
  have HW := Lib.hid (swhite_any h)
  have HD := Lib.hid (fun (j : Nat) (hj : whiteR (l.drop i) = l.drop j) (W : World) (hW : SN P w0 b v l dp j W) => sdelim_w hj hW)
  have HE := Lib.hid (fun (j : Nat) (hj : whiteR (l.drop i) = l.drop j) (W : World) (hW : SN P w0 b v l dp j W) => sended_w hj hW)
  have HR : Hid (combR (l.drop i) = if ((kindA (l.drop i) 0 == 13) && !(whiteR (l.drop i)).isEmpty) = true then (⟨#[32]⟩, whiteR (l.drop i)) else (⟨#[]⟩, whiteR (l.drop i))) := if_neg (by rw [h62, h43, h126]; decide)
  unfold CombPost
  rw [HR.out]
  clear h HR
  generalize whiteR (l.drop i) = R at *
  generalize kindA (l.drop i) 0 = K at *
  generalize delimA R 0 = D at *
  generalize R.isEmpty = E at *
  cases hk : (K == 13)
  · rw [if_neg (by simp)]
    go_enter Tryz.func41, Tryz.ntmps41
    go_wp2_with (first | (go_at_call 37; refine HW.out.mono ?_; rintro e w1 ⟨rfl, j, hij, hj, hjl, hs1⟩; have HJ := Lib.hid hj; have HS1 := Lib.hid hs1; clear hs1) | (go_at_call 68; refine (HD.out j HJ.out _ HS1.out).mono ?_; rintro e w2 ⟨rfl, hb2⟩; have HS2 := Lib.hid (HS1.out.below hb2)) | (go_at_call 40; refine (HE.out j HJ.out _ HS2.out).mono ?_; rintro e w3 ⟨rfl, hb3⟩; have HS3 := Lib.hid (HS2.out.below hb3)))
    all_goals go_ret
    all_goals exact ⟨rfl, j, hij, HJ.out, fun _ => ⟨by omega, by omega⟩, by first | exact HS3.out | exact HS2.out⟩
  · cases he : E
    · rw [if_pos (by decide)]
      go_enter Tryz.func41, Tryz.ntmps41
      go_wp2_with (first | (go_at_call 37; refine HW.out.mono ?_; rintro e w1 ⟨rfl, j, hij, hj, hjl, hs1⟩; have HJ := Lib.hid hj; have HS1 := Lib.hid hs1; clear hs1) | (go_at_call 68; refine (HD.out j HJ.out _ HS1.out).mono ?_; rintro e w2 ⟨rfl, hb2⟩; have HS2 := Lib.hid (HS1.out.below hb2)) | (go_at_call 40; refine (HE.out j HJ.out _ HS2.out).mono ?_; rintro e w3 ⟨rfl, hb3⟩; have HS3 := Lib.hid (HS2.out.below hb3)))
      all_goals go_ret
      all_goals exact ⟨rfl, j, hij, HJ.out, fun _ => ⟨by omega, by omega⟩, by first | exact HS3.out | exact HS2.out⟩
    · rw [if_neg (by decide)]
      go_enter Tryz.func41, Tryz.ntmps41
      go_wp2_with (first | (go_at_call 37; refine HW.out.mono ?_; rintro e w1 ⟨rfl, j, hij, hj, hjl, hs1⟩; have HJ := Lib.hid hj; have HS1 := Lib.hid hs1; clear hs1) | (go_at_call 68; refine (HD.out j HJ.out _ HS1.out).mono ?_; rintro e w2 ⟨rfl, hb2⟩; have HS2 := Lib.hid (HS1.out.below hb2)) | (go_at_call 40; refine (HE.out j HJ.out _ HS2.out).mono ?_; rintro e w3 ⟨rfl, hb3⟩; have HS3 := Lib.hid (HS2.out.below hb3)))
      all_goals go_ret
      all_goals exact ⟨rfl, j, hij, HJ.out, fun _ => ⟨by omega, by omega⟩, by first | exact HS3.out | exact HS2.out⟩
theorem scomb_any {P : Nat → Prop} {w0 w : World} {b : Nat} {v : Value} {l : List Nd} {dp : Int} {i : Nat} (h : SN P w0 b v l dp i w) :
    Calls Tryz.prog 41 #[.pointer (some ⟨b, 0, none⟩)] w (CombPost P w0 b v l dp i) := by
  cases h62 : ((delimA (whiteR (l.drop i)) 0).toList == [62])
  · cases h43 : ((delimA (whiteR (l.drop i)) 0).toList == [43])
    · cases h126 : ((delimA (whiteR (l.drop i)) 0).toList == [126])
      · exact scomb_none h h62 h43 h126
      · exact scomb_126 h h62 h43 h126
    · exact scomb_43 h h62 h43
  · exact scomb_62 h h62
theorem sop_any {P : Nat → Prop} {w0 w : World} {b : Nat} {v : Value} {l : List Nd} {dp : Int} {i : Nat} (h : SN P w0 b v l dp i w) (hi : i + 2 < 1000000000) (hx : ∀ n ∈ l, n.tok.text.size ≤ 1000000000) :
    Calls Tryz.prog 87 #[.pointer (some ⟨b, 0, none⟩)] w fun e w' => e = .returned (.tuple #[.string (opT (l.drop i)).1, .bool (opT (l.drop i)).2]) ∧ SN P w0 b v l dp (opI l i) w' := by
  have HD := Lib.hid (sdelim_any h 0 (by omega))
  have HE := Lib.hid (fun (W : World) (hW : SN P w0 b v l dp i W) => sdelim_any hW 1 (by omega))
  have HS := Lib.hid h
  have hsz : Hid ((delimA (l.drop i) 0).size ≤ 1000000000) := by
   show _ ≤ _
   unfold delimA delimN
   split
   · exact atK_tx hx i 0
   · exact Nat.zero_le _
  have hw2 : wrap64 ((i : Int) + 1) = ((i + 1 : Nat) : Int) := by unfold wrap64; omega
  have hw3 : wrap64 ((i : Int) + 2) = ((i + 2 : Nat) : Int) := by unfold wrap64; omega
  cases hd : ((delimA (l.drop i) 0).toList == [61])
  · cases ho : op2 (delimA (l.drop i) 0)
    · have HR : Hid (opT (l.drop i) = (⟨#[]⟩, false)) := by
       show opT _ = _
       unfold opT opR
       rw [hd, ho]
       simp
      have HI : Hid (opI l i = i) := by
       show opI _ _ = _
       unfold opI
       rw [hd, ho]
       simp
      rw [HR.out, HI.out]
      unfold op2 at ho
      clear h HR HI
      generalize delimA (l.drop i) 0 = D at *
      obtain ⟨⟨⟨⟨o1, o2⟩, o3⟩, o4⟩, o5⟩ : (((((D.toList == [126]) = false) ∧ ((D.toList == [124]) = false)) ∧ ((D.toList == [94]) = false)) ∧ ((D.toList == [36]) = false)) ∧ ((D.toList == [42]) = false) := by
       simpa only [Bool.or_eq_false_iff] using ho
      clear ho
      go_enter Tryz.func87, Tryz.ntmps87
      go_wp2_with (go_at_call 68; refine HD.out.mono ?_; rintro e w1 ⟨rfl, hb1⟩)
      all_goals exact bodyPost_ret (v := .tuple #[.string ⟨#[]⟩, .bool false]) (by simp [results, Tryz.results87, go_sem]) rfl ⟨rfl, HS.out.below hb1⟩
    · cases hd1 : ((delimA (l.drop i) 1).toList == [61])
      · have HR : Hid (opT (l.drop i) = (⟨#[]⟩, false)) := by
         show opT _ = _
         unfold opT opR
         rw [hd, ho, hd1]
         simp
        have HI : Hid (opI l i = i) := by
         show opI _ _ = _
         unfold opI
         rw [hd, ho, hd1]
         simp
        rw [HR.out, HI.out]
        clear h HR HI
        generalize delimA (l.drop i) 0 = D at *
        generalize delimA (l.drop i) 1 = D1 at *
        unfold op2 at ho
        cases o126 : (D.toList == [126])
        · cases o124 : (D.toList == [124])
          · cases o94 : (D.toList == [94])
            · cases o36 : (D.toList == [36])
              · cases o42 : (D.toList == [42])
                · exfalso
                  rw [o126, o124, o94, o36, o42] at ho
                  cases ho
                · clear ho
                  go_enter Tryz.func87, Tryz.ntmps87
                  go_wp2_with (first | (have hbb := hb1; go_at_call 68; refine (HE.out _ (HS.out.below hbb)).mono ?_; rintro e w2 ⟨rfl, hb2⟩; have HS2 := Lib.hid ((HS.out.below hbb).below hb2); have d2 := HS2.out.wk.c1; have e2 := HS2.out.wk.f1) | (go_at_call 68; refine HD.out.mono ?_; rintro e w1 ⟨rfl, hb1⟩))
                  exact bodyPost_ret (v := .tuple #[.string ⟨#[]⟩, .bool false]) (by simp [results, Tryz.results87, go_sem]) rfl ⟨rfl, HS2.out⟩
              · clear ho
                go_enter Tryz.func87, Tryz.ntmps87
                go_wp2_with (first | (have hbb := hb1; go_at_call 68; refine (HE.out _ (HS.out.below hbb)).mono ?_; rintro e w2 ⟨rfl, hb2⟩; have HS2 := Lib.hid ((HS.out.below hbb).below hb2); have d2 := HS2.out.wk.c1; have e2 := HS2.out.wk.f1) | (go_at_call 68; refine HD.out.mono ?_; rintro e w1 ⟨rfl, hb1⟩))
                exact bodyPost_ret (v := .tuple #[.string ⟨#[]⟩, .bool false]) (by simp [results, Tryz.results87, go_sem]) rfl ⟨rfl, HS2.out⟩
            · clear ho
              go_enter Tryz.func87, Tryz.ntmps87
              go_wp2_with (first | (have hbb := hb1; go_at_call 68; refine (HE.out _ (HS.out.below hbb)).mono ?_; rintro e w2 ⟨rfl, hb2⟩; have HS2 := Lib.hid ((HS.out.below hbb).below hb2); have d2 := HS2.out.wk.c1; have e2 := HS2.out.wk.f1) | (go_at_call 68; refine HD.out.mono ?_; rintro e w1 ⟨rfl, hb1⟩))
              exact bodyPost_ret (v := .tuple #[.string ⟨#[]⟩, .bool false]) (by simp [results, Tryz.results87, go_sem]) rfl ⟨rfl, HS2.out⟩
          · clear ho
            go_enter Tryz.func87, Tryz.ntmps87
            go_wp2_with (first | (have hbb := hb1; go_at_call 68; refine (HE.out _ (HS.out.below hbb)).mono ?_; rintro e w2 ⟨rfl, hb2⟩; have HS2 := Lib.hid ((HS.out.below hbb).below hb2); have d2 := HS2.out.wk.c1; have e2 := HS2.out.wk.f1) | (go_at_call 68; refine HD.out.mono ?_; rintro e w1 ⟨rfl, hb1⟩))
            exact bodyPost_ret (v := .tuple #[.string ⟨#[]⟩, .bool false]) (by simp [results, Tryz.results87, go_sem]) rfl ⟨rfl, HS2.out⟩
        · clear ho
          go_enter Tryz.func87, Tryz.ntmps87
          go_wp2_with (first | (have hbb := hb1; go_at_call 68; refine (HE.out _ (HS.out.below hbb)).mono ?_; rintro e w2 ⟨rfl, hb2⟩; have HS2 := Lib.hid ((HS.out.below hbb).below hb2); have d2 := HS2.out.wk.c1; have e2 := HS2.out.wk.f1) | (go_at_call 68; refine HD.out.mono ?_; rintro e w1 ⟨rfl, hb1⟩))
          exact bodyPost_ret (v := .tuple #[.string ⟨#[]⟩, .bool false]) (by simp [results, Tryz.results87, go_sem]) rfl ⟨rfl, HS2.out⟩
      · have HR : Hid (opT (l.drop i) = (delimA (l.drop i) 0 ++ ⟨#[61]⟩, true)) := by
         show opT _ = _
         unfold opT opR
         rw [hd, ho, hd1]
         simp
        have HI : Hid (opI l i = i + 2) := by
         show opI _ _ = _
         unfold opI
         rw [hd, ho, hd1]
         simp
        rw [HR.out, HI.out]
        clear h HR HI
        generalize delimA (l.drop i) 0 = D at *
        generalize delimA (l.drop i) 1 = D1 at *
        unfold op2 at ho
        have hcs : D.size + 1 ≤ 9223372036854775807 := by have := hsz.out; omega
        have hadd : ∀ W : World, (Op.stringOp .add D ⟨#[61]⟩).run Tryz.prog W = .ok (.string (D ++ ⟨#[61]⟩)) W := fun W => run_string_add_sum W _ _ hcs
        have hcat : ¬ 9223372036854775807 < D.size + 1 := by omega
        have hcat2 : ¬ 9223372036854775807 < D.size + (⟨#[61]⟩ : ByteArray).size := hcat
        cases o126 : (D.toList == [126])
        · cases o124 : (D.toList == [124])
          · cases o94 : (D.toList == [94])
            · cases o36 : (D.toList == [36])
              · cases o42 : (D.toList == [42])
                · exfalso
                  rw [o126, o124, o94, o36, o42] at ho
                  cases ho
                · clear ho
                  go_enter Tryz.func87, Tryz.ntmps87
                  go_wp2_with (first | (have hbb := hb1; go_at_call 68; refine (HE.out _ (HS.out.below hbb)).mono ?_; rintro e w2 ⟨rfl, hb2⟩; have HS2 := Lib.hid ((HS.out.below hbb).below hb2); have d2 := HS2.out.wk.c1; have e2 := HS2.out.wk.f1) | (go_at_call 68; refine HD.out.mono ?_; rintro e w1 ⟨rfl, hb1⟩))
                  have hput := HS2.out.put (i + 2) (by omega)
                  rw [Int.natCast_add] at hput
                  exact bodyPost_ret (v := .tuple #[.string (D ++ (⟨#[61]⟩ : ByteArray)), .bool true]) (by simp [results, Tryz.results87, go_sem]) rfl ⟨rfl, hput⟩
              · clear ho
                go_enter Tryz.func87, Tryz.ntmps87
                go_wp2_with (first | (have hbb := hb1; go_at_call 68; refine (HE.out _ (HS.out.below hbb)).mono ?_; rintro e w2 ⟨rfl, hb2⟩; have HS2 := Lib.hid ((HS.out.below hbb).below hb2); have d2 := HS2.out.wk.c1; have e2 := HS2.out.wk.f1) | (go_at_call 68; refine HD.out.mono ?_; rintro e w1 ⟨rfl, hb1⟩))
                have hput := HS2.out.put (i + 2) (by omega)
                rw [Int.natCast_add] at hput
                exact bodyPost_ret (v := .tuple #[.string (D ++ (⟨#[61]⟩ : ByteArray)), .bool true]) (by simp [results, Tryz.results87, go_sem]) rfl ⟨rfl, hput⟩
            · clear ho
              go_enter Tryz.func87, Tryz.ntmps87
              go_wp2_with (first | (have hbb := hb1; go_at_call 68; refine (HE.out _ (HS.out.below hbb)).mono ?_; rintro e w2 ⟨rfl, hb2⟩; have HS2 := Lib.hid ((HS.out.below hbb).below hb2); have d2 := HS2.out.wk.c1; have e2 := HS2.out.wk.f1) | (go_at_call 68; refine HD.out.mono ?_; rintro e w1 ⟨rfl, hb1⟩))
              have hput := HS2.out.put (i + 2) (by omega)
              rw [Int.natCast_add] at hput
              exact bodyPost_ret (v := .tuple #[.string (D ++ (⟨#[61]⟩ : ByteArray)), .bool true]) (by simp [results, Tryz.results87, go_sem]) rfl ⟨rfl, hput⟩
          · clear ho
            go_enter Tryz.func87, Tryz.ntmps87
            go_wp2_with (first | (have hbb := hb1; go_at_call 68; refine (HE.out _ (HS.out.below hbb)).mono ?_; rintro e w2 ⟨rfl, hb2⟩; have HS2 := Lib.hid ((HS.out.below hbb).below hb2); have d2 := HS2.out.wk.c1; have e2 := HS2.out.wk.f1) | (go_at_call 68; refine HD.out.mono ?_; rintro e w1 ⟨rfl, hb1⟩))
            have hput := HS2.out.put (i + 2) (by omega)
            rw [Int.natCast_add] at hput
            exact bodyPost_ret (v := .tuple #[.string (D ++ (⟨#[61]⟩ : ByteArray)), .bool true]) (by simp [results, Tryz.results87, go_sem]) rfl ⟨rfl, hput⟩
        · clear ho
          go_enter Tryz.func87, Tryz.ntmps87
          go_wp2_with (first | (have hbb := hb1; go_at_call 68; refine (HE.out _ (HS.out.below hbb)).mono ?_; rintro e w2 ⟨rfl, hb2⟩; have HS2 := Lib.hid ((HS.out.below hbb).below hb2); have d2 := HS2.out.wk.c1; have e2 := HS2.out.wk.f1) | (go_at_call 68; refine HD.out.mono ?_; rintro e w1 ⟨rfl, hb1⟩))
          have hput := HS2.out.put (i + 2) (by omega)
          rw [Int.natCast_add] at hput
          exact bodyPost_ret (v := .tuple #[.string (D ++ (⟨#[61]⟩ : ByteArray)), .bool true]) (by simp [results, Tryz.results87, go_sem]) rfl ⟨rfl, hput⟩
  · have HR : Hid (opT (l.drop i) = (delimA (l.drop i) 0, true)) := by
     show opT _ = _
     unfold opT opR
     rw [if_pos hd]
    have HI : Hid (opI l i = i + 1) := if_pos hd
    rw [HR.out, HI.out]
    clear h HR HI
    generalize delimA (l.drop i) 0 = D at *
    go_enter Tryz.func87, Tryz.ntmps87
    go_wp2_with (go_at_call 68; refine HD.out.mono ?_; rintro e w1 ⟨rfl, hb1⟩; have HS1 := Lib.hid (HS.out.below hb1); have d1 := HS1.out.wk.c1; have e1 := HS1.out.wk.f1)
    have hput := HS1.out.put (i + 1) (by omega)
    rw [Int.natCast_add, Int.natCast_one] at hput
    exact bodyPost_ret (v := .tuple #[.string D, .bool true]) (by simp [results, Tryz.results87, go_sem]) rfl ⟨rfl, hput⟩
def ofT (t : Tok) : Bool := (t.kind == 1) && ((lowS t.text).toList == [111, 102])
theorem ofN_tok (t : Tok) (k : List Nd) : ofN (.mk t k) = ofT t := rfl
def idxO : List Nd → Nat → Int
  | [], _ => -1
  | n :: l, i => if ofN n = true then (i : Int) else idxO l (i + 1)
theorem idxO_neg : ∀ (l : List Nd) (i : Nat), l.any ofN = false → idxO l i = -1
  | [], i, _ => rfl
  | n :: l, i, h => by
   rw [List.any_cons, Bool.or_eq_false_iff] at h
   rw [idxO, if_neg (by rw [h.1]; decide), idxO_neg l (i + 1) h.2]
theorem idxO_pos : ∀ (l : List Nd) (i : Nat), l.any ofN = true → idxO l i = ((i + (l.takeWhile fun n => !ofN n).length : Nat) : Int)
  | [], i, h => by cases h
  | n :: l, i, h => by
   by_cases c : ofN n = true
   · rw [idxO, if_pos c, List.takeWhile_cons, if_neg (by rw [c]; decide)]
     rfl
   · have c' : ofN n = false := by simpa using c
     rw [List.any_cons, c', Bool.false_or] at h
     rw [idxO, if_neg c, List.takeWhile_cons, if_pos (by rw [c']; rfl), idxO_pos l (i + 1) h, List.length_cons]
     congr 1
     omega
theorem tw_take (p : Nd → Bool) (l : List Nd) : l.take (l.takeWhile p).length = l.takeWhile p := by
 conv => lhs; rw [show l.take (l.takeWhile p).length = (l.takeWhile p ++ l.dropWhile p).take (l.takeWhile p).length by rw [List.takeWhile_append_dropWhile]]
 rw [List.take_left]
theorem tw_drop (p : Nd → Bool) (l : List Nd) : l.drop (l.takeWhile p).length = l.dropWhile p := by
 conv => lhs; rw [show l.drop (l.takeWhile p).length = (l.takeWhile p ++ l.dropWhile p).drop (l.takeWhile p).length by rw [List.takeWhile_append_dropWhile]]
 rw [List.drop_left]
theorem of_any (t : Tok) (a : Option Addr) (n c : Nat) (w : World) (hx : t.text.size ≤ 1000000000) :
    Calls Tryz.prog 97 #[nval t (.slice a n c)] w fun e w' => e = .returned (.bool (ofT t)) ∧ Below w.heap.size w w' := by
  have hb := (Below.refl w.heap.size w).alloc (Nat.le_refl _) (.cells #[.int .i64 t.kind, .string t.text, .int .i64 t.int, .bool t.whole, .bool t.sign, .bool t.id, .slice a n c] 96)
  have HL := Lib.hid (fun W => lower_any t.text W hx)
  unfold ofT
  cases hk : (t.kind == 1)
  · rw [Bool.false_and]
    go_enter Tryz.func97, Tryz.ntmps97
    go_wp2
    go_ret
    exact ⟨rfl, by first | exact hb.drew | exact hb⟩
  · rw [Bool.true_and]
    generalize lowS t.text = X at *
    go_enter Tryz.func97, Tryz.ntmps97
    go_wp2_with (go_at_call 67; refine (HL.out _).mono ?_; rintro e w2 ⟨rfl, hb2⟩)
    go_ret
    exact ⟨rfl, by first | exact below_seq hb.drew hb2 | exact below_seq hb hb2⟩
theorem idxOf_any {l : List Nd} {v : Value} {w : World} {P : Nat → Prop} (h : RdN w P v l) (hl : szL l ≤ 100000000) (hx : ∀ n ∈ l, n.tok.text.size ≤ 1000000000) :
    Calls Tryz.prog 96 #[v, .func (.func 97) #[] #[]] w fun e w' => e = .returned (.int .i64 (idxO l 0)) ∧ Below w.heap.size w w' := by
  have hll := szL_ge l
  have HH := Lib.hid h
  obtain ⟨a, c, rfl, hlc⟩ := h.shape
  obtain ⟨N, hN⟩ : ∃ N, l.length = N := ⟨_, rfl⟩
  rw [hN] at hll hlc ⊢
  have HN := Lib.hid hN
  have eg := enters_of Tryz.func97 (by kernel_rfl) rfl
  clear h hN
  go_enter Tryz.func96, Tryz.ntmps96
  go_wp2
  go_loopw [8] (fun iv wr => ∃ i : Nat, iv = .int .i64 i ∧ i ≤ N ∧ idxO (l.drop i) i = idxO l 0 ∧ Below w.heap.size w wr) (fun iv _ => N - (intOf iv).toNat)
  case atStart => exact ⟨0, rfl, Nat.zero_le _, rfl, Below.refl _ _⟩
  case round =>
   obtain ⟨i, rfl, hiN, hix, hB⟩ := hrel
   have HB := Lib.hid hB
   have HX := Lib.hid hix
   clear hB hix
   by_cases hlt : i < N
   · have hr := HH.out.under HB.out (Nat.le_refl _)
     obtain ⟨b, off, c2, hv2, _, _, hbl, g1⟩ := hr.base (by rw [HN.out]; omega)
     rw [HN.out] at hv2
     injection hv2 with e1 _ e3
     subst e1 e3
     obtain ⟨u, hat, hku⟩ := g1 i (by rw [HN.out]; exact hlt)
     obtain ⟨ua, uc, hus, _⟩ := hku.shape
     subst hus
     have hdr : l.drop i = l[i]'(by rw [HN.out]; exact hlt) :: l.drop (i + 1) := List.drop_eq_getElem_cons (by rw [HN.out]; exact hlt)
     have hxt := hx _ (List.getElem_mem (by rw [HN.out]; exact hlt : i < l.length))
     have hsz := szL_at l i (by rw [HN.out]; exact hlt)
     have hkl := szL_ge (l[i]'(by rw [HN.out]; exact hlt)).kids
     generalize l[i]'(by rw [HN.out]; exact hlt) = nd at *
     obtain ⟨t, k⟩ := nd
     simp only [Nd.tok, Nd.kids] at hat hsz hkl hxt
     obtain ⟨c0, c1, c2', c3, c4, c5, c6⟩ := hat
     have HD := Lib.hid hdr
     have hx0 : (0 : Int) ≤ (i : Int) := by omega
     have hx1 : (i : Int) < (N : Int) := by omega
     clear hdr hku g1 hr hsz hkl
     have HC := Lib.hid (of_any t ua k.length uc wr hxt)
     cases hk : ofT t
     · rw [hk] at HC
       have HK := Lib.hid hk
       clear hk
       go_wp2_with (go_at_call 97; refine HC.out.mono ?_; rintro e w2 ⟨rfl, hb2⟩)
       go_roundw
       case rel =>
        refine ⟨i + 1, by go_num, by omega, ?_, below_seq HB.out hb2⟩
        have h := HX.out
        rw [HD.out, idxO, ofN_tok, HK.out, if_neg (by decide)] at h
        exact h
       case measure => simp [intOf]; omega
     · rw [hk] at HC
       have HK := Lib.hid hk
       clear hk
       go_wp2_with (go_at_call 97; refine HC.out.mono ?_; rintro e w2 ⟨rfl, hb2⟩)
       go_ret
       have h := HX.out
       rw [HD.out, idxO, ofN_tok, HK.out, if_pos rfl] at h
       exact ⟨ret_int h, below_seq HB.out hb2⟩
   · have h := HX.out
     rw [show l.drop i = [] from List.drop_eq_nil_of_le (by rw [HN.out]; omega), idxO] at h
     have HE := Lib.hid h
     clear h
     go_wp2
     go_ret
     exact ⟨ret_int HE.out, HB.out⟩
def whB (l : List Nd) (i : Int) : Bool := decide (0 ≤ i) && wh13 (atK l i.toNat)
theorem whiteAt_any {l : List Nd} {v : Value} {w : World} {P : Nat → Prop} (h : RdN w P v l) (hl : szL l ≤ 100000000) (i : Int) (hi : i ≤ 1000000000) (hi2 : -10 ≤ i) :
    Calls Tryz.prog 98 #[v, .int .i64 i] w fun e w' => e = .returned (.bool (whB l i)) ∧ Below w.heap.size w w' := by
  have hll := szL_ge l
  unfold whB
  by_cases h0 : 0 ≤ i
  · obtain ⟨n, rfl⟩ : ∃ n : Nat, i = n := ⟨i.toNat, by omega⟩
    rw [decide_eq_true h0, Bool.true_and, Int.toNat_natCast]
    have h0b : decide ((0 : Int) ≤ (n : Int)) = true := decide_eq_true h0
    by_cases hlt : n < l.length
    · have hN := atK_lt (l := l) (i := 0) (n := n) (by omega)
      obtain ⟨g, off, c, rfl, _, _, hgl, g1⟩ := h.base (by omega)
      obtain ⟨u, hat, hku⟩ := g1 n hlt
      rw [show l[n] = atK l n by rw [List.drop_zero] at hN; rw [hN]; congr 1; omega] at hat
      generalize atK l n = nd at *
      obtain ⟨t, k⟩ := nd
      obtain ⟨p0, p1, p2, p3, p4, p5, p6⟩ := hat
      simp only [Nd.tok, Nd.kids] at p0 p1 p2 p3 p4 p5 p6
      have h1 : (n : Int) < (l.length : Int) := by omega
      have h1b : decide ((n : Int) < (l.length : Int)) = true := decide_eq_true h1
      have hw : wh13 (.mk t k) = (t.kind == 13) := rfl
      rw [hw]
      clear h hku g1 hw hN
      generalize l.length = N at *
      go_enter Tryz.func98, Tryz.ntmps98
      go_wp2
      go_ret
      exact ⟨rfl, by first | exact (Below.refl _ _).drew | exact Below.refl _ _⟩
    · have hN := atK_ge (l := l) (i := 0) (n := n) (by omega)
      rw [List.drop_zero] at hN
      rw [hN]
      obtain ⟨a, c, rfl, _⟩ := h.shape
      have h1 : ¬ (n : Int) < (l.length : Int) := by omega
      have h1b : decide ((n : Int) < (l.length : Int)) = false := decide_eq_false h1
      clear h hN
      generalize l.length = N at *
      go_enter Tryz.func98, Tryz.ntmps98
      go_wp2
      go_ret
      exact ⟨rfl, by first | exact (Below.refl _ _).drew | exact Below.refl _ _⟩
  · rw [decide_eq_false h0, Bool.false_and]
    have h0b : decide ((0 : Int) ≤ i) = false := decide_eq_false h0
    obtain ⟨a, c, rfl, _⟩ := h.shape
    clear h
    generalize l.length = N at *
    go_enter Tryz.func98, Tryz.ntmps98
    go_wp2
    go_ret
    exact ⟨rfl, by first | exact (Below.refl _ _).drew | exact Below.refl _ _⟩
end Go.Proofs.YtclicjiakkcfcaaGreatDoor
