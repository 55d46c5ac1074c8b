
import Derived.Test.YtjjlnmjapfcmaaaDoorDeH
import Derived.Test.YtjjlnmjapfcmaaaDoorDeF
namespace Go.Proofs.YtjjlnmjapfcmaaaDoor
open Go.RowKit
def takeFalS (l : List Nd) (st : StD) : StD × Bool := if (nameS l).2 = true then ({ st with d := { st.d with fall := (nameS l).1 } }, true) else (st, false)
def takePreS (l : List Nd) (st : StD) : StD × Bool := if (symOne l).2 = true then ({ st with d := { st.d with pre := (symOne l).1 } }, true) else (st, false)
def takeSufS (l : List Nd) (st : StD) : StD × Bool := if (symOne l).2 = true then ({ st with d := { st.d with suf := (symOne l).1 } }, true) else (st, false)
set_option maxRecDepth 100000 in
set_option maxHeartbeats 3200000 in
theorem takeFal_any {l : List Nd} {v : Value} {w : World} {P : Nat → Prop} {B b : Nat} {st : StD} {sv av wv rv : Value} (ht : Tab w) (hI : StI B w b st sv av wv rv) (h : RdN w P v l) (hl : szL l ≤ 100000000) (hx : TX l) :
    Calls Tryd.prog 53 #[.pointer (some ⟨b, 0, none⟩), v] w (TakePost B w b (takeFalS l st)) := by
  have HI := Lib.hid hI
  have HC := Lib.hid (name_any ht h hl hx)
  have HR : Hid (takeFalS l st = if (nameS l).2 = true then ({ st with d := { st.d with fall := (nameS l).1 } }, true) else (st, false)) := rfl
  generalize takeFalS l st = R at *
  generalize nameS l = SR at *
  obtain ⟨a0, c0, rfl, _⟩ := h.shape
  clear hI h ht
  go_enter Tryd.func53, Tryd.ntmps53
  go_wp2_with fail
  refine HC.out.mono ?_
  rintro e w1 ⟨rfl, hb1⟩
  have HI1 := Lib.hid (HI.out.below hb1)
  cases hok : SR.2
  · have HR2 : Hid (R = (st, false)) := HR.out.trans (if_neg (by rw [hok]; decide))
    go_wp2
    go_ret
    rw [HR2.out]
    exact ⟨⟨_, _, _, _, rfl, HI1.out⟩, gb_below hb1 _⟩
  · have HR2 : Hid (R = ({ st with d := { st.d with fall := SR.1 } }, true)) := HR.out.trans (if_pos hok)
    have d13 : w1.cell? ⟨b, 13, none⟩ = some (.string st.d.fall) := HI1.out.box.cell 13
    have f13 : w1.frozen? ⟨b, 13, none⟩ = false := HI1.out.box.frozen 13
    go_wp2
    go_ret
    rw [HR2.out]
    exact ⟨⟨_, _, _, _, rfl, HI1.out.put 13 (.string SR.1) _ _ _ _ _ rfl HI1.out.sy HI1.out.ad HI1.out.we HI1.out.rn⟩, gb_put (gb_below hb1 _)⟩
abbrev dsystemL : List UInt8 := [115, 121, 115, 116, 101, 109]
abbrev dnegativeL : List UInt8 := [110, 101, 103, 97, 116, 105, 118, 101]
abbrev dprefixL : List UInt8 := [112, 114, 101, 102, 105, 120]
abbrev dsuffixL : List UInt8 := [115, 117, 102, 102, 105, 120]
abbrev drangeL : List UInt8 := [114, 97, 110, 103, 101]
abbrev dpadL : List UInt8 := [112, 97, 100]
abbrev dfallbackL : List UInt8 := [102, 97, 108, 108, 98, 97, 99, 107]
abbrev dsymbolsL : List UInt8 := [115, 121, 109, 98, 111, 108, 115]
abbrev dadditivesymbolsL : List UInt8 := [97, 100, 100, 105, 116, 105, 118, 101, 45, 115, 121, 109, 98, 111, 108, 115]
def takeS (nm : ByteArray) (l : List Nd) (st : StD) : StD × Bool :=
  if isB nm dsystemL then takeSysS l st else if isB nm dnegativeL then takeNegS l st else if isB nm dprefixL then takePreS l st else if isB nm dsuffixL then takeSufS l st else if isB nm drangeL then takeRngS l st else if isB nm dpadL then takePadS l st else if isB nm dfallbackL then takeFalS l st else if isB nm dsymbolsL then takeSymsS l st else if isB nm dadditivesymbolsL then takeAddS l st else (st, false)
theorem isB_ne {a : ByteArray} {x y : List UInt8} (h : isB a x = true) (hne : (x == y) = false) : isB a y = false := by
  unfold isB at h ⊢
  rw [eq_of_beq h]
  exact hne
set_option maxRecDepth 100000 in
set_option maxHeartbeats 6400000 in
theorem take_any {l : List Nd} {v : Value} {w : World} {P : Nat → Prop} {B b : Nat} {st : StD} {sv av wv rv : Value} (nm : ByteArray) (ht : Tab w) (hI : StI B w b st sv av wv rv) (h : RdN w P v l) (hl : szL l ≤ 100000000) (hx : TX l) (hBw : B ≤ w.heap.size) :
    Calls Tryd.prog 27 #[.pointer (some ⟨b, 0, none⟩), .string nm, v] w (TakePost B w b (takeS nm l st)) := by
  have HI := Lib.hid hI
  have HT := Lib.hid ht
  have HH := Lib.hid h
  have HX := Lib.hid hx
  obtain ⟨a0, c0, rfl, _⟩ := h.shape
  clear h hI hx ht
  by_cases h0 : isB nm dsystemL = true
  · have HS : Hid (takeS nm l st = takeSysS l st) := by
      show _ = _
      unfold takeS
      rw [if_pos h0]
    have t0 : (nm.toList == [115, 121, 115, 116, 101, 109]) = true := h0
    generalize takeS nm l st = R at *
    go_enter Tryd.func27, Tryd.ntmps27
    go_wp2_with (go_at_call 48; refine (takeSys_any HT.out HI.out HH.out hl HX.out).mono ?_; rintro e w1 ⟨⟨x1, x2, x3, x4, rfl, hI1⟩, hg1⟩)
    go_ret
    rw [HS.out]
    exact ⟨⟨_, _, _, _, rfl, hI1⟩, hg1⟩
  have h0 : isB nm dsystemL = false := by simpa using h0
  by_cases h1 : isB nm dnegativeL = true
  · have HS : Hid (takeS nm l st = takeNegS l st) := by
      show _ = _
      unfold takeS
      rw [if_neg (by rw [h0]; decide), if_pos h1]
    have t0 : (nm.toList == [115, 121, 115, 116, 101, 109]) = false := h0
    have t1 : (nm.toList == [110, 101, 103, 97, 116, 105, 118, 101]) = true := h1
    generalize takeS nm l st = R at *
    go_enter Tryd.func27, Tryd.ntmps27
    go_wp2_with (go_at_call 49; refine (takeNeg_any HI.out HH.out hl).mono ?_; rintro e w1 ⟨⟨x1, x2, x3, x4, rfl, hI1⟩, hg1⟩)
    go_ret
    rw [HS.out]
    exact ⟨⟨_, _, _, _, rfl, hI1⟩, hg1⟩
  have h1 : isB nm dnegativeL = false := by simpa using h1
  by_cases h2 : isB nm dprefixL = true
  · have HS : Hid (takeS nm l st = takePreS l st) := by
      show _ = _
      unfold takeS
      rw [if_neg (by rw [h0]; decide), if_neg (by rw [h1]; decide), if_pos h2]
    have t0 : (nm.toList == [115, 121, 115, 116, 101, 109]) = false := h0
    have t1 : (nm.toList == [110, 101, 103, 97, 116, 105, 118, 101]) = false := h1
    have t2 : (nm.toList == [112, 114, 101, 102, 105, 120]) = true := h2
    generalize takeS nm l st = R at *
    have dk : w.cell? ⟨b, 7, none⟩ = some (.string st.d.pre) := HI.out.box.cell 7
    have fk : w.frozen? ⟨b, 7, none⟩ = false := HI.out.box.frozen 7
    have HCC := Lib.hid (takeSymbol_any HH.out dk fk)
    go_enter Tryd.func27, Tryd.ntmps27
    go_wp2_with (go_at_call 50; refine HCC.out.mono ?_; rintro e w1 ⟨rfl, hor⟩)
    go_ret
    rw [HS.out]
    unfold takePreS
    rcases hor with ⟨hf, hb1⟩ | ⟨hf, w2, hb2, rfl⟩
    · rw [if_neg (by rw [hf]; decide), hf]
      exact ⟨⟨_, _, _, _, rfl, HI.out.below hb1⟩, gb_below hb1 _⟩
    · rw [if_pos hf, hf]
      have hI2 := HI.out.below hb2
      exact ⟨⟨_, _, _, _, rfl, hI2.put 7 (.string (symOne l).1) _ _ _ _ _ rfl hI2.sy hI2.ad hI2.we hI2.rn⟩, gb_put (gb_below hb2 _)⟩
  have h2 : isB nm dprefixL = false := by simpa using h2
  by_cases h3 : isB nm dsuffixL = true
  · have HS : Hid (takeS nm l st = takeSufS l st) := by
      show _ = _
      unfold takeS
      rw [if_neg (by rw [h0]; decide), if_neg (by rw [h1]; decide), if_neg (by rw [h2]; decide), if_pos h3]
    have t0 : (nm.toList == [115, 121, 115, 116, 101, 109]) = false := h0
    have t1 : (nm.toList == [110, 101, 103, 97, 116, 105, 118, 101]) = false := h1
    have t2 : (nm.toList == [112, 114, 101, 102, 105, 120]) = false := h2
    have t3 : (nm.toList == [115, 117, 102, 102, 105, 120]) = true := h3
    generalize takeS nm l st = R at *
    have dk : w.cell? ⟨b, 8, none⟩ = some (.string st.d.suf) := HI.out.box.cell 8
    have fk : w.frozen? ⟨b, 8, none⟩ = false := HI.out.box.frozen 8
    have HCC := Lib.hid (takeSymbol_any HH.out dk fk)
    go_enter Tryd.func27, Tryd.ntmps27
    go_wp2_with (go_at_call 50; refine HCC.out.mono ?_; rintro e w1 ⟨rfl, hor⟩)
    go_ret
    rw [HS.out]
    unfold takeSufS
    rcases hor with ⟨hf, hb1⟩ | ⟨hf, w2, hb2, rfl⟩
    · rw [if_neg (by rw [hf]; decide), hf]
      exact ⟨⟨_, _, _, _, rfl, HI.out.below hb1⟩, gb_below hb1 _⟩
    · rw [if_pos hf, hf]
      have hI2 := HI.out.below hb2
      exact ⟨⟨_, _, _, _, rfl, hI2.put 8 (.string (symOne l).1) _ _ _ _ _ rfl hI2.sy hI2.ad hI2.we hI2.rn⟩, gb_put (gb_below hb2 _)⟩
  have h3 : isB nm dsuffixL = false := by simpa using h3
  by_cases h4 : isB nm drangeL = true
  · have HS : Hid (takeS nm l st = takeRngS l st) := by
      show _ = _
      unfold takeS
      rw [if_neg (by rw [h0]; decide), if_neg (by rw [h1]; decide), if_neg (by rw [h2]; decide), if_neg (by rw [h3]; decide), if_pos h4]
    have t0 : (nm.toList == [115, 121, 115, 116, 101, 109]) = false := h0
    have t1 : (nm.toList == [110, 101, 103, 97, 116, 105, 118, 101]) = false := h1
    have t2 : (nm.toList == [112, 114, 101, 102, 105, 120]) = false := h2
    have t3 : (nm.toList == [115, 117, 102, 102, 105, 120]) = false := h3
    have t4 : (nm.toList == [114, 97, 110, 103, 101]) = true := h4
    generalize takeS nm l st = R at *
    go_enter Tryd.func27, Tryd.ntmps27
    go_wp2_with (go_at_call 51; refine (takeRng_any HI.out HH.out hl HX.out hBw).mono ?_; rintro e w1 ⟨⟨x1, x2, x3, x4, rfl, hI1⟩, hg1⟩)
    go_ret
    rw [HS.out]
    exact ⟨⟨_, _, _, _, rfl, hI1⟩, hg1⟩
  have h4 : isB nm drangeL = false := by simpa using h4
  by_cases h5 : isB nm dpadL = true
  · have HS : Hid (takeS nm l st = takePadS l st) := by
      show _ = _
      unfold takeS
      rw [if_neg (by rw [h0]; decide), if_neg (by rw [h1]; decide), if_neg (by rw [h2]; decide), if_neg (by rw [h3]; decide), if_neg (by rw [h4]; decide), if_pos h5]
    have t0 : (nm.toList == [115, 121, 115, 116, 101, 109]) = false := h0
    have t1 : (nm.toList == [110, 101, 103, 97, 116, 105, 118, 101]) = false := h1
    have t2 : (nm.toList == [112, 114, 101, 102, 105, 120]) = false := h2
    have t3 : (nm.toList == [115, 117, 102, 102, 105, 120]) = false := h3
    have t4 : (nm.toList == [114, 97, 110, 103, 101]) = false := h4
    have t5 : (nm.toList == [112, 97, 100]) = true := h5
    generalize takeS nm l st = R at *
    go_enter Tryd.func27, Tryd.ntmps27
    go_wp2_with (go_at_call 52; refine (takePad_any HI.out HH.out hl).mono ?_; rintro e w1 ⟨⟨x1, x2, x3, x4, rfl, hI1⟩, hg1⟩)
    go_ret
    rw [HS.out]
    exact ⟨⟨_, _, _, _, rfl, hI1⟩, hg1⟩
  have h5 : isB nm dpadL = false := by simpa using h5
  by_cases h6 : isB nm dfallbackL = true
  · have HS : Hid (takeS nm l st = takeFalS l st) := by
      show _ = _
      unfold takeS
      rw [if_neg (by rw [h0]; decide), if_neg (by rw [h1]; decide), if_neg (by rw [h2]; decide), if_neg (by rw [h3]; decide), if_neg (by rw [h4]; decide), if_neg (by rw [h5]; decide), if_pos h6]
    have t0 : (nm.toList == [115, 121, 115, 116, 101, 109]) = false := h0
    have t1 : (nm.toList == [110, 101, 103, 97, 116, 105, 118, 101]) = false := h1
    have t2 : (nm.toList == [112, 114, 101, 102, 105, 120]) = false := h2
    have t3 : (nm.toList == [115, 117, 102, 102, 105, 120]) = false := h3
    have t4 : (nm.toList == [114, 97, 110, 103, 101]) = false := h4
    have t5 : (nm.toList == [112, 97, 100]) = false := h5
    have t6 : (nm.toList == [102, 97, 108, 108, 98, 97, 99, 107]) = true := h6
    generalize takeS nm l st = R at *
    go_enter Tryd.func27, Tryd.ntmps27
    go_wp2_with (go_at_call 53; refine (takeFal_any HT.out HI.out HH.out hl HX.out).mono ?_; rintro e w1 ⟨⟨x1, x2, x3, x4, rfl, hI1⟩, hg1⟩)
    go_ret
    rw [HS.out]
    exact ⟨⟨_, _, _, _, rfl, hI1⟩, hg1⟩
  have h6 : isB nm dfallbackL = false := by simpa using h6
  by_cases h7 : isB nm dsymbolsL = true
  · have HS : Hid (takeS nm l st = takeSymsS l st) := by
      show _ = _
      unfold takeS
      rw [if_neg (by rw [h0]; decide), if_neg (by rw [h1]; decide), if_neg (by rw [h2]; decide), if_neg (by rw [h3]; decide), if_neg (by rw [h4]; decide), if_neg (by rw [h5]; decide), if_neg (by rw [h6]; decide), if_pos h7]
    have t0 : (nm.toList == [115, 121, 115, 116, 101, 109]) = false := h0
    have t1 : (nm.toList == [110, 101, 103, 97, 116, 105, 118, 101]) = false := h1
    have t2 : (nm.toList == [112, 114, 101, 102, 105, 120]) = false := h2
    have t3 : (nm.toList == [115, 117, 102, 102, 105, 120]) = false := h3
    have t4 : (nm.toList == [114, 97, 110, 103, 101]) = false := h4
    have t5 : (nm.toList == [112, 97, 100]) = false := h5
    have t6 : (nm.toList == [102, 97, 108, 108, 98, 97, 99, 107]) = false := h6
    have t7 : (nm.toList == [115, 121, 109, 98, 111, 108, 115]) = true := h7
    generalize takeS nm l st = R at *
    go_enter Tryd.func27, Tryd.ntmps27
    go_wp2_with (go_at_call 54; refine (takeSyms_any HI.out HH.out hl hBw).mono ?_; rintro e w1 ⟨⟨x1, x2, x3, x4, rfl, hI1⟩, hg1⟩)
    go_ret
    rw [HS.out]
    exact ⟨⟨_, _, _, _, rfl, hI1⟩, hg1⟩
  have h7 : isB nm dsymbolsL = false := by simpa using h7
  by_cases h8 : isB nm dadditivesymbolsL = true
  · have HS : Hid (takeS nm l st = takeAddS l st) := by
      show _ = _
      unfold takeS
      rw [if_neg (by rw [h0]; decide), if_neg (by rw [h1]; decide), if_neg (by rw [h2]; decide), if_neg (by rw [h3]; decide), if_neg (by rw [h4]; decide), if_neg (by rw [h5]; decide), if_neg (by rw [h6]; decide), if_neg (by rw [h7]; decide), if_pos h8]
    have t0 : (nm.toList == [115, 121, 115, 116, 101, 109]) = false := h0
    have t1 : (nm.toList == [110, 101, 103, 97, 116, 105, 118, 101]) = false := h1
    have t2 : (nm.toList == [112, 114, 101, 102, 105, 120]) = false := h2
    have t3 : (nm.toList == [115, 117, 102, 102, 105, 120]) = false := h3
    have t4 : (nm.toList == [114, 97, 110, 103, 101]) = false := h4
    have t5 : (nm.toList == [112, 97, 100]) = false := h5
    have t6 : (nm.toList == [102, 97, 108, 108, 98, 97, 99, 107]) = false := h6
    have t7 : (nm.toList == [115, 121, 109, 98, 111, 108, 115]) = false := h7
    have t8 : (nm.toList == [97, 100, 100, 105, 116, 105, 118, 101, 45, 115, 121, 109, 98, 111, 108, 115]) = true := h8
    generalize takeS nm l st = R at *
    go_enter Tryd.func27, Tryd.ntmps27
    go_wp2_with (go_at_call 55; refine (takeAdd_any HI.out HH.out hl hBw).mono ?_; rintro e w1 ⟨⟨x1, x2, x3, x4, rfl, hI1⟩, hg1⟩)
    go_ret
    rw [HS.out]
    exact ⟨⟨_, _, _, _, rfl, hI1⟩, hg1⟩
  have h8 : isB nm dadditivesymbolsL = false := by simpa using h8
  have HS : Hid (takeS nm l st = (st, false)) := by
    show _ = _
    unfold takeS
    rw [if_neg (by rw [h0]; decide), if_neg (by rw [h1]; decide), if_neg (by rw [h2]; decide), if_neg (by rw [h3]; decide), if_neg (by rw [h4]; decide), if_neg (by rw [h5]; decide), if_neg (by rw [h6]; decide), if_neg (by rw [h7]; decide), if_neg (by rw [h8]; decide)]
  have t0 : (nm.toList == [115, 121, 115, 116, 101, 109]) = false := h0
  have t1 : (nm.toList == [110, 101, 103, 97, 116, 105, 118, 101]) = false := h1
  have t2 : (nm.toList == [112, 114, 101, 102, 105, 120]) = false := h2
  have t3 : (nm.toList == [115, 117, 102, 102, 105, 120]) = false := h3
  have t4 : (nm.toList == [114, 97, 110, 103, 101]) = false := h4
  have t5 : (nm.toList == [112, 97, 100]) = false := h5
  have t6 : (nm.toList == [102, 97, 108, 108, 98, 97, 99, 107]) = false := h6
  have t7 : (nm.toList == [115, 121, 109, 98, 111, 108, 115]) = false := h7
  have t8 : (nm.toList == [97, 100, 100, 105, 116, 105, 118, 101, 45, 115, 121, 109, 98, 111, 108, 115]) = false := h8
  generalize takeS nm l st = R at *
  go_enter Tryd.func27, Tryd.ntmps27
  go_wp2
  go_ret
  rw [HS.out]
  exact ⟨⟨_, _, _, _, rfl, HI.out⟩, World.grownBy.refl _ _⟩
end Go.Proofs.YtjjlnmjapfcmaaaDoor
