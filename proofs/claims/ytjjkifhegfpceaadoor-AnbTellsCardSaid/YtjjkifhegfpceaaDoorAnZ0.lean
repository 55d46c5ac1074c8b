
import Derived.Test.YtjjkifhegfpceaaDoorAnY
namespace Go.Proofs.YtjjkifhegfpceaaDoor
open Go.RowKit Go.Shelf
/-- The code that stands behind a block. -/
def behindBlock (n : Nat) : Code → Option Code
  | .seq a b => match a with
    | .block m _ => if m == n then some b else behindBlock n b
    | _ => match behindBlock n a with
      | some c => some c
      | none => behindBlock n b
  | .scope c => behindBlock n c
  | .block _ c => behindBlock n c
  | _ => none
noncomputable def restCode : Code := (Tryd.f12.body.bind (behindBlock 2)).getD .skip
theorem ba_len (U : ByteArray) : U.data.toList.length = U.size := Array.length_toList
theorem ba_of {U : ByteArray} {l : List UInt8} (h : U.data.toList = l) : U = ⟨l.toArray⟩ := by
  cases U with
  | mk d =>
    simp only at h
    rw [← h]
theorem ba_at {U : ByteArray} {l : List UInt8} {c : UInt8} {j : Nat} {hj : j < U.size} (h : U.data.toList = l) (hc : l[j]? = some c) : U[j]'hj = c := by
  have h2 : U.data[j]? = some c := by rw [← Array.getElem?_toList, h]; exact hc
  exact (Array.getElem?_eq_some_iff.1 h2).2
theorem u8_ne {c d : UInt8} (h : ¬ c = d) : ((c.toNat : Int) != (d.toNat : Int)) = true := by
  rw [bne_iff_ne]
  intro e
  exact h (UInt8.toNat_inj.1 (by omega))
theorem tail_bad {U : ByteArray} {c d : UInt8} {D : List UInt8} (h : U.data.toList = c :: d :: D) {i : Nat} (h2 : 2 ≤ i) (hi : i < U.size) (hd : sDigit ((U[i]'hi).toNat : Int) = false) : D.all (fun b => sDigit (b.toNat : Int)) = false := by
  rw [List.all_eq_false]
  have h3 : (c :: d :: D)[i]? = some (U[i]'hi) := by
    rw [← h, Array.getElem?_toList]
    exact Array.getElem?_eq_getElem hi
  have h4 : D[i - 2]? = some (U[i]'hi) := by
    rw [← h3]
    obtain ⟨k, rfl⟩ : ∃ k, i = k + 2 := ⟨i - 2, by omega⟩
    simp
  exact ⟨_, List.mem_of_getElem? h4, by rw [hd]; decide⟩
theorem tail_good {U : ByteArray} {c d : UInt8} {D : List UInt8} (h : U.data.toList = c :: d :: D) (hall : ∀ j, (hj : j < U.size) → 2 ≤ j → sDigit ((U[j]'hj).toNat : Int) = true) : D.all (fun b => sDigit (b.toNat : Int)) = true := by
  rw [List.all_eq_true]
  intro b hb
  obtain ⟨k, hk⟩ := List.getElem?_of_mem hb
  have hkl := (List.getElem?_eq_some_iff.1 hk).1
  have hz : U.size = D.length + 2 := by rw [← ba_len, h]; rfl
  have e : U[k + 2]'(by omega) = b := ba_at h (by simpa using hk)
  rw [← e]
  exact hall (k + 2) (by omega) (by omega)
def tailN (A : Int) (M : List Nd) : Int × Int × Bool := match M with
  | d :: x :: r => if isD d ⟨#[43]⟩ then okA A (numA (trimS (x :: r)) false) else if isD d ⟨#[45]⟩ then okA A (negS (numA (trimS (x :: r)) false).1, (numA (trimS (x :: r)) false).2) else noneA
  | _ => noneA
theorem tailN_two (A : Int) (d x : Nd) (r : List Nd) : tailN A (d :: x :: r) = if isD d ⟨#[43]⟩ = true then okA A (numA (trimS (x :: r)) false) else if isD d ⟨#[45]⟩ = true then okA A (negS (numA (trimS (x :: r)) false).1, (numA (trimS (x :: r)) false).2) else noneA := rfl
theorem isD_k {t : Tok} {k : List Nd} {s : ByteArray} (h : ¬ (t.kind == 9) = true) : isD (.mk t k) s = false := by
  unfold isD
  simp only [Nd.tok]
  rw [show (t.kind == 9) = false by simpa using h, Bool.false_and]
theorem isD_43 {t : Tok} {k : List Nd} (h : (t.kind == 9) = true) (h2 : (t.text.toList == [43]) = true) : isD (.mk t k) ⟨#[43]⟩ = true := by
  unfold isD
  simp only [Nd.tok]
  rw [h, show (⟨#[43]⟩ : ByteArray).toList = [43] by kernel_rfl, h2]; rfl
theorem isD_45 {t : Tok} {k : List Nd} (h : (t.kind == 9) = true) (h2 : (t.text.toList == [45]) = true) : isD (.mk t k) ⟨#[45]⟩ = true := by
  unfold isD
  simp only [Nd.tok]
  rw [h, show (⟨#[45]⟩ : ByteArray).toList = [45] by kernel_rfl, h2]; rfl
theorem isD_n43 {t : Tok} {k : List Nd} (h2 : (t.text.toList == [43]) = false) : isD (.mk t k) ⟨#[43]⟩ = false := by
  unfold isD
  simp only [Nd.tok]
  rw [show (⟨#[43]⟩ : ByteArray).toList = [43] by kernel_rfl, h2, Bool.and_false]
theorem isD_n45 {t : Tok} {k : List Nd} (h2 : (t.text.toList == [45]) = false) : isD (.mk t k) ⟨#[45]⟩ = false := by
  unfold isD
  simp only [Nd.tok]
  rw [show (⟨#[45]⟩ : ByteArray).toList = [45] by kernel_rfl, h2, Bool.and_false]
theorem isD_no2 {n : Nd} (X Y Z : Int × Int × Bool) (h : isD n ⟨#[43]⟩ = false) (h2 : isD n ⟨#[45]⟩ = false) : (if isD n ⟨#[43]⟩ = true then X else if isD n ⟨#[45]⟩ = true then Y else Z) = Z := by
  rw [if_neg (by rw [h]; decide), if_neg (by rw [h2]; decide)]
theorem isD_yes1 {n : Nd} (X Y Z : Int × Int × Bool) (h : isD n ⟨#[43]⟩ = true) : (if isD n ⟨#[43]⟩ = true then X else if isD n ⟨#[45]⟩ = true then Y else Z) = X := by
  rw [if_pos h]
theorem isD_yes2 {n : Nd} (X Y Z : Int × Int × Bool) (h : isD n ⟨#[43]⟩ = false) (h2 : isD n ⟨#[45]⟩ = true) : (if isD n ⟨#[43]⟩ = true then X else if isD n ⟨#[45]⟩ = true then Y else Z) = Y := by
  rw [if_neg (by rw [h]; decide), if_pos h2]
theorem u8_neb {c d : UInt8} (h : ¬ c = d) : ((c.toNat : Int) == (d.toNat : Int)) = false := by
  rw [beq_eq_false_iff_ne]
  intro e
  exact h (UInt8.toNat_inj.1 (by omega))
theorem refS_id {t : Tok} {k r : List Nd} (kk : t.kind = 1) (o : (r.isEmpty && ((lowS t.text).toList == [111, 100, 100])) = false) (e : (r.isEmpty && ((lowS t.text).toList == [101, 118, 101, 110])) = false) :
    refS (.mk t k :: r) = if (lowS t.text).data.toList.head? = some 45 then refT (-1) ((lowS t.text).extract 1 (lowS t.text).size) r else refT 1 (lowS t.text) r := by
  have b1 : (t.kind == 1) = true := by rw [kk]; rfl
  have b9 : ¬ (t.kind == 9) = true := by rw [kk]; decide
  have b10 : (t.kind == 10) = false := by rw [kk]; rfl
  have b12 : (t.kind == 12) = false := by rw [kk]; rfl
  have h1 : ¬ (r.isEmpty && ((Nd.mk t k).tok.kind == 1) && ((lowS (Nd.mk t k).tok.text).toList == [111, 100, 100])) = true := by
    show ¬ (r.isEmpty && (t.kind == 1) && ((lowS t.text).toList == [111, 100, 100])) = true
    rw [b1, Bool.and_true, o]; decide
  have h2 : ¬ (r.isEmpty && ((Nd.mk t k).tok.kind == 1) && ((lowS (Nd.mk t k).tok.text).toList == [101, 118, 101, 110])) = true := by
    show ¬ (r.isEmpty && (t.kind == 1) && ((lowS t.text).toList == [101, 118, 101, 110])) = true
    rw [b1, Bool.and_true, e]; decide
  have h3 : ¬ (r.isEmpty && ((Nd.mk t k).tok.kind == 10) && (Nd.mk t k).tok.whole) = true := by
    show ¬ (r.isEmpty && (t.kind == 10) && t.whole) = true
    rw [b10, Bool.and_false, Bool.false_and]; decide
  have h4 : ¬ (((Nd.mk t k).tok.kind == 12) && (Nd.mk t k).tok.whole) = true := by
    show ¬ ((t.kind == 12) && t.whole) = true
    rw [b12, Bool.false_and]; decide
  unfold refS
  simp only
  rw [if_neg h1, if_neg h2, if_neg h3, if_neg h4, isD_k b9]
  show (if (t.kind == 1) = true then _ else _) = _
  rw [if_pos b1]
  rfl
theorem refS_plus {t : Tok} {k r2 : List Nd} {m1 : Nd} (kk : t.kind = 9) (p : (t.text.toList == [43]) = true) : refS (.mk t k :: m1 :: r2) = if (m1.tok.kind == 1) = true then refT 1 (lowS m1.tok.text) r2 else noneA := by
  have b9 : (t.kind == 9) = true := by rw [kk]; decide
  have b12 : (t.kind == 12) = false := by rw [kk]; rfl
  have hf : ∀ X : Bool, ¬ ((m1 :: r2 : List Nd).isEmpty && X) = true := fun X => by rw [show (m1 :: r2 : List Nd).isEmpty = false from rfl, Bool.false_and]; decide
  have hg : ∀ X Y : Bool, ¬ ((m1 :: r2 : List Nd).isEmpty && X && Y) = true := fun X Y => by rw [show (m1 :: r2 : List Nd).isEmpty = false from rfl, Bool.false_and, Bool.false_and]; decide
  have h4 : ¬ (((Nd.mk t k).tok.kind == 12) && (Nd.mk t k).tok.whole) = true := by
    show ¬ ((t.kind == 12) && t.whole) = true
    rw [b12, Bool.false_and]; decide
  unfold refS
  simp only
  rw [if_neg (hg _ _), if_neg (hg _ _), if_neg (hg _ _), if_neg h4, isD_43 b9 p]
theorem refS_pl {t : Tok} {k r2 : List Nd} {m1 : Nd} (kk : t.kind = 9) (p : (t.text.toList == [43]) = true) (k1 : m1.tok.kind = 1) : refS (.mk t k :: m1 :: r2) = refT 1 (lowS m1.tok.text) r2 := by
  rw [refS_plus kk p, if_pos (by rw [k1]; rfl)]
theorem refS_pn {t : Tok} {k r2 : List Nd} {m1 : Nd} (kk : t.kind = 9) (p : (t.text.toList == [43]) = true) (k1 : (m1.tok.kind == 1) = false) : refS (.mk t k :: m1 :: r2) = noneA := by
  rw [refS_plus kk p, if_neg (by rw [k1]; decide)]
theorem refN_no {A : Int} {rs : List Nd} (h0 : rs.isEmpty = false) (h : (numA (trimS rs) true).2 = false) : refN A rs = tailN A (trimS rs) := by
  unfold refN
  rw [if_neg (by rw [h0]; decide), if_neg (by rw [h]; decide)]
  rfl
theorem tail_nums {U : ByteArray} {c d : UInt8} {D : List UInt8} (h : U.data.toList = c :: d :: D) : nums (U.extract 1 U.size) = (d.toNat : Int) :: D.map fun b => (b.toNat : Int) := by
  unfold nums
  rw [drop_data, h]
  rfl
set_option maxRecDepth 100000 in
set_option maxHeartbeats 3200000 in
theorem anbt_nil {w0 w : World} {P : Nat → Prop} {U : ByteArray} {A : Int} {rs : List Nd} {R : Int × Int × Bool} {v : Value} {z0 z1 z2 z3 z4 z5 z6 z10 z11 z12 z13 z14 z15 z16 z17 z18 z19 z20 z21 z22 z23 z24 z25 z26 z27 z28 z29 z30 z31 z32 z33 z34 z35 z36 z37 z38 z39 z40 z41 z42 z43 z44 z45 z46 z47 z48 z49 z50 z51 z52 z53 z54 z55 z56 z57 z58 z59 z60 z61 z62 z63 z64 z65 z66 z67 z68 z69 z70 z71 z72 z73 z74 z75 z76 z77 z78 z79 z80 z81 z82 z83 z84 z85 z86 z87 z88 z89 z90 z91 z92 z93 z94 z95 z96 z97 z98 z99 z100 z101 z102 z103 z104 z105 z106 z107 z108 z109 z110 z111 z112 z113 z114 z115 z116 z117 z118 z119 z120 z121 z122 z123 z124 z125 z126 z127 z128 z129 z130 z131 z132 z133 z134 z135 z136 z137 z138 z139 z140 z141 z142 z143 z144 z145 z146 z147 z148 z149 z150 z151 z152 z153 z154 z155 z156 z157 z158 z159 z160 z161 z162 z163 z164 z165 z166 z167 z168 z169 z170 z171 z172 z173 z174 z175 z176 z177 z178 z179 z180 z181 z182 z183 z184 z185 z186 z187 z188 z189 z190 z191 z192 z193 z194 z195 z196 z197 z198 z199 z200 z201 z202 z203 z204 z205 z206 z207 z208 z209 z210 z211 z212 z213 z214 z215 z216 z217 z218 z219 z220 z221 z222 z223 z224 z225 z226 z227 z228 z229 z230 z231 z232 z233 z234 z235 z236 z237 z238 z239 z240 z241 z242 z243 z244 z245 z246 z247 : Value} (hrs : RdN w P v rs) (hrz : szL rs ≤ 100000000) (hUs : U.size ≤ 500000000) (HX : refT A U rs = R) (HB : Below w0.heap.size w0 w) (hcs : U.data.toList = []) :
    Code.wp Tryd.prog restCode (bodyPost Tryd.prog Tryd.f12 (AnbPost w0 R)) ⟨#[z0, z1, z2, z3, z4, z5, z6, .string U, .int .i64 A, v, z10, z11, z12, z13, z14, z15, z16, z17, z18, z19, z20, z21, z22, z23, z24, z25, z26, z27, z28, z29, z30, z31, z32, z33, z34, z35, z36, z37, z38, z39, z40, z41, z42, z43, z44, z45, z46, z47, z48, z49, z50, z51, z52, z53, z54, z55, z56, z57, z58, z59, z60, z61, z62, z63, z64, z65, z66, z67, z68, z69, z70, z71, z72, z73, z74, z75, z76, z77, z78, z79, z80, z81, z82, z83, z84, z85, z86, z87, z88, z89, z90, z91, z92, z93, z94, z95, z96, z97, z98, z99, z100, z101, z102, z103, z104, z105, z106, z107, z108, z109, z110, z111, z112, z113, z114, z115, z116, z117, z118, z119, z120, z121, z122, z123, z124, z125, z126, z127, z128, z129, z130, z131, z132, z133, z134, z135, z136, z137, z138, z139, z140, z141, z142, z143, z144, z145, z146, z147, z148, z149, z150, z151, z152, z153, z154, z155, z156, z157, z158, z159, z160, z161, z162, z163, z164, z165, z166, z167, z168, z169, z170, z171, z172, z173, z174, z175, z176, z177, z178, z179, z180, z181, z182, z183, z184, z185, z186, z187, z188, z189, z190, z191, z192, z193, z194, z195, z196, z197, z198, z199, z200, z201, z202, z203, z204, z205, z206, z207, z208, z209, z210, z211, z212, z213, z214, z215, z216, z217, z218, z219, z220, z221, z222, z223, z224, z225, z226, z227, z228, z229, z230, z231, z232, z233, z234, z235, z236, z237, z238, z239, z240, z241, z242, z243, z244, z245, z246, z247], []⟩ w := by
  have HBW := Lib.hid HB
  obtain ⟨ra', rc', rfl, hrlc⟩ := hrs.shape
  have HT2 := Lib.hid (reftrim_any hrs hrz)
  have hmz : szL (trimS rs) ≤ 100000000 := by have := trim_szL rs; omega
  have hml2 := szL_ge (trimS rs)
  clear hrs HB
  have e0 : U = ⟨#[]⟩ := ba_of hcs
  subst e0
  clear hcs
  have HF := Lib.hid (show noneA = R by rw [← HX]; rfl)
  clear HX
  conv => arg 2; whnf
  go_wp2
  go_ret3
  exact ⟨by rw [← HF.out]; try rfl, HBW.out⟩
set_option maxRecDepth 100000 in
set_option maxHeartbeats 3200000 in
theorem anbt_odd {w0 w : World} {P : Nat → Prop} {U : ByteArray} {A : Int} {rs : List Nd} {R : Int × Int × Bool} {v : Value} {z0 z1 z2 z3 z4 z5 z6 z10 z11 z12 z13 z14 z15 z16 z17 z18 z19 z20 z21 z22 z23 z24 z25 z26 z27 z28 z29 z30 z31 z32 z33 z34 z35 z36 z37 z38 z39 z40 z41 z42 z43 z44 z45 z46 z47 z48 z49 z50 z51 z52 z53 z54 z55 z56 z57 z58 z59 z60 z61 z62 z63 z64 z65 z66 z67 z68 z69 z70 z71 z72 z73 z74 z75 z76 z77 z78 z79 z80 z81 z82 z83 z84 z85 z86 z87 z88 z89 z90 z91 z92 z93 z94 z95 z96 z97 z98 z99 z100 z101 z102 z103 z104 z105 z106 z107 z108 z109 z110 z111 z112 z113 z114 z115 z116 z117 z118 z119 z120 z121 z122 z123 z124 z125 z126 z127 z128 z129 z130 z131 z132 z133 z134 z135 z136 z137 z138 z139 z140 z141 z142 z143 z144 z145 z146 z147 z148 z149 z150 z151 z152 z153 z154 z155 z156 z157 z158 z159 z160 z161 z162 z163 z164 z165 z166 z167 z168 z169 z170 z171 z172 z173 z174 z175 z176 z177 z178 z179 z180 z181 z182 z183 z184 z185 z186 z187 z188 z189 z190 z191 z192 z193 z194 z195 z196 z197 z198 z199 z200 z201 z202 z203 z204 z205 z206 z207 z208 z209 z210 z211 z212 z213 z214 z215 z216 z217 z218 z219 z220 z221 z222 z223 z224 z225 z226 z227 z228 z229 z230 z231 z232 z233 z234 z235 z236 z237 z238 z239 z240 z241 z242 z243 z244 z245 z246 z247 : Value} (hrs : RdN w P v rs) (hrz : szL rs ≤ 100000000) (hUs : U.size ≤ 500000000) (HX : refT A U rs = R) (HB : Below w0.heap.size w0 w) {c : UInt8} {tl : List UInt8} (hcs : U.data.toList = c :: tl) (hc : ¬ c = 110) :
    Code.wp Tryd.prog restCode (bodyPost Tryd.prog Tryd.f12 (AnbPost w0 R)) ⟨#[z0, z1, z2, z3, z4, z5, z6, .string U, .int .i64 A, v, z10, z11, z12, z13, z14, z15, z16, z17, z18, z19, z20, z21, z22, z23, z24, z25, z26, z27, z28, z29, z30, z31, z32, z33, z34, z35, z36, z37, z38, z39, z40, z41, z42, z43, z44, z45, z46, z47, z48, z49, z50, z51, z52, z53, z54, z55, z56, z57, z58, z59, z60, z61, z62, z63, z64, z65, z66, z67, z68, z69, z70, z71, z72, z73, z74, z75, z76, z77, z78, z79, z80, z81, z82, z83, z84, z85, z86, z87, z88, z89, z90, z91, z92, z93, z94, z95, z96, z97, z98, z99, z100, z101, z102, z103, z104, z105, z106, z107, z108, z109, z110, z111, z112, z113, z114, z115, z116, z117, z118, z119, z120, z121, z122, z123, z124, z125, z126, z127, z128, z129, z130, z131, z132, z133, z134, z135, z136, z137, z138, z139, z140, z141, z142, z143, z144, z145, z146, z147, z148, z149, z150, z151, z152, z153, z154, z155, z156, z157, z158, z159, z160, z161, z162, z163, z164, z165, z166, z167, z168, z169, z170, z171, z172, z173, z174, z175, z176, z177, z178, z179, z180, z181, z182, z183, z184, z185, z186, z187, z188, z189, z190, z191, z192, z193, z194, z195, z196, z197, z198, z199, z200, z201, z202, z203, z204, z205, z206, z207, z208, z209, z210, z211, z212, z213, z214, z215, z216, z217, z218, z219, z220, z221, z222, z223, z224, z225, z226, z227, z228, z229, z230, z231, z232, z233, z234, z235, z236, z237, z238, z239, z240, z241, z242, z243, z244, z245, z246, z247], []⟩ w := by
  have HBW := Lib.hid HB
  obtain ⟨ra', rc', rfl, hrlc⟩ := hrs.shape
  have HT2 := Lib.hid (reftrim_any hrs hrz)
  have hmz : szL (trimS rs) ≤ 100000000 := by have := trim_szL rs; omega
  have hml2 := szL_ge (trimS rs)
  clear hrs HB
  have hUz : U.size = tl.length + 1 := by rw [← ba_len, hcs]; rfl
  have hp0 : 0 < U.size := by omega
  have hz0 : ¬ (U.size : Int) = 0 := by omega
  have hz0' : ((U.size : Int) == 0) = false := by simpa using hz0
  have hc0 : U[0]'hp0 = c := ba_at hcs (by rfl)
  have h0 : (((U[0]'hp0).toNat : Int) != 110) = true := by rw [hc0]; exact u8_ne hc
  have HF := Lib.hid (show noneA = R by rw [← HX]; unfold refT; rw [hcs]; simp only; rw [if_pos hc])
  clear HX hcs hc hc0 hUz
  conv => arg 2; whnf
  go_wp2
  go_ret3
  exact ⟨by rw [← HF.out]; try rfl, HBW.out⟩
set_option maxRecDepth 100000 in
set_option maxHeartbeats 3200000 in
theorem anbt_n0 {w0 w : World} {P : Nat → Prop} {U : ByteArray} {A : Int} {rs : List Nd} {R : Int × Int × Bool} {v : Value} {z0 z1 z2 z3 z4 z5 z6 z10 z11 z12 z13 z14 z15 z16 z17 z18 z19 z20 z21 z22 z23 z24 z25 z26 z27 z28 z29 z30 z31 z32 z33 z34 z35 z36 z37 z38 z39 z40 z41 z42 z43 z44 z45 z46 z47 z48 z49 z50 z51 z52 z53 z54 z55 z56 z57 z58 z59 z60 z61 z62 z63 z64 z65 z66 z67 z68 z69 z70 z71 z72 z73 z74 z75 z76 z77 z78 z79 z80 z81 z82 z83 z84 z85 z86 z87 z88 z89 z90 z91 z92 z93 z94 z95 z96 z97 z98 z99 z100 z101 z102 z103 z104 z105 z106 z107 z108 z109 z110 z111 z112 z113 z114 z115 z116 z117 z118 z119 z120 z121 z122 z123 z124 z125 z126 z127 z128 z129 z130 z131 z132 z133 z134 z135 z136 z137 z138 z139 z140 z141 z142 z143 z144 z145 z146 z147 z148 z149 z150 z151 z152 z153 z154 z155 z156 z157 z158 z159 z160 z161 z162 z163 z164 z165 z166 z167 z168 z169 z170 z171 z172 z173 z174 z175 z176 z177 z178 z179 z180 z181 z182 z183 z184 z185 z186 z187 z188 z189 z190 z191 z192 z193 z194 z195 z196 z197 z198 z199 z200 z201 z202 z203 z204 z205 z206 z207 z208 z209 z210 z211 z212 z213 z214 z215 z216 z217 z218 z219 z220 z221 z222 z223 z224 z225 z226 z227 z228 z229 z230 z231 z232 z233 z234 z235 z236 z237 z238 z239 z240 z241 z242 z243 z244 z245 z246 z247 : Value} (hrs : RdN w P v rs) (hrz : szL rs ≤ 100000000) (hUs : U.size ≤ 500000000) (HX : refT A U rs = R) (HB : Below w0.heap.size w0 w) (hcs : U.data.toList = [110]) (hr0 : rs = []) :
    Code.wp Tryd.prog restCode (bodyPost Tryd.prog Tryd.f12 (AnbPost w0 R)) ⟨#[z0, z1, z2, z3, z4, z5, z6, .string U, .int .i64 A, v, z10, z11, z12, z13, z14, z15, z16, z17, z18, z19, z20, z21, z22, z23, z24, z25, z26, z27, z28, z29, z30, z31, z32, z33, z34, z35, z36, z37, z38, z39, z40, z41, z42, z43, z44, z45, z46, z47, z48, z49, z50, z51, z52, z53, z54, z55, z56, z57, z58, z59, z60, z61, z62, z63, z64, z65, z66, z67, z68, z69, z70, z71, z72, z73, z74, z75, z76, z77, z78, z79, z80, z81, z82, z83, z84, z85, z86, z87, z88, z89, z90, z91, z92, z93, z94, z95, z96, z97, z98, z99, z100, z101, z102, z103, z104, z105, z106, z107, z108, z109, z110, z111, z112, z113, z114, z115, z116, z117, z118, z119, z120, z121, z122, z123, z124, z125, z126, z127, z128, z129, z130, z131, z132, z133, z134, z135, z136, z137, z138, z139, z140, z141, z142, z143, z144, z145, z146, z147, z148, z149, z150, z151, z152, z153, z154, z155, z156, z157, z158, z159, z160, z161, z162, z163, z164, z165, z166, z167, z168, z169, z170, z171, z172, z173, z174, z175, z176, z177, z178, z179, z180, z181, z182, z183, z184, z185, z186, z187, z188, z189, z190, z191, z192, z193, z194, z195, z196, z197, z198, z199, z200, z201, z202, z203, z204, z205, z206, z207, z208, z209, z210, z211, z212, z213, z214, z215, z216, z217, z218, z219, z220, z221, z222, z223, z224, z225, z226, z227, z228, z229, z230, z231, z232, z233, z234, z235, z236, z237, z238, z239, z240, z241, z242, z243, z244, z245, z246, z247], []⟩ w := by
  have HBW := Lib.hid HB
  obtain ⟨ra', rc', rfl, hrlc⟩ := hrs.shape
  have HT2 := Lib.hid (reftrim_any hrs hrz)
  have hmz : szL (trimS rs) ≤ 100000000 := by have := trim_szL rs; omega
  have hml2 := szL_ge (trimS rs)
  clear hrs HB
  have e0 : U = ⟨#[110]⟩ := ba_of hcs
  subst e0
  clear hcs
  subst hr0
  have HF := Lib.hid (show (A, 0, true) = R by rw [← HX]; rfl)
  clear HX
  rw [show ([] : List Nd).length = 0 from rfl] at HT2 ⊢
  conv => arg 2; whnf
  go_wp2_with (go_at_call 49; (with_reducible refine HT2.out.mono ?_); rintro e w3 ⟨⟨v3, rfl, hv3⟩, rfl⟩; obtain ⟨a3, c3, rfl, _⟩ := hv3.shape; have HV3 := Lib.hid hv3; clear hv3)
  go_ret3
  exact ⟨by rw [← HF.out]; try rfl, HBW.out⟩
set_option maxRecDepth 100000 in
set_option maxHeartbeats 3200000 in
theorem anbt_n1 {w0 w : World} {P : Nat → Prop} {U : ByteArray} {A : Int} {rs : List Nd} {R : Int × Int × Bool} {v : Value} {z0 z1 z2 z3 z4 z5 z6 z10 z11 z12 z13 z14 z15 z16 z17 z18 z19 z20 z21 z22 z23 z24 z25 z26 z27 z28 z29 z30 z31 z32 z33 z34 z35 z36 z37 z38 z39 z40 z41 z42 z43 z44 z45 z46 z47 z48 z49 z50 z51 z52 z53 z54 z55 z56 z57 z58 z59 z60 z61 z62 z63 z64 z65 z66 z67 z68 z69 z70 z71 z72 z73 z74 z75 z76 z77 z78 z79 z80 z81 z82 z83 z84 z85 z86 z87 z88 z89 z90 z91 z92 z93 z94 z95 z96 z97 z98 z99 z100 z101 z102 z103 z104 z105 z106 z107 z108 z109 z110 z111 z112 z113 z114 z115 z116 z117 z118 z119 z120 z121 z122 z123 z124 z125 z126 z127 z128 z129 z130 z131 z132 z133 z134 z135 z136 z137 z138 z139 z140 z141 z142 z143 z144 z145 z146 z147 z148 z149 z150 z151 z152 z153 z154 z155 z156 z157 z158 z159 z160 z161 z162 z163 z164 z165 z166 z167 z168 z169 z170 z171 z172 z173 z174 z175 z176 z177 z178 z179 z180 z181 z182 z183 z184 z185 z186 z187 z188 z189 z190 z191 z192 z193 z194 z195 z196 z197 z198 z199 z200 z201 z202 z203 z204 z205 z206 z207 z208 z209 z210 z211 z212 z213 z214 z215 z216 z217 z218 z219 z220 z221 z222 z223 z224 z225 z226 z227 z228 z229 z230 z231 z232 z233 z234 z235 z236 z237 z238 z239 z240 z241 z242 z243 z244 z245 z246 z247 : Value} (hrs : RdN w P v rs) (hrz : szL rs ≤ 100000000) (hUs : U.size ≤ 500000000) (HX : refT A U rs = R) (HB : Below w0.heap.size w0 w) (hcs : U.data.toList = [110]) (hr0 : ¬ rs = []) {x1 : Int} (hX : numA (trimS rs) true = (x1, true)) :
    Code.wp Tryd.prog restCode (bodyPost Tryd.prog Tryd.f12 (AnbPost w0 R)) ⟨#[z0, z1, z2, z3, z4, z5, z6, .string U, .int .i64 A, v, z10, z11, z12, z13, z14, z15, z16, z17, z18, z19, z20, z21, z22, z23, z24, z25, z26, z27, z28, z29, z30, z31, z32, z33, z34, z35, z36, z37, z38, z39, z40, z41, z42, z43, z44, z45, z46, z47, z48, z49, z50, z51, z52, z53, z54, z55, z56, z57, z58, z59, z60, z61, z62, z63, z64, z65, z66, z67, z68, z69, z70, z71, z72, z73, z74, z75, z76, z77, z78, z79, z80, z81, z82, z83, z84, z85, z86, z87, z88, z89, z90, z91, z92, z93, z94, z95, z96, z97, z98, z99, z100, z101, z102, z103, z104, z105, z106, z107, z108, z109, z110, z111, z112, z113, z114, z115, z116, z117, z118, z119, z120, z121, z122, z123, z124, z125, z126, z127, z128, z129, z130, z131, z132, z133, z134, z135, z136, z137, z138, z139, z140, z141, z142, z143, z144, z145, z146, z147, z148, z149, z150, z151, z152, z153, z154, z155, z156, z157, z158, z159, z160, z161, z162, z163, z164, z165, z166, z167, z168, z169, z170, z171, z172, z173, z174, z175, z176, z177, z178, z179, z180, z181, z182, z183, z184, z185, z186, z187, z188, z189, z190, z191, z192, z193, z194, z195, z196, z197, z198, z199, z200, z201, z202, z203, z204, z205, z206, z207, z208, z209, z210, z211, z212, z213, z214, z215, z216, z217, z218, z219, z220, z221, z222, z223, z224, z225, z226, z227, z228, z229, z230, z231, z232, z233, z234, z235, z236, z237, z238, z239, z240, z241, z242, z243, z244, z245, z246, z247], []⟩ w := by
  have HBW := Lib.hid HB
  obtain ⟨ra', rc', rfl, hrlc⟩ := hrs.shape
  have HT2 := Lib.hid (reftrim_any hrs hrz)
  have hmz : szL (trimS rs) ≤ 100000000 := by have := trim_szL rs; omega
  have hml2 := szL_ge (trimS rs)
  clear hrs HB
  have e0 : U = ⟨#[110]⟩ := ba_of hcs
  subst e0
  clear hcs
  have HN := Lib.hid (show refN A rs = R by rw [← HX]; rfl)
  clear HX
  have hl0 : ¬ (rs.length : Int) = 0 := by have := List.length_pos_iff.2 hr0; omega
  have hl0' : ((rs.length : Int) == 0) = false := by simpa using hl0
  have hie : rs.isEmpty = false := by simpa using hr0
  have HXX := Lib.hid hX
  have HF := Lib.hid (show (A, x1, true) = R by rw [← HN.out]; unfold refN; rw [if_neg (by rw [hie]; decide), if_pos (by rw [hX]), hX])
  clear HN hX hie hr0
  generalize trimS rs = M at *
  conv => arg 2; whnf
  go_wp2_with (first | (go_at_call 49; (with_reducible refine HT2.out.mono ?_); rintro e w3 ⟨⟨v3, rfl, hv3⟩, rfl⟩; obtain ⟨a3, c3, rfl, _⟩ := hv3.shape; have HV3 := Lib.hid hv3; clear hv3) | (go_at_call 51; (with_reducible refine (refnum_any HV3.out true (by omega)).mono ?_); rintro e w4 ⟨rfl, hb4⟩; rw [HXX.out]))
  go_ret3
  exact ⟨by rw [← HF.out]; try rfl, below_seq HBW.out hb4⟩
set_option maxRecDepth 100000 in
set_option maxHeartbeats 3200000 in
theorem anbt_ne {w0 w : World} {P : Nat → Prop} {U : ByteArray} {A : Int} {rs : List Nd} {R : Int × Int × Bool} {v : Value} {z0 z1 z2 z3 z4 z5 z6 z10 z11 z12 z13 z14 z15 z16 z17 z18 z19 z20 z21 z22 z23 z24 z25 z26 z27 z28 z29 z30 z31 z32 z33 z34 z35 z36 z37 z38 z39 z40 z41 z42 z43 z44 z45 z46 z47 z48 z49 z50 z51 z52 z53 z54 z55 z56 z57 z58 z59 z60 z61 z62 z63 z64 z65 z66 z67 z68 z69 z70 z71 z72 z73 z74 z75 z76 z77 z78 z79 z80 z81 z82 z83 z84 z85 z86 z87 z88 z89 z90 z91 z92 z93 z94 z95 z96 z97 z98 z99 z100 z101 z102 z103 z104 z105 z106 z107 z108 z109 z110 z111 z112 z113 z114 z115 z116 z117 z118 z119 z120 z121 z122 z123 z124 z125 z126 z127 z128 z129 z130 z131 z132 z133 z134 z135 z136 z137 z138 z139 z140 z141 z142 z143 z144 z145 z146 z147 z148 z149 z150 z151 z152 z153 z154 z155 z156 z157 z158 z159 z160 z161 z162 z163 z164 z165 z166 z167 z168 z169 z170 z171 z172 z173 z174 z175 z176 z177 z178 z179 z180 z181 z182 z183 z184 z185 z186 z187 z188 z189 z190 z191 z192 z193 z194 z195 z196 z197 z198 z199 z200 z201 z202 z203 z204 z205 z206 z207 z208 z209 z210 z211 z212 z213 z214 z215 z216 z217 z218 z219 z220 z221 z222 z223 z224 z225 z226 z227 z228 z229 z230 z231 z232 z233 z234 z235 z236 z237 z238 z239 z240 z241 z242 z243 z244 z245 z246 z247 : Value} (hrs : RdN w P v rs) (hrz : szL rs ≤ 100000000) (hUs : U.size ≤ 500000000) (HX : refT A U rs = R) (HB : Below w0.heap.size w0 w) (hcs : U.data.toList = [110]) (hr0 : ¬ rs = []) (hM : trimS rs = ([] : List Nd)) (hX : numA (trimS rs) true = (0, false)) :
    Code.wp Tryd.prog restCode (bodyPost Tryd.prog Tryd.f12 (AnbPost w0 R)) ⟨#[z0, z1, z2, z3, z4, z5, z6, .string U, .int .i64 A, v, z10, z11, z12, z13, z14, z15, z16, z17, z18, z19, z20, z21, z22, z23, z24, z25, z26, z27, z28, z29, z30, z31, z32, z33, z34, z35, z36, z37, z38, z39, z40, z41, z42, z43, z44, z45, z46, z47, z48, z49, z50, z51, z52, z53, z54, z55, z56, z57, z58, z59, z60, z61, z62, z63, z64, z65, z66, z67, z68, z69, z70, z71, z72, z73, z74, z75, z76, z77, z78, z79, z80, z81, z82, z83, z84, z85, z86, z87, z88, z89, z90, z91, z92, z93, z94, z95, z96, z97, z98, z99, z100, z101, z102, z103, z104, z105, z106, z107, z108, z109, z110, z111, z112, z113, z114, z115, z116, z117, z118, z119, z120, z121, z122, z123, z124, z125, z126, z127, z128, z129, z130, z131, z132, z133, z134, z135, z136, z137, z138, z139, z140, z141, z142, z143, z144, z145, z146, z147, z148, z149, z150, z151, z152, z153, z154, z155, z156, z157, z158, z159, z160, z161, z162, z163, z164, z165, z166, z167, z168, z169, z170, z171, z172, z173, z174, z175, z176, z177, z178, z179, z180, z181, z182, z183, z184, z185, z186, z187, z188, z189, z190, z191, z192, z193, z194, z195, z196, z197, z198, z199, z200, z201, z202, z203, z204, z205, z206, z207, z208, z209, z210, z211, z212, z213, z214, z215, z216, z217, z218, z219, z220, z221, z222, z223, z224, z225, z226, z227, z228, z229, z230, z231, z232, z233, z234, z235, z236, z237, z238, z239, z240, z241, z242, z243, z244, z245, z246, z247], []⟩ w := by
  have HBW := Lib.hid HB
  obtain ⟨ra', rc', rfl, hrlc⟩ := hrs.shape
  have HT2 := Lib.hid (reftrim_any hrs hrz)
  have hmz : szL (trimS rs) ≤ 100000000 := by have := trim_szL rs; omega
  have hml2 := szL_ge (trimS rs)
  clear hrs HB
  have e0 : U = ⟨#[110]⟩ := ba_of hcs
  subst e0
  clear hcs
  have HN := Lib.hid (show refN A rs = R by rw [← HX]; rfl)
  clear HX
  have hl0 : ¬ (rs.length : Int) = 0 := by have := List.length_pos_iff.2 hr0; omega
  have hl0' : ((rs.length : Int) == 0) = false := by simpa using hl0
  have hie : rs.isEmpty = false := by simpa using hr0
  have HF := Lib.hid (show noneA = R by rw [← HN.out, refN_no hie (by rw [hX]), hM]; rfl)
  clear HN hie hr0
  rw [hM] at hX hmz hml2 HT2
  have HXX := Lib.hid hX
  clear hX hM
  conv => arg 2; whnf
  go_wp2_with (first | (go_at_call 49; (with_reducible refine HT2.out.mono ?_); rintro e w3 ⟨⟨v3, rfl, hv3⟩, rfl⟩; obtain ⟨a3, c3, rfl, _⟩ := hv3.shape; have hv4 : RdN _ P (.slice a3 0 c3) ([] : List Nd) := hv3; rw [show ([] : List Nd).length = 0 from rfl]; have HV3 := Lib.hid hv4; clear hv3 hv4) | (go_at_call 51; (with_reducible refine (refnum_any HV3.out true (by simp)).mono ?_); rintro e w4 ⟨rfl, hb4⟩; rw [HXX.out]))
  go_ret3
  exact ⟨by rw [← HF.out]; try rfl, below_seq HBW.out hb4⟩
set_option maxRecDepth 100000 in
set_option maxHeartbeats 3200000 in
theorem anbt_n1x {w0 w : World} {P : Nat → Prop} {U : ByteArray} {A : Int} {rs : List Nd} {R : Int × Int × Bool} {v : Value} {z0 z1 z2 z3 z4 z5 z6 z10 z11 z12 z13 z14 z15 z16 z17 z18 z19 z20 z21 z22 z23 z24 z25 z26 z27 z28 z29 z30 z31 z32 z33 z34 z35 z36 z37 z38 z39 z40 z41 z42 z43 z44 z45 z46 z47 z48 z49 z50 z51 z52 z53 z54 z55 z56 z57 z58 z59 z60 z61 z62 z63 z64 z65 z66 z67 z68 z69 z70 z71 z72 z73 z74 z75 z76 z77 z78 z79 z80 z81 z82 z83 z84 z85 z86 z87 z88 z89 z90 z91 z92 z93 z94 z95 z96 z97 z98 z99 z100 z101 z102 z103 z104 z105 z106 z107 z108 z109 z110 z111 z112 z113 z114 z115 z116 z117 z118 z119 z120 z121 z122 z123 z124 z125 z126 z127 z128 z129 z130 z131 z132 z133 z134 z135 z136 z137 z138 z139 z140 z141 z142 z143 z144 z145 z146 z147 z148 z149 z150 z151 z152 z153 z154 z155 z156 z157 z158 z159 z160 z161 z162 z163 z164 z165 z166 z167 z168 z169 z170 z171 z172 z173 z174 z175 z176 z177 z178 z179 z180 z181 z182 z183 z184 z185 z186 z187 z188 z189 z190 z191 z192 z193 z194 z195 z196 z197 z198 z199 z200 z201 z202 z203 z204 z205 z206 z207 z208 z209 z210 z211 z212 z213 z214 z215 z216 z217 z218 z219 z220 z221 z222 z223 z224 z225 z226 z227 z228 z229 z230 z231 z232 z233 z234 z235 z236 z237 z238 z239 z240 z241 z242 z243 z244 z245 z246 z247 : Value} (hrs : RdN w P v rs) (hrz : szL rs ≤ 100000000) (hUs : U.size ≤ 500000000) (HX : refT A U rs = R) (HB : Below w0.heap.size w0 w) (hcs : U.data.toList = [110]) (hr0 : ¬ rs = []) {d : Nd} (hM : trimS rs = [d]) (hX : numA (trimS rs) true = (0, false)) :
    Code.wp Tryd.prog restCode (bodyPost Tryd.prog Tryd.f12 (AnbPost w0 R)) ⟨#[z0, z1, z2, z3, z4, z5, z6, .string U, .int .i64 A, v, z10, z11, z12, z13, z14, z15, z16, z17, z18, z19, z20, z21, z22, z23, z24, z25, z26, z27, z28, z29, z30, z31, z32, z33, z34, z35, z36, z37, z38, z39, z40, z41, z42, z43, z44, z45, z46, z47, z48, z49, z50, z51, z52, z53, z54, z55, z56, z57, z58, z59, z60, z61, z62, z63, z64, z65, z66, z67, z68, z69, z70, z71, z72, z73, z74, z75, z76, z77, z78, z79, z80, z81, z82, z83, z84, z85, z86, z87, z88, z89, z90, z91, z92, z93, z94, z95, z96, z97, z98, z99, z100, z101, z102, z103, z104, z105, z106, z107, z108, z109, z110, z111, z112, z113, z114, z115, z116, z117, z118, z119, z120, z121, z122, z123, z124, z125, z126, z127, z128, z129, z130, z131, z132, z133, z134, z135, z136, z137, z138, z139, z140, z141, z142, z143, z144, z145, z146, z147, z148, z149, z150, z151, z152, z153, z154, z155, z156, z157, z158, z159, z160, z161, z162, z163, z164, z165, z166, z167, z168, z169, z170, z171, z172, z173, z174, z175, z176, z177, z178, z179, z180, z181, z182, z183, z184, z185, z186, z187, z188, z189, z190, z191, z192, z193, z194, z195, z196, z197, z198, z199, z200, z201, z202, z203, z204, z205, z206, z207, z208, z209, z210, z211, z212, z213, z214, z215, z216, z217, z218, z219, z220, z221, z222, z223, z224, z225, z226, z227, z228, z229, z230, z231, z232, z233, z234, z235, z236, z237, z238, z239, z240, z241, z242, z243, z244, z245, z246, z247], []⟩ w := by
  have HBW := Lib.hid HB
  obtain ⟨ra', rc', rfl, hrlc⟩ := hrs.shape
  have HT2 := Lib.hid (reftrim_any hrs hrz)
  have hmz : szL (trimS rs) ≤ 100000000 := by have := trim_szL rs; omega
  have hml2 := szL_ge (trimS rs)
  clear hrs HB
  have e0 : U = ⟨#[110]⟩ := ba_of hcs
  subst e0
  clear hcs
  have HN := Lib.hid (show refN A rs = R by rw [← HX]; rfl)
  clear HX
  have hl0 : ¬ (rs.length : Int) = 0 := by have := List.length_pos_iff.2 hr0; omega
  have hl0' : ((rs.length : Int) == 0) = false := by simpa using hl0
  have hie : rs.isEmpty = false := by simpa using hr0
  have HF := Lib.hid (show noneA = R by rw [← HN.out, refN_no hie (by rw [hX]), hM]; rfl)
  clear HN hie hr0
  rw [hM] at hX hmz hml2 HT2
  have HXX := Lib.hid hX
  clear hX hM
  conv => arg 2; whnf
  go_wp2_with (first | (go_at_call 49; (with_reducible refine HT2.out.mono ?_); rintro e w3 ⟨⟨v3, rfl, hv3⟩, rfl⟩; obtain ⟨a3, c3, rfl, _⟩ := hv3.shape; have hv4 : RdN _ P (.slice a3 1 c3) [d] := hv3; rw [show [d].length = 1 from rfl]; have HV3 := Lib.hid hv4; clear hv3 hv4) | (go_at_call 51; (with_reducible refine (refnum_any HV3.out true (by simp)).mono ?_); rintro e w4 ⟨rfl, hb4⟩; rw [HXX.out]))
  go_ret3
  exact ⟨by rw [← HF.out]; try rfl, below_seq HBW.out hb4⟩
set_option maxRecDepth 100000 in
set_option maxHeartbeats 3200000 in
theorem anbt_nk {w0 w : World} {P : Nat → Prop} {U : ByteArray} {A : Int} {rs : List Nd} {R : Int × Int × Bool} {v : Value} {z0 z1 z2 z3 z4 z5 z6 z10 z11 z12 z13 z14 z15 z16 z17 z18 z19 z20 z21 z22 z23 z24 z25 z26 z27 z28 z29 z30 z31 z32 z33 z34 z35 z36 z37 z38 z39 z40 z41 z42 z43 z44 z45 z46 z47 z48 z49 z50 z51 z52 z53 z54 z55 z56 z57 z58 z59 z60 z61 z62 z63 z64 z65 z66 z67 z68 z69 z70 z71 z72 z73 z74 z75 z76 z77 z78 z79 z80 z81 z82 z83 z84 z85 z86 z87 z88 z89 z90 z91 z92 z93 z94 z95 z96 z97 z98 z99 z100 z101 z102 z103 z104 z105 z106 z107 z108 z109 z110 z111 z112 z113 z114 z115 z116 z117 z118 z119 z120 z121 z122 z123 z124 z125 z126 z127 z128 z129 z130 z131 z132 z133 z134 z135 z136 z137 z138 z139 z140 z141 z142 z143 z144 z145 z146 z147 z148 z149 z150 z151 z152 z153 z154 z155 z156 z157 z158 z159 z160 z161 z162 z163 z164 z165 z166 z167 z168 z169 z170 z171 z172 z173 z174 z175 z176 z177 z178 z179 z180 z181 z182 z183 z184 z185 z186 z187 z188 z189 z190 z191 z192 z193 z194 z195 z196 z197 z198 z199 z200 z201 z202 z203 z204 z205 z206 z207 z208 z209 z210 z211 z212 z213 z214 z215 z216 z217 z218 z219 z220 z221 z222 z223 z224 z225 z226 z227 z228 z229 z230 z231 z232 z233 z234 z235 z236 z237 z238 z239 z240 z241 z242 z243 z244 z245 z246 z247 : Value} (hrs : RdN w P v rs) (hrz : szL rs ≤ 100000000) (hUs : U.size ≤ 500000000) (HX : refT A U rs = R) (HB : Below w0.heap.size w0 w) (hcs : U.data.toList = [110]) (hr0 : ¬ rs = []) {t5 : Tok} {k5 r5 : List Nd} {x : Nd} (hM : trimS rs = .mk t5 k5 :: x :: r5) (hX : numA (trimS rs) true = (0, false)) {x2 : Int} {y2 : Bool} (hX2 : numA (trimS (x :: r5)) false = (x2, y2)) (hk9 : ¬ (t5.kind == 9) = true) :
    Code.wp Tryd.prog restCode (bodyPost Tryd.prog Tryd.f12 (AnbPost w0 R)) ⟨#[z0, z1, z2, z3, z4, z5, z6, .string U, .int .i64 A, v, z10, z11, z12, z13, z14, z15, z16, z17, z18, z19, z20, z21, z22, z23, z24, z25, z26, z27, z28, z29, z30, z31, z32, z33, z34, z35, z36, z37, z38, z39, z40, z41, z42, z43, z44, z45, z46, z47, z48, z49, z50, z51, z52, z53, z54, z55, z56, z57, z58, z59, z60, z61, z62, z63, z64, z65, z66, z67, z68, z69, z70, z71, z72, z73, z74, z75, z76, z77, z78, z79, z80, z81, z82, z83, z84, z85, z86, z87, z88, z89, z90, z91, z92, z93, z94, z95, z96, z97, z98, z99, z100, z101, z102, z103, z104, z105, z106, z107, z108, z109, z110, z111, z112, z113, z114, z115, z116, z117, z118, z119, z120, z121, z122, z123, z124, z125, z126, z127, z128, z129, z130, z131, z132, z133, z134, z135, z136, z137, z138, z139, z140, z141, z142, z143, z144, z145, z146, z147, z148, z149, z150, z151, z152, z153, z154, z155, z156, z157, z158, z159, z160, z161, z162, z163, z164, z165, z166, z167, z168, z169, z170, z171, z172, z173, z174, z175, z176, z177, z178, z179, z180, z181, z182, z183, z184, z185, z186, z187, z188, z189, z190, z191, z192, z193, z194, z195, z196, z197, z198, z199, z200, z201, z202, z203, z204, z205, z206, z207, z208, z209, z210, z211, z212, z213, z214, z215, z216, z217, z218, z219, z220, z221, z222, z223, z224, z225, z226, z227, z228, z229, z230, z231, z232, z233, z234, z235, z236, z237, z238, z239, z240, z241, z242, z243, z244, z245, z246, z247], []⟩ w := by
  have HBW := Lib.hid HB
  obtain ⟨ra', rc', rfl, hrlc⟩ := hrs.shape
  have HT2 := Lib.hid (reftrim_any hrs hrz)
  have hmz : szL (trimS rs) ≤ 100000000 := by have := trim_szL rs; omega
  have hml2 := szL_ge (trimS rs)
  clear hrs HB
  have e0 : U = ⟨#[110]⟩ := ba_of hcs
  subst e0
  clear hcs
  have HN := Lib.hid (show refN A rs = R by rw [← HX]; rfl)
  clear HX
  have hl0 : ¬ (rs.length : Int) = 0 := by have := List.length_pos_iff.2 hr0; omega
  have hl0' : ((rs.length : Int) == 0) = false := by simpa using hl0
  have hie : rs.isEmpty = false := by simpa using hr0
  have HN2 := Lib.hid (show (if isD (.mk t5 k5) ⟨#[43]⟩ = true then okA A (x2, y2) else if isD (.mk t5 k5) ⟨#[45]⟩ = true then okA A (negS x2, y2) else noneA) = R by rw [← HN.out, refN_no hie (by rw [hX]), hM, tailN_two, hX2])
  rw [hM] at hX hmz hml2 HT2
  have HXX := Lib.hid hX
  have HX2 := Lib.hid hX2
  have hmz5 : szL (x :: r5) ≤ 100000000 := by rw [szL] at hmz; omega
  have ht5z := trim_szL (x :: r5)
  have hml5 := szL_ge (trimS (x :: r5))
  have hml6 := szL_ge (x :: r5)
  obtain ⟨NN, hNN⟩ : ∃ NN, (x :: r5).length = NN := ⟨_, rfl⟩
  rw [hNN] at hml6
  have hlen : (.mk t5 k5 :: x :: r5 : List Nd).length = NN + 1 := by rw [← hNN]; rfl
  have hNN1 : 1 ≤ NN := by rw [← hNN]; simp
  have hlt2 : ¬ (NN : Int) + 1 < 2 := by omega
  clear HN hie hr0 hX hX2 hM
  have hk9' : (t5.kind != 9) = true := by simpa using hk9
  have HF := Lib.hid (show noneA = R by rw [← HN2.out]; exact (isD_no2 _ _ _ (isD_k hk9) (isD_k hk9)).symm)
  clear HN2 hk9
  conv => arg 2; whnf
  go_wp2_with (first | (go_at_call 49; (with_reducible refine HT2.out.mono ?_); rintro e w3 ⟨⟨v3, rfl, hv3⟩, rfl⟩; obtain ⟨a3, c3, rfl, hvc⟩ := hv3.shape; rw [hlen] at hv3 hvc ⊢; obtain ⟨b5, off5, c5, u5, hq, hlc5, _, hbl5, hat5, hk5⟩ := hv3.at 0 (by rw [hlen]; omega); injection hq with e1 e2 e3; clear e2; subst e1; subst e3; have q50 := hat5.c0; have q51 := hat5.c1; simp only [List.getElem_cons_zero, Nd.tok, Nat.zero_mul, Nat.add_zero] at q50 q51; clear hat5 hk5; have HV3 := Lib.hid hv3; clear hv3) | (go_at_call 51; (with_reducible refine (refnum_any HV3.out true (by rw [hlen]; omega)).mono ?_); rintro e w4 ⟨rfl, hb4⟩; rw [HXX.out]; replace q50 := (hb4.cell (p := ⟨b5, off5, none⟩) hbl5).trans q50; replace q51 := (hb4.cell (p := ⟨b5, off5 + 1, none⟩) hbl5).trans q51))
  go_ret3
  exact ⟨by rw [← HF.out]; try rfl, below_seq HBW.out hb4⟩
set_option maxRecDepth 100000 in
set_option maxHeartbeats 3200000 in
theorem anbt_nn {w0 w : World} {P : Nat → Prop} {U : ByteArray} {A : Int} {rs : List Nd} {R : Int × Int × Bool} {v : Value} {z0 z1 z2 z3 z4 z5 z6 z10 z11 z12 z13 z14 z15 z16 z17 z18 z19 z20 z21 z22 z23 z24 z25 z26 z27 z28 z29 z30 z31 z32 z33 z34 z35 z36 z37 z38 z39 z40 z41 z42 z43 z44 z45 z46 z47 z48 z49 z50 z51 z52 z53 z54 z55 z56 z57 z58 z59 z60 z61 z62 z63 z64 z65 z66 z67 z68 z69 z70 z71 z72 z73 z74 z75 z76 z77 z78 z79 z80 z81 z82 z83 z84 z85 z86 z87 z88 z89 z90 z91 z92 z93 z94 z95 z96 z97 z98 z99 z100 z101 z102 z103 z104 z105 z106 z107 z108 z109 z110 z111 z112 z113 z114 z115 z116 z117 z118 z119 z120 z121 z122 z123 z124 z125 z126 z127 z128 z129 z130 z131 z132 z133 z134 z135 z136 z137 z138 z139 z140 z141 z142 z143 z144 z145 z146 z147 z148 z149 z150 z151 z152 z153 z154 z155 z156 z157 z158 z159 z160 z161 z162 z163 z164 z165 z166 z167 z168 z169 z170 z171 z172 z173 z174 z175 z176 z177 z178 z179 z180 z181 z182 z183 z184 z185 z186 z187 z188 z189 z190 z191 z192 z193 z194 z195 z196 z197 z198 z199 z200 z201 z202 z203 z204 z205 z206 z207 z208 z209 z210 z211 z212 z213 z214 z215 z216 z217 z218 z219 z220 z221 z222 z223 z224 z225 z226 z227 z228 z229 z230 z231 z232 z233 z234 z235 z236 z237 z238 z239 z240 z241 z242 z243 z244 z245 z246 z247 : Value} (hrs : RdN w P v rs) (hrz : szL rs ≤ 100000000) (hUs : U.size ≤ 500000000) (HX : refT A U rs = R) (HB : Below w0.heap.size w0 w) (hcs : U.data.toList = [110]) (hr0 : ¬ rs = []) {t5 : Tok} {k5 r5 : List Nd} {x : Nd} (hM : trimS rs = .mk t5 k5 :: x :: r5) (hX : numA (trimS rs) true = (0, false)) {x2 : Int} {y2 : Bool} (hX2 : numA (trimS (x :: r5)) false = (x2, y2)) (hk9 : (t5.kind == 9) = true) (hpl : (t5.text.toList == [43]) = false) (hmi : (t5.text.toList == [45]) = false) :
    Code.wp Tryd.prog restCode (bodyPost Tryd.prog Tryd.f12 (AnbPost w0 R)) ⟨#[z0, z1, z2, z3, z4, z5, z6, .string U, .int .i64 A, v, z10, z11, z12, z13, z14, z15, z16, z17, z18, z19, z20, z21, z22, z23, z24, z25, z26, z27, z28, z29, z30, z31, z32, z33, z34, z35, z36, z37, z38, z39, z40, z41, z42, z43, z44, z45, z46, z47, z48, z49, z50, z51, z52, z53, z54, z55, z56, z57, z58, z59, z60, z61, z62, z63, z64, z65, z66, z67, z68, z69, z70, z71, z72, z73, z74, z75, z76, z77, z78, z79, z80, z81, z82, z83, z84, z85, z86, z87, z88, z89, z90, z91, z92, z93, z94, z95, z96, z97, z98, z99, z100, z101, z102, z103, z104, z105, z106, z107, z108, z109, z110, z111, z112, z113, z114, z115, z116, z117, z118, z119, z120, z121, z122, z123, z124, z125, z126, z127, z128, z129, z130, z131, z132, z133, z134, z135, z136, z137, z138, z139, z140, z141, z142, z143, z144, z145, z146, z147, z148, z149, z150, z151, z152, z153, z154, z155, z156, z157, z158, z159, z160, z161, z162, z163, z164, z165, z166, z167, z168, z169, z170, z171, z172, z173, z174, z175, z176, z177, z178, z179, z180, z181, z182, z183, z184, z185, z186, z187, z188, z189, z190, z191, z192, z193, z194, z195, z196, z197, z198, z199, z200, z201, z202, z203, z204, z205, z206, z207, z208, z209, z210, z211, z212, z213, z214, z215, z216, z217, z218, z219, z220, z221, z222, z223, z224, z225, z226, z227, z228, z229, z230, z231, z232, z233, z234, z235, z236, z237, z238, z239, z240, z241, z242, z243, z244, z245, z246, z247], []⟩ w := by
  have HBW := Lib.hid HB
  obtain ⟨ra', rc', rfl, hrlc⟩ := hrs.shape
  have HT2 := Lib.hid (reftrim_any hrs hrz)
  have hmz : szL (trimS rs) ≤ 100000000 := by have := trim_szL rs; omega
  have hml2 := szL_ge (trimS rs)
  clear hrs HB
  have e0 : U = ⟨#[110]⟩ := ba_of hcs
  subst e0
  clear hcs
  have HN := Lib.hid (show refN A rs = R by rw [← HX]; rfl)
  clear HX
  have hl0 : ¬ (rs.length : Int) = 0 := by have := List.length_pos_iff.2 hr0; omega
  have hl0' : ((rs.length : Int) == 0) = false := by simpa using hl0
  have hie : rs.isEmpty = false := by simpa using hr0
  have HN2 := Lib.hid (show (if isD (.mk t5 k5) ⟨#[43]⟩ = true then okA A (x2, y2) else if isD (.mk t5 k5) ⟨#[45]⟩ = true then okA A (negS x2, y2) else noneA) = R by rw [← HN.out, refN_no hie (by rw [hX]), hM, tailN_two, hX2])
  rw [hM] at hX hmz hml2 HT2
  have HXX := Lib.hid hX
  have HX2 := Lib.hid hX2
  have hmz5 : szL (x :: r5) ≤ 100000000 := by rw [szL] at hmz; omega
  have ht5z := trim_szL (x :: r5)
  have hml5 := szL_ge (trimS (x :: r5))
  have hml6 := szL_ge (x :: r5)
  obtain ⟨NN, hNN⟩ : ∃ NN, (x :: r5).length = NN := ⟨_, rfl⟩
  rw [hNN] at hml6
  have hlen : (.mk t5 k5 :: x :: r5 : List Nd).length = NN + 1 := by rw [← hNN]; rfl
  have hNN1 : 1 ≤ NN := by rw [← hNN]; simp
  have hlt2 : ¬ (NN : Int) + 1 < 2 := by omega
  clear HN hie hr0 hX hX2 hM
  have hk9' : (t5.kind != 9) = false := by rw [bne, hk9]; rfl
  have hpl' : (!(t5.text.toList == [43])) = true := by rw [hpl]; rfl
  have hmi' : (!(t5.text.toList == [45])) = true := by rw [hmi]; rfl
  have HF := Lib.hid (show noneA = R by rw [← HN2.out]; exact (isD_no2 _ _ _ (isD_n43 hpl) (isD_n45 hmi)).symm)
  clear HN2 hk9
  conv => arg 2; whnf
  go_wp2_with (first | (go_at_call 49; (with_reducible refine HT2.out.mono ?_); rintro e w3 ⟨⟨v3, rfl, hv3⟩, rfl⟩; obtain ⟨a3, c3, rfl, hvc⟩ := hv3.shape; rw [hlen] at hv3 hvc ⊢; obtain ⟨b5, off5, c5, u5, hq, hlc5, _, hbl5, hat5, hk5⟩ := hv3.at 0 (by rw [hlen]; omega); injection hq with e1 e2 e3; clear e2; subst e1; subst e3; have q50 := hat5.c0; have q51 := hat5.c1; simp only [List.getElem_cons_zero, Nd.tok, Nat.zero_mul, Nat.add_zero] at q50 q51; clear hat5 hk5; have HV3 := Lib.hid hv3; clear hv3) | (go_at_call 51; (with_reducible refine (refnum_any HV3.out true (by rw [hlen]; omega)).mono ?_); rintro e w4 ⟨rfl, hb4⟩; rw [HXX.out]; replace q50 := (hb4.cell (p := ⟨b5, off5, none⟩) hbl5).trans q50; replace q51 := (hb4.cell (p := ⟨b5, off5 + 1, none⟩) hbl5).trans q51))
  go_ret3
  exact ⟨by rw [← HF.out]; try rfl, below_seq HBW.out hb4⟩
set_option maxRecDepth 100000 in
set_option maxHeartbeats 3200000 in
theorem anbt_nptrue {w0 w : World} {P : Nat → Prop} {U : ByteArray} {A : Int} {rs : List Nd} {R : Int × Int × Bool} {v : Value} {z0 z1 z2 z3 z4 z5 z6 z10 z11 z12 z13 z14 z15 z16 z17 z18 z19 z20 z21 z22 z23 z24 z25 z26 z27 z28 z29 z30 z31 z32 z33 z34 z35 z36 z37 z38 z39 z40 z41 z42 z43 z44 z45 z46 z47 z48 z49 z50 z51 z52 z53 z54 z55 z56 z57 z58 z59 z60 z61 z62 z63 z64 z65 z66 z67 z68 z69 z70 z71 z72 z73 z74 z75 z76 z77 z78 z79 z80 z81 z82 z83 z84 z85 z86 z87 z88 z89 z90 z91 z92 z93 z94 z95 z96 z97 z98 z99 z100 z101 z102 z103 z104 z105 z106 z107 z108 z109 z110 z111 z112 z113 z114 z115 z116 z117 z118 z119 z120 z121 z122 z123 z124 z125 z126 z127 z128 z129 z130 z131 z132 z133 z134 z135 z136 z137 z138 z139 z140 z141 z142 z143 z144 z145 z146 z147 z148 z149 z150 z151 z152 z153 z154 z155 z156 z157 z158 z159 z160 z161 z162 z163 z164 z165 z166 z167 z168 z169 z170 z171 z172 z173 z174 z175 z176 z177 z178 z179 z180 z181 z182 z183 z184 z185 z186 z187 z188 z189 z190 z191 z192 z193 z194 z195 z196 z197 z198 z199 z200 z201 z202 z203 z204 z205 z206 z207 z208 z209 z210 z211 z212 z213 z214 z215 z216 z217 z218 z219 z220 z221 z222 z223 z224 z225 z226 z227 z228 z229 z230 z231 z232 z233 z234 z235 z236 z237 z238 z239 z240 z241 z242 z243 z244 z245 z246 z247 : Value} (hrs : RdN w P v rs) (hrz : szL rs ≤ 100000000) (hUs : U.size ≤ 500000000) (HX : refT A U rs = R) (HB : Below w0.heap.size w0 w) (hcs : U.data.toList = [110]) (hr0 : ¬ rs = []) {t5 : Tok} {k5 r5 : List Nd} {x : Nd} (hM : trimS rs = .mk t5 k5 :: x :: r5) (hX : numA (trimS rs) true = (0, false)) {x2 : Int} (hX2 : numA (trimS (x :: r5)) false = (x2, true)) (hk9 : (t5.kind == 9) = true) (hpl : (t5.text.toList == [43]) = true) :
    Code.wp Tryd.prog restCode (bodyPost Tryd.prog Tryd.f12 (AnbPost w0 R)) ⟨#[z0, z1, z2, z3, z4, z5, z6, .string U, .int .i64 A, v, z10, z11, z12, z13, z14, z15, z16, z17, z18, z19, z20, z21, z22, z23, z24, z25, z26, z27, z28, z29, z30, z31, z32, z33, z34, z35, z36, z37, z38, z39, z40, z41, z42, z43, z44, z45, z46, z47, z48, z49, z50, z51, z52, z53, z54, z55, z56, z57, z58, z59, z60, z61, z62, z63, z64, z65, z66, z67, z68, z69, z70, z71, z72, z73, z74, z75, z76, z77, z78, z79, z80, z81, z82, z83, z84, z85, z86, z87, z88, z89, z90, z91, z92, z93, z94, z95, z96, z97, z98, z99, z100, z101, z102, z103, z104, z105, z106, z107, z108, z109, z110, z111, z112, z113, z114, z115, z116, z117, z118, z119, z120, z121, z122, z123, z124, z125, z126, z127, z128, z129, z130, z131, z132, z133, z134, z135, z136, z137, z138, z139, z140, z141, z142, z143, z144, z145, z146, z147, z148, z149, z150, z151, z152, z153, z154, z155, z156, z157, z158, z159, z160, z161, z162, z163, z164, z165, z166, z167, z168, z169, z170, z171, z172, z173, z174, z175, z176, z177, z178, z179, z180, z181, z182, z183, z184, z185, z186, z187, z188, z189, z190, z191, z192, z193, z194, z195, z196, z197, z198, z199, z200, z201, z202, z203, z204, z205, z206, z207, z208, z209, z210, z211, z212, z213, z214, z215, z216, z217, z218, z219, z220, z221, z222, z223, z224, z225, z226, z227, z228, z229, z230, z231, z232, z233, z234, z235, z236, z237, z238, z239, z240, z241, z242, z243, z244, z245, z246, z247], []⟩ w := by
  have HBW := Lib.hid HB
  obtain ⟨ra', rc', rfl, hrlc⟩ := hrs.shape
  have HT2 := Lib.hid (reftrim_any hrs hrz)
  have hmz : szL (trimS rs) ≤ 100000000 := by have := trim_szL rs; omega
  have hml2 := szL_ge (trimS rs)
  clear hrs HB
  have e0 : U = ⟨#[110]⟩ := ba_of hcs
  subst e0
  clear hcs
  have HN := Lib.hid (show refN A rs = R by rw [← HX]; rfl)
  clear HX
  have hl0 : ¬ (rs.length : Int) = 0 := by have := List.length_pos_iff.2 hr0; omega
  have hl0' : ((rs.length : Int) == 0) = false := by simpa using hl0
  have hie : rs.isEmpty = false := by simpa using hr0
  have HN2 := Lib.hid (show (if isD (.mk t5 k5) ⟨#[43]⟩ = true then okA A (x2, true) else if isD (.mk t5 k5) ⟨#[45]⟩ = true then okA A (negS x2, true) else noneA) = R by rw [← HN.out, refN_no hie (by rw [hX]), hM, tailN_two, hX2])
  rw [hM] at hX hmz hml2 HT2
  have HXX := Lib.hid hX
  have HX2 := Lib.hid hX2
  have hmz5 : szL (x :: r5) ≤ 100000000 := by rw [szL] at hmz; omega
  have ht5z := trim_szL (x :: r5)
  have hml5 := szL_ge (trimS (x :: r5))
  have hml6 := szL_ge (x :: r5)
  obtain ⟨NN, hNN⟩ : ∃ NN, (x :: r5).length = NN := ⟨_, rfl⟩
  rw [hNN] at hml6
  have hlen : (.mk t5 k5 :: x :: r5 : List Nd).length = NN + 1 := by rw [← hNN]; rfl
  have hNN1 : 1 ≤ NN := by rw [← hNN]; simp
  have hlt2 : ¬ (NN : Int) + 1 < 2 := by omega
  clear HN hie hr0 hX hX2 hM
  have hk9' : (t5.kind != 9) = false := by rw [bne, hk9]; rfl
  have hpl' : (!(t5.text.toList == [43])) = false := by rw [hpl]; rfl
  have hmi : (t5.text.toList == [45]) = false := by rw [eq_of_beq hpl]; rfl
  have HF := Lib.hid (show (A, x2, true) = R by rw [← HN2.out]; exact (isD_yes1 _ _ _ (isD_43 hk9 hpl)).symm)
  clear HN2 hk9
  conv => arg 2; whnf
  go_wp2_with fail
  (with_reducible refine HT2.out.mono ?_)
  rintro e w3 ⟨⟨v3, rfl, hv3⟩, rfl⟩
  obtain ⟨a3, c3, rfl, hvc⟩ := hv3.shape
  rw [hlen] at hv3 hvc ⊢
  obtain ⟨b5, off5, c5, u5, hq, hlc5, _, hbl5, hat5, hk5⟩ := hv3.at 0 (by rw [hlen]; omega); injection hq with e1 e2 e3; clear e2; subst e1; subst e3; have q50 := hat5.c0; have q51 := hat5.c1; simp only [List.getElem_cons_zero, Nd.tok, Nat.zero_mul, Nat.add_zero] at q50 q51; clear hat5 hk5
  have HV3 := Lib.hid hv3
  clear hv3
  go_wp2_with fail
  (with_reducible refine (refnum_any HV3.out true (by rw [hlen]; omega)).mono ?_)
  rintro e w4 ⟨rfl, hb4⟩
  rw [HXX.out]
  replace q50 := (hb4.cell (p := ⟨b5, off5, none⟩) hbl5).trans q50; replace q51 := (hb4.cell (p := ⟨b5, off5 + 1, none⟩) hbl5).trans q51
  have hr6 : RdN w4 P (.slice (some ⟨b5, off5 + 7, none⟩) NN (c3 - 1)) (x :: r5) := by
    have := (HV3.out.under hb4 (Nat.le_refl _)).drop 1 (by rw [hlen]; omega)
    simpa using this
  have hcc : ¬ c3 = 1 := by omega
  have hcc' : ¬ 1 = c3 := by omega
  have hbl6 : b5 < w4.heap.size := Nat.lt_of_lt_of_le hbl5 hb4.size
  have HT6 := Lib.hid (reftrim_any hr6 hmz5)
  clear hr6
  go_wp2_with fail
  (with_reducible refine HT6.out.mono ?_)
  rintro e w5 ⟨⟨v5, rfl, hv5⟩, rfl⟩
  obtain ⟨a6, c6, rfl, _⟩ := hv5.shape
  have HV5 := Lib.hid hv5
  clear hv5
  go_wp2_with fail
  (with_reducible refine (refnum_any HV5.out false (by omega)).mono ?_)
  rintro e w6 ⟨rfl, hb6⟩
  rw [HX2.out]
  replace q50 := (hb6.cell (p := ⟨b5, off5, none⟩) hbl6).trans q50
  replace q51 := (hb6.cell (p := ⟨b5, off5 + 1, none⟩) hbl6).trans q51
  go_wp2
  go_ret3
  exact ⟨by rw [← HF.out]; try rfl, below_seq HBW.out (below_seq hb4 hb6)⟩
set_option maxRecDepth 100000 in
set_option maxHeartbeats 3200000 in
theorem anbt_nmtrue {w0 w : World} {P : Nat → Prop} {U : ByteArray} {A : Int} {rs : List Nd} {R : Int × Int × Bool} {v : Value} {z0 z1 z2 z3 z4 z5 z6 z10 z11 z12 z13 z14 z15 z16 z17 z18 z19 z20 z21 z22 z23 z24 z25 z26 z27 z28 z29 z30 z31 z32 z33 z34 z35 z36 z37 z38 z39 z40 z41 z42 z43 z44 z45 z46 z47 z48 z49 z50 z51 z52 z53 z54 z55 z56 z57 z58 z59 z60 z61 z62 z63 z64 z65 z66 z67 z68 z69 z70 z71 z72 z73 z74 z75 z76 z77 z78 z79 z80 z81 z82 z83 z84 z85 z86 z87 z88 z89 z90 z91 z92 z93 z94 z95 z96 z97 z98 z99 z100 z101 z102 z103 z104 z105 z106 z107 z108 z109 z110 z111 z112 z113 z114 z115 z116 z117 z118 z119 z120 z121 z122 z123 z124 z125 z126 z127 z128 z129 z130 z131 z132 z133 z134 z135 z136 z137 z138 z139 z140 z141 z142 z143 z144 z145 z146 z147 z148 z149 z150 z151 z152 z153 z154 z155 z156 z157 z158 z159 z160 z161 z162 z163 z164 z165 z166 z167 z168 z169 z170 z171 z172 z173 z174 z175 z176 z177 z178 z179 z180 z181 z182 z183 z184 z185 z186 z187 z188 z189 z190 z191 z192 z193 z194 z195 z196 z197 z198 z199 z200 z201 z202 z203 z204 z205 z206 z207 z208 z209 z210 z211 z212 z213 z214 z215 z216 z217 z218 z219 z220 z221 z222 z223 z224 z225 z226 z227 z228 z229 z230 z231 z232 z233 z234 z235 z236 z237 z238 z239 z240 z241 z242 z243 z244 z245 z246 z247 : Value} (hrs : RdN w P v rs) (hrz : szL rs ≤ 100000000) (hUs : U.size ≤ 500000000) (HX : refT A U rs = R) (HB : Below w0.heap.size w0 w) (hcs : U.data.toList = [110]) (hr0 : ¬ rs = []) {t5 : Tok} {k5 r5 : List Nd} {x : Nd} (hM : trimS rs = .mk t5 k5 :: x :: r5) (hX : numA (trimS rs) true = (0, false)) {x2 : Int} (hX2 : numA (trimS (x :: r5)) false = (x2, true)) (hk9 : (t5.kind == 9) = true) (hpl : (t5.text.toList == [43]) = false) (hmi : (t5.text.toList == [45]) = true) :
    Code.wp Tryd.prog restCode (bodyPost Tryd.prog Tryd.f12 (AnbPost w0 R)) ⟨#[z0, z1, z2, z3, z4, z5, z6, .string U, .int .i64 A, v, z10, z11, z12, z13, z14, z15, z16, z17, z18, z19, z20, z21, z22, z23, z24, z25, z26, z27, z28, z29, z30, z31, z32, z33, z34, z35, z36, z37, z38, z39, z40, z41, z42, z43, z44, z45, z46, z47, z48, z49, z50, z51, z52, z53, z54, z55, z56, z57, z58, z59, z60, z61, z62, z63, z64, z65, z66, z67, z68, z69, z70, z71, z72, z73, z74, z75, z76, z77, z78, z79, z80, z81, z82, z83, z84, z85, z86, z87, z88, z89, z90, z91, z92, z93, z94, z95, z96, z97, z98, z99, z100, z101, z102, z103, z104, z105, z106, z107, z108, z109, z110, z111, z112, z113, z114, z115, z116, z117, z118, z119, z120, z121, z122, z123, z124, z125, z126, z127, z128, z129, z130, z131, z132, z133, z134, z135, z136, z137, z138, z139, z140, z141, z142, z143, z144, z145, z146, z147, z148, z149, z150, z151, z152, z153, z154, z155, z156, z157, z158, z159, z160, z161, z162, z163, z164, z165, z166, z167, z168, z169, z170, z171, z172, z173, z174, z175, z176, z177, z178, z179, z180, z181, z182, z183, z184, z185, z186, z187, z188, z189, z190, z191, z192, z193, z194, z195, z196, z197, z198, z199, z200, z201, z202, z203, z204, z205, z206, z207, z208, z209, z210, z211, z212, z213, z214, z215, z216, z217, z218, z219, z220, z221, z222, z223, z224, z225, z226, z227, z228, z229, z230, z231, z232, z233, z234, z235, z236, z237, z238, z239, z240, z241, z242, z243, z244, z245, z246, z247], []⟩ w := by
  have HBW := Lib.hid HB
  obtain ⟨ra', rc', rfl, hrlc⟩ := hrs.shape
  have HT2 := Lib.hid (reftrim_any hrs hrz)
  have hmz : szL (trimS rs) ≤ 100000000 := by have := trim_szL rs; omega
  have hml2 := szL_ge (trimS rs)
  clear hrs HB
  have e0 : U = ⟨#[110]⟩ := ba_of hcs
  subst e0
  clear hcs
  have HN := Lib.hid (show refN A rs = R by rw [← HX]; rfl)
  clear HX
  have hl0 : ¬ (rs.length : Int) = 0 := by have := List.length_pos_iff.2 hr0; omega
  have hl0' : ((rs.length : Int) == 0) = false := by simpa using hl0
  have hie : rs.isEmpty = false := by simpa using hr0
  have HN2 := Lib.hid (show (if isD (.mk t5 k5) ⟨#[43]⟩ = true then okA A (x2, true) else if isD (.mk t5 k5) ⟨#[45]⟩ = true then okA A (negS x2, true) else noneA) = R by rw [← HN.out, refN_no hie (by rw [hX]), hM, tailN_two, hX2])
  rw [hM] at hX hmz hml2 HT2
  have HXX := Lib.hid hX
  have HX2 := Lib.hid hX2
  have hmz5 : szL (x :: r5) ≤ 100000000 := by rw [szL] at hmz; omega
  have ht5z := trim_szL (x :: r5)
  have hml5 := szL_ge (trimS (x :: r5))
  have hml6 := szL_ge (x :: r5)
  obtain ⟨NN, hNN⟩ : ∃ NN, (x :: r5).length = NN := ⟨_, rfl⟩
  rw [hNN] at hml6
  have hlen : (.mk t5 k5 :: x :: r5 : List Nd).length = NN + 1 := by rw [← hNN]; rfl
  have hNN1 : 1 ≤ NN := by rw [← hNN]; simp
  have hlt2 : ¬ (NN : Int) + 1 < 2 := by omega
  clear HN hie hr0 hX hX2 hM
  have hk9' : (t5.kind != 9) = false := by rw [bne, hk9]; rfl
  have hpl' : (!(t5.text.toList == [43])) = true := by rw [hpl]; rfl
  have hmi' : (!(t5.text.toList == [45])) = false := by rw [hmi]; rfl
  have HF := Lib.hid (show (A, negS x2, true) = R by rw [← HN2.out]; exact (isD_yes2 _ _ _ (isD_n43 hpl) (isD_45 hk9 hmi)).symm)
  clear HN2 hk9
  conv => arg 2; whnf
  go_wp2_with fail
  (with_reducible refine HT2.out.mono ?_)
  rintro e w3 ⟨⟨v3, rfl, hv3⟩, rfl⟩
  obtain ⟨a3, c3, rfl, hvc⟩ := hv3.shape
  rw [hlen] at hv3 hvc ⊢
  obtain ⟨b5, off5, c5, u5, hq, hlc5, _, hbl5, hat5, hk5⟩ := hv3.at 0 (by rw [hlen]; omega); injection hq with e1 e2 e3; clear e2; subst e1; subst e3; have q50 := hat5.c0; have q51 := hat5.c1; simp only [List.getElem_cons_zero, Nd.tok, Nat.zero_mul, Nat.add_zero] at q50 q51; clear hat5 hk5
  have HV3 := Lib.hid hv3
  clear hv3
  go_wp2_with fail
  (with_reducible refine (refnum_any HV3.out true (by rw [hlen]; omega)).mono ?_)
  rintro e w4 ⟨rfl, hb4⟩
  rw [HXX.out]
  replace q50 := (hb4.cell (p := ⟨b5, off5, none⟩) hbl5).trans q50; replace q51 := (hb4.cell (p := ⟨b5, off5 + 1, none⟩) hbl5).trans q51
  have hr6 : RdN w4 P (.slice (some ⟨b5, off5 + 7, none⟩) NN (c3 - 1)) (x :: r5) := by
    have := (HV3.out.under hb4 (Nat.le_refl _)).drop 1 (by rw [hlen]; omega)
    simpa using this
  have hcc : ¬ c3 = 1 := by omega
  have hcc' : ¬ 1 = c3 := by omega
  have hbl6 : b5 < w4.heap.size := Nat.lt_of_lt_of_le hbl5 hb4.size
  have HT6 := Lib.hid (reftrim_any hr6 hmz5)
  clear hr6
  go_wp2_with fail
  (with_reducible refine HT6.out.mono ?_)
  rintro e w5 ⟨⟨v5, rfl, hv5⟩, rfl⟩
  obtain ⟨a6, c6, rfl, _⟩ := hv5.shape
  have HV5 := Lib.hid hv5
  clear hv5
  go_wp2_with fail
  (with_reducible refine (refnum_any HV5.out false (by omega)).mono ?_)
  rintro e w6 ⟨rfl, hb6⟩
  rw [HX2.out]
  replace q50 := (hb6.cell (p := ⟨b5, off5, none⟩) hbl6).trans q50
  replace q51 := (hb6.cell (p := ⟨b5, off5 + 1, none⟩) hbl6).trans q51
  go_wp2
  go_ret3
  exact ⟨by rw [← HF.out]; try rfl, below_seq HBW.out (below_seq hb4 hb6)⟩
set_option maxRecDepth 100000 in
set_option maxHeartbeats 3200000 in
theorem anbt_dtrue {w0 w : World} {P : Nat → Prop} {U : ByteArray} {A : Int} {rs : List Nd} {R : Int × Int × Bool} {v : Value} {z0 z1 z2 z3 z4 z5 z6 z10 z11 z12 z13 z14 z15 z16 z17 z18 z19 z20 z21 z22 z23 z24 z25 z26 z27 z28 z29 z30 z31 z32 z33 z34 z35 z36 z37 z38 z39 z40 z41 z42 z43 z44 z45 z46 z47 z48 z49 z50 z51 z52 z53 z54 z55 z56 z57 z58 z59 z60 z61 z62 z63 z64 z65 z66 z67 z68 z69 z70 z71 z72 z73 z74 z75 z76 z77 z78 z79 z80 z81 z82 z83 z84 z85 z86 z87 z88 z89 z90 z91 z92 z93 z94 z95 z96 z97 z98 z99 z100 z101 z102 z103 z104 z105 z106 z107 z108 z109 z110 z111 z112 z113 z114 z115 z116 z117 z118 z119 z120 z121 z122 z123 z124 z125 z126 z127 z128 z129 z130 z131 z132 z133 z134 z135 z136 z137 z138 z139 z140 z141 z142 z143 z144 z145 z146 z147 z148 z149 z150 z151 z152 z153 z154 z155 z156 z157 z158 z159 z160 z161 z162 z163 z164 z165 z166 z167 z168 z169 z170 z171 z172 z173 z174 z175 z176 z177 z178 z179 z180 z181 z182 z183 z184 z185 z186 z187 z188 z189 z190 z191 z192 z193 z194 z195 z196 z197 z198 z199 z200 z201 z202 z203 z204 z205 z206 z207 z208 z209 z210 z211 z212 z213 z214 z215 z216 z217 z218 z219 z220 z221 z222 z223 z224 z225 z226 z227 z228 z229 z230 z231 z232 z233 z234 z235 z236 z237 z238 z239 z240 z241 z242 z243 z244 z245 z246 z247 : Value} (hrs : RdN w P v rs) (hrz : szL rs ≤ 100000000) (hUs : U.size ≤ 500000000) (HX : refT A U rs = R) (HB : Below w0.heap.size w0 w) (hcs : U.data.toList = [110, 45]) {x1 : Int} (hX : numA (trimS rs) false = (x1, true)) :
    Code.wp Tryd.prog restCode (bodyPost Tryd.prog Tryd.f12 (AnbPost w0 R)) ⟨#[z0, z1, z2, z3, z4, z5, z6, .string U, .int .i64 A, v, z10, z11, z12, z13, z14, z15, z16, z17, z18, z19, z20, z21, z22, z23, z24, z25, z26, z27, z28, z29, z30, z31, z32, z33, z34, z35, z36, z37, z38, z39, z40, z41, z42, z43, z44, z45, z46, z47, z48, z49, z50, z51, z52, z53, z54, z55, z56, z57, z58, z59, z60, z61, z62, z63, z64, z65, z66, z67, z68, z69, z70, z71, z72, z73, z74, z75, z76, z77, z78, z79, z80, z81, z82, z83, z84, z85, z86, z87, z88, z89, z90, z91, z92, z93, z94, z95, z96, z97, z98, z99, z100, z101, z102, z103, z104, z105, z106, z107, z108, z109, z110, z111, z112, z113, z114, z115, z116, z117, z118, z119, z120, z121, z122, z123, z124, z125, z126, z127, z128, z129, z130, z131, z132, z133, z134, z135, z136, z137, z138, z139, z140, z141, z142, z143, z144, z145, z146, z147, z148, z149, z150, z151, z152, z153, z154, z155, z156, z157, z158, z159, z160, z161, z162, z163, z164, z165, z166, z167, z168, z169, z170, z171, z172, z173, z174, z175, z176, z177, z178, z179, z180, z181, z182, z183, z184, z185, z186, z187, z188, z189, z190, z191, z192, z193, z194, z195, z196, z197, z198, z199, z200, z201, z202, z203, z204, z205, z206, z207, z208, z209, z210, z211, z212, z213, z214, z215, z216, z217, z218, z219, z220, z221, z222, z223, z224, z225, z226, z227, z228, z229, z230, z231, z232, z233, z234, z235, z236, z237, z238, z239, z240, z241, z242, z243, z244, z245, z246, z247], []⟩ w := by
  have HBW := Lib.hid HB
  obtain ⟨ra', rc', rfl, hrlc⟩ := hrs.shape
  have HT2 := Lib.hid (reftrim_any hrs hrz)
  have hmz : szL (trimS rs) ≤ 100000000 := by have := trim_szL rs; omega
  have hml2 := szL_ge (trimS rs)
  clear hrs HB
  have e0 : U = ⟨#[110, 45]⟩ := ba_of hcs
  subst e0
  clear hcs
  have HXX := Lib.hid hX
  have HF := Lib.hid (show (A, negS x1, true) = R by rw [← HX]; show _ = okA A (negS (numA (trimS rs) false).1, (numA (trimS rs) false).2); rw [hX]; rfl)
  clear HX hX
  generalize trimS rs = M at *
  conv => arg 2; whnf
  go_wp2_with (first | (go_at_call 49; (with_reducible refine HT2.out.mono ?_); rintro e w3 ⟨⟨v3, rfl, hv3⟩, rfl⟩; obtain ⟨a3, c3, rfl, _⟩ := hv3.shape; have HV3 := Lib.hid hv3; clear hv3) | (go_at_call 51; (with_reducible refine (refnum_any HV3.out false (by omega)).mono ?_); rintro e w4 ⟨rfl, hb4⟩; rw [HXX.out]))
  go_ret3
  exact ⟨by rw [← HF.out]; try rfl, below_seq HBW.out hb4⟩
set_option maxRecDepth 100000 in
set_option maxHeartbeats 3200000 in
theorem anbt_npfalse {w0 w : World} {P : Nat → Prop} {U : ByteArray} {A : Int} {rs : List Nd} {R : Int × Int × Bool} {v : Value} {z0 z1 z2 z3 z4 z5 z6 z10 z11 z12 z13 z14 z15 z16 z17 z18 z19 z20 z21 z22 z23 z24 z25 z26 z27 z28 z29 z30 z31 z32 z33 z34 z35 z36 z37 z38 z39 z40 z41 z42 z43 z44 z45 z46 z47 z48 z49 z50 z51 z52 z53 z54 z55 z56 z57 z58 z59 z60 z61 z62 z63 z64 z65 z66 z67 z68 z69 z70 z71 z72 z73 z74 z75 z76 z77 z78 z79 z80 z81 z82 z83 z84 z85 z86 z87 z88 z89 z90 z91 z92 z93 z94 z95 z96 z97 z98 z99 z100 z101 z102 z103 z104 z105 z106 z107 z108 z109 z110 z111 z112 z113 z114 z115 z116 z117 z118 z119 z120 z121 z122 z123 z124 z125 z126 z127 z128 z129 z130 z131 z132 z133 z134 z135 z136 z137 z138 z139 z140 z141 z142 z143 z144 z145 z146 z147 z148 z149 z150 z151 z152 z153 z154 z155 z156 z157 z158 z159 z160 z161 z162 z163 z164 z165 z166 z167 z168 z169 z170 z171 z172 z173 z174 z175 z176 z177 z178 z179 z180 z181 z182 z183 z184 z185 z186 z187 z188 z189 z190 z191 z192 z193 z194 z195 z196 z197 z198 z199 z200 z201 z202 z203 z204 z205 z206 z207 z208 z209 z210 z211 z212 z213 z214 z215 z216 z217 z218 z219 z220 z221 z222 z223 z224 z225 z226 z227 z228 z229 z230 z231 z232 z233 z234 z235 z236 z237 z238 z239 z240 z241 z242 z243 z244 z245 z246 z247 : Value} (hrs : RdN w P v rs) (hrz : szL rs ≤ 100000000) (hUs : U.size ≤ 500000000) (HX : refT A U rs = R) (HB : Below w0.heap.size w0 w) (hcs : U.data.toList = [110]) (hr0 : ¬ rs = []) {t5 : Tok} {k5 r5 : List Nd} {x : Nd} (hM : trimS rs = .mk t5 k5 :: x :: r5) (hX : numA (trimS rs) true = (0, false)) {x2 : Int} (hX2 : numA (trimS (x :: r5)) false = (x2, false)) (hk9 : (t5.kind == 9) = true) (hpl : (t5.text.toList == [43]) = true) :
    Code.wp Tryd.prog restCode (bodyPost Tryd.prog Tryd.f12 (AnbPost w0 R)) ⟨#[z0, z1, z2, z3, z4, z5, z6, .string U, .int .i64 A, v, z10, z11, z12, z13, z14, z15, z16, z17, z18, z19, z20, z21, z22, z23, z24, z25, z26, z27, z28, z29, z30, z31, z32, z33, z34, z35, z36, z37, z38, z39, z40, z41, z42, z43, z44, z45, z46, z47, z48, z49, z50, z51, z52, z53, z54, z55, z56, z57, z58, z59, z60, z61, z62, z63, z64, z65, z66, z67, z68, z69, z70, z71, z72, z73, z74, z75, z76, z77, z78, z79, z80, z81, z82, z83, z84, z85, z86, z87, z88, z89, z90, z91, z92, z93, z94, z95, z96, z97, z98, z99, z100, z101, z102, z103, z104, z105, z106, z107, z108, z109, z110, z111, z112, z113, z114, z115, z116, z117, z118, z119, z120, z121, z122, z123, z124, z125, z126, z127, z128, z129, z130, z131, z132, z133, z134, z135, z136, z137, z138, z139, z140, z141, z142, z143, z144, z145, z146, z147, z148, z149, z150, z151, z152, z153, z154, z155, z156, z157, z158, z159, z160, z161, z162, z163, z164, z165, z166, z167, z168, z169, z170, z171, z172, z173, z174, z175, z176, z177, z178, z179, z180, z181, z182, z183, z184, z185, z186, z187, z188, z189, z190, z191, z192, z193, z194, z195, z196, z197, z198, z199, z200, z201, z202, z203, z204, z205, z206, z207, z208, z209, z210, z211, z212, z213, z214, z215, z216, z217, z218, z219, z220, z221, z222, z223, z224, z225, z226, z227, z228, z229, z230, z231, z232, z233, z234, z235, z236, z237, z238, z239, z240, z241, z242, z243, z244, z245, z246, z247], []⟩ w := by
  have HBW := Lib.hid HB
  obtain ⟨ra', rc', rfl, hrlc⟩ := hrs.shape
  have HT2 := Lib.hid (reftrim_any hrs hrz)
  have hmz : szL (trimS rs) ≤ 100000000 := by have := trim_szL rs; omega
  have hml2 := szL_ge (trimS rs)
  clear hrs HB
  have e0 : U = ⟨#[110]⟩ := ba_of hcs
  subst e0
  clear hcs
  have HN := Lib.hid (show refN A rs = R by rw [← HX]; rfl)
  clear HX
  have hl0 : ¬ (rs.length : Int) = 0 := by have := List.length_pos_iff.2 hr0; omega
  have hl0' : ((rs.length : Int) == 0) = false := by simpa using hl0
  have hie : rs.isEmpty = false := by simpa using hr0
  have HN2 := Lib.hid (show (if isD (.mk t5 k5) ⟨#[43]⟩ = true then okA A (x2, false) else if isD (.mk t5 k5) ⟨#[45]⟩ = true then okA A (negS x2, false) else noneA) = R by rw [← HN.out, refN_no hie (by rw [hX]), hM, tailN_two, hX2])
  rw [hM] at hX hmz hml2 HT2
  have HXX := Lib.hid hX
  have HX2 := Lib.hid hX2
  have hmz5 : szL (x :: r5) ≤ 100000000 := by rw [szL] at hmz; omega
  have ht5z := trim_szL (x :: r5)
  have hml5 := szL_ge (trimS (x :: r5))
  have hml6 := szL_ge (x :: r5)
  obtain ⟨NN, hNN⟩ : ∃ NN, (x :: r5).length = NN := ⟨_, rfl⟩
  rw [hNN] at hml6
  have hlen : (.mk t5 k5 :: x :: r5 : List Nd).length = NN + 1 := by rw [← hNN]; rfl
  have hNN1 : 1 ≤ NN := by rw [← hNN]; simp
  have hlt2 : ¬ (NN : Int) + 1 < 2 := by omega
  clear HN hie hr0 hX hX2 hM
  have hk9' : (t5.kind != 9) = false := by rw [bne, hk9]; rfl
  have hpl' : (!(t5.text.toList == [43])) = false := by rw [hpl]; rfl
  have hmi : (t5.text.toList == [45]) = false := by rw [eq_of_beq hpl]; rfl
  have HF := Lib.hid (show noneA = R by rw [← HN2.out]; exact (isD_yes1 _ _ _ (isD_43 hk9 hpl)).symm)
  clear HN2 hk9
  conv => arg 2; whnf
  go_wp2_with fail
  (with_reducible refine HT2.out.mono ?_)
  rintro e w3 ⟨⟨v3, rfl, hv3⟩, rfl⟩
  obtain ⟨a3, c3, rfl, hvc⟩ := hv3.shape
  rw [hlen] at hv3 hvc ⊢
  obtain ⟨b5, off5, c5, u5, hq, hlc5, _, hbl5, hat5, hk5⟩ := hv3.at 0 (by rw [hlen]; omega); injection hq with e1 e2 e3; clear e2; subst e1; subst e3; have q50 := hat5.c0; have q51 := hat5.c1; simp only [List.getElem_cons_zero, Nd.tok, Nat.zero_mul, Nat.add_zero] at q50 q51; clear hat5 hk5
  have HV3 := Lib.hid hv3
  clear hv3
  go_wp2_with fail
  (with_reducible refine (refnum_any HV3.out true (by rw [hlen]; omega)).mono ?_)
  rintro e w4 ⟨rfl, hb4⟩
  rw [HXX.out]
  replace q50 := (hb4.cell (p := ⟨b5, off5, none⟩) hbl5).trans q50; replace q51 := (hb4.cell (p := ⟨b5, off5 + 1, none⟩) hbl5).trans q51
  have hr6 : RdN w4 P (.slice (some ⟨b5, off5 + 7, none⟩) NN (c3 - 1)) (x :: r5) := by
    have := (HV3.out.under hb4 (Nat.le_refl _)).drop 1 (by rw [hlen]; omega)
    simpa using this
  have hcc : ¬ c3 = 1 := by omega
  have hcc' : ¬ 1 = c3 := by omega
  have hbl6 : b5 < w4.heap.size := Nat.lt_of_lt_of_le hbl5 hb4.size
  have HT6 := Lib.hid (reftrim_any hr6 hmz5)
  clear hr6
  go_wp2_with fail
  (with_reducible refine HT6.out.mono ?_)
  rintro e w5 ⟨⟨v5, rfl, hv5⟩, rfl⟩
  obtain ⟨a6, c6, rfl, _⟩ := hv5.shape
  have HV5 := Lib.hid hv5
  clear hv5
  go_wp2_with fail
  (with_reducible refine (refnum_any HV5.out false (by omega)).mono ?_)
  rintro e w6 ⟨rfl, hb6⟩
  rw [HX2.out]
  replace q50 := (hb6.cell (p := ⟨b5, off5, none⟩) hbl6).trans q50
  replace q51 := (hb6.cell (p := ⟨b5, off5 + 1, none⟩) hbl6).trans q51
  go_wp2
  go_ret3
  exact ⟨by rw [← HF.out]; try rfl, below_seq HBW.out (below_seq hb4 hb6)⟩
set_option maxRecDepth 100000 in
set_option maxHeartbeats 3200000 in
theorem anbt_nmfalse {w0 w : World} {P : Nat → Prop} {U : ByteArray} {A : Int} {rs : List Nd} {R : Int × Int × Bool} {v : Value} {z0 z1 z2 z3 z4 z5 z6 z10 z11 z12 z13 z14 z15 z16 z17 z18 z19 z20 z21 z22 z23 z24 z25 z26 z27 z28 z29 z30 z31 z32 z33 z34 z35 z36 z37 z38 z39 z40 z41 z42 z43 z44 z45 z46 z47 z48 z49 z50 z51 z52 z53 z54 z55 z56 z57 z58 z59 z60 z61 z62 z63 z64 z65 z66 z67 z68 z69 z70 z71 z72 z73 z74 z75 z76 z77 z78 z79 z80 z81 z82 z83 z84 z85 z86 z87 z88 z89 z90 z91 z92 z93 z94 z95 z96 z97 z98 z99 z100 z101 z102 z103 z104 z105 z106 z107 z108 z109 z110 z111 z112 z113 z114 z115 z116 z117 z118 z119 z120 z121 z122 z123 z124 z125 z126 z127 z128 z129 z130 z131 z132 z133 z134 z135 z136 z137 z138 z139 z140 z141 z142 z143 z144 z145 z146 z147 z148 z149 z150 z151 z152 z153 z154 z155 z156 z157 z158 z159 z160 z161 z162 z163 z164 z165 z166 z167 z168 z169 z170 z171 z172 z173 z174 z175 z176 z177 z178 z179 z180 z181 z182 z183 z184 z185 z186 z187 z188 z189 z190 z191 z192 z193 z194 z195 z196 z197 z198 z199 z200 z201 z202 z203 z204 z205 z206 z207 z208 z209 z210 z211 z212 z213 z214 z215 z216 z217 z218 z219 z220 z221 z222 z223 z224 z225 z226 z227 z228 z229 z230 z231 z232 z233 z234 z235 z236 z237 z238 z239 z240 z241 z242 z243 z244 z245 z246 z247 : Value} (hrs : RdN w P v rs) (hrz : szL rs ≤ 100000000) (hUs : U.size ≤ 500000000) (HX : refT A U rs = R) (HB : Below w0.heap.size w0 w) (hcs : U.data.toList = [110]) (hr0 : ¬ rs = []) {t5 : Tok} {k5 r5 : List Nd} {x : Nd} (hM : trimS rs = .mk t5 k5 :: x :: r5) (hX : numA (trimS rs) true = (0, false)) {x2 : Int} (hX2 : numA (trimS (x :: r5)) false = (x2, false)) (hk9 : (t5.kind == 9) = true) (hpl : (t5.text.toList == [43]) = false) (hmi : (t5.text.toList == [45]) = true) :
    Code.wp Tryd.prog restCode (bodyPost Tryd.prog Tryd.f12 (AnbPost w0 R)) ⟨#[z0, z1, z2, z3, z4, z5, z6, .string U, .int .i64 A, v, z10, z11, z12, z13, z14, z15, z16, z17, z18, z19, z20, z21, z22, z23, z24, z25, z26, z27, z28, z29, z30, z31, z32, z33, z34, z35, z36, z37, z38, z39, z40, z41, z42, z43, z44, z45, z46, z47, z48, z49, z50, z51, z52, z53, z54, z55, z56, z57, z58, z59, z60, z61, z62, z63, z64, z65, z66, z67, z68, z69, z70, z71, z72, z73, z74, z75, z76, z77, z78, z79, z80, z81, z82, z83, z84, z85, z86, z87, z88, z89, z90, z91, z92, z93, z94, z95, z96, z97, z98, z99, z100, z101, z102, z103, z104, z105, z106, z107, z108, z109, z110, z111, z112, z113, z114, z115, z116, z117, z118, z119, z120, z121, z122, z123, z124, z125, z126, z127, z128, z129, z130, z131, z132, z133, z134, z135, z136, z137, z138, z139, z140, z141, z142, z143, z144, z145, z146, z147, z148, z149, z150, z151, z152, z153, z154, z155, z156, z157, z158, z159, z160, z161, z162, z163, z164, z165, z166, z167, z168, z169, z170, z171, z172, z173, z174, z175, z176, z177, z178, z179, z180, z181, z182, z183, z184, z185, z186, z187, z188, z189, z190, z191, z192, z193, z194, z195, z196, z197, z198, z199, z200, z201, z202, z203, z204, z205, z206, z207, z208, z209, z210, z211, z212, z213, z214, z215, z216, z217, z218, z219, z220, z221, z222, z223, z224, z225, z226, z227, z228, z229, z230, z231, z232, z233, z234, z235, z236, z237, z238, z239, z240, z241, z242, z243, z244, z245, z246, z247], []⟩ w := by
  have HBW := Lib.hid HB
  obtain ⟨ra', rc', rfl, hrlc⟩ := hrs.shape
  have HT2 := Lib.hid (reftrim_any hrs hrz)
  have hmz : szL (trimS rs) ≤ 100000000 := by have := trim_szL rs; omega
  have hml2 := szL_ge (trimS rs)
  clear hrs HB
  have e0 : U = ⟨#[110]⟩ := ba_of hcs
  subst e0
  clear hcs
  have HN := Lib.hid (show refN A rs = R by rw [← HX]; rfl)
  clear HX
  have hl0 : ¬ (rs.length : Int) = 0 := by have := List.length_pos_iff.2 hr0; omega
  have hl0' : ((rs.length : Int) == 0) = false := by simpa using hl0
  have hie : rs.isEmpty = false := by simpa using hr0
  have HN2 := Lib.hid (show (if isD (.mk t5 k5) ⟨#[43]⟩ = true then okA A (x2, false) else if isD (.mk t5 k5) ⟨#[45]⟩ = true then okA A (negS x2, false) else noneA) = R by rw [← HN.out, refN_no hie (by rw [hX]), hM, tailN_two, hX2])
  rw [hM] at hX hmz hml2 HT2
  have HXX := Lib.hid hX
  have HX2 := Lib.hid hX2
  have hmz5 : szL (x :: r5) ≤ 100000000 := by rw [szL] at hmz; omega
  have ht5z := trim_szL (x :: r5)
  have hml5 := szL_ge (trimS (x :: r5))
  have hml6 := szL_ge (x :: r5)
  obtain ⟨NN, hNN⟩ : ∃ NN, (x :: r5).length = NN := ⟨_, rfl⟩
  rw [hNN] at hml6
  have hlen : (.mk t5 k5 :: x :: r5 : List Nd).length = NN + 1 := by rw [← hNN]; rfl
  have hNN1 : 1 ≤ NN := by rw [← hNN]; simp
  have hlt2 : ¬ (NN : Int) + 1 < 2 := by omega
  clear HN hie hr0 hX hX2 hM
  have hk9' : (t5.kind != 9) = false := by rw [bne, hk9]; rfl
  have hpl' : (!(t5.text.toList == [43])) = true := by rw [hpl]; rfl
  have hmi' : (!(t5.text.toList == [45])) = false := by rw [hmi]; rfl
  have HF := Lib.hid (show noneA = R by rw [← HN2.out]; exact (isD_yes2 _ _ _ (isD_n43 hpl) (isD_45 hk9 hmi)).symm)
  clear HN2 hk9
  conv => arg 2; whnf
  go_wp2_with fail
  (with_reducible refine HT2.out.mono ?_)
  rintro e w3 ⟨⟨v3, rfl, hv3⟩, rfl⟩
  obtain ⟨a3, c3, rfl, hvc⟩ := hv3.shape
  rw [hlen] at hv3 hvc ⊢
  obtain ⟨b5, off5, c5, u5, hq, hlc5, _, hbl5, hat5, hk5⟩ := hv3.at 0 (by rw [hlen]; omega); injection hq with e1 e2 e3; clear e2; subst e1; subst e3; have q50 := hat5.c0; have q51 := hat5.c1; simp only [List.getElem_cons_zero, Nd.tok, Nat.zero_mul, Nat.add_zero] at q50 q51; clear hat5 hk5
  have HV3 := Lib.hid hv3
  clear hv3
  go_wp2_with fail
  (with_reducible refine (refnum_any HV3.out true (by rw [hlen]; omega)).mono ?_)
  rintro e w4 ⟨rfl, hb4⟩
  rw [HXX.out]
  replace q50 := (hb4.cell (p := ⟨b5, off5, none⟩) hbl5).trans q50; replace q51 := (hb4.cell (p := ⟨b5, off5 + 1, none⟩) hbl5).trans q51
  have hr6 : RdN w4 P (.slice (some ⟨b5, off5 + 7, none⟩) NN (c3 - 1)) (x :: r5) := by
    have := (HV3.out.under hb4 (Nat.le_refl _)).drop 1 (by rw [hlen]; omega)
    simpa using this
  have hcc : ¬ c3 = 1 := by omega
  have hcc' : ¬ 1 = c3 := by omega
  have hbl6 : b5 < w4.heap.size := Nat.lt_of_lt_of_le hbl5 hb4.size
  have HT6 := Lib.hid (reftrim_any hr6 hmz5)
  clear hr6
  go_wp2_with fail
  (with_reducible refine HT6.out.mono ?_)
  rintro e w5 ⟨⟨v5, rfl, hv5⟩, rfl⟩
  obtain ⟨a6, c6, rfl, _⟩ := hv5.shape
  have HV5 := Lib.hid hv5
  clear hv5
  go_wp2_with fail
  (with_reducible refine (refnum_any HV5.out false (by omega)).mono ?_)
  rintro e w6 ⟨rfl, hb6⟩
  rw [HX2.out]
  replace q50 := (hb6.cell (p := ⟨b5, off5, none⟩) hbl6).trans q50
  replace q51 := (hb6.cell (p := ⟨b5, off5 + 1, none⟩) hbl6).trans q51
  go_wp2
  go_ret3
  exact ⟨by rw [← HF.out]; try rfl, below_seq HBW.out (below_seq hb4 hb6)⟩
set_option maxRecDepth 100000 in
set_option maxHeartbeats 3200000 in
theorem anbt_dfalse {w0 w : World} {P : Nat → Prop} {U : ByteArray} {A : Int} {rs : List Nd} {R : Int × Int × Bool} {v : Value} {z0 z1 z2 z3 z4 z5 z6 z10 z11 z12 z13 z14 z15 z16 z17 z18 z19 z20 z21 z22 z23 z24 z25 z26 z27 z28 z29 z30 z31 z32 z33 z34 z35 z36 z37 z38 z39 z40 z41 z42 z43 z44 z45 z46 z47 z48 z49 z50 z51 z52 z53 z54 z55 z56 z57 z58 z59 z60 z61 z62 z63 z64 z65 z66 z67 z68 z69 z70 z71 z72 z73 z74 z75 z76 z77 z78 z79 z80 z81 z82 z83 z84 z85 z86 z87 z88 z89 z90 z91 z92 z93 z94 z95 z96 z97 z98 z99 z100 z101 z102 z103 z104 z105 z106 z107 z108 z109 z110 z111 z112 z113 z114 z115 z116 z117 z118 z119 z120 z121 z122 z123 z124 z125 z126 z127 z128 z129 z130 z131 z132 z133 z134 z135 z136 z137 z138 z139 z140 z141 z142 z143 z144 z145 z146 z147 z148 z149 z150 z151 z152 z153 z154 z155 z156 z157 z158 z159 z160 z161 z162 z163 z164 z165 z166 z167 z168 z169 z170 z171 z172 z173 z174 z175 z176 z177 z178 z179 z180 z181 z182 z183 z184 z185 z186 z187 z188 z189 z190 z191 z192 z193 z194 z195 z196 z197 z198 z199 z200 z201 z202 z203 z204 z205 z206 z207 z208 z209 z210 z211 z212 z213 z214 z215 z216 z217 z218 z219 z220 z221 z222 z223 z224 z225 z226 z227 z228 z229 z230 z231 z232 z233 z234 z235 z236 z237 z238 z239 z240 z241 z242 z243 z244 z245 z246 z247 : Value} (hrs : RdN w P v rs) (hrz : szL rs ≤ 100000000) (hUs : U.size ≤ 500000000) (HX : refT A U rs = R) (HB : Below w0.heap.size w0 w) (hcs : U.data.toList = [110, 45]) {x1 : Int} (hX : numA (trimS rs) false = (x1, false)) :
    Code.wp Tryd.prog restCode (bodyPost Tryd.prog Tryd.f12 (AnbPost w0 R)) ⟨#[z0, z1, z2, z3, z4, z5, z6, .string U, .int .i64 A, v, z10, z11, z12, z13, z14, z15, z16, z17, z18, z19, z20, z21, z22, z23, z24, z25, z26, z27, z28, z29, z30, z31, z32, z33, z34, z35, z36, z37, z38, z39, z40, z41, z42, z43, z44, z45, z46, z47, z48, z49, z50, z51, z52, z53, z54, z55, z56, z57, z58, z59, z60, z61, z62, z63, z64, z65, z66, z67, z68, z69, z70, z71, z72, z73, z74, z75, z76, z77, z78, z79, z80, z81, z82, z83, z84, z85, z86, z87, z88, z89, z90, z91, z92, z93, z94, z95, z96, z97, z98, z99, z100, z101, z102, z103, z104, z105, z106, z107, z108, z109, z110, z111, z112, z113, z114, z115, z116, z117, z118, z119, z120, z121, z122, z123, z124, z125, z126, z127, z128, z129, z130, z131, z132, z133, z134, z135, z136, z137, z138, z139, z140, z141, z142, z143, z144, z145, z146, z147, z148, z149, z150, z151, z152, z153, z154, z155, z156, z157, z158, z159, z160, z161, z162, z163, z164, z165, z166, z167, z168, z169, z170, z171, z172, z173, z174, z175, z176, z177, z178, z179, z180, z181, z182, z183, z184, z185, z186, z187, z188, z189, z190, z191, z192, z193, z194, z195, z196, z197, z198, z199, z200, z201, z202, z203, z204, z205, z206, z207, z208, z209, z210, z211, z212, z213, z214, z215, z216, z217, z218, z219, z220, z221, z222, z223, z224, z225, z226, z227, z228, z229, z230, z231, z232, z233, z234, z235, z236, z237, z238, z239, z240, z241, z242, z243, z244, z245, z246, z247], []⟩ w := by
  have HBW := Lib.hid HB
  obtain ⟨ra', rc', rfl, hrlc⟩ := hrs.shape
  have HT2 := Lib.hid (reftrim_any hrs hrz)
  have hmz : szL (trimS rs) ≤ 100000000 := by have := trim_szL rs; omega
  have hml2 := szL_ge (trimS rs)
  clear hrs HB
  have e0 : U = ⟨#[110, 45]⟩ := ba_of hcs
  subst e0
  clear hcs
  have HXX := Lib.hid hX
  have HF := Lib.hid (show noneA = R by rw [← HX]; show _ = okA A (negS (numA (trimS rs) false).1, (numA (trimS rs) false).2); rw [hX]; rfl)
  clear HX hX
  generalize trimS rs = M at *
  conv => arg 2; whnf
  go_wp2_with (first | (go_at_call 49; (with_reducible refine HT2.out.mono ?_); rintro e w3 ⟨⟨v3, rfl, hv3⟩, rfl⟩; obtain ⟨a3, c3, rfl, _⟩ := hv3.shape; have HV3 := Lib.hid hv3; clear hv3) | (go_at_call 51; (with_reducible refine (refnum_any HV3.out false (by omega)).mono ?_); rintro e w4 ⟨rfl, hb4⟩; rw [HXX.out]))
  go_ret3
  exact ⟨by rw [← HF.out]; try rfl, below_seq HBW.out hb4⟩
set_option maxRecDepth 100000 in
set_option maxHeartbeats 3200000 in
theorem anbt_dr {w0 w : World} {P : Nat → Prop} {U : ByteArray} {A : Int} {rs : List Nd} {R : Int × Int × Bool} {v : Value} {z0 z1 z2 z3 z4 z5 z6 z10 z11 z12 z13 z14 z15 z16 z17 z18 z19 z20 z21 z22 z23 z24 z25 z26 z27 z28 z29 z30 z31 z32 z33 z34 z35 z36 z37 z38 z39 z40 z41 z42 z43 z44 z45 z46 z47 z48 z49 z50 z51 z52 z53 z54 z55 z56 z57 z58 z59 z60 z61 z62 z63 z64 z65 z66 z67 z68 z69 z70 z71 z72 z73 z74 z75 z76 z77 z78 z79 z80 z81 z82 z83 z84 z85 z86 z87 z88 z89 z90 z91 z92 z93 z94 z95 z96 z97 z98 z99 z100 z101 z102 z103 z104 z105 z106 z107 z108 z109 z110 z111 z112 z113 z114 z115 z116 z117 z118 z119 z120 z121 z122 z123 z124 z125 z126 z127 z128 z129 z130 z131 z132 z133 z134 z135 z136 z137 z138 z139 z140 z141 z142 z143 z144 z145 z146 z147 z148 z149 z150 z151 z152 z153 z154 z155 z156 z157 z158 z159 z160 z161 z162 z163 z164 z165 z166 z167 z168 z169 z170 z171 z172 z173 z174 z175 z176 z177 z178 z179 z180 z181 z182 z183 z184 z185 z186 z187 z188 z189 z190 z191 z192 z193 z194 z195 z196 z197 z198 z199 z200 z201 z202 z203 z204 z205 z206 z207 z208 z209 z210 z211 z212 z213 z214 z215 z216 z217 z218 z219 z220 z221 z222 z223 z224 z225 z226 z227 z228 z229 z230 z231 z232 z233 z234 z235 z236 z237 z238 z239 z240 z241 z242 z243 z244 z245 z246 z247 : Value} (hrs : RdN w P v rs) (hrz : szL rs ≤ 100000000) (hUs : U.size ≤ 500000000) (HX : refT A U rs = R) (HB : Below w0.heap.size w0 w) {c2 : UInt8} {D : List UInt8} (hcs : U.data.toList = 110 :: c2 :: D) (h2 : ¬ (c2 = 45 ∧ D = [])) (hr0 : ¬ rs = []) :
    Code.wp Tryd.prog restCode (bodyPost Tryd.prog Tryd.f12 (AnbPost w0 R)) ⟨#[z0, z1, z2, z3, z4, z5, z6, .string U, .int .i64 A, v, z10, z11, z12, z13, z14, z15, z16, z17, z18, z19, z20, z21, z22, z23, z24, z25, z26, z27, z28, z29, z30, z31, z32, z33, z34, z35, z36, z37, z38, z39, z40, z41, z42, z43, z44, z45, z46, z47, z48, z49, z50, z51, z52, z53, z54, z55, z56, z57, z58, z59, z60, z61, z62, z63, z64, z65, z66, z67, z68, z69, z70, z71, z72, z73, z74, z75, z76, z77, z78, z79, z80, z81, z82, z83, z84, z85, z86, z87, z88, z89, z90, z91, z92, z93, z94, z95, z96, z97, z98, z99, z100, z101, z102, z103, z104, z105, z106, z107, z108, z109, z110, z111, z112, z113, z114, z115, z116, z117, z118, z119, z120, z121, z122, z123, z124, z125, z126, z127, z128, z129, z130, z131, z132, z133, z134, z135, z136, z137, z138, z139, z140, z141, z142, z143, z144, z145, z146, z147, z148, z149, z150, z151, z152, z153, z154, z155, z156, z157, z158, z159, z160, z161, z162, z163, z164, z165, z166, z167, z168, z169, z170, z171, z172, z173, z174, z175, z176, z177, z178, z179, z180, z181, z182, z183, z184, z185, z186, z187, z188, z189, z190, z191, z192, z193, z194, z195, z196, z197, z198, z199, z200, z201, z202, z203, z204, z205, z206, z207, z208, z209, z210, z211, z212, z213, z214, z215, z216, z217, z218, z219, z220, z221, z222, z223, z224, z225, z226, z227, z228, z229, z230, z231, z232, z233, z234, z235, z236, z237, z238, z239, z240, z241, z242, z243, z244, z245, z246, z247], []⟩ w := by
  have HBW := Lib.hid HB
  obtain ⟨ra', rc', rfl, hrlc⟩ := hrs.shape
  have HT2 := Lib.hid (reftrim_any hrs hrz)
  have hmz : szL (trimS rs) ≤ 100000000 := by have := trim_szL rs; omega
  have hml2 := szL_ge (trimS rs)
  clear hrs HB
  have hUz : U.size = D.length + 2 := by rw [← ba_len, hcs]; rfl
  have hp0 : 0 < U.size := by omega
  have hz0 : ¬ (U.size : Int) = 0 := by omega
  have hz0' : ((U.size : Int) == 0) = false := by simpa using hz0
  have hc0 : U[0]'hp0 = 110 := ba_at hcs (by rfl)
  have h0 : (((U[0]'hp0).toNat : Int) != 110) = false := by rw [hc0]; rfl
  have hp1 : 1 < U.size := by omega
  have hc1 : U[1]'hp1 = c2 := ba_at hcs (by rfl)
  have hU110 : (U.toList == [110]) = false := by rw [toList_data, hcs]; rfl
  have hU45 : (U.toList == [110, 45]) = false := by
    rw [toList_data, hcs, beq_eq_false_iff_ne]
    intro h
    injection h with _ h
    injection h with h5 h6
    exact h2 ⟨h5, h6⟩
  have HX3 := Lib.hid (show (if ¬ rs.isEmpty ∨ c2 ≠ 45 then noneA else if D.all (fun b => sDigit (b.toNat : Int)) then (A, intV (45 :: D.map fun b => (b.toNat : Int)), true) else noneA) = R by
    rw [← HX]; unfold refT; rw [hcs]; simp only; rw [if_neg (show ¬ ((110 : UInt8) ≠ 110) by decide), if_neg h2])
  clear HX
  have hl0 : (0 : Int) < (rs.length : Int) := by have := List.length_pos_iff.2 hr0; omega
  have hl1 : 0 < rs.length := List.length_pos_iff.2 hr0
  have HF := Lib.hid (show noneA = R by rw [← HX3.out, if_pos (.inl (by simpa using hr0))])
  clear HX3 hr0 h2 hcs hc0 hc1 hUz
  conv => arg 2; whnf
  go_wp2_with (go_at_call 49; (with_reducible refine HT2.out.mono ?_); rintro e w3 ⟨⟨v3, rfl, hv3⟩, rfl⟩; obtain ⟨a3, c3, rfl, _⟩ := hv3.shape; clear hv3)
  go_ret3
  exact ⟨by rw [← HF.out]; try rfl, HBW.out⟩
set_option maxRecDepth 100000 in
set_option maxHeartbeats 3200000 in
theorem anbt_dn {w0 w : World} {P : Nat → Prop} {U : ByteArray} {A : Int} {rs : List Nd} {R : Int × Int × Bool} {v : Value} {z0 z1 z2 z3 z4 z5 z6 z10 z11 z12 z13 z14 z15 z16 z17 z18 z19 z20 z21 z22 z23 z24 z25 z26 z27 z28 z29 z30 z31 z32 z33 z34 z35 z36 z37 z38 z39 z40 z41 z42 z43 z44 z45 z46 z47 z48 z49 z50 z51 z52 z53 z54 z55 z56 z57 z58 z59 z60 z61 z62 z63 z64 z65 z66 z67 z68 z69 z70 z71 z72 z73 z74 z75 z76 z77 z78 z79 z80 z81 z82 z83 z84 z85 z86 z87 z88 z89 z90 z91 z92 z93 z94 z95 z96 z97 z98 z99 z100 z101 z102 z103 z104 z105 z106 z107 z108 z109 z110 z111 z112 z113 z114 z115 z116 z117 z118 z119 z120 z121 z122 z123 z124 z125 z126 z127 z128 z129 z130 z131 z132 z133 z134 z135 z136 z137 z138 z139 z140 z141 z142 z143 z144 z145 z146 z147 z148 z149 z150 z151 z152 z153 z154 z155 z156 z157 z158 z159 z160 z161 z162 z163 z164 z165 z166 z167 z168 z169 z170 z171 z172 z173 z174 z175 z176 z177 z178 z179 z180 z181 z182 z183 z184 z185 z186 z187 z188 z189 z190 z191 z192 z193 z194 z195 z196 z197 z198 z199 z200 z201 z202 z203 z204 z205 z206 z207 z208 z209 z210 z211 z212 z213 z214 z215 z216 z217 z218 z219 z220 z221 z222 z223 z224 z225 z226 z227 z228 z229 z230 z231 z232 z233 z234 z235 z236 z237 z238 z239 z240 z241 z242 z243 z244 z245 z246 z247 : Value} (hrs : RdN w P v rs) (hrz : szL rs ≤ 100000000) (hUs : U.size ≤ 500000000) (HX : refT A U rs = R) (HB : Below w0.heap.size w0 w) {c2 : UInt8} {D : List UInt8} (hcs : U.data.toList = 110 :: c2 :: D) (h2 : ¬ (c2 = 45 ∧ D = [])) (hr0 : rs = []) (hc2 : ¬ c2 = 45) :
    Code.wp Tryd.prog restCode (bodyPost Tryd.prog Tryd.f12 (AnbPost w0 R)) ⟨#[z0, z1, z2, z3, z4, z5, z6, .string U, .int .i64 A, v, z10, z11, z12, z13, z14, z15, z16, z17, z18, z19, z20, z21, z22, z23, z24, z25, z26, z27, z28, z29, z30, z31, z32, z33, z34, z35, z36, z37, z38, z39, z40, z41, z42, z43, z44, z45, z46, z47, z48, z49, z50, z51, z52, z53, z54, z55, z56, z57, z58, z59, z60, z61, z62, z63, z64, z65, z66, z67, z68, z69, z70, z71, z72, z73, z74, z75, z76, z77, z78, z79, z80, z81, z82, z83, z84, z85, z86, z87, z88, z89, z90, z91, z92, z93, z94, z95, z96, z97, z98, z99, z100, z101, z102, z103, z104, z105, z106, z107, z108, z109, z110, z111, z112, z113, z114, z115, z116, z117, z118, z119, z120, z121, z122, z123, z124, z125, z126, z127, z128, z129, z130, z131, z132, z133, z134, z135, z136, z137, z138, z139, z140, z141, z142, z143, z144, z145, z146, z147, z148, z149, z150, z151, z152, z153, z154, z155, z156, z157, z158, z159, z160, z161, z162, z163, z164, z165, z166, z167, z168, z169, z170, z171, z172, z173, z174, z175, z176, z177, z178, z179, z180, z181, z182, z183, z184, z185, z186, z187, z188, z189, z190, z191, z192, z193, z194, z195, z196, z197, z198, z199, z200, z201, z202, z203, z204, z205, z206, z207, z208, z209, z210, z211, z212, z213, z214, z215, z216, z217, z218, z219, z220, z221, z222, z223, z224, z225, z226, z227, z228, z229, z230, z231, z232, z233, z234, z235, z236, z237, z238, z239, z240, z241, z242, z243, z244, z245, z246, z247], []⟩ w := by
  have HBW := Lib.hid HB
  obtain ⟨ra', rc', rfl, hrlc⟩ := hrs.shape
  have HT2 := Lib.hid (reftrim_any hrs hrz)
  have hmz : szL (trimS rs) ≤ 100000000 := by have := trim_szL rs; omega
  have hml2 := szL_ge (trimS rs)
  clear hrs HB
  have hUz : U.size = D.length + 2 := by rw [← ba_len, hcs]; rfl
  have hp0 : 0 < U.size := by omega
  have hz0 : ¬ (U.size : Int) = 0 := by omega
  have hz0' : ((U.size : Int) == 0) = false := by simpa using hz0
  have hc0 : U[0]'hp0 = 110 := ba_at hcs (by rfl)
  have h0 : (((U[0]'hp0).toNat : Int) != 110) = false := by rw [hc0]; rfl
  have hp1 : 1 < U.size := by omega
  have hc1 : U[1]'hp1 = c2 := ba_at hcs (by rfl)
  have hU110 : (U.toList == [110]) = false := by rw [toList_data, hcs]; rfl
  have hU45 : (U.toList == [110, 45]) = false := by
    rw [toList_data, hcs, beq_eq_false_iff_ne]
    intro h
    injection h with _ h
    injection h with h5 h6
    exact h2 ⟨h5, h6⟩
  have HX3 := Lib.hid (show (if ¬ rs.isEmpty ∨ c2 ≠ 45 then noneA else if D.all (fun b => sDigit (b.toNat : Int)) then (A, intV (45 :: D.map fun b => (b.toNat : Int)), true) else noneA) = R by
    rw [← HX]; unfold refT; rw [hcs]; simp only; rw [if_neg (show ¬ ((110 : UInt8) ≠ 110) by decide), if_neg h2])
  clear HX
  subst hr0
  rw [show ([] : List Nd).length = 0 from rfl] at HT2 ⊢
  have h1 : (((U[1]'hp1).toNat : Int) != 45) = true := by rw [hc1]; exact u8_ne hc2
  have HF := Lib.hid (show noneA = R by rw [← HX3.out, if_pos (.inr hc2)])
  clear HX3 h2 hcs hc0 hc1 hUz
  conv => arg 2; whnf
  go_wp2_with (go_at_call 49; (with_reducible refine HT2.out.mono ?_); rintro e w3 ⟨⟨v3, rfl, hv3⟩, rfl⟩; obtain ⟨a3, c3, rfl, _⟩ := hv3.shape; clear hv3)
  go_ret3
  exact ⟨by rw [← HF.out]; try rfl, HBW.out⟩
set_option maxRecDepth 100000 in
set_option maxHeartbeats 3200000 in
theorem anbt_dg {w0 w : World} {P : Nat → Prop} {U : ByteArray} {A : Int} {rs : List Nd} {R : Int × Int × Bool} {v : Value} {z0 z1 z2 z3 z4 z5 z6 z10 z11 z12 z13 z14 z15 z16 z17 z18 z19 z20 z21 z22 z23 z24 z25 z26 z27 z28 z29 z30 z31 z32 z33 z34 z35 z36 z37 z38 z39 z40 z41 z42 z43 z44 z45 z46 z47 z48 z49 z50 z51 z52 z53 z54 z55 z56 z57 z58 z59 z60 z61 z62 z63 z64 z65 z66 z67 z68 z69 z70 z71 z72 z73 z74 z75 z76 z77 z78 z79 z80 z81 z82 z83 z84 z85 z86 z87 z88 z89 z90 z91 z92 z93 z94 z95 z96 z97 z98 z99 z100 z101 z102 z103 z104 z105 z106 z107 z108 z109 z110 z111 z112 z113 z114 z115 z116 z117 z118 z119 z120 z121 z122 z123 z124 z125 z126 z127 z128 z129 z130 z131 z132 z133 z134 z135 z136 z137 z138 z139 z140 z141 z142 z143 z144 z145 z146 z147 z148 z149 z150 z151 z152 z153 z154 z155 z156 z157 z158 z159 z160 z161 z162 z163 z164 z165 z166 z167 z168 z169 z170 z171 z172 z173 z174 z175 z176 z177 z178 z179 z180 z181 z182 z183 z184 z185 z186 z187 z188 z189 z190 z191 z192 z193 z194 z195 z196 z197 z198 z199 z200 z201 z202 z203 z204 z205 z206 z207 z208 z209 z210 z211 z212 z213 z214 z215 z216 z217 z218 z219 z220 z221 z222 z223 z224 z225 z226 z227 z228 z229 z230 z231 z232 z233 z234 z235 z236 z237 z238 z239 z240 z241 z242 z243 z244 z245 z246 z247 : Value} (hrs : RdN w P v rs) (hrz : szL rs ≤ 100000000) (hUs : U.size ≤ 500000000) (HX : refT A U rs = R) (HB : Below w0.heap.size w0 w) {c2 : UInt8} {D : List UInt8} (hcs : U.data.toList = 110 :: c2 :: D) (h2 : ¬ (c2 = 45 ∧ D = [])) (hr0 : rs = []) (hc2 : c2 = 45) :
    Code.wp Tryd.prog restCode (bodyPost Tryd.prog Tryd.f12 (AnbPost w0 R)) ⟨#[z0, z1, z2, z3, z4, z5, z6, .string U, .int .i64 A, v, z10, z11, z12, z13, z14, z15, z16, z17, z18, z19, z20, z21, z22, z23, z24, z25, z26, z27, z28, z29, z30, z31, z32, z33, z34, z35, z36, z37, z38, z39, z40, z41, z42, z43, z44, z45, z46, z47, z48, z49, z50, z51, z52, z53, z54, z55, z56, z57, z58, z59, z60, z61, z62, z63, z64, z65, z66, z67, z68, z69, z70, z71, z72, z73, z74, z75, z76, z77, z78, z79, z80, z81, z82, z83, z84, z85, z86, z87, z88, z89, z90, z91, z92, z93, z94, z95, z96, z97, z98, z99, z100, z101, z102, z103, z104, z105, z106, z107, z108, z109, z110, z111, z112, z113, z114, z115, z116, z117, z118, z119, z120, z121, z122, z123, z124, z125, z126, z127, z128, z129, z130, z131, z132, z133, z134, z135, z136, z137, z138, z139, z140, z141, z142, z143, z144, z145, z146, z147, z148, z149, z150, z151, z152, z153, z154, z155, z156, z157, z158, z159, z160, z161, z162, z163, z164, z165, z166, z167, z168, z169, z170, z171, z172, z173, z174, z175, z176, z177, z178, z179, z180, z181, z182, z183, z184, z185, z186, z187, z188, z189, z190, z191, z192, z193, z194, z195, z196, z197, z198, z199, z200, z201, z202, z203, z204, z205, z206, z207, z208, z209, z210, z211, z212, z213, z214, z215, z216, z217, z218, z219, z220, z221, z222, z223, z224, z225, z226, z227, z228, z229, z230, z231, z232, z233, z234, z235, z236, z237, z238, z239, z240, z241, z242, z243, z244, z245, z246, z247], []⟩ w := by
  have HBW := Lib.hid HB
  obtain ⟨ra', rc', rfl, hrlc⟩ := hrs.shape
  have HT2 := Lib.hid (reftrim_any hrs hrz)
  have hmz : szL (trimS rs) ≤ 100000000 := by have := trim_szL rs; omega
  have hml2 := szL_ge (trimS rs)
  clear hrs HB
  have hUz : U.size = D.length + 2 := by rw [← ba_len, hcs]; rfl
  have hp0 : 0 < U.size := by omega
  have hz0 : ¬ (U.size : Int) = 0 := by omega
  have hz0' : ((U.size : Int) == 0) = false := by simpa using hz0
  have hc0 : U[0]'hp0 = 110 := ba_at hcs (by rfl)
  have h0 : (((U[0]'hp0).toNat : Int) != 110) = false := by rw [hc0]; rfl
  have hp1 : 1 < U.size := by omega
  have hc1 : U[1]'hp1 = c2 := ba_at hcs (by rfl)
  have hU110 : (U.toList == [110]) = false := by rw [toList_data, hcs]; rfl
  have hU45 : (U.toList == [110, 45]) = false := by
    rw [toList_data, hcs, beq_eq_false_iff_ne]
    intro h
    injection h with _ h
    injection h with h5 h6
    exact h2 ⟨h5, h6⟩
  have HX3 := Lib.hid (show (if ¬ rs.isEmpty ∨ c2 ≠ 45 then noneA else if D.all (fun b => sDigit (b.toNat : Int)) then (A, intV (45 :: D.map fun b => (b.toNat : Int)), true) else noneA) = R by
    rw [← HX]; unfold refT; rw [hcs]; simp only; rw [if_neg (show ¬ ((110 : UInt8) ≠ 110) by decide), if_neg h2])
  clear HX
  subst hr0
  rw [show ([] : List Nd).length = 0 from rfl] at HT2 ⊢
  subst hc2
  have h1 : (((U[1]'hp1).toNat : Int) != 45) = false := by rw [hc1]; rfl
  have HX4 := Lib.hid (show (if D.all (fun b => sDigit (b.toNat : Int)) then (A, intV (45 :: D.map fun b => (b.toNat : Int)), true) else noneA) = R by rw [← HX3.out]; exact (if_neg (fun h => h.elim (fun h => h rfl) (fun h => h rfl))).symm)
  have HCS := Lib.hid hcs
  have HUZ := Lib.hid hUz
  have hxs : (U.extract 1 U.size).size ≤ 1000000000 := by rw [ByteArray.size_extract]; omega
  clear HX3 h2 hcs hc0 hc1 hUz
  conv => arg 2; whnf
  go_wp2_with (first | (go_at_call 49; (with_reducible refine HT2.out.mono ?_); rintro e w3 ⟨⟨v3, rfl, hv3⟩, rfl⟩; obtain ⟨a3, c3, rfl, _⟩ := hv3.shape; clear hv3))
  go_loop [15] (fun iv => ∃ i : Nat, iv = .int .i64 i ∧ 2 ≤ i ∧ i ≤ U.size ∧ ∀ j, (hj : j < U.size) → 2 ≤ j → j < i → sDigit ((U[j]'hj).toNat : Int) = true) (fun iv => U.size - (intOf iv).toNat)
  case atStart => exact ⟨2, rfl, Nat.le_refl _, by omega, fun j hj h2 h => absurd h (by omega)⟩
  case round =>
    obtain ⟨i, rfl, hi2, hiu, hall⟩ := hrel
    have HALL := Lib.hid hall
    clear hall
    by_cases hlt : i < U.size
    · by_cases hd : sDigit ((U[i]'hlt).toNat : Int) = true
      · have hd1 : ¬ ((U[i]'hlt).toNat : Int) < 48 := by unfold sDigit at hd; have := of_decide_eq_true hd; omega
        have hd2 : ¬ 57 < ((U[i]'hlt).toNat : Int) := by unfold sDigit at hd; have := of_decide_eq_true hd; omega
        have HD := Lib.hid (show ∀ j, (hj : j < U.size) → 2 ≤ j → j < i + 1 → sDigit ((U[j]'hj).toNat : Int) = true from fun j hj h2 h => by
          by_cases e : j = i
          · subst e; exact hd
          · exact HALL.out j hj h2 (by omega))
        have hltI : (i : Int) < (U.size : Int) := by omega
        clear hd
        go_wp2
        go_round
        case rel => exact ⟨i + 1, by go_num, by omega, by omega, HD.out⟩
        case measure => simp [intOf]; omega
      · have hd : sDigit ((U[i]'hlt).toNat : Int) = false := by simpa using hd
        have HF := Lib.hid (show noneA = R by rw [← HX4.out, if_neg (by rw [tail_bad HCS.out hi2 hlt hd]; decide)])
        have hltI : (i : Int) < (U.size : Int) := by omega
        by_cases hd1 : ((U[i]'hlt).toNat : Int) < 48
        · clear hd HX4
          go_wp2
          go_ret3
          exact ⟨by rw [← HF.out]; try rfl, HBW.out⟩
        · have hd2 : 57 < ((U[i]'hlt).toNat : Int) := by unfold sDigit at hd; have := of_decide_eq_false hd; omega
          clear hd HX4
          go_wp2
          go_ret3
          exact ⟨by rw [← HF.out]; try rfl, HBW.out⟩
    · have hltI : ¬ (i : Int) < (U.size : Int) := by omega
      have HF := Lib.hid (show (A, intV (nums (U.extract 1 U.size)), true) = R by rw [← HX4.out, if_pos (tail_good HCS.out fun j hj h2 => HALL.out j hj h2 (by omega)), tail_nums HCS.out]; rfl)
      clear HX4
      go_wp2_with (go_at_call 52; (with_reducible refine (refint_any _ _ hxs).mono ?_); rintro e w4 ⟨rfl, rfl⟩)
      go_ret3
      exact ⟨by rw [← HF.out]; try rfl, HBW.out⟩
set_option maxRecDepth 100000 in
set_option maxHeartbeats 3200000 in
theorem anbt {w0 w : World} {P : Nat → Prop} {U : ByteArray} {A : Int} {rs : List Nd} {R : Int × Int × Bool} {v : Value} {z0 z1 z2 z3 z4 z5 z6 z10 z11 z12 z13 z14 z15 z16 z17 z18 z19 z20 z21 z22 z23 z24 z25 z26 z27 z28 z29 z30 z31 z32 z33 z34 z35 z36 z37 z38 z39 z40 z41 z42 z43 z44 z45 z46 z47 z48 z49 z50 z51 z52 z53 z54 z55 z56 z57 z58 z59 z60 z61 z62 z63 z64 z65 z66 z67 z68 z69 z70 z71 z72 z73 z74 z75 z76 z77 z78 z79 z80 z81 z82 z83 z84 z85 z86 z87 z88 z89 z90 z91 z92 z93 z94 z95 z96 z97 z98 z99 z100 z101 z102 z103 z104 z105 z106 z107 z108 z109 z110 z111 z112 z113 z114 z115 z116 z117 z118 z119 z120 z121 z122 z123 z124 z125 z126 z127 z128 z129 z130 z131 z132 z133 z134 z135 z136 z137 z138 z139 z140 z141 z142 z143 z144 z145 z146 z147 z148 z149 z150 z151 z152 z153 z154 z155 z156 z157 z158 z159 z160 z161 z162 z163 z164 z165 z166 z167 z168 z169 z170 z171 z172 z173 z174 z175 z176 z177 z178 z179 z180 z181 z182 z183 z184 z185 z186 z187 z188 z189 z190 z191 z192 z193 z194 z195 z196 z197 z198 z199 z200 z201 z202 z203 z204 z205 z206 z207 z208 z209 z210 z211 z212 z213 z214 z215 z216 z217 z218 z219 z220 z221 z222 z223 z224 z225 z226 z227 z228 z229 z230 z231 z232 z233 z234 z235 z236 z237 z238 z239 z240 z241 z242 z243 z244 z245 z246 z247 : Value} (hrs : RdN w P v rs) (hrz : szL rs ≤ 100000000) (hUs : U.size ≤ 500000000) (HX : refT A U rs = R) (HB : Below w0.heap.size w0 w) :
    Code.wp Tryd.prog restCode (bodyPost Tryd.prog Tryd.f12 (AnbPost w0 R)) ⟨#[z0, z1, z2, z3, z4, z5, z6, .string U, .int .i64 A, v, z10, z11, z12, z13, z14, z15, z16, z17, z18, z19, z20, z21, z22, z23, z24, z25, z26, z27, z28, z29, z30, z31, z32, z33, z34, z35, z36, z37, z38, z39, z40, z41, z42, z43, z44, z45, z46, z47, z48, z49, z50, z51, z52, z53, z54, z55, z56, z57, z58, z59, z60, z61, z62, z63, z64, z65, z66, z67, z68, z69, z70, z71, z72, z73, z74, z75, z76, z77, z78, z79, z80, z81, z82, z83, z84, z85, z86, z87, z88, z89, z90, z91, z92, z93, z94, z95, z96, z97, z98, z99, z100, z101, z102, z103, z104, z105, z106, z107, z108, z109, z110, z111, z112, z113, z114, z115, z116, z117, z118, z119, z120, z121, z122, z123, z124, z125, z126, z127, z128, z129, z130, z131, z132, z133, z134, z135, z136, z137, z138, z139, z140, z141, z142, z143, z144, z145, z146, z147, z148, z149, z150, z151, z152, z153, z154, z155, z156, z157, z158, z159, z160, z161, z162, z163, z164, z165, z166, z167, z168, z169, z170, z171, z172, z173, z174, z175, z176, z177, z178, z179, z180, z181, z182, z183, z184, z185, z186, z187, z188, z189, z190, z191, z192, z193, z194, z195, z196, z197, z198, z199, z200, z201, z202, z203, z204, z205, z206, z207, z208, z209, z210, z211, z212, z213, z214, z215, z216, z217, z218, z219, z220, z221, z222, z223, z224, z225, z226, z227, z228, z229, z230, z231, z232, z233, z234, z235, z236, z237, z238, z239, z240, z241, z242, z243, z244, z245, z246, z247], []⟩ w := by
  cases hcs : U.data.toList with
  | nil => exact anbt_nil hrs hrz hUs HX HB hcs
  | cons c tl =>
  by_cases hc : c = 110
  case neg => exact anbt_odd hrs hrz hUs HX HB hcs hc
  subst hc
  cases tl with
  | nil =>
    by_cases hr0 : rs = []
    · exact anbt_n0 hrs hrz hUs HX HB hcs hr0
    obtain ⟨x1, y1, hX⟩ : ∃ p q, numA (trimS rs) true = (p, q) := ⟨_, _, rfl⟩
    cases y1 with
    | true => exact anbt_n1 hrs hrz hUs HX HB hcs hr0 hX
    | false =>
      have hx0 : x1 = 0 := by have := numA_no (l := trimS rs) (sg := true) (by rw [hX]); rw [hX] at this; exact this
      subst hx0
      cases hM : trimS rs with
      | nil => exact anbt_ne hrs hrz hUs HX HB hcs hr0 hM hX
      | cons d m =>
        cases m with
        | nil => exact anbt_n1x hrs hrz hUs HX HB hcs hr0 hM hX
        | cons x r5 =>
          obtain ⟨t5, k5⟩ := d
          obtain ⟨x2, y2, hX2⟩ : ∃ p q, numA (trimS (x :: r5)) false = (p, q) := ⟨_, _, rfl⟩
          by_cases hk9 : (t5.kind == 9) = true
          case neg => exact anbt_nk hrs hrz hUs HX HB hcs hr0 hM hX hX2 hk9
          by_cases hpl : (t5.text.toList == [43]) = true
          · cases y2 with
            | true => exact anbt_nptrue hrs hrz hUs HX HB hcs hr0 hM hX hX2 hk9 hpl
            | false => exact anbt_npfalse hrs hrz hUs HX HB hcs hr0 hM hX hX2 hk9 hpl
          have hpl : (t5.text.toList == [43]) = false := by simpa using hpl
          by_cases hmi : (t5.text.toList == [45]) = true
          · cases y2 with
            | true => exact anbt_nmtrue hrs hrz hUs HX HB hcs hr0 hM hX hX2 hk9 hpl hmi
            | false => exact anbt_nmfalse hrs hrz hUs HX HB hcs hr0 hM hX hX2 hk9 hpl hmi
          have hmi : (t5.text.toList == [45]) = false := by simpa using hmi
          exact anbt_nn hrs hrz hUs HX HB hcs hr0 hM hX hX2 hk9 hpl hmi
  | cons c2 D =>
  by_cases h2 : c2 = 45 ∧ D = []
  · obtain ⟨rfl, rfl⟩ := h2
    obtain ⟨x1, y1, hX⟩ : ∃ p q, numA (trimS rs) false = (p, q) := ⟨_, _, rfl⟩
    cases y1 with
    | true => exact anbt_dtrue hrs hrz hUs HX HB hcs hX
    | false => exact anbt_dfalse hrs hrz hUs HX HB hcs hX
  by_cases hr0 : rs = []
  case neg => exact anbt_dr hrs hrz hUs HX HB hcs h2 hr0
  by_cases hc2 : c2 = 45
  case neg => exact anbt_dn hrs hrz hUs HX HB hcs h2 hr0 hc2
  exact anbt_dg hrs hrz hUs HX HB hcs h2 hr0 hc2
end Go.Proofs.YtjjkifhegfpceaaDoor
