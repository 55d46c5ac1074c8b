
import Derived.Test.YtjjlnmjapfcmaaaDoorDeC
import Derived.Test.YtjjlnmjapfcmaaaDoorDeE
import Derived.Test.YtjjlnmjapfcmaaaDoorShA
import Derived.Laws.IdiomCopy
import Derived.Deep.Cut
import Derived.Deep.CutBlock
namespace Go.Proofs.YtjjlnmjapfcmaaaDoor
open Go.RowKit
/-! A style as far as it is said. -/
structure StD where
  d : DefD
  syms : List ByteArray
  adds : List ByteArray
  wts : List Int
abbrev styC (st : StD) (sv av wv rv : Value) : Array Value := #[.string st.d.name, .string st.d.sys, .int .i64 st.d.first, .slice none 0 0, .slice none 0 0, .string st.d.neg0, .string st.d.neg1, .string st.d.pre, .string st.d.suf, .bool st.d.auto, rv, .int .i64 st.d.pad, .string st.d.psign, .string st.d.fall, .string st.d.ext, .int .i64 st.d.said, sv, av, wv]
def pcells (p : Int × Int) : List Value := [.int .i64 p.1, .int .i64 p.2]
abbrev OwnP (B : Nat) (w : World) (v : Value) (l : List (Int × Int)) : Prop := w.ownsRow B 54 2 v l.length (l.flatMap pcells)
theorem OwnP.nil (B : Nat) (w : World) : OwnP B w (.slice none 0 0) [] := ⟨by simp, .inl ⟨rfl, rfl⟩⟩
structure StI (B : Nat) (w : World) (b : Nat) (st : StD) (sv av wv rv : Value) : Prop where
  box : CB 67 w b (styC st sv av wv rv)
  lo : B ≤ b
  sy : OwnT B w sv st.syms
  ad : OwnT B w av st.adds
  we : OwnN B w wv st.wts
  rn : OwnP B w rv st.d.rng
theorem row_neC {B : Nat} {w : World} {e T : TypeId} {size n : Nat} {v : Value} {xs : List Value} {b : Nat} {cs : Array Value} (h : w.ownsRow B e size v n xs) (hx : CB T w b cs) (hne : e ≠ T) : v.ownBlock ≠ some b := by
  rcases h.2 with ⟨rfl, _⟩ | ⟨g, cap, cur, rfl, _, hg, _⟩
  · simp [Value.ownBlock]
  · intro he
    have e2 : g = b := by simpa [Value.ownBlock] using he
    subst e2
    unfold CB at hx
    rw [hg] at hx
    injection hx with hx
    injection hx with _ hx
    exact hne hx
theorem row_below {B : Nat} {w w' : World} {e : TypeId} {size n : Nat} {v : Value} {xs : List Value} (h : w.ownsRow B e size v n xs) (hb : Below w.heap.size w w') : w'.ownsRow B e size v n xs :=
  h.kept (gb_below hb none) (by cases hv : v.ownBlock with | none => exact .inl rfl | some g => exact .inr (by simp))
section
variable {B b : Nat} {w w' : World} {st : StD} {sv av wv rv : Value}
theorem StI.below (h : StI B w b st sv av wv rv) (hb : Below w.heap.size w w') : StI B w' b st sv av wv rv :=
  ⟨h.box.below hb h.box.lt, h.lo, row_below h.sy hb, row_below h.ad hb, row_below h.we hb, row_below h.rn hb⟩
theorem StI.put (h : StI B w b st sv av wv rv) (k : Nat) (x : Value) (st' : StD) (sv' av' wv' rv' : Value) (hC : (styC st sv av wv rv).setIfInBounds k x = styC st' sv' av' wv' rv')
    (h1 : OwnT B w sv' st'.syms) (h2 : OwnT B w av' st'.adds) (h3 : OwnN B w wv' st'.wts) (h4 : OwnP B w rv' st'.d.rng) : StI B (w.setCell ⟨b, k, none⟩ x) b st' sv' av' wv' rv' := by
  have hb := h.box.set k x
  rw [hC] at hb
  exact ⟨hb, h.lo, row_far h1 (row_neC h1 h.box (by decide)) x, row_far h2 (row_neC h2 h.box (by decide)) x, row_far h3 (row_neC h3 h.box (by decide)) x, row_far h4 (row_neC h4 h.box (by decide)) x⟩
end
theorem gb_put {w w1 : World} {b k : Nat} {x : Value} (h : w.grownBy w1 (some b)) : w.grownBy (w1.setCell ⟨b, k, none⟩ x) (some b) := gb_set h (.inl rfl) x
theorem row_mono {B B' : Nat} {w : World} {e : TypeId} {size n : Nat} {v : Value} {xs : List Value} (h : w.ownsRow B e size v n xs) (hb : B' ≤ B) : w.ownsRow B' e size v n xs :=
  ⟨h.1, h.2.imp id fun ⟨g, cap, cur, x, y, z⟩ => ⟨g, cap, cur, x, Nat.le_trans hb y, z⟩⟩
/-- What a descriptor's method answers. -/
def TakePost (B : Nat) (w : World) (b : Nat) (r : StD × Bool) (e : Ending) (w' : World) : Prop := (∃ sv av wv rv, e = .returned (.bool r.2) ∧ StI B w' b r.1 sv av wv rv) ∧ w.grownBy w' (some b)
def takeSymsS (l : List Nd) (st : StD) : StD × Bool := if (symsR l).2 = true then ({ st with syms := (symsR l).1 }, true) else (st, false)
set_option maxRecDepth 100000 in
set_option maxHeartbeats 3200000 in
theorem takeSyms_any {l : List Nd} {v : Value} {w : World} {P : Nat → Prop} {B b : Nat} {st : StD} {sv av wv rv : Value} (hI : StI B w b st sv av wv rv) (h : RdN w P v l) (hl : szL l ≤ 100000000) (hBw : B ≤ w.heap.size) :
    Calls Tryd.prog 54 #[.pointer (some ⟨b, 0, none⟩), v] w (TakePost B w b (takeSymsS l st)) := by
  have HI := Lib.hid hI
  have HC := Lib.hid (symbols_any h hl)
  have HR : Hid (takeSymsS l st = if (symsR l).2 = true then ({ st with syms := (symsR l).1 }, true) else (st, false)) := rfl
  generalize takeSymsS l st = R at *
  generalize symsR l = SR at *
  obtain ⟨a0, c0, rfl, _⟩ := h.shape
  clear hI h
  go_enter Tryd.func54, Tryd.ntmps54
  go_wp2_with fail
  refine HC.out.mono ?_
  rintro e w1 ⟨⟨v1, rfl, ho⟩, hb1⟩
  have HO := Lib.hid ho
  obtain ⟨oa, oc, rfl, _⟩ := row_sl ho
  have HI1 := Lib.hid (HI.out.below hb1)
  cases hok : SR.2
  · have HR2 : Hid (R = (st, false)) := HR.out.trans (if_neg (by rw [hok]; decide))
    go_wp2
    go_ret
    rw [HR2.out]
    exact ⟨⟨_, _, _, _, rfl, HI1.out⟩, gb_below hb1 _⟩
  · have HR2 : Hid (R = ({ st with syms := SR.1 }, true)) := HR.out.trans (if_pos hok)
    have d16 : w1.cell? ⟨b, 16, none⟩ = some sv := HI1.out.box.cell 16
    have f16 : w1.frozen? ⟨b, 16, none⟩ = false := HI1.out.box.frozen 16
    go_wp2
    go_ret
    rw [HR2.out]
    exact ⟨⟨_, _, _, _, rfl, HI1.out.put 16 _ _ _ _ _ _ rfl (row_mono HO.out hBw) HI1.out.ad HI1.out.we HI1.out.rn⟩, gb_put (gb_below hb1 _)⟩
theorem frozen_below {w w' : World} {b i : Nat} (hb : Below w.heap.size w w') (hl : b < w.heap.size) : w'.frozen? ⟨b, i, none⟩ = w.frozen? ⟨b, i, none⟩ := World.frozen?_of_block (hb.block b hl)
def takePadS (l : List Nd) (st : StD) : StD × Bool := if (numdS l).2.2 = true then ({ st with d := { st.d with pad := (numdS l).1, psign := (numdS l).2.1 } }, true) else (st, false)
set_option maxRecDepth 100000 in
set_option maxHeartbeats 3200000 in
theorem takePad_any {l : List Nd} {v : Value} {w : World} {P : Nat → Prop} {B b : Nat} {st : StD} {sv av wv rv : Value} (hI : StI B w b st sv av wv rv) (h : RdN w P v l) (hl : szL l ≤ 100000000) :
    Calls Tryd.prog 52 #[.pointer (some ⟨b, 0, none⟩), v] w (TakePost B w b (takePadS l st)) := by
  have HI := Lib.hid hI
  have HC := Lib.hid (numbered_any h hl)
  have HR : Hid (takePadS l st = if (numdS l).2.2 = true then ({ st with d := { st.d with pad := (numdS l).1, psign := (numdS l).2.1 } }, true) else (st, false)) := rfl
  generalize takePadS l st = R at *
  generalize numdS l = SR at *
  obtain ⟨a0, c0, rfl, _⟩ := h.shape
  clear hI h
  go_enter Tryd.func52, Tryd.ntmps52
  go_wp2_with fail
  refine HC.out.mono ?_
  rintro e w1 ⟨rfl, hb1⟩
  have HI1 := Lib.hid (HI.out.below hb1)
  cases hok : SR.2.2
  · have HR2 : Hid (R = (st, false)) := HR.out.trans (if_neg (by rw [hok]; decide))
    go_wp2
    go_ret
    rw [HR2.out]
    exact ⟨⟨_, _, _, _, rfl, HI1.out⟩, gb_below hb1 _⟩
  · have HR2 : Hid (R = ({ st with d := { st.d with pad := SR.1, psign := SR.2.1 } }, true)) := HR.out.trans (if_pos hok)
    have HI2 := Lib.hid (HI1.out.put 11 (.int .i64 SR.1) { st with d := { st.d with pad := SR.1 } } _ _ _ _ rfl HI1.out.sy HI1.out.ad HI1.out.we HI1.out.rn)
    have d11 : w1.cell? ⟨b, 11, none⟩ = some (.int .i64 st.d.pad) := HI1.out.box.cell 11
    have f11 : w1.frozen? ⟨b, 11, none⟩ = false := HI1.out.box.frozen 11
    have d12 : (w1.setCell ⟨b, 11, none⟩ (.int .i64 SR.1)).cell? ⟨b, 12, none⟩ = some (.string st.d.psign) := HI2.out.box.cell 12
    have f12 : (w1.setCell ⟨b, 11, none⟩ (.int .i64 SR.1)).frozen? ⟨b, 12, none⟩ = false := HI2.out.box.frozen 12
    go_wp2
    go_ret
    rw [HR2.out]
    exact ⟨⟨_, _, _, _, rfl, HI2.out.put 12 (.string SR.2.1) _ _ _ _ _ rfl HI2.out.sy HI2.out.ad HI2.out.we HI2.out.rn⟩, gb_put (gb_put (gb_below hb1 _))⟩
def symOne (l : List Nd) : ByteArray × Bool := match l with
  | [n] => symS n.tok
  | _ => (⟨#[]⟩, false)
theorem symOne_no {l : List Nd} (h : l.length ≠ 1) : symOne l = (⟨#[]⟩, false) := by
  unfold symOne
  split
  · exact absurd rfl h
  · rfl
set_option maxRecDepth 100000 in
set_option maxHeartbeats 3200000 in
theorem takeSymbol_any {l : List Nd} {v : Value} {w : World} {P : Nat → Prop} {b k : Nat} {old : ByteArray} (h : RdN w P v l) (hc : w.cell? ⟨b, k, none⟩ = some (.string old)) (hf : w.frozen? ⟨b, k, none⟩ = false) :
    Calls Tryd.prog 50 #[.pointer (some ⟨b, k, none⟩), v] w fun e w' => e = .returned (.bool (symOne l).2) ∧ ((symOne l).2 = false ∧ Below w.heap.size w w' ∨ (symOne l).2 = true ∧ ∃ w1, Below w.heap.size w w1 ∧ w' = w1.setCell ⟨b, k, none⟩ (.string (symOne l).1)) := by
  have hbk : b < w.heap.size := World.block_lt_of_cell? w ⟨b, k, none⟩ hc
  by_cases hlen : l.length = 1
  · obtain ⟨n, rfl⟩ := List.length_eq_one_iff.1 hlen
    obtain ⟨g, off, c2, u, rfl, hle2, _, hbl, hat, hku⟩ := h.at 0 (by simp)
    obtain ⟨tk, q⟩ := n
    simp only [List.getElem_cons_zero, Nd.tok, Nd.kids] at hat hku
    obtain ⟨ua, uc, hus, _⟩ := hku.shape
    subst hus
    obtain ⟨p0, p1, p2, p3, p4, p5, p6⟩ := hat
    rw [Nat.zero_mul, Nat.add_zero] at p0 p1 p2 p3 p4 p5 p6
    have HR : Hid (symOne [.mk tk q] = symS tk) := rfl
    generalize symOne [.mk tk q] = R at *
    clear h hku hlen
    cases hok : (symS tk).2
    · have HOK := Lib.hid hok
      clear hok
      go_enter Tryd.func50, Tryd.ntmps50
      go_wp2_with (go_at_call 17; (with_reducible refine (symbol_any _ _ _ _ _).mono ?_); rintro e w5 ⟨rfl, hb5⟩; rw [HOK.out])
      go_ret
      rw [HR.out, HOK.out]
      exact ⟨rfl, .inl ⟨rfl, hb5⟩⟩
    · have HOK := Lib.hid hok
      clear hok
      go_enter Tryd.func50, Tryd.ntmps50
      go_wp2_with (go_at_call 17; (with_reducible refine (symbol_any _ _ _ _ _).mono ?_); rintro e w5 ⟨rfl, hb5⟩; rw [HOK.out]; have hc5 := (hb5.cell (p := ⟨b, k, none⟩) hbk).trans hc; have hf5 := (frozen_below hb5 hbk (i := k)).trans hf)
      go_ret
      rw [HR.out, HOK.out]
      exact ⟨rfl, .inr ⟨rfl, w5, hb5, rfl⟩⟩
  · have HR := Lib.hid (symOne_no hlen)
    obtain ⟨a, c, rfl, hlc⟩ := h.shape
    have hl1 : ((l.length : Int) == 1) = false := beq_eq_false_iff_ne.2 (by omega)
    have hl2 : ((l.length : Int) != 1) = true := by rw [bne, hl1]; rfl
    have hl3 : ¬ (l.length : Int) = 1 := by omega
    go_enter Tryd.func50, Tryd.ntmps50
    go_wp2
    go_ret
    rw [HR.out]
    exact ⟨rfl, .inl ⟨rfl, Below.refl _ _⟩⟩
end Go.Proofs.YtjjlnmjapfcmaaaDoor
namespace Go.Proofs.YtjjlnmjapfcmaaaDoor
open Go.RowKit
/-! `negative`. -/
def takeNegS (l : List Nd) (st : StD) : StD × Bool := if ((symsR l).2 && decide ((symsR l).1.length ≤ 2)) = true then ({ st with d := { st.d with neg0 := (symsR l).1.getD 0 ⟨#[]⟩, neg1 := (symsR l).1.getD 1 ⟨#[]⟩ } }, true) else (st, false)
theorem str_size1 : (Tryd.prog.info? 9).map (·.size) = some 1 := by kernel_rfl
theorem ownT_cells {B : Nat} {w : World} {sa : Option Addr} {n sc : Nat} {l : List ByteArray} (h : OwnT B w (.slice sa n sc) l) (hp : 0 < l.length) : ∃ g, sa = some ⟨g, 0, none⟩ ∧ (∀ j, (hj : j < l.length) → w.cell? ⟨g, j, none⟩ = some (.string l[j])) := by
  obtain ⟨g, cap, hv, _, _⟩ := h.form hp
  injection hv with e1 _ _
  subst e1
  refine ⟨g, rfl, fun j hj => ?_⟩
  have := h.cells (g := g) rfl j (.string l[j]) (by rw [List.getElem?_map, List.getElem?_eq_getElem hj]; rfl)
  have hadd : (⟨g, 0, none⟩ : Addr).add j = ⟨g, j, none⟩ := by unfold Addr.add; split <;> simp_all
  rw [hadd] at this
  exact this
set_option maxRecDepth 100000 in
set_option maxHeartbeats 6400000 in
theorem takeNeg_any {l : List Nd} {v : Value} {w : World} {P : Nat → Prop} {B b : Nat} {st : StD} {sv av wv rv : Value} (hI : StI B w b st sv av wv rv) (h : RdN w P v l) (hl : szL l ≤ 100000000) :
    Calls Tryd.prog 49 #[.pointer (some ⟨b, 0, none⟩), v] w (TakePost B w b (takeNegS l st)) := by
  have HI := Lib.hid hI
  have HC := Lib.hid (symbols_any h hl)
  have HR : Hid (takeNegS l st = if ((symsR l).2 && decide ((symsR l).1.length ≤ 2)) = true then ({ st with d := { st.d with neg0 := (symsR l).1.getD 0 ⟨#[]⟩, neg1 := (symsR l).1.getD 1 ⟨#[]⟩ } }, true) else (st, false)) := rfl
  generalize takeNegS l st = R at *
  generalize symsR l = SR at *
  obtain ⟨a0, c0, rfl, _⟩ := h.shape
  clear hI h
  go_enter Tryd.func49, Tryd.ntmps49
  go_upto_region 2 with (go_at_call 76; refine HC.out.mono ?_; rintro e w1 ⟨⟨v1, rfl, ho⟩, hb1⟩; have HO := Lib.hid ho; obtain ⟨oa, oc, rfl, _⟩ := row_sl ho)
  have HI1 := Lib.hid (HI.out.below hb1)
  have HB1 := Lib.hid hb1
  clear ho hb1
  cases hok : SR.2
  · have HR2 : Hid (R = (st, false)) := HR.out.trans (if_neg (by rw [hok, Bool.false_and]; decide))
    go_wp2
    go_ret
    rw [HR2.out]
    exact ⟨⟨_, _, _, _, rfl, HI1.out⟩, gb_below HB1.out _⟩
  · by_cases h2 : 2 < SR.1.length
    · have HR2 : Hid (R = (st, false)) := HR.out.trans (if_neg (by rw [hok, decide_eq_false (show ¬ SR.1.length ≤ 2 by omega)]; decide))
      have h2I : (2 : Int) < (SR.1.length : Int) := by omega
      have h2d : decide ((2 : Int) < (SR.1.length : Int)) = true := decide_eq_true h2I
      go_wp2
      go_ret
      rw [HR2.out]
      exact ⟨⟨_, _, _, _, rfl, HI1.out⟩, gb_below HB1.out _⟩
    · have HR2 : Hid (R = ({ st with d := { st.d with neg0 := SR.1.getD 0 ⟨#[]⟩, neg1 := SR.1.getD 1 ⟨#[]⟩ } }, true)) := HR.out.trans (if_pos (by rw [hok, decide_eq_true (show SR.1.length ≤ 2 by omega)]; rfl))
      have h2I : ¬ (2 : Int) < (SR.1.length : Int) := by omega
      have h2d : decide ((2 : Int) < (SR.1.length : Int)) = false := decide_eq_false h2I
      obtain ⟨NN, hNN⟩ : ∃ n, SR.1.length = n := ⟨_, rfl⟩
      rw [hNN] at h2I h2d h2 ⊢
      have HNN := Lib.hid hNN
      clear hNN
      have HJ5 := Lib.hid (HI1.out.put 5 (.string ⟨#[]⟩) { st with d := { st.d with neg0 := ⟨#[]⟩ } } _ _ _ _ rfl HI1.out.sy HI1.out.ad HI1.out.we HI1.out.rn)
      have HJ6 := Lib.hid (HJ5.out.put 6 (.string ⟨#[]⟩) { st with d := { st.d with neg0 := ⟨#[]⟩, neg1 := ⟨#[]⟩ } } _ _ _ _ rfl HJ5.out.sy HJ5.out.ad HJ5.out.we HJ5.out.rn)
      have HO6 := Lib.hid (row_far (row_far HO.out (row_neC HO.out HI1.out.box (by decide)) (o := 5) (.string ⟨#[]⟩)) (row_neC HO.out HI1.out.box (by decide)) (o := 6) (.string ⟨#[]⟩))
      have HG6 := Lib.hid (gb_put (k := 6) (x := .string ⟨#[]⟩) (gb_put (k := 5) (x := .string ⟨#[]⟩) (gb_below HB1.out (some b))))
      have d5 : w1.cell? ⟨b, 5, none⟩ = some (.string st.d.neg0) := HI1.out.box.cell 5
      have f5 : w1.frozen? ⟨b, 5, none⟩ = false := HI1.out.box.frozen 5
      have d6 : w1.cell? ⟨b, 6, none⟩ = some (.string st.d.neg1) := HI1.out.box.cell 6
      have f6 : w1.frozen? ⟨b, 6, none⟩ = false := HI1.out.box.frozen 6
      go_upto_region 5 with fail
      clear d5 f5 d6 f6
      generalize (w1.setCell ⟨b, 5, none⟩ (.string ⟨#[]⟩)).setCell ⟨b, 6, none⟩ (.string ⟨#[]⟩) = W2 at *
      have c5 : W2.cell? ⟨b, 5, none⟩ = some (.string ⟨#[]⟩) := HJ6.out.box.cell 5
      have c6 : W2.cell? ⟨b, 6, none⟩ = some (.string ⟨#[]⟩) := HJ6.out.box.cell 6
      have g5 : W2.frozen? ⟨b, 5, none⟩ = false := HJ6.out.box.frozen 5
      have g6 : W2.frozen? ⟨b, 6, none⟩ = false := HJ6.out.box.frozen 6
      obtain ⟨L, ok⟩ := SR
      simp only at HNN HR2 HO6
      match L, HNN, HR2, HO6 with
      | [], HNN, HR2, HO6 =>
        obtain rfl : 0 = NN := HNN.out
        have hcp : ∀ ty, (Builtin.copy_ #[ 25, 25 ] ty #[.slice (some ⟨b, 5, none⟩) 2 2, .slice oa 0 oc]).run Tryd.prog W2 = .ok (goInt 0) W2 := fun ty =>
          run_copy_none W2 25 25 ty 9 _ _ 2 2 0 oc Tryd.underlying25 str_size1 rfl
        go_wp2
        go_ret
        rw [HR2.out]
        exact ⟨⟨_, _, _, _, rfl, HJ6.out⟩, HG6.out⟩
      | [x], HNN, HR2, HO6 =>
        obtain rfl : 1 = NN := HNN.out
        obtain ⟨g, rfl, hg⟩ := ownT_cells HO6.out (by simp)
        have e0 := hg 0 (by simp)
        have hcp : ∀ ty, (Builtin.copy_ #[ 25, 25 ] ty #[.slice (some ⟨b, 5, none⟩) 2 2, .slice (some ⟨g, 0, none⟩) 1 oc]).run Tryd.prog W2 = .ok (goInt 1) (W2.setCell ⟨b, 5, none⟩ (.string x)) := fun ty => by
          refine run_copy_cells W2 25 25 ty 9 b 5 2 2 ⟨g, 0, none⟩ 1 oc [.string x] Tryd.underlying25 str_size1 rfl (fun j v hv => ?_) (fun j hj => ?_) (fun j hj => ?_) (by simp [Value.oneCell'])
          · match j, hv with
            | 0, hv => injection hv with hv; subst hv; rw [add0]; exact e0
            | j + 1, hv => simp at hv
          · obtain rfl : j = 0 := by simpa using hj
            rw [Nat.add_zero, c5]; rfl
          · obtain rfl : j = 0 := by simpa using hj
            exact g5
        clear hg e0
        go_wp2
        go_ret
        rw [HR2.out]
        exact ⟨⟨_, _, _, _, rfl, HJ6.out.put 5 (.string x) { st with d := { st.d with neg0 := x, neg1 := ⟨#[]⟩ } } _ _ _ _ rfl HJ6.out.sy HJ6.out.ad HJ6.out.we HJ6.out.rn⟩, gb_put HG6.out⟩
      | [x, y], HNN, HR2, HO6 =>
        obtain rfl : 2 = NN := HNN.out
        obtain ⟨g, rfl, hg⟩ := ownT_cells HO6.out (by simp)
        have e0 := hg 0 (by simp)
        have e1 := hg 1 (by simp)
        have hcp : ∀ ty, (Builtin.copy_ #[ 25, 25 ] ty #[.slice (some ⟨b, 5, none⟩) 2 2, .slice (some ⟨g, 0, none⟩) 2 oc]).run Tryd.prog W2 = .ok (goInt 2) ((W2.setCell ⟨b, 5, none⟩ (.string x)).setCell ⟨b, 6, none⟩ (.string y)) := fun ty => by
          refine run_copy_cells W2 25 25 ty 9 b 5 2 2 ⟨g, 0, none⟩ 2 oc [.string x, .string y] Tryd.underlying25 str_size1 rfl (fun j v hv => ?_) (fun j hj => ?_) (fun j hj => ?_) (by simp [Value.oneCell'])
          · match j, hv with
            | 0, hv => injection hv with hv; subst hv; rw [add0]; exact e0
            | 1, hv => injection hv with hv; subst hv; rw [add0]; exact e1
            | j + 2, hv => simp at hv
          · have hj2 : j < 2 := hj
            rcases (show j = 0 ∨ j = 1 by omega) with rfl | rfl
            · rw [Nat.add_zero, c5]; rfl
            · show (W2.cell? ⟨b, 6, none⟩).isSome = true
              rw [c6]; rfl
          · have hj2 : j < 2 := hj
            rcases (show j = 0 ∨ j = 1 by omega) with rfl | rfl
            · exact g5
            · exact g6
        clear hg e0 e1
        have HJ7 := Lib.hid (HJ6.out.put 5 (.string x) { st with d := { st.d with neg0 := x, neg1 := ⟨#[]⟩ } } _ _ _ _ rfl HJ6.out.sy HJ6.out.ad HJ6.out.we HJ6.out.rn)
        go_wp2
        go_ret
        rw [HR2.out]
        exact ⟨⟨_, _, _, _, rfl, HJ7.out.put 6 (.string y) { st with d := { st.d with neg0 := x, neg1 := y } } _ _ _ _ rfl HJ7.out.sy HJ7.out.ad HJ7.out.we HJ7.out.rn⟩, gb_put (gb_put HG6.out)⟩
      | _ :: _ :: _ :: _, HNN, _, _ =>
        exfalso
        have := HNN.out
        simp at this
        omega
end Go.Proofs.YtjjlnmjapfcmaaaDoor
