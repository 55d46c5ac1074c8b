
import Derived.Test.YtjjlnmjapfcmaaaDoorDeF
namespace Go.Proofs.YtjjlnmjapfcmaaaDoor
open Go.RowKit
def setS (st : StD) (kind : ByteArray) (first : Int) (of' : ByteArray) : StD := { st with d := { st.d with sys := kind, first := first, ext := of' } }
set_option maxRecDepth 100000 in
set_option maxHeartbeats 1600000 in
theorem setSys_any {B b : Nat} {w : World} {st : StD} {sv av wv rv : Value} (hI : StI B w b st sv av wv rv) (kind : ByteArray) (first : Int) (of' : ByteArray) :
    Calls Tryd.prog 74 #[.pointer (some ⟨b, 0, none⟩), .string kind, .int .i64 first, .string of'] w fun e w' => e = .returned (.tuple #[]) ∧ StI B w' b (setS st kind first of') sv av wv rv ∧ w.grownBy w' (some b) := by
  have HI2 := Lib.hid (hI.put 1 (.string kind) { st with d := { st.d with sys := kind } } _ _ _ _ rfl hI.sy hI.ad hI.we hI.rn)
  have HI3 := Lib.hid (HI2.out.put 2 (.int .i64 first) { st with d := { st.d with sys := kind, first := first } } _ _ _ _ rfl HI2.out.sy HI2.out.ad HI2.out.we HI2.out.rn)
  have HI4 := Lib.hid (HI3.out.put 14 (.string of') (setS st kind first of') _ _ _ _ rfl HI3.out.sy HI3.out.ad HI3.out.we HI3.out.rn)
  have d1 : w.cell? ⟨b, 1, none⟩ = some (.string st.d.sys) := hI.box.cell 1
  have f1 : w.frozen? ⟨b, 1, none⟩ = false := hI.box.frozen 1
  have d2 : (w.setCell ⟨b, 1, none⟩ (.string kind)).cell? ⟨b, 2, none⟩ = some (.int .i64 st.d.first) := HI2.out.box.cell 2
  have f2 : (w.setCell ⟨b, 1, none⟩ (.string kind)).frozen? ⟨b, 2, none⟩ = false := HI2.out.box.frozen 2
  have d3 : ((w.setCell ⟨b, 1, none⟩ (.string kind)).setCell ⟨b, 2, none⟩ (.int .i64 first)).cell? ⟨b, 14, none⟩ = some (.string st.d.ext) := HI3.out.box.cell 14
  have f3 : ((w.setCell ⟨b, 1, none⟩ (.string kind)).setCell ⟨b, 2, none⟩ (.int .i64 first)).frozen? ⟨b, 14, none⟩ = false := HI3.out.box.frozen 14
  have HG := Lib.hid (gb_put (k := 14) (x := .string of') (gb_put (k := 2) (x := .int .i64 first) (gb_put (k := 1) (x := .string kind) (World.grownBy.refl w (some b)))))
  clear hI
  go_enter Tryd.func74, Tryd.ntmps74
  go_wp2
  go_end0
  exact ⟨rfl, HI4.out, HG.out⟩
theorem gb_seq {w w1 w2 : World} {row : Option Nat} (h : Below w.heap.size w w1) (hg : w1.grownBy w2 row) : w.grownBy w2 row :=
  ⟨hg.os.trans h.os, hg.tape.trans h.tape, hg.output.trans h.output, Nat.le_trans h.size hg.size, fun i hi hn => (hg.block i (Nat.lt_of_lt_of_le hi h.size) hn).trans (h.block i hi)⟩
abbrev fixT : ByteArray := ⟨#[102, 105, 120, 101, 100]⟩
abbrev extT : ByteArray := ⟨#[101, 120, 116, 101, 110, 100, 115]⟩
def fixR : List Nd → StD → StD × Bool
  | [], st => (st, false)
  | x :: _, st => if (numS x.tok).2 = true then (setS st fixT (numS x.tok).1 ⟨#[]⟩, true) else (st, false)
def sys2 (f : ByteArray) (r : List Nd) (st : StD) : StD × Bool :=
  if (aloneS f && decide (r.length = 0)) = true then (setS st f 1 ⟨#[]⟩, true) else
  if ((f.toList == [102, 105, 120, 101, 100]) && decide (r.length = 1)) = true then fixR r st else
  if (f.toList == [101, 120, 116, 101, 110, 100, 115]) = true then (if (nameS r).2 = true then (setS st extT 1 (nameS r).1, true) else (st, false)) else (st, false)
def takeSysS (l : List Nd) (st : StD) : StD × Bool := match l with
  | [] => (st, false)
  | n :: r => sys2 (wordS n.tok) r st
set_option maxRecDepth 100000 in
set_option maxHeartbeats 6400000 in
theorem takeSys_any {l : List Nd} {v : Value} {w : World} {P : Nat → Prop} {B b : Nat} {st : StD} {sv av wv rv : Value} (ht : Tab w) (hI : StI B w b st sv av wv rv) (h : RdN w P v l) (hl : szL l ≤ 100000000) (hx : TX l) :
    Calls Tryd.prog 48 #[.pointer (some ⟨b, 0, none⟩), v] w (TakePost B w b (takeSysS l st)) := by
  have HI := Lib.hid hI
  have HT := Lib.hid ht
  cases l with
  | nil =>
    obtain ⟨a, c, rfl, hlc⟩ := h.shape
    clear hI h
    go_enter Tryd.func48, Tryd.ntmps48
    go_wp2
    go_ret
    exact ⟨⟨_, _, _, _, rfl, HI.out⟩, World.grownBy.refl _ _⟩
  | cons n r =>
    have HX := Lib.hid (show TX r from fun m hm => hx m (by simp [hm]))
    have htx := hx n (by simp)
    have HH := Lib.hid h
    obtain ⟨t, k⟩ := n
    have hsz : szL r ≤ 100000000 := by rw [szL] at hl; omega
    have hrl := szL_ge r
    obtain ⟨g, off, c, u, rfl, hle2, _, hbl, hat, hku⟩ := h.at 0 (by simp)
    simp only [List.getElem_cons_zero, Nd.tok, Nd.kids] at hat hku
    simp only [Nd.tok] at htx
    obtain ⟨ua, uc, hus, _⟩ := hku.shape
    subst hus
    obtain ⟨p0, p1, p2, p3, p4, p5, p6⟩ := hat
    rw [Nat.zero_mul, Nat.add_zero] at p0 p1 p2 p3 p4 p5 p6
    have HR : Hid (takeSysS (.mk t k :: r) st = sys2 (wordS t) r st) := rfl
    generalize takeSysS (.mk t k :: r) st = R at *
    have HDR := Lib.hid (h.drop 1 (by simp))
    obtain ⟨N, hN⟩ : ∃ N, r.length = N := ⟨_, rfl⟩
    rw [List.length_cons, hN] at hle2 HDR ⊢
    rw [hN] at hrl
    have HN := Lib.hid hN
    clear h hku hx hI hN
    have m1 : (1 : Int) ≤ (N : Int) + 1 := by omega
    have m2 : (0 : Int) < (N : Int) + 1 := by omega
    have m3 : ((N : Int) + 1 == 0) = false := beq_eq_false_iff_ne.2 (by omega)
    have m4 : ¬ (N : Int) + 1 = 0 := by omega
    go_enter Tryd.func48, Tryd.ntmps48
    go_upto_region 3 with fail
    go_cut [5, 6] from 14 to 19 (fun fv sv wx => fv = .string (wordS t) ∧ ∃ ra rc, sv = .slice ra N rc ∧ RdN wx P (.slice ra N rc) r ∧ Below w.heap.size w wx)
    case first =>
      by_cases hce : c = 1
      · obtain rfl : N = 0 := by omega
        obtain rfl : r = [] := List.eq_nil_of_length_eq_zero HN.out
        subst hce
        go_region_held3 (fun w' => w'.cell? ⟨g, off, none⟩ = some (.int .i64 t.kind) ∧ w'.cell? ⟨g, off + 1, none⟩ = some (.string t.text) ∧ w'.cell? ⟨g, off + 2, none⟩ = some (.int .i64 t.int) ∧ w'.cell? ⟨g, off + 3, none⟩ = some (.bool t.whole) ∧ w'.cell? ⟨g, off + 4, none⟩ = some (.bool t.sign) ∧ w'.cell? ⟨g, off + 5, none⟩ = some (.bool t.id) ∧ w'.cell? ⟨g, off + 6, none⟩ = some (.slice ua k.length uc)) (first | go_keep | exact ⟨(hb5.cell (p := ⟨g, off, none⟩) hbl).trans p0, (hb5.cell (p := ⟨g, off + 1, none⟩) hbl).trans p1, (hb5.cell (p := ⟨g, off + 2, none⟩) hbl).trans p2, (hb5.cell (p := ⟨g, off + 3, none⟩) hbl).trans p3, (hb5.cell (p := ⟨g, off + 4, none⟩) hbl).trans p4, (hb5.cell (p := ⟨g, off + 5, none⟩) hbl).trans p5, (hb5.cell (p := ⟨g, off + 6, none⟩) hbl).trans p6⟩) ((go_at_call 72; refine (word_any _ _ _ _ _ htx).mono ?_; rintro e w5 ⟨rfl, hb5⟩))
        go_wp2
        go_meet
        exact ⟨rfl, _, _, rfl, RdN.nil _ _, ((Below.refl w.heap.size w).drew).trans hb5⟩
      · go_region_held3 (fun w' => w'.cell? ⟨g, off, none⟩ = some (.int .i64 t.kind) ∧ w'.cell? ⟨g, off + 1, none⟩ = some (.string t.text) ∧ w'.cell? ⟨g, off + 2, none⟩ = some (.int .i64 t.int) ∧ w'.cell? ⟨g, off + 3, none⟩ = some (.bool t.whole) ∧ w'.cell? ⟨g, off + 4, none⟩ = some (.bool t.sign) ∧ w'.cell? ⟨g, off + 5, none⟩ = some (.bool t.id) ∧ w'.cell? ⟨g, off + 6, none⟩ = some (.slice ua k.length uc)) (first | go_keep | exact ⟨(hb5.cell (p := ⟨g, off, none⟩) hbl).trans p0, (hb5.cell (p := ⟨g, off + 1, none⟩) hbl).trans p1, (hb5.cell (p := ⟨g, off + 2, none⟩) hbl).trans p2, (hb5.cell (p := ⟨g, off + 3, none⟩) hbl).trans p3, (hb5.cell (p := ⟨g, off + 4, none⟩) hbl).trans p4, (hb5.cell (p := ⟨g, off + 5, none⟩) hbl).trans p5, (hb5.cell (p := ⟨g, off + 6, none⟩) hbl).trans p6⟩) ((go_at_call 72; refine (word_any _ _ _ _ _ htx).mono ?_; rintro e w5 ⟨rfl, hb5⟩))
        go_wp2
        go_meet
        have HDR2 : RdN w P (.slice (some ⟨g, off + 7, none⟩) N (c - 1)) r := by simpa using HDR.out
        have hb5' : Below w.heap.size w w5 := ((Below.refl w.heap.size w).drew).trans hb5
        exact ⟨rfl, _, _, rfl, HDR2.under hb5' (Nat.le_refl _), hb5'⟩
    case rest =>
      obtain ⟨rfl, ra, rc, rfl, hr, hb5⟩ := hcut
      obtain ⟨w5, rfl⟩ : ∃ w5 : World, w5 = wc := ⟨_, rfl⟩
      have HRD := Lib.hid hr
      have HB5 := Lib.hid hb5
      have HT5 := Lib.hid (HT.out.below hb5)
      have HI5 := Lib.hid (HI.out.below hb5)
      clear hr hb5 p0 p1 p2 p3 p4 p5 p6 HDR HH
      generalize wordS t = f at *
      obtain ⟨C1, hC1⟩ : ∃ x, (aloneS f && decide (r.length = 0)) = x := ⟨_, rfl⟩
      obtain ⟨C2, hC2⟩ : ∃ x, ((f.toList == [102, 105, 120, 101, 100]) && decide (r.length = 1)) = x := ⟨_, rfl⟩
      have HR2 : Hid (R = if C1 = true then (setS st f 1 ⟨#[]⟩, true) else if C2 = true then fixR r st else if (f.toList == [101, 120, 116, 101, 110, 100, 115]) = true then (if (nameS r).2 = true then (setS st extT 1 (nameS r).1, true) else (st, false)) else (st, false)) := by
        show _ = _
        rw [HR.out]
        unfold sys2
        rw [hC1, hC2]
      rw [HN.out] at hC1 hC2
      have HC1 := Lib.hid hC1
      have HC2 := Lib.hid hC2
      clear HR hC1 hC2
      go_upto_region 4 with fail
      go_cut [20] from 21 to 27 (fun cv wx => cv = .bool C1 ∧ wx = w5)
      case first =>
        cases hal : aloneS f
        · have HAL := Lib.hid hal
          have HCC : Hid (C1 = false) := by
            show _ = _
            rw [← HC1.out, hal]
            rfl
          clear hal
          go_wp2_with (go_at_call 73; (with_reducible refine (isAlone_any _ _ HT5.out).mono ?_); rintro e w6 ⟨rfl, rfl⟩; rw [HAL.out])
          go_meet
          exact ⟨by rw [HCC.out], rfl⟩
        · have HAL := Lib.hid hal
          by_cases hn0 : N = 0
          · have HCC : Hid (C1 = true) := by
              show _ = _
              rw [← HC1.out, hal, decide_eq_true hn0]
              rfl
            clear hal
            subst hn0
            go_wp2_with (go_at_call 73; (with_reducible refine (isAlone_any _ _ HT5.out).mono ?_); rintro e w6 ⟨rfl, rfl⟩; rw [HAL.out])
            go_meet
            exact ⟨by rw [HCC.out], rfl⟩
          · have hn1 : ((N : Int) == 0) = false := beq_eq_false_iff_ne.2 (by omega)
            have hn2 : ¬ (N : Int) = 0 := by omega
            have HCC : Hid (C1 = false) := by
              show _ = _
              rw [← HC1.out, hal, decide_eq_false hn0]
              rfl
            clear hal hn0
            go_wp2_with (go_at_call 73; (with_reducible refine (isAlone_any _ _ HT5.out).mono ?_); rintro e w6 ⟨rfl, rfl⟩; rw [HAL.out])
            go_meet
            exact ⟨by rw [HCC.out], rfl⟩
      case rest =>
        obtain ⟨rfl, hw⟩ := hcut
        have hw := hw.symm
        subst hw
        cases C1
        · go_upto_region 7 with fail
          go_cut [31] from 32 to 38 (fun cv wx => cv = .bool C2 ∧ wx = w5)
          case first =>
            cases hfx : (f.toList == [102, 105, 120, 101, 100])
            · have HCC : Hid (C2 = false) := by
                show _ = _
                rw [← HC2.out, hfx]
                rfl
              go_wp2
              go_meet
              exact ⟨by rw [HCC.out], rfl⟩
            · by_cases hn0 : N = 1
              · have HCC : Hid (C2 = true) := by
                  show _ = _
                  rw [← HC2.out, hfx, decide_eq_true hn0]
                  rfl
                subst hn0
                go_wp2
                go_meet
                exact ⟨by rw [HCC.out], rfl⟩
              · have hn1 : ((N : Int) == 1) = false := beq_eq_false_iff_ne.2 (by omega)
                have hn2 : ¬ (N : Int) = 1 := by omega
                have HCC : Hid (C2 = false) := by
                  show _ = _
                  rw [← HC2.out, hfx, decide_eq_false hn0]
                  rfl
                clear hn0
                go_wp2
                go_meet
                exact ⟨by rw [HCC.out], rfl⟩
          case rest =>
            obtain ⟨rfl, hw⟩ := hcut
            have hw := hw.symm
            subst hw
            cases C2
            · cases hex : (f.toList == [101, 120, 116, 101, 110, 100, 115])
              · have HR3 : Hid (R = (st, false)) := by
                  show _ = _
                  rw [HR2.out, if_neg (by decide), if_neg (by decide), if_neg (by rw [hex]; decide)]
                go_wp2
                go_ret
                rw [HR3.out]
                exact ⟨⟨_, _, _, _, rfl, HI5.out⟩, gb_below HB5.out _⟩
              · have HR3 : Hid (R = if (nameS r).2 = true then (setS st extT 1 (nameS r).1, true) else (st, false)) := by
                  show _ = _
                  rw [HR2.out, if_neg (by decide), if_neg (by decide), if_pos hex]
                generalize hns : nameS r = NS at *
                have HNS := Lib.hid hns
                clear hns
                cases hok : NS.2
                · have HOK := Lib.hid hok
                  have HR4 : Hid (R = (st, false)) := HR3.out.trans (if_neg (by rw [hok]; decide))
                  clear hok
                  go_wp2_with (go_at_call 15; refine (name_any HT5.out HRD.out hsz HX.out).mono ?_; rw [HNS.out]; rintro e w6 ⟨rfl, hb6⟩; rw [HOK.out])
                  go_ret
                  rw [HR4.out]
                  exact ⟨⟨_, _, _, _, rfl, HI5.out.below hb6⟩, gb_below (below_seq HB5.out hb6) _⟩
                · have HOK := Lib.hid hok
                  have HR4 : Hid (R = (setS st extT 1 NS.1, true)) := HR3.out.trans (if_pos hok)
                  clear hok
                  go_wp2_with (first | (go_at_call 15; refine (name_any HT5.out HRD.out hsz HX.out).mono ?_; rw [HNS.out]; rintro e w6 ⟨rfl, hb6⟩; rw [HOK.out]; have HI6 := Lib.hid (HI5.out.below hb6)) | (go_at_call 74; refine (setSys_any HI6.out _ _ _).mono ?_; rintro e w7 ⟨rfl, hI7, hg7⟩))
                  go_ret
                  rw [HR4.out]
                  exact ⟨⟨_, _, _, _, rfl, hI7⟩, gb_seq (below_seq HB5.out hb6) hg7⟩
            · have h11 : r.length = 1 := by
                have := HC2.out
                rw [Bool.and_eq_true] at this
                rw [HN.out]
                exact of_decide_eq_true this.2
              obtain ⟨x, rfl⟩ := List.length_eq_one_iff.1 h11
              obtain ⟨t9, k9⟩ := x
              have m9 : (0 : Int) < (N : Int) := by have : 1 = N := HN.out; omega
              have HR3 : Hid (R = if (numS t9).2 = true then (setS st fixT (numS t9).1 ⟨#[]⟩, true) else (st, false)) := by
                show _ = _
                rw [HR2.out, if_neg (by decide), if_pos rfl]
                rfl
              obtain ⟨g9, off9, c9, u9, hv9, hle9, _, hbl9, hat9, hku9⟩ := HRD.out.at 0 (by simp)
              injection hv9 with e1 e2 e3
              subst e1 e3
              clear e2
              simp only [List.getElem_cons_zero, Nd.tok, Nd.kids] at hat9 hku9
              obtain ⟨va, vc, hvs, _⟩ := hku9.shape
              subst hvs
              obtain ⟨p0, p1, p2, p3, p4, p5, p6⟩ := hat9
              rw [Nat.zero_mul, Nat.add_zero] at p0 p1 p2 p3 p4 p5 p6
              generalize hns : numS t9 = NS at *
              have HNS := Lib.hid hns
              clear hns hku9
              cases hok : NS.2
              · have HOK := Lib.hid hok
                have HR4 : Hid (R = (st, false)) := HR3.out.trans (if_neg (by rw [hok]; decide))
                clear hok
                go_wp2_with (go_at_call 75; (with_reducible refine (number_any _ _ _ _ _).mono ?_); rintro e w6 ⟨rfl, hb6⟩; rw [HNS.out, HOK.out])
                go_ret
                rw [HR4.out]
                exact ⟨⟨_, _, _, _, rfl, HI5.out.below hb6⟩, gb_below (below_seq HB5.out hb6) _⟩
              · have HOK := Lib.hid hok
                have HR4 : Hid (R = (setS st fixT NS.1 ⟨#[]⟩, true)) := HR3.out.trans (if_pos hok)
                clear hok
                go_wp2_with (first | (go_at_call 75; (with_reducible refine (number_any _ _ _ _ _).mono ?_); rintro e w6 ⟨rfl, hb6⟩; rw [HNS.out, HOK.out]; have HI6 := Lib.hid (HI5.out.below hb6)) | (go_at_call 74; refine (setSys_any HI6.out _ _ _).mono ?_; rintro e w7 ⟨rfl, hI7, hg7⟩))
                go_ret
                rw [HR4.out]
                exact ⟨⟨_, _, _, _, rfl, hI7⟩, gb_seq (below_seq HB5.out hb6) hg7⟩
        · have HR3 : Hid (R = (setS st f 1 ⟨#[]⟩, true)) := HR2.out.trans (if_pos rfl)
          go_wp2_with (go_at_call 74; refine (setSys_any HI5.out _ _ _).mono ?_; rintro e w7 ⟨rfl, hI7, hg7⟩)
          go_ret
          rw [HR3.out]
          exact ⟨⟨_, _, _, _, rfl, hI7⟩, gb_seq HB5.out hg7⟩
end Go.Proofs.YtjjlnmjapfcmaaaDoor
