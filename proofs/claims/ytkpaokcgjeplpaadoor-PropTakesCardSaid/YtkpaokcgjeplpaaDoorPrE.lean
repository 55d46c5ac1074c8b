
import Derived.Test.YtkpaokcgjeplpaaDoorPrA
import Derived.Deep.RegionHeld3
import Derived.Deep.Cut
import Derived.Deep.CutRange
import Derived.Deep.DeepCutAuto
namespace Go.Proofs.YtkpaokcgjeplpaaDoor
open Go.RowKit
/-! prop: a counter's name, a number. -/
def cnameB (t : Tok) : Bool := (t.kind == 1) && !((lowS t.text).toList == [110, 111, 110, 101]) && (wideS (lowS t.text) == 0)
def cnameS (t : Tok) : ByteArray × Bool := if cnameB t = true then (t.text, true) else (⟨#[]⟩, false)
def numH (l : List Nd) : Int × Bool := match l with
  | [] => (0, false)
  | n :: _ => numS n.tok
set_option maxRecDepth 100000 in
set_option maxHeartbeats 1600000 in
theorem cname_any (t : Tok) (a : Option Addr) (n c : Nat) (w : World) (ht : TabP w) (hx : t.text.size ≤ 1000000000) :
    Calls Tryd.prog 87 #[nval t (.slice a n c)] w fun e w' => e = .returned (.tuple #[.string (cnameS t).1, .bool (cnameS t).2]) ∧ Below w.heap.size w w' := by
  have hb := box_bel w t (.slice a n c)
  have HBX := Lib.hid (CB.new (T := 86) w (nodeC t (.slice a n c)))
  have HT := Lib.hid (ht.below hb)
  have HY : Hid (cnameB t = true → cnameS t = (t.text, true)) := fun h => if_pos h
  have HN : Hid (cnameB t = false → cnameS t = (⟨#[]⟩, false)) := fun h => if_neg (by rw [h]; decide)
  generalize hcn : cnameS t = CN at *
  by_cases k1 : (t.kind == 1) = true
  · have k1b : (t.kind != 1) = false := by rw [bne, k1]; rfl
    cases h2 : ((lowS t.text).toList == [110, 111, 110, 101])
    · cases h3 : (wideS (lowS t.text) == 0)
      · have HR := Lib.hid (HN.out (by unfold cnameB; rw [k1, h2, h3]; rfl))
        have h3b : (wideS (lowS t.text) != 0) = true := by rw [bne, h3]; rfl
        clear HY HN hcn
        generalize hlw : lowS t.text = LW at *
        have HLW := Lib.hid hlw
        generalize hws : wideS LW = WS at *
        have HWS := Lib.hid hws
        clear hlw hws
        go_enter Tryd.func87, Tryd.ntmps87
        go_wp2_with (first | (go_at_call 63; (with_reducible refine (small_any _ _ _ _ _ hx).mono ?_); rintro e w2 ⟨rfl, hb2⟩; rw [HLW.out]; have HT2 := Lib.hid (HT.out.below hb2); have HC2 := Lib.hid (HBX.out.below hb2 (by simp)); have y0 : w2.cell? ⟨w.heap.size, 0, none⟩ = some (.int .i64 t.kind) := HC2.out.cell 0; have y1 : w2.cell? ⟨w.heap.size, 1, none⟩ = some (.string t.text) := HC2.out.cell 1) | (go_at_call 62; (with_reducible refine (wideWord_any _ _ HT2.out).mono ?_); rintro e w3 ⟨rfl, hb3⟩; rw [HWS.out]))
        refine bodyPost_ret (v := .tuple #[.string (⟨#[]⟩), .bool false]) (by simp [results, Tryd.results87, go_sem]) rfl ⟨?_, below_seq (below_seq hb hb2) hb3⟩
        rw [HR.out]
      · have HR := Lib.hid (HY.out (by unfold cnameB; rw [k1, h2, h3]; rfl))
        have h3b : (wideS (lowS t.text) != 0) = false := by rw [bne, h3]; rfl
        clear HY HN hcn
        generalize hlw : lowS t.text = LW at *
        have HLW := Lib.hid hlw
        generalize hws : wideS LW = WS at *
        have HWS := Lib.hid hws
        clear hlw hws
        go_enter Tryd.func87, Tryd.ntmps87
        go_wp2_with (first | (go_at_call 63; (with_reducible refine (small_any _ _ _ _ _ hx).mono ?_); rintro e w2 ⟨rfl, hb2⟩; rw [HLW.out]; have HT2 := Lib.hid (HT.out.below hb2); have HC2 := Lib.hid (HBX.out.below hb2 (by simp)); have y0 : w2.cell? ⟨w.heap.size, 0, none⟩ = some (.int .i64 t.kind) := HC2.out.cell 0; have y1 : w2.cell? ⟨w.heap.size, 1, none⟩ = some (.string t.text) := HC2.out.cell 1) | (go_at_call 62; (with_reducible refine (wideWord_any _ _ HT2.out).mono ?_); rintro e w3 ⟨rfl, hb3⟩; rw [HWS.out]; have y2 : w3.cell? ⟨w.heap.size, 1, none⟩ = some (.string t.text) := (HC2.out.below hb3 HC2.out.lt).cell 1))
        refine bodyPost_ret (v := .tuple #[.string t.text, .bool true]) (by simp [results, Tryd.results87, go_sem]) rfl ⟨?_, below_seq (below_seq hb hb2) hb3⟩
        rw [HR.out]
    · have HR := Lib.hid (HN.out (by unfold cnameB; rw [k1, h2]; rfl))
      clear HY HN hcn
      generalize hlw : lowS t.text = LW at *
      have HLW := Lib.hid hlw
      clear hlw
      go_enter Tryd.func87, Tryd.ntmps87
      go_wp2_with (go_at_call 63; (with_reducible refine (small_any _ _ _ _ _ hx).mono ?_); rintro e w2 ⟨rfl, hb2⟩; rw [HLW.out]; have HC2 := Lib.hid (HBX.out.below hb2 (by simp)); have y0 : w2.cell? ⟨w.heap.size, 0, none⟩ = some (.int .i64 t.kind) := HC2.out.cell 0; have y1 : w2.cell? ⟨w.heap.size, 1, none⟩ = some (.string t.text) := HC2.out.cell 1)
      refine bodyPost_ret (v := .tuple #[.string (⟨#[]⟩), .bool false]) (by simp [results, Tryd.results87, go_sem]) rfl ⟨?_, below_seq hb hb2⟩
      rw [HR.out]
  · have k1 : (t.kind == 1) = false := by simpa using k1
    have k1b : (t.kind != 1) = true := by rw [bne, k1]; rfl
    have HR := Lib.hid (HN.out (by unfold cnameB; rw [k1]; rfl))
    clear HY HN hcn
    go_enter Tryd.func87, Tryd.ntmps87
    go_wp2_with (go_at_call 63; (with_reducible refine (small_any _ _ _ _ _ hx).mono ?_); rintro e w2 ⟨rfl, hb2⟩; have HC2 := Lib.hid (HBX.out.below hb2 (by simp)); have y0 : w2.cell? ⟨w.heap.size, 0, none⟩ = some (.int .i64 t.kind) := HC2.out.cell 0)
    refine bodyPost_ret (v := .tuple #[.string (⟨#[]⟩), .bool false]) (by simp [results, Tryd.results87, go_sem]) rfl ⟨?_, below_seq hb hb2⟩
    rw [HR.out]
set_option maxRecDepth 100000 in
set_option maxHeartbeats 1600000 in
theorem pnum_any {l : List Nd} {v : Value} {w : World} {P : Nat → Prop} (h : RdN w P v l) (hll : l.length ≤ 100000000) :
    Calls Tryd.prog 67 #[v] w fun e w' => e = .returned (.tuple #[.int .i64 (numH l).1, .bool (numH l).2]) ∧ Below w.heap.size w w' := by
  cases l with
  | nil =>
    obtain ⟨a, c, rfl, hlc⟩ := h.shape
    simp only [List.length_nil] at *
    go_enter Tryd.func67, Tryd.ntmps67
    go_wp2
    exact bodyPost_ret (v := .tuple #[.int .i64 0, .bool false]) (by simp [results, Tryd.results67, go_sem]) rfl ⟨rfl, Below.refl _ _⟩
  | cons m l =>
    obtain ⟨b, off, c2, u, rfl, hle2, _, hbl, hat, hku⟩ := h.at 0 (by simp)
    obtain ⟨t, k⟩ := m
    simp only [List.getElem_cons_zero, Nd.tok, Nd.kids] at hat hku
    obtain ⟨p0, p1, p2, p3, p4, p5, p6⟩ := hat
    simp only [Nat.zero_mul, Nat.add_zero] at p0 p1 p2 p3 p4 p5 p6
    obtain ⟨N, hN⟩ : ∃ N, l.length = N := ⟨_, rfl⟩
    rw [List.length_cons, hN] at hle2 hll ⊢
    have hn0 : ((N : Int) + 1 == 0) = false := beq_eq_false_iff_ne.2 (by omega)
    have hn1 : ¬ ((N : Int) + 1 = 0) := by omega
    have hn2 : (0 : Int) < (N : Int) + 1 := by omega
    clear h hku hN
    have HNH : Hid (numH (.mk t k :: l) = numS t) := rfl
    rw [HNH.out]
    by_cases h1 : (t.kind == 10) = true
    · have h1b : (t.kind != 10) = false := by rw [bne, h1]; rfl
      by_cases hw : t.whole = true
      · have HS : Hid (numS t = (t.int, true)) := if_pos (by rw [h1, hw]; rfl)
        rw [HS.out]
        go_enter Tryd.func67, Tryd.ntmps67
        go_wp2
        exact bodyPost_ret (v := .tuple #[.int .i64 t.int, .bool true]) (by simp [results, Tryd.results67, go_sem]) rfl ⟨rfl, Below.refl _ _⟩
      · have hw : t.whole = false := by simpa using hw
        have HS : Hid (numS t = (0, false)) := if_neg (by rw [h1, hw]; decide)
        rw [HS.out]
        go_enter Tryd.func67, Tryd.ntmps67
        go_wp2
        exact bodyPost_ret (v := .tuple #[.int .i64 0, .bool false]) (by simp [results, Tryd.results67, go_sem]) rfl ⟨rfl, Below.refl _ _⟩
    · have h1 : (t.kind == 10) = false := by simpa using h1
      have h1b : (t.kind != 10) = true := by rw [bne, h1]; rfl
      have HS : Hid (numS t = (0, false)) := if_neg (by rw [h1, Bool.false_and]; decide)
      rw [HS.out]
      go_enter Tryd.func67, Tryd.ntmps67
      go_wp2
      exact bodyPost_ret (v := .tuple #[.int .i64 0, .bool false]) (by simp [results, Tryd.results67, go_sem]) rfl ⟨rfl, Below.refl _ _⟩
end Go.Proofs.YtkpaokcgjeplpaaDoor
namespace Go.Proofs.YtkpaokcgjeplpaaDoor
open Go.RowKit
/-! prop: a counter. -/
abbrev revL : List UInt8 := [114, 101, 118, 101, 114, 115, 101, 100]
def revB (r : Bool) (t : Tok) : Bool := r && (t.kind == 2) && ((lowS t.text).toList == [114, 101, 118, 101, 114, 115, 101, 100])
def cntrS (r : Bool) (n : Nd) : PaD × Bool :=
  if revB r n.tok = true then
    match plnS n.kids with
    | [m] => ({ name := (cnameS m.tok).1, rev := true }, (cnameS m.tok).2)
    | _ => ({ name := ⟨#[]⟩ }, false)
  else ({ name := (cnameS n.tok).1 }, (cnameS n.tok).2)
theorem cntrS_no {r : Bool} {t : Tok} {k : List Nd} (h : revB r t = false) : cntrS r (.mk t k) = ({ name := (cnameS t).1 }, (cnameS t).2) := if_neg (by show ¬ revB r t = true; rw [h]; decide)
theorem cntrS_one {r : Bool} {t : Tok} {k : List Nd} {m : Nd} (h : revB r t = true) (hk : plnS k = [m]) : cntrS r (.mk t k) = ({ name := (cnameS m.tok).1, rev := true }, (cnameS m.tok).2) := by
  unfold cntrS
  rw [if_pos (show revB r (Nd.mk t k).tok = true from h), show (Nd.mk t k).kids = k from rfl, hk]
theorem cntrS_bad {r : Bool} {t : Tok} {k : List Nd} (h : revB r t = true) (hk : (plnS k).length ≠ 1) : cntrS r (.mk t k) = ({ name := ⟨#[]⟩ }, false) := by
  unfold cntrS
  rw [if_pos (show revB r (Nd.mk t k).tok = true from h), show (Nd.mk t k).kids = k from rfl]
  split
  · rename_i m hm
    rw [hm] at hk
    exact absurd rfl hk
  · rfl
abbrev cntV (u : Int) (r : Bool) : Value := .agg #[.int .i64 u, .bool r]
abbrev pz : Array Value := #[.string ⟨#[]⟩, .int .i64 0, .bool false, .bool false]
theorem pair_size : (Tryd.prog.info? 47).map (·.size) = some 4 := by kernel_rfl
def CntPost (w : World) (r : PaD × Bool) (e : Ending) (w' : World) : Prop := e = .returned (.tuple #[.agg #[.string r.1.name, .int .i64 r.1.n, .bool r.1.rev, .bool r.1.auto], .bool r.2]) ∧ Below w.heap.size w w'
set_option maxRecDepth 100000 in
set_option maxHeartbeats 3200000 in
theorem counter_f (un : Int) (t : Tok) (k : List Nd) (a : Option Addr) (n c : Nat) (w : World) (ht : TabP w) (hx : t.text.size ≤ 1000000000) :
    Calls Tryd.prog 66 #[cntV un false, nval t (.slice a n c)] w (CntPost w (cntrS false (.mk t k))) := by
  have HD : Hid (cntrS false (.mk t k) = ({ name := (cnameS t).1 }, (cnameS t).2)) := cntrS_no (by unfold revB; rfl)
  have hbA : Below w.heap.size w ((((w.alloc (.cells #[.int .i64 un, .bool false] 91)).alloc (.cells (nodeC t (.slice a n c)) 86)).alloc (.cells pz 47)).alloc (.cells #[.string ⟨#[]⟩, .int .i64 0, .bool false, .bool false] 47)) := ((((Below.refl w.heap.size w).alloc (Nat.le_refl _) _).alloc (by simp) _).alloc (by simp; omega) _).alloc (by simp; omega) _
  have HBA := Lib.hid hbA
  have HTA := Lib.hid (ht.below hbA)
  have HR4 : Hid (CB 47 ((((w.alloc (.cells #[.int .i64 un, .bool false] 91)).alloc (.cells (nodeC t (.slice a n c)) 86)).alloc (.cells pz 47)).alloc (.cells #[.string ⟨#[]⟩, .int .i64 0, .bool false, .bool false] 47)) (w.heap.size + 1 + 1) pz) := by
    have hh := CB.new (T := 47) ((w.alloc (.cells #[.int .i64 un, .bool false] 91)).alloc (.cells (nodeC t (.slice a n c)) 86)) pz
    rw [show ((w.alloc (.cells #[.int .i64 un, .bool false] 91)).alloc (.cells (nodeC t (.slice a n c)) 86)).heap.size = w.heap.size + 1 + 1 by simp] at hh
    exact hh.alloc _
  have HP4 : Hid (CB 47 ((((w.alloc (.cells #[.int .i64 un, .bool false] 91)).alloc (.cells (nodeC t (.slice a n c)) 86)).alloc (.cells pz 47)).alloc (.cells #[.string ⟨#[]⟩, .int .i64 0, .bool false, .bool false] 47)) (w.heap.size + 1 + 1 + 1) #[.string ⟨#[]⟩, .int .i64 0, .bool false, .bool false]) := by
    have hh := CB.new (T := 47) (((w.alloc (.cells #[.int .i64 un, .bool false] 91)).alloc (.cells (nodeC t (.slice a n c)) 86)).alloc (.cells pz 47)) #[.string ⟨#[]⟩, .int .i64 0, .bool false, .bool false]
    rw [show (((w.alloc (.cells #[.int .i64 un, .bool false] 91)).alloc (.cells (nodeC t (.slice a n c)) 86)).alloc (.cells pz 47)).heap.size = w.heap.size + 1 + 1 + 1 by simp] at hh
    exact hh
  have hsz : ((((w.alloc (.cells #[.int .i64 un, .bool false] 91)).alloc (.cells (nodeC t (.slice a n c)) 86)).alloc (.cells pz 47)).alloc (.cells #[.string ⟨#[]⟩, .int .i64 0, .bool false, .bool false] 47)).heap.size = w.heap.size + 1 + 1 + 1 + 1 := by simp
  have HSZ := Lib.hid hsz
  clear hbA hsz
  unfold CntPost
  generalize hcn : cnameS t = CN at *
  have HCN := Lib.hid hcn
  clear hcn
  go_enter Tryd.func66, Tryd.ntmps66
  go_wp2_with (go_at_call 87; refine (cname_any _ _ _ _ _ HTA.out hx).mono ?_; rintro e w5 ⟨rfl, hb5⟩; rw [HCN.out]; have HB5 := Lib.hid (below_seq HBA.out hb5); have HR5 := Lib.hid (HR4.out.below hb5 (by rw [HSZ.out]; omega)); have HP5 := Lib.hid (HP4.out.below hb5 (by rw [HSZ.out]; omega)); have z0 : w5.cell? ⟨w.heap.size + 1 + 1, 0, none⟩ = some (.string ⟨#[]⟩) := HR5.out.cell 0; have z1 : w5.cell? ⟨w.heap.size + 1 + 1, 1, none⟩ = some (.int .i64 0) := HR5.out.cell 1; have z2 : w5.cell? ⟨w.heap.size + 1 + 1, 2, none⟩ = some (.bool false) := HR5.out.cell 2; have z3 : w5.cell? ⟨w.heap.size + 1 + 1, 3, none⟩ = some (.bool false) := HR5.out.cell 3; have y0 : w5.cell? ⟨w.heap.size + 1 + 1 + 1, 0, none⟩ = some (.string ⟨#[]⟩) := HP5.out.cell 0; have y1 : w5.cell? ⟨w.heap.size + 1 + 1 + 1, 1, none⟩ = some (.int .i64 0) := HP5.out.cell 1; have y2 : w5.cell? ⟨w.heap.size + 1 + 1 + 1, 2, none⟩ = some (.bool false) := HP5.out.cell 2; have y3 : w5.cell? ⟨w.heap.size + 1 + 1 + 1, 3, none⟩ = some (.bool false) := HP5.out.cell 3; have f0 := HR5.out.frozen 0; have f1 := HR5.out.frozen 1; have f2 := HR5.out.frozen 2; have f3 := HR5.out.frozen 3; have g0 := HP5.out.frozen 0; have hs5 := HP5.out.lt)
  refine bodyPost_ret (v := .tuple #[.agg #[.string CN.1, .int .i64 0, .bool false, .bool false], .bool CN.2]) (res_box (by rfl) _ _ (w.heap.size + 1 + 1) _ _ _ _ (by rfl) (by rfl) (((HR5.out.far (p := ⟨w.heap.size + 1 + 1 + 1, 0, none⟩) (by show w.heap.size + 1 + 1 ≠ w.heap.size + 1 + 1 + 1; omega) (.string CN.1))).put4 (.string CN.1) (.int .i64 0) (.bool false) (.bool false)) Tryd.underlying47 (by rfl) pair_size) rfl ?_
  exact ⟨by rw [HD.out], put4_below (HB5.out.setCell (p := ⟨w.heap.size + 1 + 1 + 1, 0, none⟩) (by show w.heap.size ≤ w.heap.size + 1 + 1 + 1; omega) _) (by omega) _ _ _ _⟩
set_option maxRecDepth 100000 in
set_option maxHeartbeats 3200000 in
theorem counter_k (un : Int) (t : Tok) (k : List Nd) (a : Option Addr) (n c : Nat) (w : World) (ht : TabP w) (hx : t.text.size ≤ 1000000000) (hk : (t.kind == 2) = false) :
    Calls Tryd.prog 66 #[cntV un true, nval t (.slice a n c)] w (CntPost w (cntrS true (.mk t k))) := by
  have HD : Hid (cntrS true (.mk t k) = ({ name := (cnameS t).1 }, (cnameS t).2)) := cntrS_no (by unfold revB; rw [hk]; rfl)
  have hbA : Below w.heap.size w ((((w.alloc (.cells #[.int .i64 un, .bool true] 91)).alloc (.cells (nodeC t (.slice a n c)) 86)).alloc (.cells pz 47)).alloc (.cells #[.string ⟨#[]⟩, .int .i64 0, .bool false, .bool false] 47)) := ((((Below.refl w.heap.size w).alloc (Nat.le_refl _) _).alloc (by simp) _).alloc (by simp; omega) _).alloc (by simp; omega) _
  have HBA := Lib.hid hbA
  have HTA := Lib.hid (ht.below hbA)
  have HR4 : Hid (CB 47 ((((w.alloc (.cells #[.int .i64 un, .bool true] 91)).alloc (.cells (nodeC t (.slice a n c)) 86)).alloc (.cells pz 47)).alloc (.cells #[.string ⟨#[]⟩, .int .i64 0, .bool false, .bool false] 47)) (w.heap.size + 1 + 1) pz) := by
    have hh := CB.new (T := 47) ((w.alloc (.cells #[.int .i64 un, .bool true] 91)).alloc (.cells (nodeC t (.slice a n c)) 86)) pz
    rw [show ((w.alloc (.cells #[.int .i64 un, .bool true] 91)).alloc (.cells (nodeC t (.slice a n c)) 86)).heap.size = w.heap.size + 1 + 1 by simp] at hh
    exact hh.alloc _
  have HP4 : Hid (CB 47 ((((w.alloc (.cells #[.int .i64 un, .bool true] 91)).alloc (.cells (nodeC t (.slice a n c)) 86)).alloc (.cells pz 47)).alloc (.cells #[.string ⟨#[]⟩, .int .i64 0, .bool false, .bool false] 47)) (w.heap.size + 1 + 1 + 1) #[.string ⟨#[]⟩, .int .i64 0, .bool false, .bool false]) := by
    have hh := CB.new (T := 47) (((w.alloc (.cells #[.int .i64 un, .bool true] 91)).alloc (.cells (nodeC t (.slice a n c)) 86)).alloc (.cells pz 47)) #[.string ⟨#[]⟩, .int .i64 0, .bool false, .bool false]
    rw [show (((w.alloc (.cells #[.int .i64 un, .bool true] 91)).alloc (.cells (nodeC t (.slice a n c)) 86)).alloc (.cells pz 47)).heap.size = w.heap.size + 1 + 1 + 1 by simp] at hh
    exact hh
  have hsz : ((((w.alloc (.cells #[.int .i64 un, .bool true] 91)).alloc (.cells (nodeC t (.slice a n c)) 86)).alloc (.cells pz 47)).alloc (.cells #[.string ⟨#[]⟩, .int .i64 0, .bool false, .bool false] 47)).heap.size = w.heap.size + 1 + 1 + 1 + 1 := by simp
  have HSZ := Lib.hid hsz
  clear hbA hsz
  unfold CntPost
  generalize hcn : cnameS t = CN at *
  have HCN := Lib.hid hcn
  clear hcn
  go_enter Tryd.func66, Tryd.ntmps66
  go_wp2_with (go_at_call 87; refine (cname_any _ _ _ _ _ HTA.out hx).mono ?_; rintro e w5 ⟨rfl, hb5⟩; rw [HCN.out]; have HB5 := Lib.hid (below_seq HBA.out hb5); have HR5 := Lib.hid (HR4.out.below hb5 (by rw [HSZ.out]; omega)); have HP5 := Lib.hid (HP4.out.below hb5 (by rw [HSZ.out]; omega)); have z0 : w5.cell? ⟨w.heap.size + 1 + 1, 0, none⟩ = some (.string ⟨#[]⟩) := HR5.out.cell 0; have z1 : w5.cell? ⟨w.heap.size + 1 + 1, 1, none⟩ = some (.int .i64 0) := HR5.out.cell 1; have z2 : w5.cell? ⟨w.heap.size + 1 + 1, 2, none⟩ = some (.bool false) := HR5.out.cell 2; have z3 : w5.cell? ⟨w.heap.size + 1 + 1, 3, none⟩ = some (.bool false) := HR5.out.cell 3; have y0 : w5.cell? ⟨w.heap.size + 1 + 1 + 1, 0, none⟩ = some (.string ⟨#[]⟩) := HP5.out.cell 0; have y1 : w5.cell? ⟨w.heap.size + 1 + 1 + 1, 1, none⟩ = some (.int .i64 0) := HP5.out.cell 1; have y2 : w5.cell? ⟨w.heap.size + 1 + 1 + 1, 2, none⟩ = some (.bool false) := HP5.out.cell 2; have y3 : w5.cell? ⟨w.heap.size + 1 + 1 + 1, 3, none⟩ = some (.bool false) := HP5.out.cell 3; have f0 := HR5.out.frozen 0; have f1 := HR5.out.frozen 1; have f2 := HR5.out.frozen 2; have f3 := HR5.out.frozen 3; have g0 := HP5.out.frozen 0; have hs5 := HP5.out.lt)
  refine bodyPost_ret (v := .tuple #[.agg #[.string CN.1, .int .i64 0, .bool false, .bool false], .bool CN.2]) (res_box (by rfl) _ _ (w.heap.size + 1 + 1) _ _ _ _ (by rfl) (by rfl) (((HR5.out.far (p := ⟨w.heap.size + 1 + 1 + 1, 0, none⟩) (by show w.heap.size + 1 + 1 ≠ w.heap.size + 1 + 1 + 1; omega) (.string CN.1))).put4 (.string CN.1) (.int .i64 0) (.bool false) (.bool false)) Tryd.underlying47 (by rfl) pair_size) rfl ?_
  exact ⟨by rw [HD.out], put4_below (HB5.out.setCell (p := ⟨w.heap.size + 1 + 1 + 1, 0, none⟩) (by show w.heap.size ≤ w.heap.size + 1 + 1 + 1; omega) _) (by omega) _ _ _ _⟩
set_option maxRecDepth 100000 in
set_option maxHeartbeats 3200000 in
theorem counter_n (un : Int) (t : Tok) (k : List Nd) (a : Option Addr) (n c : Nat) (w : World) (ht : TabP w) (hx : t.text.size ≤ 1000000000) (hk : (t.kind == 2) = true) (hr : ((lowS t.text).toList == [114, 101, 118, 101, 114, 115, 101, 100]) = false) :
    Calls Tryd.prog 66 #[cntV un true, nval t (.slice a n c)] w (CntPost w (cntrS true (.mk t k))) := by
  have HD : Hid (cntrS true (.mk t k) = ({ name := (cnameS t).1 }, (cnameS t).2)) := cntrS_no (by unfold revB; rw [hk, hr]; rfl)
  have hbA : Below w.heap.size w (((w.alloc (.cells #[.int .i64 un, .bool true] 91)).alloc (.cells (nodeC t (.slice a n c)) 86)).alloc (.cells pz 47)) := (((Below.refl w.heap.size w).alloc (Nat.le_refl _) _).alloc (by simp) _).alloc (by simp; omega) _
  have HBA := Lib.hid hbA
  have HTA := Lib.hid (ht.below hbA)
  have HR3 : Hid (CB 47 (((w.alloc (.cells #[.int .i64 un, .bool true] 91)).alloc (.cells (nodeC t (.slice a n c)) 86)).alloc (.cells pz 47)) (w.heap.size + 1 + 1) pz) := by
    have hh := CB.new (T := 47) ((w.alloc (.cells #[.int .i64 un, .bool true] 91)).alloc (.cells (nodeC t (.slice a n c)) 86)) pz
    rw [show ((w.alloc (.cells #[.int .i64 un, .bool true] 91)).alloc (.cells (nodeC t (.slice a n c)) 86)).heap.size = w.heap.size + 1 + 1 by simp] at hh
    exact hh
  have HN3 : Hid (CB 86 (((w.alloc (.cells #[.int .i64 un, .bool true] 91)).alloc (.cells (nodeC t (.slice a n c)) 86)).alloc (.cells pz 47)) (w.heap.size + 1) (nodeC t (.slice a n c))) := by
    have hh := CB.new (T := 86) (w.alloc (.cells #[.int .i64 un, .bool true] 91)) (nodeC t (.slice a n c))
    rw [show (w.alloc (.cells #[.int .i64 un, .bool true] 91)).heap.size = w.heap.size + 1 by simp] at hh
    exact hh.alloc _
  have hsz : (((w.alloc (.cells #[.int .i64 un, .bool true] 91)).alloc (.cells (nodeC t (.slice a n c)) 86)).alloc (.cells pz 47)).heap.size = w.heap.size + 1 + 1 + 1 := by simp
  have HSZ := Lib.hid hsz
  clear hbA hsz
  unfold CntPost
  generalize hcn : cnameS t = CN at *
  have HCN := Lib.hid hcn
  generalize hlw : lowS t.text = LW at *
  have HLW := Lib.hid hlw
  clear hcn hlw
  go_enter Tryd.func66, Tryd.ntmps66
  go_wp2_with (first | (go_at_call 63; refine (small_any _ _ _ _ _ hx).mono ?_; rintro e w2 ⟨rfl, hb2⟩; rw [HLW.out]; have HB2 := Lib.hid (below_seq HBA.out hb2); have HR2 := Lib.hid (HR3.out.below hb2 (by simp <;> omega)); have HN2 := Lib.hid (HN3.out.below hb2 (by simp <;> omega)); have HT2 := Lib.hid (HTA.out.below hb2); have hs2 : w.heap.size + 1 + 1 + 1 ≤ w2.heap.size := (by have h := hb2.size; simp at h; omega); have n0 : w2.cell? ⟨w.heap.size + 1, 0, none⟩ = some (.int .i64 t.kind) := HN2.out.cell 0; have n1 : w2.cell? ⟨w.heap.size + 1, 1, none⟩ = some (.string t.text) := HN2.out.cell 1; have n2 : w2.cell? ⟨w.heap.size + 1, 2, none⟩ = some (.int .i64 t.int) := HN2.out.cell 2; have n3 : w2.cell? ⟨w.heap.size + 1, 3, none⟩ = some (.bool t.whole) := HN2.out.cell 3; have n4 : w2.cell? ⟨w.heap.size + 1, 4, none⟩ = some (.bool t.sign) := HN2.out.cell 4; have n5 : w2.cell? ⟨w.heap.size + 1, 5, none⟩ = some (.bool t.id) := HN2.out.cell 5; have n6 : w2.cell? ⟨w.heap.size + 1, 6, none⟩ = some (.slice a n c) := HN2.out.cell 6; have hs2a : w.heap.size + 1 < w2.heap.size := (by omega); have hs2b : w.heap.size + 1 + 1 < w2.heap.size := (by omega); have HBP := Lib.hid (Below.alloc (Below.refl w2.heap.size w2) (Nat.le_refl _) (.cells #[.string ⟨#[]⟩, .int .i64 0, .bool false, .bool false] 47)); have HP2 := Lib.hid (CB.new (T := 47) w2 #[.string ⟨#[]⟩, .int .i64 0, .bool false, .bool false])) | (go_at_call 87; refine (cname_any _ _ _ _ _ (HT2.out.below HBP.out) hx).mono ?_; rintro e w5 ⟨rfl, hb5⟩; rw [HCN.out]; have HB5 := Lib.hid (below_seq HB2.out (below_seq HBP.out hb5)); have HR5 := Lib.hid ((HR2.out.below HBP.out (by omega)).below hb5 (by simp <;> omega)); have HP5 := Lib.hid (HP2.out.below hb5 (by simp)); have z0 : w5.cell? ⟨w.heap.size + 1 + 1, 0, none⟩ = some (.string ⟨#[]⟩) := HR5.out.cell 0; have z1 : w5.cell? ⟨w.heap.size + 1 + 1, 1, none⟩ = some (.int .i64 0) := HR5.out.cell 1; have z2 : w5.cell? ⟨w.heap.size + 1 + 1, 2, none⟩ = some (.bool false) := HR5.out.cell 2; have z3 : w5.cell? ⟨w.heap.size + 1 + 1, 3, none⟩ = some (.bool false) := HR5.out.cell 3; have y0 : w5.cell? ⟨w2.heap.size, 0, none⟩ = some (.string ⟨#[]⟩) := HP5.out.cell 0; have y1 : w5.cell? ⟨w2.heap.size, 1, none⟩ = some (.int .i64 0) := HP5.out.cell 1; have y2 : w5.cell? ⟨w2.heap.size, 2, none⟩ = some (.bool false) := HP5.out.cell 2; have y3 : w5.cell? ⟨w2.heap.size, 3, none⟩ = some (.bool false) := HP5.out.cell 3; have f0 := HR5.out.frozen 0; have f1 := HR5.out.frozen 1; have f2 := HR5.out.frozen 2; have f3 := HR5.out.frozen 3; have g0 := HP5.out.frozen 0; have hs5 := HP5.out.lt; have hne : w2.heap.size ≠ w.heap.size + 1 + 1 := (by omega); have hne2 : w.heap.size + 1 + 1 ≠ w2.heap.size := (by omega)))
  refine bodyPost_ret (v := .tuple #[.agg #[.string CN.1, .int .i64 0, .bool false, .bool false], .bool CN.2]) (res_box (by rfl) _ _ (w.heap.size + 1 + 1) _ _ _ _ (by rfl) (by rfl) (((HR5.out.far (p := ⟨w2.heap.size, 0, none⟩) hne2 (.string CN.1))).put4 (.string CN.1) (.int .i64 0) (.bool false) (.bool false)) Tryd.underlying47 (by rfl) pair_size) rfl ?_
  exact ⟨by rw [HD.out], put4_below (HB5.out.setCell (p := ⟨w2.heap.size, 0, none⟩) (by show w.heap.size ≤ w2.heap.size; omega) _) (by omega) _ _ _ _⟩
set_option maxRecDepth 100000 in
set_option maxHeartbeats 6400000 in
theorem counter_b (un : Int) (t : Tok) {k : List Nd} {a : Option Addr} {n c : Nat} {w : World} {P : Nat → Prop} (hku : RdN w P (.slice a n c) k) (ht : TabP w) (hx : t.text.size ≤ 1000000000) (hl : szL k ≤ 100000000) (hk : (t.kind == 2) = true) (hr : ((lowS t.text).toList == [114, 101, 118, 101, 114, 115, 101, 100]) = true) (hm : (plnS k).length ≠ 1) :
    Calls Tryd.prog 66 #[cntV un true, nval t (.slice a n c)] w (CntPost w (cntrS true (.mk t k))) := by
  have hrb : revB true t = true := by unfold revB; rw [hk, hr]; rfl
  have HD : Hid (cntrS true (.mk t k) = ({ name := ⟨#[]⟩ }, false)) := cntrS_bad hrb hm
  have hkz := szL_ge k
  have hpl : (plnS k).length ≤ k.length := by unfold plnS; exact List.length_filter_le _ _
  obtain ⟨M, hM⟩ : ∃ M, (plnS k).length = M := ⟨_, rfl⟩
  have HM := Lib.hid hM
  rw [hM] at hm hpl
  have hm1 : ((M : Int) == 1) = false := beq_eq_false_iff_ne.2 (by omega)
  have hm2 : ((M : Int) != 1) = true := by rw [bne, hm1]; rfl
  have hm3 : ¬ (M : Int) = 1 := by omega
  have hbA : Below w.heap.size w (((w.alloc (.cells #[.int .i64 un, .bool true] 91)).alloc (.cells (nodeC t (.slice a n c)) 86)).alloc (.cells pz 47)) := (((Below.refl w.heap.size w).alloc (Nat.le_refl _) _).alloc (by simp) _).alloc (by simp; omega) _
  have HBA := Lib.hid hbA
  have HTA := Lib.hid (ht.below hbA)
  have HR3 : Hid (CB 47 (((w.alloc (.cells #[.int .i64 un, .bool true] 91)).alloc (.cells (nodeC t (.slice a n c)) 86)).alloc (.cells pz 47)) (w.heap.size + 1 + 1) pz) := by
    have hh := CB.new (T := 47) ((w.alloc (.cells #[.int .i64 un, .bool true] 91)).alloc (.cells (nodeC t (.slice a n c)) 86)) pz
    rw [show ((w.alloc (.cells #[.int .i64 un, .bool true] 91)).alloc (.cells (nodeC t (.slice a n c)) 86)).heap.size = w.heap.size + 1 + 1 by simp] at hh
    exact hh
  have HN3 : Hid (CB 86 (((w.alloc (.cells #[.int .i64 un, .bool true] 91)).alloc (.cells (nodeC t (.slice a n c)) 86)).alloc (.cells pz 47)) (w.heap.size + 1) (nodeC t (.slice a n c))) := by
    have hh := CB.new (T := 86) (w.alloc (.cells #[.int .i64 un, .bool true] 91)) (nodeC t (.slice a n c))
    rw [show (w.alloc (.cells #[.int .i64 un, .bool true] 91)).heap.size = w.heap.size + 1 by simp] at hh
    exact hh.alloc _
  have hsz : (((w.alloc (.cells #[.int .i64 un, .bool true] 91)).alloc (.cells (nodeC t (.slice a n c)) 86)).alloc (.cells pz 47)).heap.size = w.heap.size + 1 + 1 + 1 := by simp
  have HSZ := Lib.hid hsz
  clear hbA hsz
  unfold CntPost
  generalize hlw : lowS t.text = LW at *
  have HLW := Lib.hid hlw
  clear hlw hrb hM
  go_enter Tryd.func66, Tryd.ntmps66
  go_wp2_with (first | (go_at_call 63; refine (small_any _ _ _ _ _ hx).mono ?_; rintro e w2 ⟨rfl, hb2⟩; rw [HLW.out]; have HB2 := Lib.hid (below_seq HBA.out hb2); have HR2 := Lib.hid (HR3.out.below hb2 (by simp <;> omega)); have HN2 := Lib.hid (HN3.out.below hb2 (by simp <;> omega)); have HT2 := Lib.hid (HTA.out.below hb2); have hs2 : w.heap.size + 1 + 1 + 1 ≤ w2.heap.size := (by have h := hb2.size; simp at h; omega); have n0 : w2.cell? ⟨w.heap.size + 1, 0, none⟩ = some (.int .i64 t.kind) := HN2.out.cell 0; have n1 : w2.cell? ⟨w.heap.size + 1, 1, none⟩ = some (.string t.text) := HN2.out.cell 1; have n2 : w2.cell? ⟨w.heap.size + 1, 2, none⟩ = some (.int .i64 t.int) := HN2.out.cell 2; have n3 : w2.cell? ⟨w.heap.size + 1, 3, none⟩ = some (.bool t.whole) := HN2.out.cell 3; have n4 : w2.cell? ⟨w.heap.size + 1, 4, none⟩ = some (.bool t.sign) := HN2.out.cell 4; have n5 : w2.cell? ⟨w.heap.size + 1, 5, none⟩ = some (.bool t.id) := HN2.out.cell 5; have n6 : w2.cell? ⟨w.heap.size + 1, 6, none⟩ = some (.slice a n c) := HN2.out.cell 6; have hs2a : w.heap.size + 1 < w2.heap.size := (by omega); have hs2b : w.heap.size + 1 + 1 < w2.heap.size := (by omega); have HBP := Lib.hid (Below.alloc (Below.refl w2.heap.size w2) (Nat.le_refl _) (.cells #[.string ⟨#[]⟩, .int .i64 0, .bool true, .bool false] 47)); have HP2 := Lib.hid (CB.new (T := 47) w2 #[.string ⟨#[]⟩, .int .i64 0, .bool true, .bool false]); have y2q : (w2.alloc (.cells #[.string ⟨#[]⟩, .int .i64 0, .bool true, .bool false] 47)).cell? ⟨w2.heap.size, 2, none⟩ = some (.bool true) := HP2.out.cell 2; have HKU := Lib.hid (hku.under (below_seq HB2.out HBP.out) (Nat.le_refl _))) | (go_at_call 48; refine (pww_any HKU.out hl).mono ?_; rintro e w3 ⟨⟨v3, rfl, hv3⟩, hb3⟩; obtain ⟨a3, c3, rfl, hc3⟩ := hv3.shape; have HB4 := Lib.hid (below_seq HB2.out (below_seq HBP.out hb3)); have HN4 := Lib.hid ((HN2.out.below HBP.out (by omega)).below hb3 (by simp <;> omega)); have HR4 := Lib.hid ((HR2.out.below HBP.out (by omega)).below hb3 (by simp <;> omega)); have HP4 := Lib.hid (HP2.out.below hb3 (by simp)); have hs3 := HP4.out.lt; have hs3a : w.heap.size + 1 < w3.heap.size := (by omega); have hs3b : w.heap.size + 1 + 1 < w3.heap.size := (by omega); have r0 : w3.cell? ⟨w.heap.size + 1 + 1, 0, none⟩ = some (.string ⟨#[]⟩) := HR4.out.cell 0; have r1 : w3.cell? ⟨w.heap.size + 1 + 1, 1, none⟩ = some (.int .i64 0) := HR4.out.cell 1; have r2 : w3.cell? ⟨w.heap.size + 1 + 1, 2, none⟩ = some (.bool false) := HR4.out.cell 2; have r3 : w3.cell? ⟨w.heap.size + 1 + 1, 3, none⟩ = some (.bool false) := HR4.out.cell 3; have rf0 := HR4.out.frozen 0; have rf1 := HR4.out.frozen 1; have rf2 := HR4.out.frozen 2; have rf3 := HR4.out.frozen 3; rw [HM.out]))
  refine bodyPost_ret (v := .tuple #[.agg pz, .bool false]) (res_box (by rfl) _ _ (w.heap.size + 1 + 1) _ _ _ _ (by rfl) (by rfl) (HR4.out.put4 (.string ⟨#[]⟩) (.int .i64 0) (.bool false) (.bool false)) Tryd.underlying47 (by rfl) pair_size) rfl ?_
  exact ⟨by rw [HD.out], put4_below HB4.out (by omega) _ _ _ _⟩
set_option maxRecDepth 100000 in
set_option maxHeartbeats 6400000 in
theorem counter_o (un : Int) (t : Tok) {k : List Nd} {a : Option Addr} {n c : Nat} {w : World} {P : Nat → Prop} (hku : RdN w P (.slice a n c) k) (ht : TabP w) (hx : t.text.size ≤ 1000000000) (hl : szL k ≤ 100000000) (hk : (t.kind == 2) = true) (hr : ((lowS t.text).toList == [114, 101, 118, 101, 114, 115, 101, 100]) = true) {m : Nd} (hm : plnS k = [m]) (hx3 : m.tok.text.size ≤ 1000000000) :
    Calls Tryd.prog 66 #[cntV un true, nval t (.slice a n c)] w (CntPost w (cntrS true (.mk t k))) := by
  have hrb : revB true t = true := by unfold revB; rw [hk, hr]; rfl
  have HD : Hid (cntrS true (.mk t k) = ({ name := (cnameS m.tok).1, rev := true }, (cnameS m.tok).2)) := cntrS_one hrb hm
  obtain ⟨t3, k3⟩ := m
  simp only [Nd.tok] at hx3 HD
  have hbA : Below w.heap.size w (((w.alloc (.cells #[.int .i64 un, .bool true] 91)).alloc (.cells (nodeC t (.slice a n c)) 86)).alloc (.cells pz 47)) := (((Below.refl w.heap.size w).alloc (Nat.le_refl _) _).alloc (by simp) _).alloc (by simp; omega) _
  have HBA := Lib.hid hbA
  have HTA := Lib.hid (ht.below hbA)
  have HR3 : Hid (CB 47 (((w.alloc (.cells #[.int .i64 un, .bool true] 91)).alloc (.cells (nodeC t (.slice a n c)) 86)).alloc (.cells pz 47)) (w.heap.size + 1 + 1) pz) := by
    have hh := CB.new (T := 47) ((w.alloc (.cells #[.int .i64 un, .bool true] 91)).alloc (.cells (nodeC t (.slice a n c)) 86)) pz
    rw [show ((w.alloc (.cells #[.int .i64 un, .bool true] 91)).alloc (.cells (nodeC t (.slice a n c)) 86)).heap.size = w.heap.size + 1 + 1 by simp] at hh
    exact hh
  have HN3 : Hid (CB 86 (((w.alloc (.cells #[.int .i64 un, .bool true] 91)).alloc (.cells (nodeC t (.slice a n c)) 86)).alloc (.cells pz 47)) (w.heap.size + 1) (nodeC t (.slice a n c))) := by
    have hh := CB.new (T := 86) (w.alloc (.cells #[.int .i64 un, .bool true] 91)) (nodeC t (.slice a n c))
    rw [show (w.alloc (.cells #[.int .i64 un, .bool true] 91)).heap.size = w.heap.size + 1 by simp] at hh
    exact hh.alloc _
  have hsz : (((w.alloc (.cells #[.int .i64 un, .bool true] 91)).alloc (.cells (nodeC t (.slice a n c)) 86)).alloc (.cells pz 47)).heap.size = w.heap.size + 1 + 1 + 1 := by simp
  have HSZ := Lib.hid hsz
  clear hbA hsz
  unfold CntPost
  generalize hcn : cnameS t3 = CN at *
  have HCN := Lib.hid hcn
  generalize hlw : lowS t.text = LW at *
  have HLW := Lib.hid hlw
  clear hlw hrb hcn
  go_enter Tryd.func66, Tryd.ntmps66
  go_wp2_with (first | (go_at_call 63; refine (small_any _ _ _ _ _ hx).mono ?_; rintro e w2 ⟨rfl, hb2⟩; rw [HLW.out]; have HB2 := Lib.hid (below_seq HBA.out hb2); have HR2 := Lib.hid (HR3.out.below hb2 (by simp <;> omega)); have HN2 := Lib.hid (HN3.out.below hb2 (by simp <;> omega)); have HT2 := Lib.hid (HTA.out.below hb2); have hs2 : w.heap.size + 1 + 1 + 1 ≤ w2.heap.size := (by have h := hb2.size; simp at h; omega); have n0 : w2.cell? ⟨w.heap.size + 1, 0, none⟩ = some (.int .i64 t.kind) := HN2.out.cell 0; have n1 : w2.cell? ⟨w.heap.size + 1, 1, none⟩ = some (.string t.text) := HN2.out.cell 1; have n2 : w2.cell? ⟨w.heap.size + 1, 2, none⟩ = some (.int .i64 t.int) := HN2.out.cell 2; have n3 : w2.cell? ⟨w.heap.size + 1, 3, none⟩ = some (.bool t.whole) := HN2.out.cell 3; have n4 : w2.cell? ⟨w.heap.size + 1, 4, none⟩ = some (.bool t.sign) := HN2.out.cell 4; have n5 : w2.cell? ⟨w.heap.size + 1, 5, none⟩ = some (.bool t.id) := HN2.out.cell 5; have n6 : w2.cell? ⟨w.heap.size + 1, 6, none⟩ = some (.slice a n c) := HN2.out.cell 6; have hs2a : w.heap.size + 1 < w2.heap.size := (by omega); have hs2b : w.heap.size + 1 + 1 < w2.heap.size := (by omega); have HBP := Lib.hid (Below.alloc (Below.refl w2.heap.size w2) (Nat.le_refl _) (.cells #[.string ⟨#[]⟩, .int .i64 0, .bool true, .bool false] 47)); have HP2 := Lib.hid (CB.new (T := 47) w2 #[.string ⟨#[]⟩, .int .i64 0, .bool true, .bool false]); have y2q : (w2.alloc (.cells #[.string ⟨#[]⟩, .int .i64 0, .bool true, .bool false] 47)).cell? ⟨w2.heap.size, 2, none⟩ = some (.bool true) := HP2.out.cell 2; have HKU := Lib.hid (hku.under (below_seq HB2.out HBP.out) (Nat.le_refl _))) | (go_at_call 48; refine (pww_any HKU.out hl).mono ?_; rintro e w3 ⟨⟨v3, rfl, hv3⟩, hb3⟩; rw [hm] at hv3; obtain ⟨b3, off3, c3, u3, rfl, _, _, hbl3, hat3, hku3⟩ := hv3.at 0 (by simp); simp only [List.getElem_cons_zero, Nd.tok, Nd.kids] at hat3 hku3; obtain ⟨ua, uc, rfl, _⟩ := hku3.shape; obtain ⟨q0, q1, q2, q3, q4, q5, q6⟩ := hat3; simp only [Nat.zero_mul, Nat.add_zero] at q0 q1 q2 q3 q4 q5 q6; have HB4 := Lib.hid (below_seq HB2.out (below_seq HBP.out hb3)); have HN4 := Lib.hid ((HN2.out.below HBP.out (by omega)).below hb3 (by simp <;> omega)); have HR4 := Lib.hid ((HR2.out.below HBP.out (by omega)).below hb3 (by simp <;> omega)); have HP4 := Lib.hid (HP2.out.below hb3 (by simp)); have hs3 := HP4.out.lt; have hs3a : w.heap.size + 1 < w3.heap.size := (by omega); have hs3b : w.heap.size + 1 + 1 < w3.heap.size := (by omega); have m0 : w3.cell? ⟨w.heap.size + 1, 0, none⟩ = some (.int .i64 t.kind) := HN4.out.cell 0; have m1 : w3.cell? ⟨w.heap.size + 1, 1, none⟩ = some (.string t.text) := HN4.out.cell 1; have m2 : w3.cell? ⟨w.heap.size + 1, 2, none⟩ = some (.int .i64 t.int) := HN4.out.cell 2; have m3 : w3.cell? ⟨w.heap.size + 1, 3, none⟩ = some (.bool t.whole) := HN4.out.cell 3; have m4 : w3.cell? ⟨w.heap.size + 1, 4, none⟩ = some (.bool t.sign) := HN4.out.cell 4; have m5 : w3.cell? ⟨w.heap.size + 1, 5, none⟩ = some (.bool t.id) := HN4.out.cell 5; have m6 : w3.cell? ⟨w.heap.size + 1, 6, none⟩ = some (.slice a n c) := HN4.out.cell 6; have mf0 := HN4.out.frozen 0; have mf1 := HN4.out.frozen 1; have mf2 := HN4.out.frozen 2; have mf3 := HN4.out.frozen 3; have mf4 := HN4.out.frozen 4; have mf5 := HN4.out.frozen 5; have mf6 := HN4.out.frozen 6; have HB7 := Lib.hid (setsS_below (b := w.heap.size + 1) (by omega) (nodeC t3 (.slice ua k3.length uc)).toList 0 w3 HB4.out); have HT7 := Lib.hid (ht.below HB7.out); have HR7 := Lib.hid (CB.farS (show w.heap.size + 1 + 1 ≠ w.heap.size + 1 by omega) (nodeC t3 (.slice ua k3.length uc)).toList 0 w3 HR4.out); have HP7 := Lib.hid (CB.farS (show w2.heap.size ≠ w.heap.size + 1 by omega) (nodeC t3 (.slice ua k3.length uc)).toList 0 w3 HP4.out)) | (go_at_call 87; refine (cname_any _ _ _ _ _ HT7.out hx3).mono ?_; rintro e w5 ⟨rfl, hb5⟩; rw [HCN.out]; have HB5 := Lib.hid (below_seq HB7.out hb5); have HR5 := Lib.hid (HR7.out.below hb5 HR7.out.lt); have HP5 := Lib.hid (HP7.out.below hb5 HP7.out.lt); have z0 : w5.cell? ⟨w.heap.size + 1 + 1, 0, none⟩ = some (.string ⟨#[]⟩) := HR5.out.cell 0; have z1 : w5.cell? ⟨w.heap.size + 1 + 1, 1, none⟩ = some (.int .i64 0) := HR5.out.cell 1; have z2 : w5.cell? ⟨w.heap.size + 1 + 1, 2, none⟩ = some (.bool false) := HR5.out.cell 2; have z3 : w5.cell? ⟨w.heap.size + 1 + 1, 3, none⟩ = some (.bool false) := HR5.out.cell 3; have y0 : w5.cell? ⟨w2.heap.size, 0, none⟩ = some (.string ⟨#[]⟩) := HP5.out.cell 0; have y1 : w5.cell? ⟨w2.heap.size, 1, none⟩ = some (.int .i64 0) := HP5.out.cell 1; have y2 : w5.cell? ⟨w2.heap.size, 2, none⟩ = some (.bool true) := HP5.out.cell 2; have y3 : w5.cell? ⟨w2.heap.size, 3, none⟩ = some (.bool false) := HP5.out.cell 3; have f0 := HR5.out.frozen 0; have f1 := HR5.out.frozen 1; have f2 := HR5.out.frozen 2; have f3 := HR5.out.frozen 3; have g0 := HP5.out.frozen 0; have hs5 := HP5.out.lt; have hne : w2.heap.size ≠ w.heap.size + 1 + 1 := (by omega); have hne2 : w.heap.size + 1 + 1 ≠ w2.heap.size := (by omega)))
  refine bodyPost_ret (v := .tuple #[.agg #[.string CN.1, .int .i64 0, .bool true, .bool false], .bool CN.2]) (res_box (by rfl) _ _ (w.heap.size + 1 + 1) _ _ _ _ (by rfl) (by rfl) (((HR5.out.far (p := ⟨w2.heap.size, 0, none⟩) hne2 (.string CN.1))).put4 (.string CN.1) (.int .i64 0) (.bool true) (.bool false)) Tryd.underlying47 (by rfl) pair_size) rfl ?_
  exact ⟨by rw [HD.out], put4_below (HB5.out.setCell (p := ⟨w2.heap.size, 0, none⟩) (by show w.heap.size ≤ w2.heap.size; omega) _) (by omega) _ _ _ _⟩
theorem counter_any (un : Int) (rv : Bool) {nd : Nd} {a : Option Addr} {n c : Nat} {w : World} {P : Nat → Prop} (hku : RdN w P (.slice a n c) nd.kids) (ht : TabP w) (hx : nd.tok.text.size ≤ 1000000000) (hxk : TX nd.kids) (hl : szL nd.kids ≤ 100000000) :
    Calls Tryd.prog 66 #[cntV un rv, nval nd.tok (.slice a n c)] w (CntPost w (cntrS rv nd)) := by
  obtain ⟨t, k⟩ := nd
  simp only [Nd.tok, Nd.kids] at *
  cases rv with
  | false => exact counter_f un t k a n c w ht hx
  | true =>
    cases hk : (t.kind == 2) with
    | false => exact counter_k un t k a n c w ht hx hk
    | true =>
      cases hr : ((lowS t.text).toList == [114, 101, 118, 101, 114, 115, 101, 100]) with
      | false => exact counter_n un t k a n c w ht hx hk hr
      | true =>
        by_cases hm : (plnS k).length = 1
        · obtain ⟨m, hm⟩ := List.length_eq_one_iff.1 hm
          exact counter_o un t hku ht hx hl hk hr hm (hxk m ((List.mem_filter.1 (show m ∈ plnS k by rw [hm]; simp)).1))
        · exact counter_b un t hku ht hx hl hk hr hm
end Go.Proofs.YtkpaokcgjeplpaaDoor
namespace Go.Proofs.YtkpaokcgjeplpaaDoor
open Go.RowKit
/-! prop: counters. -/
def cntP (un : Int) (p : PaD) : PaD := if p.rev = true then { p with auto := true } else { p with n := un }
def cntsF (un : Int) (rv : Bool) : List PaD → List Nd → List PaD × Bool
  | acc, [] => (acc, decide (0 < acc.length))
  | acc, nd :: l =>
    if ((cntrS rv nd).2 && !(acc.length == 32)) = true then
      (if (numH l).2 = true then cntsF un rv (acc ++ [{ (cntrS rv nd).1 with n := (numH l).1 }]) (l.drop 1)
      else cntsF un rv (acc ++ [cntP un (cntrS rv nd).1]) l)
    else ([], false)
  termination_by _ l => l.length
  decreasing_by all_goals simp <;> omega
def TXK (l : List Nd) : Prop := ∀ n ∈ l, TX n.kids
theorem cell_far {w : World} {ob : Obj} {p : Addr} {v : Value} (h : w.cell? p = some v) (hp : p.block < w.heap.size) : (w.alloc ob).cell? p = some v := by
  have hb := (Below.refl w.heap.size w).alloc (Nat.le_refl _) ob
  exact (hb.cell (p := p) hp).trans h
theorem pfar4 {w2 : World} {b B j : Nat} {v x y z t : Value} (h : w2.cell? ⟨b, j, none⟩ = some v) (hne : b ≠ B) : (put4 w2 B x y z t).cell? ⟨b, j, none⟩ = some v := by
  have h1 : ∀ {W : World} {o : Nat} {a : Value}, W.cell? ⟨b, j, none⟩ = some v → (W.setCell ⟨B, o, none⟩ a).cell? ⟨b, j, none⟩ = some v := fun {W o a} h => by
    unfold World.cell? at h ⊢
    rw [Below.heap_setCell W ⟨B, o, none⟩ a b (fun e => hne e)]
    exact h
  exact h1 (h1 (h1 (h1 h)))
theorem cells_4 {w : World} {b : Nat} {x y z u : Value} {T : TypeId} (h : w.heap[b]? = some (.cells #[x, y, z, u] T (0, 0))) : w.cell? ⟨b, 0, none⟩ = some x ∧ w.cell? ⟨b, 1, none⟩ = some y ∧ w.cell? ⟨b, 2, none⟩ = some z ∧ w.cell? ⟨b, 3, none⟩ = some u := by
  have hh : CB T w b #[x, y, z, u] := h
  exact ⟨hh.cell 0, hh.cell 1, hh.cell 2, hh.cell 3⟩
theorem froz_4 {w : World} {b o : Nat} {x y z u : Value} {T : TypeId} (h : w.heap[b]? = some (.cells #[x, y, z, u] T (0, 0))) : w.frozen? ⟨b, o, none⟩ = false := CB.frozen (show CB T w b #[x, y, z, u] from h) o
theorem zero_kept4 {w w2 : World} (h : Below (w.alloc (.cells #[.string ⟨#[]⟩, .int .i64 0, .bool false, .bool false] 47)).heap.size (w.alloc (.cells #[.string ⟨#[]⟩, .int .i64 0, .bool false, .bool false] 47)) w2) :
    (w2.cell? ⟨w.heap.size, 0, none⟩ = some (.string ⟨#[]⟩) ∧ w2.cell? ⟨w.heap.size, 1, none⟩ = some (.int .i64 0) ∧ w2.cell? ⟨w.heap.size, 2, none⟩ = some (.bool false) ∧ w2.cell? ⟨w.heap.size, 3, none⟩ = some (.bool false)) ∧
    w2.frozen? ⟨w.heap.size, 0, none⟩ = false ∧ w2.frozen? ⟨w.heap.size, 1, none⟩ = false ∧ w2.frozen? ⟨w.heap.size, 2, none⟩ = false ∧ w2.frozen? ⟨w.heap.size, 3, none⟩ = false := by
  have hc := (CB.new (T := 47) w #[.string ⟨#[]⟩, .int .i64 0, .bool false, .bool false]).below h (by simp)
  exact ⟨⟨hc.cell 0, hc.cell 1, hc.cell 2, hc.cell 3⟩, hc.frozen 0, hc.frozen 1, hc.frozen 2, hc.frozen 3⟩
theorem zero_kept4d {w w2 : World} (h : Below (w.alloc (.cells #[.string ⟨#[]⟩, .int .i64 0, .bool false, .bool false] 47)).drew.heap.size (w.alloc (.cells #[.string ⟨#[]⟩, .int .i64 0, .bool false, .bool false] 47)).drew w2) :
    (w2.cell? ⟨w.heap.size, 0, none⟩ = some (.string ⟨#[]⟩) ∧ w2.cell? ⟨w.heap.size, 1, none⟩ = some (.int .i64 0) ∧ w2.cell? ⟨w.heap.size, 2, none⟩ = some (.bool false) ∧ w2.cell? ⟨w.heap.size, 3, none⟩ = some (.bool false)) ∧
    w2.frozen? ⟨w.heap.size, 0, none⟩ = false ∧ w2.frozen? ⟨w.heap.size, 1, none⟩ = false ∧ w2.frozen? ⟨w.heap.size, 2, none⟩ = false ∧ w2.frozen? ⟨w.heap.size, 3, none⟩ = false := by
  have hc : CB 47 w2 w.heap.size #[.string ⟨#[]⟩, .int .i64 0, .bool false, .bool false] := (h.block _ (by simp)).trans (CB.new (T := 47) w #[.string ⟨#[]⟩, .int .i64 0, .bool false, .bool false])
  exact ⟨⟨hc.cell 0, hc.cell 1, hc.cell 2, hc.cell 3⟩, hc.frozen 0, hc.frozen 1, hc.frozen 2, hc.frozen 3⟩
theorem prow_below {B k n : Nat} {T : TypeId} {w w' : World} {v : Value} {xs : List Value} (h : w.ownsRow B T k v n xs) (hb : Below w.heap.size w w') : w'.ownsRow B T k v n xs :=
  h.kept (gb_below hb none) (by cases hv : v.ownBlock with | none => exact .inl rfl | some g => exact .inr (by simp))
theorem prow_far {B k n nb : Nat} {T : TypeId} {w : World} {v : Value} {xs : List Value} (h : w.ownsRow B T k v n xs) (hlt : ∀ g, v.ownBlock = some g → g < nb) (j : Nat) (x : Value) : (w.setCell ⟨nb, j, none⟩ x).ownsRow B T k v n xs :=
  h.kept (row := some nb) (gb_set (gb_below (Below.refl _ _) _) (p := ⟨nb, j, none⟩) (.inl rfl) x) (by
      cases hv : v.ownBlock with
      | none => exact .inl rfl
      | some g => exact .inr (fun e => by injection e with e; have := hlt g hv; omega))
theorem OwnPa.snoc {B : Nat} {w : World} {v : Value} {l : List PaD} {x : PaD} {n : Nat} (hn : l.length = n) (h : w.ownsRow B 47 4 v (n + 1) (l.flatMap pcells ++ pcells x)) : OwnPa B w v (l ++ [x]) := by
  subst hn
  unfold OwnPa
  rw [List.length_append, List.flatMap_append, show [x].flatMap pcells = pcells x by simp]
  exact h
theorem cell4_new (w : World) (a b c d : Value) (t : TypeId) : ∀ j u, [a, b, c, d][j]? = some u → (w.alloc (.cells #[a, b, c, d] t)).cell? ((⟨w.heap.size, 0, none⟩ : Addr).add j) = some u := fun j u h => by
  have hadd : (⟨w.heap.size, 0, none⟩ : Addr).add j = ⟨w.heap.size, j, none⟩ := by unfold Addr.add; split <;> simp_all
  rw [hadd]
  unfold World.cell?
  rw [heap_alloc_self]
  have hj : j < 4 := by
    have := (List.getElem?_eq_some_iff.1 h).1
    simpa using this
  rcases (by omega : j = 0 ∨ j = 1 ∨ j = 2 ∨ j = 3) with rfl | rfl | rfl | rfl <;> simpa using h
theorem cell4_set (w : World) (p : Addr) (x a b c d : Value) (t : TypeId) : ∀ j u, [a, b, c, d][j]? = some u → ((w.setCell p x).alloc (.cells #[a, b, c, d] t)).cell? ((⟨w.heap.size, 0, none⟩ : Addr).add j) = some u := by
  have h := cell4_new (w.setCell p x) a b c d t
  rw [show (w.setCell p x).heap.size = w.heap.size by simp [World.setCell]] at h
  exact h
theorem pc_one (x : PaD) : ∀ u ∈ pcells x, u.oneCell' = true := by intro u hu; simp at hu; rcases hu with rfl | rfl | rfl | rfl <;> rfl
theorem info_pair : (Tryd.prog.info? 47).map (fun i => (i.zero, i.size, i.bytes)) = some (some (.agg #[.string ⟨#[]⟩, .int .i64 0, .bool false, .bool false]), 4, 32) := by kernel_rfl
theorem p_set {W w2 : World} {a b c d : Value} (hb : Below (W.alloc (.cells #[.string ⟨#[]⟩, .int .i64 0, .bool false, .bool false] 47)).drew.heap.size (W.alloc (.cells #[.string ⟨#[]⟩, .int .i64 0, .bool false, .bool false] 47)).drew w2) :
    CB 47 (put4 w2 W.heap.size a b c d) W.heap.size #[a, b, c, d] ∧ Below W.heap.size W (put4 w2 W.heap.size a b c d) := by
  have hc : CB 47 w2 W.heap.size #[.string ⟨#[]⟩, .int .i64 0, .bool false, .bool false] := (hb.block _ (by simp)).trans (CB.new (T := 47) W #[.string ⟨#[]⟩, .int .i64 0, .bool false, .bool false])
  have h1 : Below W.heap.size W (W.alloc (.cells #[.string ⟨#[]⟩, .int .i64 0, .bool false, .bool false] 47)).drew := ((Below.refl _ _).alloc (Nat.le_refl _) _).drew
  exact ⟨hc.put4 a b c d, put4_below (below_seq h1 hb) (Nat.le_refl _) _ _ _ _⟩
theorem p_new {W w2 : World} {o : Obj} (h : Below W.drew.heap.size W.drew w2) : W.heap.size ≤ w2.heap.size ∧ Below W.heap.size W (w2.alloc o) := by
  have h1 : Below W.heap.size W W.drew := (Below.refl _ _).drew
  have h2 := below_seq h1 h
  exact ⟨h.size, h2.alloc h2.size _⟩
theorem OwnPa.below {B : Nat} {w w' : World} {v : Value} {l : List PaD} (h : OwnPa B w v l) (hb : Below w.heap.size w w') : OwnPa B w' v l :=
  h.kept (gb_below hb none) (by cases hv : v.ownBlock with | none => exact .inl rfl | some g => exact .inr (by simp))
def CntsPost (w : World) (r : List PaD × Bool) (e : Ending) (w' : World) : Prop := (∃ v', e = .returned (.tuple #[v', .bool r.2]) ∧ OwnPa w.heap.size w' v' r.1) ∧ Below w.heap.size w w'
/-- What holds while counters reads. -/
structure CtI (un : Int) (rv : Bool) (w : World) (P : Nat → Prop) (R : List PaD × Bool) (lv ov : Value) (rest : List Nd) (acc : List PaD) (wr : World) : Prop where
  rd : RdN w P lv rest
  own : OwnPa (w.heap.size + 1) wr ov acc
  len : acc.length ≤ 32
  run : cntsF un rv acc rest = R
  sz : szL rest ≤ 100000000
  tx : TX rest
  tk : TXK rest
  box : CB 91 wr w.heap.size #[.int .i64 un, .bool rv]
  bel : Below w.heap.size w wr
set_option maxRecDepth 100000 in
set_option maxHeartbeats 6400000 in
theorem counters_m (un : Int) (rv : Bool) {l : List Nd} {v : Value} {w : World} {P : Nat → Prop} (h : RdN w P v l) (ht : TabP w) (hl : szL l ≤ 100000000) (hx : TX l) (hk : TXK l) (hal : ((aloneW l).toList == [110, 111, 110, 101]) = false) :
    Calls Tryd.prog 53 #[cntV un rv, v] w (CntsPost w (cntsF un rv [] l)) := by
  have HB0 := Lib.hid ((Below.refl w.heap.size w).alloc (Nat.le_refl _) (.cells #[.int .i64 un, .bool rv] 91))
  have HC0 := Lib.hid (CB.new (T := 91) w #[.int .i64 un, .bool rv])
  have HC := Lib.hid (palone_any (h.under HB0.out (Nat.le_refl _)) hl hx)
  have HT := Lib.hid ht
  generalize hR : cntsF un rv [] l = R
  obtain ⟨a, c, rfl, hlc⟩ := h.shape
  have HI0 : Hid (∀ w1, Below (w.alloc (.cells #[.int .i64 un, .bool rv] 91)).heap.size (w.alloc (.cells #[.int .i64 un, .bool rv] 91)) w1 → CtI un rv w P R (.slice a l.length c) (.slice none 0 0) l [] w1) :=
    fun w1 hb => ⟨h, .nil _ _, by simp, hR, hl, hx, hk, HC0.out.below hb (by simp), below_seq HB0.out hb⟩
  obtain ⟨N, hN⟩ : ∃ N, l.length = N := ⟨_, rfl⟩
  rw [hN] at HC HI0 ⊢
  clear h ht hl hx hk hR hN hlc
  go_enter Tryd.func53, Tryd.ntmps53
  go_wp2_with (go_at_call 51; refine HC.out.mono ?_; rintro e w1 ⟨rfl, hb1⟩)
  have HI1 := Lib.hid (HI0.out w1 hb1)
  clear HI0 HC hal
  go_loopw [1, 6] (fun lv ov wr => ∃ (rest : List Nd) (acc : List PaD) (l0 o0 : Value), l0 = lv ∧ o0 = ov ∧ CtI un rv w P R l0 o0 rest acc wr) (fun lv _ _ => slN lv)
  case atStart => exact ⟨_, _, _, _, rfl, rfl, HI1.out⟩
  case round =>
    obtain ⟨rest, acc, l0, o0, rfl, rfl, hI⟩ := hrel
    clear HI1
    have HI := Lib.hid hI
    obtain ⟨oa, oc, rfl, _⟩ := row_sl hI.own
    have hlen := hI.len
    obtain ⟨M, hM⟩ : ∃ M, acc.length = M := ⟨_, rfl⟩
    have HM := Lib.hid hM
    rw [hM] at HI hlen ⊢
    have hcs := HI.out.box.lt
    have hrd := HI.out.rd
    cases hrd with
    | nil a2 c2 =>
      have HR := Lib.hid HI.out.run
      have hz := HI.out.own
      by_cases h0 : 0 < M
      · have h0I : (0 : Int) < (M : Int) := by omega
        go_wp2
        refine bodyPost_ret (v := .tuple #[.slice oa M oc, .bool true]) (by simp [results, Tryd.results53, go_sem]) rfl ⟨⟨.slice oa M oc, ?_, ?_⟩, HI.out.bel⟩
        · rw [← HR.out, cntsF, HM.out, decide_eq_true h0]
        · rw [← HR.out, cntsF]; exact hz.mono (by omega)
      · have h0I : ¬ (0 : Int) < (M : Int) := by omega
        have h0d : decide ((0 : Int) < (M : Int)) = false := decide_eq_false h0I
        go_wp2
        refine bodyPost_ret (v := .tuple #[.slice oa M oc, .bool false]) (by simp [results, Tryd.results53, go_sem]) rfl ⟨⟨.slice oa M oc, ?_, ?_⟩, HI.out.bel⟩
        · rw [← HR.out, cntsF, HM.out, decide_eq_false h0]
        · rw [← HR.out, cntsF]; exact hz.mono (by omega)
    | cons b off n c2 t u k l2 hP hb hc hku hrl =>
      obtain ⟨ua, uc, rfl, _⟩ := hku.shape
      have hat := hc.move (HI.out.bel.block b hb)
      obtain ⟨p0, p1, p2, p3, p4, p5, p6⟩ := hat
      have hbl : b < wr.heap.size := by have := HI.out.bel.size; omega
      have d0 : wr.cell? ⟨w.heap.size, 0, none⟩ = some (.int .i64 un) := HI.out.box.cell 0
      have d1 : wr.cell? ⟨w.heap.size, 1, none⟩ = some (.bool rv) := HI.out.box.cell 1
      have hKU : ∀ {wx}, Below wr.heap.size wr wx → RdN wx P (.slice ua k.length uc) k := fun hb => hku.under (below_seq HI.out.bel hb) (Nat.le_refl _)
      have hTT : ∀ {wx}, Below wr.heap.size wr wx → TabP wx := fun hb => HT.out.below (below_seq HI.out.bel hb)
      have hxt : t.text.size ≤ 1000000000 := HI.out.tx _ (List.mem_cons_self)
      have hxk : TX k := HI.out.tk _ (List.mem_cons_self)
      have hzz := HI.out.sz
      rw [szL, szN] at hzz
      have hzk : szL k ≤ 100000000 := by omega
      have hn0 : (0 : Int) < (n : Int) + 1 := by omega
      have hnl : n ≤ 100000000 := by have := szL_ge l2; obtain ⟨_, _, he, _⟩ := hrl.shape; injection he with _ h2 _; omega
      obtain ⟨PD, OK, hcp⟩ : ∃ PD OK, cntrS rv (.mk t k) = (PD, OK) := ⟨_, _, rfl⟩
      have HCP := Lib.hid hcp
      clear hI hzz hcp hc
      have hne1 : w.heap.size ≠ wr.heap.size := by omega
      have hne2 : b ≠ wr.heap.size := by omega
      go_upto_region 5 with fail
      go_cut [7, 8] (fun pv okv wx => ∃ (nb : Nat) (w3 : World), w3 = wx ∧ pv = .pointer (some ⟨nb, 0, none⟩) ∧ okv = .bool OK ∧ wr.heap.size ≤ nb ∧ CB 47 w3 nb #[.string PD.name, .int .i64 PD.n, .bool PD.rev, .bool PD.auto] ∧ Below wr.heap.size wr w3)
      case first =>
        go_region_held3 (fun w' => w'.cell? ⟨w.heap.size, 0, none⟩ = some (.int .i64 un) ∧ w'.cell? ⟨w.heap.size, 1, none⟩ = some (.bool rv) ∧ w'.cell? ⟨b, off, none⟩ = some (.int .i64 t.kind) ∧ w'.cell? ⟨b, off + 1, none⟩ = some (.string t.text) ∧ w'.cell? ⟨b, off + 2, none⟩ = some (.int .i64 t.int) ∧ w'.cell? ⟨b, off + 3, none⟩ = some (.bool t.whole) ∧ w'.cell? ⟨b, off + 4, none⟩ = some (.bool t.sign) ∧ w'.cell? ⟨b, off + 5, none⟩ = some (.bool t.id) ∧ w'.cell? ⟨b, off + 6, none⟩ = some (.slice ua k.length uc)) (first | go_keep | exact ⟨pfar4 k0 hne1, pfar4 k1 hne1, pfar4 k2 hne2, pfar4 k3 hne2, pfar4 k4 hne2, pfar4 k5 hne2, pfar4 k6 hne2, pfar4 k7 hne2, pfar4 k8 hne2⟩) ((go_at_call 66; refine (counter_any un rv (nd := .mk t k) (hKU (by first | exact Below.refl _ _ | exact (Below.refl _ _).drew | exact ((Below.refl _ _).alloc (Nat.le_refl _) _).drew | exact (Below.refl _ _).alloc (Nat.le_refl _) _)) (hTT (by first | exact Below.refl _ _ | exact (Below.refl _ _).drew | exact ((Below.refl _ _).alloc (Nat.le_refl _) _).drew | exact (Below.refl _ _).alloc (Nat.le_refl _) _)) hxt hxk hzk).mono ?_; rintro e w2 ⟨rfl, hb2⟩; rw [HCP.out]; have k0 : w2.cell? ⟨w.heap.size, 0, none⟩ = some (.int .i64 un) := (hb2.cell (p := ⟨w.heap.size, 0, none⟩) (by first | exact hcs | (simp; omega))).trans (by first | exact d0 | exact cell_far d0 hcs); have k1 : w2.cell? ⟨w.heap.size, 1, none⟩ = some (.bool rv) := (hb2.cell (p := ⟨w.heap.size, 1, none⟩) (by first | exact hcs | (simp; omega))).trans (by first | exact d1 | exact cell_far d1 hcs); have k2 : w2.cell? ⟨b, off, none⟩ = some (.int .i64 t.kind) := (hb2.cell (p := ⟨b, off, none⟩) (by first | exact hbl | (simp; omega))).trans (by first | exact p0 | exact cell_far p0 hbl); have k3 : w2.cell? ⟨b, off + 1, none⟩ = some (.string t.text) := (hb2.cell (p := ⟨b, off + 1, none⟩) (by first | exact hbl | (simp; omega))).trans (by first | exact p1 | exact cell_far p1 hbl); have k4 : w2.cell? ⟨b, off + 2, none⟩ = some (.int .i64 t.int) := (hb2.cell (p := ⟨b, off + 2, none⟩) (by first | exact hbl | (simp; omega))).trans (by first | exact p2 | exact cell_far p2 hbl); have k5 : w2.cell? ⟨b, off + 3, none⟩ = some (.bool t.whole) := (hb2.cell (p := ⟨b, off + 3, none⟩) (by first | exact hbl | (simp; omega))).trans (by first | exact p3 | exact cell_far p3 hbl); have k6 : w2.cell? ⟨b, off + 4, none⟩ = some (.bool t.sign) := (hb2.cell (p := ⟨b, off + 4, none⟩) (by first | exact hbl | (simp; omega))).trans (by first | exact p4 | exact cell_far p4 hbl); have k7 : w2.cell? ⟨b, off + 5, none⟩ = some (.bool t.id) := (hb2.cell (p := ⟨b, off + 5, none⟩) (by first | exact hbl | (simp; omega))).trans (by first | exact p5 | exact cell_far p5 hbl); have k8 : w2.cell? ⟨b, off + 6, none⟩ = some (.slice ua k.length uc) := (hb2.cell (p := ⟨b, off + 6, none⟩) (by first | exact hbl | (simp; omega))).trans (by first | exact p6 | exact cell_far p6 hbl); (first | (have hzq := zero_kept4d hb2; obtain ⟨⟨m0, m1, m2, m3⟩, mf0, mf1, mf2, mf3⟩ := hzq) | (have hzq := zero_kept4 hb2; obtain ⟨⟨m0, m1, m2, m3⟩, mf0, mf1, mf2, mf3⟩ := hzq) | skip); obtain ⟨n0, n1, n2, n3⟩ := cells_4 (heap_alloc_self w2 (.cells #[.string ⟨#[]⟩, .int .i64 0, .bool false, .bool false] 47)); have g0 := froz_4 (o := 0) (heap_alloc_self w2 (.cells #[.string ⟨#[]⟩, .int .i64 0, .bool false, .bool false] 47)); have g1 := froz_4 (o := 1) (heap_alloc_self w2 (.cells #[.string ⟨#[]⟩, .int .i64 0, .bool false, .bool false] 47)); have g2 := froz_4 (o := 2) (heap_alloc_self w2 (.cells #[.string ⟨#[]⟩, .int .i64 0, .bool false, .bool false] 47)); have g3 := froz_4 (o := 3) (heap_alloc_self w2 (.cells #[.string ⟨#[]⟩, .int .i64 0, .bool false, .bool false] 47))))
        all_goals
          go_wp2
          go_meet
          case rel => first | exact ⟨_, _, rfl, rfl, rfl, Nat.le_refl _, (p_set hb2).1, (p_set hb2).2⟩ | exact ⟨_, _, rfl, rfl, rfl, (p_new (o := .cells #[] 47) hb2).1, CB.new _ _, (p_new hb2).2⟩
      case rest =>
      obtain ⟨nb, w3, rfl, rfl, rfl, hnb, hP3, hB3⟩ := hcut
      obtain ⟨i0, hi, hz0, hz1, hz2⟩ := info_parts info_pair
      have HP3 := Lib.hid hP3
      have HOR : Hid (w3.ownsRow (w.heap.size + 1) 47 4 (.slice oa M oc) M (acc.flatMap pcells)) := by
        have hh := OwnPa.below HI.out.own hB3
        unfold OwnPa at hh
        rw [HM.out] at hh
        exact hh
      have HLT : Hid (∀ g, (Value.slice oa M oc).ownBlock = some g → g < nb) := fun g hg => by have := (HI.out.own.lt g hg).2; omega
      have HB3 := Lib.hid hB3
      have hnl3 := hP3.lt
      have y0 : w3.cell? ⟨nb, 0, none⟩ = some (.string PD.name) := hP3.cell 0
      have y1 : w3.cell? ⟨nb, 1, none⟩ = some (.int .i64 PD.n) := hP3.cell 1
      have y2 : w3.cell? ⟨nb, 2, none⟩ = some (.bool PD.rev) := hP3.cell 2
      have y3 : w3.cell? ⟨nb, 3, none⟩ = some (.bool PD.auto) := hP3.cell 3
      have HBW := Lib.hid (below_seq HI.out.bel hB3)
      have HRD : Hid (RdN w P (.slice (some ⟨b, off + 7, none⟩) n c2) l2) := hrl
      have HRUN := Lib.hid HI.out.run
      have HBX := Lib.hid (HI.out.box.below hB3 hcs)
      have HSZ := Lib.hid HI.out.sz
      have HTX := Lib.hid HI.out.tx
      have HTK := Lib.hid HI.out.tk
      rw [cntsF, HCP.out, HM.out] at HRUN
      have hwn : w.heap.size < nb := by omega
      clear hP3 hB3 hKU hTT hku hrl p0 p1 p2 p3 p4 p5 p6 d0 d1 hxt hxk hzk hcs hbl hne1 hne2 HI HCP
      cases hok : OK
      · have HR := Lib.hid HRUN.out
        subst hok
        rw [show ((PD, false).2 && !(M == 32)) = false by rfl, if_neg (by decide)] at HR
        go_wp2
        refine bodyPost_ret (v := .tuple #[.slice none 0 0, .bool false]) (by simp [results, Tryd.results53, go_sem]) rfl ⟨⟨.slice none 0 0, ?_, ?_⟩, HBW.out⟩
        · rw [← HR.out]
        · rw [← HR.out]; exact .nil _ _
      subst hok
      by_cases h32 : M = 32
      · have HR := Lib.hid HRUN.out
        subst h32
        rw [show ((PD, true).2 && !(32 == 32)) = false by rfl, if_neg (by decide)] at HR
        go_wp2
        refine bodyPost_ret (v := .tuple #[.slice none 0 0, .bool false]) (by simp [results, Tryd.results53, go_sem]) rfl ⟨⟨.slice none 0 0, ?_, ?_⟩, HBW.out⟩
        · rw [← HR.out]
        · rw [← HR.out]; exact .nil _ _
      have h32b : ((M : Int) == 32) = false := beq_eq_false_iff_ne.2 (by omega)
      have h32c : ¬ (M : Int) = 32 := by omega
      have h32n : (M == 32) = false := beq_eq_false_iff_ne.2 h32
      rw [h32n, show ((PD, true).2 && !false) = true by rfl, if_pos rfl] at HRUN
      obtain ⟨Q1, Q2, hq⟩ : ∃ Q1 Q2, numH l2 = (Q1, Q2) := ⟨_, _, rfl⟩
      have hls := HRD.out.shape
      by_cases hc0 : c2 = 0
      · subst hc0
        obtain ⟨_, _, he, hle⟩ := hls
        injection he with _ h2 h3
        have hl0 : l2.length = 0 := by omega
        clear h3 hle
        obtain rfl := List.eq_nil_of_length_eq_zero hl0
        obtain rfl : n = 0 := by simpa using h2
        clear h2
        have HTL : Hid (RdN w P (.slice (some ⟨b, off, none⟩) 0 0) []) := .nil _ _
        have HLL := Lib.hid (show ([] : List Nd).length ≤ 100000000 by simp)
        obtain rfl : false = Q2 := congrArg Prod.snd hq
        have HNQ := Lib.hid hq
        rw [hq] at HRUN
        clear hq HRD
        cases hrv : PD.rev
        · rw [hrv] at y2 HP3
          go_wp2_with (first | (go_at_call 67; refine (pnum_any (HTL.out.under HBW.out (Nat.le_refl _)) HLL.out).mono ?_; rintro e w4 ⟨rfl, hb4⟩; rw [HNQ.out]; have HP4 := Lib.hid (HP3.out.below hb4 hnl3); have hnl4 := HP4.out.lt; have HBX4 := Lib.hid (HBX.out.below hb4 HBX.out.lt); have HBW4 := Lib.hid (below_seq HBW.out hb4); have v0 : w4.cell? ⟨nb, 0, none⟩ = some (.string PD.name) := HP4.out.cell 0; have v1 : w4.cell? ⟨nb, 1, none⟩ = some (.int .i64 PD.n) := HP4.out.cell 1; have v2 : w4.cell? ⟨nb, 2, none⟩ = some (.bool false) := HP4.out.cell 2; have v3 : w4.cell? ⟨nb, 3, none⟩ = some (.bool PD.auto) := HP4.out.cell 3; have vf1 := HP4.out.frozen 1; have vf3 := HP4.out.frozen 3; have e0 : w4.cell? ⟨w.heap.size, 0, none⟩ = some (.int .i64 un) := HBX4.out.cell 0; have hsn : w.heap.size < w4.heap.size := HBX4.out.lt; have HO5 := Lib.hid ((prow_far (prow_below HOR.out hb4) HLT.out 1 (.int .i64 un)).alloc (.cells #[.string PD.name, .int .i64 un, .bool false, .bool PD.auto] 47)); have HB5 := Lib.hid (((HBW4.out).setCell (p := ⟨nb, 1, none⟩) (by show w.heap.size ≤ nb; omega) (.int .i64 un)).alloc (by simp [World.setCell]; omega) (.cells #[.string PD.name, .int .i64 un, .bool false, .bool PD.auto] 47)); have HBX5 := Lib.hid ((HBX4.out.far (p := ⟨nb, 1, none⟩) (by show w.heap.size ≠ nb; omega) (.int .i64 un)).alloc (.cells #[.string PD.name, .int .i64 un, .bool false, .bool PD.auto] 47))) | (at_builtin; refine wpList_append_own _ rfl _ _ 24 rfl (w.heap.size + 1) 47 i0 (.agg #[.string ⟨#[]⟩, .int .i64 0, .bool false, .bool false]) 4 32 Tryd.underlying24 hi hz0 hz1 hz2 rfl (by decide) _ _ _ rfl HO5.out ⟨_, 0, none⟩ 1 1 [.string PD.name, .int .i64 un, .bool false, .bool PD.auto] rfl rfl (cell4_set _ _ _ _ _ _ _ _) (by intro u hu; simp at hu; rcases hu with rfl | rfl | rfl | rfl <;> rfl) (by unfold maxLen; omega) (by omega) (by have := HB5.out.size; simp [World.setCell]; omega) ?_; intro v' w6 ho6 hg6 _))
          have hb6 : Below w.heap.size w w6 := HB5.out.grown hg6 (HB5.out.size) (fun q hq => by have := (HOR.out.lt q hq).1; omega)
          have hx6 := HBX5.out.grown hg6 (fun e => by have := (HOR.out.lt _ e).1; omega)
          go_roundw
          case rel => exact ⟨[], acc ++ [⟨PD.name, un, false, PD.auto⟩], _, _, rfl, rfl, HTL.out, OwnPa.snoc HM.out ho6, by rw [List.length_append, HM.out]; simp; omega, by rw [← HRUN.out, if_neg (by decide), show cntP un PD = ⟨PD.name, un, false, PD.auto⟩ by unfold cntP; rw [if_neg (by rw [hrv]; decide), hrv]], by have := HSZ.out; rw [szL, szN] at this; omega, fun x hx => HTX.out x (List.mem_cons_of_mem _ hx), fun x hx => HTK.out x (List.mem_cons_of_mem _ hx), hx6, hb6⟩
          case measure => simp [slN]
        · rw [hrv] at y2 HP3
          go_wp2_with (first | (go_at_call 67; refine (pnum_any (HTL.out.under HBW.out (Nat.le_refl _)) HLL.out).mono ?_; rintro e w4 ⟨rfl, hb4⟩; rw [HNQ.out]; have HP4 := Lib.hid (HP3.out.below hb4 hnl3); have hnl4 := HP4.out.lt; have HBX4 := Lib.hid (HBX.out.below hb4 HBX.out.lt); have HBW4 := Lib.hid (below_seq HBW.out hb4); have v0 : w4.cell? ⟨nb, 0, none⟩ = some (.string PD.name) := HP4.out.cell 0; have v1 : w4.cell? ⟨nb, 1, none⟩ = some (.int .i64 PD.n) := HP4.out.cell 1; have v2 : w4.cell? ⟨nb, 2, none⟩ = some (.bool true) := HP4.out.cell 2; have v3 : w4.cell? ⟨nb, 3, none⟩ = some (.bool PD.auto) := HP4.out.cell 3; have vf1 := HP4.out.frozen 1; have vf3 := HP4.out.frozen 3; have e0 : w4.cell? ⟨w.heap.size, 0, none⟩ = some (.int .i64 un) := HBX4.out.cell 0; have hsn : w.heap.size < w4.heap.size := HBX4.out.lt; have HO5 := Lib.hid ((prow_far (prow_below HOR.out hb4) HLT.out 3 (.bool true)).alloc (.cells #[.string PD.name, .int .i64 PD.n, .bool true, .bool true] 47)); have HB5 := Lib.hid (((HBW4.out).setCell (p := ⟨nb, 3, none⟩) (by show w.heap.size ≤ nb; omega) (.bool true)).alloc (by simp [World.setCell]; omega) (.cells #[.string PD.name, .int .i64 PD.n, .bool true, .bool true] 47)); have HBX5 := Lib.hid ((HBX4.out.far (p := ⟨nb, 3, none⟩) (by show w.heap.size ≠ nb; omega) (.bool true)).alloc (.cells #[.string PD.name, .int .i64 PD.n, .bool true, .bool true] 47))) | (at_builtin; refine wpList_append_own _ rfl _ _ 24 rfl (w.heap.size + 1) 47 i0 (.agg #[.string ⟨#[]⟩, .int .i64 0, .bool false, .bool false]) 4 32 Tryd.underlying24 hi hz0 hz1 hz2 rfl (by decide) _ _ _ rfl HO5.out ⟨_, 0, none⟩ 1 1 [.string PD.name, .int .i64 PD.n, .bool true, .bool true] rfl rfl (cell4_set _ _ _ _ _ _ _ _) (by intro u hu; simp at hu; rcases hu with rfl | rfl | rfl | rfl <;> rfl) (by unfold maxLen; omega) (by omega) (by have := HB5.out.size; simp [World.setCell]; omega) ?_; intro v' w6 ho6 hg6 _))
          have hb6 : Below w.heap.size w w6 := HB5.out.grown hg6 (HB5.out.size) (fun q hq => by have := (HOR.out.lt q hq).1; omega)
          have hx6 := HBX5.out.grown hg6 (fun e => by have := (HOR.out.lt _ e).1; omega)
          go_roundw
          case rel => exact ⟨[], acc ++ [⟨PD.name, PD.n, true, true⟩], _, _, rfl, rfl, HTL.out, OwnPa.snoc HM.out ho6, by rw [List.length_append, HM.out]; simp; omega, by rw [← HRUN.out, if_neg (by decide), show cntP un PD = ⟨PD.name, PD.n, true, true⟩ by unfold cntP; rw [if_pos hrv, hrv]], by have := HSZ.out; rw [szL, szN] at this; omega, fun x hx => HTX.out x (List.mem_cons_of_mem _ hx), fun x hx => HTK.out x (List.mem_cons_of_mem _ hx), hx6, hb6⟩
          case measure => simp [slN]
      · have hle : n ≤ 100000000 := hnl
        have HTL : Hid (RdN w P (.slice (some ⟨b, off + 7, none⟩) n c2) l2) := HRD.out
        have HLL := Lib.hid (show l2.length ≤ 100000000 by obtain ⟨_, _, he, _⟩ := hls; injection he with _ h2 _; omega)
        cases hQ2 : Q2
        · subst hQ2
          have HNQ := Lib.hid hq
          rw [hq] at HRUN
          clear hq HRD
          cases hrv : PD.rev
          · rw [hrv] at y2 HP3
            go_wp2_with (first | (go_at_call 67; refine (pnum_any (HTL.out.under HBW.out (Nat.le_refl _)) HLL.out).mono ?_; rintro e w4 ⟨rfl, hb4⟩; rw [HNQ.out]; have HP4 := Lib.hid (HP3.out.below hb4 hnl3); have hnl4 := HP4.out.lt; have HBX4 := Lib.hid (HBX.out.below hb4 HBX.out.lt); have HBW4 := Lib.hid (below_seq HBW.out hb4); have v0 : w4.cell? ⟨nb, 0, none⟩ = some (.string PD.name) := HP4.out.cell 0; have v1 : w4.cell? ⟨nb, 1, none⟩ = some (.int .i64 PD.n) := HP4.out.cell 1; have v2 : w4.cell? ⟨nb, 2, none⟩ = some (.bool false) := HP4.out.cell 2; have v3 : w4.cell? ⟨nb, 3, none⟩ = some (.bool PD.auto) := HP4.out.cell 3; have vf1 := HP4.out.frozen 1; have vf3 := HP4.out.frozen 3; have e0 : w4.cell? ⟨w.heap.size, 0, none⟩ = some (.int .i64 un) := HBX4.out.cell 0; have hsn : w.heap.size < w4.heap.size := HBX4.out.lt; have HO5 := Lib.hid ((prow_far (prow_below HOR.out hb4) HLT.out 1 (.int .i64 un)).alloc (.cells #[.string PD.name, .int .i64 un, .bool false, .bool PD.auto] 47)); have HB5 := Lib.hid (((HBW4.out).setCell (p := ⟨nb, 1, none⟩) (by show w.heap.size ≤ nb; omega) (.int .i64 un)).alloc (by simp [World.setCell]; omega) (.cells #[.string PD.name, .int .i64 un, .bool false, .bool PD.auto] 47)); have HBX5 := Lib.hid ((HBX4.out.far (p := ⟨nb, 1, none⟩) (by show w.heap.size ≠ nb; omega) (.int .i64 un)).alloc (.cells #[.string PD.name, .int .i64 un, .bool false, .bool PD.auto] 47))) | (at_builtin; refine wpList_append_own _ rfl _ _ 24 rfl (w.heap.size + 1) 47 i0 (.agg #[.string ⟨#[]⟩, .int .i64 0, .bool false, .bool false]) 4 32 Tryd.underlying24 hi hz0 hz1 hz2 rfl (by decide) _ _ _ rfl HO5.out ⟨_, 0, none⟩ 1 1 [.string PD.name, .int .i64 un, .bool false, .bool PD.auto] rfl rfl (cell4_set _ _ _ _ _ _ _ _) (by intro u hu; simp at hu; rcases hu with rfl | rfl | rfl | rfl <;> rfl) (by unfold maxLen; omega) (by omega) (by have := HB5.out.size; simp [World.setCell]; omega) ?_; intro v' w6 ho6 hg6 _))
            have hb6 : Below w.heap.size w w6 := HB5.out.grown hg6 (HB5.out.size) (fun q hq => by have := (HOR.out.lt q hq).1; omega)
            have hx6 := HBX5.out.grown hg6 (fun e => by have := (HOR.out.lt _ e).1; omega)
            go_roundw
            case rel => exact ⟨l2, acc ++ [⟨PD.name, un, false, PD.auto⟩], _, _, rfl, rfl, HTL.out, OwnPa.snoc HM.out ho6, by rw [List.length_append, HM.out]; simp; omega, by rw [← HRUN.out, if_neg (by decide), show cntP un PD = ⟨PD.name, un, false, PD.auto⟩ by unfold cntP; rw [if_neg (by rw [hrv]; decide), hrv]], by have := HSZ.out; rw [szL, szN] at this; omega, fun x hx => HTX.out x (List.mem_cons_of_mem _ hx), fun x hx => HTK.out x (List.mem_cons_of_mem _ hx), hx6, hb6⟩
            case measure => simp [slN]
          · rw [hrv] at y2 HP3
            go_wp2_with (first | (go_at_call 67; refine (pnum_any (HTL.out.under HBW.out (Nat.le_refl _)) HLL.out).mono ?_; rintro e w4 ⟨rfl, hb4⟩; rw [HNQ.out]; have HP4 := Lib.hid (HP3.out.below hb4 hnl3); have hnl4 := HP4.out.lt; have HBX4 := Lib.hid (HBX.out.below hb4 HBX.out.lt); have HBW4 := Lib.hid (below_seq HBW.out hb4); have v0 : w4.cell? ⟨nb, 0, none⟩ = some (.string PD.name) := HP4.out.cell 0; have v1 : w4.cell? ⟨nb, 1, none⟩ = some (.int .i64 PD.n) := HP4.out.cell 1; have v2 : w4.cell? ⟨nb, 2, none⟩ = some (.bool true) := HP4.out.cell 2; have v3 : w4.cell? ⟨nb, 3, none⟩ = some (.bool PD.auto) := HP4.out.cell 3; have vf1 := HP4.out.frozen 1; have vf3 := HP4.out.frozen 3; have e0 : w4.cell? ⟨w.heap.size, 0, none⟩ = some (.int .i64 un) := HBX4.out.cell 0; have hsn : w.heap.size < w4.heap.size := HBX4.out.lt; have HO5 := Lib.hid ((prow_far (prow_below HOR.out hb4) HLT.out 3 (.bool true)).alloc (.cells #[.string PD.name, .int .i64 PD.n, .bool true, .bool true] 47)); have HB5 := Lib.hid (((HBW4.out).setCell (p := ⟨nb, 3, none⟩) (by show w.heap.size ≤ nb; omega) (.bool true)).alloc (by simp [World.setCell]; omega) (.cells #[.string PD.name, .int .i64 PD.n, .bool true, .bool true] 47)); have HBX5 := Lib.hid ((HBX4.out.far (p := ⟨nb, 3, none⟩) (by show w.heap.size ≠ nb; omega) (.bool true)).alloc (.cells #[.string PD.name, .int .i64 PD.n, .bool true, .bool true] 47))) | (at_builtin; refine wpList_append_own _ rfl _ _ 24 rfl (w.heap.size + 1) 47 i0 (.agg #[.string ⟨#[]⟩, .int .i64 0, .bool false, .bool false]) 4 32 Tryd.underlying24 hi hz0 hz1 hz2 rfl (by decide) _ _ _ rfl HO5.out ⟨_, 0, none⟩ 1 1 [.string PD.name, .int .i64 PD.n, .bool true, .bool true] rfl rfl (cell4_set _ _ _ _ _ _ _ _) (by intro u hu; simp at hu; rcases hu with rfl | rfl | rfl | rfl <;> rfl) (by unfold maxLen; omega) (by omega) (by have := HB5.out.size; simp [World.setCell]; omega) ?_; intro v' w6 ho6 hg6 _))
            have hb6 : Below w.heap.size w w6 := HB5.out.grown hg6 (HB5.out.size) (fun q hq => by have := (HOR.out.lt q hq).1; omega)
            have hx6 := HBX5.out.grown hg6 (fun e => by have := (HOR.out.lt _ e).1; omega)
            go_roundw
            case rel => exact ⟨l2, acc ++ [⟨PD.name, PD.n, true, true⟩], _, _, rfl, rfl, HTL.out, OwnPa.snoc HM.out ho6, by rw [List.length_append, HM.out]; simp; omega, by rw [← HRUN.out, if_neg (by decide), show cntP un PD = ⟨PD.name, PD.n, true, true⟩ by unfold cntP; rw [if_pos hrv, hrv]], by have := HSZ.out; rw [szL, szN] at this; omega, fun x hx => HTX.out x (List.mem_cons_of_mem _ hx), fun x hx => HTK.out x (List.mem_cons_of_mem _ hx), hx6, hb6⟩
            case measure => simp [slN]
        · subst hQ2
          have HNQ := Lib.hid hq
          rw [hq, if_pos rfl] at HRUN
          have hrd2 := HRD.out
          cases hrd2 with
          | nil => cases hq
          | cons b2 off2 n3 c3 t3 u3 k3 l3 _ _ _ _ hrl3 =>
            have HL3 := Lib.hid hrl3
            have hls3 := hrl3.shape
            clear hq HRD hls hrl3
            by_cases hc3 : c3 = 0
            · subst hc3
              obtain ⟨_, _, he, hle3⟩ := hls3
              injection he with _ h2 h3
              have hl0 : l3.length = 0 := by omega
              clear h3 hle3
              obtain rfl := List.eq_nil_of_length_eq_zero hl0
              obtain rfl : n3 = 0 := by simpa using h2
              clear h2
              have HT3 : Hid (RdN w P (.slice (some ⟨b, off + 7, none⟩) 0 0) []) := .nil _ _
              go_wp2_with (first | (go_at_call 67; refine (pnum_any (HTL.out.under HBW.out (Nat.le_refl _)) HLL.out).mono ?_; rintro e w4 ⟨rfl, hb4⟩; rw [HNQ.out]; have HP4 := Lib.hid (HP3.out.below hb4 hnl3); have hnl4 := HP4.out.lt; have HBX4 := Lib.hid (HBX.out.below hb4 HBX.out.lt); have HBW4 := Lib.hid (below_seq HBW.out hb4); have v0 : w4.cell? ⟨nb, 0, none⟩ = some (.string PD.name) := HP4.out.cell 0; have v1 : w4.cell? ⟨nb, 1, none⟩ = some (.int .i64 PD.n) := HP4.out.cell 1; have v2 : w4.cell? ⟨nb, 2, none⟩ = some (.bool PD.rev) := HP4.out.cell 2; have v3 : w4.cell? ⟨nb, 3, none⟩ = some (.bool PD.auto) := HP4.out.cell 3; have vf1 := HP4.out.frozen 1; have vf3 := HP4.out.frozen 3; have e0 : w4.cell? ⟨w.heap.size, 0, none⟩ = some (.int .i64 un) := HBX4.out.cell 0; have hsn : w.heap.size < w4.heap.size := HBX4.out.lt; have HO5 := Lib.hid ((prow_far (prow_below HOR.out hb4) HLT.out 1 (.int .i64 Q1)).alloc (.cells #[.string PD.name, .int .i64 Q1, .bool PD.rev, .bool PD.auto] 47)); have HB5 := Lib.hid (((HBW4.out).setCell (p := ⟨nb, 1, none⟩) (by show w.heap.size ≤ nb; omega) (.int .i64 Q1)).alloc (by simp [World.setCell]; omega) (.cells #[.string PD.name, .int .i64 Q1, .bool PD.rev, .bool PD.auto] 47)); have HBX5 := Lib.hid ((HBX4.out.far (p := ⟨nb, 1, none⟩) (by show w.heap.size ≠ nb; omega) (.int .i64 Q1)).alloc (.cells #[.string PD.name, .int .i64 Q1, .bool PD.rev, .bool PD.auto] 47))) | (at_builtin; refine wpList_append_own _ rfl _ _ 24 rfl (w.heap.size + 1) 47 i0 (.agg #[.string ⟨#[]⟩, .int .i64 0, .bool false, .bool false]) 4 32 Tryd.underlying24 hi hz0 hz1 hz2 rfl (by decide) _ _ _ rfl HO5.out ⟨_, 0, none⟩ 1 1 [.string PD.name, .int .i64 Q1, .bool PD.rev, .bool PD.auto] rfl rfl (cell4_set _ _ _ _ _ _ _ _) (by intro u hu; simp at hu; rcases hu with rfl | rfl | rfl | rfl <;> rfl) (by unfold maxLen; omega) (by omega) (by have := HB5.out.size; simp [World.setCell]; omega) ?_; intro v' w6 ho6 hg6 _))
              have hb6 : Below w.heap.size w w6 := HB5.out.grown hg6 (HB5.out.size) (fun q hq => by have := (HOR.out.lt q hq).1; omega)
              have hx6 := HBX5.out.grown hg6 (fun e => by have := (HOR.out.lt _ e).1; omega)
              go_roundw
              case rel => exact ⟨[], acc ++ [⟨PD.name, Q1, PD.rev, PD.auto⟩], _, _, rfl, rfl, HT3.out, OwnPa.snoc HM.out ho6, by rw [List.length_append, HM.out]; simp; omega, by rw [← HRUN.out]; rfl, by have := HSZ.out; rw [szL, szN, szL, szN] at this; omega, fun x hx => HTX.out x (List.mem_cons_of_mem _ (List.mem_cons_of_mem _ hx)), fun x hx => HTK.out x (List.mem_cons_of_mem _ (List.mem_cons_of_mem _ hx)), hx6, hb6⟩
              case measure => simp [slN] <;> omega
            · have HT3 := HL3
              go_wp2_with (first | (go_at_call 67; refine (pnum_any (HTL.out.under HBW.out (Nat.le_refl _)) HLL.out).mono ?_; rintro e w4 ⟨rfl, hb4⟩; rw [HNQ.out]; have HP4 := Lib.hid (HP3.out.below hb4 hnl3); have hnl4 := HP4.out.lt; have HBX4 := Lib.hid (HBX.out.below hb4 HBX.out.lt); have HBW4 := Lib.hid (below_seq HBW.out hb4); have v0 : w4.cell? ⟨nb, 0, none⟩ = some (.string PD.name) := HP4.out.cell 0; have v1 : w4.cell? ⟨nb, 1, none⟩ = some (.int .i64 PD.n) := HP4.out.cell 1; have v2 : w4.cell? ⟨nb, 2, none⟩ = some (.bool PD.rev) := HP4.out.cell 2; have v3 : w4.cell? ⟨nb, 3, none⟩ = some (.bool PD.auto) := HP4.out.cell 3; have vf1 := HP4.out.frozen 1; have vf3 := HP4.out.frozen 3; have e0 : w4.cell? ⟨w.heap.size, 0, none⟩ = some (.int .i64 un) := HBX4.out.cell 0; have hsn : w.heap.size < w4.heap.size := HBX4.out.lt; have HO5 := Lib.hid ((prow_far (prow_below HOR.out hb4) HLT.out 1 (.int .i64 Q1)).alloc (.cells #[.string PD.name, .int .i64 Q1, .bool PD.rev, .bool PD.auto] 47)); have HB5 := Lib.hid (((HBW4.out).setCell (p := ⟨nb, 1, none⟩) (by show w.heap.size ≤ nb; omega) (.int .i64 Q1)).alloc (by simp [World.setCell]; omega) (.cells #[.string PD.name, .int .i64 Q1, .bool PD.rev, .bool PD.auto] 47)); have HBX5 := Lib.hid ((HBX4.out.far (p := ⟨nb, 1, none⟩) (by show w.heap.size ≠ nb; omega) (.int .i64 Q1)).alloc (.cells #[.string PD.name, .int .i64 Q1, .bool PD.rev, .bool PD.auto] 47))) | (at_builtin; refine wpList_append_own _ rfl _ _ 24 rfl (w.heap.size + 1) 47 i0 (.agg #[.string ⟨#[]⟩, .int .i64 0, .bool false, .bool false]) 4 32 Tryd.underlying24 hi hz0 hz1 hz2 rfl (by decide) _ _ _ rfl HO5.out ⟨_, 0, none⟩ 1 1 [.string PD.name, .int .i64 Q1, .bool PD.rev, .bool PD.auto] rfl rfl (cell4_set _ _ _ _ _ _ _ _) (by intro u hu; simp at hu; rcases hu with rfl | rfl | rfl | rfl <;> rfl) (by unfold maxLen; omega) (by omega) (by have := HB5.out.size; simp [World.setCell]; omega) ?_; intro v' w6 ho6 hg6 _))
              have hb6 : Below w.heap.size w w6 := HB5.out.grown hg6 (HB5.out.size) (fun q hq => by have := (HOR.out.lt q hq).1; omega)
              have hx6 := HBX5.out.grown hg6 (fun e => by have := (HOR.out.lt _ e).1; omega)
              go_roundw
              case rel => exact ⟨l3, acc ++ [⟨PD.name, Q1, PD.rev, PD.auto⟩], _, _, rfl, rfl, HT3.out, OwnPa.snoc HM.out ho6, by rw [List.length_append, HM.out]; simp; omega, by rw [← HRUN.out]; rfl, by have := HSZ.out; rw [szL, szN, szL, szN] at this; omega, fun x hx => HTX.out x (List.mem_cons_of_mem _ (List.mem_cons_of_mem _ hx)), fun x hx => HTK.out x (List.mem_cons_of_mem _ (List.mem_cons_of_mem _ hx)), hx6, hb6⟩
              case measure => simp [slN] <;> omega
end Go.Proofs.YtkpaokcgjeplpaaDoor
namespace Go.Proofs.YtkpaokcgjeplpaaDoor
open Go.RowKit
/-! prop: counters' three readers. -/
def cntsS (un : Int) (rv : Bool) (l : List Nd) : List PaD × Bool := if ((aloneW l).toList == [110, 111, 110, 101]) = true then ([], true) else cntsF un rv [] l
def addS' (l : List Nd) : StyD × Bool := ({ add := (cntsS 1 false l).1 }, (cntsS 1 false l).2)
def resetS (l : List Nd) : StyD × Bool := ({ reset := (cntsS 0 true l).1 }, (cntsS 0 true l).2)
def setS' (l : List Nd) : StyD × Bool := ({ set := (cntsS 0 false l).1 }, (cntsS 0 false l).2)
set_option maxRecDepth 100000 in
set_option maxHeartbeats 1600000 in
theorem counters_any (un : Int) (rv : Bool) {l : List Nd} {v : Value} {w : World} {P : Nat → Prop} (h : RdN w P v l) (ht : TabP w) (hl : szL l ≤ 100000000) (hx : TX l) (hk : TXK l) :
    Calls Tryd.prog 53 #[cntV un rv, v] w (CntsPost w (cntsS un rv l)) := by
  cases hal : ((aloneW l).toList == [110, 111, 110, 101]) with
  | false =>
    have e : cntsS un rv l = cntsF un rv [] l := if_neg (by rw [hal]; decide)
    rw [e]
    exact counters_m un rv h ht hl hx hk hal
  | true =>
    have e : cntsS un rv l = ([], true) := if_pos hal
    rw [e]
    have HB0 := Lib.hid ((Below.refl w.heap.size w).alloc (Nat.le_refl _) (.cells #[.int .i64 un, .bool rv] 91))
    have HC := Lib.hid (palone_any (h.under HB0.out (Nat.le_refl _)) hl hx)
    obtain ⟨a, c, rfl, hlc⟩ := h.shape
    go_enter Tryd.func53, Tryd.ntmps53
    go_wp2_with (go_at_call 51; refine HC.out.mono ?_; rintro e w1 ⟨rfl, hb1⟩)
    exact bodyPost_ret (v := .tuple #[.slice none 0 0, .bool true]) (by simp [results, Tryd.results53, go_sem]) rfl ⟨⟨.slice none 0 0, rfl, .nil _ _⟩, below_seq HB0.out hb1⟩
set_option maxRecDepth 100000 in
set_option maxHeartbeats 1600000 in
theorem add_any' {l : List Nd} {v : Value} {w : World} {P : Nat → Prop} (ht : TabP w) (h : RdN w P v l) (hl : szL l ≤ 100000000) (hx : TX l) (hk : TXK l) :
    Calls Tryd.prog 32 #[v] w (ReadPost w (addS' l)) := by
  have HB0 := Lib.hid (sbx_bel w)
  have HCB0 := Lib.hid (CB.new (T := 26) w zS)
  have HH := Lib.hid (h.under HB0.out (Nat.le_refl _))
  have HC := Lib.hid (counters_any 1 false HH.out (ht.below HB0.out) hl hx hk)
  obtain ⟨a, c, rfl, _⟩ := h.shape
  unfold addS'
  generalize cntsS 1 false l = R at *
  go_enter Tryd.func32, Tryd.ntmps32
  go_wp2_with (go_at_call 53; refine HC.out.mono ?_; rintro e w1 ⟨⟨v1, rfl, ho1⟩, hb1⟩; have hB1 := below_seq HB0.out hb1; have HCB1 := Lib.hid (HCB0.out.below hb1 (by simp)); obtain ⟨c0, c1, c2, c3, c4, c5, c6, c7, c8, c9, c10⟩ := HCB1.out.at11; obtain ⟨f0, f1, f2, f3, f4, f5, f6, f7, f8, f9, f10⟩ := HCB1.out.fr11; have hs1 := HCB1.out.lt; rw [show (w.alloc (.cells zS 26)).heap.size = w.heap.size + 1 by simp] at ho1; obtain ⟨va, vc, rfl, _⟩ := row_sl ho1)
  refine bodyPost_ret (v := .tuple #[.agg (styC { add := R.1 } (.slice none 0 0) (.slice none 0 0) (.slice none 0 0) (.slice va R.1.length vc) (.slice none 0 0)), .bool R.2]) (res_box (by rfl) _ _ w.heap.size _ _ _ _ (by rfl) (by rfl) (HCB1.out.all11 { add := R.1 } (.slice none 0 0) (.slice none 0 0) (.slice none 0 0) (.slice va R.1.length vc) (.slice none 0 0)) Tryd.underlying26 (by rfl) style_size) rfl ?_
  exact sty_fin hB1 { add := R.1 } R.2 _ _ _ _ _ (.nil _ _) (OwnT.nil _ _) (.nil _ _) ho1 (.nil _ _)
set_option maxRecDepth 100000 in
set_option maxHeartbeats 1600000 in
theorem reset_any {l : List Nd} {v : Value} {w : World} {P : Nat → Prop} (ht : TabP w) (h : RdN w P v l) (hl : szL l ≤ 100000000) (hx : TX l) (hk : TXK l) :
    Calls Tryd.prog 34 #[v] w (ReadPost w (resetS l)) := by
  have HB0 := Lib.hid (sbx_bel w)
  have HCB0 := Lib.hid (CB.new (T := 26) w zS)
  have HH := Lib.hid (h.under HB0.out (Nat.le_refl _))
  have HC := Lib.hid (counters_any 0 true HH.out (ht.below HB0.out) hl hx hk)
  obtain ⟨a, c, rfl, _⟩ := h.shape
  unfold resetS
  generalize cntsS 0 true l = R at *
  go_enter Tryd.func34, Tryd.ntmps34
  go_wp2_with (go_at_call 53; refine HC.out.mono ?_; rintro e w1 ⟨⟨v1, rfl, ho1⟩, hb1⟩; have hB1 := below_seq HB0.out hb1; have HCB1 := Lib.hid (HCB0.out.below hb1 (by simp)); obtain ⟨c0, c1, c2, c3, c4, c5, c6, c7, c8, c9, c10⟩ := HCB1.out.at11; obtain ⟨f0, f1, f2, f3, f4, f5, f6, f7, f8, f9, f10⟩ := HCB1.out.fr11; have hs1 := HCB1.out.lt; rw [show (w.alloc (.cells zS 26)).heap.size = w.heap.size + 1 by simp] at ho1; obtain ⟨va, vc, rfl, _⟩ := row_sl ho1)
  refine bodyPost_ret (v := .tuple #[.agg (styC { reset := R.1 } (.slice none 0 0) (.slice none 0 0) (.slice va R.1.length vc) (.slice none 0 0) (.slice none 0 0)), .bool R.2]) (res_box (by rfl) _ _ w.heap.size _ _ _ _ (by rfl) (by rfl) (HCB1.out.all11 { reset := R.1 } (.slice none 0 0) (.slice none 0 0) (.slice va R.1.length vc) (.slice none 0 0) (.slice none 0 0)) Tryd.underlying26 (by rfl) style_size) rfl ?_
  exact sty_fin hB1 { reset := R.1 } R.2 _ _ _ _ _ (.nil _ _) (OwnT.nil _ _) ho1 (.nil _ _) (.nil _ _)
set_option maxRecDepth 100000 in
set_option maxHeartbeats 1600000 in
theorem set_any' {l : List Nd} {v : Value} {w : World} {P : Nat → Prop} (ht : TabP w) (h : RdN w P v l) (hl : szL l ≤ 100000000) (hx : TX l) (hk : TXK l) :
    Calls Tryd.prog 36 #[v] w (ReadPost w (setS' l)) := by
  have HB0 := Lib.hid (sbx_bel w)
  have HCB0 := Lib.hid (CB.new (T := 26) w zS)
  have HH := Lib.hid (h.under HB0.out (Nat.le_refl _))
  have HC := Lib.hid (counters_any 0 false HH.out (ht.below HB0.out) hl hx hk)
  obtain ⟨a, c, rfl, _⟩ := h.shape
  unfold setS'
  generalize cntsS 0 false l = R at *
  go_enter Tryd.func36, Tryd.ntmps36
  go_wp2_with (go_at_call 53; refine HC.out.mono ?_; rintro e w1 ⟨⟨v1, rfl, ho1⟩, hb1⟩; have hB1 := below_seq HB0.out hb1; have HCB1 := Lib.hid (HCB0.out.below hb1 (by simp)); obtain ⟨c0, c1, c2, c3, c4, c5, c6, c7, c8, c9, c10⟩ := HCB1.out.at11; obtain ⟨f0, f1, f2, f3, f4, f5, f6, f7, f8, f9, f10⟩ := HCB1.out.fr11; have hs1 := HCB1.out.lt; rw [show (w.alloc (.cells zS 26)).heap.size = w.heap.size + 1 by simp] at ho1; obtain ⟨va, vc, rfl, _⟩ := row_sl ho1)
  refine bodyPost_ret (v := .tuple #[.agg (styC { set := R.1 } (.slice none 0 0) (.slice none 0 0) (.slice none 0 0) (.slice none 0 0) (.slice va R.1.length vc)), .bool R.2]) (res_box (by rfl) _ _ w.heap.size _ _ _ _ (by rfl) (by rfl) (HCB1.out.all11 { set := R.1 } (.slice none 0 0) (.slice none 0 0) (.slice none 0 0) (.slice none 0 0) (.slice va R.1.length vc)) Tryd.underlying26 (by rfl) style_size) rfl ?_
  exact sty_fin hB1 { set := R.1 } R.2 _ _ _ _ _ (.nil _ _) (OwnT.nil _ _) (.nil _ _) (.nil _ _) ho1
end Go.Proofs.YtkpaokcgjeplpaaDoor
