
import Derived.Test.YtjjlnmjapfcmaaaDoorDeB
namespace Go.Proofs.YtjjlnmjapfcmaaaDoor
open Go.RowKit
def numdT (x y : Tok) : Int × ByteArray × Bool := if ((numS x).2 && (symS y).2 && decide (0 ≤ (numS x).1)) = true then ((numS x).1, (symS y).1, true) else (0, ⟨#[]⟩, false)
def numdS (l : List Nd) : Int × ByteArray × Bool := match l with
  | [x, y] => if (x.tok.kind == 10) = true then numdT x.tok y.tok else numdT y.tok x.tok
  | _ => (0, ⟨#[]⟩, false)
theorem numdS_no {l : List Nd} (h : l.length ≠ 2) : numdS l = (0, ⟨#[]⟩, false) := by
  unfold numdS
  split
  · exact absurd rfl h
  · rfl
theorem CB.farS {T : TypeId} {b g : Nat} {cs : Array Value} (hn : b ≠ g) : ∀ (vs : List Value) (o : Nat) (w : World), CB T w b cs → CB T (w.setCells g o vs) b cs
  | [], _, _, h => h
  | v :: r, o, _, h => CB.farS hn r (o + 1) _ (h.far (p := ⟨g, o, none⟩) hn v)
def csets (cs : Array Value) : Nat → List Value → Array Value
  | _, [] => cs
  | o, v :: r => csets (cs.setIfInBounds o v) (o + 1) r
theorem CB.sets {T : TypeId} {b : Nat} : ∀ (vs : List Value) (o : Nat) (w : World) (cs : Array Value), CB T w b cs → CB T (w.setCells b o vs) b (csets cs o vs)
  | [], _, _, _, h => h
  | v :: r, o, _, _, h => CB.sets r (o + 1) _ _ (h.set o v)
theorem csets7 (t u : Tok) (x y : Value) : csets (nodeC t x) 0 (nodeC u y).toList = nodeC u y := by kernel_rfl
theorem CB.all7 {w : World} {b : Nat} {t u : Tok} {x y : Value} (h : CB 50 w b (nodeC t x)) : CB 50 (w.setCells b 0 (nodeC u y).toList) b (nodeC u y) := by
  have h1 := CB.sets (nodeC u y).toList 0 w _ h
  rw [csets7] at h1
  exact h1
theorem CB.there7 {w : World} {b : Nat} {t : Tok} {x : Value} (h : CB 50 w b (nodeC t x)) : w.there b 0 7 := fun j hj => by
  rw [Nat.zero_add, h.cell, h.frozen]
  refine ⟨?_, rfl⟩
  have : j < (nodeC t x).size := hj
  rw [Array.getElem?_eq_getElem this]
  rfl
theorem node_size : (Tryd.prog.info? 50).map (·.size) = some 7 := by kernel_rfl
theorem node_one (t : Tok) (a : Option Addr) (n c : Nat) : (nodeC t (.slice a n c)).all (·.oneCell') = true := by kernel_rfl
theorem setsS_below {B b : Nat} {a : World} (hb : B ≤ b) : ∀ (vs : List Value) (o : Nat) (w : World), Below B a w → Below B a (w.setCells b o vs)
  | [], _, _, h => h
  | v :: r, o, _, h => setsS_below hb r (o + 1) _ (h.setCell (p := ⟨b, o, none⟩) hb v)
theorem two_nodes (w : World) (t u : Tok) (x y : Value) :
    CB 50 ((w.alloc (.cells (nodeC t x) 50)).alloc (.cells (nodeC u y) 50)).drew w.heap.size (nodeC t x) ∧ CB 50 ((w.alloc (.cells (nodeC t x) 50)).alloc (.cells (nodeC u y) 50)).drew (w.heap.size + 1) (nodeC u y) ∧ Below w.heap.size w ((w.alloc (.cells (nodeC t x) 50)).alloc (.cells (nodeC u y) 50)).drew := by
  have hh := CB.new (T := 50) (w.alloc (.cells (nodeC t x) 50)) (nodeC u y)
  rw [show (w.alloc (.cells (nodeC t x) 50)).heap.size = w.heap.size + 1 by simp] at hh
  exact ⟨(CB.new (T := 50) w (nodeC t x)).alloc _, hh, (((Below.refl w.heap.size w).alloc (Nat.le_refl _) _).alloc (by simp) _).drew⟩
set_option maxRecDepth 100000 in
set_option maxHeartbeats 6400000 in
theorem numbered_any {l : List Nd} {v : Value} {w : World} {P : Nat → Prop} (h : RdN w P v l) (hl : szL l ≤ 100000000) :
    Calls Tryd.prog 79 #[v] w fun e w' => e = .returned (.tuple #[.int .i64 (numdS l).1, .string (numdS l).2.1, .bool (numdS l).2.2]) ∧ Below w.heap.size w w' := by
  have hll := szL_ge l
  by_cases hlen : l.length = 2
  · obtain ⟨x, y, rfl⟩ : ∃ x y, l = [x, y] := by
      match l, hlen with
      | [x, y], _ => exact ⟨x, y, rfl⟩
    obtain ⟨b, off, c, u, rfl, hle2, _, hbl, hat, hku⟩ := h.at 0 (by simp)
    obtain ⟨b', off', c', u2, hv2, _, _, _, hat2, hku2⟩ := h.at 1 (by simp)
    injection hv2 with e1 _ e3
    injection e1 with e1
    injection e1 with e1 e2
    subst e1 e2 e3
    obtain ⟨t1, k1⟩ := x
    obtain ⟨t2, k2⟩ := y
    simp only [List.getElem_cons_zero, List.getElem_cons_succ, Nd.tok, Nd.kids] at hat hat2 hku hku2
    obtain ⟨ua, uc, hus, _⟩ := hku.shape
    obtain ⟨ub, ud, hus2, _⟩ := hku2.shape
    subst hus hus2
    obtain ⟨p0, p1, p2, p3, p4, p5, p6⟩ := hat
    obtain ⟨q0, q1, q2, q3, q4, q5, q6⟩ := hat2
    rw [Nat.zero_mul, Nat.add_zero] at p0 p1 p2 p3 p4 p5 p6
    rw [Nat.one_mul] at q0 q1 q2 q3 q4 q5 q6
    have HB := Lib.hid (((Below.refl w.heap.size w).alloc (Nat.le_refl _) (.cells (nodeC t1 (.slice ua k1.length uc)) 50)).alloc (by simp) (.cells (nodeC t2 (.slice ub k2.length ud)) 50))
    have HC1 := Lib.hid ((CB.new (T := 50) w (nodeC t1 (.slice ua k1.length uc))).alloc (.cells (nodeC t2 (.slice ub k2.length ud)) 50))
    have HC2 : Hid (CB 50 ((w.alloc (.cells (nodeC t1 (.slice ua k1.length uc)) 50)).alloc (.cells (nodeC t2 (.slice ub k2.length ud)) 50)) (w.heap.size + 1) (nodeC t2 (.slice ub k2.length ud))) := by
      have hh := CB.new (T := 50) (w.alloc (.cells (nodeC t1 (.slice ua k1.length uc)) 50)) (nodeC t2 (.slice ub k2.length ud))
      rw [show (w.alloc (.cells (nodeC t1 (.slice ua k1.length uc)) 50)).heap.size = w.heap.size + 1 by simp] at hh
      exact hh
    clear h hku hku2 hlen
    have HS : Hid (numdS [.mk t1 k1, .mk t2 k2] = if (t1.kind == 10) = true then numdT t1 t2 else numdT t2 t1) := rfl
    generalize numdS [.mk t1 k1, .mk t2 k2] = R at *
    go_enter Tryd.func79, Tryd.ntmps79
    go_upto_region 3 with fail
    go_region_held3 (fun w' => w'.cell? ⟨b, off, none⟩ = some (.int .i64 t1.kind) ∧ w'.cell? ⟨b, off + 1, none⟩ = some (.string t1.text) ∧ w'.cell? ⟨b, off + 2, none⟩ = some (.int .i64 t1.int) ∧ w'.cell? ⟨b, off + 3, none⟩ = some (.bool t1.whole) ∧ w'.cell? ⟨b, off + 4, none⟩ = some (.bool t1.sign) ∧ w'.cell? ⟨b, off + 5, none⟩ = some (.bool t1.id) ∧ w'.cell? ⟨b, off + 6, none⟩ = some (.slice ua k1.length uc) ∧ w'.cell? ⟨b, off + 7, none⟩ = some (.int .i64 t2.kind) ∧ w'.cell? ⟨b, off + 8, none⟩ = some (.string t2.text) ∧ w'.cell? ⟨b, off + 9, none⟩ = some (.int .i64 t2.int) ∧ w'.cell? ⟨b, off + 10, none⟩ = some (.bool t2.whole) ∧ w'.cell? ⟨b, off + 11, none⟩ = some (.bool t2.sign) ∧ w'.cell? ⟨b, off + 12, none⟩ = some (.bool t2.id) ∧ w'.cell? ⟨b, off + 13, none⟩ = some (.slice ub k2.length ud)) (go_keep) (fail)
    · have HW := Lib.hid (two_nodes w t1 t2 (.slice ua k1.length uc) (.slice ub k2.length ud))
      obtain ⟨HWA, HWB, HWC⟩ := HW.out
      have HBW := Lib.hid HWC
      have HX1 := Lib.hid HWA
      have HX2 := Lib.hid HWB
      clear HWA HWB HWC HW p0 p1 p2 p3 p4 p5 p6 q0 q1 q2 q3 q4 q5 q6
      simp only [nodeC] at HX1 HX2 HBW
      generalize ((w.alloc (.cells #[.int .i64 t1.kind, .string t1.text, .int .i64 t1.int, .bool t1.whole, .bool t1.sign, .bool t1.id, .slice ua k1.length uc] 50)).alloc (.cells #[.int .i64 t2.kind, .string t2.text, .int .i64 t2.int, .bool t2.whole, .bool t2.sign, .bool t2.id, .slice ub k2.length ud] 50)).drew = W at *
      by_cases k10 : (t1.kind == 10) = true
      · have k10b : (t1.kind != 10) = false := by rw [bne, k10]; rfl
        have HNT0 : Hid (R = numdT t1 t2) := HS.out.trans (if_pos k10)
        have HNT : Hid (R = numdT t1 t2) := HNT0
        generalize hnx : numS t1 = NX at *
        have HNX := Lib.hid hnx
        generalize hsy : symS t2 = SY at *
        have HSY := Lib.hid hsy
        have HNU : Hid (R = if (NX.2 && SY.2 && decide (0 ≤ NX.1)) = true then (NX.1, SY.1, true) else (0, ⟨#[]⟩, false)) := by
          show _ = _
          rw [HNT.out]
          unfold numdT
          rw [HNX.out, HSY.out]
        have d0 : W.cell? ⟨w.heap.size, 0, none⟩ = some (.int .i64 t1.kind) := HX1.out.cell 0
        have d1 : W.cell? ⟨w.heap.size, 1, none⟩ = some (.string t1.text) := HX1.out.cell 1
        have d2 : W.cell? ⟨w.heap.size, 2, none⟩ = some (.int .i64 t1.int) := HX1.out.cell 2
        have d3 : W.cell? ⟨w.heap.size, 3, none⟩ = some (.bool t1.whole) := HX1.out.cell 3
        have d4 : W.cell? ⟨w.heap.size, 4, none⟩ = some (.bool t1.sign) := HX1.out.cell 4
        have d5 : W.cell? ⟨w.heap.size, 5, none⟩ = some (.bool t1.id) := HX1.out.cell 5
        have d6 : W.cell? ⟨w.heap.size, 6, none⟩ = some (.slice ua k1.length uc) := HX1.out.cell 6
        clear hnx hsy
        cases hq1 : NX.2
        · have HR : Hid (R = (0, ⟨#[]⟩, false)) := HNU.out.trans (if_neg (by rw [hq1, Bool.false_and, Bool.false_and]; decide))
          go_wp2_with (first | (go_at_call 75; (with_reducible refine (number_any _ _ _ _ _).mono ?_); rintro e w5 ⟨rfl, hb5⟩; rw [HNX.out]; have HY5 := (HX2.out.below hb5 HX2.out.lt); have e0 : w5.cell? ⟨(w.heap.size + 1), 0, none⟩ = some (.int .i64 t2.kind) := HY5.cell 0; have e1 : w5.cell? ⟨(w.heap.size + 1), 1, none⟩ = some (.string t2.text) := HY5.cell 1; have e2 : w5.cell? ⟨(w.heap.size + 1), 2, none⟩ = some (.int .i64 t2.int) := HY5.cell 2; have e3 : w5.cell? ⟨(w.heap.size + 1), 3, none⟩ = some (.bool t2.whole) := HY5.cell 3; have e4 : w5.cell? ⟨(w.heap.size + 1), 4, none⟩ = some (.bool t2.sign) := HY5.cell 4; have e5 : w5.cell? ⟨(w.heap.size + 1), 5, none⟩ = some (.bool t2.id) := HY5.cell 5; have e6 : w5.cell? ⟨(w.heap.size + 1), 6, none⟩ = some (.slice ub k2.length ud) := HY5.cell 6) | (go_at_call 17; (with_reducible refine (symbol_any _ _ _ _ _).mono ?_); rintro e w6 ⟨rfl, hb6⟩; rw [HSY.out]))
          refine bodyPost_ret (v := .tuple #[.int .i64 0, .string ⟨#[]⟩, .bool false]) (by simp [results, Tryd.results79, go_sem]) rfl ⟨?_, below_seq (below_seq HBW.out hb5) hb6⟩
          rw [HR.out]
        · cases hq2 : SY.2
          · have HR : Hid (R = (0, ⟨#[]⟩, false)) := HNU.out.trans (if_neg (by rw [hq2, Bool.and_false, Bool.false_and]; decide))
            go_wp2_with (first | (go_at_call 75; (with_reducible refine (number_any _ _ _ _ _).mono ?_); rintro e w5 ⟨rfl, hb5⟩; rw [HNX.out]; have HY5 := (HX2.out.below hb5 HX2.out.lt); have e0 : w5.cell? ⟨(w.heap.size + 1), 0, none⟩ = some (.int .i64 t2.kind) := HY5.cell 0; have e1 : w5.cell? ⟨(w.heap.size + 1), 1, none⟩ = some (.string t2.text) := HY5.cell 1; have e2 : w5.cell? ⟨(w.heap.size + 1), 2, none⟩ = some (.int .i64 t2.int) := HY5.cell 2; have e3 : w5.cell? ⟨(w.heap.size + 1), 3, none⟩ = some (.bool t2.whole) := HY5.cell 3; have e4 : w5.cell? ⟨(w.heap.size + 1), 4, none⟩ = some (.bool t2.sign) := HY5.cell 4; have e5 : w5.cell? ⟨(w.heap.size + 1), 5, none⟩ = some (.bool t2.id) := HY5.cell 5; have e6 : w5.cell? ⟨(w.heap.size + 1), 6, none⟩ = some (.slice ub k2.length ud) := HY5.cell 6) | (go_at_call 17; (with_reducible refine (symbol_any _ _ _ _ _).mono ?_); rintro e w6 ⟨rfl, hb6⟩; rw [HSY.out]))
            refine bodyPost_ret (v := .tuple #[.int .i64 0, .string ⟨#[]⟩, .bool false]) (by simp [results, Tryd.results79, go_sem]) rfl ⟨?_, below_seq (below_seq HBW.out hb5) hb6⟩
            rw [HR.out]
          · by_cases hq3 : NX.1 < 0
            · have HR : Hid (R = (0, ⟨#[]⟩, false)) := HNU.out.trans (if_neg (by rw [decide_eq_false (show ¬ 0 ≤ NX.1 by omega), Bool.and_false]; decide))
              go_wp2_with (first | (go_at_call 75; (with_reducible refine (number_any _ _ _ _ _).mono ?_); rintro e w5 ⟨rfl, hb5⟩; rw [HNX.out]; have HY5 := (HX2.out.below hb5 HX2.out.lt); have e0 : w5.cell? ⟨(w.heap.size + 1), 0, none⟩ = some (.int .i64 t2.kind) := HY5.cell 0; have e1 : w5.cell? ⟨(w.heap.size + 1), 1, none⟩ = some (.string t2.text) := HY5.cell 1; have e2 : w5.cell? ⟨(w.heap.size + 1), 2, none⟩ = some (.int .i64 t2.int) := HY5.cell 2; have e3 : w5.cell? ⟨(w.heap.size + 1), 3, none⟩ = some (.bool t2.whole) := HY5.cell 3; have e4 : w5.cell? ⟨(w.heap.size + 1), 4, none⟩ = some (.bool t2.sign) := HY5.cell 4; have e5 : w5.cell? ⟨(w.heap.size + 1), 5, none⟩ = some (.bool t2.id) := HY5.cell 5; have e6 : w5.cell? ⟨(w.heap.size + 1), 6, none⟩ = some (.slice ub k2.length ud) := HY5.cell 6) | (go_at_call 17; (with_reducible refine (symbol_any _ _ _ _ _).mono ?_); rintro e w6 ⟨rfl, hb6⟩; rw [HSY.out]))
              refine bodyPost_ret (v := .tuple #[.int .i64 0, .string ⟨#[]⟩, .bool false]) (by simp [results, Tryd.results79, go_sem]) rfl ⟨?_, below_seq (below_seq HBW.out hb5) hb6⟩
              rw [HR.out]
            · have hq4 : decide (NX.1 < 0) = false := decide_eq_false hq3
              have HR : Hid (R = (NX.1, SY.1, true)) := HNU.out.trans (if_pos (by rw [hq1, hq2, decide_eq_true (show 0 ≤ NX.1 by omega)]; rfl))
              go_wp2_with (first | (go_at_call 75; (with_reducible refine (number_any _ _ _ _ _).mono ?_); rintro e w5 ⟨rfl, hb5⟩; rw [HNX.out]; have HY5 := (HX2.out.below hb5 HX2.out.lt); have e0 : w5.cell? ⟨(w.heap.size + 1), 0, none⟩ = some (.int .i64 t2.kind) := HY5.cell 0; have e1 : w5.cell? ⟨(w.heap.size + 1), 1, none⟩ = some (.string t2.text) := HY5.cell 1; have e2 : w5.cell? ⟨(w.heap.size + 1), 2, none⟩ = some (.int .i64 t2.int) := HY5.cell 2; have e3 : w5.cell? ⟨(w.heap.size + 1), 3, none⟩ = some (.bool t2.whole) := HY5.cell 3; have e4 : w5.cell? ⟨(w.heap.size + 1), 4, none⟩ = some (.bool t2.sign) := HY5.cell 4; have e5 : w5.cell? ⟨(w.heap.size + 1), 5, none⟩ = some (.bool t2.id) := HY5.cell 5; have e6 : w5.cell? ⟨(w.heap.size + 1), 6, none⟩ = some (.slice ub k2.length ud) := HY5.cell 6) | (go_at_call 17; (with_reducible refine (symbol_any _ _ _ _ _).mono ?_); rintro e w6 ⟨rfl, hb6⟩; rw [HSY.out]))
              refine bodyPost_ret (v := .tuple #[.int .i64 NX.1, .string SY.1, .bool true]) (by simp [results, Tryd.results79, go_sem]) rfl ⟨?_, below_seq (below_seq HBW.out hb5) hb6⟩
              rw [HR.out]
      · have k10 : (t1.kind == 10) = false := by simpa using k10
        have k10b : (t1.kind != 10) = true := by rw [bne, k10]; rfl
        have HNT0 : Hid (R = numdT t2 t1) := HS.out.trans (if_neg (by rw [k10]; decide))
        have d0 : W.cell? ⟨w.heap.size, 0, none⟩ = some (.int .i64 t1.kind) := HX1.out.cell 0
        have d1 : W.cell? ⟨w.heap.size, 1, none⟩ = some (.string t1.text) := HX1.out.cell 1
        have d2 : W.cell? ⟨w.heap.size, 2, none⟩ = some (.int .i64 t1.int) := HX1.out.cell 2
        have d3 : W.cell? ⟨w.heap.size, 3, none⟩ = some (.bool t1.whole) := HX1.out.cell 3
        have d4 : W.cell? ⟨w.heap.size, 4, none⟩ = some (.bool t1.sign) := HX1.out.cell 4
        have d5 : W.cell? ⟨w.heap.size, 5, none⟩ = some (.bool t1.id) := HX1.out.cell 5
        have d6 : W.cell? ⟨w.heap.size, 6, none⟩ = some (.slice ua k1.length uc) := HX1.out.cell 6
        have f0 : W.cell? ⟨(w.heap.size + 1), 0, none⟩ = some (.int .i64 t2.kind) := HX2.out.cell 0
        have f1 : W.cell? ⟨(w.heap.size + 1), 1, none⟩ = some (.string t2.text) := HX2.out.cell 1
        have f2 : W.cell? ⟨(w.heap.size + 1), 2, none⟩ = some (.int .i64 t2.int) := HX2.out.cell 2
        have f3 : W.cell? ⟨(w.heap.size + 1), 3, none⟩ = some (.bool t2.whole) := HX2.out.cell 3
        have f4 : W.cell? ⟨(w.heap.size + 1), 4, none⟩ = some (.bool t2.sign) := HX2.out.cell 4
        have f5 : W.cell? ⟨(w.heap.size + 1), 5, none⟩ = some (.bool t2.id) := HX2.out.cell 5
        have f6 : W.cell? ⟨(w.heap.size + 1), 6, none⟩ = some (.slice ub k2.length ud) := HX2.out.cell 6
        have fr1 := fun i => HX1.out.frozen i
        have fr2 := fun i => HX2.out.frozen i
        clear fr1 fr2
        have HY1 := Lib.hid (CB.farS (show w.heap.size ≠ (w.heap.size + 1) by omega) (nodeC t1 (.slice ua k1.length uc)).toList 0 _ (HX1.out.all7 (u := t2) (y := .slice ub k2.length ud)))
        have HX2b := Lib.hid (CB.farS (show (w.heap.size + 1) ≠ w.heap.size by omega) (nodeC t2 (.slice ub k2.length ud)).toList 0 _ HX2.out)
        have HY2 := Lib.hid (HX2b.out.all7 (u := t1) (y := .slice ua k1.length uc))
        have HBY := Lib.hid (setsS_below (show w.heap.size ≤ (w.heap.size + 1) by omega) (nodeC t1 (.slice ua k1.length uc)).toList 0 _ (setsS_below (show w.heap.size ≤ w.heap.size by omega) (nodeC t2 (.slice ub k2.length ud)).toList 0 _ HBW.out))
        have HTH1 : Hid (W.there w.heap.size 0 (nodeC t2 (.slice ub k2.length ud)).size) := HX1.out.there7
        have HTH2a : Hid ((W.setCells w.heap.size 0 (nodeC t2 (.slice ub k2.length ud)).toList).there (w.heap.size + 1) 0 (nodeC t1 (.slice ua k1.length uc)).size) := HX2b.out.there7
        go_upto_region 6 with (first | (refine wpList_store_mid (by rfl) 50 (.tmp 5) (.tmp 24) (by rfl) w.heap.size 0 (nodeC t2 (.slice ub k2.length ud)) (by rfl) (by rfl) HTH1.out node_size (node_one _ _ _ _) ?_; generalize World.setCells W w.heap.size 0 (nodeC t2 (.slice ub k2.length ud)).toList = WA at *; have HTH2 := HTH2a) | (refine wpList_store_mid (by rfl) 50 (.tmp 6) (.tmp 25) (by rfl) (w.heap.size + 1) 0 (nodeC t1 (.slice ua k1.length uc)) (by rfl) (by rfl) HTH2.out node_size (node_one _ _ _ _) ?_; generalize World.setCells WA (w.heap.size + 1) 0 (nodeC t1 (.slice ua k1.length uc)).toList = WB at *))
        clear d0 d1 d2 d3 d4 d5 d6 f0 f1 f2 f3 f4 f5 f6 HTH1 HTH2 HTH2a
        have HNT : Hid (R = numdT t2 t1) := HNT0
        generalize hnx : numS t2 = NX at *
        have HNX := Lib.hid hnx
        generalize hsy : symS t1 = SY at *
        have HSY := Lib.hid hsy
        have HNU : Hid (R = if (NX.2 && SY.2 && decide (0 ≤ NX.1)) = true then (NX.1, SY.1, true) else (0, ⟨#[]⟩, false)) := by
          show _ = _
          rw [HNT.out]
          unfold numdT
          rw [HNX.out, HSY.out]
        have d0 : WB.cell? ⟨w.heap.size, 0, none⟩ = some (.int .i64 t2.kind) := HY1.out.cell 0
        have d1 : WB.cell? ⟨w.heap.size, 1, none⟩ = some (.string t2.text) := HY1.out.cell 1
        have d2 : WB.cell? ⟨w.heap.size, 2, none⟩ = some (.int .i64 t2.int) := HY1.out.cell 2
        have d3 : WB.cell? ⟨w.heap.size, 3, none⟩ = some (.bool t2.whole) := HY1.out.cell 3
        have d4 : WB.cell? ⟨w.heap.size, 4, none⟩ = some (.bool t2.sign) := HY1.out.cell 4
        have d5 : WB.cell? ⟨w.heap.size, 5, none⟩ = some (.bool t2.id) := HY1.out.cell 5
        have d6 : WB.cell? ⟨w.heap.size, 6, none⟩ = some (.slice ub k2.length ud) := HY1.out.cell 6
        clear hnx hsy
        cases hq1 : NX.2
        · have HR : Hid (R = (0, ⟨#[]⟩, false)) := HNU.out.trans (if_neg (by rw [hq1, Bool.false_and, Bool.false_and]; decide))
          go_wp2_with (first | (go_at_call 75; (with_reducible refine (number_any _ _ _ _ _).mono ?_); rintro e w5 ⟨rfl, hb5⟩; rw [HNX.out]; have HY5 := (HY2.out.below hb5 HY2.out.lt); have e0 : w5.cell? ⟨(w.heap.size + 1), 0, none⟩ = some (.int .i64 t1.kind) := HY5.cell 0; have e1 : w5.cell? ⟨(w.heap.size + 1), 1, none⟩ = some (.string t1.text) := HY5.cell 1; have e2 : w5.cell? ⟨(w.heap.size + 1), 2, none⟩ = some (.int .i64 t1.int) := HY5.cell 2; have e3 : w5.cell? ⟨(w.heap.size + 1), 3, none⟩ = some (.bool t1.whole) := HY5.cell 3; have e4 : w5.cell? ⟨(w.heap.size + 1), 4, none⟩ = some (.bool t1.sign) := HY5.cell 4; have e5 : w5.cell? ⟨(w.heap.size + 1), 5, none⟩ = some (.bool t1.id) := HY5.cell 5; have e6 : w5.cell? ⟨(w.heap.size + 1), 6, none⟩ = some (.slice ua k1.length uc) := HY5.cell 6) | (go_at_call 17; (with_reducible refine (symbol_any _ _ _ _ _).mono ?_); rintro e w6 ⟨rfl, hb6⟩; rw [HSY.out]))
          refine bodyPost_ret (v := .tuple #[.int .i64 0, .string ⟨#[]⟩, .bool false]) (by simp [results, Tryd.results79, go_sem]) rfl ⟨?_, below_seq (below_seq HBY.out hb5) hb6⟩
          rw [HR.out]
        · cases hq2 : SY.2
          · have HR : Hid (R = (0, ⟨#[]⟩, false)) := HNU.out.trans (if_neg (by rw [hq2, Bool.and_false, Bool.false_and]; decide))
            go_wp2_with (first | (go_at_call 75; (with_reducible refine (number_any _ _ _ _ _).mono ?_); rintro e w5 ⟨rfl, hb5⟩; rw [HNX.out]; have HY5 := (HY2.out.below hb5 HY2.out.lt); have e0 : w5.cell? ⟨(w.heap.size + 1), 0, none⟩ = some (.int .i64 t1.kind) := HY5.cell 0; have e1 : w5.cell? ⟨(w.heap.size + 1), 1, none⟩ = some (.string t1.text) := HY5.cell 1; have e2 : w5.cell? ⟨(w.heap.size + 1), 2, none⟩ = some (.int .i64 t1.int) := HY5.cell 2; have e3 : w5.cell? ⟨(w.heap.size + 1), 3, none⟩ = some (.bool t1.whole) := HY5.cell 3; have e4 : w5.cell? ⟨(w.heap.size + 1), 4, none⟩ = some (.bool t1.sign) := HY5.cell 4; have e5 : w5.cell? ⟨(w.heap.size + 1), 5, none⟩ = some (.bool t1.id) := HY5.cell 5; have e6 : w5.cell? ⟨(w.heap.size + 1), 6, none⟩ = some (.slice ua k1.length uc) := HY5.cell 6) | (go_at_call 17; (with_reducible refine (symbol_any _ _ _ _ _).mono ?_); rintro e w6 ⟨rfl, hb6⟩; rw [HSY.out]))
            refine bodyPost_ret (v := .tuple #[.int .i64 0, .string ⟨#[]⟩, .bool false]) (by simp [results, Tryd.results79, go_sem]) rfl ⟨?_, below_seq (below_seq HBY.out hb5) hb6⟩
            rw [HR.out]
          · by_cases hq3 : NX.1 < 0
            · have HR : Hid (R = (0, ⟨#[]⟩, false)) := HNU.out.trans (if_neg (by rw [decide_eq_false (show ¬ 0 ≤ NX.1 by omega), Bool.and_false]; decide))
              go_wp2_with (first | (go_at_call 75; (with_reducible refine (number_any _ _ _ _ _).mono ?_); rintro e w5 ⟨rfl, hb5⟩; rw [HNX.out]; have HY5 := (HY2.out.below hb5 HY2.out.lt); have e0 : w5.cell? ⟨(w.heap.size + 1), 0, none⟩ = some (.int .i64 t1.kind) := HY5.cell 0; have e1 : w5.cell? ⟨(w.heap.size + 1), 1, none⟩ = some (.string t1.text) := HY5.cell 1; have e2 : w5.cell? ⟨(w.heap.size + 1), 2, none⟩ = some (.int .i64 t1.int) := HY5.cell 2; have e3 : w5.cell? ⟨(w.heap.size + 1), 3, none⟩ = some (.bool t1.whole) := HY5.cell 3; have e4 : w5.cell? ⟨(w.heap.size + 1), 4, none⟩ = some (.bool t1.sign) := HY5.cell 4; have e5 : w5.cell? ⟨(w.heap.size + 1), 5, none⟩ = some (.bool t1.id) := HY5.cell 5; have e6 : w5.cell? ⟨(w.heap.size + 1), 6, none⟩ = some (.slice ua k1.length uc) := HY5.cell 6) | (go_at_call 17; (with_reducible refine (symbol_any _ _ _ _ _).mono ?_); rintro e w6 ⟨rfl, hb6⟩; rw [HSY.out]))
              refine bodyPost_ret (v := .tuple #[.int .i64 0, .string ⟨#[]⟩, .bool false]) (by simp [results, Tryd.results79, go_sem]) rfl ⟨?_, below_seq (below_seq HBY.out hb5) hb6⟩
              rw [HR.out]
            · have hq4 : decide (NX.1 < 0) = false := decide_eq_false hq3
              have HR : Hid (R = (NX.1, SY.1, true)) := HNU.out.trans (if_pos (by rw [hq1, hq2, decide_eq_true (show 0 ≤ NX.1 by omega)]; rfl))
              go_wp2_with (first | (go_at_call 75; (with_reducible refine (number_any _ _ _ _ _).mono ?_); rintro e w5 ⟨rfl, hb5⟩; rw [HNX.out]; have HY5 := (HY2.out.below hb5 HY2.out.lt); have e0 : w5.cell? ⟨(w.heap.size + 1), 0, none⟩ = some (.int .i64 t1.kind) := HY5.cell 0; have e1 : w5.cell? ⟨(w.heap.size + 1), 1, none⟩ = some (.string t1.text) := HY5.cell 1; have e2 : w5.cell? ⟨(w.heap.size + 1), 2, none⟩ = some (.int .i64 t1.int) := HY5.cell 2; have e3 : w5.cell? ⟨(w.heap.size + 1), 3, none⟩ = some (.bool t1.whole) := HY5.cell 3; have e4 : w5.cell? ⟨(w.heap.size + 1), 4, none⟩ = some (.bool t1.sign) := HY5.cell 4; have e5 : w5.cell? ⟨(w.heap.size + 1), 5, none⟩ = some (.bool t1.id) := HY5.cell 5; have e6 : w5.cell? ⟨(w.heap.size + 1), 6, none⟩ = some (.slice ua k1.length uc) := HY5.cell 6) | (go_at_call 17; (with_reducible refine (symbol_any _ _ _ _ _).mono ?_); rintro e w6 ⟨rfl, hb6⟩; rw [HSY.out]))
              refine bodyPost_ret (v := .tuple #[.int .i64 NX.1, .string SY.1, .bool true]) (by simp [results, Tryd.results79, go_sem]) rfl ⟨?_, below_seq (below_seq HBY.out hb5) hb6⟩
              rw [HR.out]
    · have HW := Lib.hid (two_nodes w t2 t1 (.slice ub k2.length ud) (.slice ua k1.length uc))
      obtain ⟨HWA, HWB, HWC⟩ := HW.out
      have HBW := Lib.hid HWC
      have HX1 := Lib.hid HWB
      have HX2 := Lib.hid HWA
      clear HWA HWB HWC HW p0 p1 p2 p3 p4 p5 p6 q0 q1 q2 q3 q4 q5 q6
      simp only [nodeC] at HX1 HX2 HBW
      generalize ((w.alloc (.cells #[.int .i64 t2.kind, .string t2.text, .int .i64 t2.int, .bool t2.whole, .bool t2.sign, .bool t2.id, .slice ub k2.length ud] 50)).alloc (.cells #[.int .i64 t1.kind, .string t1.text, .int .i64 t1.int, .bool t1.whole, .bool t1.sign, .bool t1.id, .slice ua k1.length uc] 50)).drew = W at *
      by_cases k10 : (t1.kind == 10) = true
      · have k10b : (t1.kind != 10) = false := by rw [bne, k10]; rfl
        have HNT0 : Hid (R = numdT t1 t2) := HS.out.trans (if_pos k10)
        have HNT : Hid (R = numdT t1 t2) := HNT0
        generalize hnx : numS t1 = NX at *
        have HNX := Lib.hid hnx
        generalize hsy : symS t2 = SY at *
        have HSY := Lib.hid hsy
        have HNU : Hid (R = if (NX.2 && SY.2 && decide (0 ≤ NX.1)) = true then (NX.1, SY.1, true) else (0, ⟨#[]⟩, false)) := by
          show _ = _
          rw [HNT.out]
          unfold numdT
          rw [HNX.out, HSY.out]
        have d0 : W.cell? ⟨(w.heap.size + 1), 0, none⟩ = some (.int .i64 t1.kind) := HX1.out.cell 0
        have d1 : W.cell? ⟨(w.heap.size + 1), 1, none⟩ = some (.string t1.text) := HX1.out.cell 1
        have d2 : W.cell? ⟨(w.heap.size + 1), 2, none⟩ = some (.int .i64 t1.int) := HX1.out.cell 2
        have d3 : W.cell? ⟨(w.heap.size + 1), 3, none⟩ = some (.bool t1.whole) := HX1.out.cell 3
        have d4 : W.cell? ⟨(w.heap.size + 1), 4, none⟩ = some (.bool t1.sign) := HX1.out.cell 4
        have d5 : W.cell? ⟨(w.heap.size + 1), 5, none⟩ = some (.bool t1.id) := HX1.out.cell 5
        have d6 : W.cell? ⟨(w.heap.size + 1), 6, none⟩ = some (.slice ua k1.length uc) := HX1.out.cell 6
        clear hnx hsy
        cases hq1 : NX.2
        · have HR : Hid (R = (0, ⟨#[]⟩, false)) := HNU.out.trans (if_neg (by rw [hq1, Bool.false_and, Bool.false_and]; decide))
          go_wp2_with (first | (go_at_call 75; (with_reducible refine (number_any _ _ _ _ _).mono ?_); rintro e w5 ⟨rfl, hb5⟩; rw [HNX.out]; have HY5 := (HX2.out.below hb5 HX2.out.lt); have e0 : w5.cell? ⟨w.heap.size, 0, none⟩ = some (.int .i64 t2.kind) := HY5.cell 0; have e1 : w5.cell? ⟨w.heap.size, 1, none⟩ = some (.string t2.text) := HY5.cell 1; have e2 : w5.cell? ⟨w.heap.size, 2, none⟩ = some (.int .i64 t2.int) := HY5.cell 2; have e3 : w5.cell? ⟨w.heap.size, 3, none⟩ = some (.bool t2.whole) := HY5.cell 3; have e4 : w5.cell? ⟨w.heap.size, 4, none⟩ = some (.bool t2.sign) := HY5.cell 4; have e5 : w5.cell? ⟨w.heap.size, 5, none⟩ = some (.bool t2.id) := HY5.cell 5; have e6 : w5.cell? ⟨w.heap.size, 6, none⟩ = some (.slice ub k2.length ud) := HY5.cell 6) | (go_at_call 17; (with_reducible refine (symbol_any _ _ _ _ _).mono ?_); rintro e w6 ⟨rfl, hb6⟩; rw [HSY.out]))
          refine bodyPost_ret (v := .tuple #[.int .i64 0, .string ⟨#[]⟩, .bool false]) (by simp [results, Tryd.results79, go_sem]) rfl ⟨?_, below_seq (below_seq HBW.out hb5) hb6⟩
          rw [HR.out]
        · cases hq2 : SY.2
          · have HR : Hid (R = (0, ⟨#[]⟩, false)) := HNU.out.trans (if_neg (by rw [hq2, Bool.and_false, Bool.false_and]; decide))
            go_wp2_with (first | (go_at_call 75; (with_reducible refine (number_any _ _ _ _ _).mono ?_); rintro e w5 ⟨rfl, hb5⟩; rw [HNX.out]; have HY5 := (HX2.out.below hb5 HX2.out.lt); have e0 : w5.cell? ⟨w.heap.size, 0, none⟩ = some (.int .i64 t2.kind) := HY5.cell 0; have e1 : w5.cell? ⟨w.heap.size, 1, none⟩ = some (.string t2.text) := HY5.cell 1; have e2 : w5.cell? ⟨w.heap.size, 2, none⟩ = some (.int .i64 t2.int) := HY5.cell 2; have e3 : w5.cell? ⟨w.heap.size, 3, none⟩ = some (.bool t2.whole) := HY5.cell 3; have e4 : w5.cell? ⟨w.heap.size, 4, none⟩ = some (.bool t2.sign) := HY5.cell 4; have e5 : w5.cell? ⟨w.heap.size, 5, none⟩ = some (.bool t2.id) := HY5.cell 5; have e6 : w5.cell? ⟨w.heap.size, 6, none⟩ = some (.slice ub k2.length ud) := HY5.cell 6) | (go_at_call 17; (with_reducible refine (symbol_any _ _ _ _ _).mono ?_); rintro e w6 ⟨rfl, hb6⟩; rw [HSY.out]))
            refine bodyPost_ret (v := .tuple #[.int .i64 0, .string ⟨#[]⟩, .bool false]) (by simp [results, Tryd.results79, go_sem]) rfl ⟨?_, below_seq (below_seq HBW.out hb5) hb6⟩
            rw [HR.out]
          · by_cases hq3 : NX.1 < 0
            · have HR : Hid (R = (0, ⟨#[]⟩, false)) := HNU.out.trans (if_neg (by rw [decide_eq_false (show ¬ 0 ≤ NX.1 by omega), Bool.and_false]; decide))
              go_wp2_with (first | (go_at_call 75; (with_reducible refine (number_any _ _ _ _ _).mono ?_); rintro e w5 ⟨rfl, hb5⟩; rw [HNX.out]; have HY5 := (HX2.out.below hb5 HX2.out.lt); have e0 : w5.cell? ⟨w.heap.size, 0, none⟩ = some (.int .i64 t2.kind) := HY5.cell 0; have e1 : w5.cell? ⟨w.heap.size, 1, none⟩ = some (.string t2.text) := HY5.cell 1; have e2 : w5.cell? ⟨w.heap.size, 2, none⟩ = some (.int .i64 t2.int) := HY5.cell 2; have e3 : w5.cell? ⟨w.heap.size, 3, none⟩ = some (.bool t2.whole) := HY5.cell 3; have e4 : w5.cell? ⟨w.heap.size, 4, none⟩ = some (.bool t2.sign) := HY5.cell 4; have e5 : w5.cell? ⟨w.heap.size, 5, none⟩ = some (.bool t2.id) := HY5.cell 5; have e6 : w5.cell? ⟨w.heap.size, 6, none⟩ = some (.slice ub k2.length ud) := HY5.cell 6) | (go_at_call 17; (with_reducible refine (symbol_any _ _ _ _ _).mono ?_); rintro e w6 ⟨rfl, hb6⟩; rw [HSY.out]))
              refine bodyPost_ret (v := .tuple #[.int .i64 0, .string ⟨#[]⟩, .bool false]) (by simp [results, Tryd.results79, go_sem]) rfl ⟨?_, below_seq (below_seq HBW.out hb5) hb6⟩
              rw [HR.out]
            · have hq4 : decide (NX.1 < 0) = false := decide_eq_false hq3
              have HR : Hid (R = (NX.1, SY.1, true)) := HNU.out.trans (if_pos (by rw [hq1, hq2, decide_eq_true (show 0 ≤ NX.1 by omega)]; rfl))
              go_wp2_with (first | (go_at_call 75; (with_reducible refine (number_any _ _ _ _ _).mono ?_); rintro e w5 ⟨rfl, hb5⟩; rw [HNX.out]; have HY5 := (HX2.out.below hb5 HX2.out.lt); have e0 : w5.cell? ⟨w.heap.size, 0, none⟩ = some (.int .i64 t2.kind) := HY5.cell 0; have e1 : w5.cell? ⟨w.heap.size, 1, none⟩ = some (.string t2.text) := HY5.cell 1; have e2 : w5.cell? ⟨w.heap.size, 2, none⟩ = some (.int .i64 t2.int) := HY5.cell 2; have e3 : w5.cell? ⟨w.heap.size, 3, none⟩ = some (.bool t2.whole) := HY5.cell 3; have e4 : w5.cell? ⟨w.heap.size, 4, none⟩ = some (.bool t2.sign) := HY5.cell 4; have e5 : w5.cell? ⟨w.heap.size, 5, none⟩ = some (.bool t2.id) := HY5.cell 5; have e6 : w5.cell? ⟨w.heap.size, 6, none⟩ = some (.slice ub k2.length ud) := HY5.cell 6) | (go_at_call 17; (with_reducible refine (symbol_any _ _ _ _ _).mono ?_); rintro e w6 ⟨rfl, hb6⟩; rw [HSY.out]))
              refine bodyPost_ret (v := .tuple #[.int .i64 NX.1, .string SY.1, .bool true]) (by simp [results, Tryd.results79, go_sem]) rfl ⟨?_, below_seq (below_seq HBW.out hb5) hb6⟩
              rw [HR.out]
      · have k10 : (t1.kind == 10) = false := by simpa using k10
        have k10b : (t1.kind != 10) = true := by rw [bne, k10]; rfl
        have HNT0 : Hid (R = numdT t2 t1) := HS.out.trans (if_neg (by rw [k10]; decide))
        have d0 : W.cell? ⟨(w.heap.size + 1), 0, none⟩ = some (.int .i64 t1.kind) := HX1.out.cell 0
        have d1 : W.cell? ⟨(w.heap.size + 1), 1, none⟩ = some (.string t1.text) := HX1.out.cell 1
        have d2 : W.cell? ⟨(w.heap.size + 1), 2, none⟩ = some (.int .i64 t1.int) := HX1.out.cell 2
        have d3 : W.cell? ⟨(w.heap.size + 1), 3, none⟩ = some (.bool t1.whole) := HX1.out.cell 3
        have d4 : W.cell? ⟨(w.heap.size + 1), 4, none⟩ = some (.bool t1.sign) := HX1.out.cell 4
        have d5 : W.cell? ⟨(w.heap.size + 1), 5, none⟩ = some (.bool t1.id) := HX1.out.cell 5
        have d6 : W.cell? ⟨(w.heap.size + 1), 6, none⟩ = some (.slice ua k1.length uc) := HX1.out.cell 6
        have f0 : W.cell? ⟨w.heap.size, 0, none⟩ = some (.int .i64 t2.kind) := HX2.out.cell 0
        have f1 : W.cell? ⟨w.heap.size, 1, none⟩ = some (.string t2.text) := HX2.out.cell 1
        have f2 : W.cell? ⟨w.heap.size, 2, none⟩ = some (.int .i64 t2.int) := HX2.out.cell 2
        have f3 : W.cell? ⟨w.heap.size, 3, none⟩ = some (.bool t2.whole) := HX2.out.cell 3
        have f4 : W.cell? ⟨w.heap.size, 4, none⟩ = some (.bool t2.sign) := HX2.out.cell 4
        have f5 : W.cell? ⟨w.heap.size, 5, none⟩ = some (.bool t2.id) := HX2.out.cell 5
        have f6 : W.cell? ⟨w.heap.size, 6, none⟩ = some (.slice ub k2.length ud) := HX2.out.cell 6
        have fr1 := fun i => HX1.out.frozen i
        have fr2 := fun i => HX2.out.frozen i
        clear fr1 fr2
        have HY1 := Lib.hid (CB.farS (show (w.heap.size + 1) ≠ w.heap.size by omega) (nodeC t1 (.slice ua k1.length uc)).toList 0 _ (HX1.out.all7 (u := t2) (y := .slice ub k2.length ud)))
        have HX2b := Lib.hid (CB.farS (show w.heap.size ≠ (w.heap.size + 1) by omega) (nodeC t2 (.slice ub k2.length ud)).toList 0 _ HX2.out)
        have HY2 := Lib.hid (HX2b.out.all7 (u := t1) (y := .slice ua k1.length uc))
        have HBY := Lib.hid (setsS_below (show w.heap.size ≤ w.heap.size by omega) (nodeC t1 (.slice ua k1.length uc)).toList 0 _ (setsS_below (show w.heap.size ≤ (w.heap.size + 1) by omega) (nodeC t2 (.slice ub k2.length ud)).toList 0 _ HBW.out))
        have HTH1 : Hid (W.there (w.heap.size + 1) 0 (nodeC t2 (.slice ub k2.length ud)).size) := HX1.out.there7
        have HTH2a : Hid ((W.setCells (w.heap.size + 1) 0 (nodeC t2 (.slice ub k2.length ud)).toList).there w.heap.size 0 (nodeC t1 (.slice ua k1.length uc)).size) := HX2b.out.there7
        go_upto_region 6 with (first | (refine wpList_store_mid (by rfl) 50 (.tmp 5) (.tmp 24) (by rfl) (w.heap.size + 1) 0 (nodeC t2 (.slice ub k2.length ud)) (by rfl) (by rfl) HTH1.out node_size (node_one _ _ _ _) ?_; generalize World.setCells W (w.heap.size + 1) 0 (nodeC t2 (.slice ub k2.length ud)).toList = WA at *; have HTH2 := HTH2a) | (refine wpList_store_mid (by rfl) 50 (.tmp 6) (.tmp 25) (by rfl) w.heap.size 0 (nodeC t1 (.slice ua k1.length uc)) (by rfl) (by rfl) HTH2.out node_size (node_one _ _ _ _) ?_; generalize World.setCells WA w.heap.size 0 (nodeC t1 (.slice ua k1.length uc)).toList = WB at *))
        clear d0 d1 d2 d3 d4 d5 d6 f0 f1 f2 f3 f4 f5 f6 HTH1 HTH2 HTH2a
        have HNT : Hid (R = numdT t2 t1) := HNT0
        generalize hnx : numS t2 = NX at *
        have HNX := Lib.hid hnx
        generalize hsy : symS t1 = SY at *
        have HSY := Lib.hid hsy
        have HNU : Hid (R = if (NX.2 && SY.2 && decide (0 ≤ NX.1)) = true then (NX.1, SY.1, true) else (0, ⟨#[]⟩, false)) := by
          show _ = _
          rw [HNT.out]
          unfold numdT
          rw [HNX.out, HSY.out]
        have d0 : WB.cell? ⟨(w.heap.size + 1), 0, none⟩ = some (.int .i64 t2.kind) := HY1.out.cell 0
        have d1 : WB.cell? ⟨(w.heap.size + 1), 1, none⟩ = some (.string t2.text) := HY1.out.cell 1
        have d2 : WB.cell? ⟨(w.heap.size + 1), 2, none⟩ = some (.int .i64 t2.int) := HY1.out.cell 2
        have d3 : WB.cell? ⟨(w.heap.size + 1), 3, none⟩ = some (.bool t2.whole) := HY1.out.cell 3
        have d4 : WB.cell? ⟨(w.heap.size + 1), 4, none⟩ = some (.bool t2.sign) := HY1.out.cell 4
        have d5 : WB.cell? ⟨(w.heap.size + 1), 5, none⟩ = some (.bool t2.id) := HY1.out.cell 5
        have d6 : WB.cell? ⟨(w.heap.size + 1), 6, none⟩ = some (.slice ub k2.length ud) := HY1.out.cell 6
        clear hnx hsy
        cases hq1 : NX.2
        · have HR : Hid (R = (0, ⟨#[]⟩, false)) := HNU.out.trans (if_neg (by rw [hq1, Bool.false_and, Bool.false_and]; decide))
          go_wp2_with (first | (go_at_call 75; (with_reducible refine (number_any _ _ _ _ _).mono ?_); rintro e w5 ⟨rfl, hb5⟩; rw [HNX.out]; have HY5 := (HY2.out.below hb5 HY2.out.lt); have e0 : w5.cell? ⟨w.heap.size, 0, none⟩ = some (.int .i64 t1.kind) := HY5.cell 0; have e1 : w5.cell? ⟨w.heap.size, 1, none⟩ = some (.string t1.text) := HY5.cell 1; have e2 : w5.cell? ⟨w.heap.size, 2, none⟩ = some (.int .i64 t1.int) := HY5.cell 2; have e3 : w5.cell? ⟨w.heap.size, 3, none⟩ = some (.bool t1.whole) := HY5.cell 3; have e4 : w5.cell? ⟨w.heap.size, 4, none⟩ = some (.bool t1.sign) := HY5.cell 4; have e5 : w5.cell? ⟨w.heap.size, 5, none⟩ = some (.bool t1.id) := HY5.cell 5; have e6 : w5.cell? ⟨w.heap.size, 6, none⟩ = some (.slice ua k1.length uc) := HY5.cell 6) | (go_at_call 17; (with_reducible refine (symbol_any _ _ _ _ _).mono ?_); rintro e w6 ⟨rfl, hb6⟩; rw [HSY.out]))
          refine bodyPost_ret (v := .tuple #[.int .i64 0, .string ⟨#[]⟩, .bool false]) (by simp [results, Tryd.results79, go_sem]) rfl ⟨?_, below_seq (below_seq HBY.out hb5) hb6⟩
          rw [HR.out]
        · cases hq2 : SY.2
          · have HR : Hid (R = (0, ⟨#[]⟩, false)) := HNU.out.trans (if_neg (by rw [hq2, Bool.and_false, Bool.false_and]; decide))
            go_wp2_with (first | (go_at_call 75; (with_reducible refine (number_any _ _ _ _ _).mono ?_); rintro e w5 ⟨rfl, hb5⟩; rw [HNX.out]; have HY5 := (HY2.out.below hb5 HY2.out.lt); have e0 : w5.cell? ⟨w.heap.size, 0, none⟩ = some (.int .i64 t1.kind) := HY5.cell 0; have e1 : w5.cell? ⟨w.heap.size, 1, none⟩ = some (.string t1.text) := HY5.cell 1; have e2 : w5.cell? ⟨w.heap.size, 2, none⟩ = some (.int .i64 t1.int) := HY5.cell 2; have e3 : w5.cell? ⟨w.heap.size, 3, none⟩ = some (.bool t1.whole) := HY5.cell 3; have e4 : w5.cell? ⟨w.heap.size, 4, none⟩ = some (.bool t1.sign) := HY5.cell 4; have e5 : w5.cell? ⟨w.heap.size, 5, none⟩ = some (.bool t1.id) := HY5.cell 5; have e6 : w5.cell? ⟨w.heap.size, 6, none⟩ = some (.slice ua k1.length uc) := HY5.cell 6) | (go_at_call 17; (with_reducible refine (symbol_any _ _ _ _ _).mono ?_); rintro e w6 ⟨rfl, hb6⟩; rw [HSY.out]))
            refine bodyPost_ret (v := .tuple #[.int .i64 0, .string ⟨#[]⟩, .bool false]) (by simp [results, Tryd.results79, go_sem]) rfl ⟨?_, below_seq (below_seq HBY.out hb5) hb6⟩
            rw [HR.out]
          · by_cases hq3 : NX.1 < 0
            · have HR : Hid (R = (0, ⟨#[]⟩, false)) := HNU.out.trans (if_neg (by rw [decide_eq_false (show ¬ 0 ≤ NX.1 by omega), Bool.and_false]; decide))
              go_wp2_with (first | (go_at_call 75; (with_reducible refine (number_any _ _ _ _ _).mono ?_); rintro e w5 ⟨rfl, hb5⟩; rw [HNX.out]; have HY5 := (HY2.out.below hb5 HY2.out.lt); have e0 : w5.cell? ⟨w.heap.size, 0, none⟩ = some (.int .i64 t1.kind) := HY5.cell 0; have e1 : w5.cell? ⟨w.heap.size, 1, none⟩ = some (.string t1.text) := HY5.cell 1; have e2 : w5.cell? ⟨w.heap.size, 2, none⟩ = some (.int .i64 t1.int) := HY5.cell 2; have e3 : w5.cell? ⟨w.heap.size, 3, none⟩ = some (.bool t1.whole) := HY5.cell 3; have e4 : w5.cell? ⟨w.heap.size, 4, none⟩ = some (.bool t1.sign) := HY5.cell 4; have e5 : w5.cell? ⟨w.heap.size, 5, none⟩ = some (.bool t1.id) := HY5.cell 5; have e6 : w5.cell? ⟨w.heap.size, 6, none⟩ = some (.slice ua k1.length uc) := HY5.cell 6) | (go_at_call 17; (with_reducible refine (symbol_any _ _ _ _ _).mono ?_); rintro e w6 ⟨rfl, hb6⟩; rw [HSY.out]))
              refine bodyPost_ret (v := .tuple #[.int .i64 0, .string ⟨#[]⟩, .bool false]) (by simp [results, Tryd.results79, go_sem]) rfl ⟨?_, below_seq (below_seq HBY.out hb5) hb6⟩
              rw [HR.out]
            · have hq4 : decide (NX.1 < 0) = false := decide_eq_false hq3
              have HR : Hid (R = (NX.1, SY.1, true)) := HNU.out.trans (if_pos (by rw [hq1, hq2, decide_eq_true (show 0 ≤ NX.1 by omega)]; rfl))
              go_wp2_with (first | (go_at_call 75; (with_reducible refine (number_any _ _ _ _ _).mono ?_); rintro e w5 ⟨rfl, hb5⟩; rw [HNX.out]; have HY5 := (HY2.out.below hb5 HY2.out.lt); have e0 : w5.cell? ⟨w.heap.size, 0, none⟩ = some (.int .i64 t1.kind) := HY5.cell 0; have e1 : w5.cell? ⟨w.heap.size, 1, none⟩ = some (.string t1.text) := HY5.cell 1; have e2 : w5.cell? ⟨w.heap.size, 2, none⟩ = some (.int .i64 t1.int) := HY5.cell 2; have e3 : w5.cell? ⟨w.heap.size, 3, none⟩ = some (.bool t1.whole) := HY5.cell 3; have e4 : w5.cell? ⟨w.heap.size, 4, none⟩ = some (.bool t1.sign) := HY5.cell 4; have e5 : w5.cell? ⟨w.heap.size, 5, none⟩ = some (.bool t1.id) := HY5.cell 5; have e6 : w5.cell? ⟨w.heap.size, 6, none⟩ = some (.slice ua k1.length uc) := HY5.cell 6) | (go_at_call 17; (with_reducible refine (symbol_any _ _ _ _ _).mono ?_); rintro e w6 ⟨rfl, hb6⟩; rw [HSY.out]))
              refine bodyPost_ret (v := .tuple #[.int .i64 NX.1, .string SY.1, .bool true]) (by simp [results, Tryd.results79, go_sem]) rfl ⟨?_, below_seq (below_seq HBY.out hb5) hb6⟩
              rw [HR.out]
  · have HR := Lib.hid (numdS_no hlen)
    obtain ⟨a, c, rfl, hlc⟩ := h.shape
    have hl1 : ((l.length : Int) == 2) = false := beq_eq_false_iff_ne.2 (by omega)
    have hl2 : ((l.length : Int) != 2) = true := by rw [bne, hl1]; rfl
    have hl3 : ¬ (l.length : Int) = 2 := by omega
    go_enter Tryd.func79, Tryd.ntmps79
    go_wp2
    refine bodyPost_ret (v := .tuple #[.int .i64 0, .string ⟨#[]⟩, .bool false]) (by simp [results, Tryd.results79, go_sem]) rfl ⟨?_, Below.refl _ _⟩
    rw [HR.out]
end Go.Proofs.YtjjlnmjapfcmaaaDoor
