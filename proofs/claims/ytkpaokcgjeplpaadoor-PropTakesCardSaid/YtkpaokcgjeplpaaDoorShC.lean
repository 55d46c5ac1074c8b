
import Derived.Test.YtkpaokcgjeplpaaDoorShB
namespace Go.Proofs.YtkpaokcgjeplpaaDoor
open Go.RowKit
theorem szL_trim (l : List Nd) : szL (trimS l) ≤ szL l := by
  unfold trimS trZ
  obtain ⟨k, _, e⟩ := trA_drop l
  rw [e]
  exact Nat.le_trans (szL_le_take _ _) (szL_sub _ _)
theorem trim_in {l : List Nd} {n : Nd} (h : n ∈ trimS l) : n ∈ l := by
  unfold trimS trZ at h
  obtain ⟨k, _, e⟩ := trA_drop l
  rw [e] at h
  exact List.mem_of_mem_drop (List.mem_of_mem_take h)
/-- No text is too long for the model's memory. -/
def TX (l : List Nd) : Prop := ∀ n ∈ l, n.tok.text.size ≤ 1000000000
set_option maxRecDepth 100000 in
set_option maxHeartbeats 6400000 in
theorem refvalue_any {l : List Nd} {v : Value} {w : World} {P : Nat → Prop} (h : RdN w P v l) (hl : szL l ≤ 100000000) (hx : TX l) :
    Calls Tryd.prog 56 #[v] w (ValuePost w P (valS l)) := by
  obtain ⟨i0, hi, hz0, hz1, hz2⟩ := info_parts info_int
  have HC := Lib.hid (reftrim_any h hl)
  have HZ := Lib.hid (Nat.le_trans (szL_trim l) hl)
  have HV := Lib.hid (show valS l = valT (trimS l) from rfl)
  have HX := Lib.hid (show TX (trimS l) from fun n hn => hx n (trim_in hn))
  clear hx
  generalize trimS l = t at *
  obtain ⟨a9, c9, rfl, _⟩ := h.shape
  clear h
  go_enter Tryd.func56, Tryd.ntmps56
  go_wp2_with fail
  refine HC.out.mono ?_
  rintro e w1 ⟨⟨v1, rfl, hv1⟩, rfl⟩
  have hll := szL_ge t
  have hlz := HZ.out
  have HH := Lib.hid hv1
  obtain ⟨a, c, rfl, hlc⟩ := hv1.shape
  obtain ⟨N, hN⟩ : ∃ N, t.length = N := ⟨_, rfl⟩
  rw [hN] at hll hlc HH ⊢
  have HN := Lib.hid hN
  clear hv1 hN
  go_wp2_with fail
  go_loopw [4, 5] (fun av iv wr => ∃ (i : Nat) (a0 : Value) (ys : List Int), a0 = av ∧ iv = .int .i64 i ∧ i ≤ N ∧ OwnN w.heap.size wr a0 ys ∧ ys ++ atS (t.drop i) i = atS t 0 ∧ ys.length ≤ i ∧ Below w.heap.size w wr) (fun _ iv _ => N - (intOf iv).toNat)
  case atStart => exact ⟨0, _, [], rfl, rfl, Nat.zero_le _, OwnN.nil _ _, rfl, Nat.zero_le _, Below.refl _ _⟩
  case round =>
    obtain ⟨i, a0, ys, rfl, rfl, hiN, hown, hrun, hal, hB⟩ := hrel
    have hws := hB.size
    have HB := Lib.hid hB
    have HR := Lib.hid hrun
    obtain ⟨ba, bc, rfl, _⟩ := row_sl hown
    obtain ⟨m, hm⟩ : ∃ m, ys.length = m := ⟨_, rfl⟩
    have HOW : Hid (wr.ownsRow w.heap.size 3 1 (.slice ba m bc) m (ys.map (Value.int .i64))) := by
      have hh := hown
      unfold OwnN at hh
      rw [hm] at hh
      exact hh
    rw [hm] at hal ⊢
    have HM := Lib.hid hm
    clear hB hrun hown hm
    by_cases hlt : i < N
    · have hr := HH.out.under HB.out (Nat.le_refl _)
      have hp : 0 < t.length := by rw [HN.out]; omega
      obtain ⟨b, off, c2, hv2, _, _, hbl, g1⟩ := hr.base hp
      rw [HN.out] at hv2
      injection hv2 with e1 _ e3
      subst e1 e3
      obtain ⟨u, hat, hku⟩ := g1 i (by rw [HN.out]; exact hlt)
      have hdr : t.drop i = t[i]'(by rw [HN.out]; exact hlt) :: t.drop (i + 1) := List.drop_eq_getElem_cons (by rw [HN.out]; exact hlt)
      generalize t[i]'(by rw [HN.out]; exact hlt) = nd at *
      obtain ⟨tk, k⟩ := nd
      simp only [Nd.tok] at hat
      obtain ⟨c0, c1, c2', c3, c4, c5, c6⟩ := hat
      have HD := Lib.hid hdr
      have hx0 : (0 : Int) ≤ (i : Int) := by omega
      have hx1 : (i : Int) < (N : Int) := by omega
      clear hdr hku g1 hr c1 c2' c3 c4 c5 c6
      by_cases hwh : (tk.kind == 13) = true
      · have HM2 := Lib.hid (show ys ++ atS (t.drop (i + 1)) (i + 1) = atS t 0 by have h := HR.out; rw [HD.out, atS, wh_iff, if_pos hwh] at h; exact h)
        go_wp2
        go_roundw
        case rel => exact ⟨i + 1, _, ys, rfl, by go_num, by omega, by unfold OwnN; rw [HM.out]; exact HOW.out, HM2.out, by rw [HM.out]; omega, HB.out⟩
        case measure => simp [intOf]; omega
      · have hwh : (tk.kind == 13) = false := by simpa using hwh
        have HM2 := Lib.hid (show (ys ++ [(i : Int)]) ++ atS (t.drop (i + 1)) (i + 1) = atS t 0 by have h := HR.out; rw [HD.out, atS, wh_iff, if_neg (by rw [hwh]; decide)] at h; rw [List.append_assoc]; exact h)
        go_wp2_with (at_builtin; refine wpList_append_own _ rfl _ _ 113 rfl w.heap.size 3 i0 (.int .i64 0) 1 8 Tryd.underlying113 hi hz0 hz1 hz2 rfl (by decide) _ _ _ rfl (HOW.out.alloc _) ⟨wr.heap.size, 0, none⟩ 1 1 [.int .i64 i] rfl rfl (cell_one_new _ _ _) (by simp [Value.oneCell']) (by unfold maxLen; omega) (by omega) (by simp; omega) ?_; intro v' w4 ho4 hg4 _)
        have hb4 : Below w.heap.size w w4 := (HB.out.alloc hws (.cells #[.int .i64 (i : Int)] 3)).grown hg4 (by simp; omega) (fun q hq => by have := (HOW.out.lt q hq).1; omega)
        go_roundw
        case rel => exact ⟨i + 1, v', ys ++ [(i : Int)], rfl, by go_num, by omega, OwnN.snoc (by rw [HM.out]; exact ho4), HM2.out, by rw [List.length_append, HM.out]; simp; omega, hb4⟩
        case measure => simp [intOf]; omega
    · obtain rfl : i = N := by omega
      have HAS : Hid (ys = atS t 0) := by
        have h := HR.out
        rw [show t.drop i = [] from List.drop_eq_nil_of_le (by rw [HN.out]; omega), atS, List.append_nil] at h
        exact h
      by_cases hm2 : m < 2
      · have hm2I : (m : Int) < 2 := by omega
        have HX : Hid (valT t = (t, false)) := by
          show _ = _
          unfold valT
          rw [← HAS.out, HM.out, if_pos hm2]
        go_wp2
        refine bodyPost_ret (v := .tuple #[.slice a i c, .bool false]) (by simp [results, Tryd.results56, go_sem]) rfl ?_
        rw [HV.out, HX.out]
        exact ⟨⟨_, rfl, HH.out.under HB.out (Nat.le_refl _)⟩, HB.out⟩
      · obtain ⟨M, rfl⟩ : ∃ M, m = M + 2 := ⟨m - 2, by omega⟩
        obtain ⟨g, cap, hgv, hgb, hgl⟩ := HOW.out.form (by omega)
        injection hgv with e1 _ e3
        subst e1 e3
        have hmem1 := atS_mem t 0 (nth ys M) (by rw [← HAS.out]; exact nth_in (by rw [HM.out]; omega))
        have hmem2 := atS_mem t 0 (nth ys (M + 1)) (by rw [← HAS.out]; exact nth_in (by rw [HM.out]; omega))
        have k1 : wr.cell? ⟨g, M, none⟩ = some (.int .i64 (nth ys M)) := by
          have := HOW.out.cells (g := g) rfl M (.int .i64 (nth ys M)) (by rw [List.getElem?_map, List.getElem?_eq_getElem (by rw [HM.out]; omega)]; unfold nth; rw [List.getD_eq_getElem?_getD, List.getElem?_eq_getElem (by rw [HM.out]; omega)]; rfl)
          rw [add0] at this
          exact this
        have k2 : wr.cell? ⟨g, M + 1, none⟩ = some (.int .i64 (nth ys (M + 1))) := by
          have := HOW.out.cells (g := g) rfl (M + 1) (.int .i64 (nth ys (M + 1))) (by rw [List.getElem?_map, List.getElem?_eq_getElem (by rw [HM.out]; omega)]; unfold nth; rw [List.getD_eq_getElem?_getD, List.getElem?_eq_getElem (by rw [HM.out]; omega)]; rfl)
          rw [add0] at this
          exact this
        rw [HN.out] at hmem1 hmem2
        obtain ⟨I, hI⟩ : ∃ I : Nat, nth ys M = (I : Int) := ⟨(nth ys M).toNat, by omega⟩
        obtain ⟨J, hJ⟩ : ∃ J : Nat, nth ys (M + 1) = (J : Int) := ⟨(nth ys (M + 1)).toNat, by omega⟩
        rw [hI] at k1 hmem1
        rw [hJ] at k2 hmem2
        have hIi : I < i := by omega
        have hJi : J < i := by omega
        have hr := HH.out.under HB.out (Nat.le_refl _)
        have hp : 0 < t.length := by rw [HN.out]; omega
        obtain ⟨b, off, c2, hv2, _, _, hbl, g1⟩ := hr.base hp
        rw [HN.out] at hv2
        injection hv2 with e1 _ e3
        subst e1 e3
        obtain ⟨u1, hat1, _⟩ := g1 I (by rw [HN.out]; exact hIi)
        obtain ⟨u2, hat2, _⟩ := g1 J (by rw [HN.out]; exact hJi)
        have HT1 := Lib.hid (tokAt_nat t (I := I) (by rw [HN.out]; exact hIi))
        have HT3 := Lib.hid (show (t[J]'(by rw [HN.out]; exact hJi)).tok.text.size ≤ 1000000000 from HX.out _ (List.getElem_mem _))
        have HT2 := Lib.hid (tokAt_nat t (I := J) (by rw [HN.out]; exact hJi))
        have HII := Lib.hid hI
        have HJJ := Lib.hid hJ
        generalize (t[I]'(by rw [HN.out]; exact hIi)).tok = t1 at *
        generalize (t[J]'(by rw [HN.out]; exact hJi)).tok = t2 at *
        obtain ⟨p0, p1, p2, p3, p4, p5, p6⟩ := hat1
        obtain ⟨q0, q1, q2, q3, q4, q5, q6⟩ := hat2
        have HVT : Hid (valT t = if (bangB t1 && impB t2) = true then (trimS (t.take I), true) else (t, false)) := by
          show _ = _
          unfold valT
          rw [← HAS.out, HM.out, if_neg (by omega)]
          have e1 : M + 2 - 2 = M := by omega
          have e2 : M + 2 - 1 = M + 1 := by omega
          rw [e1, e2, HII.out, HJJ.out, HT1.out, HT2.out, Int.toNat_natCast]
        have m0 : (0 : Int) ≤ (M : Int) := by omega
        have m1 : (M : Int) < (M : Int) + 2 := by omega
        have m2 : (M : Int) + 1 < (M : Int) + 2 := by omega
        have m3 : (0 : Int) ≤ (M : Int) + 1 := by omega
        have m4 : ¬ (M : Int) + 2 < 2 := by omega
        have m5 : (M : Int) ≤ 100000000 := by omega
        have n0 : (0 : Int) ≤ (I : Int) := by omega
        have n1 : (I : Int) < (i : Int) := by omega
        have n2 : (0 : Int) ≤ (J : Int) := by omega
        have n3 : (J : Int) < (i : Int) := by omega
        clear hI hJ hmem1 hmem2 g1 hr p6 q6
        go_upto_region 11 with fail
        have wr1 : IntKind.i64.wrap ((M : Int) + 2 - 2) = (M : Int) := by rw [IntWalk.i64_in _ (by omega)]; omega
        have wr2 : IntKind.i64.wrap ((M : Int) + 2 - 1) = (M : Int) + 1 := by rw [IntWalk.i64_in _ (by omega)]; omega
        have wr3 : IntKind.i64.wrap (M : Int) = (M : Int) := by rw [IntWalk.i64_in _ (by omega)]
        have wr4 : IntKind.i64.wrap ((M : Int) + 1) = (M : Int) + 1 := by rw [IntWalk.i64_in _ (by omega)]
        go_region_held3 (fun w' => w'.cell? ⟨g, M, none⟩ = some (.int .i64 I) ∧ w'.cell? ⟨g, M + 1, none⟩ = some (.int .i64 J) ∧ w'.cell? ⟨b, off + I * 7, none⟩ = some (.int .i64 t1.kind) ∧ w'.cell? ⟨b, off + I * 7 + 1, none⟩ = some (.string t1.text) ∧ w'.cell? ⟨b, off + I * 7 + 2, none⟩ = some (.int .i64 t1.int) ∧ w'.cell? ⟨b, off + I * 7 + 3, none⟩ = some (.bool t1.whole) ∧ w'.cell? ⟨b, off + I * 7 + 4, none⟩ = some (.bool t1.sign) ∧ w'.cell? ⟨b, off + I * 7 + 5, none⟩ = some (.bool t1.id) ∧ w'.cell? ⟨b, off + J * 7, none⟩ = some (.int .i64 t2.kind) ∧ w'.cell? ⟨b, off + J * 7 + 1, none⟩ = some (.string t2.text) ∧ w'.cell? ⟨b, off + J * 7 + 2, none⟩ = some (.int .i64 t2.int) ∧ w'.cell? ⟨b, off + J * 7 + 3, none⟩ = some (.bool t2.whole) ∧ w'.cell? ⟨b, off + J * 7 + 4, none⟩ = some (.bool t2.sign) ∧ w'.cell? ⟨b, off + J * 7 + 5, none⟩ = some (.bool t2.id)) (go_keep) (fail)
        · obtain ⟨TX, TY⟩ := two_tb wr t1 t2
          have hW : Below wr.heap.size wr ((wr.alloc (.cells #[.int .i64 t1.kind, .string t1.text, .int .i64 t1.int, .bool t1.whole, .bool t1.sign, .bool t1.id] 84)).alloc (.cells #[.int .i64 t2.kind, .string t2.text, .int .i64 t2.int, .bool t2.whole, .bool t2.sign, .bool t2.id] 84)).drew := (((Below.refl wr.heap.size wr).alloc (Nat.le_refl _) _).alloc (by simp) _).drew
          have hWs : wr.heap.size + 2 ≤ (((wr.alloc (.cells #[.int .i64 t1.kind, .string t1.text, .int .i64 t1.int, .bool t1.whole, .bool t1.sign, .bool t1.id] 84)).alloc (.cells #[.int .i64 t2.kind, .string t2.text, .int .i64 t2.int, .bool t2.whole, .bool t2.sign, .bool t2.id] 84)).drew).heap.size := by simp [World.drew]
          generalize ((wr.alloc (.cells #[.int .i64 t1.kind, .string t1.text, .int .i64 t1.int, .bool t1.whole, .bool t1.sign, .bool t1.id] 84)).alloc (.cells #[.int .i64 t2.kind, .string t2.text, .int .i64 t2.int, .bool t2.whole, .bool t2.sign, .bool t2.id] 84)).drew = W at *
          have k1W := (hW.cell (p := ⟨g, M, none⟩) hgl).trans k1
          have HBW := Lib.hid (below_seq HB.out hW)
          obtain ⟨z0, z1⟩ := TX.at
          obtain ⟨y0, y1⟩ := TY.at
          clear hW p0 p1 p2 p3 p4 p5 q0 q1 q2 q3 q4 q5 k1 k2 wr1 wr2 wr4
          rcases imp_cases t1 t2 with ⟨hb, x1⟩ | ⟨hb, x1, x2⟩ | ⟨hb, x1, x2, x3⟩ | ⟨hb, x1, x2, x3, x4⟩ | ⟨hb, x1, x2, x3, x4⟩
          · have HX : Hid (valT t = (t, false)) := by
              show _ = _
              rw [HVT.out, if_neg (by rw [hb]; decide)]
            clear hb
            have b9 : (t1.kind != 9) = true := by rw [bne, x1]; rfl
            go_wp2
            refine bodyPost_ret (v := .tuple #[.slice (some ⟨b, off, none⟩) i c, .bool false]) (by simp [results, Tryd.results56, go_sem]) rfl ?_
            rw [HV.out, HX.out]
            exact ⟨⟨_, rfl, HH.out.under HBW.out (Nat.le_refl _)⟩, HBW.out⟩
          · have HX : Hid (valT t = (t, false)) := by
              show _ = _
              rw [HVT.out, if_neg (by rw [hb]; decide)]
            clear hb
            have b9 : (t1.kind != 9) = false := by rw [bne, x1]; rfl
            go_wp2
            refine bodyPost_ret (v := .tuple #[.slice (some ⟨b, off, none⟩) i c, .bool false]) (by simp [results, Tryd.results56, go_sem]) rfl ?_
            rw [HV.out, HX.out]
            exact ⟨⟨_, rfl, HH.out.under HBW.out (Nat.le_refl _)⟩, HBW.out⟩
          · have HX : Hid (valT t = (t, false)) := by
              show _ = _
              rw [HVT.out, if_neg (by rw [hb]; decide)]
            clear hb
            have b9 : (t1.kind != 9) = false := by rw [bne, x1]; rfl
            have b1 : (t2.kind != 1) = true := by rw [bne, x3]; rfl
            go_wp2
            refine bodyPost_ret (v := .tuple #[.slice (some ⟨b, off, none⟩) i c, .bool false]) (by simp [results, Tryd.results56, go_sem]) rfl ?_
            rw [HV.out, HX.out]
            exact ⟨⟨_, rfl, HH.out.under HBW.out (Nat.le_refl _)⟩, HBW.out⟩
          · have HX : Hid (valT t = (t, false)) := by
              show _ = _
              rw [HVT.out, if_neg (by rw [hb]; decide)]
            clear hb
            have b9 : (t1.kind != 9) = false := by rw [bne, x1]; rfl
            have b1 : (t2.kind != 1) = false := by rw [bne, x3]; rfl
            generalize hlw : lowS t2.text = LW at *
            have HLW := Lib.hid hlw
            go_wp2_with (go_at_call 57; (with_reducible refine (reflower_any _ _ HT3.out).mono ?_); rintro e w5 ⟨rfl, hb5⟩; rw [HLW.out])
            refine bodyPost_ret (v := .tuple #[.slice (some ⟨b, off, none⟩) i c, .bool false]) (by simp [results, Tryd.results56, go_sem]) rfl ?_
            rw [HV.out, HX.out]
            exact ⟨⟨_, rfl, HH.out.under (below_seq HBW.out hb5) (Nat.le_refl _)⟩, (below_seq HBW.out hb5)⟩
          · have HX : Hid (valT t = (trimS (t.take I), true)) := by
              show _ = _
              rw [HVT.out, if_pos hb]
            have hIc : (I : Int) ≤ (c : Int) := by omega
            clear hb
            have b9 : (t1.kind != 9) = false := by rw [bne, x1]; rfl
            have b1 : (t2.kind != 1) = false := by rw [bne, x3]; rfl
            generalize hlw : lowS t2.text = LW at *
            have HLW := Lib.hid hlw
            go_wp2_with (go_at_call 57; (with_reducible refine (reflower_any _ _ HT3.out).mono ?_); rintro e w5 ⟨rfl, hb5⟩; rw [HLW.out]; go_must (have k5 := (hb5.cell (p := ⟨g, M, none⟩) (by show g < W.heap.size; omega)).trans k1W))
            have hb6 := below_seq HBW.out hb5
            refine (reftrim_any ((HH.out.under hb6 (Nat.le_refl _)).take I (by rw [HN.out]; omega)) (Nat.le_trans (szL_le_take I t) HZ.out)).mono ?_
            rintro e w7 ⟨⟨v7, rfl, hv7⟩, rfl⟩
            obtain ⟨a7, c7, rfl, _⟩ := hv7.shape
            go_wp2
            refine bodyPost_ret (v := .tuple #[.slice a7 (trimS (t.take I)).length c7, .bool true]) (by simp [results, Tryd.results56, go_sem]) rfl ?_
            rw [HV.out, HX.out]
            exact ⟨⟨_, rfl, hv7⟩, hb6⟩
        · obtain ⟨TY, TX⟩ := two_tb wr t2 t1
          have hW : Below wr.heap.size wr ((wr.alloc (.cells #[.int .i64 t2.kind, .string t2.text, .int .i64 t2.int, .bool t2.whole, .bool t2.sign, .bool t2.id] 84)).alloc (.cells #[.int .i64 t1.kind, .string t1.text, .int .i64 t1.int, .bool t1.whole, .bool t1.sign, .bool t1.id] 84)).drew := (((Below.refl wr.heap.size wr).alloc (Nat.le_refl _) _).alloc (by simp) _).drew
          have hWs : wr.heap.size + 2 ≤ (((wr.alloc (.cells #[.int .i64 t2.kind, .string t2.text, .int .i64 t2.int, .bool t2.whole, .bool t2.sign, .bool t2.id] 84)).alloc (.cells #[.int .i64 t1.kind, .string t1.text, .int .i64 t1.int, .bool t1.whole, .bool t1.sign, .bool t1.id] 84)).drew).heap.size := by simp [World.drew]
          generalize ((wr.alloc (.cells #[.int .i64 t2.kind, .string t2.text, .int .i64 t2.int, .bool t2.whole, .bool t2.sign, .bool t2.id] 84)).alloc (.cells #[.int .i64 t1.kind, .string t1.text, .int .i64 t1.int, .bool t1.whole, .bool t1.sign, .bool t1.id] 84)).drew = W at *
          have k1W := (hW.cell (p := ⟨g, M, none⟩) hgl).trans k1
          have HBW := Lib.hid (below_seq HB.out hW)
          obtain ⟨z0, z1⟩ := TX.at
          obtain ⟨y0, y1⟩ := TY.at
          clear hW p0 p1 p2 p3 p4 p5 q0 q1 q2 q3 q4 q5 k1 k2 wr1 wr2 wr4
          rcases imp_cases t1 t2 with ⟨hb, x1⟩ | ⟨hb, x1, x2⟩ | ⟨hb, x1, x2, x3⟩ | ⟨hb, x1, x2, x3, x4⟩ | ⟨hb, x1, x2, x3, x4⟩
          · have HX : Hid (valT t = (t, false)) := by
              show _ = _
              rw [HVT.out, if_neg (by rw [hb]; decide)]
            clear hb
            have b9 : (t1.kind != 9) = true := by rw [bne, x1]; rfl
            go_wp2
            refine bodyPost_ret (v := .tuple #[.slice (some ⟨b, off, none⟩) i c, .bool false]) (by simp [results, Tryd.results56, go_sem]) rfl ?_
            rw [HV.out, HX.out]
            exact ⟨⟨_, rfl, HH.out.under HBW.out (Nat.le_refl _)⟩, HBW.out⟩
          · have HX : Hid (valT t = (t, false)) := by
              show _ = _
              rw [HVT.out, if_neg (by rw [hb]; decide)]
            clear hb
            have b9 : (t1.kind != 9) = false := by rw [bne, x1]; rfl
            go_wp2
            refine bodyPost_ret (v := .tuple #[.slice (some ⟨b, off, none⟩) i c, .bool false]) (by simp [results, Tryd.results56, go_sem]) rfl ?_
            rw [HV.out, HX.out]
            exact ⟨⟨_, rfl, HH.out.under HBW.out (Nat.le_refl _)⟩, HBW.out⟩
          · have HX : Hid (valT t = (t, false)) := by
              show _ = _
              rw [HVT.out, if_neg (by rw [hb]; decide)]
            clear hb
            have b9 : (t1.kind != 9) = false := by rw [bne, x1]; rfl
            have b1 : (t2.kind != 1) = true := by rw [bne, x3]; rfl
            go_wp2
            refine bodyPost_ret (v := .tuple #[.slice (some ⟨b, off, none⟩) i c, .bool false]) (by simp [results, Tryd.results56, go_sem]) rfl ?_
            rw [HV.out, HX.out]
            exact ⟨⟨_, rfl, HH.out.under HBW.out (Nat.le_refl _)⟩, HBW.out⟩
          · have HX : Hid (valT t = (t, false)) := by
              show _ = _
              rw [HVT.out, if_neg (by rw [hb]; decide)]
            clear hb
            have b9 : (t1.kind != 9) = false := by rw [bne, x1]; rfl
            have b1 : (t2.kind != 1) = false := by rw [bne, x3]; rfl
            generalize hlw : lowS t2.text = LW at *
            have HLW := Lib.hid hlw
            go_wp2_with (go_at_call 57; (with_reducible refine (reflower_any _ _ HT3.out).mono ?_); rintro e w5 ⟨rfl, hb5⟩; rw [HLW.out])
            refine bodyPost_ret (v := .tuple #[.slice (some ⟨b, off, none⟩) i c, .bool false]) (by simp [results, Tryd.results56, go_sem]) rfl ?_
            rw [HV.out, HX.out]
            exact ⟨⟨_, rfl, HH.out.under (below_seq HBW.out hb5) (Nat.le_refl _)⟩, (below_seq HBW.out hb5)⟩
          · have HX : Hid (valT t = (trimS (t.take I), true)) := by
              show _ = _
              rw [HVT.out, if_pos hb]
            have hIc : (I : Int) ≤ (c : Int) := by omega
            clear hb
            have b9 : (t1.kind != 9) = false := by rw [bne, x1]; rfl
            have b1 : (t2.kind != 1) = false := by rw [bne, x3]; rfl
            generalize hlw : lowS t2.text = LW at *
            have HLW := Lib.hid hlw
            go_wp2_with (go_at_call 57; (with_reducible refine (reflower_any _ _ HT3.out).mono ?_); rintro e w5 ⟨rfl, hb5⟩; rw [HLW.out]; go_must (have k5 := (hb5.cell (p := ⟨g, M, none⟩) (by show g < W.heap.size; omega)).trans k1W))
            have hb6 := below_seq HBW.out hb5
            refine (reftrim_any ((HH.out.under hb6 (Nat.le_refl _)).take I (by rw [HN.out]; omega)) (Nat.le_trans (szL_le_take I t) HZ.out)).mono ?_
            rintro e w7 ⟨⟨v7, rfl, hv7⟩, rfl⟩
            obtain ⟨a7, c7, rfl, _⟩ := hv7.shape
            go_wp2
            refine bodyPost_ret (v := .tuple #[.slice a7 (trimS (t.take I)).length c7, .bool true]) (by simp [results, Tryd.results56, go_sem]) rfl ?_
            rw [HV.out, HX.out]
            exact ⟨⟨_, rfl, hv7⟩, hb6⟩
theorem val_sz (l : List Nd) : szL (valS l).1 ≤ szL l := by
  unfold valS valT
  split
  · exact szL_trim l
  · split
    · exact Nat.le_trans (szL_trim _) (Nat.le_trans (szL_le_take _ _) (szL_trim l))
    · exact szL_trim l
end Go.Proofs.YtkpaokcgjeplpaaDoor
