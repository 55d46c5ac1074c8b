
import Derived.Test.YtmnjopbfdocinaaScI
namespace Go.Proofs.Ytmnjopbfdocinaa
open Go.RowKit
/-! ScopeInner. -/
abbrev nmI : ByteArray := ⟨#[110]⟩
def stk (n : Nat) : List CoD := (List.range n).map fun (i : Nat) => (⟨nmI, (i : Int), 10 * (i : Int), false⟩ : CoD)
def wantL (n : Nat) : List Int := (List.range n).map fun (i : Nat) => 10 * (i : Int)
theorem stk_len (n : Nat) : (stk n).length = n := by simp [stk]
theorem wantL_len (n : Nat) : (wantL n).length = n := by simp [wantL]
theorem wantL_succ (n : Nat) : wantL (n + 1) = wantL n ++ [10 * (n : Int)] := by
  unfold wantL
  rw [List.range_succ, List.map_append]
  rfl
theorem in_reset : ∀ k : Fin 15, resetD (stk k) k [] nmI (10 * k) false false = stk (k + 1) := by decide +kernel
theorem in_num : ∀ k : Fin 15, numD (stk (k + 1)) 99 nmI = 10 * k := by decide +kernel
theorem in_vals : ∀ k : Fin 16, valuesD (stk k) nmI = wantL k := by decide +kernel
theorem in_reset2 : ∀ n : Fin 15, ∀ k : Fin 17, valuesD (resetD (stk (n + 1)) 99 [(k : Int)] nmI 5 false false) nmI = if (k : Nat) = n then wantL n ++ [5] else wantL (n + 1) ++ [5] := by decide +kernel
theorem in_rlen : ∀ n : Fin 15, ∀ k : Fin 17, (resetD (stk (n + 1)) 99 [(k : Int)] nmI 5 false false).length ≤ 100 := by decide +kernel
theorem in_put (n : Nat) (h : n < 15) (X : Int) : valuesD (putD (stk (n + 1)) 99 nmI X) nmI = (wantL (n + 1)).set n X := by
  have h1 : n = 0 ∨ n = 1 ∨ n = 2 ∨ n = 3 ∨ n = 4 ∨ n = 5 ∨ n = 6 ∨ n = 7 ∨ n = 8 ∨ n = 9 ∨ n = 10 ∨ n = 11 ∨ n = 12 ∨ n = 13 ∨ n = 14 := by omega
  rcases h1 with rfl | rfl | rfl | rfl | rfl | rfl | rfl | rfl | rfl | rfl | rfl | rfl | rfl | rfl | rfl <;> (show _ = _; kernel_rfl)
theorem in_plen (n : Nat) (h : n < 15) (X : Int) : (putD (stk (n + 1)) 99 nmI X).length ≤ 100 := by
  rw [putD_len]
  have := haveD_len (stk (n + 1)) 99 nmI
  rw [stk_len] at this
  omega
theorem own_emptyInt {B : Nat} (w : World) (hB : B ≤ w.heap.size) : (w.alloc (.cells #[] 3)).ownsRow B 3 1 (.slice (some ⟨w.heap.size, 0, none⟩) 0 0) 0 [] :=
  World.ownsRow_made w #[] 0 hB (Nat.zero_le _) rfl
theorem grown_set {w : World} {p : Addr} {u : Value} : w.grownBy (w.setCell p u) (some p.block) := ⟨rfl, rfl, rfl, by simp, fun k hk hn => heap_setCell_other w p k u (fun e => hn (by rw [e]))⟩
theorem row_setI {w : World} {B n g cap : Nat} {xs : List Int} (h : w.ownsRow B 3 1 (.slice (some ⟨g, 0, none⟩) n cap) n (xs.map (Value.int .i64))) (i : Nat) (x : Int) :
    (w.setCell ⟨g, i, none⟩ (.int .i64 x)).ownsRow B 3 1 (.slice (some ⟨g, 0, none⟩) n cap) n ((xs.set i x).map (Value.int .i64)) := by
  rcases h.2 with ⟨h1, _⟩ | ⟨g2, cap2, cur, h1, h2, h3, h4, h5, h6, h7⟩
  · injection h1 with h1; cases h1
  · injection h1 with h1 _ h8
    injection h1 with h1
    injection h1 with h1
    subst h1 h8
    refine ⟨by have := h.1; simpa using this, .inr ⟨g, cap, cur.setIfInBounds i (.int .i64 x), rfl, h2, CB.set h3 i _, h4, h5, by simpa using h6, ?_⟩⟩
    rw [Array.toList_setIfInBounds, List.map_set, ← h7, List.take_set]
theorem row_cellI {w : World} {B n g cap : Nat} {xs : List Int} (h : w.ownsRow B 3 1 (.slice (some ⟨g, 0, none⟩) n cap) n (xs.map (Value.int .i64))) (i : Nat) (hi : i < n) : w.cell? ⟨g, i, none⟩ = some (.int .i64 (nth xs i)) ∧ w.frozen? ⟨g, i, none⟩ = false := by
  have hl : xs.length = n := by have := h.1; simpa using this
  rcases h.2 with ⟨h1, _⟩ | ⟨g2, cap2, cur, h1, h2, h3, h4, h5, h6, h7⟩
  · injection h1 with h1; cases h1
  · injection h1 with h1 _ h8
    injection h1 with h1
    injection h1 with h1
    subst h1 h8
    refine ⟨?_, frozen_of_row w g i cur _ h3⟩
    rw [cell_of_row w g i cur _ (0, 0) h3]
    have h9 : (xs.map (Value.int .i64))[i]? = some (.int .i64 (nth xs i)) := by
      unfold nth
      rw [List.getElem?_map, List.getElem?_eq_getElem (by omega), List.getD_eq_getElem?_getD, List.getElem?_eq_getElem (by omega)]
      rfl
    rw [← h7, List.getElem?_take] at h9
    split at h9
    · simpa using h9
    · cases h9
theorem row_someI {w : World} {B n : Nat} {v : Value} {xs : List Value} (h : w.ownsRow B 3 1 v n xs) (hn : 0 < n) : ∃ g cap, v = .slice (some ⟨g, 0, none⟩) n cap ∧ B ≤ g ∧ g < w.heap.size ∧ n ≤ cap ∧ ∀ j u, xs[j]? = some u → w.cell? ((⟨g, 0, none⟩ : Addr).add j) = some u := by
  have hc := fun g hg => h.cells (g := g) hg
  rcases h.2 with ⟨_, h1⟩ | ⟨g, cap, cur, h1, h2, h3, h4, _⟩
  · omega
  · subst h1
    exact ⟨g, cap, rfl, h2, (Array.getElem?_eq_some_iff.1 h3).1, h4, hc g rfl⟩
theorem own_ne_row {w : World} {g cap B n : Nat} {l : List CoD} {u : Value} {xs : List Value} (h : OwnC w g cap l) (hr : w.ownsRow B 3 1 u n xs) : u.ownBlock ≠ some g := fun e => by
  obtain ⟨cur, hcb, _⟩ := h
  rcases hr.2 with ⟨rfl, _⟩ | ⟨g2, cap2, cur2, rfl, _, h3, _⟩
  · simp [Value.ownBlock] at e
  · have e2 : g2 = g := by simpa [Value.ownBlock] using e
    subst e2
    have h4 := hcb.symm.trans h3
    simp at h4
/-- A set that is nil, or a row of the call's own. -/
def SetAt (w : World) (v : Value) (l : List CoD) : Prop := (v = .slice none 0 0 ∧ l = []) ∨ ∃ g cap, v = .slice (some ⟨g, 0, none⟩) l.length cap ∧ OwnC w g cap l
theorem SetAt.rd {w : World} {v : Value} {l : List CoD} (h : SetAt w v l) : RdSt w v l := by
  rcases h with ⟨rfl, rfl⟩ | ⟨g, cap, rfl, ho⟩
  · exact RdSt.nil _
  · exact ho.rd
theorem SetAt.grown {w w' : World} {v u : Value} {l : List CoD} {B n : Nat} {xs : List Value} (h : SetAt w v l) (hr : w.ownsRow B 3 1 u n xs) (hg : w.grownBy w' u.ownBlock) : SetAt w' v l := by
  rcases h with h | ⟨g, cap, hv, ho⟩
  · exact .inl h
  · exact .inr ⟨g, cap, hv, ho.grown hg (fun e => own_ne_row ho hr e.symm)⟩
theorem SetAt.below {w w' : World} {v : Value} {l : List CoD} (h : SetAt w v l) (hb : Below w.heap.size w w') : SetAt w' v l := by
  rcases h with h | ⟨g, cap, hv, ho⟩
  · exact .inl h
  · exact .inr ⟨g, cap, hv, ho.grown (below_grown hb none) (by simp)⟩
def SetPost (R : List CoD) (w : World) (e : Ending) (w' : World) : Prop := ∃ v, e = .returned v ∧ SetAt w' v R ∧ Below w.heap.size w w'
theorem MadeC.set {R : List CoD} {w w' : World} {e : Ending} (h : MadeC R w e w') : SetPost R w e w' := by
  obtain ⟨g, cap, he, ho, _, hb⟩ := h
  exact ⟨_, he, .inr ⟨g, cap, rfl, ho⟩, hb⟩
theorem reset_set {w : World} {v vs : Value} {s R : List CoD} {sib : List Int} (h : RdSt w v s) (hs : s.length ≤ 100000000) (hv : Rd .i64 w vs sib) (hvl : sib.length ≤ 100000000) (of n : Int) (nm : ByteArray) (hR : resetD s of sib nm n false false = R) :
    Calls Try.prog 7 #[v, .int .i64 of, vs, .agg #[.string nm, .int .i64 n, .bool false, .bool false]] w (SetPost R w) := by
  subst hR
  exact (reset_any h hs hv hvl of n nm false false).mono fun _ _ h => h.set
theorem round15_any (k n m : Int) (w : World) (hn : 0 < n) (hn2 : n ≤ 1000) (hm : k % n = m) :
    Calls Try.prog 11 #[.int .i64 k, .int .i64 n] w fun e w' => e = .returned (.int .i64 m) ∧ w = w' := by
  have hne : ¬ n = 0 := by omega
  have hne2 : (n == 0) = false := by simp [hne]
  have ht : -1000 < k.tmod n ∧ k.tmod n < 1000 := by
    have h1 := Int.tmod_lt_of_pos k hn
    have h2 := Int.tmod_lt_of_pos (-k) hn
    rw [Int.neg_tmod] at h2
    omega
  have hr : (k.tmod n + n).tmod n = m := by
    have h1 := Int.tmod_lt_of_pos k hn
    have h2 := Int.tmod_lt_of_pos (-k) hn
    rw [Int.neg_tmod] at h2
    rw [Int.tmod_eq_emod_of_nonneg (by omega), ← hm, Int.add_emod_right]
    rcases Int.le_total 0 k with h | h
    · rw [Int.tmod_eq_emod_of_nonneg h, Int.emod_emod_of_dvd k (Int.dvd_refl n)]
    · have h3 := Int.tmod_add_mul_tdiv k n
      conv => rhs; rw [← h3]
      rw [Int.add_mul_emod_self_left]
  obtain ⟨ht1, ht2⟩ := ht
  have HR := Lib.hid hr
  have HM := Lib.hid hm
  clear hr hm
  go_enter Try.func11, Try.ntmps11
  go_wp2
  go_ret
  exact ⟨ret_int HR.out, rfl⟩
set_option maxRecDepth 100000 in
set_option maxHeartbeats 3000000 in
theorem inner_yes (w : World) (m : Nat) (hm : m < 15) (ad sib : Int) (ha : -1000 ≤ ad ∧ ad ≤ 1000) :
    Calls Try.prog 4 #[.int .i64 ((m + 1 : Nat) : Int), .int .i64 ad, .int .i64 sib] w fun e w' => e = .returned (.bool true) ∧ Below w.heap.size w w' := by
  obtain ⟨i0, hi0, hz0, hz1, hz2⟩ := info_parts info_int15
  obtain ⟨ha1, ha2⟩ := ha
  obtain ⟨N, hN⟩ : ∃ N, m + 1 = N := ⟨_, rfl⟩
  have HN := Lib.hid hN
  have hN1 : 1 ≤ N := by omega
  have hN2 : N ≤ 15 := by omega
  rw [hN]
  clear hN
  have n1 : ¬ (N : Int) < 1 := by omega
  have n2 : ¬ (15 : Int) < (N : Int) := by omega
  have n2' : ¬ 15 < N := by omega
  have n3 : ¬ ad < -1000 := by omega
  have n4 : ¬ 1000 < ad := by omega
  go_enter Try.func4, Try.ntmps4
  go_upto_region 5 with fail
  clear n1 n2 n2' n3 n4
  go_wp2
  go_loopw [7, 8, 9] (fun sv wv iv wr => ∃ (k : Nat) (q : Value), q = wv ∧ k ≤ N ∧ iv = .int .i64 k ∧ SetAt wr sv (stk k) ∧ wr.ownsRow w.heap.size 3 1 wv k ((wantL k).map (Value.int .i64)) ∧ Below w.heap.size w wr) (fun _ _ iv _ => N - (intOf iv).toNat)
  case atStart => exact ⟨0, _, rfl, Nat.zero_le _, rfl, .inl ⟨rfl, rfl⟩, World.ownsRow_nil _ _ _ _, Below.refl _ _⟩
  case round =>
    obtain ⟨k, q, rfl, hk, rfl, hrd, hrow, hbw⟩ := hrel
    have HR := Lib.hid hrd
    have HW := Lib.hid hrow
    have HB := Lib.hid hbw
    clear hrd hrow hbw
    by_cases hlt : k < N
    · have hltI : (k : Int) < (N : Int) := by omega
      have HP := Lib.hid (in_reset ⟨k, by omega⟩)
      go_upto_region 9 with (go_at_call 7; go_must (refine (reset_set HR.out.rd (by rw [stk_len]; omega) (rd_nil0 _) (by decide) _ _ _ HP.out).mono ?_); intro e w2 hq; obtain ⟨v2, he, h2, hb2⟩ := hq; subst he)
      have HB2 := Lib.hid (HB.out.trans (hb2.mono HB.out.size))
      have HR2 := Lib.hid (show SetAt w2 v2 (stk (k + 1)) from h2)
      have HW2 := Lib.hid (HW.out.kept (below_grown hb2 none) (by cases hv : q.ownBlock with | none => exact .inl rfl | some g => exact .inr (by simp)))
      clear h2 hb2
      have HZ := Lib.hid (cells_row (CB.new (T := 3) w2 #[.int .i64 (10 * (k : Int))]))
      go_wp2_with (at_builtin; go_must (refine wpList_append_own _ rfl _ _ 22 rfl w.heap.size 3 i0 (.int .i64 0) 1 8 Try.underlying22 hi0 hz0 hz1 hz2 rfl (by decide) _ _ _ rfl (HW2.out.alloc _) ⟨_, 0, none⟩ 1 1 [.int .i64 (10 * (k : Int))] rfl rfl HZ.out (by simp [Value.oneCell']) (by unfold maxLen; omega) (by omega) (by have := HB2.out.size; simp; omega) ?_); intro v' w4 ho4 hg4 _)
      have hlt4 := HW2.out.lt
      have hbA := bel_new w2 (.cells #[.int .i64 (10 * (k : Int))] 3)
      have HS4 := Lib.hid ((HR2.out.below hbA).grown (HW2.out.alloc _) hg4)
      have hb4 := (HB2.out.alloc HB2.out.size (.cells #[.int .i64 (10 * (k : Int))] 3)).grown hg4 (by have := HB2.out.size; simp; omega) (fun j hj => (hlt4 j hj).1)
      have HW4 := Lib.hid (show w4.ownsRow w.heap.size 3 1 v' (k + 1) ((wantL (k + 1)).map (Value.int .i64)) by
        rw [wantL_succ, List.map_append]
        exact ho4)
      clear ho4 hlt4 hbA
      go_roundw
      case rel => exact ⟨k + 1, _, rfl, by omega, by go_num, HS4.out, HW4.out, hb4⟩
      case measure => simp [intOf]; omega
    · have hltI : ¬ (k : Int) < (N : Int) := by omega
      obtain rfl : N = k := by omega
      have HNM := Lib.hid HN.out.symm
      have hNa : m + 1 ≤ N := Nat.le_of_eq HN.out
      have hNb : N ≤ m + 1 := Nat.le_of_eq HNM.out
      have hNm : (N : Int) - 1 = (m : Int) := by omega
      obtain ⟨g, cap, hq, hgB, hgl, hgc, hgcell⟩ := row_someI HW.out (by omega)
      subst hq
      have hnum := in_num ⟨m, hm⟩
      have hnum : numD (stk N) 99 nmI = 10 * (m : Int) := by rw [HNM.out]; exact hnum
      have HNUM := Lib.hid hnum
      have HADD := Lib.hid (show addD (stk N) 99 nmI ad = putD (stk N) 99 nmI (10 * (m : Int) + ad) by
        unfold addD
        rw [hnum]
        congr 1
        unfold sumD
        rw [if_pos (by omega)])
      clear hnum
      have HSL := Lib.hid (show (stk N).length ≤ 100000000 by rw [stk_len]; omega)
      go_upto_region 11 with (go_at_call 8; go_must (refine (add_beg HR.out.rd HSL.out _ _ _ (by rw [HNUM.out]; omega) (by omega) HADD.out).mono ?_); intro e w10 hq; obtain ⟨v10, he, h10, hb10⟩ := hq; subst he)
      have HB10 := Lib.hid hb10
      have H10 := Lib.hid h10
      clear hb10 h10
      go_upto_region 12 with (go_at_call 10; go_must (refine (put_beg (HR.out.rd.below HB10.out) HSL.out _ _ _ rfl).mono ?_); intro e w11 hq; obtain ⟨v11, he, h11, hb11⟩ := hq; subst he)
      have HB11 := Lib.hid hb11
      have H11 := Lib.hid h11
      clear hb11 h11
      obtain ⟨kk, hkk, hkN⟩ : ∃ kk : Nat, sib % ((N : Int) + 1) = kk ∧ kk ≤ N := by
        have h1 := Int.emod_nonneg sib (show (N : Int) + 1 ≠ 0 by omega)
        have h2 := Int.emod_lt_of_pos sib (show (0 : Int) < (N : Int) + 1 by omega)
        exact ⟨(sib % ((N : Int) + 1)).toNat, by omega, by omega⟩
      have HRD := Lib.hid (fun W => round15_any sib ((N : Int) + 1) (kk : Int) W (by omega) (by omega) hkk)
      clear hkk
      go_upto_region 13 with (go_at_call 11; (with_reducible refine (HRD.out _).mono ?_); rintro e w' ⟨rfl, rfl⟩)
      have HA := Lib.hid (bel_new w11 (.cells #[.int .i64 (kk : Int)] 3))
      go_upto_region 14 with (go_at_call 7; go_must (refine (reset_beg ((HR.out.rd.below (HB10.out.trans (HB11.out.mono HB10.out.size))).below HA.out) HSL.out (rd_one w11 (kk : Int)) (by simp) _ _ _ rfl).mono ?_); intro e W13 hq; obtain ⟨v13, he, h13, hb13⟩ := hq; subst he)
      have hbr : Below wr.heap.size wr W13 := (HB10.out.trans (HB11.out.mono HB10.out.size)).trans ((HA.out.trans (hb13.mono HA.out.size)).mono (by have := HB10.out.size; have := HB11.out.size; omega))
      have HB13 := Lib.hid (HB.out.trans (hbr.mono HB.out.size))
      have H7 := Lib.hid (HR.out.rd.below hbr)
      have H10 := Lib.hid ((H10.out.below HB11.out).below (HA.out.trans (hb13.mono HA.out.size)))
      have H11 := Lib.hid (H11.out.below (HA.out.trans (hb13.mono HA.out.size)))
      have H13 := Lib.hid h13
      have HW13 := Lib.hid (HW.out.kept (below_grown hbr none) (.inr (by simp [Value.ownBlock])))
      have HCE := Lib.hid (show ∀ j u, ((wantL N).map (Value.int .i64))[j]? = some u → W13.cell? ⟨g, j, none⟩ = some u from fun j u hu => by
        have h1 := hgcell j u hu
        rw [addK0] at h1
        exact below_keep hbr h1)
      have HLW := Lib.hid (show ((wantL N).map (Value.int .i64)).length = N * 1 by rw [List.length_map, wantL_len]; omega)
      have hg13 : g < W13.heap.size := Nat.lt_of_lt_of_le hgl hbr.size
      clear h13 hb13 hbr hgcell
      go_upto_region 15 with (first | (have tk := hbx; at_builtin; go_must (refine wpList_append_own _ rfl (.tmp 68) (.tmp 69) 22 rfl wx.heap.size 3 i0 (.int .i64 0) 1 8 Try.underlying22 hi0 hz0 hz1 hz2 rfl (by decide) _ _ _ rfl (own_emptyInt wx (Nat.le_refl _)) ⟨g, 0, none⟩ N cap ((wantL N).map (Value.int .i64)) rfl HLW.out (fun j u hu => by rw [addK0]; exact below_keep (hbx.alloc hbx.size _) (HCE.out j u hu)) (fun u hu => by obtain ⟨z, _, rfl⟩ := List.mem_map.1 hu; rfl) (by unfold maxLen; omega) (by omega) (by simp) ?_); intro y1 wy hoy hgy _) | (at_builtin; go_must (refine wpList_append_own _ rfl (.tmp 65) (.tmp 66) 22 rfl W13.heap.size 3 i0 (.int .i64 0) 1 8 Try.underlying22 hi0 hz0 hz1 hz2 rfl (by decide) _ _ _ rfl (own_emptyInt W13 (Nat.le_refl _)) ⟨g, 0, none⟩ N cap ((wantL N).map (Value.int .i64)) rfl HLW.out (fun j u hu => by rw [addK0]; exact below_keep (bel_new W13 _) (HCE.out j u hu)) (fun u hu => by obtain ⟨z, _, rfl⟩ := List.mem_map.1 hu; rfl) (by unfold maxLen; omega) (by omega) (by simp) ?_); intro x1 wx hox hgx _; have hbx : Below W13.heap.size W13 wx := (bel_new W13 _).grown hgx (by simp) (fun j hj => by injection hj with hj; simp at hj; omega)))
      have hby : Below wx.heap.size wx wy := (bel_new wx _).grown hgy (by simp) (fun j hj => by injection hj with hj; simp at hj; omega)
      have hox : wx.ownsRow W13.heap.size 3 1 x1 N ((wantL N).map (Value.int .i64)) := by simpa using hox
      have hoy : wy.ownsRow wx.heap.size 3 1 y1 N ((wantL N).map (Value.int .i64)) := by simpa using hoy
      have hoxy := hox.kept (below_grown hby none) (by cases hv : x1.ownBlock with | none => exact .inl rfl | some g => exact .inr (by simp))
      obtain ⟨gx, capx, hx1, hgx1, hgx2, hgx3, _⟩ := row_someI hox (by omega)
      obtain ⟨gy, capy, hy1, hgy1, hgy2, hgy3, _⟩ := row_someI hoy (by omega)
      subst hx1 hy1
      have hgxy : gx ≠ gy := by omega
      have hcx := row_cellI hoxy m (by omega)
      have hnt : nth (wantL N) m = 10 * (m : Int) := by
        rw [HNM.out, wantL_succ]
        unfold nth
        rw [List.getD_eq_getElem?_getD, List.getElem?_append_right (by rw [wantL_len]; exact Nat.le_refl _), wantL_len, Nat.sub_self]
        rfl
      rw [hnt] at hcx
      obtain ⟨cx1, cx2⟩ := hcx
      have HBY := Lib.hid (hbx.trans (hby.mono hbx.size))
      have hcy := (row_cellI hoy m (by omega))
      have HSX := Lib.hid (row_setI hoxy m (10 * (m : Int) + ad))
      have HSY := Lib.hid (hoy.kept (grown_set (p := ⟨gx, m, none⟩) (u := .int .i64 (10 * (m : Int) + ad))) (.inr (by simp [Value.ownBlock]; omega)))
      have HBX := Lib.hid (HBY.out.setCell (p := ⟨gx, m, none⟩) hgx1 (.int .i64 (10 * (m : Int) + ad)))
      have e1 : wrap64 (10 * (m : Int) + ad) = 10 * (m : Int) + ad := by unfold wrap64; omega
      have hm1 : (m : Int) < (N : Int) := by omega
      clear hox hoy hoxy hgx hgy hbx hby hcy hnt
      go_upto_region 16 with fail
      generalize wy.setCell ⟨gx, m, none⟩ (.int .i64 (10 * (m : Int) + ad)) = W15 at *
      obtain ⟨cy1, cy2⟩ := row_cellI HSY.out m (by omega)
      have HTX := Lib.hid (HSX.out.kept (grown_set (p := ⟨gy, m, none⟩) (u := .int .i64 ad)) (.inr (by simp [Value.ownBlock]; omega)))
      have HTY := Lib.hid (row_setI HSY.out m ad)
      have HBS := Lib.hid (HBX.out.setCell (p := ⟨gy, m, none⟩) (show W13.heap.size ≤ gy by have := HBY.out.size; omega) (.int .i64 ad))
      clear cx1 cx2 HSX HSY HBX e1
      go_upto_region 17 with fail
      generalize W15.setCell ⟨gy, m, none⟩ (.int .i64 ad) = WS at *
      clear cy1 cy2
      go_upto_region 18 with (first | (have tk := hbz; at_builtin; go_must (refine wpList_append_own _ rfl (.tmp 89) (.tmp 90) 22 rfl WS.heap.size 3 i0 (.int .i64 0) 1 8 Try.underlying22 hi0 hz0 hz1 hz2 rfl (by decide) _ _ _ rfl (hoz.alloc _) ⟨_, 0, none⟩ 1 1 [.int .i64 5] rfl rfl HZ5.out (by simp [Value.oneCell']) (by unfold maxLen; omega) (by omega) (by have := hbz.size; simp; omega) ?_); intro z2 wt hot hgt _) | (at_builtin; go_must (refine wpList_append_own _ rfl (.tmp 87) (.tmp 88) 22 rfl WS.heap.size 3 i0 (.int .i64 0) 1 8 Try.underlying22 hi0 hz0 hz1 hz2 rfl (by decide) _ _ _ rfl (own_emptyInt WS (Nat.le_refl _)) ⟨g, 0, none⟩ N cap ((wantL N).map (Value.int .i64)) rfl HLW.out (fun j u hu => by rw [addK0]; exact below_keep (HBS.out.alloc HBS.out.size _) (HCE.out j u hu)) (fun u hu => by obtain ⟨z, _, rfl⟩ := List.mem_map.1 hu; rfl) (by unfold maxLen; omega) (by omega) (by simp) ?_); intro z1 wz hoz hgz _; have hbz : Below WS.heap.size WS wz := (bel_new WS _).grown hgz (by simp) (fun j hj => by injection hj with hj; simp at hj; omega); have HZ5 := Lib.hid (cells_row (CB.new (T := 3) wz #[.int .i64 5]))))
      have hot : wt.ownsRow WS.heap.size 3 1 z2 (N + 1) ((wantL N ++ [5]).map (Value.int .i64)) := by
        rw [List.map_append]
        simpa using hot
      have hlz := (hoz.alloc (.cells #[.int .i64 5] 3)).lt
      have hbt : Below WS.heap.size WS wt := (hbz.alloc hbz.size _).grown hgt (by have := hbz.size; simp; omega) (fun j hj => (hlz j hj).1)
      have HBT := Lib.hid (HBS.out.trans (hbt.mono HBS.out.size))
      have HOT := Lib.hid hot
      have HUX := Lib.hid (HTX.out.kept (below_grown hbt none) (.inr (by simp [Value.ownBlock])))
      have HUY := Lib.hid (HTY.out.kept (below_grown hbt none) (.inr (by simp [Value.ownBlock])))
      clear hoz hgz hbz hgt hlz hbt hot
      have HV3 := Lib.hid (show valuesD (resetD (stk N) 99 [(kk : Int)] nmI 5 false false) nmI = if kk = m then wantL m ++ [5] else wantL N ++ [5] by
        have h1 := in_reset2 ⟨m, hm⟩ ⟨kk, by omega⟩
        rw [HNM.out]
        exact h1)
      have in_v0 := Lib.hid (show valuesD (stk N) nmI = wantL N from in_vals ⟨N, by omega⟩)
      have in_v1 := Lib.hid (show valuesD (putD (stk N) 99 nmI (10 * (m : Int) + ad)) nmI = (wantL N).set m (10 * (m : Int) + ad) by rw [HNM.out]; exact in_put m hm _)
      have in_v2 := Lib.hid (show valuesD (putD (stk N) 99 nmI ad) nmI = (wantL N).set m ad by rw [HNM.out]; exact in_put m hm _)
      have in_v0L := HSL
      have in_v1L := Lib.hid (show (putD (stk N) 99 nmI (10 * (m : Int) + ad)).length ≤ 100000000 by rw [HNM.out]; have := in_plen m hm (10 * (m : Int) + ad); omega)
      have in_v2L := Lib.hid (show (putD (stk N) 99 nmI ad).length ≤ 100000000 by rw [HNM.out]; have := in_plen m hm ad; omega)
      have in_v3L := Lib.hid (show (resetD (stk N) 99 [(kk : Int)] nmI 5 false false).length ≤ 100000000 by rw [HNM.out]; have h1 := in_rlen ⟨m, hm⟩ ⟨kk, by omega⟩; exact Nat.le_trans h1 (by omega))
      have LB0 := Lib.hid (show (wantL N).length ≤ 100000000 by rw [wantL_len]; omega)
      have LB1 := Lib.hid (show ((wantL N).set m (10 * (m : Int) + ad)).length ≤ 100000000 by rw [List.length_set, wantL_len]; omega)
      have LB2 := Lib.hid (show ((wantL N).set m ad).length ≤ 100000000 by rw [List.length_set, wantL_len]; omega)
      generalize hWT : wt = WT at *
      by_cases hkm : kk = m
      · have b1 : ((kk : Int) == (m : Int)) = true := by simp [hkm]
        have HKM := Lib.hid hkm
        have HLM := Lib.hid (show ((wantL m).map (Value.int .i64)).length = m * 1 by rw [List.length_map, wantL_len]; omega)
        have HCM := Lib.hid (show ∀ j u, ((wantL m).map (Value.int .i64))[j]? = some u → W13.cell? ⟨g, j, none⟩ = some u from fun j u hu => by
          refine HCE.out j u ?_
          rw [HNM.out, wantL_succ, List.map_append]
          rw [List.getElem?_append_left (List.getElem?_eq_some_iff.1 hu).1]
          exact hu)
        clear hkm
        have hmc : m ≤ cap := by omega
        go_upto_region 20 with (first | (have tk := hbp; at_builtin; go_must (refine wpList_append_own _ rfl (.tmp 101) (.tmp 102) 22 rfl WT.heap.size 3 i0 (.int .i64 0) 1 8 Try.underlying22 hi0 hz0 hz1 hz2 rfl (by decide) _ _ _ rfl (hop.alloc _) ⟨_, 0, none⟩ 1 1 [.int .i64 5] rfl rfl HP5.out (by simp [Value.oneCell']) (by unfold maxLen; omega) (by omega) (by have := hbp.size; simp; omega) ?_); intro p2 wq hoq hgq _) | (at_builtin; go_must (refine wpList_append_own _ rfl (.tmp 96) (.tmp 100) 22 rfl WT.heap.size 3 i0 (.int .i64 0) 1 8 Try.underlying22 hi0 hz0 hz1 hz2 rfl (by decide) _ _ _ rfl (own_emptyInt WT (Nat.le_refl _)) ⟨g, 0, none⟩ m cap ((wantL m).map (Value.int .i64)) rfl HLM.out (fun j u hu => by rw [addK0]; exact below_keep (HBT.out.alloc HBT.out.size _) (HCM.out j u hu)) (fun u hu => by obtain ⟨z, _, rfl⟩ := List.mem_map.1 hu; rfl) (by unfold maxLen; omega) (by omega) (by simp) ?_); intro p1 wp hop hgp _; have hbp : Below WT.heap.size WT wp := (bel_new WT _).grown hgp (by simp) (fun j hj => by injection hj with hj; simp at hj; omega); have HP5 := Lib.hid (cells_row (CB.new (T := 3) wp #[.int .i64 5]))))
        have hoq : wq.ownsRow WT.heap.size 3 1 p2 (m + 1) ((wantL m ++ [5]).map (Value.int .i64)) := by
          rw [List.map_append]
          simpa using hoq
        have hlp := (hop.alloc (.cells #[.int .i64 5] 3)).lt
        have hbq : Below WT.heap.size WT wq := (hbp.alloc hbp.size _).grown hgq (by have := hbp.size; simp; omega) (fun j hj => (hlp j hj).1)
        have HBQ := Lib.hid (HBT.out.trans (hbq.mono HBT.out.size))
        have HRw := Lib.hid (rd_own (xs := wantL N) (by rw [wantL_len]; exact HW13.out.kept (below_grown HBQ.out none) (.inr (by simp [Value.ownBlock]))))
        have HRx := Lib.hid (rd_own (xs := (wantL N).set m (10 * (m : Int) + ad)) (by rw [List.length_set, wantL_len]; exact HUX.out.kept (below_grown hbq none) (.inr (by simp [Value.ownBlock]))))
        have HRy := Lib.hid (rd_own (xs := (wantL N).set m ad) (by rw [List.length_set, wantL_len]; exact HUY.out.kept (below_grown hbq none) (.inr (by simp [Value.ownBlock]))))
        have HRz := Lib.hid (rd_own (xs := wantL m ++ [5]) (by rw [List.length_append, wantL_len]; exact hoq))
        clear hop hgp hbp hgq hlp hbq hoq
        obtain ⟨R1, hR1⟩ : ∃ R, (wantL N).set m (10 * (m : Int) + ad) = R := ⟨_, rfl⟩
        obtain ⟨R2, hR2⟩ : ∃ R, (wantL N).set m ad = R := ⟨_, rfl⟩
        obtain ⟨R3, hR3⟩ : ∃ R, wantL m ++ [5] = R := ⟨_, rfl⟩
        have in_v3 := Lib.hid (show valuesD (resetD (stk N) 99 [(kk : Int)] nmI 5 false false) nmI = R3 by rw [HV3.out, ← hR3]; rw [if_pos HKM.out])
        have LB3 := Lib.hid (show R3.length ≤ 100000000 by rw [← hR3, List.length_append, wantL_len]; simp; omega)
        have in_v1 := Lib.hid (in_v1.out.trans hR1)
        have in_v2 := Lib.hid (in_v2.out.trans hR2)
        have LB1 := Lib.hid (hR1 ▸ LB1.out)
        have LB2 := Lib.hid (hR2 ▸ LB2.out)
        have HRx := Lib.hid (hR1 ▸ HRx.out)
        have HRy := Lib.hid (hR2 ▸ HRy.out)
        have HRz := Lib.hid (hR3 ▸ HRz.out)
        clear hR1 hR2 hR3
        obtain ⟨za, zc, rfl, _⟩ := HRz.out
        have HS7 := Lib.hid (H7.out.below HBQ.out)
        have HS10 := Lib.hid (H10.out.below HBQ.out)
        have HS11 := Lib.hid (H11.out.below HBQ.out)
        have HS13 := Lib.hid (H13.out.below HBQ.out)
        go_wp2_with (first | (have tk := hbI2; go_at_call 13; go_must (refine (values_eq (HS13.out.below hbI2) in_v3L.out _ _ in_v3.out).mono ?_); intro e wV3 hq; obtain ⟨vV3, he, hV3, hbV3⟩ := hq; obtain ⟨aV3, cV3, rfl, _⟩ := id hV3; subst he; have hbW3 := hbI2.trans (hbV3.mono hbI2.size)) | (have tk := hbW3; go_at_call 12; go_must (refine (intsK_any hV3 (HRz.out.below hbW3) LB3.out LB3.out).mono ?_); intro e wI3 hq; obtain ⟨he, hbi3⟩ := hq; rw [decide_eq_true rfl] at he; subst he; have hbI3 := hbW3.trans (hbi3.mono hbW3.size)) | (have tk := hbI1; go_at_call 13; go_must (refine (values_eq (HS11.out.below hbI1) in_v2L.out _ _ in_v2.out).mono ?_); intro e wV2 hq; obtain ⟨vV2, he, hV2, hbV2⟩ := hq; obtain ⟨aV2, cV2, rfl, _⟩ := id hV2; subst he; have hbW2 := hbI1.trans (hbV2.mono hbI1.size)) | (have tk := hbW2; go_at_call 12; go_must (refine (intsK_any hV2 (HRy.out.below hbW2) LB2.out LB2.out).mono ?_); intro e wI2 hq; obtain ⟨he, hbi2⟩ := hq; rw [decide_eq_true rfl] at he; subst he; have hbI2 := hbW2.trans (hbi2.mono hbW2.size)) | (have tk := hbI0; go_at_call 13; go_must (refine (values_eq (HS10.out.below hbI0) in_v1L.out _ _ in_v1.out).mono ?_); intro e wV1 hq; obtain ⟨vV1, he, hV1, hbV1⟩ := hq; obtain ⟨aV1, cV1, rfl, _⟩ := id hV1; subst he; have hbW1 := hbI0.trans (hbV1.mono hbI0.size)) | (have tk := hbW1; go_at_call 12; go_must (refine (intsK_any hV1 (HRx.out.below hbW1) LB1.out LB1.out).mono ?_); intro e wI1 hq; obtain ⟨he, hbi1⟩ := hq; rw [decide_eq_true rfl] at he; subst he; have hbI1 := hbW1.trans (hbi1.mono hbW1.size)) | (go_at_call 13; go_must (refine (values_eq (HS7.out.below (Below.refl wq.heap.size wq)) in_v0L.out _ _ in_v0.out).mono ?_); intro e wV0 hq; obtain ⟨vV0, he, hV0, hbV0⟩ := hq; obtain ⟨aV0, cV0, rfl, _⟩ := id hV0; subst he; have hbW0 := (Below.refl wq.heap.size wq).trans (hbV0.mono (Below.refl wq.heap.size wq).size)) | (have tk := hbW0; go_at_call 12; go_must (refine (intsK_any hV0 (HRw.out.below hbW0) LB0.out LB0.out).mono ?_); intro e wI0 hq; obtain ⟨he, hbi0⟩ := hq; rw [decide_eq_true rfl] at he; subst he; have hbI0 := hbW0.trans (hbi0.mono hbW0.size)) | (go_at_call 6; go_must (refine (awake15_any _).mono ?_); intro e wA hq; obtain ⟨he, hbA⟩ := hq; subst he))
        go_ret
        exact ⟨by rfl, HB13.out.trans ((HBQ.out.trans ((hbI3.trans (hbA.mono hbI3.size)).mono HBQ.out.size)).mono HB13.out.size)⟩

      · have b1 : ((kk : Int) == (m : Int)) = false := by simp; omega
        have HKM := Lib.hid hkm
        clear hkm
        go_upto_region 20 with fail
        have HRw := Lib.hid (rd_own (xs := wantL N) (by rw [wantL_len]; exact HW13.out.kept (below_grown HBT.out none) (.inr (by simp [Value.ownBlock]))))
        have HRx := Lib.hid (rd_own (xs := (wantL N).set m (10 * (m : Int) + ad)) (by rw [List.length_set, wantL_len]; exact HUX.out))
        have HRy := Lib.hid (rd_own (xs := (wantL N).set m ad) (by rw [List.length_set, wantL_len]; exact HUY.out))
        have HRz := Lib.hid (rd_own (xs := wantL N ++ [5]) (by rw [List.length_append, wantL_len]; exact HOT.out))
        obtain ⟨R1, hR1⟩ : ∃ R, (wantL N).set m (10 * (m : Int) + ad) = R := ⟨_, rfl⟩
        obtain ⟨R2, hR2⟩ : ∃ R, (wantL N).set m ad = R := ⟨_, rfl⟩
        obtain ⟨R3, hR3⟩ : ∃ R, wantL N ++ [5] = R := ⟨_, rfl⟩
        have in_v3 := Lib.hid (show valuesD (resetD (stk N) 99 [(kk : Int)] nmI 5 false false) nmI = R3 by rw [HV3.out, ← hR3]; rw [if_neg HKM.out])
        have LB3 := Lib.hid (show R3.length ≤ 100000000 by rw [← hR3, List.length_append, wantL_len]; simp; omega)
        have in_v1 := Lib.hid (in_v1.out.trans hR1)
        have in_v2 := Lib.hid (in_v2.out.trans hR2)
        have LB1 := Lib.hid (hR1 ▸ LB1.out)
        have LB2 := Lib.hid (hR2 ▸ LB2.out)
        have HRx := Lib.hid (hR1 ▸ HRx.out)
        have HRy := Lib.hid (hR2 ▸ HRy.out)
        have HRz := Lib.hid (hR3 ▸ HRz.out)
        clear hR1 hR2 hR3
        obtain ⟨za, zc, rfl, _⟩ := HRz.out
        have HS7 := Lib.hid (H7.out.below HBT.out)
        have HS10 := Lib.hid (H10.out.below HBT.out)
        have HS11 := Lib.hid (H11.out.below HBT.out)
        have HS13 := Lib.hid (H13.out.below HBT.out)
        go_wp2_with (first | (have tk := hbI2; go_at_call 13; go_must (refine (values_eq (HS13.out.below hbI2) in_v3L.out _ _ in_v3.out).mono ?_); intro e wV3 hq; obtain ⟨vV3, he, hV3, hbV3⟩ := hq; obtain ⟨aV3, cV3, rfl, _⟩ := id hV3; subst he; have hbW3 := hbI2.trans (hbV3.mono hbI2.size)) | (have tk := hbW3; go_at_call 12; go_must (refine (intsK_any hV3 (HRz.out.below hbW3) LB3.out LB3.out).mono ?_); intro e wI3 hq; obtain ⟨he, hbi3⟩ := hq; rw [decide_eq_true rfl] at he; subst he; have hbI3 := hbW3.trans (hbi3.mono hbW3.size)) | (have tk := hbI1; go_at_call 13; go_must (refine (values_eq (HS11.out.below hbI1) in_v2L.out _ _ in_v2.out).mono ?_); intro e wV2 hq; obtain ⟨vV2, he, hV2, hbV2⟩ := hq; obtain ⟨aV2, cV2, rfl, _⟩ := id hV2; subst he; have hbW2 := hbI1.trans (hbV2.mono hbI1.size)) | (have tk := hbW2; go_at_call 12; go_must (refine (intsK_any hV2 (HRy.out.below hbW2) LB2.out LB2.out).mono ?_); intro e wI2 hq; obtain ⟨he, hbi2⟩ := hq; rw [decide_eq_true rfl] at he; subst he; have hbI2 := hbW2.trans (hbi2.mono hbW2.size)) | (have tk := hbI0; go_at_call 13; go_must (refine (values_eq (HS10.out.below hbI0) in_v1L.out _ _ in_v1.out).mono ?_); intro e wV1 hq; obtain ⟨vV1, he, hV1, hbV1⟩ := hq; obtain ⟨aV1, cV1, rfl, _⟩ := id hV1; subst he; have hbW1 := hbI0.trans (hbV1.mono hbI0.size)) | (have tk := hbW1; go_at_call 12; go_must (refine (intsK_any hV1 (HRx.out.below hbW1) LB1.out LB1.out).mono ?_); intro e wI1 hq; obtain ⟨he, hbi1⟩ := hq; rw [decide_eq_true rfl] at he; subst he; have hbI1 := hbW1.trans (hbi1.mono hbW1.size)) | (go_at_call 13; go_must (refine (values_eq (HS7.out.below (Below.refl WT.heap.size WT)) in_v0L.out _ _ in_v0.out).mono ?_); intro e wV0 hq; obtain ⟨vV0, he, hV0, hbV0⟩ := hq; obtain ⟨aV0, cV0, rfl, _⟩ := id hV0; subst he; have hbW0 := (Below.refl WT.heap.size WT).trans (hbV0.mono (Below.refl WT.heap.size WT).size)) | (have tk := hbW0; go_at_call 12; go_must (refine (intsK_any hV0 (HRw.out.below hbW0) LB0.out LB0.out).mono ?_); intro e wI0 hq; obtain ⟨he, hbi0⟩ := hq; rw [decide_eq_true rfl] at he; subst he; have hbI0 := hbW0.trans (hbi0.mono hbW0.size)) | (go_at_call 6; go_must (refine (awake15_any _).mono ?_); intro e wA hq; obtain ⟨he, hbA⟩ := hq; subst he))
        go_ret
        exact ⟨by rfl, HB13.out.trans ((HBT.out.trans ((hbI3.trans (hbA.mono hbI3.size)).mono HBT.out.size)).mono HB13.out.size)⟩

set_option maxRecDepth 100000 in
set_option maxHeartbeats 1600000 in
theorem ScopeInner_any (w : World) (n : Int) (_wn : (Lit.int .i64 n).wf = true) (ad : Int) (_wa : (Lit.int .i64 ad).wf = true) (sib : Int) (_ws : (Lit.int .i64 sib).wf = true) :
    Calls Try.prog 4 #[.int .i64 n, .int .i64 ad, .int .i64 sib] w fun e w' => e = .returned (.bool true) ∧ Below w.heap.size w w' := by
  by_cases h1 : n < 1
  · go_enter Try.func4, Try.ntmps4
    go_wp2_with (go_at_call 6; (with_reducible refine (awake15_any _).mono ?_); rintro e w2 ⟨rfl, hb2⟩)
    go_ret
    exact ⟨rfl, hb2⟩
  · by_cases h2 : 15 < n
    · go_enter Try.func4, Try.ntmps4
      go_wp2_with (go_at_call 6; (with_reducible refine (awake15_any _).mono ?_); rintro e w2 ⟨rfl, hb2⟩)
      go_ret
      exact ⟨rfl, hb2⟩
    · by_cases h3 : ad < -1000
      · go_enter Try.func4, Try.ntmps4
        go_wp2_with (go_at_call 6; (with_reducible refine (awake15_any _).mono ?_); rintro e w2 ⟨rfl, hb2⟩)
        go_ret
        exact ⟨rfl, hb2⟩
      · by_cases h4 : 1000 < ad
        · go_enter Try.func4, Try.ntmps4
          go_wp2_with (go_at_call 6; (with_reducible refine (awake15_any _).mono ?_); rintro e w2 ⟨rfl, hb2⟩)
          go_ret
          exact ⟨rfl, hb2⟩
        · have e : n = ((((n - 1).toNat + 1 : Nat)) : Int) := by omega
          rw [e]
          exact inner_yes w (n - 1).toNat (by omega) ad sib (by omega)
end Go.Proofs.Ytmnjopbfdocinaa
