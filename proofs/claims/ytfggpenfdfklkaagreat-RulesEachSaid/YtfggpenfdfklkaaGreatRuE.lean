
import Derived.Test.YtfggpenfdfklkaaGreatRuA
import Derived.Test.YtfggpenfdfklkaaGreatNsJ
namespace Go.Proofs.YtfggpenfdfklkaaGreat
open Go.RowKit
/-! Package rules: the last node but White; a walk's rest. -/
theorem trN_snoc_white {n : Nd} (hn : isWh n = true) : ∀ X : List Nd, trN (X ++ [n]) = trN X
  | [] => by rw [List.nil_append, trN_white (fun x hx => by rw [List.mem_singleton.1 hx]; exact hn)]; rfl
  | m :: X => by rw [List.cons_append, trN, trN, trN_snoc_white hn X]
theorem trN_take_yes {l : List Nd} {j : Nat} (hj : j < l.length) (h : isWh l[j] = true) : trN (l.take (j + 1)) = trN (l.take j) := by
  rw [List.take_succ_eq_append_getElem hj, trN_snoc_white h]
theorem trN_take_no {l : List Nd} {j : Nat} (hj : j < l.length) (h : isWh l[j] = false) : trN (l.take (j + 1)) = j + 1 := by
  rw [List.take_succ_eq_append_getElem hj, trN_at _ _ [] h (fun _ h => by simp at h), List.length_take]
  omega
set_option maxRecDepth 100000 in
set_option maxHeartbeats 1600000 in
theorem last_any {w : World} {P : Nat → Prop} {v : Value} {l : List Nd} (hr : RdN w P v l) (hx : ∀ n ∈ l, n.tok.text.size ≤ 1000000000) (hl : l.length ≤ 100000000) :
    Calls Tryz.prog 35 #[v] w fun e w' => e = .returned (.int .i64 ((trN l : Int) - 1)) ∧ Below w.heap.size w w' := by
  have HK := Lib.hid white_k
  have HR := Lib.hid hr
  have hb0 := Below.refl w.heap.size w
  obtain ⟨a, c, rfl, _⟩ := hr.shape
  clear hr
  go_enter Tryz.func35, Tryz.ntmps35
  go_wp2
  go_loopw [3] (fun av wr => ∃ k : Nat, av = .int .i64 ((k : Int) - 1) ∧ k ≤ l.length ∧ trN (l.take k) = trN l ∧ Below w.heap.size w wr) (fun av _ => (intOf av + 1).toNat)
  case atStart => exact ⟨l.length, rfl, Nat.le_refl _, by rw [List.take_length], by assumption⟩
  case round =>
    obtain ⟨k, rfl, hk, hT, hb⟩ := hrel
    rcases k with _ | j
    · have HT : Hid (trN l = 0) := by
        show _ = _
        rw [← hT]
        rfl
      clear hT
      go_wp2
      go_ret
      rw [HT.out]
      exact ⟨by first | rfl | simp, hb⟩
    · rw [show ((j + 1 : Nat) : Int) - 1 = (j : Int) by omega]
      obtain ⟨g, off, c2, hv2, _, _, hbl, g1⟩ := HR.out.base (by omega)
      injection hv2 with e1 _ e3
      subst e1 e3
      obtain ⟨u, hat, hku⟩ := g1 j hk
      have hxt := hx _ (List.getElem_mem hk)
      have HY := Lib.hid (fun h => (trN_take_yes hk h).symm.trans hT)
      have HZ := Lib.hid (fun h => (trN_take_no hk h).symm.trans hT)
      have HW : Hid (isWh l[j] = whT l[j].tok) := rfl
      clear hT g1
      generalize l[j] = nd at *
      obtain ⟨t, kd⟩ := nd
      obtain ⟨ua, uc, rfl, _⟩ := hku.shape
      obtain ⟨p0, p1, p2, p3, p4, p5, p6⟩ := hat
      simp only [Nd.tok, Nd.kids] at p0 p1 p2 p3 p4 p5 p6 hxt
      have c0 := (hb.cell (p := ⟨g, off + j * 7, none⟩) hbl).trans p0
      have c1 := (hb.cell (p := ⟨g, off + j * 7 + 1, none⟩) hbl).trans p1
      have c2 := (hb.cell (p := ⟨g, off + j * 7 + 2, none⟩) hbl).trans p2
      have c3 := (hb.cell (p := ⟨g, off + j * 7 + 3, none⟩) hbl).trans p3
      have c4 := (hb.cell (p := ⟨g, off + j * 7 + 4, none⟩) hbl).trans p4
      have c5 := (hb.cell (p := ⟨g, off + j * 7 + 5, none⟩) hbl).trans p5
      have c6 := (hb.cell (p := ⟨g, off + j * 7 + 6, none⟩) hbl).trans p6
      clear p0 p1 p2 p3 p4 p5 p6
      have hi0 : (0 : Int) ≤ (j : Int) := by omega
      have hi1 : (j : Int) < (l.length : Int) := by omega
      cases hw : whT t
      · have HE : Hid (j + 1 = trN l) := Lib.hid (HZ.out (HW.out.trans hw))
        clear HY HZ HW
        go_wp2_with (go_at_call 61; refine (HK.out t ua kd.length uc _ hxt).mono ?_; rintro e w2 ⟨rfl, hb2⟩; rw [hw])
        go_ret
        rw [← HE.out]
        exact ⟨by first | rfl | (simp; done) | (congr 2; omega), below_seq hb hb2⟩
      · have HE : Hid (trN (l.take j) = trN l) := Lib.hid (HY.out (HW.out.trans hw))
        clear HY HZ HW
        go_wp2_with (go_at_call 61; refine (HK.out t ua kd.length uc _ hxt).mono ?_; rintro e w2 ⟨rfl, hb2⟩; rw [hw])
        go_roundw
        case rel => exact ⟨j, by first | rfl | simp, by omega, HE.out, below_seq hb hb2⟩
        case measure =>
          simp only [intOf]
          omega
end Go.Proofs.YtfggpenfdfklkaaGreat
namespace Go.Proofs.YtfggpenfdfklkaaGreat
open Go.RowKit
/-! Package rules: a walk's until, and behind an at rule. -/
theorem atP_not {p : Tok → Bool} {l : List Nd} {i : Nat} (h : i < l.length) : atP (notT p) l i = !atP p l i := by
  rw [atP_lt h, atP_lt h]
  rfl
theorem endedN {P : Nat → Prop} {w0 w : World} {b : Nat} {v : Value} {l : List Nd} {i : Nat} (h : WN P w0 b v l i w) :
    Calls Tryz.prog 27 #[.pointer (some ⟨b, 0, none⟩)] w fun e w' => e = .returned (.bool (decide (i = l.length))) ∧ WN P w0 b v l i w' := by
  obtain ⟨a, c, rfl, _⟩ := h.rd.shape
  rcases Nat.lt_or_eq_of_le h.le with hlt | he
  · refine (ended_no h.wk hlt).mono fun e w' h1 => ?_
    obtain ⟨rfl, rfl⟩ := h1
    exact ⟨by rw [decide_eq_false (by omega)], h.drew⟩
  · subst he
    refine (ended_yes h.wk).mono fun e w' h1 => ?_
    obtain ⟨rfl, rfl⟩ := h1
    exact ⟨by rw [decide_eq_true rfl], h.drew⟩
set_option maxRecDepth 100000 in
set_option maxHeartbeats 1600000 in
theorem until_any {f : Nat} {p : Tok → Bool} {P : Nat → Prop} {w0 w : World} {b : Nat} {v : Value} {l : List Nd} {i : Nat} (he : ∀ (args : Array Value) (w : World), (callFunc f args).run Tryz.prog w = .ok (.enter f args) w) (hk : KindOk f p) (h : WN P w0 b v l i w) (hx : ∀ n ∈ l, n.tok.text.size ≤ 1000000000) (hN : l.length ≤ 100000000) :
    Calls Tryz.prog 44 #[.pointer (some ⟨b, 0, none⟩), .func (.func f) #[] #[]] w fun e w' => (∃ u, e = .returned u ∧ RdN w0 P u ((l.take (passP (notT p) l i)).drop i)) ∧ WN P w0 b v l (passP (notT p) l i) w' := by
  have HA := Lib.hid (fun (j : Nat) (W : World) (hW : WN P w0 b v l j W) => atN he hk hW hx)
  have HE := Lib.hid (fun (j : Nat) (W : World) (hW : WN P w0 b v l j W) => endedN hW)
  have c1 := h.wk.c1
  have HRD := Lib.hid h.rd
  clear hk he hx
  go_enter Tryz.func44, Tryz.ntmps44
  go_wp2
  go_loopw [] (fun wr => ∃ j, i ≤ j ∧ passP (notT p) l j = passP (notT p) l i ∧ WN P w0 b v l j wr) (fun wr => leftN b l.length wr)
  case atStart => exact ⟨i, Nat.le_refl _, rfl, by first | exact h | exact h.drew⟩
  case round =>
    obtain ⟨j, hij, hj, hn⟩ := hrel
    have HJ := Lib.hid hj
    clear hj c1
    by_cases hlt : j < l.length
    · have hd : decide (j = l.length) = false := decide_eq_false (by omega)
      by_cases ha : atP p l j = true
      · have HS : Hid (passP (notT p) l j = j) := by
          show _ = _
          exact passP_no (by rw [atP_not hlt, ha]; rfl)
        have HA2 := Lib.hid ha
        clear ha
        obtain ⟨g, off, c, hv2, hlc, _, _, _⟩ := h.rd.base (by omega)
        subst hv2
        have hi0 : (0 : Int) ≤ (i : Int) := by omega
        have hi1 : (i : Int) ≤ (j : Int) := by omega
        have hi2 : (j : Int) ≤ (l.length : Int) := by omega
        have hi3 : (j : Int) ≤ (c : Int) := by omega
        have hi4 : (l.length : Int) ≤ (c : Int) := by omega
        go_wp2_with (first | (go_at_call 27; refine (HE.out j _ (by first | exact hn | exact hn.drew)).mono ?_; rintro e w1 ⟨rfl, h1⟩; rw [hd]) | (go_at_call 40; refine (HA.out j _ (by first | exact h1 | exact h1.drew)).mono ?_; rintro e w2 ⟨rfl, h2⟩; rw [HA2.out]; have c1 := h2.wk.c1; have c0 := h2.wk.c0))
        go_region_held3 (fun w' => w'.cell? ⟨b, 0, none⟩ = some (.slice (some ⟨g, off, none⟩) l.length c) ∧ w'.cell? ⟨b, 1, none⟩ = some (.int .i64 (j : Int))) (go_keep) (fail)
        all_goals go_wp2
        all_goals go_ret
        refine ⟨⟨_, rfl, ?_⟩, ?_⟩
        · rw [← HJ.out, HS.out]
          exact (HRD.out.take j (by omega)).drop i (by rw [List.length_take]; omega)
        · rw [← HJ.out, HS.out]
          exact h2.drew
      · have HA2 : Hid (atP p l j = false) := by
          show _ = _
          simpa using ha
        have HS : Hid (passP (notT p) l (j + 1) = passP (notT p) l j) := by
          show _ = _
          exact passP_yes (by rw [atP_not hlt, HA2.out]; rfl)
        clear ha
        go_wp2_with (first | (go_at_call 27; refine (HE.out j _ (by first | exact hn | exact hn.drew)).mono ?_; rintro e w1 ⟨rfl, h1⟩; rw [hd]) | (go_at_call 40; refine (HA.out j _ (by first | exact h1 | exact h1.drew)).mono ?_; rintro e w2 ⟨rfl, h2⟩; rw [HA2.out]; have c1 := h2.wk.c1; have f1 := h2.wk.f1))
        go_roundw
        case rel => exact ⟨j + 1, by omega, by rw [HS.out, HJ.out], by simpa using h2.put (j + 1) (by omega)⟩
        case measure =>
          rw [hn.left, (show WN P w0 b v l (j + 1) _ by simpa using h2.put (j + 1) (by omega)).left]
          omega
    · have hjl : j = l.length := by have := hn.le; omega
      have HD : Hid (decide (j = l.length) = true) := Lib.hid (decide_eq_true hjl)
      have HS : Hid (passP (notT p) l j = j) := by
        show _ = _
        exact passP_no (atP_ge (by omega))
      rcases Nat.eq_zero_or_pos l.length with h0 | h0
      · obtain rfl : j = 0 := by omega
        obtain rfl : i = 0 := by omega
        obtain rfl := List.length_eq_zero_iff.1 h0
        obtain ⟨a, c, rfl, _⟩ := HRD.out.shape
        have hi4 : (0 : Int) ≤ (c : Int) := by omega
        clear hjl hlt h0 hij
        rcases a with _ | ⟨g, off, x⟩
        · go_wp2_with (go_at_call 27; refine (HE.out 0 _ (by first | exact hn | exact hn.drew)).mono ?_; rintro e w1 ⟨rfl, h1⟩; rw [HD.out]; have c1 := h1.wk.c1; have c0 := h1.wk.c0)
          go_region_held3 (fun w' => w'.cell? ⟨b, 0, none⟩ = some (.slice none 0 c) ∧ w'.cell? ⟨b, 1, none⟩ = some (.int .i64 0)) (go_keep) (fail)
          all_goals go_wp2
          all_goals go_ret
          exact ⟨⟨_, rfl, RdN.nil _ _⟩, h1.drew⟩
        · rcases Nat.eq_zero_or_pos c with rfl | hc0
          · go_wp2_with (go_at_call 27; refine (HE.out 0 _ (by first | exact hn | exact hn.drew)).mono ?_; rintro e w1 ⟨rfl, h1⟩; rw [HD.out]; have c1 := h1.wk.c1; have c0 := h1.wk.c0)
            go_region_held3 (fun w' => w'.cell? ⟨b, 0, none⟩ = some (.slice (some ⟨g, off, x⟩) 0 0) ∧ w'.cell? ⟨b, 1, none⟩ = some (.int .i64 0)) (go_keep) (fail)
            all_goals go_wp2
            all_goals go_ret
            all_goals exact ⟨⟨_, rfl, RdN.nil _ _⟩, h1.drew⟩
          · go_wp2_with (go_at_call 27; refine (HE.out 0 _ (by first | exact hn | exact hn.drew)).mono ?_; rintro e w1 ⟨rfl, h1⟩; rw [HD.out]; have c1 := h1.wk.c1; have c0 := h1.wk.c0)
            go_region_held3 (fun w' => w'.cell? ⟨b, 0, none⟩ = some (.slice (some ⟨g, off, x⟩) 0 c) ∧ w'.cell? ⟨b, 1, none⟩ = some (.int .i64 0)) (go_keep) (fail)
            all_goals go_wp2
            all_goals go_ret
            all_goals exact ⟨⟨_, rfl, RdN.nil _ _⟩, h1.drew⟩
      · obtain ⟨g, off, c, hv2, hlc, _, _, _⟩ := h.rd.base (by omega)
        subst hv2
        have hi0 : (0 : Int) ≤ (i : Int) := by omega
        have hi1 : (i : Int) ≤ (j : Int) := by omega
        have hi2 : (j : Int) ≤ (l.length : Int) := by omega
        have hi3 : (j : Int) ≤ (c : Int) := by omega
        have hi4 : (l.length : Int) ≤ (c : Int) := by omega
        have HI := Lib.hid (And.intro hij hn.le)
        clear hjl hlt h0
        go_wp2_with (go_at_call 27; refine (HE.out j _ (by first | exact hn | exact hn.drew)).mono ?_; rintro e w1 ⟨rfl, h1⟩; rw [HD.out]; have c1 := h1.wk.c1; have c0 := h1.wk.c0)
        go_region_held3 (fun w' => w'.cell? ⟨b, 0, none⟩ = some (.slice (some ⟨g, off, none⟩) l.length c) ∧ w'.cell? ⟨b, 1, none⟩ = some (.int .i64 (j : Int))) (go_keep) (fail)
        all_goals go_wp2
        all_goals go_ret
        all_goals refine ⟨⟨_, rfl, ?_⟩, by rw [← HJ.out, HS.out]; first | exact h1.drew | (have hci : c = i := (by assumption); subst hci; exact h1.drew)⟩
        · rw [← HJ.out, HS.out]
          show RdN _ _ (.slice _ (j - i) 0) _
          rw [show j - i = 0 by have := HI.out; omega, List.drop_eq_nil_of_le (by rw [List.length_take]; have := HI.out; omega)]
          exact RdN.nil _ _
        · rw [← HJ.out, HS.out]
          exact (HRD.out.take j HI.out.2).drop i (by rw [List.length_take]; have := HI.out; omega)
end Go.Proofs.YtfggpenfdfklkaaGreat
namespace Go.Proofs.YtfggpenfdfklkaaGreat
open Go.RowKit
/-! Package rules: what a declaration says. -/
def ValP (w : World) (P : Nat → Prop) (r : List Nd × Bool) (e : Ending) (w' : World) : Prop := (∃ u, e = .returned (.tuple #[u, .bool r.2]) ∧ RdN w' (fun b => P b ∨ w.heap.size ≤ b) u r.1) ∧ Below w.heap.size w w'
theorem trim_at {l : List Nd} {v : Value} {w W : World} {P : Nat → Prop} (h : RdN w P v l) (hl : szL l ≤ 100000000) (hW : Below w.heap.size w W) :
    Calls Tryz.prog 37 #[v] W fun e w' => (∃ u, e = .returned u ∧ RdN w' (fun b => P b ∨ w.heap.size ≤ b) u (trimS l)) ∧ Below w.heap.size w w' := by
  refine (trim_any (h.under hW (Nat.le_refl _)) hl).mono fun e w' h1 => ?_
  obtain ⟨⟨u, rfl, hu⟩, hb⟩ := h1
  exact ⟨⟨u, rfl, hu.weak (fun b _ hp => hp.imp id (fun h => Nat.le_trans hW.size h))⟩, below_seq hW hb⟩
theorem last_at {w W : World} {P : Nat → Prop} {v : Value} {l : List Nd} (hr : RdN w P v l) (hx : ∀ n ∈ l, n.tok.text.size ≤ 1000000000) (hl : l.length ≤ 100000000) (hW : Below w.heap.size w W) :
    Calls Tryz.prog 35 #[v] W fun e w' => e = .returned (.int .i64 ((trN l : Int) - 1)) ∧ Below w.heap.size w w' :=
  (last_any (hr.under hW (Nat.le_refl _)) hx hl).mono fun _ _ ⟨e, hb⟩ => ⟨e, below_seq hW hb⟩
set_option maxRecDepth 100000 in
set_option maxHeartbeats 3200000 in
theorem value_any {w : World} {P : Nat → Prop} {v : Value} {l : List Nd} (hr : RdN w P v l) (hx : ∀ n ∈ l, n.tok.text.size ≤ 1000000000) (hz : szL l ≤ 100000000) :
    Calls Tryz.prog 13 #[v] w (ValP w P (valP l)) := by
  have hl := szL_ge l
  have hl2 : l.length ≤ 100000000 := by omega
  have HL := Lib.hid (fun (W : World) (hW : Below w.heap.size w W) => last_at hr hx hl2 hW)
  have HT := Lib.hid (fun (W : World) (hW : Below w.heap.size w W) => trim_at hr hz hW)
  have hb0 := Below.refl w.heap.size w
  rcases hN : trN l with _ | k
  · have HV : valP l = (trimS l, false) := by
      unfold valP
      rw [hN, if_neg (by decide)]
    rw [HV]
    rw [hN] at HL
    clear HV hN hx hr hl hz
    go_enter Tryz.func13, Tryz.ntmps13
    go_wp2_with (first | (go_at_call 35; refine (HL.out _ (by assumption)).mono ?_; rintro e w1 ⟨rfl, hb1⟩; rw [show ((0 : Nat) : Int) - 1 = -1 from rfl]) | (go_at_call 37; refine (HT.out _ (by assumption)).mono ?_; rintro e w4 ⟨⟨u4, rfl, hu4⟩, hb4⟩))
    go_ret2
    exact ⟨⟨_, rfl, hu4⟩, hb4⟩
  · have hk : k < l.length := by have := trN_le l; omega
    have hvk : valP l = if impB l[k].tok = true then (if 0 < trN (l.take k) then (if bangB (tokAt l ((trN (l.take k) - 1 : Nat) : Int)) = true then (trimS (l.take (trN (l.take k) - 1)), true) else (trimS l, false)) else (trimS l, false)) else (trimS l, false) := by
      unfold valP
      rw [hN, if_pos (by omega), show k + 1 - 1 = k by omega, tokAt_lt hk]
    have hvA : impB l[k].tok = true → valP l = (if 0 < trN (l.take k) then (if bangB (tokAt l ((trN (l.take k) - 1 : Nat) : Int)) = true then (trimS (l.take (trN (l.take k) - 1)), true) else (trimS l, false)) else (trimS l, false)) := fun h => by rw [hvk, if_pos h]
    have hvB : impB l[k].tok = false → valP l = (trimS l, false) := fun h => by rw [hvk, if_neg (by rw [h]; decide)]
    clear hvk
    rw [hN] at HL
    have HI := Lib.hid imp_k
    have HX := Lib.hid excl_k
    obtain ⟨g, off, c, hv2, hlc, _, hbl, g1⟩ := hr.base (by omega)
    subst hv2
    have HL2 := Lib.hid (fun (W : World) (hW : Below w.heap.size w W) => last_at (hr.take k (by omega)) (fun n hn => hx n (List.mem_of_mem_take hn)) (by rw [List.length_take]; omega) hW)
    have hT2 : ∀ m, m < k → ∀ W : World, Below w.heap.size w W → _ := fun m hm W hW => trim_at (hr.take m (by omega)) (Nat.le_trans (szL_le_take m l) hz) hW
    obtain ⟨u, hat, hku⟩ := g1 k hk
    have hxt := hx _ (List.getElem_mem hk)
    obtain ⟨ua, uc, rfl, _⟩ := hku.shape
    obtain ⟨p0, p1, p2, p3, p4, p5, p6⟩ := hat
    have hi0 : (0 : Int) ≤ (k : Int) := by omega
    have hi1 : (k : Int) < (l.length : Int) := by omega
    have hi2 : (k : Int) ≤ (c : Int) := by omega
    have hi3 : (k : Int) ≤ (l.length : Int) := by omega
    generalize hnk : l[k] = nk at *
    obtain ⟨t, kd⟩ := nk
    simp only [Nd.tok, Nd.kids] at p0 p1 p2 p3 p4 p5 p6 hxt hvA hvB
    by_cases hi : impB t = true
    · have hvk := hvA hi
      clear hvA hvB
      rcases hM : trN (l.take k) with _ | m
      · rw [hM, if_neg (by decide)] at hvk
        rw [hvk]
        rw [hM] at HL2
        clear hT2 g1 hx hr hvk hnk hku
        go_enter Tryz.func13, Tryz.ntmps13
        go_wp2_with (first | (have hgd := hb1; clear hgd; go_at_call 35; refine (HL2.out _ (by assumption)).mono ?_; rintro e w3 ⟨rfl, hb3⟩; rw [show ((0 : Nat) : Int) - 1 = -1 from rfl]) | (go_at_call 35; refine (HL.out _ (by first | exact hb0 | assumption)).mono ?_; rintro e w1 ⟨rfl, hb1⟩; rw [show ((k + 1 : Nat) : Int) - 1 = (k : Int) by omega]; have d0 := (hb1.cell (p := ⟨g, off + k * 7, none⟩) hbl).trans p0; have d1 := (hb1.cell (p := ⟨g, off + k * 7 + 1, none⟩) hbl).trans p1; have d2 := (hb1.cell (p := ⟨g, off + k * 7 + 2, none⟩) hbl).trans p2; have d3 := (hb1.cell (p := ⟨g, off + k * 7 + 3, none⟩) hbl).trans p3; have d4 := (hb1.cell (p := ⟨g, off + k * 7 + 4, none⟩) hbl).trans p4; have d5 := (hb1.cell (p := ⟨g, off + k * 7 + 5, none⟩) hbl).trans p5; have d6 := (hb1.cell (p := ⟨g, off + k * 7 + 6, none⟩) hbl).trans p6) | (go_at_call 36; refine (HI.out t ua kd.length uc _ hxt).mono ?_; rintro e w2 ⟨rfl, hb2x⟩; rw [hi]; have hb2 := below_seq hb1 hb2x) | (go_at_call 37; refine (HT.out _ (by assumption)).mono ?_; rintro e w4 ⟨⟨u4, rfl, hu4⟩, hb4⟩))
        go_ret2
        exact ⟨⟨_, rfl, hu4⟩, hb4⟩
      · have hm : m < k := by have := trN_le (l.take k); rw [List.length_take] at this; omega
        rw [hM, if_pos (by omega), show m + 1 - 1 = m by omega, tokAt_lt (by omega : m < l.length)] at hvk
        have hvA : bangB l[m].tok = true → valP l = (trimS (l.take m), true) := fun h => by rw [hvk, if_pos h]
        have hvB : bangB l[m].tok = false → valP l = (trimS l, false) := fun h => by rw [hvk, if_neg (by rw [h]; decide)]
        clear hvk
        rw [hM] at HL2
        have HT2 := Lib.hid (hT2 m hm)
        obtain ⟨u2, hat2, hku2⟩ := g1 m (by omega)
        have hxt2 := hx _ (List.getElem_mem (by omega : m < l.length))
        obtain ⟨ua2, uc2, rfl, _⟩ := hku2.shape
        obtain ⟨q0, q1, q2, q3, q4, q5, q6⟩ := hat2
        generalize hnm : l[m] = nm at *
        obtain ⟨t2, kd2⟩ := nm
        simp only [Nd.tok, Nd.kids] at q0 q1 q2 q3 q4 q5 q6 hxt2 hvA hvB
        have hj0 : (0 : Int) ≤ (m : Int) := by omega
        have hj1 : (m : Int) < (l.length : Int) := by omega
        have hj2 : (m : Int) ≤ (c : Int) := by omega
        have hj3 : (m : Int) ≤ (l.length : Int) := by omega
        by_cases hx2 : bangB t2 = true
        · have hvk := hvA hx2
          clear hvA hvB
          rw [hvk]
          clear hT2 g1 hx hr hvk hnk hnm hku hku2
          go_enter Tryz.func13, Tryz.ntmps13
          go_wp2_with (first | (have hgd := hb1; clear hgd; go_at_call 35; refine (HL2.out _ (by assumption)).mono ?_; rintro e w3 ⟨rfl, hb3⟩; rw [show ((m + 1 : Nat) : Int) - 1 = (m : Int) by omega]; have f0 := (hb3.cell (p := ⟨g, off + m * 7, none⟩) hbl).trans q0; have f1 := (hb3.cell (p := ⟨g, off + m * 7 + 1, none⟩) hbl).trans q1; have f2 := (hb3.cell (p := ⟨g, off + m * 7 + 2, none⟩) hbl).trans q2; have f3 := (hb3.cell (p := ⟨g, off + m * 7 + 3, none⟩) hbl).trans q3; have f4 := (hb3.cell (p := ⟨g, off + m * 7 + 4, none⟩) hbl).trans q4; have f5 := (hb3.cell (p := ⟨g, off + m * 7 + 5, none⟩) hbl).trans q5; have f6 := (hb3.cell (p := ⟨g, off + m * 7 + 6, none⟩) hbl).trans q6) | (go_at_call 35; refine (HL.out _ (by first | exact hb0 | assumption)).mono ?_; rintro e w1 ⟨rfl, hb1⟩; rw [show ((k + 1 : Nat) : Int) - 1 = (k : Int) by omega]; have d0 := (hb1.cell (p := ⟨g, off + k * 7, none⟩) hbl).trans p0; have d1 := (hb1.cell (p := ⟨g, off + k * 7 + 1, none⟩) hbl).trans p1; have d2 := (hb1.cell (p := ⟨g, off + k * 7 + 2, none⟩) hbl).trans p2; have d3 := (hb1.cell (p := ⟨g, off + k * 7 + 3, none⟩) hbl).trans p3; have d4 := (hb1.cell (p := ⟨g, off + k * 7 + 4, none⟩) hbl).trans p4; have d5 := (hb1.cell (p := ⟨g, off + k * 7 + 5, none⟩) hbl).trans p5; have d6 := (hb1.cell (p := ⟨g, off + k * 7 + 6, none⟩) hbl).trans p6) | (go_at_call 36; refine (HI.out t ua kd.length uc _ hxt).mono ?_; rintro e w2 ⟨rfl, hb2x⟩; rw [hi]; have hb2 := below_seq hb1 hb2x) | (go_at_call 38; refine (HX.out t2 ua2 kd2.length uc2 _ hxt2).mono ?_; rintro e w5 ⟨rfl, hb5x⟩; rw [hx2]; have hb5 := below_seq hb3 hb5x) | (go_at_call 37; refine (HT2.out _ (by assumption)).mono ?_; rintro e w4 ⟨⟨u4, rfl, hu4⟩, hb4⟩))
          go_ret2
          exact ⟨⟨_, rfl, hu4⟩, hb4⟩
        · have hx2 : bangB t2 = false := by simpa using hx2
          have hvk := hvB hx2
          clear hvA hvB
          rw [hvk]
          clear hT2 g1 hx hr hvk hnk hnm hku hku2
          go_enter Tryz.func13, Tryz.ntmps13
          go_wp2_with (first | (have hgd := hb1; clear hgd; go_at_call 35; refine (HL2.out _ (by assumption)).mono ?_; rintro e w3 ⟨rfl, hb3⟩; rw [show ((m + 1 : Nat) : Int) - 1 = (m : Int) by omega]; have f0 := (hb3.cell (p := ⟨g, off + m * 7, none⟩) hbl).trans q0; have f1 := (hb3.cell (p := ⟨g, off + m * 7 + 1, none⟩) hbl).trans q1; have f2 := (hb3.cell (p := ⟨g, off + m * 7 + 2, none⟩) hbl).trans q2; have f3 := (hb3.cell (p := ⟨g, off + m * 7 + 3, none⟩) hbl).trans q3; have f4 := (hb3.cell (p := ⟨g, off + m * 7 + 4, none⟩) hbl).trans q4; have f5 := (hb3.cell (p := ⟨g, off + m * 7 + 5, none⟩) hbl).trans q5; have f6 := (hb3.cell (p := ⟨g, off + m * 7 + 6, none⟩) hbl).trans q6) | (go_at_call 35; refine (HL.out _ (by first | exact hb0 | assumption)).mono ?_; rintro e w1 ⟨rfl, hb1⟩; rw [show ((k + 1 : Nat) : Int) - 1 = (k : Int) by omega]; have d0 := (hb1.cell (p := ⟨g, off + k * 7, none⟩) hbl).trans p0; have d1 := (hb1.cell (p := ⟨g, off + k * 7 + 1, none⟩) hbl).trans p1; have d2 := (hb1.cell (p := ⟨g, off + k * 7 + 2, none⟩) hbl).trans p2; have d3 := (hb1.cell (p := ⟨g, off + k * 7 + 3, none⟩) hbl).trans p3; have d4 := (hb1.cell (p := ⟨g, off + k * 7 + 4, none⟩) hbl).trans p4; have d5 := (hb1.cell (p := ⟨g, off + k * 7 + 5, none⟩) hbl).trans p5; have d6 := (hb1.cell (p := ⟨g, off + k * 7 + 6, none⟩) hbl).trans p6) | (go_at_call 36; refine (HI.out t ua kd.length uc _ hxt).mono ?_; rintro e w2 ⟨rfl, hb2x⟩; rw [hi]; have hb2 := below_seq hb1 hb2x) | (go_at_call 38; refine (HX.out t2 ua2 kd2.length uc2 _ hxt2).mono ?_; rintro e w5 ⟨rfl, hb5x⟩; rw [hx2]; have hb5 := below_seq hb3 hb5x) | (go_at_call 37; refine (HT.out _ (by assumption)).mono ?_; rintro e w4 ⟨⟨u4, rfl, hu4⟩, hb4⟩))
          go_ret2
          exact ⟨⟨_, rfl, hu4⟩, hb4⟩
    · have hi : impB t = false := by simpa using hi
      have hvk := hvB hi
      clear hvA hvB
      rw [hvk]
      clear hT2 g1 hx hr hvk hnk hku HL2
      go_enter Tryz.func13, Tryz.ntmps13
      go_wp2_with (first | (go_at_call 35; refine (HL.out _ (by first | exact hb0 | assumption)).mono ?_; rintro e w1 ⟨rfl, hb1⟩; rw [show ((k + 1 : Nat) : Int) - 1 = (k : Int) by omega]; have d0 := (hb1.cell (p := ⟨g, off + k * 7, none⟩) hbl).trans p0; have d1 := (hb1.cell (p := ⟨g, off + k * 7 + 1, none⟩) hbl).trans p1; have d2 := (hb1.cell (p := ⟨g, off + k * 7 + 2, none⟩) hbl).trans p2; have d3 := (hb1.cell (p := ⟨g, off + k * 7 + 3, none⟩) hbl).trans p3; have d4 := (hb1.cell (p := ⟨g, off + k * 7 + 4, none⟩) hbl).trans p4; have d5 := (hb1.cell (p := ⟨g, off + k * 7 + 5, none⟩) hbl).trans p5; have d6 := (hb1.cell (p := ⟨g, off + k * 7 + 6, none⟩) hbl).trans p6) | (go_at_call 36; refine (HI.out t ua kd.length uc _ hxt).mono ?_; rintro e w2 ⟨rfl, hb2x⟩; rw [hi]; have hb2 := below_seq hb1 hb2x) | (go_at_call 37; refine (HT.out _ (by assumption)).mono ?_; rintro e w4 ⟨⟨u4, rfl, hu4⟩, hb4⟩))
      go_ret2
      exact ⟨⟨_, rfl, hu4⟩, hb4⟩
end Go.Proofs.YtfggpenfdfklkaaGreat
namespace Go.Proofs.YtfggpenfdfklkaaGreat
open Go.RowKit
/-! Package rules: behind an at rule; a declaration's name. -/
theorem eat_en : ∀ (args : Array Value) (w : World), (callFunc 57 args).run Tryz.prog w = .ok (.enter 57 args) w := enters_of Tryz.func57 (by kernel_rfl) rfl
theorem block_en : ∀ (args : Array Value) (w : World), (callFunc 55 args).run Tryz.prog w = .ok (.enter 55 args) w := enters_of Tryz.func55 (by kernel_rfl) rfl
set_option maxRecDepth 100000 in
set_option maxHeartbeats 1600000 in
theorem passAt_any {P : Nat → Prop} {w0 w : World} {b : Nat} {v : Value} {l : List Nd} {i : Nat} (h : WN P w0 b v l i w) (hi : i < l.length) (hx : ∀ n ∈ l, n.tok.text.size ≤ 1000000000) (hN : l.length ≤ 100000000) :
    Calls Tryz.prog 42 #[.pointer (some ⟨b, 0, none⟩)] w fun e w' => e = .returned (.tuple #[]) ∧ WN P w0 b v l (atEnd l i) w' := by
  have HU := Lib.hid (fun (W : World) (hW : WN P w0 b v l (i + 1) W) => until_any eat_en eat_k hW hx hN)
  have HA := Lib.hid (fun (j : Nat) (W : World) (hW : WN P w0 b v l j W) => atN block_en block_k hW hx)
  have c1 := h.wk.c1
  have f1 := h.wk.f1
  have hp : WN P w0 b v l (i + 1) (w.setCell ⟨b, 1, none⟩ (.int .i64 ((i : Int) + 1))) := by simpa using h.put (i + 1) hi
  have hk : passP (notT eaT) l (i + 1) ≤ l.length := passP_le hi
  unfold atEnd
  generalize passP (notT eaT) l (i + 1) = k at *
  clear hx
  by_cases ha : atP blkT l k = true
  · have hlt := atP_lt_of ha
    have HA2 := Lib.hid ha
    rw [if_pos ha]
    clear ha
    go_enter Tryz.func42, Tryz.ntmps42
    go_wp2_with (first | (go_at_call 44; refine (HU.out _ (by first | exact hp | exact hp.drew)).mono ?_; rintro e w1 ⟨⟨u, rfl, hu⟩, h1⟩) | (go_at_call 40; refine (HA.out k _ (by first | exact h1 | exact h1.drew)).mono ?_; rintro e w2 ⟨rfl, h2⟩; rw [HA2.out]; have c1 := h2.wk.c1; have f1 := h2.wk.f1))
    go_end0
    exact ⟨rfl, by simpa using h2.put (k + 1) (by omega)⟩
  · have HA2 : Hid (atP blkT l k = false) := by
      show _ = _
      simpa using ha
    rw [if_neg ha]
    clear ha
    go_enter Tryz.func42, Tryz.ntmps42
    go_wp2_with (first | (go_at_call 44; refine (HU.out _ (by first | exact hp | exact hp.drew)).mono ?_; rintro e w1 ⟨⟨u, rfl, hu⟩, h1⟩) | (go_at_call 40; refine (HA.out k _ (by first | exact h1 | exact h1.drew)).mono ?_; rintro e w2 ⟨rfl, h2⟩; rw [HA2.out]))
    go_end0
    exact ⟨rfl, h2⟩
set_option maxRecDepth 100000 in
set_option maxHeartbeats 800000 in
theorem pref2_any (s : ByteArray) (w : World) (hs : s.size ≤ 1000000000) :
    Calls Tryz.prog 101 #[.string s, .string ⟨#[45, 45]⟩] w fun e w' => e = .returned (.bool (dashB s)) ∧ w' = w := by
  by_cases h : 2 ≤ s.size
  · have HD : Hid (dashB s = ((s.extract 0 2).toList == [45, 45])) := by
      show _ = _
      unfold dashB
      rw [decide_eq_true h, Bool.true_and]
    generalize dashB s = R at *
    have h0 : (2 : Int) ≤ (s.size : Int) := by omega
    go_enter Tryz.func101, Tryz.ntmps101
    go_wp2
    go_ret
    exact ⟨ret_bool HD.out.symm, rfl⟩
  · have HD : Hid (dashB s = false) := by
      show _ = _
      unfold dashB
      rw [decide_eq_false h, Bool.false_and]
    generalize dashB s = R at *
    have h0 : ¬ (2 : Int) ≤ (s.size : Int) := by omega
    go_enter Tryz.func101, Tryz.ntmps101
    go_wp2
    go_ret
    exact ⟨ret_bool HD.out.symm, rfl⟩
theorem pref_any (s : ByteArray) (w : World) (hs : s.size ≤ 1000000000) :
    Calls Tryz.prog 65 #[.string s, .string ⟨#[45, 45]⟩] w fun e w' => e = .returned (.bool (dashB s)) ∧ w' = w := by
  have HP := Lib.hid (fun (W : World) => pref2_any s W hs)
  go_enter Tryz.func65, Tryz.ntmps65
  go_wp2_with (go_at_call 101; refine (HP.out _).mono ?_; rintro e w1 ⟨rfl, rfl⟩)
  go_ret
  exact ⟨rfl, rfl⟩
end Go.Proofs.YtfggpenfdfklkaaGreat
namespace Go.Proofs.YtfggpenfdfklkaaGreat
open Go.RowKit
/-! Package rules: a declaration's name. -/
theorem ident_en : ∀ (args : Array Value) (w : World), (callFunc 62 args).run Tryz.prog w = .ok (.enter 62 args) w := enters_of Tryz.func62 (by kernel_rfl) rfl
theorem white_en : ∀ (args : Array Value) (w : World), (callFunc 61 args).run Tryz.prog w = .ok (.enter 61 args) w := enters_of Tryz.func61 (by kernel_rfl) rfl
theorem colon_en : ∀ (args : Array Value) (w : World), (callFunc 64 args).run Tryz.prog w = .ok (.enter 64 args) w := enters_of Tryz.func64 (by kernel_rfl) rfl
set_option maxRecDepth 100000 in
set_option maxHeartbeats 1600000 in
theorem ruName_any {P : Nat → Prop} {w0 w : World} {b : Nat} {v : Value} {l : List Nd} {i : Nat} (h : WN P w0 b v l i w) (hx : ∀ n ∈ l, n.tok.text.size ≤ 1000000000) (hN : l.length ≤ 100000000) :
    Calls Tryz.prog 43 #[.pointer (some ⟨b, 0, none⟩)] w fun e w' => e = .returned (.tuple #[.string (nameP l i).1, .bool (nameP l i).2.1]) ∧ WN P w0 b v l (nameP l i).2.2 w' := by
  have HI := Lib.hid (fun (W : World) (hW : WN P w0 b v l i W) => atN ident_en ident_k hW hx)
  have HP := Lib.hid (fun (j : Nat) (W : World) (hW : WN P w0 b v l j W) => pass_any white_en white_k hW hx hN)
  have HC := Lib.hid (fun (j : Nat) (W : World) (hW : WN P w0 b v l j W) => atN colon_en colon_k hW hx)
  unfold nameP
  by_cases hi : atP idT l i = true
  · have hlt := atP_lt_of hi
    have HI2 := Lib.hid hi
    have hk : passP whT l (i + 1) ≤ l.length := passP_le hlt
    have hxt := hx _ (List.getElem_mem hlt)
    rw [if_pos hi, tokAt_lt hlt]
    obtain ⟨g, off, c, hv2, hlc, hgb, hbl, g1⟩ := h.rd.base (by omega)
    subst hv2
    obtain ⟨u, hat, hku⟩ := g1 i hlt
    have p1 := hat.c1
    have HQ := Lib.hid (fun (W : World) (hW : WN P w0 b (.slice (some ⟨g, off, none⟩) l.length c) l i W) => (hW.gw.cellAt (p := ⟨g, off + i * 7 + 1, none⟩) hbl (h.ne _ hgb)).trans p1)
    clear hi hat hku g1 p1
    generalize l[i].tok.text = s at *
    have hi0 : (0 : Int) ≤ (i : Int) := by omega
    have hi1 : (i : Int) < (l.length : Int) := by omega
    by_cases hc : atP coT l (passP whT l (i + 1)) = true
    · have HC2 := Lib.hid hc
      have hkl := atP_lt_of hc
      rw [if_pos hc]
      clear hc hx
      generalize hkk : passP whT l (i + 1) = k at *
      have HH := Lib.hid (fun (W : World) => pref_any s W hxt)
      unfold declN
      cases hd : dashB s
      · rw [if_neg (by decide)]
        go_enter Tryz.func43, Tryz.ntmps43
        go_wp2_with (go_at_call 40; refine (HI.out _ (by first | exact h | exact h.drew)).mono ?_; rintro e w1 ⟨rfl, h1⟩; rw [HI2.out]; have c0 := h1.wk.c0; have c1 := h1.wk.c1; have q1 := HQ.out _ h1)
        go_region_held3 (fun w' => w'.cell? ⟨b, 0, none⟩ = some (.slice (some ⟨g, off, none⟩) l.length c) ∧ w'.cell? ⟨b, 1, none⟩ = some (.int .i64 (i : Int)) ∧ w'.cell? ⟨g, off + i * 7 + 1, none⟩ = some (.string s)) (go_keep) (fail)
        have h2 := h1.drew
        have c2 := h2.wk.c1
        have f2 := h2.wk.f1
        have h3 : WN P w0 b (.slice (some ⟨g, off, none⟩) l.length c) l (i + 1) (w1.drew.setCell ⟨b, 1, none⟩ (.int .i64 ((i : Int) + 1))) := by simpa using h2.put (i + 1) hlt
        go_wp2_with (first | (go_at_call 25; refine (HP.out _ _ (by first | exact h3 | exact h3.drew)).mono ?_; rintro e w4 ⟨rfl, h4⟩; rw [hkk] at h4) | (go_at_call 40; refine (HC.out k _ (by first | exact h4 | exact h4.drew)).mono ?_; rintro e w5 ⟨rfl, h5⟩; rw [HC2.out]; have c5 := h5.wk.c1; have f5 := h5.wk.f1) | (go_at_call 65; refine (HH.out _).mono ?_; rintro e w6 ⟨rfl, rfl⟩; rw [hd]) | (go_at_call 56; refine (lower_any _ _ hxt).mono ?_; rintro e w7 ⟨rfl, hb7⟩))
        go_ret2
        exact ⟨rfl, by simpa using (h5.put (k + 1) hkl).below hb7⟩
      · rw [if_pos rfl]
        go_enter Tryz.func43, Tryz.ntmps43
        go_wp2_with (go_at_call 40; refine (HI.out _ (by first | exact h | exact h.drew)).mono ?_; rintro e w1 ⟨rfl, h1⟩; rw [HI2.out]; have c0 := h1.wk.c0; have c1 := h1.wk.c1; have q1 := HQ.out _ h1)
        go_region_held3 (fun w' => w'.cell? ⟨b, 0, none⟩ = some (.slice (some ⟨g, off, none⟩) l.length c) ∧ w'.cell? ⟨b, 1, none⟩ = some (.int .i64 (i : Int)) ∧ w'.cell? ⟨g, off + i * 7 + 1, none⟩ = some (.string s)) (go_keep) (fail)
        have h2 := h1.drew
        have c2 := h2.wk.c1
        have f2 := h2.wk.f1
        have h3 : WN P w0 b (.slice (some ⟨g, off, none⟩) l.length c) l (i + 1) (w1.drew.setCell ⟨b, 1, none⟩ (.int .i64 ((i : Int) + 1))) := by simpa using h2.put (i + 1) hlt
        go_wp2_with (first | (go_at_call 25; refine (HP.out _ _ (by first | exact h3 | exact h3.drew)).mono ?_; rintro e w4 ⟨rfl, h4⟩; rw [hkk] at h4) | (go_at_call 40; refine (HC.out k _ (by first | exact h4 | exact h4.drew)).mono ?_; rintro e w5 ⟨rfl, h5⟩; rw [HC2.out]; have c5 := h5.wk.c1; have f5 := h5.wk.f1) | (go_at_call 65; refine (HH.out _).mono ?_; rintro e w6 ⟨rfl, rfl⟩; rw [hd]))
        go_ret2
        exact ⟨rfl, by simpa using h5.put (k + 1) hkl⟩
    · have HC2 : Hid (atP coT l (passP whT l (i + 1)) = false) := by
        show _ = _
        simpa using hc
      rw [if_neg hc]
      clear hc hx
      generalize hkk : passP whT l (i + 1) = k at *
      go_enter Tryz.func43, Tryz.ntmps43
      go_wp2_with (go_at_call 40; refine (HI.out _ (by first | exact h | exact h.drew)).mono ?_; rintro e w1 ⟨rfl, h1⟩; rw [HI2.out]; have c0 := h1.wk.c0; have c1 := h1.wk.c1; have q1 := HQ.out _ h1)
      go_region_held3 (fun w' => w'.cell? ⟨b, 0, none⟩ = some (.slice (some ⟨g, off, none⟩) l.length c) ∧ w'.cell? ⟨b, 1, none⟩ = some (.int .i64 (i : Int)) ∧ w'.cell? ⟨g, off + i * 7 + 1, none⟩ = some (.string s)) (go_keep) (fail)
      have h2 := h1.drew
      have c2 := h2.wk.c1
      have f2 := h2.wk.f1
      have h3 : WN P w0 b (.slice (some ⟨g, off, none⟩) l.length c) l (i + 1) (w1.drew.setCell ⟨b, 1, none⟩ (.int .i64 ((i : Int) + 1))) := by simpa using h2.put (i + 1) hlt
      go_wp2_with (first | (go_at_call 25; refine (HP.out _ _ (by first | exact h3 | exact h3.drew)).mono ?_; rintro e w4 ⟨rfl, h4⟩; rw [hkk] at h4) | (go_at_call 40; refine (HC.out k _ (by first | exact h4 | exact h4.drew)).mono ?_; rintro e w5 ⟨rfl, h5⟩; rw [HC2.out]; have c5 := h5.wk.c1; have f5 := h5.wk.f1))
      go_ret2
      exact ⟨rfl, h5⟩
  · have HI2 : Hid (atP idT l i = false) := by
      show _ = _
      simpa using hi
    rw [if_neg hi]
    clear hi hx
    go_enter Tryz.func43, Tryz.ntmps43
    go_wp2_with (first | (go_at_call 40; refine (HI.out _ (by first | exact h | exact h.drew)).mono ?_; rintro e w1 ⟨rfl, h1⟩; rw [HI2.out]))
    go_ret2
    exact ⟨rfl, h1⟩
end Go.Proofs.YtfggpenfdfklkaaGreat
namespace Go.Proofs.YtfggpenfdfklkaaGreat
open Go.RowKit
/-! Package rules: whether a value has what spoils it. -/
def idxT (p : Tok → Bool) : List Nd → Nat → Int
  | [], _ => -1
  | n :: l, i => if p n.tok = true then (i : Int) else idxT p l (i + 1)
theorem idxT_any (p : Tok → Bool) : ∀ (l : List Nd) (i : Nat), decide (0 ≤ idxT p l i) = l.any fun n => p n.tok
  | [], i => rfl
  | n :: l, i => by
    rw [idxT, List.any_cons]
    by_cases h : p n.tok = true
    · rw [if_pos h, h, Bool.true_or]
      exact decide_eq_true (by omega)
    · rw [if_neg h, idxT_any p l (i + 1)]
      simp [h]
theorem sp_bad (l : List Nd) : (l.any fun n => spT n.tok) = l.any badN := rfl
set_option maxRecDepth 100000 in
set_option maxHeartbeats 1600000 in
theorem idxSp_any {l : List Nd} {v : Value} {w : World} {P : Nat → Prop} (h : RdN w P v l) (hl : szL l ≤ 100000000) (hx : ∀ n ∈ l, n.tok.text.size ≤ 1000000000) :
    Calls Tryz.prog 66 #[v, .func (.func 47) #[] #[]] w fun e w' => e = .returned (.int .i64 (idxT spT l 0)) ∧ Below w.heap.size w w' := by
  have hll := szL_ge l
  have HH := Lib.hid h
  obtain ⟨a, c, rfl, hlc⟩ := h.shape
  obtain ⟨N, hN⟩ : ∃ N, l.length = N := ⟨_, rfl⟩
  rw [hN] at hll hlc ⊢
  have HN := Lib.hid hN
  have eg := enters_of Tryz.func47 (by kernel_rfl) rfl
  clear h hN
  go_enter Tryz.func66, Tryz.ntmps66
  go_wp2
  go_loopw [8] (fun iv wr => ∃ i : Nat, iv = .int .i64 i ∧ i ≤ N ∧ idxT spT (l.drop i) i = idxT spT l 0 ∧ Below w.heap.size w wr) (fun iv _ => N - (intOf iv).toNat)
  case atStart => exact ⟨0, rfl, Nat.zero_le _, rfl, Below.refl _ _⟩
  case round =>
    obtain ⟨i, rfl, hiN, hix, hB⟩ := hrel
    have HB := Lib.hid hB
    have HX := Lib.hid hix
    clear hB hix
    by_cases hlt : i < N
    · have hr := HH.out.under HB.out (Nat.le_refl _)
      obtain ⟨b, off, c2, hv2, _, _, hbl, g1⟩ := hr.base (by rw [HN.out]; omega)
      rw [HN.out] at hv2
      injection hv2 with e1 _ e3
      subst e1 e3
      obtain ⟨u, hat, hku⟩ := g1 i (by rw [HN.out]; exact hlt)
      obtain ⟨ua, uc, hus, _⟩ := hku.shape
      subst hus
      have hdr : l.drop i = l[i]'(by rw [HN.out]; exact hlt) :: l.drop (i + 1) := List.drop_eq_getElem_cons (by rw [HN.out]; exact hlt)
      have hxt := hx _ (List.getElem_mem (by rw [HN.out]; exact hlt : i < l.length))
      have hsz := szL_at l i (by rw [HN.out]; exact hlt)
      have hkl := szL_ge (l[i]'(by rw [HN.out]; exact hlt)).kids
      generalize l[i]'(by rw [HN.out]; exact hlt) = nd at *
      obtain ⟨t, k⟩ := nd
      simp only [Nd.tok, Nd.kids] at hat hsz hkl hxt
      obtain ⟨c0, c1, c2', c3, c4, c5, c6⟩ := hat
      have HD := Lib.hid hdr
      have hkl2 : k.length ≤ 100000000 := by omega
      have hx0 : (0 : Int) ≤ (i : Int) := by omega
      have hx1 : (i : Int) < (N : Int) := by omega
      clear hdr hku g1 hr hsz hkl
      by_cases hk : spT t = true
      · have hdk := hk
        have HC := Lib.hid (sp_k t ua k.length uc wr hxt)
        go_wp2_with (go_at_call 47; refine HC.out.mono ?_; rintro e w2 ⟨rfl, hb2⟩; rw [hdk])
        go_ret
        have h := HX.out
        rw [HD.out, idxT, if_pos (show spT (Nd.mk t k).tok = true from hk)] at h
        exact ⟨ret_int h, below_seq HB.out hb2⟩
      · have hdk : spT t = false := by simpa using hk
        have HC := Lib.hid (sp_k t ua k.length uc wr hxt)
        have HK := Lib.hid hk
        clear hk
        go_wp2_with (go_at_call 47; refine HC.out.mono ?_; rintro e w2 ⟨rfl, hb2⟩; rw [hdk])
        go_roundw
        case rel =>
          refine ⟨i + 1, by go_num, by omega, ?_, below_seq HB.out hb2⟩
          have h := HX.out
          rw [HD.out, idxT, if_neg (show ¬ spT (Nd.mk t k).tok = true from HK.out)] at h
          exact h
        case measure => simp [intOf]; omega
    · have h := HX.out
      rw [show l.drop i = [] from List.drop_eq_nil_of_le (by rw [HN.out]; omega), idxT] at h
      have HE := Lib.hid h
      clear h
      go_wp2
      go_ret
      exact ⟨ret_int HE.out, HB.out⟩
theorem contSp_any {l : List Nd} {v : Value} {w : World} {P : Nat → Prop} (h : RdN w P v l) (hl : szL l ≤ 100000000) (hx : ∀ n ∈ l, n.tok.text.size ≤ 1000000000) :
    Calls Tryz.prog 46 #[v, .func (.func 47) #[] #[]] w fun e w' => e = .returned (.bool (l.any fun n => spT n.tok)) ∧ Below w.heap.size w w' := by
  rw [← idxT_any spT l 0]
  have HH := Lib.hid h
  obtain ⟨a, c, rfl, hlc⟩ := h.shape
  obtain ⟨N, hN⟩ : ∃ N, l.length = N := ⟨_, rfl⟩
  rw [hN] at hlc
  have HC := Lib.hid (idxSp_any HH.out hl hx)
  rw [hN] at HC ⊢
  clear h hlc hN
  generalize idxT spT l 0 = x at *
  go_enter Tryz.func46, Tryz.ntmps46
  go_wp2_with (go_at_call 66; refine HC.out.mono ?_; rintro e w2 ⟨rfl, hb2⟩)
  go_ret
  exact ⟨rfl, hb2⟩
end Go.Proofs.YtfggpenfdfklkaaGreat
