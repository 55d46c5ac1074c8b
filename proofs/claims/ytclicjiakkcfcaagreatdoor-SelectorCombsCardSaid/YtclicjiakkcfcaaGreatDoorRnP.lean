import Derived.Test.YtclicjiakkcfcaaGreatDoorNsJ
set_option maxRecDepth 100000
set_option maxHeartbeats 6400000
namespace Go.Proofs.YtclicjiakkcfcaaGreatDoor
open Go.RowKit
def StepN (d : Nat) (l : List Tok) (n : Nd) (r : List Tok) : Prop := ∀ s : Stk, s.length + 1 = d → (∀ t l', l = t :: l' → closesS s t = false) → oneS s l = if s.isEmpty then (n, r) else oneS (addS s n) r
def BlkN (d : Nat) (o : Tok) (l0 : List Tok) (k : List Nd) (l : List Tok) : Prop := ∀ s : Stk, s.length + 1 = d → oneS ((o, []) :: s) l0 = oneS ((o, k) :: s) l
theorem step_leaf {d : Nat} {t : Tok} {ts : List Tok} (hb : (cloB t).toList.isEmpty = true) : StepN d (t :: ts) (.mk t []) ts := fun _ _ hc => oneS_leaf (hc t ts rfl) hb
theorem step_close {d : Nat} {o t : Tok} {l0 l' : List Tok} {k : List Nd} (h : BlkN d o l0 k (t :: l')) (ho : (cloB o).toList.isEmpty = false) (hc : clsB o t = true) : StepN d (o :: l0) (.mk o k) l' := fun s hs hcl => by
 rw [oneS_opens (hcl o l0 rfl) ho, h s hs, oneS_shuts (by rw [closesS_cons]; exact hc)]
theorem step_end {d : Nat} {o : Tok} {l0 : List Tok} {k : List Nd} (h : BlkN d o l0 k []) (ho : (cloB o).toList.isEmpty = false) : StepN d (o :: l0) (.mk o k) [] := fun s hs hcl => by
 rw [oneS_opens (hcl o l0 rfl) ho, h s hs, oneS_nil]
 cases s with
 | nil => rw [shutS]; rfl
 | cons p s =>
  obtain ⟨o2, k2⟩ := p
  have e : shutS ((o, k) :: (o2, k2) :: s) = shutS (addS ((o2, k2) :: s) (.mk o k)) := by
   conv => lhs; unfold shutS
   unfold addS
   rfl
  rw [e, if_neg (by simp), oneS_nil]
theorem blk_start (d : Nat) (o : Tok) (l0 : List Tok) : BlkN d o l0 [] l0 := fun _ _ => rfl
theorem blk_step {d : Nat} {o t : Tok} {l0 l' r : List Tok} {k : List Nd} {n : Nd} (h : BlkN d o l0 k (t :: l')) (hn : clsB o t = false) (hs : StepN (d + 1) (t :: l') n r) : BlkN d o l0 (if d < 32 then k ++ [n] else k) r := fun s hd => by
 rw [h s hd, hs ((o, k) :: s) (by simpa using hd) (fun t' l'' e => by injection e with e1 _; subst e1; rw [closesS_cons]; exact hn), if_neg (by simp)]
 by_cases h32 : d < 32
 · rw [addS_room (by omega), if_pos h32]
 · rw [addS_full (by omega), if_neg h32]
theorem step_top {l : List Tok} {n : Nd} {r : List Tok} (h : StepN 1 l n r) : oneS [] l = (n, r) := h [] rfl fun _ _ _ => rfl
theorem refcloses_any (t : Tok) (w : World) :
    Calls Tryz.prog 42 #[t.val] w fun e w' => e = .returned (.string (cloB t)) ∧ Below w.heap.size w w' := by
  obtain ⟨k, x, n, a, b, c⟩ := t
  have hb := (Below.refl w.heap.size w).alloc (Nat.le_refl _) (.cells #[.int .i64 k, .string x, .int .i64 n, .bool a, .bool b, .bool c] 94)
  simp only [Tok.val]
  by_cases k2 : k = 2
  · subst k2
    go_enter Tryz.func42, Tryz.ntmps42
    go_wp2
    go_ret
    exact ⟨ret_str (by rfl), hb⟩
  have b2 : (k == 2) = false := by simp [k2]
  by_cases k19 : k = 19
  · subst k19
    by_cases x1 : (x.toList == [40]) = true
    · have e : cloB { kind := 19, text := x, int := n, whole := a, sign := b, id := c } = ⟨#[41]⟩ := by unfold cloB; rw [if_neg (show ¬ (19 : Int) = 2 by decide), if_neg (show ¬ (19 : Int) ≠ 19 by decide), if_pos x1]
      have E := Lib.hid e
      clear e
      go_enter Tryz.func42, Tryz.ntmps42
      go_wp2
      go_ret
      exact ⟨ret_str E.out.symm, hb⟩
    have y1 : (x.toList == [40]) = false := by simpa using x1
    by_cases x2 : (x.toList == [91]) = true
    · have e : cloB { kind := 19, text := x, int := n, whole := a, sign := b, id := c } = ⟨#[93]⟩ := by unfold cloB; rw [if_neg (show ¬ (19 : Int) = 2 by decide), if_neg (show ¬ (19 : Int) ≠ 19 by decide), if_neg x1, if_pos x2]
      have E := Lib.hid e
      clear e x1
      go_enter Tryz.func42, Tryz.ntmps42
      go_wp2
      go_ret
      exact ⟨ret_str E.out.symm, hb⟩
    have y2 : (x.toList == [91]) = false := by simpa using x2
    by_cases x3 : (x.toList == [123]) = true
    · have e : cloB { kind := 19, text := x, int := n, whole := a, sign := b, id := c } = ⟨#[125]⟩ := by unfold cloB; rw [if_neg (show ¬ (19 : Int) = 2 by decide), if_neg (show ¬ (19 : Int) ≠ 19 by decide), if_neg x1, if_neg x2, if_pos x3]
      have E := Lib.hid e
      clear e x1 x2
      go_enter Tryz.func42, Tryz.ntmps42
      go_wp2
      go_ret
      exact ⟨ret_str E.out.symm, hb⟩
    · have y3 : (x.toList == [123]) = false := by simpa using x3
      have e : cloB { kind := 19, text := x, int := n, whole := a, sign := b, id := c } = ⟨#[]⟩ := by unfold cloB; rw [if_neg (show ¬ (19 : Int) = 2 by decide), if_neg (show ¬ (19 : Int) ≠ 19 by decide), if_neg x1, if_neg x2, if_neg x3]
      have E := Lib.hid e
      clear e x1 x2 x3
      go_enter Tryz.func42, Tryz.ntmps42
      go_wp2
      go_ret
      exact ⟨ret_str E.out.symm, hb⟩
  · have b19 : (k == 19) = false := by simp [k19]
    have e : cloB { kind := k, text := x, int := n, whole := a, sign := b, id := c } = ⟨#[]⟩ := by unfold cloB; rw [if_neg k2, if_pos k19]
    have E := Lib.hid e
    clear e k2 k19
    go_enter Tryz.func42, Tryz.ntmps42
    go_wp2
    go_ret
    exact ⟨ret_str E.out.symm, hb⟩
theorem refcloses_is {t : Tok} {x : ByteArray} (hx : cloB t = x) (w : World) : Calls Tryz.prog 42 #[t.val] w fun e w' => e = .returned (.string x) ∧ Below w.heap.size w w' := by
 rw [← hx]; exact refcloses_any t w
def NodePost (w : World) (ts : List Tok) (a d : Nat) (e : Ending) (w' : World) : Prop :=
 (∃ t k nx u, e = .returned (.tuple #[nval t u, .int .i64 ((nx : Nat) : Int)]) ∧ a < nx ∧ nx ≤ ts.length ∧ StepN d (ts.drop a) (.mk t k) (ts.drop nx) ∧ RdN w' (fun b => w.heap.size ≤ b) u k) ∧ Below w.heap.size w w'
structure NodI (w : World) (ts : List Tok) (a d p : Nat) (t : Tok) (wr : World) (kv : Value) (k : List Nd) : Prop where
  le : p ≤ ts.length
  gt : a < p
  res : NB wr w.heap.size { kind := 0 } (.slice none 0 0)
  var : NB wr (w.heap.size + 1) t kv
  row : RowN (fun b => w.heap.size + 2 ≤ b) (w.heap.size + 2) wr kv k
  len : k.length ≤ p
  run : BlkN d t (ts.drop (a + 1)) k (ts.drop p)
  bel : Below w.heap.size w wr
theorem node_told {w wr : World} {ts : List Tok} {a d p : Nat} {t : Tok} {kv : Value} {k : List Nd} (h : NodI w ts a d p t wr kv k) :
    RdN (((((((wr.setCell ⟨w.heap.size, 0, none⟩ (.int .i64 t.kind)).setCell ⟨w.heap.size, 1, none⟩ (.string t.text)).setCell ⟨w.heap.size, 2, none⟩ (.int .i64 t.int)).setCell ⟨w.heap.size, 3, none⟩ (.bool t.whole)).setCell ⟨w.heap.size, 4, none⟩ (.bool t.sign)).setCell ⟨w.heap.size, 5, none⟩ (.bool t.id)).setCell ⟨w.heap.size, 6, none⟩ kv) (fun b => w.heap.size ≤ b) kv k ∧ Below w.heap.size w (((((((wr.setCell ⟨w.heap.size, 0, none⟩ (.int .i64 t.kind)).setCell ⟨w.heap.size, 1, none⟩ (.string t.text)).setCell ⟨w.heap.size, 2, none⟩ (.int .i64 t.int)).setCell ⟨w.heap.size, 3, none⟩ (.bool t.whole)).setCell ⟨w.heap.size, 4, none⟩ (.bool t.sign)).setCell ⟨w.heap.size, 5, none⟩ (.bool t.id)).setCell ⟨w.heap.size, 6, none⟩ kv) := by
  have G := Gw.put0 (Gw.refl w.heap.size wr) t kv
  refine ⟨?_, h.bel.trans (G.below (Nat.le_refl _) h.bel.size)⟩
  exact (h.row.rd.move (fun b hb hl => G.block b hl (by intro e; injection e; omega)) G.size).weak fun b _ hb => by omega
theorem NB.set6 {w : World} {b : Nat} {t : Tok} {u : Value} (h : NB w b t u) (u' : Value) : NB (w.setCell ⟨b, 6, none⟩ u') b t u' := by
 unfold NB at h ⊢
 rw [heap_setCell_same w b 6 _ _ u' h]
 rfl
theorem NB.setFar {w : World} {b c j : Nat} {t : Tok} {u : Value} (h : NB w b t u) (hc : b ≠ c) (x : Value) : NB (w.setCell ⟨c, j, none⟩ x) b t u := by
 unfold NB at h ⊢
 rw [Below.heap_setCell _ _ _ _ (by exact hc)]
 exact h
theorem node_any : ∀ (m : Nat) (ts : List Tok) (v : Value) (w : World) (a d : Nat), RdT w v ts → ts.length ≤ 10000000 → a < ts.length → ts.length - a ≤ m → 1 ≤ d → d ≤ a + 1 →
    Calls Tryz.prog 27 #[v, .int .i64 (a : Int), .int .i64 (d : Int)] w (NodePost w ts a d) := by
  intro m
  induction m with
  | zero => intro ts v w a d _ _ h1 h2; omega
  | succ m ih =>
   intro ts v w a d hv hl ha hm hd1 hd2
   have HV := Lib.hid hv
   obtain ⟨pa, c, rfl, hle, hcell⟩ := hv
   obtain ⟨b, rfl, hb, hc⟩ := hcell (by omega)
   clear hcell
   have HC := Lib.hid hc
   clear hc
   have IH := Lib.hid ih
   clear ih
   obtain ⟨i0, hi, hz0, hz1, hz2⟩ := info_parts info_node
   have hx0 : (0 : Int) ≤ (a : Int) := by omega
   have hx1 : (a : Int) < (ts.length : Int) := by omega
   go_enter Tryz.func27, Tryz.ntmps27
   go_upto_region 1 with fail
   have hB0 := (Below.refl w.heap.size w).alloc (Nat.le_refl _) (.cells #[.int .i64 0, .string ⟨#[]⟩, .int .i64 0, .bool false, .bool false, .bool false, .slice none 0 0] 96)
   have hR := NB.new w { kind := 0 } (.slice none 0 0)
   have hs1 : (w.alloc (.cells #[.int .i64 0, .string ⟨#[]⟩, .int .i64 0, .bool false, .bool false, .bool false, .slice none 0 0] 96)).heap.size = w.heap.size + 1 := by simp
   generalize w.alloc (.cells #[.int .i64 0, .string ⟨#[]⟩, .int .i64 0, .bool false, .bool false, .bool false, .slice none 0 0] 96) = w1 at *
   obtain ⟨p0, p1, p2, p3, p4, p5⟩ := cellsAt_of (w := w1) (fun j u hu => (hB0.cell (p := ⟨b, j, none⟩) hb).trans (HC.out j u hu)) ha
   have hdr : ts.drop a = ts[a] :: ts.drop (a + 1) := List.drop_eq_getElem_cons ha
   generalize ts[a] = t at *
   have HD := Lib.hid hdr
   clear hdr
   go_upto_region 2 with fail
   have hN1 := NB.new w1 t (.slice none 0 0)
   have hB1 := (Below.refl w1.heap.size w1).alloc (Nat.le_refl _) (.cells #[.int .i64 t.kind, .string t.text, .int .i64 t.int, .bool t.whole, .bool t.sign, .bool t.id, .slice none 0 0] 96)
   have hs2 : (w1.alloc (.cells #[.int .i64 t.kind, .string t.text, .int .i64 t.int, .bool t.whole, .bool t.sign, .bool t.id, .slice none 0 0] 96)).heap.size = w.heap.size + 2 := by simp [hs1]
   have hbl1 : b < w1.heap.size := by omega
   replace p0 := (hB1.cell (p := ⟨b, a * 6, none⟩) hbl1).trans p0
   replace p1 := (hB1.cell (p := ⟨b, a * 6 + 1, none⟩) hbl1).trans p1
   replace p2 := (hB1.cell (p := ⟨b, a * 6 + 2, none⟩) hbl1).trans p2
   replace p3 := (hB1.cell (p := ⟨b, a * 6 + 3, none⟩) hbl1).trans p3
   replace p4 := (hB1.cell (p := ⟨b, a * 6 + 4, none⟩) hbl1).trans p4
   replace p5 := (hB1.cell (p := ⟨b, a * 6 + 5, none⟩) hbl1).trans p5
   have hR1 := hR.below hB1 (by omega)
   have hB01 := hB0.trans (hB1.mono (by omega))
   rw [hs1] at hN1
   generalize w1.alloc (.cells #[.int .i64 t.kind, .string t.text, .int .i64 t.int, .bool t.whole, .bool t.sign, .bool t.id, .slice none 0 0] 96) = w2 at *
   obtain ⟨x, hx⟩ : ∃ x, cloB t = x := ⟨_, rfl⟩
   go_upto_region 3 with (go_at_call 42; refine (refcloses_is hx _).mono ?_; rintro e w3 ⟨rfl, hb3⟩)
   have HX := Lib.hid hx
   clear hx p0 p1 p2 p3 p4 p5
   have hR3 := hR1.below hb3 (by omega)
   have hN3 := hN1.below hb3 (by omega)
   have hB3 := hB01.trans (hb3.mono (by omega))
   have hs3 : w.heap.size + 2 ≤ w3.heap.size := by have := hb3.size; omega
   clear hB1 hB01 hB0 hR hR1 hN1 hb3
   by_cases hxe : x.toList.isEmpty = true
   · obtain ⟨m0, m1, m2, m3, m4, m5, m6⟩ := hN3.at
     obtain ⟨q0, q1, q2, q3, q4, q5, q6⟩ := hR3.at
     have qf := hR3.frz
     have qf0 := qf 0; have qf1 := qf 1; have qf2 := qf 2; have qf3 := qf 3; have qf4 := qf 4; have qf5 := qf 5; have qf6 := qf 6
     clear qf
     have HI := Lib.hid (show NodI w ts a d (a + 1) t w3 (.slice none 0 0) [] from ⟨by omega, by omega, hR3, hN3, RowN.nil _ _ _, Nat.zero_le _, blk_start _ _ _, hB3⟩)
     clear hR3 hN3
     go_wp2
     refine bodyPost_ret (v := .tuple #[nval t (.slice none 0 0), .int .i64 ((a : Int) + 1)]) ?_ rfl ?_
     · simp [results, Tryz.results27, go_sem, q0, q1, q2, q3, q4, q5, q6] <;> omega
     · exact ⟨⟨t, [], a + 1, _, rfl, by omega, by omega, by rw [HD.out]; exact step_leaf (by rw [HX.out]; exact hxe), (node_told HI.out).1⟩, (node_told HI.out).2⟩
   · have hxe : x.toList.isEmpty = false := by simpa using hxe
     have HXE := Lib.hid (show (cloB t).toList.isEmpty = false by rw [HX.out]; exact hxe)
     go_wp2
     clear hxe
     go_loopw [1] (fun pv wr => ∃ (p : Nat) (kv : Value) (k : List Nd), pv = .int .i64 p ∧ NodI w ts a d p t wr kv k) (fun pv _ => ts.length - (intOf pv).toNat)
     case atStart => exact ⟨a + 1, .slice none 0 0, [], rfl, by omega, by omega, hR3, hN3, RowN.nil _ _ _, Nat.zero_le _, blk_start _ _ _, hB3⟩
     case round =>
      obtain ⟨p, kv, k, rfl, hI⟩ := hrel
      clear hR3 hN3 hB3 hs3
      obtain ⟨ka, kc, hkv⟩ := hI.row.sl
      subst hkv
      have hple := hI.le
      have hpgt := hI.gt
      have hklen := hI.len
      have HI := Lib.hid hI
      clear hI
      have hy0 : (0 : Int) ≤ (p : Int) := by omega
      by_cases hlt : p < ts.length
      · have hy1 : (p : Int) < (ts.length : Int) := by omega
        obtain ⟨p0, p1, p2, p3, p4, p5⟩ := cellsAt_of (w := wr) (fun j u hu => (HI.out.bel.cell (p := ⟨b, j, none⟩) hb).trans (HC.out j u hu)) hlt
        have hdr : ts.drop p = ts[p] :: ts.drop (p + 1) := List.drop_eq_getElem_cons hlt
        generalize ts[p] = t2 at *
        have HD2 := Lib.hid hdr
        clear hdr
        by_cases hcl : clsB t t2 = true
        · have HCL := Lib.hid hcl
          unfold clsB at hcl
          rw [HX.out, Bool.and_eq_true] at hcl
          obtain ⟨hk20, htx⟩ := hcl
          have hk20 : (t2.kind == 20) = true := by simpa using hk20
          obtain ⟨m0, m1, m2, m3, m4, m5, m6⟩ := HI.out.var.at
          obtain ⟨q0, q1, q2, q3, q4, q5, q6⟩ := HI.out.res.at
          have qf := HI.out.res.frz
          have qf0 := qf 0; have qf1 := qf 1; have qf2 := qf 2; have qf3 := qf 3; have qf4 := qf 4; have qf5 := qf 5; have qf6 := qf 6
          clear qf
          go_wp2
          refine bodyPost_ret (v := .tuple #[nval t (.slice ka k.length kc), .int .i64 ((p : Int) + 1)]) ?_ rfl ?_
          · simp [results, Tryz.results27, go_sem, q0, q1, q2, q3, q4, q5, q6] <;> omega
          · exact ⟨⟨t, k, p + 1, _, rfl, by have := HI.out.gt; omega, by omega, by rw [HD.out]; exact step_close (by have h := HI.out.run; rw [HD2.out] at h; exact h) HXE.out HCL.out, (node_told HI.out).1⟩, (node_told HI.out).2⟩
        · have hcl : clsB t t2 = false := by simpa using hcl
          have HCL := Lib.hid hcl
          have hts : (t2.kind == 20) = false ∨ ((t2.kind == 20) = true ∧ (t2.text.toList == x.toList) = false) := by
           unfold clsB at hcl
           rw [HX.out] at hcl
           by_cases h : (t2.kind == 20) = true
           · right
             refine ⟨h, ?_⟩
             have h2 : decide (t2.kind = 20) = true := by simpa using h
             rw [h2, Bool.true_and] at hcl
             exact hcl
           · left; simpa using h
          clear hcl
          have IH2 := IH.out ts _ wr p (d + 1) (HV.out.below HI.out.bel) hl hlt (by omega) (by omega) (by omega)
          rw [show (((d + 1 : Nat)) : Int) = (d : Int) + 1 from rfl] at IH2
          have HIH := Lib.hid IH2
          clear IH2
          rcases hts with hk20 | ⟨hk20, htx⟩
          all_goals
            go_upto_region 10 with (go_at_call 27; refine HIH.out.mono ?_; rintro e w4 ⟨⟨t3, k3, nx, u3, rfl, hnx1, hnx2, hst, hr3⟩, hb4⟩; obtain ⟨ua, un, uc, hus⟩ := hr3.sl; subst hus)
            clear p0 p1 p2 p3 p4 p5
            have hN4 := NB.new w4 t3 (.slice ua un uc)
            have hB4 := (Below.refl w4.heap.size w4).alloc (Nat.le_refl _) (.cells #[.int .i64 t3.kind, .string t3.text, .int .i64 t3.int, .bool t3.whole, .bool t3.sign, .bool t3.id, .slice ua un uc] 96)
            have hb45 := below_seq hb4 hB4
            have hz5 : (w4.alloc (.cells #[.int .i64 t3.kind, .string t3.text, .int .i64 t3.int, .bool t3.whole, .bool t3.sign, .bool t3.id, .slice ua un uc] 96)).heap.size = w4.heap.size + 1 := by simp
            have hz4 := hb4.size
            have hzr := HI.out.bel.size
            have hzv := HI.out.var.lt
            have hr5 := (hr3.weak (Q := fun b => wr.heap.size ≤ b ∧ b < w4.heap.size) fun b hl' hb' => ⟨hb', hl'⟩).under hB4 (Nat.le_refl _)
            have hR5 := HI.out.res.below hb45 (by omega)
            have hV5 := HI.out.var.below hb45 hzv
            have hW5 := HI.out.row.below hb45
            have hbl := hW5.block
            have hB5 := HI.out.bel.trans (hb45.mono hzr)
            clear hb45 hb4 hr3
            generalize w4.alloc (.cells #[.int .i64 t3.kind, .string t3.text, .int .i64 t3.int, .bool t3.whole, .bool t3.sign, .bool t3.id, .slice ua un uc] 96) = w5 at *
            have HR5 := Lib.hid hR5
            have HV5 := Lib.hid hV5
            have HW5 := Lib.hid hW5
            have HB5 := Lib.hid hB5
            have HU5 := Lib.hid hr5
            have HST := Lib.hid hst
            clear hR5 hB5 hr5 hst
            by_cases hd32 : d < 32
            · have hd32i : (d : Int) < 32 := by omega
              have hAl := (Below.refl w5.heap.size w5).alloc (Nat.le_refl _) (.cells #[.int .i64 t3.kind, .string t3.text, .int .i64 t3.int, .bool t3.whole, .bool t3.sign, .bool t3.id, .slice ua un uc] 96)
              have hz6 : (w5.alloc (.cells #[.int .i64 t3.kind, .string t3.text, .int .i64 t3.int, .bool t3.whole, .bool t3.sign, .bool t3.id, .slice ua un uc] 96)).heap.size = w5.heap.size + 1 := by simp
              have hN6 := HV5.out.below hAl (by omega)
              have hR6 := HR5.out.below hAl (by omega)
              have hB6 := HB5.out.trans (hAl.mono (by omega))
              obtain ⟨fs, hf1, hf2⟩ := hW5.below hAl
              have hfl : fs.length = k.length := hf2.len
              have hU6 := (HU5.out.under hAl (Nat.le_refl _)).weak (Q := fun b => w.heap.size + 2 ≤ b ∧ (Value.slice ka k.length kc).ownBlock ≠ some b) fun b _ hb' => ⟨by omega, fun e => by have := (HI.out.row.block b e).2; omega⟩
              have HF1 := Lib.hid hf1
              have HF2 := Lib.hid hf2
              have HFL := Lib.hid hfl
              have HU6 := Lib.hid hU6
              have HN6 := Lib.hid hN6
              have HR6 := Lib.hid hR6
              have HB6 := Lib.hid hB6
              unfold RowF at hf1
              rw [hfl] at hf1
              obtain ⟨n0, n1, n2, n3, n4, n5, n6⟩ := hV5.at
              obtain ⟨e0, e1, e2, e3, e4, e5, e6⟩ := hN4.at
              have hkb : k.length ≤ 10000000 := by omega
              have HNEW := Lib.hid (show ∀ j x, (ncells (t3, .slice ua un uc))[j]? = some x → (w5.alloc (.cells #[.int .i64 t3.kind, .string t3.text, .int .i64 t3.int, .bool t3.whole, .bool t3.sign, .bool t3.id, .slice ua un uc] 96)).cell? ((⟨w4.heap.size + 1, 0, none⟩ : Addr).add j) = some x by rw [← hz5]; exact cell_seven_new w5 t3 (.slice ua un uc) _)
              clear hf2 hfl hU6 hN6 hR6 hB6 hW5 hV5 hN4
              go_upto_region 12 with (at_builtin; refine wpList_append_lies _ rfl _ _ 30 rfl (w.heap.size + 2) 96 i0 (.agg #[.int .i64 0, .string ⟨#[]⟩, .int .i64 0, .bool false, .bool false, .bool false, .slice none 0 0]) 7 64 Tryz.underlying30 hi hz0 hz1 hz2 rfl (by decide) (.slice ka k.length kc) k.length (fs.flatMap ncells) rfl hf1 ⟨_, 0, none⟩ 1 1 (ncells (t3, .slice ua un uc)) rfl rfl HNEW.out (ncells_one _ rfl) (by decide) (by unfold maxLen; omega) (by omega) (by simp; omega) _ rfl ?_; intro g cap w7 hown7 hgrow7 hat7 hlt7; have hN7 := HN6.out.far hgrow7 (fun e => by have := (hbl _ e).1; omega); obtain ⟨s0, s1, s2, s3, s4, s5, s6⟩ := hN7.at; have sf := hN7.frz 6)
              have HN7 := Lib.hid hN7
              have hR7 := HR6.out.far hgrow7 (fun e => by have := (hbl _ e).1; omega)
              have hW7 := RowN.push HF1.out HF2.out HFL.out hown7 hgrow7 hat7 HU6.out
              have hB7 := HB6.out.trans ⟨hgrow7.os, hgrow7.tape, hgrow7.output, hgrow7.size, fun i hi' => hgrow7.block i (by omega) fun e => by have := (hbl i e.symm).1; omega⟩
              have HR7 := Lib.hid hR7
              have HW7 := Lib.hid hW7
              have HB7 := Lib.hid hB7
              clear hR7 hW7 hB7 hown7 hgrow7 hat7 hN7 s0 s1 s2 s3 s4 s5 s6 sf n0 n1 n2 n3 n4 n5 n6 e0 e1 e2 e3 e4 e5 e6
              go_wp2
              go_roundw
              case rel =>
               refine ⟨nx, .slice (some ⟨g, 0, none⟩) (k.length + 1) cap, k ++ [.mk t3 k3], rfl, hnx2, by omega, HR7.out.setFar (by omega) _, HN7.out.set6 _, ?_, by rw [List.length_append]; simp; omega, ?_, HB7.out.setCell (by show w.heap.size ≤ w.heap.size + 1; omega) _⟩
               · exact HW7.out.gone (gb_set (gb_below (Below.refl _ w7) _) (.inl rfl) _) (fun b' e => by have e2 : w.heap.size + 1 = b' := Option.some.inj e; omega)
               · have h := blk_step (by have h := HI.out.run; rw [HD2.out] at h; exact h) HCL.out (by have h := HST.out; rw [HD2.out] at h; exact h)
                 rw [if_pos hd32] at h
                 exact h
              case measure => simp [intOf]; omega
            · have hd32i : ¬ (d : Int) < 32 := by omega
              clear hV5 hN4
              have HW5 := Lib.hid hW5
              clear hW5
              go_wp2
              go_roundw
              case rel =>
               refine ⟨nx, .slice ka k.length kc, k, rfl, hnx2, by omega, HR5.out, HV5.out, HW5.out, by omega, ?_, HB5.out⟩
               have h := blk_step (by have h := HI.out.run; rw [HD2.out] at h; exact h) HCL.out (by have h := HST.out; rw [HD2.out] at h; exact h)
               rw [if_neg hd32] at h
               exact h
              case measure => simp [intOf]; omega
      · have hpe : p = ts.length := by omega
        have hnlt : ¬ (p : Int) < (ts.length : Int) := by omega
        have hdn : ts.drop p = [] := List.drop_eq_nil_of_le (by omega)
        have HDN := Lib.hid hdn
        clear hdn
        obtain ⟨m0, m1, m2, m3, m4, m5, m6⟩ := HI.out.var.at
        obtain ⟨q0, q1, q2, q3, q4, q5, q6⟩ := HI.out.res.at
        have qf := HI.out.res.frz
        have qf0 := qf 0; have qf1 := qf 1; have qf2 := qf 2; have qf3 := qf 3; have qf4 := qf 4; have qf5 := qf 5; have qf6 := qf 6
        clear qf
        go_wp2
        refine bodyPost_ret (v := .tuple #[nval t (.slice ka k.length kc), .int .i64 ((p : Int))]) ?_ rfl ?_
        · simp [results, Tryz.results27, go_sem, q0, q1, q2, q3, q4, q5, q6] <;> omega
        · exact ⟨⟨t, k, p, _, rfl, by have := HI.out.gt; omega, by omega, by rw [HD.out]; exact (by have h := HI.out.run; rw [HDN.out] at h ⊢; exact step_end h HXE.out), (node_told HI.out).1⟩, (node_told HI.out).2⟩
theorem refnodes_any (w : World) (ts : List Tok) (v : Value) (hv : RdT w v ts) (hl : ts.length ≤ 10000000) :
    Calls Tryz.prog 15 #[v] w (NodesPost w (ndsS ts)) := by
  obtain ⟨i0, hi, hz0, hz1, hz2⟩ := info_parts info_node
  have HV := Lib.hid hv
  obtain ⟨pa, c, rfl, hle, hcell⟩ := hv
  clear hcell
  go_enter Tryz.func15, Tryz.ntmps15
  go_wp2
  go_loopw [3, 4] (fun av pv wr => ∃ (p : Nat) (l : List Nd), pv = .int .i64 p ∧ AllI w ts p wr av l) (fun _ pv _ => ts.length - (intOf pv).toNat)
  case atStart => exact ⟨0, [], rfl, Nat.zero_le _, RowN.nil _ _ _, Nat.le_refl _, rfl, Below.refl _ _⟩
  case round =>
   obtain ⟨p, l, rfl, hI⟩ := hrel
   have HI := Lib.hid hI
   obtain ⟨ka, kc, hav⟩ := hI.row.sl
   subst hav
   have hple := hI.le
   have hllen := hI.len
   clear hI
   by_cases hlt : p < ts.length
   · have hn := node_any _ ts _ wr p 1 (HV.out.below HI.out.bel) hl hlt (Nat.le_refl _) (Nat.le_refl _) (by omega)
     rw [show (((1 : Nat)) : Int) = 1 from rfl] at hn
     have HNO := Lib.hid hn
     clear hn
     go_upto_region 5 with (go_at_call 27; refine HNO.out.mono ?_; rintro e w4 ⟨⟨t3, k3, nx, u3, rfl, hnx1, hnx2, hst, hr3⟩, hb4⟩; obtain ⟨ua, un, uc, hus⟩ := hr3.sl; subst hus)
     have hN4 := NB.new w4 t3 (.slice ua un uc)
     have hB4 := (Below.refl w4.heap.size w4).alloc (Nat.le_refl _) (.cells #[.int .i64 t3.kind, .string t3.text, .int .i64 t3.int, .bool t3.whole, .bool t3.sign, .bool t3.id, .slice ua un uc] 96)
     have hb45 := below_seq hb4 hB4
     have hz5 : (w4.alloc (.cells #[.int .i64 t3.kind, .string t3.text, .int .i64 t3.int, .bool t3.whole, .bool t3.sign, .bool t3.id, .slice ua un uc] 96)).heap.size = w4.heap.size + 1 := by simp
     have hz4 := hb4.size
     have hzr := HI.out.bel.size
     have hr5 := (hr3.weak (Q := fun b => wr.heap.size ≤ b ∧ b < w4.heap.size) fun b hl' hb' => ⟨hb', hl'⟩).under hB4 (Nat.le_refl _)
     have hW5 := HI.out.row.below hb45
     have hB5 := HI.out.bel.trans (hb45.mono hzr)
     clear hb45 hb4 hr3
     generalize w4.alloc (.cells #[.int .i64 t3.kind, .string t3.text, .int .i64 t3.int, .bool t3.whole, .bool t3.sign, .bool t3.id, .slice ua un uc] 96) = w5 at *
     have HU5 := Lib.hid hr5
     have HST := Lib.hid (step_top hst)
     clear hr5 hst
     have hAl := (Below.refl w5.heap.size w5).alloc (Nat.le_refl _) (.cells #[.int .i64 t3.kind, .string t3.text, .int .i64 t3.int, .bool t3.whole, .bool t3.sign, .bool t3.id, .slice ua un uc] 96)
     have hB6 := hB5.trans (hAl.mono (by omega))
     have hbl := (hW5.below hAl).block
     obtain ⟨fs, hf1, hf2⟩ := hW5.below hAl
     have hfl : fs.length = l.length := hf2.len
     have hU6 := (HU5.out.under hAl (Nat.le_refl _)).weak (Q := fun b => w.heap.size ≤ b ∧ (Value.slice ka l.length kc).ownBlock ≠ some b) fun b _ hb' => ⟨by omega, fun e => by have := (HI.out.row.block b e).2; omega⟩
     have HF1 := Lib.hid hf1
     have HF2 := Lib.hid hf2
     have HFL := Lib.hid hfl
     have HU6 := Lib.hid hU6
     have HB6 := Lib.hid hB6
     unfold RowF at hf1
     rw [hfl] at hf1
     obtain ⟨e0, e1, e2, e3, e4, e5, e6⟩ := hN4.at
     have HNEW := Lib.hid (show ∀ j x, (ncells (t3, .slice ua un uc))[j]? = some x → (w5.alloc (.cells #[.int .i64 t3.kind, .string t3.text, .int .i64 t3.int, .bool t3.whole, .bool t3.sign, .bool t3.id, .slice ua un uc] 96)).cell? ((⟨w4.heap.size + 1, 0, none⟩ : Addr).add j) = some x by rw [← hz5]; exact cell_seven_new w5 t3 (.slice ua un uc) _)
     clear hf2 hfl hU6 hB6 hW5 hN4 hB5
     go_wp2_with (at_builtin; refine wpList_append_lies _ rfl _ _ 30 rfl w.heap.size 96 i0 (.agg #[.int .i64 0, .string ⟨#[]⟩, .int .i64 0, .bool false, .bool false, .bool false, .slice none 0 0]) 7 64 Tryz.underlying30 hi hz0 hz1 hz2 rfl (by decide) (.slice ka l.length kc) l.length (fs.flatMap ncells) rfl hf1 ⟨_, 0, none⟩ 1 1 (ncells (t3, .slice ua un uc)) rfl rfl HNEW.out (ncells_one _ rfl) (by decide) (by unfold maxLen; omega) (by omega) (by simp; omega) _ rfl ?_; intro g cap w7 hown7 hgrow7 hat7 hlt7)
     go_roundw
     case rel =>
      refine ⟨nx, l ++ [.mk t3 k3], rfl, hnx2, RowN.push HF1.out HF2.out HFL.out hown7 hgrow7 hat7 HU6.out, by rw [List.length_append]; simp; omega, ?_, ?_⟩
      · have h := HI.out.run
        have hc : ts.drop p = ts[p] :: ts.drop (p + 1) := List.drop_eq_getElem_cons hlt
        have h2 := HST.out
        rw [hc] at h h2
        rw [ndsS_cons, h2] at h
        rw [List.append_assoc]
        exact h
      · exact HB6.out.trans ⟨hgrow7.os, hgrow7.tape, hgrow7.output, hgrow7.size, fun i hi' => hgrow7.block i (by have := hAl.size; omega) fun e => by have := (hbl i e.symm).1; omega⟩
     case measure => simp [intOf]; omega
   · have hd : ts.drop p = [] := List.drop_eq_nil_of_le (by omega)
     have hrun := HI.out.run
     rw [hd] at hrun
     have e0 : ndsS [] = [] := by unfold ndsS; rfl
     rw [e0, List.append_nil] at hrun
     have HRUN := Lib.hid hrun
     clear hrun hd e0
     go_wp2
     go_ret
     refine ⟨⟨_, rfl, ?_⟩, HI.out.bel⟩
     rw [← HRUN.out]
     exact HI.out.row.rd.weak fun b _ hb => by rcases hb with h | h <;> exact h
end Go.Proofs.YtclicjiakkcfcaaGreatDoor
