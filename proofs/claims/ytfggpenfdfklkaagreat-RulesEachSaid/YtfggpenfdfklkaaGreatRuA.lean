
import Derived.Test.YtfggpenfdfklkaaGreatRuQ
import Derived.Deep.RegionHeld3
import Derived.BigRegion
import Derived.Deep.Cut
import Derived.Deep.CutBlock
import Derived.Deep.RegionLaw
import Derived.Test.YtfggpenfdfklkaaGreatTkA
import Derived.Test.YtfggpenfdfklkaaGreatPtsF
namespace Go.Proofs.YtfggpenfdfklkaaGreat
open Go.RowKit
/-! Package rules: what one node is. -/
abbrev nodC (t : Tok) (u : Value) : Array Value := #[.int .i64 t.kind, .string t.text, .int .i64 t.int, .bool t.whole, .bool t.sign, .bool t.id, u]
theorem bx7 (w : World) (t : Tok) (u : Value) : Below w.heap.size w (w.alloc (.cells (nodC t u) 49)) := (Below.refl w.heap.size w).alloc (Nat.le_refl _) _
structure B7 (w : World) (b : Nat) (t : Tok) (u : Value) : Prop where
  blk : w.heap[b]? = some (.cells (nodC t u) 49 (0, 0))
theorem CB.new7 (w : World) (t : Tok) (u : Value) : B7 (w.alloc (.cells (nodC t u) 49)) w.heap.size t u := ⟨heap_alloc_self _ _⟩
theorem B7.below7 {w w' : World} {b : Nat} {t : Tok} {u : Value} (h : B7 w b t u) (hb : Below w.heap.size w w') (i : Nat) : w'.cell? ⟨b, i, none⟩ = (nodC t u)[i]? := by
  have hl : b < w.heap.size := (Array.getElem?_eq_some_iff.1 h.blk).1
  exact cell_of_row w' b i _ _ (0, 0) ((hb.block b hl).trans h.blk)
/-- A function that tells one thing of a node. -/
def KindOk (f : Nat) (p : Tok → Bool) : Prop := ∀ (t : Tok) (a : Option Addr) (n c : Nat) (w : World), t.text.size ≤ 1000000000 →
  Calls Tryz.prog f #[nval t (.slice a n c)] w fun e w' => e = .returned (.bool (p t)) ∧ Below w.heap.size w w'
theorem whT_is (t : Tok) : whT t = (t.kind == 13) := by
  unfold whT
  cases h : (t.kind == 13)
  · exact decide_eq_false (by simpa using h)
  · exact decide_eq_true (by simpa using h)
set_option maxRecDepth 100000 in
set_option maxHeartbeats 1600000 in
theorem white_k : KindOk 61 whT := fun t a n c w _ => by
  have hb := bx7 w t (.slice a n c)
  have HS : Hid (whT t = (t.kind == 13)) := whT_is t
  generalize whT t = R at *
  go_enter Tryz.func61, Tryz.ntmps61
  go_wp2
  go_ret
  exact ⟨ret_bool HS.out.symm, hb⟩
set_option maxRecDepth 100000 in
set_option maxHeartbeats 1600000 in
theorem atw_k : KindOk 41 awT := fun t a n c w _ => by
  have hb := bx7 w t (.slice a n c)
  have HS : Hid (awT t = (t.kind == 3)) := rfl
  generalize awT t = R at *
  go_enter Tryz.func41, Tryz.ntmps41
  go_wp2
  go_ret
  exact ⟨ret_bool HS.out.symm, hb⟩
set_option maxRecDepth 100000 in
set_option maxHeartbeats 1600000 in
theorem ident_k : KindOk 62 idT := fun t a n c w _ => by
  have hb := bx7 w t (.slice a n c)
  have HS : Hid (idT t = (t.kind == 1)) := rfl
  generalize idT t = R at *
  go_enter Tryz.func62, Tryz.ntmps62
  go_wp2
  go_ret
  exact ⟨ret_bool HS.out.symm, hb⟩
set_option maxRecDepth 100000 in
set_option maxHeartbeats 1600000 in
theorem colon_k : KindOk 64 coT := fun t a n c w _ => by
  have hb := bx7 w t (.slice a n c)
  have HS : Hid (coT t = (t.kind == 16)) := rfl
  generalize coT t = R at *
  go_enter Tryz.func64, Tryz.ntmps64
  go_wp2
  go_ret
  exact ⟨ret_bool HS.out.symm, hb⟩
set_option maxRecDepth 100000 in
set_option maxHeartbeats 1600000 in
theorem semi_k : KindOk 45 semT := fun t a n c w _ => by
  have hb := bx7 w t (.slice a n c)
  have HS : Hid (semT t = (t.kind == 17)) := rfl
  generalize semT t = R at *
  go_enter Tryz.func45, Tryz.ntmps45
  go_wp2
  go_ret
  exact ⟨ret_bool HS.out.symm, hb⟩
set_option maxRecDepth 100000 in
set_option maxHeartbeats 1600000 in
theorem block_k : KindOk 55 blkT := fun t a n c w _ => by
  have hb := bx7 w t (.slice a n c)
  have HS : Hid (blkT t = ((t.kind == 19) && (t.text.toList == [123]))) := rfl
  generalize blkT t = R at *
  cases h1 : (t.kind == 19)
  · have HR : Hid (R = false) := by show _ = _; rw [HS.out, h1]; rfl
    go_enter Tryz.func55, Tryz.ntmps55
    go_wp2
    go_ret
    exact ⟨ret_bool HR.out.symm, hb⟩
  · have HR : Hid (R = (t.text.toList == [123])) := by show _ = _; rw [HS.out, h1]; rfl
    go_enter Tryz.func55, Tryz.ntmps55
    go_wp2
    go_ret
    exact ⟨ret_bool HR.out.symm, hb⟩
set_option maxRecDepth 100000 in
set_option maxHeartbeats 1600000 in
theorem excl_k : KindOk 38 bangB := fun t a n c w _ => by
  have hb := bx7 w t (.slice a n c)
  have HS : Hid (bangB t = ((t.kind == 9) && (t.text.toList == [33]))) := rfl
  generalize bangB t = R at *
  cases h1 : (t.kind == 9)
  · have HR : Hid (R = false) := by show _ = _; rw [HS.out, h1]; rfl
    go_enter Tryz.func38, Tryz.ntmps38
    go_wp2
    go_ret
    exact ⟨ret_bool HR.out.symm, hb⟩
  · have HR : Hid (R = (t.text.toList == [33])) := by show _ = _; rw [HS.out, h1]; rfl
    go_enter Tryz.func38, Tryz.ntmps38
    go_wp2
    go_ret
    exact ⟨ret_bool HR.out.symm, hb⟩
set_option maxRecDepth 100000 in
set_option maxHeartbeats 1600000 in
theorem eat_k : KindOk 57 eaT := fun t a n c w ht => by
  have hb := bx7 w t (.slice a n c)
  have HX := Lib.hid (CB.new7 w t (.slice a n c))
  have HS : Hid (eaT t = (semT t || blkT t)) := rfl
  have H1 := Lib.hid semi_k
  have H2 := Lib.hid block_k
  generalize eaT t = R at *
  cases h1 : semT t
  · have HR : Hid (R = blkT t) := by show _ = _; rw [HS.out, h1]; rfl
    go_enter Tryz.func57, Tryz.ntmps57
    go_wp2_with (first | (go_at_call 45; refine (H1.out t a n c _ ht).mono ?_; rintro e w1 ⟨rfl, hb1⟩; rw [h1]; have HX1 := HX.out.below7 hb1; have d0 := HX1 0; have d1 := HX1 1; have d2 := HX1 2; have d3 := HX1 3; have d4 := HX1 4; have d5 := HX1 5; have d6 := HX1 6; dsimp only [nodC] at d0 d1 d2 d3 d4 d5 d6; simp only [List.getElem?_toArray, List.getElem?_cons_zero, List.getElem?_cons_succ] at d0 d1 d2 d3 d4 d5 d6) | (go_at_call 55; refine (H2.out t a n c _ ht).mono ?_; rintro e w2 ⟨rfl, hb2⟩))
    go_ret
    exact ⟨ret_bool HR.out.symm, below_seq (below_seq hb hb1) hb2⟩
  · have HR : Hid (R = true) := by show _ = _; rw [HS.out, h1]; rfl
    go_enter Tryz.func57, Tryz.ntmps57
    go_wp2_with (go_at_call 45; refine (H1.out t a n c _ ht).mono ?_; rintro e w1 ⟨rfl, hb1⟩; rw [h1])
    go_ret
    exact ⟨ret_bool HR.out.symm, below_seq hb hb1⟩
end Go.Proofs.YtfggpenfdfklkaaGreat
namespace Go.Proofs.YtfggpenfdfklkaaGreat
open Go.RowKit
/-! The walk over nodes: its place. -/
structure WK (w : World) (b : Nat) (v : Value) (i : Nat) : Prop where
  blk : w.heap[b]? = some (.cells #[v, .int .i64 (i : Int)] 62 (0, 0))
section
variable {w w' : World} {b : Nat} {v : Value} {i : Nat}
theorem WK.lt (h : WK w b v i) : b < w.heap.size := (Array.getElem?_eq_some_iff.1 h.blk).1
theorem WK.c0 (h : WK w b v i) : w.cell? ⟨b, 0, none⟩ = some v := cell_of_row w b 0 _ _ (0, 0) h.blk
theorem WK.c1 (h : WK w b v i) : w.cell? ⟨b, 1, none⟩ = some (.int .i64 (i : Int)) := cell_of_row w b 1 _ _ (0, 0) h.blk
theorem WK.f1 (h : WK w b v i) : w.frozen? ⟨b, 1, none⟩ = false := frozen_of_row w b 1 _ _ h.blk
theorem WK.below (h : WK w b v i) (hb : Below w.heap.size w w') : WK w' b v i := ⟨(hb.block b h.lt).trans h.blk⟩
theorem WK.drew (h : WK w b v i) : WK w.drew b v i := ⟨h.blk⟩
theorem WK.put (h : WK w b v i) (j : Nat) : WK (w.setCell ⟨b, 1, none⟩ (.int .i64 (j : Int))) b v j := ⟨by
  have := h.blk
  simp [World.setCell, Array.getElem?_modify, this]⟩
end
set_option maxRecDepth 100000 in
set_option maxHeartbeats 1600000 in
theorem ended_yes {w : World} {b : Nat} {a : Option Addr} {N c : Nat} (h : WK w b (.slice a N c) N) : Calls Tryz.prog 27 #[.pointer (some ⟨b, 0, none⟩)] w fun e w' => e = .returned (.bool true) ∧ w' = w.drew := by
  have c0 := h.c0
  have c1 := h.c1
  clear h
  go_enter Tryz.func27, Tryz.ntmps27
  go_upto_region 1 with fail
  go_region
  all_goals go_wp2
  all_goals go_ret
  all_goals exact ⟨rfl, rfl⟩
set_option maxRecDepth 100000 in
set_option maxHeartbeats 1600000 in
theorem ended_no {w : World} {b : Nat} {a : Option Addr} {N c i : Nat} (h : WK w b (.slice a N c) i) (hi : i < N) : Calls Tryz.prog 27 #[.pointer (some ⟨b, 0, none⟩)] w fun e w' => e = .returned (.bool false) ∧ w' = w.drew := by
  have c0 := h.c0
  have c1 := h.c1
  have he : ((i : Int) == (N : Int)) = false := beq_eq_false_iff_ne.2 (by omega)
  have he2 : ¬ (i : Int) = (N : Int) := by omega
  clear h hi
  go_enter Tryz.func27, Tryz.ntmps27
  go_upto_region 1 with fail
  go_region
  all_goals go_wp2
  all_goals go_ret
  all_goals exact ⟨by simp, rfl⟩
set_option maxRecDepth 100000 in
set_option maxHeartbeats 3200000 in
theorem at_any {f : Nat} {p : Tok → Bool} {w : World} {P : Nat → Prop} {b : Nat} {v : Value} {l : List Nd} {i : Nat} (he : ∀ (args : Array Value) (w : World), (callFunc f args).run Tryz.prog w = .ok (.enter f args) w) (hk : KindOk f p) (h : WK w b v i) (hr : RdN w P v l) (hi : i ≤ l.length) (hx : ∀ n ∈ l, n.tok.text.size ≤ 1000000000) :
    Calls Tryz.prog 40 #[.pointer (some ⟨b, 0, none⟩), .func (.func f) #[] #[]] w fun e w' => e = .returned (.bool (atP p l i)) ∧ Below w.heap.size w w' := by
  obtain ⟨a, c, rfl, _⟩ := hr.shape
  rcases Nat.lt_or_eq_of_le hi with hlt | rfl
  · obtain ⟨g, off, c2, hv2, _, _, hbl, g1⟩ := hr.base (by omega)
    injection hv2 with e1 _ e3
    subst e1 e3
    obtain ⟨u, hat, hku⟩ := g1 i hlt
    have hxt := hx _ (List.getElem_mem hlt)
    have HA : Hid (atP p l i = p l[i].tok) := atP_lt hlt
    have HE := Lib.hid (fun (W : World) (hW : WK W b (.slice (some ⟨g, off, none⟩) l.length c) i) => ended_no hW hlt)
    generalize l[i] = nd at *
    obtain ⟨t, k⟩ := nd
    obtain ⟨ua, uc, rfl, _⟩ := hku.shape
    obtain ⟨p0, p1, p2, p3, p4, p5, p6⟩ := hat
    simp only [Nd.tok, Nd.kids] at p0 p1 p2 p3 p4 p5 p6 HA hxt
    have HK := Lib.hid (fun (W : World) => hk t ua k.length uc W hxt)
    have HW := Lib.hid h
    have c0 := h.c0
    have c1 := h.c1
    have hbw := h.lt
    have hi0 : (0 : Int) ≤ (i : Int) := by omega
    have hi1 : (i : Int) < (l.length : Int) := by omega
    clear hk h hr g1 hku hx hxt
    generalize l.length = N at *
    go_enter Tryz.func40, Tryz.ntmps40
    go_upto_region 1 with fail
    go_region_held3 (fun w' => w'.cell? ⟨b, 0, none⟩ = some (.slice (some ⟨g, off, none⟩) N c) ∧ w'.cell? ⟨b, 1, none⟩ = some (.int .i64 (i : Int)) ∧ w'.cell? ⟨g, off + i * 7, none⟩ = some (.int .i64 t.kind) ∧ w'.cell? ⟨g, off + i * 7 + 1, none⟩ = some (.string t.text) ∧ w'.cell? ⟨g, off + i * 7 + 2, none⟩ = some (.int .i64 t.int) ∧ w'.cell? ⟨g, off + i * 7 + 3, none⟩ = some (.bool t.whole) ∧ w'.cell? ⟨g, off + i * 7 + 4, none⟩ = some (.bool t.sign) ∧ w'.cell? ⟨g, off + i * 7 + 5, none⟩ = some (.bool t.id) ∧ w'.cell? ⟨g, off + i * 7 + 6, none⟩ = some (.slice ua k.length uc)) (first | go_keep | exact ⟨(hb4.cell (p := ⟨b, 0, none⟩) hbw).trans c0, (hb4.cell (p := ⟨b, 1, none⟩) hbw).trans c1, (hb4.cell (p := ⟨g, off + i * 7, none⟩) hbl).trans p0, (hb4.cell (p := ⟨g, off + i * 7 + 1, none⟩) hbl).trans p1, (hb4.cell (p := ⟨g, off + i * 7 + 2, none⟩) hbl).trans p2, (hb4.cell (p := ⟨g, off + i * 7 + 3, none⟩) hbl).trans p3, (hb4.cell (p := ⟨g, off + i * 7 + 4, none⟩) hbl).trans p4, (hb4.cell (p := ⟨g, off + i * 7 + 5, none⟩) hbl).trans p5, (hb4.cell (p := ⟨g, off + i * 7 + 6, none⟩) hbl).trans p6⟩) (first | (go_at_call 27; refine (HE.out _ (by first | exact HW.out | exact HW.out.drew)).mono ?_; rintro e w3 ⟨rfl, rfl⟩) | (refine (HK.out _).mono ?_; rintro e w4 ⟨rfl, hb4⟩))
    all_goals go_wp2
    all_goals go_ret
    all_goals exact ⟨ret_bool HA.out.symm, below_seq ((Below.refl w.heap.size w).drew.drew) hb4⟩
  · have HA : Hid (atP p l l.length = false) := atP_ge (Nat.le_refl _)
    have HE := Lib.hid (fun (W : World) (hW : WK W b (.slice a l.length c) l.length) => ended_yes hW)
    have HW := Lib.hid h
    have c0 := h.c0
    have c1 := h.c1
    clear hk h hr he hx
    generalize atP p l l.length = R at *
    generalize l.length = N at *
    go_enter Tryz.func40, Tryz.ntmps40
    go_upto_region 1 with fail
    have hS0 : (fun w' : World => w'.cell? ⟨b, 0, none⟩ = some (.slice a N c)) w.drew := c0
    refine wp_region_held_drew (S := (fun w' : World => w'.cell? ⟨b, 0, none⟩ = some (.slice a N c))) (by kernel_rfl) hS0 (fun hHeld => ?_)
    refine wpAnyH_take (i := 0) (oi := _) (v := ?_) rfl (by kernel_rfl) (by kernel_rfl) (by kernel_rfl) (fun _ _ _ h => h) (Or.inl ⟨by rfl, ?hyQ⟩) (by assumption) ?_
    case hyQ => (intro wq hSw; (try dsimp only at hSw); go_simp; try (with_reducible rfl))
    try simp only [Act.put, List.setIfInBounds_toArray]
    refine wpAnyH_ready (rs := [1]) (by kernel_rfl) (by simp) ?_
    refine AllReadyH.cons rfl (fun K hK => ?_) AllReadyH.nil
    rw [if_pos (by rfl)]
    go_simp
    go_at_call 27
    refine (HE.out _ HW.out.drew).mono ?_
    rintro e w3 ⟨rfl, rfl⟩
    refine hK.out _ _ (show _ from hS0) (fun hHeld2 => ?_)
    clear hK K
    refine wpAnyH_take (i := 2) (oi := _) (v := ?_) rfl (by kernel_rfl) (by kernel_rfl) (by kernel_rfl) (fun _ _ _ h => h) (Or.inl ⟨by rfl, ?hyQ⟩) (by assumption) ?_
    case hyQ => (intro wq hSw; (try dsimp only at hSw); go_simp; try (with_reducible rfl))
    try simp only [Act.put, List.setIfInBounds_toArray]
    refine wpAnyH_take (i := 3) (oi := _) (v := ?_) rfl (by kernel_rfl) (by kernel_rfl) (by kernel_rfl) (fun _ _ _ h => h) (Or.inl ⟨by rfl, ?hyQ⟩) (by assumption) ?_
    case hyQ => (intro wq hSw; (try dsimp only at hSw); go_simp; try (with_reducible rfl))
    try simp only [Act.put]
    refine wpAnyH_take (i := 4) (oi := _) (v := undef) rfl (by kernel_rfl) (by kernel_rfl) (by kernel_rfl) (fun _ _ _ h => h) (Or.inr ⟨by kernel_rfl, rfl⟩) (by assumption) ?_
    try simp only [Act.put]
    refine wpAnyH_take (i := 5) (oi := _) (v := undef) rfl (by kernel_rfl) (by kernel_rfl) (by kernel_rfl) (fun _ _ _ h => h) (Or.inr ⟨by kernel_rfl, rfl⟩) (by assumption) ?_
    try simp only [Act.put]
    refine wpAnyH_take (i := 6) (oi := _) (v := undef) rfl (by kernel_rfl) (by kernel_rfl) (by kernel_rfl) (fun _ _ _ h => h) (Or.inr ⟨by kernel_rfl, rfl⟩) (by assumption) ?_
    try simp only [Act.put]
    refine wpAnyH_take (i := 7) (oi := _) (v := undef) rfl (by kernel_rfl) (by kernel_rfl) (by kernel_rfl) (fun _ _ _ h => h) (Or.inr ⟨by kernel_rfl, rfl⟩) (by assumption) ?_
    try simp only [Act.put]
    refine wpAnyH_take (i := 8) (oi := _) (v := undef) rfl (by kernel_rfl) (by kernel_rfl) (by kernel_rfl) (fun _ _ _ h => h) (Or.inr ⟨by kernel_rfl, rfl⟩) (by assumption) ?_
    try simp only [Act.put]
    refine wpAnyH_take (i := 9) (oi := _) (v := undef) rfl (by kernel_rfl) (by kernel_rfl) (by kernel_rfl) (fun _ _ _ h => h) (Or.inr ⟨by kernel_rfl, rfl⟩) (by assumption) ?_
    try simp only [Act.put]
    refine wpAnyH_take (i := 10) (oi := _) (v := undef) rfl (by kernel_rfl) (by kernel_rfl) (by kernel_rfl) (fun _ _ _ h => h) (Or.inr ⟨by kernel_rfl, rfl⟩) (by assumption) ?_
    try simp only [Act.put]
    refine wpAnyH_take (i := 11) (oi := _) (v := undef) rfl (by kernel_rfl) (by kernel_rfl) (by kernel_rfl) (fun _ _ _ h => h) (Or.inr ⟨by kernel_rfl, rfl⟩) (by assumption) ?_
    try simp only [Act.put]
    refine wpAnyH_take (i := 12) (oi := _) (v := undef) rfl (by kernel_rfl) (by kernel_rfl) (by kernel_rfl) (fun _ _ _ h => h) (Or.inr ⟨by kernel_rfl, rfl⟩) (by assumption) ?_
    try simp only [Act.put]
    refine wpAnyH_take (i := 13) (oi := _) (v := undef) rfl (by kernel_rfl) (by kernel_rfl) (by kernel_rfl) (fun _ _ _ h => h) (Or.inr ⟨by kernel_rfl, rfl⟩) (by assumption) ?_
    try simp only [Act.put]
    refine wpAnyH_take (i := 14) (oi := _) (v := undef) rfl (by kernel_rfl) (by kernel_rfl) (by kernel_rfl) (fun _ _ _ h => h) (Or.inr ⟨by kernel_rfl, rfl⟩) (by assumption) ?_
    try simp only [Act.put]
    refine wpAnyH_take (i := 15) (oi := _) (v := undef) rfl (by kernel_rfl) (by kernel_rfl) (by kernel_rfl) (fun _ _ _ h => h) (Or.inr ⟨by kernel_rfl, rfl⟩) (by assumption) ?_
    try simp only [Act.put]
    refine wpAnyH_take (i := 16) (oi := _) (v := ?_) rfl (by kernel_rfl) (by kernel_rfl) (by kernel_rfl) (fun _ _ _ h => h) (Or.inl ⟨by rfl, ?hyQ⟩) (by assumption) ?_
    case hyQ => (intro wq hSw; (try dsimp only at hSw); go_simp; try (with_reducible rfl))
    try simp only [Act.put]
    refine wpAnyH_take (i := 17) (oi := _) (v := ?_) rfl (by kernel_rfl) (by kernel_rfl) (by kernel_rfl) (fun _ _ _ h => h) (Or.inl ⟨by rfl, ?hyQ⟩) (by assumption) ?_
    case hyQ => (intro wq hSw; (try dsimp only at hSw); go_simp; try (with_reducible rfl))
    try simp only [Act.put]
    refine wpAnyH_done (by kernel_rfl) ?_ _
    go_wp2
    go_ret
    exact ⟨ret_bool HA.out.symm, (Below.refl w.heap.size w).drew.drew⟩
end Go.Proofs.YtfggpenfdfklkaaGreat
namespace Go.Proofs.YtfggpenfdfklkaaGreat
open Go.RowKit
/-! The walk over nodes: on. -/
structure WN (P : Nat → Prop) (w0 : World) (b : Nat) (v : Value) (l : List Nd) (i : Nat) (w : World) : Prop where
  wk : WK w b v i
  gw : Gw b w0 w
  old : b < w0.heap.size
  rd : RdN w0 P v l
  ne : ∀ k, P k → k ≠ b
  le : i ≤ l.length
def leftN (b N : Nat) (w : World) : Nat := N - (match w.cell? ⟨b, 1, none⟩ with | some (.int _ n) => n.toNat | _ => 0)
section
variable {P : Nat → Prop} {w0 w w' : World} {b : Nat} {v : Value} {l : List Nd} {i : Nat}
theorem WN.rdw (h : WN P w0 b v l i w) : RdN w P v l := h.rd.move (fun k hk hl => h.gw.block k hl (fun e => h.ne k hk (Option.some.inj e))) h.gw.size
theorem WN.left (h : WN P w0 b v l i w) : leftN b l.length w = l.length - i := by
  unfold leftN
  rw [h.wk.c1]
  simp
theorem Gw.belowN {w0 w w' : World} (h : Gw b w0 w) (hb : Below w.heap.size w w') : Gw b w0 w' :=
  ⟨hb.os.trans h.os, hb.tape.trans h.tape, hb.output.trans h.output, Nat.le_trans h.size hb.size, fun k hk hne => (hb.block k (Nat.lt_of_lt_of_le hk h.size)).trans (h.block k hk hne)⟩
theorem WN.below (h : WN P w0 b v l i w) (hb : Below w.heap.size w w') : WN P w0 b v l i w' :=
  ⟨h.wk.below hb, h.gw.belowN hb, h.old, h.rd, h.ne, h.le⟩
theorem WN.drew (h : WN P w0 b v l i w) : WN P w0 b v l i w.drew := h.below (Below.refl w.heap.size w).drew
theorem WN.put (h : WN P w0 b v l i w) (j : Nat) (hj : j ≤ l.length) : WN P w0 b v l j (w.setCell ⟨b, 1, none⟩ (.int .i64 (j : Int))) :=
  ⟨h.wk.put j, h.gw.set (p := ⟨b, 1, none⟩) (Or.inl rfl) _, h.old, h.rd, h.ne, hj⟩
end
theorem atN {f : Nat} {p : Tok → Bool} {P : Nat → Prop} {w0 w : World} {b : Nat} {v : Value} {l : List Nd} {i : Nat} (he : ∀ (args : Array Value) (w : World), (callFunc f args).run Tryz.prog w = .ok (.enter f args) w) (hk : KindOk f p) (h : WN P w0 b v l i w) (hx : ∀ n ∈ l, n.tok.text.size ≤ 1000000000) :
    Calls Tryz.prog 40 #[.pointer (some ⟨b, 0, none⟩), .func (.func f) #[] #[]] w fun e w' => e = .returned (.bool (atP p l i)) ∧ WN P w0 b v l i w' :=
  (at_any he hk h.wk h.rdw h.le hx).mono fun _ _ ⟨e, hb⟩ => ⟨e, h.below hb⟩
set_option maxRecDepth 100000 in
set_option maxHeartbeats 1600000 in
theorem pass_any {f : Nat} {p : Tok → Bool} {P : Nat → Prop} {w0 w : World} {b : Nat} {v : Value} {l : List Nd} {i : Nat} (he : ∀ (args : Array Value) (w : World), (callFunc f args).run Tryz.prog w = .ok (.enter f args) w) (hk : KindOk f p) (h : WN P w0 b v l i w) (hx : ∀ n ∈ l, n.tok.text.size ≤ 1000000000) (hN : l.length ≤ 100000000) :
    Calls Tryz.prog 25 #[.pointer (some ⟨b, 0, none⟩), .func (.func f) #[] #[]] w fun e w' => e = .returned (.tuple #[]) ∧ WN P w0 b v l (passP p l i) w' := by
  have HA := Lib.hid (fun (j : Nat) (W : World) (hW : WN P w0 b v l j W) => atN he hk hW hx)
  clear hk he hx
  go_enter Tryz.func25, Tryz.ntmps25
  go_wp2
  go_loopw [] (fun wr => ∃ j, passP p l j = passP p l i ∧ WN P w0 b v l j wr) (fun wr => leftN b l.length wr)
  case atStart => exact ⟨i, rfl, h⟩
  case round =>
    obtain ⟨j, hj, hn⟩ := hrel
    have HJ := Lib.hid hj
    clear hj
    by_cases ha : atP p l j = true
    · have hlt := atP_lt_of ha
      have HP := Lib.hid (passP_yes ha)
      have HA2 := Lib.hid ha
      clear ha
      go_wp2_with (go_at_call 40; refine (HA.out j _ (by first | exact hn | exact hn.drew)).mono ?_; rintro e w1 ⟨rfl, h1⟩; rw [HA2.out]; have c1 := h1.wk.c1; have f1 := h1.wk.f1)
      go_roundw
      case rel => exact ⟨j + 1, by rw [HP.out, HJ.out], by simpa using h1.put (j + 1) (by omega)⟩
      case measure =>
        rw [hn.left, (show WN P w0 b v l (j + 1) _ by simpa using h1.put (j + 1) (by omega)).left]
        omega
    · have HA2 : Hid (atP p l j = false) := by
        show _ = _
        simpa using ha
      have HP := Lib.hid (passP_no HA2.out)
      clear ha
      go_wp2_with (go_at_call 40; refine (HA.out j _ (by first | exact hn | exact hn.drew)).mono ?_; rintro e w1 ⟨rfl, h1⟩; rw [HA2.out])
      go_end0
      exact ⟨rfl, by rw [← HJ.out, HP.out]; exact h1⟩
end Go.Proofs.YtfggpenfdfklkaaGreat
namespace Go.Proofs.YtfggpenfdfklkaaGreat
open Go.RowKit
/-! Package rules: kinds made of kinds. -/
def spT (t : Tok) : Bool := (t.kind == 6) || (t.kind == 8) || (t.kind == 20) || bangB t
set_option maxRecDepth 100000 in
set_option maxHeartbeats 1600000 in
theorem pd_k : KindOk 39 pdT := fun t a n c w ht => by
  have hb := bx7 w t (.slice a n c)
  have HX := Lib.hid (CB.new7 w t (.slice a n c))
  have HS : Hid (pdT t = (whT t || semT t)) := rfl
  have H1 := Lib.hid white_k
  have H2 := Lib.hid semi_k
  generalize pdT t = R at *
  cases h1 : whT t
  · have HR : Hid (R = semT t) := by show _ = _; rw [HS.out, h1]; rfl
    go_enter Tryz.func39, Tryz.ntmps39
    go_wp2_with (first | (go_at_call 61; refine (H1.out t a n c _ ht).mono ?_; rintro e w1 ⟨rfl, hb1⟩; rw [h1]; have HX1 := HX.out.below7 hb1; have d0 := HX1 0; have d1 := HX1 1; have d2 := HX1 2; have d3 := HX1 3; have d4 := HX1 4; have d5 := HX1 5; have d6 := HX1 6; dsimp only [nodC] at d0 d1 d2 d3 d4 d5 d6; simp only [List.getElem?_toArray, List.getElem?_cons_zero, List.getElem?_cons_succ] at d0 d1 d2 d3 d4 d5 d6) | (go_at_call 45; refine (H2.out t a n c _ ht).mono ?_; rintro e w2 ⟨rfl, hb2⟩))
    go_ret
    exact ⟨ret_bool HR.out.symm, below_seq (below_seq hb hb1) hb2⟩
  · have HR : Hid (R = true) := by show _ = _; rw [HS.out, h1]; rfl
    go_enter Tryz.func39, Tryz.ntmps39
    go_wp2_with (go_at_call 61; refine (H1.out t a n c _ ht).mono ?_; rintro e w1 ⟨rfl, hb1⟩; rw [h1])
    go_ret
    exact ⟨ret_bool HR.out.symm, below_seq hb hb1⟩
set_option maxRecDepth 100000 in
set_option maxHeartbeats 1600000 in
theorem pr_k : KindOk 26 prT := fun t a n c w ht => by
  have hb := bx7 w t (.slice a n c)
  have HX := Lib.hid (CB.new7 w t (.slice a n c))
  have HS : Hid (prT t = (pdT t || (t.kind == 14) || (t.kind == 15))) := rfl
  have H1 := Lib.hid pd_k
  generalize prT t = R at *
  cases h1 : pdT t
  · cases h2 : (t.kind == 14)
    · have HR : Hid (R = (t.kind == 15)) := by show _ = _; rw [HS.out, h1, h2]; rfl
      go_enter Tryz.func26, Tryz.ntmps26
      go_wp2_with (go_at_call 39; refine (H1.out t a n c _ ht).mono ?_; rintro e w1 ⟨rfl, hb1⟩; rw [h1]; have HX1 := HX.out.below7 hb1; have d0 := HX1 0; have d1 := HX1 1; have d2 := HX1 2; have d3 := HX1 3; have d4 := HX1 4; have d5 := HX1 5; have d6 := HX1 6; dsimp only [nodC] at d0 d1 d2 d3 d4 d5 d6; simp only [List.getElem?_toArray, List.getElem?_cons_zero, List.getElem?_cons_succ] at d0 d1 d2 d3 d4 d5 d6)
      go_ret
      exact ⟨ret_bool HR.out.symm, below_seq hb hb1⟩
    · have HR : Hid (R = true) := by show _ = _; rw [HS.out, h1, h2]; rfl
      go_enter Tryz.func26, Tryz.ntmps26
      go_wp2_with (go_at_call 39; refine (H1.out t a n c _ ht).mono ?_; rintro e w1 ⟨rfl, hb1⟩; rw [h1]; have HX1 := HX.out.below7 hb1; have d0 := HX1 0; have d1 := HX1 1; have d2 := HX1 2; have d3 := HX1 3; have d4 := HX1 4; have d5 := HX1 5; have d6 := HX1 6; dsimp only [nodC] at d0 d1 d2 d3 d4 d5 d6; simp only [List.getElem?_toArray, List.getElem?_cons_zero, List.getElem?_cons_succ] at d0 d1 d2 d3 d4 d5 d6)
      go_ret
      exact ⟨ret_bool HR.out.symm, below_seq hb hb1⟩
  · have HR : Hid (R = true) := by show _ = _; rw [HS.out, h1]; rfl
    go_enter Tryz.func26, Tryz.ntmps26
    go_wp2_with (go_at_call 39; refine (H1.out t a n c _ ht).mono ?_; rintro e w1 ⟨rfl, hb1⟩; rw [h1])
    go_ret
    exact ⟨ret_bool HR.out.symm, below_seq hb hb1⟩
set_option maxRecDepth 100000 in
set_option maxHeartbeats 1600000 in
theorem imp_k : KindOk 36 impB := fun t a n c w ht => by
  have hb := bx7 w t (.slice a n c)
  have HX := Lib.hid (CB.new7 w t (.slice a n c))
  have HS : Hid (impB t = (idT t && ((lowS t.text).toList == impL))) := rfl
  have H1 := Lib.hid ident_k
  generalize impB t = R at *
  cases h1 : idT t
  · have HR : Hid (R = false) := by show _ = _; rw [HS.out, h1]; rfl
    go_enter Tryz.func36, Tryz.ntmps36
    go_wp2_with (go_at_call 62; refine (H1.out t a n c _ ht).mono ?_; rintro e w1 ⟨rfl, hb1⟩; rw [h1])
    go_ret
    exact ⟨ret_bool HR.out.symm, below_seq hb hb1⟩
  · have HR : Hid (R = ((lowS t.text).toList == impL)) := by show _ = _; rw [HS.out, h1]; rfl
    go_enter Tryz.func36, Tryz.ntmps36
    go_wp2_with (first | (go_at_call 62; refine (H1.out t a n c _ ht).mono ?_; rintro e w1 ⟨rfl, hb1⟩; rw [h1]; have HX1 := HX.out.below7 hb1; have d0 := HX1 0; have d1 := HX1 1; have d2 := HX1 2; have d3 := HX1 3; have d4 := HX1 4; have d5 := HX1 5; have d6 := HX1 6; dsimp only [nodC] at d0 d1 d2 d3 d4 d5 d6; simp only [List.getElem?_toArray, List.getElem?_cons_zero, List.getElem?_cons_succ] at d0 d1 d2 d3 d4 d5 d6) | (go_at_call 56; refine (lower_any _ _ ht).mono ?_; rintro e w2 ⟨rfl, hb2⟩))
    go_ret
    exact ⟨ret_bool HR.out.symm, below_seq (below_seq hb hb1) hb2⟩
set_option maxRecDepth 100000 in
set_option maxHeartbeats 1600000 in
theorem sp_k : KindOk 47 spT := fun t a n c w ht => by
  have hb := bx7 w t (.slice a n c)
  have HX := Lib.hid (CB.new7 w t (.slice a n c))
  have HS : Hid (spT t = ((t.kind == 6) || (t.kind == 8) || (t.kind == 20) || bangB t)) := rfl
  have H1 := Lib.hid excl_k
  generalize spT t = R at *
  cases h1 : (t.kind == 6) <;> cases h2 : (t.kind == 8) <;> cases h3 : (t.kind == 20)
  case false.false.false =>
    have HR : Hid (R = bangB t) := by show _ = _; rw [HS.out, h1, h2, h3]; rfl
    go_enter Tryz.func47, Tryz.ntmps47
    go_wp2_with (go_at_call 38; refine (H1.out t a n c _ ht).mono ?_; rintro e w1 ⟨rfl, hb1⟩)
    go_ret
    exact ⟨ret_bool HR.out.symm, below_seq hb hb1⟩
  all_goals
    have HR : Hid (R = true) := by show _ = _; rw [HS.out, h1, h2, h3]; rfl
    go_enter Tryz.func47, Tryz.ntmps47
    go_wp2
    go_ret
    exact ⟨ret_bool HR.out.symm, hb⟩
end Go.Proofs.YtfggpenfdfklkaaGreat
