
import Derived.Test.YtmnjopbfdocinaaScL
namespace Go.Proofs.Ytmnjopbfdocinaa
open Go.RowKit
/-! ScopeBegins: sets as the document has them, held against each other. -/
theorem info_ref15 : (Try.prog.info? 54).map (fun i => (i.zero, i.size, i.bytes)) = some (some (.agg #[.string ⟨#[]⟩, .int .i64 0, .int .i64 0, .bool false]), 4, 40) := by kernel_rfl
abbrev refZ : Value := .agg #[.string ⟨#[]⟩, .int .i64 0, .int .i64 0, .bool false]
def FlatPost (s : List CoD) (w : World) (e : Ending) (w' : World) : Prop := ∃ v, e = .returned v ∧ RdK ccs 4 w' v s ∧ Below w.heap.size w w'
set_option maxRecDepth 100000 in
set_option maxHeartbeats 6400000 in
theorem flat15_any {w : World} {v : Value} {s : List CoD} (h : RdSt w v s) (hs : s.length ≤ 1000000) :
    Calls Try.prog 17 #[v] w (FlatPost s w) := by
  obtain ⟨i0, hi0, hz0, hz1, hz2⟩ := info_parts info_ref15
  obtain ⟨a, c, rfl, hle, hc⟩ := h.rd
  obtain ⟨L, hL⟩ : ∃ L, s.length = L := ⟨_, rfl⟩
  have HC := Lib.hid hc
  have HL := Lib.hid hL
  rw [hL] at hle hs ⊢
  clear hc hL h
  go_enter Try.func17, Try.ntmps17
  go_wp2
  go_loopw [3, 4] (fun ov iv wr => ∃ (k : Nat) (q : Value), q = ov ∧ k ≤ L ∧ iv = .int .i64 k ∧ wr.ownsRow w.heap.size 54 4 ov k ((s.take k).flatMap ccs) ∧ Below w.heap.size w wr) (fun _ iv _ => L - (intOf iv).toNat)
  case atStart => exact ⟨0, _, rfl, Nat.zero_le _, rfl, by rw [List.take_zero]; exact World.ownsRow_nil _ _ _ _, Below.refl _ _⟩
  case round =>
    obtain ⟨k, ov, rfl, hk, rfl, hrow, hbw⟩ := hrel
    by_cases hlt : k < L
    · have hltI : (k : Int) < (L : Int) := by omega
      have hkl : k < s.length := by rw [HL.out]; exact hlt
      obtain ⟨b, off, rfl, hb, hcc⟩ := HC.out (by omega)
      have hcc := hcc k hkl
      have HTK := Lib.hid (take_succK hkl)
      obtain ⟨x, hx⟩ : ∃ x, s[k] = x := ⟨_, rfl⟩
      rw [hx] at hcc HTK
      have c0 : wr.drew.cell? ⟨b, off + k * 4, none⟩ = some (.string x.nm) := (hbw.cell (p := ⟨b, off + k * 4, none⟩) hb).trans (by simpa using hcc 0 _ rfl)
      have c1 : wr.drew.cell? ⟨b, off + k * 4 + 1, none⟩ = some (.int .i64 x.of) := (hbw.cell (p := ⟨b, off + k * 4 + 1, none⟩) hb).trans (hcc 1 _ rfl)
      have c2 : wr.drew.cell? ⟨b, off + k * 4 + 2, none⟩ = some (.int .i64 x.n) := (hbw.cell (p := ⟨b, off + k * 4 + 2, none⟩) hb).trans (hcc 2 _ rfl)
      have c3 : wr.drew.cell? ⟨b, off + k * 4 + 3, none⟩ = some (.bool x.rev) := (hbw.cell (p := ⟨b, off + k * 4 + 3, none⟩) hb).trans (hcc 3 _ rfl)
      have HROW := Lib.hid hrow
      have HBW := Lib.hid hbw
      clear hcc hx hrow hbw
      go_upto_region 5 with fail
      refine wp_region_held_drew (S := (fun W => W.cell? ⟨b, off + k * 4, none⟩ = some (.string x.nm) ∧ W.cell? ⟨b, off + k * 4 + 1, none⟩ = some (.int .i64 x.of) ∧ W.cell? ⟨b, off + k * 4 + 2, none⟩ = some (.int .i64 x.n) ∧ W.cell? ⟨b, off + k * 4 + 3, none⟩ = some (.bool x.rev))) (by kernel_rfl) ⟨c0, c1, c2, c3⟩ (fun hHeld => ?_)
      have HBD := Lib.hid HBW.out.drew
      have HRD := Lib.hid (show wr.drew.ownsRow w.heap.size 54 4 ov k ((s.take k).flatMap ccs) from HROW.out)
      generalize wr.drew = W1 at *
      refine wpAnyH_take (i := 0) (oi := _) (v := ?_) rfl (by kernel_rfl) (by kernel_rfl) (by kernel_rfl) (fun _ _ _ h => h) (Or.inl ⟨by rfl, ?_⟩) (by assumption) ?_
      rotate_left
      · intro W hSw
        go_simp
        all_goals with_reducible rfl
      try simp only [List.getElem_toArray, List.getElem_cons_zero, List.getElem_cons_succ, Act.put, List.setIfInBounds_toArray, List.set_cons_zero, List.set_cons_succ]
      refine wpAnyH_take (i := 1) (oi := _) (v := ?_) rfl (by kernel_rfl) (by kernel_rfl) (by kernel_rfl) (fun _ _ _ h => h) (Or.inl ⟨by rfl, ?_⟩) (by assumption) ?_
      rotate_left
      · intro W hSw
        go_simp
        all_goals with_reducible rfl
      try simp only [List.getElem_toArray, List.getElem_cons_zero, List.getElem_cons_succ, Act.put, List.setIfInBounds_toArray, List.set_cons_zero, List.set_cons_succ]
      refine wpAnyH_take (i := 2) (oi := _) (v := ?_) rfl (by kernel_rfl) (by kernel_rfl) (by kernel_rfl) (fun _ _ _ h => h) (Or.inl ⟨by rfl, ?_⟩) (by assumption) ?_
      rotate_left
      · intro W hSw
        go_simp
        all_goals with_reducible rfl
      try simp only [List.getElem_toArray, List.getElem_cons_zero, List.getElem_cons_succ, Act.put, List.setIfInBounds_toArray, List.set_cons_zero, List.set_cons_succ]
      refine wpAnyH_take (i := 3) (oi := _) (v := ?_) rfl (by kernel_rfl) (by kernel_rfl) (by kernel_rfl) (fun _ _ _ h => h) (Or.inl ⟨by rfl, ?_⟩) (by assumption) ?_
      rotate_left
      · intro W hSw
        go_simp
        all_goals with_reducible rfl
      try simp only [List.getElem_toArray, List.getElem_cons_zero, List.getElem_cons_succ, Act.put, List.setIfInBounds_toArray, List.set_cons_zero, List.set_cons_succ]
      refine wpAnyH_take (i := 4) (oi := _) (v := ?_) rfl (by kernel_rfl) (by kernel_rfl) (by kernel_rfl) (fun _ _ _ h => h) (Or.inl ⟨by rfl, ?_⟩) (by assumption) ?_
      rotate_left
      · intro W hSw
        go_simp
        all_goals with_reducible rfl
      try simp only [List.getElem_toArray, List.getElem_cons_zero, List.getElem_cons_succ, Act.put, List.setIfInBounds_toArray, List.set_cons_zero, List.set_cons_succ]
      refine wpAnyH_take (i := 5) (oi := _) (v := ?_) rfl (by kernel_rfl) (by kernel_rfl) (by kernel_rfl) (fun _ _ _ h => h) (Or.inl ⟨by rfl, ?_⟩) (by assumption) ?_
      rotate_left
      · intro W hSw
        have y0 := hSw.1
        go_simp
        all_goals with_reducible rfl
      try simp only [List.getElem_toArray, List.getElem_cons_zero, List.getElem_cons_succ, Act.put, List.setIfInBounds_toArray, List.set_cons_zero, List.set_cons_succ]
      refine wpAnyH_take (i := 6) (oi := _) (v := ?_) rfl (by kernel_rfl) (by kernel_rfl) (by kernel_rfl) (fun _ _ _ h => h) (Or.inl ⟨by rfl, ?_⟩) (by assumption) ?_
      rotate_left
      · intro W hSw
        go_simp
        all_goals with_reducible rfl
      try simp only [List.getElem_toArray, List.getElem_cons_zero, List.getElem_cons_succ, Act.put, List.setIfInBounds_toArray, List.set_cons_zero, List.set_cons_succ]
      refine wpAnyH_take (i := 7) (oi := _) (v := ?_) rfl (by kernel_rfl) (by kernel_rfl) (by kernel_rfl) (fun _ _ _ h => h) (Or.inl ⟨by rfl, ?_⟩) (by assumption) ?_
      rotate_left
      · intro W hSw
        go_simp
        all_goals with_reducible rfl
      try simp only [List.getElem_toArray, List.getElem_cons_zero, List.getElem_cons_succ, Act.put, List.setIfInBounds_toArray, List.set_cons_zero, List.set_cons_succ]
      refine wpAnyH_take (i := 8) (oi := _) (v := ?_) rfl (by kernel_rfl) (by kernel_rfl) (by kernel_rfl) (fun _ _ _ h => h) (Or.inl ⟨by rfl, ?_⟩) (by assumption) ?_
      rotate_left
      · intro W hSw
        go_simp
        all_goals with_reducible rfl
      try simp only [List.getElem_toArray, List.getElem_cons_zero, List.getElem_cons_succ, Act.put, List.setIfInBounds_toArray, List.set_cons_zero, List.set_cons_succ]
      refine wpAnyH_take (i := 9) (oi := _) (v := ?_) rfl (by kernel_rfl) (by kernel_rfl) (by kernel_rfl) (fun _ _ _ h => h) (Or.inl ⟨by rfl, ?_⟩) (by assumption) ?_
      rotate_left
      · intro W hSw
        go_simp
        all_goals with_reducible rfl
      try simp only [List.getElem_toArray, List.getElem_cons_zero, List.getElem_cons_succ, Act.put, List.setIfInBounds_toArray, List.set_cons_zero, List.set_cons_succ]
      refine wpAnyH_take (i := 10) (oi := _) (v := ?_) rfl (by kernel_rfl) (by kernel_rfl) (by kernel_rfl) (fun _ _ _ h => h) (Or.inl ⟨by rfl, ?_⟩) (by assumption) ?_
      rotate_left
      · intro W hSw
        have y1 := hSw.2.1
        go_simp
        all_goals with_reducible rfl
      try simp only [List.getElem_toArray, List.getElem_cons_zero, List.getElem_cons_succ, Act.put, List.setIfInBounds_toArray, List.set_cons_zero, List.set_cons_succ]
      refine wpAnyH_take (i := 11) (oi := _) (v := ?_) rfl (by kernel_rfl) (by kernel_rfl) (by kernel_rfl) (fun _ _ _ h => h) (Or.inl ⟨by rfl, ?_⟩) (by assumption) ?_
      rotate_left
      · intro W hSw
        go_simp
        all_goals with_reducible rfl
      try simp only [List.getElem_toArray, List.getElem_cons_zero, List.getElem_cons_succ, Act.put, List.setIfInBounds_toArray, List.set_cons_zero, List.set_cons_succ]
      refine wpAnyH_take (i := 12) (oi := _) (v := ?_) rfl (by kernel_rfl) (by kernel_rfl) (by kernel_rfl) (fun _ _ _ h => h) (Or.inl ⟨by rfl, ?_⟩) (by assumption) ?_
      rotate_left
      · intro W hSw
        go_simp
        all_goals with_reducible rfl
      try simp only [List.getElem_toArray, List.getElem_cons_zero, List.getElem_cons_succ, Act.put, List.setIfInBounds_toArray, List.set_cons_zero, List.set_cons_succ]
      refine wpAnyH_take (i := 13) (oi := _) (v := ?_) rfl (by kernel_rfl) (by kernel_rfl) (by kernel_rfl) (fun _ _ _ h => h) (Or.inl ⟨by rfl, ?_⟩) (by assumption) ?_
      rotate_left
      · intro W hSw
        go_simp
        all_goals with_reducible rfl
      try simp only [List.getElem_toArray, List.getElem_cons_zero, List.getElem_cons_succ, Act.put, List.setIfInBounds_toArray, List.set_cons_zero, List.set_cons_succ]
      refine wpAnyH_take (i := 14) (oi := _) (v := ?_) rfl (by kernel_rfl) (by kernel_rfl) (by kernel_rfl) (fun _ _ _ h => h) (Or.inl ⟨by rfl, ?_⟩) (by assumption) ?_
      rotate_left
      · intro W hSw
        go_simp
        all_goals with_reducible rfl
      try simp only [List.getElem_toArray, List.getElem_cons_zero, List.getElem_cons_succ, Act.put, List.setIfInBounds_toArray, List.set_cons_zero, List.set_cons_succ]
      refine wpAnyH_take (i := 15) (oi := _) (v := ?_) rfl (by kernel_rfl) (by kernel_rfl) (by kernel_rfl) (fun _ _ _ h => h) (Or.inl ⟨by rfl, ?_⟩) (by assumption) ?_
      rotate_left
      · intro W hSw
        have y2 := hSw.2.2.1
        go_simp
        all_goals with_reducible rfl
      try simp only [List.getElem_toArray, List.getElem_cons_zero, List.getElem_cons_succ, Act.put, List.setIfInBounds_toArray, List.set_cons_zero, List.set_cons_succ]
      refine wpAnyH_take (i := 16) (oi := _) (v := ?_) rfl (by kernel_rfl) (by kernel_rfl) (by kernel_rfl) (fun _ _ _ h => h) (Or.inl ⟨by rfl, ?_⟩) (by assumption) ?_
      rotate_left
      · intro W hSw
        go_simp
        all_goals with_reducible rfl
      try simp only [List.getElem_toArray, List.getElem_cons_zero, List.getElem_cons_succ, Act.put, List.setIfInBounds_toArray, List.set_cons_zero, List.set_cons_succ]
      refine wpAnyH_take (i := 17) (oi := _) (v := ?_) rfl (by kernel_rfl) (by kernel_rfl) (by kernel_rfl) (fun _ _ _ h => h) (Or.inl ⟨by rfl, ?_⟩) (by assumption) ?_
      rotate_left
      · intro W hSw
        go_simp
        all_goals with_reducible rfl
      try simp only [List.getElem_toArray, List.getElem_cons_zero, List.getElem_cons_succ, Act.put, List.setIfInBounds_toArray, List.set_cons_zero, List.set_cons_succ]
      refine wpAnyH_take (i := 18) (oi := _) (v := ?_) rfl (by kernel_rfl) (by kernel_rfl) (by kernel_rfl) (fun _ _ _ h => h) (Or.inl ⟨by rfl, ?_⟩) (by assumption) ?_
      rotate_left
      · intro W hSw
        go_simp
        all_goals with_reducible rfl
      try simp only [List.getElem_toArray, List.getElem_cons_zero, List.getElem_cons_succ, Act.put, List.setIfInBounds_toArray, List.set_cons_zero, List.set_cons_succ]
      refine wpAnyH_take (i := 19) (oi := _) (v := ?_) rfl (by kernel_rfl) (by kernel_rfl) (by kernel_rfl) (fun _ _ _ h => h) (Or.inl ⟨by rfl, ?_⟩) (by assumption) ?_
      rotate_left
      · intro W hSw
        go_simp
        all_goals with_reducible rfl
      try simp only [List.getElem_toArray, List.getElem_cons_zero, List.getElem_cons_succ, Act.put, List.setIfInBounds_toArray, List.set_cons_zero, List.set_cons_succ]
      refine wpAnyH_take (i := 20) (oi := _) (v := ?_) rfl (by kernel_rfl) (by kernel_rfl) (by kernel_rfl) (fun _ _ _ h => h) (Or.inl ⟨by rfl, ?_⟩) (by assumption) ?_
      rotate_left
      · intro W hSw
        have y3 := hSw.2.2.2
        go_simp
        all_goals with_reducible rfl
      try simp only [List.getElem_toArray, List.getElem_cons_zero, List.getElem_cons_succ, Act.put, List.setIfInBounds_toArray, List.set_cons_zero, List.set_cons_succ]
      refine wpAnyH_take (i := 21) (oi := _) (v := ?_) rfl (by kernel_rfl) (by kernel_rfl) (by kernel_rfl) (fun _ _ _ h => h) (Or.inl ⟨by rfl, ?_⟩) (by assumption) ?_
      rotate_left
      · intro W hSw
        go_simp
        all_goals with_reducible rfl
      try simp only [List.getElem_toArray, List.getElem_cons_zero, List.getElem_cons_succ, Act.put, List.setIfInBounds_toArray, List.set_cons_zero, List.set_cons_succ]
      refine wpAnyH_ready (rs := [22]) (by kernel_rfl) (by simp) ?_
      refine AllReadyH.cons (o := _) rfl (fun K hK => ?_) AllReadyH.nil
      simp only [List.getElem_toArray, List.getElem_cons_zero, List.getElem_cons_succ]
      rw [if_pos (by rfl)]
      go_simp
      have hS2 : (fun W => W.cell? ⟨b, off + k * 4, none⟩ = some (.string x.nm) ∧ W.cell? ⟨b, off + k * 4 + 1, none⟩ = some (.int .i64 x.of) ∧ W.cell? ⟨b, off + k * 4 + 2, none⟩ = some (.int .i64 x.n) ∧ W.cell? ⟨b, off + k * 4 + 3, none⟩ = some (.bool x.rev)) (W1.alloc (.cells #[.string x.nm, .int .i64 x.of, .int .i64 x.n, .bool x.rev] 54)) := ⟨below_keep (bel_new W1 _) hHeld.1, below_keep (bel_new W1 _) hHeld.2.1, below_keep (bel_new W1 _) hHeld.2.2.1, below_keep (bel_new W1 _) hHeld.2.2.2⟩
      have HZ := Lib.hid (cells_row (CB.new (T := 54) W1 #[.string x.nm, .int .i64 x.of, .int .i64 x.n, .bool x.rev]))
      have HB2 := Lib.hid (HBD.out.alloc HBD.out.size (.cells #[.string x.nm, .int .i64 x.of, .int .i64 x.n, .bool x.rev] 54))
      have HR2 := Lib.hid (HRD.out.alloc (.cells #[.string x.nm, .int .i64 x.of, .int .i64 x.n, .bool x.rev] 54))
      have hsz2 : w.heap.size ≤ (W1.alloc (.cells #[.string x.nm, .int .i64 x.of, .int .i64 x.n, .bool x.rev] 54)).heap.size := HB2.out.size
      refine hK.out _ _ hS2 (fun hHeld => ?_)
      clear hK K hS2
      try simp only [List.getElem_toArray, List.getElem_cons_zero, List.getElem_cons_succ, Act.put, List.setIfInBounds_toArray, List.set_cons_zero, List.set_cons_succ]
      refine wpAnyH_ready (rs := [23]) (by kernel_rfl) (by simp) ?_
      refine AllReadyH.cons (o := _) rfl (fun K hK => ?_) AllReadyH.nil
      simp only [List.getElem_toArray, List.getElem_cons_zero, List.getElem_cons_succ]
      rw [if_pos (by rfl)]
      refine wp_append_own (P := Try.prog) _ (.tmp 11) (.tmp 33) 43 rfl w.heap.size 54 i0 refZ 4 40 Try.underlying43 hi0 hz0 hz1 hz2 rfl (by decide) _ _ _ rfl HR2.out ⟨W1.heap.size, 0, none⟩ 1 1 [.string x.nm, .int .i64 x.of, .int .i64 x.n, .bool x.rev] rfl rfl HZ.out (by simp [Value.oneCell']) (by unfold maxLen; omega) (by omega) hsz2 ?_
      intro v' w4 ho4 hg4 _
      have hlt4 := HR2.out.lt
      have hne : some b ≠ ov.ownBlock := fun e => by have := (hlt4 b e.symm).1; omega
      have hS4 : (fun W => W.cell? ⟨b, off + k * 4, none⟩ = some (.string x.nm) ∧ W.cell? ⟨b, off + k * 4 + 1, none⟩ = some (.int .i64 x.of) ∧ W.cell? ⟨b, off + k * 4 + 2, none⟩ = some (.int .i64 x.n) ∧ W.cell? ⟨b, off + k * 4 + 3, none⟩ = some (.bool x.rev)) w4 := ⟨hg4.cell hHeld.1 hne, hg4.cell hHeld.2.1 hne, hg4.cell hHeld.2.2.1 hne, hg4.cell hHeld.2.2.2 hne⟩
      have HB4 := Lib.hid (HB2.out.grown hg4 hsz2 (fun j hj => (hlt4 j hj).1))
      have HR4 := Lib.hid (show w4.ownsRow w.heap.size 54 4 v' (k + 1) ((s.take (k + 1)).flatMap ccs) by
        rw [HTK.out, List.flatMap_append]
        simpa using ho4)
      clear ho4 hg4 hlt4 hne hHeld
      refine hK.out _ _ hS4 (fun hHeld => ?_)
      clear hK K
      try simp only [List.getElem_toArray, List.getElem_cons_zero, List.getElem_cons_succ, Act.put, List.setIfInBounds_toArray, List.set_cons_zero, List.set_cons_succ]
      refine wpAnyH_take (i := 24) (oi := _) (v := ?_) rfl (by kernel_rfl) (by kernel_rfl) (by kernel_rfl) (fun _ _ _ h => h) (Or.inl ⟨by rfl, ?_⟩) (by assumption) ?_
      rotate_left
      · intro W hSw
        go_simp
        all_goals with_reducible rfl
      try simp only [List.getElem_toArray, List.getElem_cons_zero, List.getElem_cons_succ, Act.put, List.setIfInBounds_toArray, List.set_cons_zero, List.set_cons_succ]
      refine wpAnyH_done (by kernel_rfl) ?_ _
      go_wp2
      go_roundw
      case rel => exact ⟨k + 1, _, rfl, by omega, by go_num, HR4.out, HB4.out⟩
      case measure => simp [intOf]; omega
    · have hltI : ¬ (k : Int) < (L : Int) := by omega
      obtain rfl : k = L := by omega
      have HF := Lib.hid (show s.take s.length = s from List.take_of_length_le (Nat.le_refl _))
      rw [← HL.out, HF.out] at hrow
      have HR := Lib.hid (RdK.own (f := ccs) ccs_len hrow)
      clear hrow
      go_wp2
      go_ret
      exact ⟨_, rfl, HR.out, hbw⟩
set_option maxRecDepth 100000 in
set_option maxHeartbeats 400000 in
theorem coNe_run (a : ByteArray) (b c : Int) (d : Bool) (w : World) : (binOp .neq 54 (.agg #[.string a, .int .i64 b, .int .i64 c, .bool d]) (.agg #[.string a, .int .i64 b, .int .i64 c, .bool d])).run Try.prog w = .ok (.bool false) w := by
  have ht : Try.prog.underlying 54 = some (.struct (Try.prog.fieldsOf 54)) := by kernel_rfl
  have hp : Try.prog.stoodInHeld 54 = false := by kernel_rfl
  have hq : (Op.equalIn 10000 54 (.agg #[.string a, .int .i64 b, .int .i64 c, .bool d]) (.agg #[.string a, .int .i64 b, .int .i64 c, .bool d])).run Try.prog w = .ok true w := by
    rw [run_equalIn_agg _ _ _ _ _ ht hp]
    have hf := ht
    rw [Try.underlying54] at hf
    injection hf with hf
    injection hf with hf
    rw [← hf]
    simp [go_sem, Op.eqFields, Try.underlying3, Try.underlying9, Try.underlying4]
  simp only [run_neq_struct]
  rw [hq]
  rfl
set_option maxRecDepth 100000 in
set_option maxHeartbeats 1600000 in
theorem same15_any (l : List CoD) (va vb : Value) (w : World) (ha : RdK ccs 4 w va l) (hb : RdK ccs 4 w vb l) (hl : l.length ≤ 1000000000) :
    Calls Try.prog 16 #[va, vb] w fun e w' => e = .returned (.bool true) ∧ Below w.heap.size w w' := by
  obtain ⟨pa, ca, rfl, hla, hca⟩ := ha
  obtain ⟨pb, cb, rfl, hlb, hcb⟩ := hb
  obtain ⟨N, hN⟩ : ∃ N, l.length = N := ⟨_, rfl⟩
  have HA := Lib.hid hca
  have HB := Lib.hid hcb
  have HN := Lib.hid hN
  have n1 : ((N : Int) != (N : Int)) = false := by simp
  rw [hN] at hl hla hlb ⊢
  clear hca hcb hN
  go_enter Try.func16, Try.ntmps16
  go_wp2
  go_loopw [5] (fun iv wr => ∃ i : Nat, iv = .int .i64 i ∧ i ≤ N ∧ Below w.heap.size w wr) (fun iv _ => N - (intOf iv).toNat)
  case atStart => exact ⟨0, rfl, Nat.zero_le _, Below.refl _ _⟩
  case round =>
    obtain ⟨i, rfl, hi, hbl⟩ := hrel
    have HW := Lib.hid hbl
    have HD := Lib.hid hbl.drew
    clear hbl
    by_cases hlt : i < N
    · have hI : (i : Int) < (N : Int) := by omega
      have hI0 : (0 : Int) ≤ (i : Int) := by omega
      obtain ⟨ga, oa, rfl, hga, fa⟩ := HA.out (by rw [HN.out]; omega)
      obtain ⟨gb, ob, rfl, hgb, fb⟩ := HB.out (by rw [HN.out]; omega)
      have fa := fa i (by rw [HN.out]; exact hlt)
      have fb := fb i (by rw [HN.out]; exact hlt)
      generalize l[i]'(by rw [HN.out]; exact hlt) = x at *
      have a0 := (HW.out.cell (p := ⟨ga, oa + i * 4, none⟩) hga).trans (fa 0 _ rfl)
      have a1 := (HW.out.cell (p := ⟨ga, oa + i * 4 + 1, none⟩) hga).trans (fa 1 _ rfl)
      have a2 := (HW.out.cell (p := ⟨ga, oa + i * 4 + 2, none⟩) hga).trans (fa 2 _ rfl)
      have a3 := (HW.out.cell (p := ⟨ga, oa + i * 4 + 3, none⟩) hga).trans (fa 3 _ rfl)
      have b0 := (HW.out.cell (p := ⟨gb, ob + i * 4, none⟩) hgb).trans (fb 0 _ rfl)
      have b1 := (HW.out.cell (p := ⟨gb, ob + i * 4 + 1, none⟩) hgb).trans (fb 1 _ rfl)
      have b2 := (HW.out.cell (p := ⟨gb, ob + i * 4 + 2, none⟩) hgb).trans (fb 2 _ rfl)
      have b3 := (HW.out.cell (p := ⟨gb, ob + i * 4 + 3, none⟩) hgb).trans (fb 3 _ rfl)
      have hne := coNe_run x.nm x.of x.n x.rev
      clear fa fb
      go_upto_region 6 with fail
      go_region
      all_goals go_wp2
      all_goals exact ⟨⟨i + 1, by go_num, by omega, HD.out⟩, by simp [intOf]; omega⟩
    · obtain rfl : i = N := by omega
      go_wp2
      go_ret
      exact ⟨rfl, HW.out⟩
end Go.Proofs.Ytmnjopbfdocinaa
