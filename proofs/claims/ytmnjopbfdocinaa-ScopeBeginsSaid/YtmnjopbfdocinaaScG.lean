
import Derived.Test.YtmnjopbfdocinaaScF
namespace Go.Proofs.Ytmnjopbfdocinaa
open Go.RowKit Go.Maps Go.WideMaps
/-! scope: a parent's counters, and a sibling's that are not there. -/
def joinD (p s : List CoD) : List CoD := s.foldl (fun out c => if (lastN out c.nm c.of).isSome = true then out else out ++ [c]) p
theorem joinD_snoc (p s : List CoD) (x : CoD) : joinD p (s ++ [x]) = if (lastN (joinD p s) x.nm x.of).isSome = true then joinD p s else joinD p s ++ [x] := by
  unfold joinD
  rw [List.foldl_append]
  rfl
theorem joinD_len (p : List CoD) : ∀ s : List CoD, (joinD p s).length ≤ p.length + s.length := fun s => by
  unfold joinD
  induction s generalizing p with
  | nil => simp
  | cons x s ih =>
    rw [List.foldl_cons]
    split
    · have := ih p
      simp
      omega
    · have := ih (p ++ [x])
      simp at this ⊢
      omega
theorem joinD_mem (Q : CoD → Prop) : ∀ (s p : List CoD), (∀ c ∈ p, Q c) → (∀ c ∈ s, Q c) → ∀ c ∈ joinD p s, Q c := fun s => by
  unfold joinD
  induction s with
  | nil => intro p hp _ c hc; exact hp c hc
  | cons x s ih =>
    intro p hp hs
    rw [List.foldl_cons]
    split
    · exact ih p hp (fun c hc => hs c (List.mem_cons_of_mem _ hc))
    · refine ih (p ++ [x]) (fun c hc => ?_) (fun c hc => hs c (List.mem_cons_of_mem _ hc))
      rw [List.mem_append] at hc
      rcases hc with hc | hc
      · exact hp c hc
      · simp at hc
        subst hc
        exact hs _ List.mem_cons_self
theorem row_ne_map {H : Type} {w : World} {B k n : Nat} {T K : TypeId} {v : Value} {xs : List Value} {P : Program} {R : Value → Option (DataW H × List MemPlace)} {b m : Nat} {D : DataW H} (h : w.ownsRow B T k v n xs) (hm : w.ownsMap P K R b m D) : v.ownBlock ≠ some b := fun e => by
  rcases h.2 with ⟨rfl, _⟩ | ⟨g, cap, cur, rfl, _, hg, _⟩
  · simp [Value.ownBlock] at e
  · have e2 : g = b := by simpa [Value.ownBlock] using e
    subst e2
    obtain ⟨es, clock, hb, _⟩ := hm
    rw [hg] at hb
    cases hb
theorem cell4_new (W : World) (y0 y1 y2 y3 : Value) (T : TypeId) : ∀ j u, [y0, y1, y2, y3][j]? = some u → (W.alloc (.cells #[y0, y1, y2, y3] T)).cell? ((⟨W.heap.size, 0, none⟩ : Addr).add j) = some u := cells_row (CB.new (T := T) W #[y0, y1, y2, y3])
def RowPost (R : List CoD) (w : World) (e : Ending) (w' : World) : Prop := ∃ v, e = .returned v ∧ w'.ownsRow w.heap.size 38 4 v R.length (R.flatMap ccs) ∧ Below w.heap.size w w'
theorem row_rdst {w : World} {B : Nat} {v : Value} {R : List CoD} (h : w.ownsRow B 38 4 v R.length (R.flatMap ccs)) : RdSt w v R := ⟨RdK.own ccs_len h, fun n c e => by
  rcases h.2 with ⟨h1, _⟩ | ⟨g, cap, cur, h1, _⟩
  · rw [h1] at e; injection e with _ _ e; exact e.symm
  · rw [h1] at e; injection e with e; cases e⟩
set_option maxRecDepth 100000 in
set_option maxHeartbeats 6400000 in
theorem joined_any {w : World} {vp vs : Value} {p s : List CoD} (hp : RdSt w vp p) (hs : RdSt w vs s) (hpl : p.length ≤ 10000000) (hsl : s.length ≤ 10000000) (hok : ∀ c ∈ p, OkC c) (hok2 : ∀ c ∈ s, OkC c) :
    Calls Try.prog 25 #[vp, vs] w (RowPost (joinD p s) w) := by
  obtain ⟨i0, hi0, hz0, hz1, hz2⟩ := info_parts info_cnt
  have HCL := Lib.hid (clone_any hp (by omega))
  have HP := Lib.hid hp
  obtain ⟨ap, cp, rfl, _, _⟩ := hp.rd
  obtain ⟨a, c, rfl, hle, hc⟩ := hs.rd
  obtain ⟨L, hL⟩ : ∃ L, s.length = L := ⟨_, rfl⟩
  obtain ⟨LP, hLP⟩ : ∃ L, p.length = L := ⟨_, rfl⟩
  have HC := Lib.hid hc
  have HL := Lib.hid hL
  have HLP := Lib.hid hLP
  rw [hLP] at HCL hpl ⊢
  have HP : Hid (RdSt w (.slice ap LP cp) p) := by have h1 := HP.out; rw [hLP] at h1; exact h1
  rw [hL] at hle hsl ⊢
  clear hc hL hs hp hLP
  go_enter Try.func25, Try.ntmps25
  go_upto_region 2 with (go_at_call 30; go_must (refine HCL.out.mono ?_); intro e w1 hq; obtain ⟨v1, he, ho1, hb1⟩ := hq; subst he)
  have HNM := Lib.hid (numbers_any (HP.out.below hb1) (by rw [HLP.out]; omega) hok)
  go_wp2_with (go_at_call 26; go_must (refine HNM.out.mono ?_); intro e w2 hq; obtain ⟨g, nn, D, he, hown, hnn, hmap, hg, hb2⟩ := hq; subst he)
  have hgw : w.heap.size ≤ g := Nat.le_trans hb1.size hg
  have ho2 := ho1.kept (below_grown hb2 none) (by cases hv : v1.ownBlock with | none => exact .inl rfl | some g => exact .inr (by simp))
  rw [HLP.out] at hnn ho2
  have hb3 := hb1.trans (hb2.mono hb1.size)
  have HRJ := Lib.hid (joinD_len p s)
  go_loopw [5, 17] (fun ov iv wr => ∃ (k : Nat) (out : List CoD) (q : Value) (nn : Nat) (D : DataW Unit), q = ov ∧ k ≤ L ∧ iv = .int .i64 k ∧ joinD p (s.take k) = out ∧ out.length ≤ LP + k ∧ wr.ownsRow w.heap.size 38 4 ov out.length (out.flatMap ccs) ∧ wr.ownsMap Try.prog 59 (plainElem Try.prog 3) g nn D ∧ nn ≤ LP + k ∧ MapIs D out ∧ Below w.heap.size w wr) (fun _ iv _ => L - (intOf iv).toNat)
  case atStart => exact ⟨0, p, _, _, D, rfl, Nat.zero_le _, rfl, by rw [List.take_zero]; rfl, by rw [HLP.out]; exact Nat.le_refl _, by rw [HLP.out]; exact ho2, hown, by omega, hmap, hb3⟩
  case round =>
    clear ho1 hb1 hb2 ho2 hown hmap hnn hb3
    obtain ⟨k, out, q, nn, D, rfl, hk, rfl, hj, hol, hrow, hown, hnn, hmap, hbw⟩ := hrel
    obtain ⟨N, hN⟩ : ∃ N, out.length = N := ⟨_, rfl⟩
    rw [hN] at hrow hol
    have HNN := Lib.hid hN
    clear hN
    by_cases hlt : k < L
    · have hltI : (k : Int) < (L : Int) := by omega
      have hkl : k < s.length := by rw [HL.out]; exact hlt
      obtain ⟨b, off, rfl, hb, hcc⟩ := HC.out (by omega)
      have hcc := hcc k hkl
      have hokx := hok2 s[k] (List.getElem_mem hkl)
      have hjs := joinD_snoc p (s.take k) s[k]
      rw [← take_succK hkl, hj] at hjs
      obtain ⟨x, hx⟩ : ∃ x, s[k] = x := ⟨_, rfl⟩
      rw [hx] at hcc hokx hjs
      have c0 := (hbw.cell (p := ⟨b, off + k * 4, none⟩) hb).trans (by simpa using hcc 0 _ rfl)
      have c1 := (hbw.cell (p := ⟨b, off + k * 4 + 1, none⟩) hb).trans (hcc 1 _ rfl)
      have c2 := (hbw.cell (p := ⟨b, off + k * 4 + 2, none⟩) hb).trans (hcc 2 _ rfl)
      have c3 := (hbw.cell (p := ⟨b, off + k * 4 + 3, none⟩) hb).trans (hcc 3 _ rfl)
      have HHAS := Lib.hid (hmap.2 x.nm x.of hokx.id).1
      have HM := Lib.hid hmap
      have HOK := Lib.hid hokx
      have hblt := hown.lt
      have HX0 := Lib.hid (CB.new (T := 38) wr #[.string x.nm, .int .i64 x.of, .int .i64 x.n, .bool x.rev])
      have HB0 := Lib.hid (hbw.alloc hbw.size (.cells #[.string x.nm, .int .i64 x.of, .int .i64 x.n, .bool x.rev] 38))
      have HN0 := Lib.hid (hown.alloc (.cells #[.string x.nm, .int .i64 x.of, .int .i64 x.n, .bool x.rev] 38))
      have HR0 := Lib.hid (hrow.alloc (.cells #[.string x.nm, .int .i64 x.of, .int .i64 x.n, .bool x.rev] 38))
      clear hcc hx hown hmap hbw hokx hrow hj
      cases hh : (lastN out x.nm x.of).isSome with
      | true =>
        rw [hh] at hjs HHAS
        have HJ := Lib.hid (show out = joinD p (s.take (k + 1)) by rw [hjs, if_pos rfl])
        clear hjs hh
        go_upto_region 6 with fail
        generalize wr.alloc (.cells #[.string x.nm, .int .i64 x.of, .int .i64 x.n, .bool x.rev] 38) = WA at *
        have y0 : WA.cell? ⟨wr.heap.size, 0, none⟩ = some (.string x.nm) := HX0.out.cell 0
        have y1 : WA.cell? ⟨wr.heap.size, 1, none⟩ = some (.int .i64 x.of) := HX0.out.cell 1
        have y2 : WA.cell? ⟨wr.heap.size, 2, none⟩ = some (.int .i64 x.n) := HX0.out.cell 2
        have y3 : WA.cell? ⟨wr.heap.size, 3, none⟩ = some (.bool x.rev) := HX0.out.cell 3
        go_wp2_with (first | (go_at_call 27; (with_reducible refine (which_any _ _ _ _ _).mono ?_); rintro e W1 ⟨rfl, hb1⟩; have HN1 := Lib.hid (HN0.out.kept (below_grown hb1 none) (by simp))) | (at_lookup; refine wpList_lookup_own_ok_int _ rfl _ _ 56 rfl 59 3 .i64 law_id Try.underlying56 Try.underlying3 (zero_int15 _) g nn D rfl HN1.out _ _ rfl (keyOf_id HOK.out.id) ?_; intro cc hat hwc; rw [HHAS.out]))
        have HB1 := Lib.hid (HB0.out.trans (hb1.mono HB0.out.size))
        have HR1 := Lib.hid (HR0.out.kept (below_grown hb1 none) (by cases hv : q.ownBlock with | none => exact .inl rfl | some g => exact .inr (by simp)))
        clear hb1 hat
        go_roundw
        case rel => exact ⟨k + 1, out, _, _, _, rfl, by omega, by go_num, HJ.out.symm, by rw [HNN.out]; omega, by rw [HNN.out]; exact HR1.out, HN1.out, by omega, HM.out, HB1.out⟩
        case measure => simp [intOf]; omega
      | false =>
        rw [hh] at hjs HHAS
        have HJ := Lib.hid (show out ++ [x] = joinD p (s.take (k + 1)) by rw [hjs, if_neg (by simp)])
        clear hjs hh
        go_upto_region 6 with fail
        generalize wr.alloc (.cells #[.string x.nm, .int .i64 x.of, .int .i64 x.n, .bool x.rev] 38) = WA at *
        have y0 : WA.cell? ⟨wr.heap.size, 0, none⟩ = some (.string x.nm) := HX0.out.cell 0
        have y1 : WA.cell? ⟨wr.heap.size, 1, none⟩ = some (.int .i64 x.of) := HX0.out.cell 1
        have y2 : WA.cell? ⟨wr.heap.size, 2, none⟩ = some (.int .i64 x.n) := HX0.out.cell 2
        have y3 : WA.cell? ⟨wr.heap.size, 3, none⟩ = some (.bool x.rev) := HX0.out.cell 3
        go_upto_region 8 with (first | (go_at_call 27; (with_reducible refine (which_any _ _ _ _ _).mono ?_); rintro e W1 ⟨rfl, hb1⟩; have HN1 := Lib.hid (HN0.out.kept (below_grown hb1 none) (by simp))) | (at_lookup; refine wpList_lookup_own_ok_int _ rfl _ _ 56 rfl 59 3 .i64 law_id Try.underlying56 Try.underlying3 (zero_int15 _) g nn D rfl HN1.out _ _ rfl (keyOf_id HOK.out.id) ?_; intro cc hat hwc; rw [HHAS.out]))
        have HB1 := Lib.hid (HB0.out.trans (hb1.mono HB0.out.size))
        have HR1 := Lib.hid (HR0.out.kept (below_grown hb1 none) (by cases hv : q.ownBlock with | none => exact .inl rfl | some g => exact .inr (by simp)))
        have HX := Lib.hid (HX0.out.below hb1 HX0.out.lt)
        clear hb1 hat y0 y1 y2 y3
        have HX1 := HX.out
        refine wp_region_held_drew (S := (fun W => CB 38 W wr.heap.size #[.string x.nm, .int .i64 x.of, .int .i64 x.n, .bool x.rev])) (by kernel_rfl) HX1 (fun hHeld => ?_)
        have HBD := Lib.hid HB1.out.drew
        have HND := Lib.hid HN1.out.drew
        have HRD := Lib.hid (show W1.drew.ownsRow w.heap.size 38 4 q N (out.flatMap ccs) from HR1.out)
        generalize W1.drew = W2 at *
        refine wpAnyH_take (i := 0) (oi := _) (v := ?_) rfl (by kernel_rfl) (by kernel_rfl) (by kernel_rfl) (fun _ _ _ h => h) (Or.inl ⟨by rfl, ?_⟩) (by assumption) ?_
        rotate_left
        · intro W hSw
          go_simp
          all_goals with_reducible rfl
        try simp only [List.getElem_toArray, List.getElem_cons_zero, List.getElem_cons_succ, Act.put, List.setIfInBounds_toArray, List.set_cons_zero, List.set_cons_succ]
        refine wpAnyH_take (i := 1) (oi := _) (v := ?_) rfl (by kernel_rfl) (by kernel_rfl) (by kernel_rfl) (fun _ _ _ h => h) (Or.inl ⟨by rfl, ?_⟩) (by assumption) ?_
        rotate_left
        · intro W hSw
          have x0 : W.cell? ⟨wr.heap.size, 0, none⟩ = some (.string x.nm) := hSw.cell 0
          have x1 : W.cell? ⟨wr.heap.size, 1, none⟩ = some (.int .i64 x.of) := hSw.cell 1
          have x2 : W.cell? ⟨wr.heap.size, 2, none⟩ = some (.int .i64 x.n) := hSw.cell 2
          have x3 : W.cell? ⟨wr.heap.size, 3, none⟩ = some (.bool x.rev) := hSw.cell 3
          go_simp
          all_goals with_reducible rfl
        try simp only [List.getElem_toArray, List.getElem_cons_zero, List.getElem_cons_succ, Act.put, List.setIfInBounds_toArray, List.set_cons_zero, List.set_cons_succ]
        refine wpAnyH_take (i := 3) (oi := _) (v := ?_) rfl (by kernel_rfl) (by kernel_rfl) (by kernel_rfl) (fun _ _ _ h => h) (Or.inl ⟨by rfl, ?_⟩) (by assumption) ?_
        rotate_left
        · intro W hSw
          go_simp
          all_goals with_reducible rfl
        try simp only [List.getElem_toArray, List.getElem_cons_zero, List.getElem_cons_succ, Act.put, List.setIfInBounds_toArray, List.set_cons_zero, List.set_cons_succ]
        refine wpAnyH_take (i := 4) (oi := _) (v := ?_) rfl (by kernel_rfl) (by kernel_rfl) (by kernel_rfl) (fun _ _ _ h => h) (Or.inl ⟨by rfl, ?_⟩) (by assumption) ?_
        rotate_left
        · intro W hSw
          have x0 : W.cell? ⟨wr.heap.size, 0, none⟩ = some (.string x.nm) := hSw.cell 0
          have x1 : W.cell? ⟨wr.heap.size, 1, none⟩ = some (.int .i64 x.of) := hSw.cell 1
          have x2 : W.cell? ⟨wr.heap.size, 2, none⟩ = some (.int .i64 x.n) := hSw.cell 2
          have x3 : W.cell? ⟨wr.heap.size, 3, none⟩ = some (.bool x.rev) := hSw.cell 3
          go_simp
          all_goals with_reducible rfl
        try simp only [List.getElem_toArray, List.getElem_cons_zero, List.getElem_cons_succ, Act.put, List.setIfInBounds_toArray, List.set_cons_zero, List.set_cons_succ]
        refine wpAnyH_ready (rs := [2]) (by kernel_rfl) (by simp) ?_
        refine AllReadyH.cons (o := _) rfl (fun K hK => ?_) AllReadyH.nil
        simp only [List.getElem_toArray, List.getElem_cons_zero, List.getElem_cons_succ]
        rw [if_pos (by rfl)]
        go_simp
        refine (which_any _ _ _ _ _).mono ?_
        rintro e W3 ⟨rfl, hb3⟩
        have hS3 : CB 38 W3 wr.heap.size #[.string x.nm, .int .i64 x.of, .int .i64 x.n, .bool x.rev] := hHeld.below hb3 hHeld.lt
        have HB3 := Lib.hid (HBD.out.trans (hb3.mono HBD.out.size))
        have HN3 := Lib.hid (HND.out.kept (below_grown hb3 none) (by simp))
        have HR3 := Lib.hid (HRD.out.kept (below_grown hb3 none) (by cases hv : q.ownBlock with | none => exact .inl rfl | some g => exact .inr (by simp)))
        clear hb3 hHeld
        go_simp
        refine hK.out _ _ hS3 (fun hHeld => ?_)
        clear hK K
        try simp only [List.getElem_toArray, List.getElem_cons_zero, List.getElem_cons_succ, Act.put, List.setIfInBounds_toArray, List.set_cons_zero, List.set_cons_succ]
        refine wpAnyH_ready (rs := [5]) (by kernel_rfl) (by simp) ?_
        refine AllReadyH.cons (o := _) rfl (fun K hK => ?_) AllReadyH.nil
        simp only [List.getElem_toArray, List.getElem_cons_zero, List.getElem_cons_succ]
        rw [if_pos (by rfl)]
        refine wp_mapUpd _ _ _ 56 rfl 59 3 law_id Try.underlying56 (plainElem (H := Unit) Try.prog 3) g nn D rfl HN3.out (by unfold maxLen; omega) _ _ _ rfl rfl (keyOf_id HOK.out.id) _ [] (plainElem_int Try.underlying3 HOK.out.wf) ?_
        intro W4 hown4 hg4
        have hS4 : CB 38 W4 wr.heap.size #[.string x.nm, .int .i64 x.of, .int .i64 x.n, .bool x.rev] := hHeld.grown hg4 (by intro e; injection e; omega)
        have HB4 := Lib.hid (HB3.out.grown hg4 HB3.out.size (fun j hj => by injection hj; omega))
        have HN4 := Lib.hid hown4
        have HR4 := Lib.hid (HR3.out.kept hg4 (.inr (row_ne_map HR3.out HN3.out)))
        have HM4 := Lib.hid (mapIs_snoc HM.out HOK.out.id)
        clear hown4 hg4 hHeld
        refine hK.out _ _ hS4 (fun hHeld => ?_)
        clear hK K
        try simp only [List.getElem_toArray, List.getElem_cons_zero, List.getElem_cons_succ, Act.put, List.setIfInBounds_toArray, List.set_cons_zero, List.set_cons_succ]
        refine wpAnyH_done (by kernel_rfl) ?_ _
        have HZ := Lib.hid (cell4_new W4 (.string x.nm) (.int .i64 x.of) (.int .i64 x.n) (.bool x.rev) 38)
        have y0 : W4.cell? ⟨wr.heap.size, 0, none⟩ = some (.string x.nm) := hHeld.cell 0
        have y1 : W4.cell? ⟨wr.heap.size, 1, none⟩ = some (.int .i64 x.of) := hHeld.cell 1
        have y2 : W4.cell? ⟨wr.heap.size, 2, none⟩ = some (.int .i64 x.n) := hHeld.cell 2
        have y3 : W4.cell? ⟨wr.heap.size, 3, none⟩ = some (.bool x.rev) := hHeld.cell 3
        go_wp2_with (at_builtin; go_must (refine wpList_append_own _ rfl _ _ 25 rfl w.heap.size 38 i0 (.agg #[.string ⟨#[]⟩, .int .i64 0, .int .i64 0, .bool false]) 4 40 Try.underlying25 hi0 hz0 hz1 hz2 rfl (by decide) _ _ _ rfl (HR4.out.alloc _) ⟨_, 0, none⟩ 1 1 [.string x.nm, .int .i64 x.of, .int .i64 x.n, .bool x.rev] rfl rfl HZ.out (by simp [Value.oneCell']) (by unfold maxLen; omega) (by omega) (by have := HB4.out.size; simp; omega) ?_); intro v' w5 ho5 hg5 _)
        have hlt5 := HR4.out.lt
        have hN5 := HN4.out.alloc (.cells #[.string x.nm, .int .i64 x.of, .int .i64 x.n, .bool x.rev] 38)
        have HN5 := Lib.hid (hN5.kept hg5 (fun e => row_ne_map (HR4.out.alloc (.cells #[.string x.nm, .int .i64 x.of, .int .i64 x.n, .bool x.rev] 38)) hN5 e.symm))
        have hb5 := (HB4.out.alloc HB4.out.size (.cells #[.string x.nm, .int .i64 x.of, .int .i64 x.n, .bool x.rev] 38)).grown hg5 (by have := HB4.out.size; simp; omega) (fun j hj => (hlt5 j hj).1)
        have HLL := Lib.hid (show (out ++ [x]).length ≤ LP + (k + 1) by rw [List.length_append, HNN.out]; simp; omega)
        have HR5 := Lib.hid (show w5.ownsRow w.heap.size 38 4 v' (out ++ [x]).length ((out ++ [x]).flatMap ccs) by
          rw [List.flatMap_append, List.length_append, HNN.out]
          simpa using ho5)
        clear ho5 hlt5 hg5 hN5
        go_roundw
        case rel => exact ⟨k + 1, out ++ [x], _, _, _, rfl, by omega, by go_num, HJ.out.symm, HLL.out, HR5.out, HN5.out, by omega, HM4.out, hb5⟩
        case measure => simp [intOf]; omega
    · have hltI : ¬ (k : Int) < (L : Int) := by omega
      obtain rfl : k = L := by omega
      have HF := Lib.hid (show joinD p s = out by rw [← HL.out, List.take_of_length_le (Nat.le_refl _)] at hj; exact hj)
      clear hj
      go_wp2
      go_ret
      exact ⟨_, rfl, by rw [HF.out, HNN.out]; exact hrow, hbw⟩
end Go.Proofs.Ytmnjopbfdocinaa
