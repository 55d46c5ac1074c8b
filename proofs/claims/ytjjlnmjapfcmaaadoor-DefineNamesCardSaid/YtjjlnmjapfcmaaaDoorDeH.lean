
import Derived.Test.YtjjlnmjapfcmaaaDoorDeG
namespace Go.Proofs.YtjjlnmjapfcmaaaDoor
open Go.RowKit
abbrev loI : Int := -2147483648
abbrev hiI : Int := 2147483647
def pairT (x y : Tok) : Option (Int × Int) := if ((bouS x loI).2 && (bouS y hiI).2 && decide ((bouS x loI).1 ≤ (bouS y hiI).1)) = true then some ((bouS x loI).1, (bouS y hiI).1) else none
def pairR (p : List Nd) : Option (Int × Int) := match p with
  | [x, y] => pairT x.tok y.tok
  | _ => none
theorem pairR_no {p : List Nd} (h : p.length ≠ 2) : pairR p = none := by
  unfold pairR
  split
  · exact absurd rfl h
  · rfl
def rangesR : List (List Nd) → Option (List (Int × Int))
  | [] => some []
  | p :: ps => match pairR p with
    | none => none
    | some q => (rangesR ps).map (q :: ·)
def aheadR (out : List (Int × Int)) (r : Option (List (Int × Int))) : Option (List (Int × Int)) := r.map (out ++ ·)
theorem rangesR_no {p : List Nd} {ps : List (List Nd)} (h : pairR p = none) : rangesR (p :: ps) = none := by rw [rangesR, h]
theorem rangesR_yes {p : List Nd} {ps : List (List Nd)} {q : Int × Int} (out : List (Int × Int)) (h : pairR p = some q) : aheadR out (rangesR (p :: ps)) = aheadR (out ++ [q]) (rangesR ps) := by
  rw [rangesR, h]
  unfold aheadR
  cases rangesR ps
  · rfl
  · simp
abbrev autL : List UInt8 := [97, 117, 116, 111]
def isAuto (l : List Nd) : Bool := match l with
  | [n] => (wordS n.tok).toList == [97, 117, 116, 111]
  | _ => false
theorem isAuto_no {l : List Nd} (h : l.length ≠ 1) : isAuto l = false := by
  unfold isAuto
  split
  · exact absurd rfl h
  · rfl
def takeRngS (l : List Nd) (st : StD) : StD × Bool :=
  if isAuto l = true then ({ st with d := { st.d with auto := true, rng := [] } }, true) else
  match rangesR (splS l) with
  | none => (st, false)
  | some r => ({ st with d := { st.d with auto := false, rng := r } }, true)
theorem splA_mem : ∀ (l now : List Nd), ∀ p ∈ splA now l, ∀ n ∈ p, n ∈ now ∨ n ∈ l
  | [], now, p, hp, n, hn => by
    rw [splA] at hp
    simp at hp
    subst hp
    exact .inl hn
  | m :: l, now, p, hp, n, hn => by
    rw [splA] at hp
    split at hp
    · rcases List.mem_cons.1 hp with rfl | hp
      · exact .inl hn
      · rcases splA_mem l [] p hp n hn with h | h
        · simp at h
        · exact .inr (by simp [h])
    · rcases splA_mem l (now ++ [m]) p hp n hn with h | h
      · rcases List.mem_append.1 h with h | h
        · exact .inl h
        · simp at h; subst h; exact .inr (by simp)
      · exact .inr (by simp [h])
theorem info_two : (Tryd.prog.info? 54).map (fun i => (i.zero, i.size, i.bytes)) = some (some (.agg #[.int .i64 0, .int .i64 0]), 2, 16) := by kernel_rfl
theorem OwnP.snoc {B : Nat} {w : World} {v : Value} {l : List (Int × Int)} {x : Int × Int} (h : w.ownsRow B 54 2 v (l.length + 1) (l.flatMap pcells ++ pcells x)) : OwnP B w v (l ++ [x]) := by
  unfold OwnP
  rw [List.length_append, List.length_singleton, List.flatMap_append]
  simpa using h
theorem two_new (w : World) (p : Int × Int) (T : TypeId) (H : Nat) : w.heap.size = H → ∀ j y, (pcells p)[j]? = some y → (w.alloc (.cells #[.int .i64 p.1, .int .i64 p.2] T)).cell? ((⟨H, 0, none⟩ : Addr).add j) = some y := fun h => by
  subst h
  exact World.news_of_block (cs := #[.int .i64 p.1, .int .i64 p.2]) (heap_alloc_self _ _)
theorem two_one (p : Int × Int) : ∀ u ∈ pcells p, u.oneCell' = true := by
  intro u hu
  simp only [pcells, List.mem_cons, List.not_mem_nil, or_false] at hu
  rcases hu with rfl | rfl <;> rfl
set_option maxRecDepth 100000 in
set_option maxHeartbeats 12800000 in
theorem takeRng_any {l : List Nd} {v : Value} {w : World} {P : Nat → Prop} {B b : Nat} {st : StD} {sv av wv rv : Value} (hI : StI B w b st sv av wv rv) (h : RdN w P v l) (hl : szL l ≤ 100000000) (hx : TX l) (hBw : B ≤ w.heap.size) :
    Calls Tryd.prog 51 #[.pointer (some ⟨b, 0, none⟩), v] w (TakePost B w b (takeRngS l st)) := by
  obtain ⟨i0, hi, hz0, hz1, hz2⟩ := info_parts info_two
  have HI := Lib.hid hI
  have HX := Lib.hid hx
  have HH := Lib.hid h
  have hll := szL_ge l
  have HR : Hid (takeRngS l st = if isAuto l = true then ({ st with d := { st.d with auto := true, rng := [] } }, true) else match rangesR (splS l) with
    | none => (st, false)
    | some r => ({ st with d := { st.d with auto := false, rng := r } }, true)) := rfl
  generalize takeRngS l st = R at *
  obtain ⟨a, c, rfl, hlc⟩ := h.shape
  obtain ⟨N, hN⟩ : ∃ N, l.length = N := ⟨_, rfl⟩
  rw [hN] at hll hlc HH ⊢
  have HN := Lib.hid hN
  clear hI h hx hN
  obtain ⟨AU, hAU⟩ : ∃ x, isAuto l = x := ⟨_, rfl⟩
  have HAU := Lib.hid hAU
  clear hAU
  go_enter Tryd.func51, Tryd.ntmps51
  go_upto_region 1 with fail
  go_cut [21] from 12 to 20 (fun cv wx => cv = .bool AU ∧ Below w.heap.size w wx)
  case first =>
    by_cases hlen : l.length = 1
    · obtain ⟨n, rfl⟩ := List.length_eq_one_iff.1 hlen
      obtain ⟨g, off, c2, u, hv2, hle2, _, hbl, hat, hku⟩ := HH.out.at 0 (by simp)
      injection hv2 with e1 e2 e3
      subst e1 e3
      have m9 : (0 : Int) < (N : Int) := by have : 1 = N := HN.out; omega
      have hn1 : ((N : Int) == 1) = true := by have : 1 = N := HN.out; simp; omega
      obtain ⟨tk, q⟩ := n
      have htx := HX.out (.mk tk q) (by simp)
      simp only [List.getElem_cons_zero, Nd.tok, Nd.kids] at hat hku htx
      obtain ⟨ua, uc, hus, _⟩ := hku.shape
      subst hus
      obtain ⟨p0, p1, p2, p3, p4, p5, p6⟩ := hat
      rw [Nat.zero_mul, Nat.add_zero] at p0 p1 p2 p3 p4 p5 p6
      have HA2 : Hid (((wordS tk).toList == [97, 117, 116, 111]) = AU) := HAU.out
      generalize hws : wordS tk = WS at *
      have HWS := Lib.hid hws
      have ha2 := HA2.out
      clear hws e2 hlen hku
      go_wp2_with (go_at_call 72; (with_reducible refine (word_any _ _ _ _ _ htx).mono ?_); rintro e w5 ⟨rfl, hb5⟩; rw [HWS.out])
      go_meet
      exact ⟨rfl, hb5⟩
    · have hn1 : ((N : Int) == 1) = false := beq_eq_false_iff_ne.2 (by have := HN.out; omega)
      have hn2 : ¬ (N : Int) = 1 := by have := HN.out; omega
      have HA2 : Hid (AU = false) := HAU.out.symm.trans (isAuto_no hlen)
      go_wp2
      go_meet
      exact ⟨by rw [HA2.out], Below.refl _ _⟩
  case rest =>
    obtain ⟨rfl, hb5⟩ := hcut
    obtain ⟨w5, rfl⟩ : ∃ w5 : World, w5 = wc := ⟨_, rfl⟩
    have HB5 := Lib.hid hb5
    have HI5 := Lib.hid (HI.out.below hb5)
    have HH5 := Lib.hid (HH.out.under hb5 (Nat.le_refl _))
    clear hb5
    cases AU
    · have HR2 : Hid (R = match rangesR (splS l) with
        | none => (st, false)
        | some r => ({ st with d := { st.d with auto := false, rng := r } }, true)) := HR.out.trans (if_neg (by rw [HAU.out]; decide))
      have HSP := Lib.hid (fun p (hp : p ∈ splS l) n (hn : n ∈ p) => HX.out n ((splA_mem l [] p hp n hn).resolve_left (by simp)))
      have HSC := Lib.hid (split_any HH5.out hl)
      have HKL : Hid ((splS l).length ≤ N + 1) := by
        show _ ≤ _
        rw [splS_len, ← HN.out]
        have := List.length_filter_le isCm l
        unfold cmN
        omega
      generalize hsl : splS l = SL at *
      have HSL := Lib.hid hsl
      clear hsl
      go_wp2_with fail
      refine HSC.out.mono ?_
      rintro e w6 ⟨⟨v6, ks, rfl, hls, hks⟩, hb6⟩
      rw [HSL.out] at hks
      have HLS := Lib.hid hls
      have HKS := Lib.hid hks
      have HB6 := Lib.hid (below_seq HB5.out hb6)
      have HI6 := Lib.hid (HI5.out.below hb6)
      obtain ⟨la, lc, rfl, hlc2⟩ := hls.sl
      obtain ⟨K, hK⟩ : ∃ K, ks.length = K := ⟨_, rfl⟩
      have HK := Lib.hid hK
      have hKB : K ≤ 100000001 := by
        have h1 := HKL.out
        rw [← hks, List.length_map, hK] at h1
        omega
      rw [hK] at hlc2 ⊢
      clear hls hks hb6 hK
      go_wp2_with fail
      go_loopw [5, 33] (fun ov iv wr => ∃ (i : Nat) (o0 : Value) (out : List (Int × Int)), o0 = ov ∧ iv = .int .i64 i ∧ i ≤ K ∧ OwnP w6.heap.size wr o0 out ∧ out.length ≤ i ∧ aheadR out (rangesR (SL.drop i)) = rangesR SL ∧ Below w6.heap.size w6 wr) (fun _ iv _ => K - (intOf iv).toNat)
      case atStart => exact ⟨0, _, [], rfl, rfl, Nat.zero_le _, OwnP.nil _ _, Nat.le_refl _, by rw [List.drop_zero]; unfold aheadR; cases rangesR SL <;> simp, Below.refl _ _⟩
      case round =>
        obtain ⟨i, o0, out, rfl, rfl, hiK, hown, hol, hrun, hBR⟩ := hrel
        have hws := hBR.size
        have HBR := Lib.hid hBR
        have HRUN := Lib.hid hrun
        obtain ⟨ba, bc, rfl, _⟩ := row_sl hown
        obtain ⟨m, hm⟩ : ∃ m, out.length = m := ⟨_, rfl⟩
        have HOW : Hid (wr.ownsRow w6.heap.size 54 2 (.slice ba m bc) m (out.flatMap pcells)) := by
          have hh := hown
          unfold OwnP at hh
          rw [hm] at hh
          exact hh
        rw [hm] at hol ⊢
        have HM := Lib.hid hm
        have HIR := Lib.hid (HI6.out.below hBR)
        clear hBR hrun hown hm
        by_cases hlt : i < K
        · have hltI : (i : Int) < (K : Int) := by omega
          have hi0 : (0 : Int) ≤ (i : Int) := by omega
          have hik : i < ks.length := by rw [HK.out]; exact hlt
          have hrow := HLS.out.row
          rw [HK.out] at hrow
          obtain ⟨g, cap, hgv, hgb, hgl⟩ := hrow.form (by omega)
          injection hgv with e1 _ e3
          subst e1 e3
          have k1 : wr.cell? ⟨g, i, none⟩ = some (ks[i]'hik).1 := by
            have := hrow.cells (g := g) rfl i (ks[i]'hik).1 (by rw [List.getElem?_map, List.getElem?_eq_getElem hik]; rfl)
            rw [add0] at this
            exact (HBR.out.cell (p := ⟨g, i, none⟩) hgl).trans this
          have hrd := (HLS.out.rd (ks[i]'hik) (List.getElem_mem hik)).under HBR.out (Nat.le_refl _)
          have HDR : Hid (SL.drop i = (ks[i]'hik).2 :: SL.drop (i + 1)) := by
            show _ = _
            have h1 : i < SL.length := by rw [← HKS.out, List.length_map]; exact hik
            rw [List.drop_eq_getElem_cons h1]
            congr 1
            simp [← HKS.out]
          have HTX := Lib.hid (fun n (hn : n ∈ (ks[i]'hik).2) => HSP.out (ks[i]'hik).2 (by rw [← HKS.out]; exact List.mem_map_of_mem (List.getElem_mem hik)) n hn)
          generalize (ks[i]'hik) = kx at *
          obtain ⟨pv, p⟩ := kx
          simp only at k1 hrd HDR HTX
          obtain ⟨pa, pc, rfl, hpc⟩ := hrd.shape
          by_cases hlen : p.length = 2
          · obtain ⟨x, y, rfl⟩ : ∃ x y, p = [x, y] := by
              match p, hlen with
              | [x, y], _ => exact ⟨x, y, rfl⟩
            obtain ⟨pg, poff, pc1, u1, hv1, _, _, hpb, hat1, hku1⟩ := hrd.at 0 (by simp)
            obtain ⟨pg', poff', pc2, u2, hv2, _, _, _, hat2, hku2⟩ := hrd.at 1 (by simp)
            injection hv1 with e1 _ e3
            subst e1 e3
            injection hv2 with e1 _ _
            injection e1 with e1
            injection e1 with e1 e2
            subst e1 e2
            obtain ⟨t1, q1'⟩ := x
            obtain ⟨t2, q2'⟩ := y
            have htx1 : t1.text.size ≤ 1000000000 := HTX.out (.mk t1 q1') (by simp)
            have htx2 : t2.text.size ≤ 1000000000 := HTX.out (.mk t2 q2') (by simp)
            simp only [List.getElem_cons_zero, List.getElem_cons_succ, Nd.tok, Nd.kids] at hat1 hat2 hku1 hku2
            obtain ⟨ua, uc, hus, _⟩ := hku1.shape
            obtain ⟨ub, ud, hus2, _⟩ := hku2.shape
            subst hus hus2
            obtain ⟨p0, p1, p2, p3, p4, p5, p6⟩ := hat1
            obtain ⟨q0, q1, q2, q3, q4, q5, q6⟩ := hat2
            rw [Nat.zero_mul, Nat.add_zero] at p0 p1 p2 p3 p4 p5 p6
            rw [Nat.one_mul] at q0 q1 q2 q3 q4 q5 q6
            have hz2 : ([Nd.mk t1 q1', Nd.mk t2 q2'] : List Nd).length = 2 := rfl
            rw [hz2] at k1
            clear hz2 hku1 hku2 hrd hlen
            have HPT : Hid (pairR [.mk t1 q1', .mk t2 q2'] = if ((bouS t1 loI).2 && (bouS t2 hiI).2 && decide ((bouS t1 loI).1 ≤ (bouS t2 hiI).1)) = true then some ((bouS t1 loI).1, (bouS t2 hiI).1) else none) := rfl
            have hbx0 : bouS t1 (-2147483648) = bouS t1 loI := rfl
            have hby0 : bouS t2 2147483647 = bouS t2 hiI := rfl
            obtain ⟨BX, hBX⟩ : ∃ x, bouS t1 (-2147483648) = x := ⟨_, rfl⟩
            obtain ⟨BY, hBY⟩ : ∃ x, bouS t2 2147483647 = x := ⟨_, rfl⟩
            rw [← hbx0, ← hby0, hBX, hBY] at HPT
            have HBX := Lib.hid hBX
            have HBY := Lib.hid hBY
            clear hBX hBY hbx0 hby0
            cases hb1 : BX.2
            · have HPN : pairR [.mk t1 q1', .mk t2 q2'] = none := by rw [HPT.out, hb1, Bool.false_and, Bool.false_and]; rfl
              have HR3 : Hid (R = (st, false)) := by
                show _ = _
                rw [HR2.out, ← HRUN.out, HDR.out, rangesR_no HPN]
                rfl
              clear HPN
              go_wp2_with (first | (go_at_call 78; (with_reducible refine (bound_any t1 _ _ _ _ _ htx1).mono ?_); rintro e w7 ⟨rfl, hb7⟩; rw [HBX.out]; have HB7 := Lib.hid hb7; have hwb := hb7.size; have y0 := (HB7.out.cell (p := ⟨pg, poff + 7, none⟩) hpb).trans q0; have y1 := (HB7.out.cell (p := ⟨pg, poff + 7 + 1, none⟩) hpb).trans q1; have y2 := (HB7.out.cell (p := ⟨pg, poff + 7 + 2, none⟩) hpb).trans q2; have y3 := (HB7.out.cell (p := ⟨pg, poff + 7 + 3, none⟩) hpb).trans q3; have y4 := (HB7.out.cell (p := ⟨pg, poff + 7 + 4, none⟩) hpb).trans q4; have y5 := (HB7.out.cell (p := ⟨pg, poff + 7 + 5, none⟩) hpb).trans q5; have y6 := (HB7.out.cell (p := ⟨pg, poff + 7 + 6, none⟩) hpb).trans q6) | (go_at_call 78; (with_reducible refine (bound_any t2 _ _ _ _ _ htx2).mono ?_); rintro e w8 ⟨rfl, hb8⟩; rw [HBY.out]; have HB9 := Lib.hid (below_seq (below_seq HBR.out HB7.out) hb8); have HOW9 := Lib.hid (row_below (row_below HOW.out HB7.out) hb8)))
              go_ret
              rw [HR3.out]
              exact ⟨⟨_, _, _, _, rfl, HI6.out.below HB9.out⟩, gb_below (below_seq HB6.out HB9.out) _⟩
            · cases hb2 : BY.2
              · have HPN : pairR [.mk t1 q1', .mk t2 q2'] = none := by rw [HPT.out, hb2, Bool.and_false, Bool.false_and]; rfl
                have HR3 : Hid (R = (st, false)) := by
                  show _ = _
                  rw [HR2.out, ← HRUN.out, HDR.out, rangesR_no HPN]
                  rfl
                clear HPN
                go_wp2_with (first | (go_at_call 78; (with_reducible refine (bound_any t1 _ _ _ _ _ htx1).mono ?_); rintro e w7 ⟨rfl, hb7⟩; rw [HBX.out]; have HB7 := Lib.hid hb7; have hwb := hb7.size; have y0 := (HB7.out.cell (p := ⟨pg, poff + 7, none⟩) hpb).trans q0; have y1 := (HB7.out.cell (p := ⟨pg, poff + 7 + 1, none⟩) hpb).trans q1; have y2 := (HB7.out.cell (p := ⟨pg, poff + 7 + 2, none⟩) hpb).trans q2; have y3 := (HB7.out.cell (p := ⟨pg, poff + 7 + 3, none⟩) hpb).trans q3; have y4 := (HB7.out.cell (p := ⟨pg, poff + 7 + 4, none⟩) hpb).trans q4; have y5 := (HB7.out.cell (p := ⟨pg, poff + 7 + 5, none⟩) hpb).trans q5; have y6 := (HB7.out.cell (p := ⟨pg, poff + 7 + 6, none⟩) hpb).trans q6) | (go_at_call 78; (with_reducible refine (bound_any t2 _ _ _ _ _ htx2).mono ?_); rintro e w8 ⟨rfl, hb8⟩; rw [HBY.out]; have HB9 := Lib.hid (below_seq (below_seq HBR.out HB7.out) hb8); have HOW9 := Lib.hid (row_below (row_below HOW.out HB7.out) hb8)))
                go_ret
                rw [HR3.out]
                exact ⟨⟨_, _, _, _, rfl, HI6.out.below HB9.out⟩, gb_below (below_seq HB6.out HB9.out) _⟩
              · by_cases hb3 : BY.1 < BX.1
                · have HPN : pairR [.mk t1 q1', .mk t2 q2'] = none := by rw [HPT.out, decide_eq_false (show ¬ BX.1 ≤ BY.1 by omega), Bool.and_false]; rfl
                  have HR3 : Hid (R = (st, false)) := by
                    show _ = _
                    rw [HR2.out, ← HRUN.out, HDR.out, rangesR_no HPN]
                    rfl
                  clear HPN
                  go_wp2_with (first | (go_at_call 78; (with_reducible refine (bound_any t1 _ _ _ _ _ htx1).mono ?_); rintro e w7 ⟨rfl, hb7⟩; rw [HBX.out]; have HB7 := Lib.hid hb7; have hwb := hb7.size; have y0 := (HB7.out.cell (p := ⟨pg, poff + 7, none⟩) hpb).trans q0; have y1 := (HB7.out.cell (p := ⟨pg, poff + 7 + 1, none⟩) hpb).trans q1; have y2 := (HB7.out.cell (p := ⟨pg, poff + 7 + 2, none⟩) hpb).trans q2; have y3 := (HB7.out.cell (p := ⟨pg, poff + 7 + 3, none⟩) hpb).trans q3; have y4 := (HB7.out.cell (p := ⟨pg, poff + 7 + 4, none⟩) hpb).trans q4; have y5 := (HB7.out.cell (p := ⟨pg, poff + 7 + 5, none⟩) hpb).trans q5; have y6 := (HB7.out.cell (p := ⟨pg, poff + 7 + 6, none⟩) hpb).trans q6) | (go_at_call 78; (with_reducible refine (bound_any t2 _ _ _ _ _ htx2).mono ?_); rintro e w8 ⟨rfl, hb8⟩; rw [HBY.out]; have HB9 := Lib.hid (below_seq (below_seq HBR.out HB7.out) hb8); have HOW9 := Lib.hid (row_below (row_below HOW.out HB7.out) hb8)))
                  go_ret
                  rw [HR3.out]
                  exact ⟨⟨_, _, _, _, rfl, HI6.out.below HB9.out⟩, gb_below (below_seq HB6.out HB9.out) _⟩
                · have hb4 : decide (BY.1 < BX.1) = false := decide_eq_false hb3
                  have HPN : pairR [.mk t1 q1', .mk t2 q2'] = some (BX.1, BY.1) := by rw [HPT.out, hb1, hb2, decide_eq_true (show BX.1 ≤ BY.1 by omega)]; rfl
                  have HX2 : Hid (aheadR (out ++ [(BX.1, BY.1)]) (rangesR (SL.drop (i + 1))) = rangesR SL) := by
                    show _ = _
                    rw [← HRUN.out, HDR.out, rangesR_yes out HPN]
                  clear HPN
                  go_wp2_with (first | (go_at_call 78; (with_reducible refine (bound_any t1 _ _ _ _ _ htx1).mono ?_); rintro e w7 ⟨rfl, hb7⟩; rw [HBX.out]; have HB7 := Lib.hid hb7; have hwb := hb7.size; have y0 := (HB7.out.cell (p := ⟨pg, poff + 7, none⟩) hpb).trans q0; have y1 := (HB7.out.cell (p := ⟨pg, poff + 7 + 1, none⟩) hpb).trans q1; have y2 := (HB7.out.cell (p := ⟨pg, poff + 7 + 2, none⟩) hpb).trans q2; have y3 := (HB7.out.cell (p := ⟨pg, poff + 7 + 3, none⟩) hpb).trans q3; have y4 := (HB7.out.cell (p := ⟨pg, poff + 7 + 4, none⟩) hpb).trans q4; have y5 := (HB7.out.cell (p := ⟨pg, poff + 7 + 5, none⟩) hpb).trans q5; have y6 := (HB7.out.cell (p := ⟨pg, poff + 7 + 6, none⟩) hpb).trans q6) | (go_at_call 78; (with_reducible refine (bound_any t2 _ _ _ _ _ htx2).mono ?_); rintro e w8 ⟨rfl, hb8⟩; rw [HBY.out]; have HB9 := Lib.hid (below_seq (below_seq HBR.out HB7.out) hb8); have HOW9 := Lib.hid (row_below (row_below HOW.out HB7.out) hb8)) | (at_builtin; refine wpList_append_own _ rfl _ _ 28 rfl w6.heap.size 54 i0 (.agg #[.int .i64 0, .int .i64 0]) 2 16 Tryd.underlying28 hi hz0 hz1 hz2 rfl (by decide) _ _ _ rfl (HOW9.out.alloc _) ⟨w8.heap.size, 0, none⟩ 1 1 (pcells (BX.1, BY.1)) rfl rfl (two_new _ (BX.1, BY.1) _ _ rfl) (two_one _) (by unfold maxLen; omega) (by omega) (by have := HB9.out.size; simp; omega) ?_; intro v' w9 ho9 hg9 _))
                  have hb10 : Below w6.heap.size w6 w9 := (HB9.out.alloc HB9.out.size (.cells #[.int .i64 BX.1, .int .i64 BY.1] 54)).grown hg9 (by have := HB9.out.size; simp; omega) (fun q hq => (HOW.out.lt q hq).1)
                  go_roundw
                  case rel => exact ⟨i + 1, v', out ++ [(BX.1, BY.1)], rfl, by go_num, by omega, OwnP.snoc (by rw [HM.out]; exact ho9), by rw [List.length_append, HM.out]; simp; omega, HX2.out, hb10⟩
                  case measure => simp [intOf]; omega
          · have HPN := pairR_no hlen
            have HR3 : Hid (R = (st, false)) := by
              show _ = _
              rw [HR2.out, ← HRUN.out, HDR.out, rangesR_no HPN]
              rfl
            have hn1 : ((p.length : Int) == 2) = false := beq_eq_false_iff_ne.2 (by omega)
            have hn2 : ((p.length : Int) != 2) = true := by rw [bne, hn1]; rfl
            have hn3 : ¬ (p.length : Int) = 2 := by omega
            go_wp2
            go_ret
            rw [HR3.out]
            exact ⟨⟨_, _, _, _, rfl, HIR.out⟩, gb_below (below_seq HB6.out HBR.out) _⟩
        · obtain rfl : i = K := by omega
          have hE : rangesR SL = some out := by
            rw [← HRUN.out, show SL.drop i = [] from List.drop_eq_nil_of_le (by rw [← HKS.out, List.length_map, HK.out]; omega), rangesR]
            simp [aheadR]
          have HR3 : Hid (R = ({ st with d := { st.d with auto := false, rng := out } }, true)) := by
            show _ = _
            rw [HR2.out, hE]
          have HJ := Lib.hid (HIR.out.put 9 (.bool false) { st with d := { st.d with auto := false } } _ _ _ _ rfl HIR.out.sy HIR.out.ad HIR.out.we HIR.out.rn)
          have d9 : wr.cell? ⟨b, 9, none⟩ = some (.bool st.d.auto) := HIR.out.box.cell 9
          have f9 : wr.frozen? ⟨b, 9, none⟩ = false := HIR.out.box.frozen 9
          have d10 : (wr.setCell ⟨b, 9, none⟩ (.bool false)).cell? ⟨b, 10, none⟩ = some rv := HJ.out.box.cell 10
          have f10 : (wr.setCell ⟨b, 9, none⟩ (.bool false)).frozen? ⟨b, 10, none⟩ = false := HJ.out.box.frozen 10
          have hBB : B ≤ w6.heap.size := Nat.le_trans hBw HB6.out.size
          have hOP : OwnP B wr (.slice ba m bc) out := by
            unfold OwnP
            rw [HM.out]
            exact row_mono HOW.out hBB
          have HOP := Lib.hid (row_far hOP (row_neC hOP HIR.out.box (by decide)) (o := 9) (.bool false))
          clear hOP hE
          go_wp2
          go_ret
          rw [HR3.out]
          exact ⟨⟨_, _, _, _, rfl, HJ.out.put 10 (.slice ba m bc) { st with d := { st.d with auto := false, rng := out } } _ _ _ _ rfl HJ.out.sy HJ.out.ad HJ.out.we HOP.out⟩, gb_seq HB6.out (gb_put (gb_put (gb_below HBR.out _)))⟩
    · have HR2 : Hid (R = ({ st with d := { st.d with auto := true, rng := [] } }, true)) := HR.out.trans (if_pos HAU.out)
      have HJ := Lib.hid (HI5.out.put 9 (.bool true) { st with d := { st.d with auto := true } } _ _ _ _ rfl HI5.out.sy HI5.out.ad HI5.out.we HI5.out.rn)
      have d9 : w5.cell? ⟨b, 9, none⟩ = some (.bool st.d.auto) := HI5.out.box.cell 9
      have f9 : w5.frozen? ⟨b, 9, none⟩ = false := HI5.out.box.frozen 9
      have d10 : (w5.setCell ⟨b, 9, none⟩ (.bool true)).cell? ⟨b, 10, none⟩ = some rv := HJ.out.box.cell 10
      have f10 : (w5.setCell ⟨b, 9, none⟩ (.bool true)).frozen? ⟨b, 10, none⟩ = false := HJ.out.box.frozen 10
      go_wp2
      go_ret
      rw [HR2.out]
      exact ⟨⟨_, _, _, _, rfl, HJ.out.put 10 (.slice none 0 0) { st with d := { st.d with auto := true, rng := [] } } _ _ _ _ rfl HJ.out.sy HJ.out.ad HJ.out.we (OwnP.nil _ _)⟩, gb_seq HB5.out (gb_put (gb_put (World.grownBy.refl _ _)))⟩
end Go.Proofs.YtjjlnmjapfcmaaaDoor
namespace Go.Proofs.YtjjlnmjapfcmaaaDoor
open Go.RowKit
/-! `additive-symbols`. -/
def nextB (ws : List Int) (n : Int) : Bool := decide (0 < ws.length → n < nth ws (ws.length - 1))
def addF (ws : List Int) (ss : List ByteArray) : List (List Nd) → Option (List Int × List ByteArray)
  | [] => some (ws, ss)
  | p :: ps => if ((numdS p).2.2 && nextB ws (numdS p).1) = true then addF (ws ++ [(numdS p).1]) (ss ++ [(numdS p).2.1]) ps else none
def takeAddS (l : List Nd) (st : StD) : StD × Bool := match addF [] [] (splS l) with
  | none => (st, false)
  | some r => ({ st with adds := r.2, wts := r.1 }, true)
theorem splA_sz : ∀ (l now : List Nd), ∀ p ∈ splA now l, szL p ≤ szL now + szL l
  | [], now, p, hp => by
    rw [splA] at hp
    simp at hp
    subst hp
    exact Nat.le_add_right _ _
  | m :: l, now, p, hp => by
    have e : szL (m :: l) = szN m + szL l := rfl
    rw [splA] at hp
    split at hp
    · rcases List.mem_cons.1 hp with rfl | hp
      · omega
      · have := splA_sz l [] p hp
        have e0 : szL ([] : List Nd) = 0 := rfl
        omega
    · have := splA_sz l (now ++ [m]) p hp
      have e2 : ∀ a b : List Nd, szL (a ++ b) = szL a + szL b := fun a => by
        induction a with
        | nil => intro b; show szL b = 0 + szL b; omega
        | cons x r ih => intro b; show szN x + szL (r ++ b) = (szN x + szL r) + szL b; rw [ih]; omega
      rw [e2] at this
      have e3 : szL [m] = szN m + 0 := rfl
      omega
theorem apart_int_str {B B' : Nat} {w : World} {v u : Value} {n m : Nat} {xs ys : List Value} (h : w.ownsRow B 9 1 v n xs) (h2 : w.ownsRow B' 3 1 u m ys) : v.ownBlock = none ∨ v.ownBlock ≠ u.ownBlock := by
  rcases h.2 with ⟨rfl, _⟩ | ⟨g, cap, cur, rfl, _, hg, _⟩
  · exact .inl rfl
  · rcases h2.2 with ⟨rfl, _⟩ | ⟨g2, cap2, cur2, rfl, _, hg2, _⟩
    · exact .inr (by simp [Value.ownBlock])
    · refine .inr fun e => ?_
      have e2 : g = g2 := by simpa [Value.ownBlock] using e
      subst e2
      rw [hg] at hg2
      injection hg2 with hg2
      injection hg2 with _ hg2
      exact absurd hg2 (by decide)
theorem apart_int_str2 {B B' : Nat} {w : World} {v u : Value} {n m : Nat} {xs ys : List Value} (h : w.ownsRow B 3 1 v n xs) (h2 : w.ownsRow B' 9 1 u m ys) : v.ownBlock = none ∨ v.ownBlock ≠ u.ownBlock := by
  rcases h.2 with ⟨rfl, _⟩ | ⟨g, cap, cur, rfl, _, hg, _⟩
  · exact .inl rfl
  · rcases h2.2 with ⟨rfl, _⟩ | ⟨g2, cap2, cur2, rfl, _, hg2, _⟩
    · exact .inr (by simp [Value.ownBlock])
    · refine .inr fun e => ?_
      have e2 : g = g2 := by simpa [Value.ownBlock] using e
      subst e2
      rw [hg] at hg2
      injection hg2 with hg2
      injection hg2 with _ hg2
      exact absurd hg2 (by decide)
set_option maxRecDepth 100000 in
set_option maxHeartbeats 12800000 in
theorem takeAdd_any {l : List Nd} {v : Value} {w : World} {P : Nat → Prop} {B b : Nat} {st : StD} {sv av wv rv : Value} (hI : StI B w b st sv av wv rv) (h : RdN w P v l) (hl : szL l ≤ 100000000) (hBw : B ≤ w.heap.size) :
    Calls Tryd.prog 55 #[.pointer (some ⟨b, 0, none⟩), v] w (TakePost B w b (takeAddS l st)) := by
  obtain ⟨i0, hi, hz0, hz1, hz2⟩ := info_parts info_int
  obtain ⟨j0, hj0, hy0, hy1, hy2⟩ := info_parts info_str
  have HI := Lib.hid hI
  have HH := Lib.hid h
  have hll := szL_ge l
  have HR2 : Hid (takeAddS l st = match addF [] [] (splS l) with
    | none => (st, false)
    | some r => ({ st with adds := r.2, wts := r.1 }, true)) := rfl
  generalize takeAddS l st = R at *
  obtain ⟨a, c, rfl, hlc⟩ := h.shape
  obtain ⟨N, hN⟩ : ∃ N, l.length = N := ⟨_, rfl⟩
  rw [hN] at hll hlc HH ⊢
  have HN := Lib.hid hN
  clear hI h hN
  have HSP := Lib.hid (fun p (hp : p ∈ splS l) => Nat.le_trans (splA_sz l [] p hp) (show szL ([] : List Nd) + szL l ≤ 100000000 by have e0 : szL ([] : List Nd) = 0 := rfl; omega))
  have HSC := Lib.hid (split_any HH.out hl)
  have HKL : Hid ((splS l).length ≤ N + 1) := by
    show _ ≤ _
    rw [splS_len, ← HN.out]
    have := List.length_filter_le isCm l
    unfold cmN
    omega
  generalize hsl : splS l = SL at *
  have HSL := Lib.hid hsl
  clear hsl
  go_enter Tryd.func55, Tryd.ntmps55
  go_wp2_with fail
  refine HSC.out.mono ?_
  rintro e w6 ⟨⟨v6, ks, rfl, hls, hks⟩, hb6⟩
  rw [HSL.out] at hks
  have HLS := Lib.hid hls
  have HKS := Lib.hid hks
  have HB6 := Lib.hid hb6
  have HI6 := Lib.hid (HI.out.below hb6)
  obtain ⟨la, lc, rfl, hlc2⟩ := hls.sl
  obtain ⟨K, hK⟩ : ∃ K, ks.length = K := ⟨_, rfl⟩
  have HK := Lib.hid hK
  have hKB : K ≤ 100000001 := by
    have h1 := HKL.out
    rw [← hks, List.length_map, hK] at h1
    omega
  rw [hK] at hlc2 ⊢
  clear hls hks hb6 hK
  go_wp2_with fail
  go_loopw [5, 6, 15] (fun ov sv iv wr => ∃ (i : Nat) (o0 s0 : Value) (ws : List Int) (ss : List ByteArray), o0 = ov ∧ s0 = sv ∧ iv = .int .i64 i ∧ i ≤ K ∧ OwnN w6.heap.size wr o0 ws ∧ OwnT w6.heap.size wr s0 ss ∧ (o0.ownBlock = none ∨ o0.ownBlock ≠ s0.ownBlock) ∧ ws.length = i ∧ ss.length = i ∧ addF ws ss (SL.drop i) = addF [] [] SL ∧ Below w6.heap.size w6 wr) (fun _ _ iv _ => K - (intOf iv).toNat)
  case atStart => exact ⟨0, _, _, [], [], rfl, rfl, rfl, Nat.zero_le _, OwnN.nil _ _, OwnT.nil _ _, .inl rfl, rfl, rfl, by rw [List.drop_zero], Below.refl _ _⟩
  case round =>
    obtain ⟨i, o0, s0, ws, ss, rfl, rfl, rfl, hiK, hown, hos, hap, hwl, hsl2, hrun, hBR⟩ := hrel
    have hws := hBR.size
    have HBR := Lib.hid hBR
    have HRUN := Lib.hid hrun
    obtain ⟨ba, bc, rfl, _⟩ := row_sl hown
    obtain ⟨ta, tc, rfl, _⟩ := row_sl hos
    have HWN := Lib.hid hown
    have HOS := Lib.hid hos
    have HOW : Hid (wr.ownsRow w6.heap.size 3 1 (.slice ba i bc) i (ws.map (Value.int .i64))) := by
      have hh := hown
      unfold OwnN at hh
      rw [hwl] at hh
      exact hh
    have HOT : Hid (wr.ownsRow w6.heap.size 9 1 (.slice ta i tc) i (ss.map Value.string)) := by
      have hh := hos
      unfold OwnT at hh
      rw [hsl2] at hh
      exact hh
    rw [hwl] at hap ⊢
    rw [hsl2] at hap ⊢
    have HAP := Lib.hid hap
    have HWL := Lib.hid hwl
    have HSL2 := Lib.hid hsl2
    have HIR := Lib.hid (HI6.out.below hBR)
    clear hBR hrun hown hos hap hwl hsl2
    by_cases hlt : i < K
    · have hltI : (i : Int) < (K : Int) := by omega
      have hi0 : (0 : Int) ≤ (i : Int) := by omega
      have hik : i < ks.length := by rw [HK.out]; exact hlt
      have hrow := HLS.out.row
      rw [HK.out] at hrow
      obtain ⟨g, cap, hgv, hgb, hgl⟩ := hrow.form (by omega)
      injection hgv with e1 _ e3
      subst e1 e3
      have k1 : wr.cell? ⟨g, i, none⟩ = some (ks[i]'hik).1 := by
        have := hrow.cells (g := g) rfl i (ks[i]'hik).1 (by rw [List.getElem?_map, List.getElem?_eq_getElem hik]; rfl)
        rw [add0] at this
        exact (HBR.out.cell (p := ⟨g, i, none⟩) hgl).trans this
      have hrd := (HLS.out.rd (ks[i]'hik) (List.getElem_mem hik)).under HBR.out (Nat.le_refl _)
      have HDR : Hid (SL.drop i = (ks[i]'hik).2 :: SL.drop (i + 1)) := by
        show _ = _
        have h1 : i < SL.length := by rw [← HKS.out, List.length_map]; exact hik
        rw [List.drop_eq_getElem_cons h1]
        congr 1
        simp [← HKS.out]
      have hpz := HSP.out (ks[i]'hik).2 (by rw [← HKS.out]; exact List.mem_map_of_mem (List.getElem_mem hik))
      generalize (ks[i]'hik) = kx at *
      obtain ⟨pv, p⟩ := kx
      simp only at k1 hrd HDR hpz
      have HNC := Lib.hid (numbered_any hrd hpz)
      obtain ⟨pa, pc, rfl, hpc⟩ := hrd.shape
      obtain ⟨ND, hND⟩ : ∃ ND, numdS p = ND := ⟨_, rfl⟩
      have HND := Lib.hid hND
      rw [hND] at HNC
      clear hND hrd hpz hrow
      go_upto_region 7 with (go_at_call 79; refine HNC.out.mono ?_; rintro e w7 ⟨rfl, hb7⟩)
      have HB7 := Lib.hid (below_seq HBR.out hb7)
      have HB7o := Lib.hid hb7
      have HI7 := Lib.hid (HIR.out.below hb7)
      have HOW7 := Lib.hid (row_below HOW.out hb7)
      have HOT7 := Lib.hid (row_below HOT.out hb7)
      have HWN7 := Lib.hid (show OwnN w6.heap.size w7 (.slice ba ws.length bc) ws from row_below HWN.out hb7)
      clear hb7
      have HFA : Hid (∀ n s, ND = (n, s, false) → R = (st, false)) := fun n s hn => by
        rw [HR2.out, ← HRUN.out, HDR.out, addF, HND.out, hn]
        rfl
      have HFB : Hid (∀ n s, ND = (n, s, true) → nextB ws n = false → R = (st, false)) := fun n s hn hx => by
        rw [HR2.out, ← HRUN.out, HDR.out, addF, HND.out, hn, hx]
        rfl
      have HFC : Hid (∀ n s, ND = (n, s, true) → nextB ws n = true → addF (ws ++ [n]) (ss ++ [s]) (SL.drop (i + 1)) = addF [] [] SL) := fun n s hn hx => by
        rw [← HRUN.out, HDR.out]
        conv => rhs; rw [addF]
        rw [HND.out, hn, hx]
        rfl
      clear HRUN HNC
      obtain ⟨n, s, ok⟩ := ND
      cases ok
      · have HR3 := Lib.hid (HFA.out n s rfl)
        go_wp2
        go_ret
        rw [HR3.out]
        exact ⟨⟨_, _, _, _, rfl, HI7.out⟩, gb_below (below_seq HB6.out HB7.out) _⟩
      · by_cases hk0 : 0 < i
        · have hkI : (0 : Int) < (i : Int) := by omega
          have hkI1 : (1 : Int) ≤ (i : Int) := by omega
          have hp : (i : Int) - 1 = ((i - 1 : Nat) : Int) := by omega
          obtain ⟨wg, wcap, hwv, _, _⟩ := HOW7.out.form hk0
          injection hwv with e1 _ e3
          subst e1 e3
          have e2 : w7.cell? ⟨wg, i - 1, none⟩ = some (.int .i64 (nth ws (i - 1))) := by
            have h1 : i - 1 < ws.length := by rw [HWL.out]; omega
            have := HOW7.out.cells (g := wg) rfl (i - 1) (.int .i64 (nth ws (i - 1))) (by
              rw [List.getElem?_map, List.getElem?_eq_getElem h1]
              unfold nth
              rw [List.getD_eq_getElem?_getD, List.getElem?_eq_getElem h1]
              rfl)
            rw [add0] at this
            exact this
          by_cases hge : nth ws (i - 1) ≤ n
          · have HR3 := Lib.hid (HFB.out n s rfl (decide_eq_false (fun hh => by have := hh (by rw [HWL.out]; exact hk0); rw [HWL.out] at this; omega)))
            have hged : decide (nth ws (i - 1) ≤ n) = true := decide_eq_true hge
            generalize nth ws (i - 1) = nx at *
            go_wp2
            go_ret
            rw [HR3.out]
            exact ⟨⟨_, _, _, _, rfl, HI7.out⟩, gb_below (below_seq HB6.out HB7.out) _⟩
          · have HNXT := Lib.hid (HFC.out n s rfl (decide_eq_true (fun _ => by rw [HWL.out]; omega)))
            have hged : decide (nth ws (i - 1) ≤ n) = false := decide_eq_false hge
            generalize nth ws (i - 1) = nx at *
            have HLI := Lib.hid (show w6.heap.size ≤ w7.heap.size from HB7.out.size)
            go_wp2_with (first | (at_builtin; refine wpList_append_own_at _ rfl (.tmp 41) (.tmp 43) 26 rfl w6.heap.size 3 i0 (.int .i64 0) 1 8 Tryd.underlying26 hi hz0 hz1 hz2 rfl (by decide) _ _ _ rfl (HOW7.out.alloc _) ⟨w7.heap.size, 0, none⟩ 1 1 [.int .i64 n] rfl rfl (cell_one_new w7 (.int .i64 n) 3) (by simp [Value.oneCell']) (by unfold maxLen; omega) (by omega) (by have := HLI.out; simp; omega) ?_; intro v' w8 ho8 hg8 _ hat8; have HO8 := Lib.hid ho8; have HT8 := Lib.hid ((HOT7.out.alloc (.cells #[.int .i64 n] 3)).kept hg8 (apart_int_str HOT7.out HOW7.out)); have HB8 := Lib.hid ((HB7.out.alloc HLI.out (.cells #[.int .i64 n] 3)).grown hg8 (by have := HLI.out; simp; omega) (fun q hq => (HOW7.out.lt q hq).1)); have HL8 := Lib.hid HB8.out.size; clear ho8 hg8 hat8) | (at_builtin; refine wpList_append_own_at _ rfl (.tmp 45) (.tmp 47) 25 rfl w6.heap.size 9 j0 (.string ⟨#[]⟩) 1 16 Tryd.underlying25 hj0 hy0 hy1 hy2 rfl (by decide) _ _ _ rfl (HT8.out.alloc _) ⟨w8.heap.size, 0, none⟩ 1 1 [.string s] rfl rfl (cell_one_new w8 (.string s) 9) (by simp [Value.oneCell']) (by unfold maxLen; omega) (by omega) (by have := HL8.out; simp; omega) ?_; intro v'' w9 ho9 hg9 _ hat9; have HO9 := Lib.hid ((HO8.out.alloc (.cells #[.string s] 9)).kept hg9 (apart_int_str2 HO8.out HT8.out)); have HT9 := Lib.hid ho9; have HB9 := Lib.hid ((HB8.out.alloc HL8.out (.cells #[.string s] 9)).grown hg9 (by have := HL8.out; simp; omega) (fun q hq => (HT8.out.lt q hq).1)); clear ho9 hg9 hat9))
            go_roundw
            case rel => exact ⟨i + 1, v', v'', ws ++ [n], ss ++ [s], rfl, rfl, by go_num, by omega, OwnN.snoc (by rw [HWL.out]; exact HO9.out), OwnT.snoc (by rw [HSL2.out]; exact HT9.out), apart_int_str2 HO9.out HT9.out, by rw [List.length_append, HWL.out]; rfl, by rw [List.length_append, HSL2.out]; rfl, HNXT.out, HB9.out⟩
            case measure => simp [intOf]; omega
        · have hkI : ¬ (0 : Int) < (i : Int) := by omega
          have hd0 : decide ((0 : Int) < (i : Int)) = false := decide_eq_false hkI
          have HNXT := Lib.hid (HFC.out n s rfl (decide_eq_true (fun h => by rw [HWL.out] at h; omega)))
          have HLI := Lib.hid (show w6.heap.size ≤ w7.heap.size from HB7.out.size)
          go_wp2_with (first | (at_builtin; refine wpList_append_own_at _ rfl (.tmp 41) (.tmp 43) 26 rfl w6.heap.size 3 i0 (.int .i64 0) 1 8 Tryd.underlying26 hi hz0 hz1 hz2 rfl (by decide) _ _ _ rfl (HOW7.out.alloc _) ⟨w7.heap.size, 0, none⟩ 1 1 [.int .i64 n] rfl rfl (cell_one_new w7 (.int .i64 n) 3) (by simp [Value.oneCell']) (by unfold maxLen; omega) (by omega) (by have := HLI.out; simp; omega) ?_; intro v' w8 ho8 hg8 _ hat8; have HO8 := Lib.hid ho8; have HT8 := Lib.hid ((HOT7.out.alloc (.cells #[.int .i64 n] 3)).kept hg8 (apart_int_str HOT7.out HOW7.out)); have HB8 := Lib.hid ((HB7.out.alloc HLI.out (.cells #[.int .i64 n] 3)).grown hg8 (by have := HLI.out; simp; omega) (fun q hq => (HOW7.out.lt q hq).1)); have HL8 := Lib.hid HB8.out.size; clear ho8 hg8 hat8) | (at_builtin; refine wpList_append_own_at _ rfl (.tmp 45) (.tmp 47) 25 rfl w6.heap.size 9 j0 (.string ⟨#[]⟩) 1 16 Tryd.underlying25 hj0 hy0 hy1 hy2 rfl (by decide) _ _ _ rfl (HT8.out.alloc _) ⟨w8.heap.size, 0, none⟩ 1 1 [.string s] rfl rfl (cell_one_new w8 (.string s) 9) (by simp [Value.oneCell']) (by unfold maxLen; omega) (by omega) (by have := HL8.out; simp; omega) ?_; intro v'' w9 ho9 hg9 _ hat9; have HO9 := Lib.hid ((HO8.out.alloc (.cells #[.string s] 9)).kept hg9 (apart_int_str2 HO8.out HT8.out)); have HT9 := Lib.hid ho9; have HB9 := Lib.hid ((HB8.out.alloc HL8.out (.cells #[.string s] 9)).grown hg9 (by have := HL8.out; simp; omega) (fun q hq => (HT8.out.lt q hq).1)); clear ho9 hg9 hat9))
          go_roundw
          case rel => exact ⟨i + 1, v', v'', ws ++ [n], ss ++ [s], rfl, rfl, by go_num, by omega, OwnN.snoc (by rw [HWL.out]; exact HO9.out), OwnT.snoc (by rw [HSL2.out]; exact HT9.out), apart_int_str2 HO9.out HT9.out, by rw [List.length_append, HWL.out]; rfl, by rw [List.length_append, HSL2.out]; rfl, HNXT.out, HB9.out⟩
          case measure => simp [intOf]; omega
    · obtain rfl : i = K := by omega
      have hltI : ¬ (i : Int) < (i : Int) := by omega
      have hE : addF [] [] SL = some (ws, ss) := by
        rw [← HRUN.out, show SL.drop i = [] from List.drop_eq_nil_of_le (by rw [← HKS.out, List.length_map, HK.out]; omega), addF]
      have HR3 : Hid (R = ({ st with adds := ss, wts := ws }, true)) := by
        show _ = _
        rw [HR2.out, hE]
      have hBB : B ≤ w6.heap.size := HB6.out.size |> Nat.le_trans hBw
      have hON : OwnN B wr (.slice ba i bc) ws := by
        unfold OwnN
        rw [HWL.out]
        exact row_mono HOW.out hBB
      have hOT : OwnT B wr (.slice ta i tc) ss := by
        unfold OwnT
        rw [HSL2.out]
        exact row_mono HOT.out hBB
      have HJ := Lib.hid (HIR.out.put 18 (.slice ba i bc) { st with wts := ws } _ _ _ _ rfl HIR.out.sy HIR.out.ad hON HIR.out.rn)
      have HOT2 := Lib.hid (row_far hOT (row_neC hOT HIR.out.box (by decide)) (o := 18) (.slice ba i bc))
      have d18 : wr.cell? ⟨b, 18, none⟩ = some wv := HIR.out.box.cell 18
      have f18 : wr.frozen? ⟨b, 18, none⟩ = false := HIR.out.box.frozen 18
      have d17 : (wr.setCell ⟨b, 18, none⟩ (.slice ba i bc)).cell? ⟨b, 17, none⟩ = some av := HJ.out.box.cell 17
      have f17 : (wr.setCell ⟨b, 18, none⟩ (.slice ba i bc)).frozen? ⟨b, 17, none⟩ = false := HJ.out.box.frozen 17
      clear hE hON hOT
      go_wp2
      go_ret
      rw [HR3.out]
      exact ⟨⟨_, _, _, _, rfl, HJ.out.put 17 (.slice ta i tc) { st with adds := ss, wts := ws } _ _ _ _ rfl HJ.out.sy HOT2.out HJ.out.we HJ.out.rn⟩, gb_seq HB6.out (gb_put (gb_put (gb_below HBR.out _)))⟩
end Go.Proofs.YtjjlnmjapfcmaaaDoor
