
import Derived.Test.YtkpaokcgjeplpaaDoorShC
namespace Go.Proofs.YtkpaokcgjeplpaaDoor
open Go.RowKit
/-- What Decls answers. -/
def DeclsPost (w : World) (P : Nat → Prop) (ds : List DeclD) (e : Ending) (w' : World) : Prop := (∃ v', e = .returned v' ∧ RdD w' (fun b => P b ∨ w.heap.size ≤ b) v' ds) ∧ Below w.heap.size w w'
/-- What holds while Decls reads. -/
structure DecI (w : World) (P : Nat → Prop) (l : List Nd) (i : Nat) (wr : World) (ov : Value) (ks : List (Dc × DeclD)) : Prop where
  le : i ≤ l.length + 1
  row : LsD (fun b => P b ∧ b < w.heap.size) w.heap.size wr ov ks
  len : ks.length ≤ i
  run : ks.map Prod.snd ++ declsS (l.drop i) = declsS l
  bel : Below w.heap.size w wr
theorem decls_skip {l : List Nd} {i : Nat} {n : Nd} (hd : l.drop i = n :: l.drop (i + 1)) (h : (isWh n || semB n) = true) : declsS (l.drop i) = declsS (l.drop (i + 1)) := by
  rw [hd, declsS_cons, if_pos h]
theorem decls_at {l : List Nd} {i j : Nat} {n : Nd} (hd : l.drop i = n :: l.drop (i + 1)) (h : (isWh n || semB n) = false) (h3 : (n.tok.kind == 3) = true) (hs : (l.drop i).dropWhile skipB = l.drop j) (hk : skipB n = true) :
    declsS (l.drop i) = declsS (l.drop (j + 1)) := by
  rw [hd, List.dropWhile_cons, if_pos hk] at hs
  rw [hd, declsS_cons, if_neg (by rw [h]; decide), if_pos h3, hs, List.tail_drop]
theorem decls_one {l : List Nd} {i k : Nat} {n : Nd} (hd : l.drop i = n :: l.drop (i + 1)) (h : (isWh n || semB n) = false) (h3 : (n.tok.kind == 3) = false) (hs : (l.drop i).dropWhile nsemB = l.drop k ∧ (l.drop i).takeWhile nsemB = (l.take k).drop i) (hk : nsemB n = true) :
    declsS (l.drop i) = declOf ((l.take k).drop i) ++ declsS (l.drop k) := by
  obtain ⟨h1, h2⟩ := hs
  rw [hd, List.dropWhile_cons, if_pos hk] at h1
  rw [hd, List.takeWhile_cons, if_pos hk] at h2
  rw [hd, declsS_cons, if_neg (by rw [h]; decide), if_neg (by rw [h3]; decide), h1, h2]
/-- A declaration's White behind its name. -/
theorem trA_step {l : List Nd} {k c : Nat} (hc : c < k) (hk : k ≤ l.length) (hw : isWh (l[c]'(by omega)) = true) : trA ((l.take k).drop c) = trA ((l.take k).drop (c + 1)) := by
  rw [seg_cons hc hk, trA, if_pos hw]
theorem trA_stop {l : List Nd} {k c : Nat} (hc : c < k) (hk : k ≤ l.length) (hw : isWh (l[c]'(by omega)) = false) : trA ((l.take k).drop c) = (l[c]'(by omega)) :: (l.take k).drop (c + 1) := by
  rw [seg_cons hc hk, trA, if_neg (by rw [hw]; decide)]
theorem seg_nil {l : List Nd} {k : Nat} : (l.take k).drop k = [] := List.drop_eq_nil_of_le (by rw [List.length_take]; omega)
theorem declOf_seg {l : List Nd} {i k : Nat} (hi : i < k) (hk : k ≤ l.length) : declOf ((l.take k).drop i) = match trA ((l.take k).drop (i + 1)) with
    | [] => []
    | c :: v => if (((l[i]'(by omega)).tok.kind == 1) && (c.tok.kind == 16)) = true then (if mayV (valS v).1 = true then [⟨declN (l[i]'(by omega)).tok.text, (valS v).1, (valS v).2⟩] else []) else [] := by
  rw [seg_cons hi hk]
  rfl
set_option maxRecDepth 100000 in
set_option maxHeartbeats 6400000 in
theorem refdecls_any {l : List Nd} {v : Value} {w : World} {P : Nat → Prop} (h : RdN w P v l) (hl : szL l ≤ 100000000) (hx : TX l) :
    Calls Tryd.prog 44 #[v] w (DeclsPost w P (declsS l)) := by
  obtain ⟨i0, hi, hz0, hz1, hz2⟩ := info_parts info_decl
  have hll := szL_ge l
  have HX := Lib.hid hx
  have HZ := Lib.hid hl
  obtain ⟨a, c, rfl, hlc⟩ := h.shape
  have HH := Lib.hid (h.weak (Q := fun b => P b ∧ b < w.heap.size) fun b hl hb => ⟨hb, hl⟩)
  obtain ⟨N, hN⟩ : ∃ N, l.length = N := ⟨_, rfl⟩
  rw [hN] at hll hlc HH ⊢
  have HN := Lib.hid hN
  clear h hN hx
  go_enter Tryd.func44, Tryd.ntmps44
  go_wp2
  go_loopw [3, 4] (fun ov iv wr => ∃ (i : Nat) (o0 : Value) (ks : List (Dc × DeclD)), o0 = ov ∧ iv = .int .i64 i ∧ DecI w P l i wr o0 ks) (fun _ iv _ => N - (intOf iv).toNat)
  case atStart => exact ⟨0, _, [], rfl, rfl, by omega, LsD.nil _ _ _, Nat.le_refl _, rfl, Below.refl _ _⟩
  case round =>
    obtain ⟨i, o0, ks, rfl, rfl, hI⟩ := hrel
    have hws := hI.bel.size
    have hiN := hI.le
    have hki := hI.len
    have HI := Lib.hid hI
    obtain ⟨oa, oc, rfl, hoc⟩ := row_sl hI.row.row
    obtain ⟨m, hm⟩ : ∃ m, ks.length = m := ⟨_, rfl⟩
    rw [hm] at hki hoc
    have HM := Lib.hid hm
    rw [HN.out] at hiN
    clear hI
    have HROW : Hid (LsD (fun b => P b ∧ b < w.heap.size) w.heap.size wr (.slice oa m oc) ks) := by
      have hh := HI.out.row
      rw [hm] at hh
      exact hh
    obtain ⟨wo, rfl⟩ : ∃ wo : World, wo = wr := ⟨_, rfl⟩
    rw [hm] at ⊢
    clear hm
    by_cases hlt : i < N
    · have hr := HH.out.under HI.out.bel (Nat.le_refl _)
      obtain ⟨b, off, c2, hv2, _, _, hbl, g1⟩ := hr.base (by rw [HN.out]; omega)
      rw [HN.out] at hv2
      injection hv2 with e1 _ e3
      subst e1 e3
      have G1 := Lib.hid g1
      have HSK := Lib.hid hr
      clear hr g1
      obtain ⟨u, hat, hku⟩ := G1.out i (by rw [HN.out]; exact hlt)
      have hdr : l.drop i = l[i]'(by rw [HN.out]; exact hlt) :: l.drop (i + 1) := List.drop_eq_getElem_cons (by rw [HN.out]; exact hlt)
      have HTX := Lib.hid (HX.out _ (List.getElem_mem (show i < l.length by rw [HN.out]; exact hlt)))
      have HEL := Lib.hid (rfl : l[i]'(by rw [HN.out]; exact hlt) = l[i]'(by rw [HN.out]; exact hlt))
      generalize hnd : l[i]'(by rw [HN.out]; exact hlt) = nd at *
      obtain ⟨t, k⟩ := nd
      have HND := Lib.hid hnd
      simp only [Nd.tok] at hat
      obtain ⟨c0, c1, c2', c3, c4, c5, c6⟩ := hat
      have HD := Lib.hid hdr
      have hx0 : (0 : Int) ≤ (i : Int) := by omega
      have hx1 : (i : Int) < (N : Int) := by omega
      have hsem : semB (.mk t k) = (t.kind == 17) := rfl
      have hwh0 := wh_iff t k
      have HAl := Lib.hid (show Below wo.heap.size wo (wo.alloc (.cells #[.int .i64 t.kind, .string t.text, .int .i64 t.int, .bool t.whole, .bool t.sign, .bool t.id] 84)) from (Below.refl _ _).alloc (Nat.le_refl _) _)
      clear hdr hku c6 hnd
      by_cases k13 : (t.kind == 13) = true
      · have HR := Lib.hid (decls_skip HD.out (by rw [hwh0, k13]; rfl))
        go_wp2
        go_roundw
        case rel => exact ⟨i + 1, _, ks, rfl, by go_num, by rw [HN.out]; omega, HROW.out.below HAl.out, by rw [HM.out]; omega, by rw [← HR.out]; exact HI.out.run, below_seq HI.out.bel HAl.out⟩
        case measure => simp [intOf]; omega
      have k13 : (t.kind == 13) = false := by simpa using k13
      by_cases k17 : (t.kind == 17) = true
      · have HR := Lib.hid (decls_skip HD.out (by rw [hsem, k17, Bool.or_true]))
        go_wp2
        go_roundw
        case rel => exact ⟨i + 1, _, ks, rfl, by go_num, by rw [HN.out]; omega, HROW.out.below HAl.out, by rw [HM.out]; omega, by rw [← HR.out]; exact HI.out.run, below_seq HI.out.bel HAl.out⟩
        case measure => simp [intOf]; omega
      have k17 : (t.kind == 17) = false := by simpa using k17
      have HNO := Lib.hid (show (isWh (.mk t k) || semB (.mk t k)) = false by rw [hwh0, hsem, k13, k17]; rfl)
      by_cases k3 : (t.kind == 3) = true
      · have HK3 := Lib.hid k3
        have HSK0 := Lib.hid (show skipB (.mk t k) = true by
          have e3 : t.kind = 3 := by simpa using k3
          unfold skipB semB blkB
          simp [Nd.tok, e3])
        go_wp2
        generalize wo.alloc (.cells #[.int .i64 t.kind, .string t.text, .int .i64 t.int, .bool t.whole, .bool t.sign, .bool t.id] 84) = W1 at *
        clear c0 c1 c2' c3 c4 c5
        go_loopw [4] (fun iv wr2 => ∃ j : Nat, iv = .int .i64 j ∧ Scan skipB l i j ∧ Below W1.heap.size W1 wr2) (fun iv _ => N - (intOf iv).toNat)
        case atStart => exact ⟨i, rfl, Scan.refl (by rw [HN.out]; omega), Below.refl _ _⟩
        case round =>
          obtain ⟨j, rfl, hS, hB2⟩ := hrel
          have hjN := hS.len
          have hij := hS.le
          rw [HN.out] at hjN
          have HS := Lib.hid hS
          have HB2 := Lib.hid hB2
          clear hS hB2
          have hy0 : (0 : Int) ≤ (j : Int) := by omega
          have HB3 := Lib.hid (below_seq HAl.out HB2.out)
          by_cases hjl : j < N
          · have hy1 : (j : Int) < (N : Int) := by omega
            obtain ⟨u2, hat2, hku2⟩ := G1.out j (by rw [HN.out]; exact hjl)
            have hat3 := hat2.move (w' := wr) (HB3.out.block b hbl)
            obtain ⟨ua, uc, hus, _⟩ := hku2.shape
            subst hus
            have HE := Lib.hid (fun h => HS.out.step (k := j) (by rw [HN.out]; exact hjl) h)
            have HF := Lib.hid (fun h => HS.out.stop (k := j) (by rw [HN.out]; exact hjl) h)
            clear hat2 hku2
            generalize l[j]'(by rw [HN.out]; exact hjl) = nj at *
            obtain ⟨tj, kj⟩ := nj
            simp only [Nd.tok, Nd.kids] at hat3
            obtain ⟨p0, p1, p2, p3, p4, p5, p6⟩ := hat3
            by_cases j17 : (tj.kind == 17) = true
            · have j17b : (tj.kind != 17) = false := by rw [bne, j17]; rfl
              have HR := Lib.hid (decls_at HD.out HNO.out HK3.out (HF.out (by unfold skipB semB; simp only [Nd.tok]; rw [j17]; rfl)).1 HSK0.out)
              go_wp2
              go_roundw
              case rel => exact ⟨j + 1, _, ks, rfl, by go_num, by rw [HN.out]; omega, HROW.out.below HB3.out, by rw [HM.out]; omega, by rw [← HR.out]; exact HI.out.run, below_seq HI.out.bel HB3.out⟩
              case measure => simp [intOf]; omega
            · have j17 : (tj.kind == 17) = false := by simpa using j17
              have j17b : (tj.kind != 17) = true := by rw [bne, j17]; rfl
              cases hbk : blkB (.mk tj kj)
              · have HX2 := Lib.hid (HE.out (by unfold skipB semB; simp only [Nd.tok]; rw [j17, hbk]; rfl))
                have HBK := Lib.hid hbk
                clear hbk
                go_wp2_with (go_at_call 55; refine (refblk_is HBK.out _ _ _ _).mono ?_; rintro e w5 ⟨rfl, hb5⟩)
                go_roundw
                case rel => exact ⟨j + 1, by go_num, HX2.out, below_seq HB2.out hb5⟩
                case measure => simp [intOf]; omega
              · have HR := Lib.hid (decls_at HD.out HNO.out HK3.out (HF.out (by unfold skipB semB; simp only [Nd.tok]; rw [j17, hbk]; rfl)).1 HSK0.out)
                have HBK := Lib.hid hbk
                clear hbk
                go_wp2_with (go_at_call 55; refine (refblk_is HBK.out _ _ _ _).mono ?_; rintro e w5 ⟨rfl, hb5⟩)
                go_roundw
                case rel => exact ⟨j + 1, _, ks, rfl, by go_num, by rw [HN.out]; omega, HROW.out.below (below_seq HB3.out hb5), by rw [HM.out]; omega, by rw [← HR.out]; exact HI.out.run, below_seq (below_seq HI.out.bel HB3.out) hb5⟩
                case measure => simp [intOf]; omega
          · have hy1 : ¬ (j : Int) < (N : Int) := by omega
            have hy1d : decide ((j : Int) < (N : Int)) = false := decide_eq_false hy1
            have HR := Lib.hid (decls_at HD.out HNO.out HK3.out (HS.out.out (by rw [HN.out]; omega)).1 HSK0.out)
            go_wp2
            go_roundw
            case rel => exact ⟨j + 1, _, ks, rfl, by go_num, by rw [HN.out]; omega, HROW.out.below HB3.out, by rw [HM.out]; omega, by rw [← HR.out]; exact HI.out.run, below_seq HI.out.bel HB3.out⟩
            case measure => simp [intOf]; omega
      have k3 : (t.kind == 3) = false := by simpa using k3
      have HK3 := Lib.hid k3
      have HNS := Lib.hid (show nsemB (.mk t k) = true by unfold nsemB; rw [hsem, k17]; rfl)
      go_wp2
      have HTB := Lib.hid (TB.new wo t)
      generalize hW1 : wo.alloc (.cells #[.int .i64 t.kind, .string t.text, .int .i64 t.int, .bool t.whole, .bool t.sign, .bool t.id] 84) = W1 at *
      clear hW1 c0 c1 c2' c3 c4 c5
      have G2 := Lib.hid (fun j hj => (G1.out j hj).elim fun u h => (⟨u, h.1.move (HAl.out.block b hbl)⟩ : ∃ u, NAt W1 b (off + j * 7) (l[j]).tok u))
      go_loop [6] (fun kv => ∃ kk : Nat, kv = .int .i64 kk ∧ Scan nsemB l i kk) (fun kv => N - (intOf kv).toNat)
      case atStart => exact ⟨i, rfl, Scan.refl (by rw [HN.out]; omega)⟩
      case round =>
        obtain ⟨kk, rfl, hS⟩ := hrel
        have hkN := hS.len
        have hik := hS.le
        rw [HN.out] at hkN
        have HS := Lib.hid hS
        clear hS
        have hy0 : (0 : Int) ≤ (kk : Int) := by omega
        by_cases hgo : ∃ hk : kk < l.length, nsemB (l[kk]) = true
        · obtain ⟨hk, hns⟩ := hgo
          have hkl : kk < N := by rw [← HN.out]; exact hk
          have hy1 : (kk : Int) < (N : Int) := by omega
          obtain ⟨u2, hat2⟩ := G2.out kk hk
          have HE := Lib.hid (HS.out.step (k := kk) hk hns)
          generalize l[kk] = nj at *
          obtain ⟨tj, kj⟩ := nj
          simp only [Nd.tok] at hat2
          obtain ⟨p0, p1, p2, p3, p4, p5, p6⟩ := hat2
          have j17 : (tj.kind == 17) = false := by
            unfold nsemB semB at hns
            simpa [Nd.tok] using hns
          have j17b : (tj.kind != 17) = true := by rw [bne, j17]; rfl
          clear hns p1 p2 p3 p4 p5 p6
          go_wp2
          go_round
          case rel => exact ⟨kk + 1, by go_num, HE.out⟩
          case measure => simp [intOf]; omega
        · have HSEG : Hid ((l.drop i).dropWhile nsemB = l.drop kk ∧ (l.drop i).takeWhile nsemB = (l.take kk).drop i) := by
            show _ ∧ _
            by_cases hkl : kk < N
            · exact HS.out.stop (by rw [HN.out]; exact hkl) (by
                cases hq : nsemB (l[kk]'(by rw [HN.out]; exact hkl))
                · rfl
                · exact absurd ⟨_, hq⟩ hgo)
            · exact HS.out.out (by rw [HN.out]; omega)
          have hik2 : i < kk := by
            rcases Nat.lt_or_ge i kk with hh | hh
            · exact hh
            · obtain rfl : i = kk := by omega
              exact absurd ⟨by rw [HN.out]; exact hlt, by rw [HND.out]; exact HNS.out⟩ hgo
          have HR := Lib.hid (decls_one HD.out HNO.out HK3.out HSEG.out HNS.out)
          have HOF := Lib.hid (declOf_seg (l := l) hik2 (by rw [HN.out]; exact hkN))
          have hst : (∃ hk : kk < N, ∃ tj uj, NAt W1 b (off + kk * 7) tj uj ∧ (tj.kind == 17) = true) ∨ kk = N := by
            by_cases hkl : kk < N
            · left
              obtain ⟨u2, hat2⟩ := G2.out kk (by rw [HN.out]; exact hkl)
              refine ⟨hkl, _, u2, hat2, ?_⟩
              cases hq : nsemB (l[kk]'(by rw [HN.out]; exact hkl))
              · unfold nsemB semB at hq
                simpa using hq
              · exact absurd ⟨_, hq⟩ hgo
            · right; omega
          clear hgo
          go_upto_region 12 with fail
          go_cut [71] from 59 to 70 (fun tv wx => tv = .bool false ∧ wx = W1)
          case first =>
            rcases hst with ⟨hkl, tj, uj, hat2, j17⟩ | hkN2
            · have hy1 : (kk : Int) < (N : Int) := by omega
              have j17b : (tj.kind != 17) = false := by rw [bne, j17]; rfl
              obtain ⟨q0, q1, q2, q3, q4, q5, q6⟩ := hat2
              go_wp2
              go_meet
              exact ⟨rfl, rfl⟩
            · have hy1 : ¬ (kk : Int) < (N : Int) := by omega
              have hy1d : decide ((kk : Int) < (N : Int)) = false := decide_eq_false hy1
              clear hkN2
              go_wp2
              go_meet
              exact ⟨rfl, rfl⟩
          case rest =>
            obtain ⟨rfl, hw⟩ := hcut
            have hw := hw.symm
            subst hw
            clear hst
            go_wp2
            go_loop [7] (fun cv => ∃ cc : Nat, cv = .int .i64 cc ∧ i + 1 ≤ cc ∧ cc ≤ kk ∧ trA ((l.take kk).drop (i + 1)) = trA ((l.take kk).drop cc)) (fun cv => N - (intOf cv).toNat)
            case atStart => exact ⟨i + 1, by go_num, Nat.le_refl _, by omega, rfl⟩
            case round =>
              obtain ⟨cc, rfl, hc1, hc2, hTA⟩ := hrel
              have HTA := Lib.hid hTA
              clear hTA
              have hcc0 : (0 : Int) ≤ (cc : Int) := by omega
              by_cases hck : cc < kk
              · have hck1 : (cc : Int) < (kk : Int) := by omega
                have hcN : (cc : Int) < (N : Int) := by omega
                obtain ⟨u2, hat2⟩ := G2.out cc (by rw [HN.out]; omega)
                have HA1 := Lib.hid (fun h => trA_step (l := l) hck (by rw [HN.out]; exact hkN) h)
                have HA2 := Lib.hid (fun h => trA_stop (l := l) hck (by rw [HN.out]; exact hkN) h)
                generalize l[cc]'(by rw [HN.out]; omega) = nc at *
                obtain ⟨tc, kc⟩ := nc
                simp only [Nd.tok] at hat2
                obtain ⟨p0, p1, p2, p3, p4, p5, p6⟩ := hat2
                by_cases c13 : (tc.kind == 13) = true
                · have HX := Lib.hid (HTA.out.trans (HA1.out (by rw [wh_iff]; exact c13)))
                  go_wp2
                  go_round
                  case rel => exact ⟨cc + 1, by go_num, by omega, by omega, HX.out⟩
                  case measure => simp [intOf]; omega
                · have c13 : (tc.kind == 13) = false := by simpa using c13
                  have HOF2 : Hid (declOf ((l.take kk).drop i) = if ((t.kind == 1) && (tc.kind == 16)) = true then (if mayV (valS ((l.take kk).drop (cc + 1))).1 = true then [⟨declN t.text, (valS ((l.take kk).drop (cc + 1))).1, (valS ((l.take kk).drop (cc + 1))).2⟩] else []) else []) := by
                    show _ = _
                    rw [HOF.out, HTA.out, HA2.out (by rw [wh_iff]; exact c13), HND.out]
                    rfl
                  have HZ0 := Lib.hid (show TB W1 wo.heap.size t from HTB.out)
                  obtain ⟨z0, z1⟩ := HZ0.out.at
                  by_cases k1 : (t.kind == 1) = true
                  · by_cases c16 : (tc.kind == 16) = true
                    · have HTR := Lib.hid (HOF2.out.trans (if_pos (by rw [k1, c16]; rfl)))
                      have hzz := HTB.out.at
                      obtain ⟨z0, z1⟩ := hzz
                      have hcle : (cc : Int) + 1 ≤ (kk : Int) := by omega
                      have hkc : (kk : Int) ≤ (c : Int) := by omega
                      have hc0 : (0 : Int) ≤ (cc : Int) + 1 := by omega
                      have hw1 : IntKind.i64.wrap ((cc : Int) + 1) = (cc : Int) + 1 := IntWalk.i64_in _ (by omega)
                      clear p1 p2 p3 p4 p5 p6
                      have HRD := Lib.hid (((HH.out.under (below_seq HI.out.bel HAl.out) (Nat.le_refl _)).take kk (by rw [HN.out]; exact hkN)).drop (cc + 1) (by rw [List.length_take, HN.out]; omega))
                      have HSV := Lib.hid (Nat.le_trans (val_sz ((l.take kk).drop (cc + 1))) (Nat.le_trans (szL_sub _ _) (Nat.le_trans (szL_le_take _ _) HZ.out)))
                      have HSW := Lib.hid (Nat.le_trans (szL_sub (cc + 1) (l.take kk)) (Nat.le_trans (szL_le_take kk l) HZ.out))
                      have HTW := Lib.hid (show TX ((l.take kk).drop (cc + 1)) from fun n hn => HX.out n (List.mem_of_mem_take (List.mem_of_mem_drop hn)))
                      go_upto_region 18 with fail
                      go_cut [8, 9] from 107 to 115 (fun vv bv wx => ∃ va vc, vv = .slice va (valS ((l.take kk).drop (cc + 1))).1.length vc ∧ bv = .bool (valS ((l.take kk).drop (cc + 1))).2 ∧ RdN wx (fun b => P b ∧ b < w.heap.size) (.slice va (valS ((l.take kk).drop (cc + 1))).1.length vc) (valS ((l.take kk).drop (cc + 1))).1 ∧ Below W1.heap.size W1 wx)
                      case first =>
                        by_cases hce : c = cc + 1
                        · have hce2 : cc + 1 = c := hce.symm
                          have HRE : Hid (RdN W1 (fun b => P b ∧ b < w.heap.size) (.slice (some ⟨b, off, none⟩) (kk - c) 0) ((l.take kk).drop (cc + 1))) := by
                            have hh := HRD.out.addr (A := some ⟨b, off, none⟩) (.inl (by omega))
                            rw [show c - (cc + 1) = 0 by omega, hce2] at hh
                            show RdN _ _ _ _
                            rw [hce2]
                            exact hh
                          clear hce
                          go_wp2_with fail
                          refine (refvalue_any HRE.out HSW.out HTW.out).mono ?_
                          rintro e w4 ⟨⟨v4, rfl, hv4⟩, hb4⟩
                          obtain ⟨va, vc, rfl, hvc⟩ := hv4.shape
                          go_wp2
                          go_meet
                          exact ⟨va, vc, by rw [hce2], by rw [hce2], hv4, hb4⟩
                        · go_wp2_with fail
                          refine (refvalue_any HRD.out HSW.out HTW.out).mono ?_
                          rintro e w4 ⟨⟨v4, rfl, hv4⟩, hb4⟩
                          obtain ⟨va, vc, rfl, hvc⟩ := hv4.shape
                          go_wp2
                          go_meet
                          exact ⟨va, vc, rfl, rfl, hv4, hb4⟩
                      case rest =>
                        obtain ⟨va, vc, rfl, rfl, hv4, hb4⟩ := hcut
                        clear HRD HSW HTW
                        obtain ⟨w4, rfl⟩ : ∃ w4 : World, w4 = wc := ⟨_, rfl⟩
                        generalize valS ((l.take kk).drop (cc + 1)) = VS at *
                        have HV4 := Lib.hid hv4
                        have HB4 := Lib.hid (below_seq HAl.out hb4)
                        have HT4 := Lib.hid (HTB.out.below hb4 HTB.out.lt)
                        clear z0 z1 hv4 hb4
                        obtain ⟨z0, z1⟩ := HT4.out.at
                        have htx : t.text.size ≤ 1000000000 := HTX.out
                        go_upto_region 20 with (go_at_call 57; (with_reducible refine (reflower_any _ _ htx).mono ?_); rintro e w5 ⟨rfl, hb5⟩; have hz5 := (HT4.out.below hb5 HT4.out.lt).at; obtain ⟨y0, y1⟩ := hz5; have HV5 := Lib.hid (HV4.out.under hb5 (Nat.le_refl _)))
                        go_cut [128] from 119 to 127 (fun nv wx => nv = .bool (dashB t.text) ∧ wx = w5)
                        case first =>
                          by_cases d1 : 2 ≤ t.text.size
                          · have d1I : (2 : Int) ≤ (t.text.size : Int) := by omega
                            by_cases d2 : ((t.text.extract 0 2).toList == [45, 45]) = true
                            · have HNM : Hid (dashB t.text = true) := by
                                show _ = _
                                unfold dashB
                                rw [d2, decide_eq_true d1]
                                rfl
                              go_wp2
                              go_meet
                              exact ⟨by rw [HNM.out], rfl⟩
                            · have d2 : ((t.text.extract 0 2).toList == [45, 45]) = false := by simpa using d2
                              have HNM : Hid (dashB t.text = false) := by
                                show _ = _
                                unfold dashB
                                rw [d2, Bool.and_false]
                              go_wp2
                              go_meet
                              exact ⟨by rw [HNM.out], rfl⟩
                          · have d1I : ¬ (2 : Int) ≤ (t.text.size : Int) := by omega
                            have d1J : (t.text.size : Int) < 2 := by omega
                            have d1d : decide ((2 : Int) ≤ (t.text.size : Int)) = false := decide_eq_false d1I
                            have HNM : Hid (dashB t.text = false) := by
                              show _ = _
                              unfold dashB
                              rw [decide_eq_false d1, Bool.false_and]
                            go_wp2
                            go_meet
                            exact ⟨by rw [HNM.out], rfl⟩
                        case rest =>
                          obtain ⟨rfl, hw⟩ := hcut
                          have hw := hw.symm
                          subst hw
                          have HDN : Hid (declN t.text = if dashB t.text = true then t.text else lowS t.text) := rfl
                          generalize dashB t.text = DB at *
                          generalize lowS t.text = LT at *
                          go_upto_if 128 with fail
                          go_cut [10] from 129 to 130 (fun nv wx => nv = .string (declN t.text) ∧ wx = w5)
                          case first =>
                            cases DB
                            · have HDM : Hid (declN t.text = LT) := HDN.out.trans (if_neg (by decide))
                              go_wp2
                              go_meet
                              exact ⟨by rw [HDM.out], rfl⟩
                            · have HDM : Hid (declN t.text = t.text) := HDN.out.trans (if_pos rfl)
                              go_wp2
                              go_meet
                              exact ⟨by rw [HDM.out], rfl⟩
                          case rest =>
                            obtain ⟨rfl, hw⟩ := hcut
                            have hw := hw.symm
                            subst hw
                            cases hmy : mayV VS.1
                            · have HMY := Lib.hid hmy
                              have HX : Hid (ks.map Prod.snd ++ declsS (l.drop kk) = declsS l) := by
                                show _ = _
                                rw [← HI.out.run, HR.out, HTR.out, if_neg (by rw [hmy]; decide)]
                                rfl
                              clear hmy
                              go_wp2_with (first | (go_at_call 58; (with_reducible refine (refmay_any HV5.out HSV.out).mono ?_); rintro e w6 ⟨rfl, hb6⟩; rw [HMY.out]))
                              have hb7 := below_seq (below_seq HB4.out hb5) hb6
                              go_roundw
                              case rel => exact ⟨kk, _, ks, rfl, rfl, by rw [HN.out]; omega, HROW.out.below hb7, by rw [HM.out]; omega, HX.out, below_seq HI.out.bel hb7⟩
                              case measure => simp [intOf]; omega
                            · have HMY := Lib.hid hmy
                              have HX : Hid (ks.map Prod.snd ++ ([⟨declN t.text, VS.1, VS.2⟩] ++ declsS (l.drop kk)) = declsS l) := by
                                show _ = _
                                rw [← HI.out.run, HR.out, HTR.out, if_pos (by rw [hmy])]
                              clear hmy
                              go_wp2_with (first | (go_at_call 58; (with_reducible refine (refmay_any HV5.out HSV.out).mono ?_); rintro e w6 ⟨rfl, hb6⟩; rw [HMY.out]; have HB7 := Lib.hid (below_seq (below_seq (below_seq HB4.out hb5) hb6) ((Below.refl w6.heap.size w6).alloc (Nat.le_refl _) (.cells #[.string (declN t.text), .slice va VS.1.length vc, .bool VS.2] 68))); have HBW := Lib.hid (below_seq HI.out.bel HB7.out); have HBZ := Lib.hid HBW.out.size; have HR6 := Lib.hid (HROW.out.below HB7.out); have HRW := HR6.out.row; rw [HM.out] at HRW; have HNEW := Lib.hid (dcells_new w6 (declN t.text) (.slice va VS.1.length vc) VS.2 68)) | (at_builtin; refine wpList_append_lies _ rfl _ _ 63 rfl w.heap.size 68 i0 (.agg #[.string ⟨#[]⟩, .slice none 0 0, .bool false]) 3 48 Tryd.underlying63 hi hz0 hz1 hz2 rfl (by decide) (.slice oa m oc) m ((ks.map Prod.fst).flatMap dcells) rfl HRW ⟨_, 0, none⟩ 1 1 (dcells (declN t.text, .slice va VS.1.length vc, VS.2)) rfl rfl HNEW.out (dcells_one _ _ _ _ _) (by decide) (by unfold maxLen; omega) (by omega) HBZ.out _ rfl ?_; intro g cap w7 hown7 hgrow7 hat7 hlt7))
                              have hob := fun q hq => World.ownsRow.lt HROW.out.row q hq
                              have hv7 := ((HV5.out.under hb6 (Nat.le_refl _)).under ((Below.refl w6.heap.size w6).alloc (Nat.le_refl _) (.cells #[.string (declN t.text), .slice va VS.1.length vc, .bool VS.2] 68)) (Nat.le_refl _)).weak (Q := fun b => (P b ∧ b < w.heap.size) ∧ (Value.slice oa m oc).ownBlock ≠ some b) fun q _ hq => ⟨hq, fun e => by have := (hob q e).1; omega⟩
                              have hP := HR6.out.push HM.out hown7 hgrow7 hat7 (x := (declN t.text, .slice va VS.1.length vc, VS.2)) (d := ⟨declN t.text, VS.1, VS.2⟩) ⟨rfl, rfl, hv7⟩
                              have hB8 := HBW.out.grown hgrow7 HBZ.out (fun q hq => (hob q hq).1)
                              go_roundw
                              case rel => exact ⟨kk, _, _, rfl, rfl, by rw [HN.out]; omega, hP, by rw [List.length_append, HM.out]; simp; omega, by rw [List.map_append, List.append_assoc]; exact HX.out, hB8⟩
                              case measure => simp [intOf]; omega
                    · have c16 : (tc.kind == 16) = false := by simpa using c16
                      have HX : Hid (ks.map Prod.snd ++ declsS (l.drop kk) = declsS l) := by
                        show _ = _
                        rw [← HI.out.run, HR.out, HOF2.out, if_neg (by rw [k1, c16]; decide)]
                        rfl
                      go_wp2
                      go_roundw
                      case rel => exact ⟨kk, _, ks, rfl, rfl, by rw [HN.out]; omega, HROW.out.below HAl.out, by rw [HM.out]; omega, HX.out, below_seq HI.out.bel HAl.out⟩
                      case measure => simp [intOf]; omega
                  · have k1 : (t.kind == 1) = false := by simpa using k1
                    have HX : Hid (ks.map Prod.snd ++ declsS (l.drop kk) = declsS l) := by
                      show _ = _
                      rw [← HI.out.run, HR.out, HOF2.out, if_neg (by rw [k1, Bool.false_and]; decide)]
                      rfl
                    go_wp2
                    go_roundw
                    case rel => exact ⟨kk, _, ks, rfl, rfl, by rw [HN.out]; omega, HROW.out.below HAl.out, by rw [HM.out]; omega, HX.out, below_seq HI.out.bel HAl.out⟩
                    case measure => simp [intOf]; omega
              · obtain rfl : cc = kk := by omega
                have hck1 : ¬ (cc : Int) < (cc : Int) := by omega
                have HZ0 := Lib.hid (show TB W1 wo.heap.size t from HTB.out)
                obtain ⟨z0, z1⟩ := HZ0.out.at
                have HX : Hid (ks.map Prod.snd ++ declsS (l.drop cc) = declsS l) := by
                  show _ = _
                  rw [← HI.out.run, HR.out, HOF.out, HTA.out, seg_nil]
                  rfl
                by_cases k1 : (t.kind == 1) = true
                · go_wp2
                  go_roundw
                  case rel => exact ⟨cc, _, ks, rfl, rfl, by rw [HN.out]; omega, HROW.out.below HAl.out, by rw [HM.out]; omega, HX.out, below_seq HI.out.bel HAl.out⟩
                  case measure => simp [intOf]; omega
                · have k1 : (t.kind == 1) = false := by simpa using k1
                  go_wp2
                  go_roundw
                  case rel => exact ⟨cc, _, ks, rfl, rfl, by rw [HN.out]; omega, HROW.out.below HAl.out, by rw [HM.out]; omega, HX.out, below_seq HI.out.bel HAl.out⟩
                  case measure => simp [intOf]; omega

    · have HDN := Lib.hid (show l.drop i = [] from List.drop_eq_nil_of_le (by rw [HN.out]; omega))
      have hltI : ¬ (i : Int) < (N : Int) := by omega
      go_wp2
      go_ret
      refine ⟨⟨_, rfl, ?_⟩, HI.out.bel⟩
      have h := HI.out.run
      rw [HDN.out, declsS_nil, List.append_nil] at h
      rw [← h]
      exact HROW.out.rd.weak fun _ _ hb => hb.elim (fun h => .inl h.1) .inr
end Go.Proofs.YtkpaokcgjeplpaaDoor
