
import Derived.Test.YtmnjopbfdocinaaScG
namespace Go.Proofs.Ytmnjopbfdocinaa
open Go.RowKit Go.Maps Go.WideMaps
/-! scope: what a place begins with. -/
def lastD (l : List CoD) (c : CoD) : CoD := match lastN l c.nm c.of with
  | some n => { c with n := n }
  | none => c
def beginD (p s l : List CoD) : List CoD := (joinD p s).map (lastD l)
def halfD (l J : List CoD) (k : Nat) : List CoD := (J.take k).map (lastD l) ++ J.drop k
theorem halfD_len (l J : List CoD) (k : Nat) : (halfD l J k).length = J.length := by
  unfold halfD
  rw [List.length_append, List.length_map, List.length_take, List.length_drop]
  omega
theorem halfD_at {l J : List CoD} {k : Nat} (hk : k < J.length) : (halfD l J k)[k]'(by rw [halfD_len]; exact hk) = J[k] := by
  unfold halfD
  rw [List.getElem_append_right (by simp; omega)]
  simp [Nat.min_eq_left (Nat.le_of_lt hk)]
theorem halfD_next {l J : List CoD} {k : Nat} (hk : k < J.length) : halfD l J (k + 1) = (halfD l J k).set k (lastD l J[k]) := by
  unfold halfD
  rw [take_succK hk, List.map_append, List.set_append_right _ _ (by simp; omega)]
  have e : k - ((J.take k).map (lastD l)).length = 0 := by simp; omega
  rw [e, List.drop_eq_getElem_cons hk, List.set_cons_zero, List.append_assoc]
  rfl
theorem halfD_end (l J : List CoD) : halfD l J J.length = J.map (lastD l) := by
  unfold halfD
  simp
theorem OwnC.cellsAt {w : World} {g cap : Nat} {l : List CoD} (h : OwnC w g cap l) (i : Nat) (hi : i < l.length) : ∀ m u, (ccs l[i])[m]? = some u → w.cell? ⟨g, i * 4 + m, none⟩ = some u := by
  obtain ⟨a, c, e, _, hc⟩ := h.rd.rd
  injection e with e _ _
  obtain ⟨b, off, h3, h4, h5⟩ := hc (by omega)
  rw [← e] at h3
  injection h3 with h3
  injection h3 with h3 h6
  subst h3 h6
  intro m u hu
  have := h5 i hi m u hu
  rw [Nat.zero_add] at this
  exact this
def BegPost (R : List CoD) (w : World) (e : Ending) (w' : World) : Prop := ∃ v, e = .returned v ∧ RdSt w' v R ∧ Below w.heap.size w w'
set_option maxRecDepth 100000 in
set_option maxHeartbeats 6400000 in
theorem begin_any {w : World} {vp vs vl vb : Value} {p s l : List CoD} (hp : RdSt w vp p) (hs : RdSt w vs s) (hl : RdSt w vl l) (hpl : p.length ≤ 10000000) (hsl : s.length ≤ 10000000) (hll : l.length ≤ 10000000) (hok : ∀ c ∈ p, OkC c) (hok2 : ∀ c ∈ s, OkC c) (hok3 : ∀ c ∈ l, OkC c) :
    Calls Try.prog 18 #[vp, vs, vl, vb] w (BegPost (beginD p s l) w) := by
  have HJ := Lib.hid (joined_any hp hs hpl hsl hok hok2)
  have HOJ := Lib.hid (joinD_mem OkC s p hok hok2)
  have HJL := Lib.hid (joinD_len p s)
  have hJB : (joinD p s).length ≤ 20000000 := by have := HJL.out; omega
  obtain ⟨J, hJ⟩ : ∃ J, joinD p s = J := ⟨_, rfl⟩
  have HE := Lib.hid (show beginD p s l = J.map (lastD l) by unfold beginD; rw [hJ])
  rw [hJ] at HJ HOJ hJB
  rw [HE.out]
  clear hJ HE HJL hp hs
  go_enter Try.func18, Try.ntmps18
  go_upto_region 2 with (go_at_call 25; go_must (refine HJ.out.mono ?_); intro e w1 hq; obtain ⟨v1, he, ho1, hb1⟩ := hq; subst he)
  have HNM := Lib.hid (numbers_any (hl.below hb1) (by omega) hok3)
  obtain ⟨a1, cp, rfl, hle⟩ := rowK_sl ho1
  go_wp2_with (go_at_call 26; go_must (refine HNM.out.mono ?_); intro e w2 hq; obtain ⟨g, nn, D, he, hown, hnn, hmap, hg, hb2⟩ := hq; subst he)
  have ho2 := ho1.kept (below_grown hb2 none) (by cases hv : (Value.slice a1 J.length cp).ownBlock with | none => exact .inl rfl | some g => exact .inr (by simp))
  have hgw : w.heap.size ≤ g := Nat.le_trans hb1.size hg
  have hb3 := hb1.trans (hb2.mono hb1.size)
  obtain ⟨N, hN⟩ : ∃ N, J.length = N := ⟨_, rfl⟩
  have HNN := Lib.hid hN
  rw [hN] at hle hJB ho2 ⊢
  have HM := Lib.hid hmap
  clear hN hmap
  go_loopw [22] (fun iv wr => ∃ k : Nat, k ≤ N ∧ iv = .int .i64 k ∧ wr.ownsRow w.heap.size 38 4 (.slice a1 N cp) N ((halfD l J k).flatMap ccs) ∧ wr.ownsMap Try.prog 59 (plainElem Try.prog 3) g nn D ∧ Below w.heap.size w wr) (fun iv _ => N - (intOf iv).toNat)
  case atStart => exact ⟨0, Nat.zero_le _, rfl, by unfold halfD; simpa using ho2, hown, hb3⟩
  case round =>
    clear ho1 hb1 hb2 ho2 hown hb3
    obtain ⟨k, hk, rfl, hrow, hown, hbw⟩ := hrel
    by_cases hlt : k < N
    · have hltI : (k : Int) < (N : Int) := by omega
      have hkl : k < J.length := by rw [HNN.out]; exact hlt
      have HHL := Lib.hid (show (halfD l J k).length = N by rw [halfD_len, HNN.out])
      have hokx := HOJ.out J[k] (List.getElem_mem hkl)
      have hnx := halfD_next (l := l) hkl
      have hat := halfD_at (l := l) hkl
      obtain ⟨gs, cap, hsl2, hoc, hgs⟩ := own_some (l := halfD l J k) (by rw [HHL.out]; exact hrow) (by rw [HHL.out]; omega)
      rw [HHL.out] at hsl2
      injection hsl2 with e1 _ e3
      subst e1
      subst e3
      have hne := row_ne_map hrow hown
      have hne : g ≠ gs := fun e => hne (by rw [e]; rfl)
      have hcc := hoc.cellsAt k (by rw [HHL.out]; exact hlt)
      rw [hat] at hcc
      obtain ⟨x, hx⟩ : ∃ x, J[k] = x := ⟨_, rfl⟩
      rw [hx] at hcc hokx hnx hat
      have c0 : wr.cell? ⟨gs, k * 4, none⟩ = some (.string x.nm) := by simpa using hcc 0 _ rfl
      have c1 : wr.cell? ⟨gs, k * 4 + 1, none⟩ = some (.int .i64 x.of) := by simpa using hcc 1 _ rfl
      have c2 : wr.cell? ⟨gs, k * 4 + 2, none⟩ = some (.int .i64 x.n) := by simpa using hcc 2 _ rfl
      have c3 : wr.cell? ⟨gs, k * 4 + 3, none⟩ = some (.bool x.rev) := by simpa using hcc 3 _ rfl
      have hml := HM.out.2 x.nm x.of hokx.id
      have HOK := Lib.hid hokx
      have HX0 := Lib.hid (CB.new (T := 38) wr #[.string x.nm, .int .i64 x.of, .int .i64 x.n, .bool x.rev])
      have HB0 := Lib.hid (hbw.alloc hbw.size (.cells #[.string x.nm, .int .i64 x.of, .int .i64 x.n, .bool x.rev] 38))
      have HN0 := Lib.hid (hown.alloc (.cells #[.string x.nm, .int .i64 x.of, .int .i64 x.n, .bool x.rev] 38))
      have HO0 := Lib.hid (hoc.grown (World.grownBy_alloc wr (.cells #[.string x.nm, .int .i64 x.of, .int .i64 x.n, .bool x.rev] 38) none) (by simp))
      have HCAP := Lib.hid (show cp ≤ maxLen by
        rcases hrow.2 with ⟨h1, _⟩ | ⟨_, _, _, h1, _, _, _, h5, _⟩
        · injection h1 with h1; cases h1
        · injection h1 with _ _ h1; rw [h1]; exact h5)
      have HAT := Lib.hid hat
      clear hcc hx hown hbw hokx hrow hoc hat
      go_upto_region 6 with fail
      generalize wr.alloc (.cells #[.string x.nm, .int .i64 x.of, .int .i64 x.n, .bool x.rev] 38) = WA at *
      have y0 : WA.cell? ⟨wr.heap.size, 0, none⟩ = some (.string x.nm) := HX0.out.cell 0
      have y1 : WA.cell? ⟨wr.heap.size, 1, none⟩ = some (.int .i64 x.of) := HX0.out.cell 1
      have y2 : WA.cell? ⟨wr.heap.size, 2, none⟩ = some (.int .i64 x.n) := HX0.out.cell 2
      have y3 : WA.cell? ⟨wr.heap.size, 3, none⟩ = some (.bool x.rev) := HX0.out.cell 3
      cases hh : lastN l x.nm x.of with
      | none =>
        rw [hh] at hml
        have HHAS := Lib.hid (show Maps.has D (keyS x.nm x.of) = false from hml.1)
        have HNX := Lib.hid (show halfD l J (k + 1) = halfD l J k by
          rw [hnx]
          unfold lastD
          rw [hh, ← HAT.out, List.set_getElem_self])
        clear hml hnx hh
        go_wp2_with (first | (go_at_call 27; (with_reducible refine (which_any _ _ _ _ _).mono ?_); rintro e W1 ⟨rfl, hb1⟩; have HN1 := Lib.hid (HN0.out.kept (below_grown hb1 none) (by simp))) | (at_lookup; refine wpList_lookup_own_ok_int _ rfl _ _ 56 rfl 59 3 .i64 law_id Try.underlying56 Try.underlying3 (zero_int15 _) g nn D rfl HN1.out _ _ rfl (keyOf_id HOK.out.id) ?_; intro cc hat hwc; rw [HHAS.out]))
        have HB1 := Lib.hid (HB0.out.trans (hb1.mono HB0.out.size))
        have hO1 := (HO0.out.grown (below_grown hb1 none) (by simp)).row (B := w.heap.size) hgs HCAP.out
        rw [HHL.out] at hO1
        have HO1 := Lib.hid hO1
        clear hb1 hat hO1
        go_roundw
        case rel => exact ⟨k + 1, by omega, by go_num, by rw [HNX.out]; exact HO1.out, HN1.out, HB1.out⟩
        case measure => simp [intOf]; omega
      | some n =>
        rw [hh] at hml
        have HHAS := Lib.hid (show Maps.has D (keyS x.nm x.of) = true from hml.1)
        have HATK := Lib.hid (hml.2 (.lit (.int .i64 0)))
        have HNX := Lib.hid (show halfD l J (k + 1) = (halfD l J k).set k { (halfD l J k)[k]'(by rw [HHL.out]; exact hlt) with n := n } by
          rw [hnx, HAT.out]
          unfold lastD
          rw [hh])
        clear hml hnx hh
        go_upto_region 8 with (first | (go_at_call 27; (with_reducible refine (which_any _ _ _ _ _).mono ?_); rintro e W1 ⟨rfl, hb1⟩; have HN1 := Lib.hid (HN0.out.kept (below_grown hb1 none) (by simp))) | (at_lookup; refine wpList_lookup_own_ok_int _ rfl _ _ 56 rfl 59 3 .i64 law_id Try.underlying56 Try.underlying3 (zero_int15 _) g nn D rfl HN1.out _ _ rfl (keyOf_id HOK.out.id) ?_; intro cc hat hwc; rw [HHAS.out]))
        obtain rfl : cc = n := by
          have h1 := hat.symm.trans HATK.out
          simpa using h1
        have HB1 := Lib.hid (HB0.out.trans (hb1.mono HB0.out.size))
        have HO1 := Lib.hid (HO0.out.grown (below_grown hb1 none) (by simp))
        obtain ⟨z1, z2⟩ := HO1.out.cellN k (by rw [HHL.out]; exact hlt)
        have hO2 := (HO1.out.setN k (by rw [HHL.out]; exact hlt) cc).row (B := w.heap.size) hgs HCAP.out
        rw [← HNX.out, halfD_len, HNN.out] at hO2
        have HO2 := Lib.hid hO2
        have HN2 := Lib.hid (HN1.out.setCell (a := ⟨gs, k * 4 + 2, none⟩) hne (.int .i64 cc))
        have HB2 := Lib.hid (HB1.out.setCell (p := ⟨gs, k * 4 + 2, none⟩) hgs (.int .i64 cc))
        clear hb1 hat hO2 y0 y1 y2 y3
        go_wp2
        go_roundw
        case rel => exact ⟨k + 1, by omega, by go_num, HO2.out, HN2.out, HB2.out⟩
        case measure => simp [intOf]; omega
    · have hltI : ¬ (k : Int) < (N : Int) := by omega
      obtain rfl : k = N := by omega
      have hF : halfD l J k = J.map (lastD l) := by rw [← HNN.out]; exact halfD_end l J
      rw [hF] at hrow
      have HR := Lib.hid (row_rdst (R := J.map (lastD l)) (by rw [List.length_map, HNN.out]; exact hrow))
      clear hF hrow
      go_wp2
      go_ret
      exact ⟨_, rfl, HR.out, hbw⟩
end Go.Proofs.Ytmnjopbfdocinaa
