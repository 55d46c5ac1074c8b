
import Derived.Test.YtmnjopbfdocinaaScC
import Derived.Deep.RegionHeld3
import Derived.StillTailTactics
namespace Go.Proofs.Ytmnjopbfdocinaa
open Go.RowKit
/-! scope: a clone; one of a name at least; added to, and set. -/
theorem bel_new (w : World) (o : Obj) : Below w.heap.size w (w.alloc o) := (Below.refl w.heap.size w).alloc (Nat.le_refl _) _
theorem own_emptyC (w : World) : (w.alloc (.cells #[] 38)).ownsRow w.heap.size 38 4 (.slice (some ⟨w.heap.size, 0, none⟩) 0 0) 0 [] :=
  World.ownsRow_made w #[] 0 (Nat.le_refl _) (Nat.zero_le _) rfl
def CloneC (l : List CoD) (w : World) (e : Ending) (w' : World) : Prop := ∃ v, e = .returned v ∧ w'.ownsRow w.heap.size 38 4 v l.length (l.flatMap ccs) ∧ Below w.heap.size w w'
set_option maxRecDepth 100000 in
set_option maxHeartbeats 1600000 in
theorem clone_any {w : World} {v : Value} {l : List CoD} (h : RdSt w v l) (hl : l.length ≤ 100000000) : Calls Try.prog 30 #[v] w (CloneC l w) := by
  obtain ⟨i0, hi, hz0, hz1, hz2⟩ := info_parts info_cnt
  have hcc := h.rd
  obtain ⟨a, c, rfl, hle, _⟩ := h.rd
  cases a with
  | none =>
    obtain rfl := hcc.none0
    have heq := fun wx => Lib.run_eql_slice_nil (P := Try.prog) wx 25 38 none 0 c 0 0 Try.underlying25
    rw [show ([] : List CoD).length = 0 from rfl]
    clear hle hcc h
    go_enter Try.func30, Try.ntmps30
    go_wp2
    go_ret
    exact ⟨_, rfl, World.ownsRow_nil _ _ _ _, Below.refl _ _⟩
  | some ad =>
    have heq := fun wx => Lib.run_eql_slice_nil (P := Try.prog) wx 25 38 (some ad) l.length c 0 0 Try.underlying25
    have HNW := Lib.hid (RdK.cell (f := ccs) (k := 4) (by decide) (fun _ => rfl) hcc)
    have HLT := Lib.hid hcc.far
    have HAL := Lib.hid (flat_lenK ccs 4 (fun _ => rfl) l)
    obtain ⟨N, hN⟩ : ∃ N, l.length = N := ⟨_, rfl⟩
    have HN := Lib.hid hN
    rw [hN] at hl hle heq ⊢
    clear hcc hN h
    have hnews2 : Hid (∀ j u, (l.flatMap ccs)[j]? = some u → (w.alloc (.cells #[] 38)).cell? (ad.add j) = some u) := fun j u hj => by
      have hjl := (List.getElem?_eq_some_iff.1 hj).1
      rw [HAL.out] at hjl
      have hb : (ad.add j).block < w.heap.size := by
        have := HLT.out (by omega)
        unfold Addr.add; split <;> exact this
      exact ((bel_new w _).cell hb).trans (HNW.out j u hj)
    go_enter Try.func30, Try.ntmps30
    go_wp2_with (at_builtin; refine wpList_append_own _ rfl _ _ 25 rfl w.heap.size 38 i0 (.agg #[.string ⟨#[]⟩, .int .i64 0, .int .i64 0, .bool false]) 4 40 Try.underlying25 hi hz0 hz1 hz2 rfl (by decide) _ _ _ rfl (own_emptyC w) ad N c (l.flatMap ccs) rfl (by rw [HAL.out, HN.out]) hnews2.out ccs_one (by unfold maxLen; omega) (by omega) (by simp) ?_; intro v' w4 ho4 hg4 _)
    go_ret
    refine ⟨_, rfl, ?_, ?_⟩
    · rw [HN.out]
      simpa using ho4
    · exact (bel_new w _).grown hg4 (by simp) (fun j hj => by injection hj with hj; simp at hj; omega)
theorem own_some {w : World} {B : Nat} {v : Value} {l : List CoD} (h : w.ownsRow B 38 4 v l.length (l.flatMap ccs)) (hp : 0 < l.length) : ∃ g cap, v = .slice (some ⟨g, 0, none⟩) l.length cap ∧ OwnC w g cap l ∧ B ≤ g := by
  rcases h.2 with ⟨_, h0⟩ | ⟨g, cap, cur, hv, hb, _⟩
  · omega
  · subst hv
    exact ⟨g, cap, rfl, OwnC.of h rfl, hb⟩
/-- One of a name at least, and where the innermost is. -/
def haveD (s : List CoD) (of : Int) (nm : ByteArray) : List CoD := if 0 ≤ innI nm s then s else s ++ [⟨nm, of, 0, false⟩]
def haveI' (s : List CoD) (nm : ByteArray) : Nat := if 0 ≤ innI nm s then (innI nm s).toNat else s.length
theorem have_lt (s : List CoD) (of : Int) (nm : ByteArray) : haveI' s nm < (haveD s of nm).length := by
  unfold haveI' haveD
  rcases innI_spec nm s with ⟨h1, _⟩ | ⟨i, hi, h1, _⟩
  · rw [h1, if_neg (by omega), if_neg (by omega), List.length_append]
    exact Nat.lt_succ_self _
  · rw [h1, if_pos (by omega), if_pos (by omega)]
    simpa using hi
def HavePost (R : List CoD) (i : Nat) (w : World) (e : Ending) (w' : World) : Prop := ∃ g cap, e = .returned (.tuple #[.slice (some ⟨g, 0, none⟩) R.length cap, .int .i64 i]) ∧ OwnC w' g cap R ∧ w.heap.size ≤ g ∧ Below w.heap.size w w'
set_option maxRecDepth 100000 in
set_option maxHeartbeats 1600000 in
theorem having_any {w : World} {v : Value} {s : List CoD} (h : RdSt w v s) (hs : s.length ≤ 100000000) (of : Int) (nm : ByteArray) :
    Calls Try.prog 23 #[v, .int .i64 of, .string nm] w (HavePost (haveD s of nm) (haveI' s nm) w) := by
  rcases innI_spec nm s with ⟨h1, _⟩ | ⟨i, hi, h1, _⟩
  · have HE := Lib.hid (show resetD s of [] nm 0 false false = haveD s of nm by
      unfold resetD baseD outB haveD
      rw [h1]
      rfl)
    have HI := Lib.hid (show haveI' s nm = s.length by unfold haveI'; rw [h1, if_neg (by omega)])
    have HK := Lib.hid h1
    have HR := Lib.hid (reset_any h hs (⟨none, 0, rfl, Nat.le_refl _, fun hh => absurd hh (Nat.lt_irrefl 0)⟩ : Rd .i64 w (.slice none 0 0) []) (Nat.zero_le _) of 0 nm false false)
    have HN := Lib.hid (innermost_any h nm hs)
    obtain ⟨a, c, rfl, hle, _⟩ := h.rd
    obtain ⟨L, hL⟩ : ∃ L, s.length = L := ⟨_, rfl⟩
    have HL := Lib.hid hL
    rw [HE.out, hL] at HR
    rw [hL] at HN hle hs ⊢
    clear h h1 HE hL
    go_enter Try.func23, Try.ntmps23
    go_wp2_with (first | (go_at_call 20; (with_reducible refine HN.out.mono ?_); rintro e w' ⟨rfl, rfl⟩; rw [HK.out]) | (go_at_call 7; go_must (refine HR.out.mono ?_); intro e w2 hq; obtain ⟨g, cap, he, ho, hg, hb⟩ := hq; subst he))
    go_ret2
    exact ⟨g, cap, by rw [HI.out, HL.out]; rfl, ho, hg, hb⟩
  · have HD := Lib.hid (show haveD s of nm = s by unfold haveD; rw [h1, if_pos (by omega)])
    have HI := Lib.hid (show haveI' s nm = i by unfold haveI'; rw [h1, if_pos (by omega)]; simp)
    have HK := Lib.hid h1
    have HC := Lib.hid (clone_any h hs)
    have HN := Lib.hid (innermost_any h nm hs)
    obtain ⟨a, c, rfl, hle, _⟩ := h.rd
    obtain ⟨L, hL⟩ : ∃ L, s.length = L := ⟨_, rfl⟩
    have HL := Lib.hid hL
    rw [hL] at HN HC hle hs hi ⊢
    rw [HD.out]
    clear h h1 hL HD
    go_enter Try.func23, Try.ntmps23
    go_wp2_with (first | (go_at_call 20; (with_reducible refine HN.out.mono ?_); rintro e w' ⟨rfl, rfl⟩; rw [HK.out]) | (go_at_call 30; go_must (refine HC.out.mono ?_); intro e w2 hq; obtain ⟨v2, he, ho, hb⟩ := hq; obtain ⟨g, cap, hv2, hoc, hg⟩ := own_some ho (by rw [HL.out]; omega); subst he; subst hv2))
    go_ret2
    exact ⟨g, cap, by rw [HI.out]; rfl, hoc, hg, hb⟩
theorem setC_flat (y : CoD) (k : Int) : ∀ (l : List CoD) (i : Nat) (hi : i < l.length), (l.flatMap ccs).set (i * 4 + 2) (.int .i64 k) = (l.set i { l[i] with n := k }).flatMap ccs
  | x :: l, 0, _ => by simp [ccs]
  | x :: l, i + 1, hi => by
    have ih := setC_flat y k l i (by simpa using hi)
    rw [List.flatMap_cons, List.set_cons_succ, List.flatMap_cons, List.set_append_right _ _ (by simp [ccs]; omega)]
    rw [show (i + 1) * 4 + 2 - (ccs x).length = i * 4 + 2 by simp [ccs]; omega, ih]
    rfl
theorem OwnC.setN {w : World} {g cap : Nat} {l : List CoD} (h : OwnC w g cap l) (i : Nat) (hi : i < l.length) (k : Int) : OwnC (w.setCell ⟨g, i * 4 + 2, none⟩ (.int .i64 k)) g cap (l.set i { l[i] with n := k }) := by
  obtain ⟨cur, hcb, hsz, hle, htk⟩ := h
  refine ⟨_, hcb.set (i * 4 + 2) _, by simpa using hsz, by simpa using hle, ?_⟩
  rw [List.length_set, ← setC_flat l[i] k l i hi, ← htk, Array.toList_setIfInBounds, List.take_set]
theorem OwnC.cellN {w : World} {g cap : Nat} {l : List CoD} (h : OwnC w g cap l) (i : Nat) (hi : i < l.length) : w.cell? ⟨g, i * 4 + 2, none⟩ = some (.int .i64 l[i].n) ∧ w.frozen? ⟨g, i * 4 + 2, none⟩ = false := by
  obtain ⟨a, c, e, _, hc⟩ := h.rd.rd
  obtain ⟨cur, hcb, hsz, hle, htk⟩ := h
  refine ⟨?_, hcb.frozen _⟩
  injection e with e _ _
  obtain ⟨b, off, h3, h4, h5⟩ := hc (by omega)
  rw [← e] at h3
  injection h3 with h3
  injection h3 with h3 h6
  subst h3 h6
  have := h5 i hi 2 _ rfl
  rw [Nat.zero_add] at this
  exact this
/-- The innermost one of a name, set anew. -/
def putD (s : List CoD) (of : Int) (nm : ByteArray) (k : Int) : List CoD := (haveD s of nm).set (haveI' s nm) { (haveD s of nm)[haveI' s nm]'(have_lt s of nm) with n := k }
def numD (s : List CoD) (of : Int) (nm : ByteArray) : Int := ((haveD s of nm)[haveI' s nm]'(have_lt s of nm)).n
def addD (s : List CoD) (of : Int) (nm : ByteArray) (k : Int) : List CoD := putD s of nm (sumD (numD s of nm) k)
theorem putD_len (s : List CoD) (of : Int) (nm : ByteArray) (k : Int) : (putD s of nm k).length = (haveD s of nm).length := by unfold putD; rw [List.length_set]
theorem haveD_len (s : List CoD) (of : Int) (nm : ByteArray) : s.length ≤ (haveD s of nm).length ∧ (haveD s of nm).length ≤ s.length + 1 := by
  unfold haveD
  split
  · exact ⟨Nat.le_refl _, Nat.le_succ _⟩
  · simp
theorem OwnC.put {w : World} {g cap : Nat} {s : List CoD} {of : Int} {nm : ByteArray} (h : OwnC w g cap (haveD s of nm)) (k : Int) : OwnC (w.setCell ⟨g, haveI' s nm * 4 + 2, none⟩ (.int .i64 k)) g cap (putD s of nm k) := h.setN _ (have_lt s of nm) k
set_option maxRecDepth 100000 in
set_option maxHeartbeats 1600000 in
theorem put_any {w : World} {v : Value} {s : List CoD} (h : RdSt w v s) (hs : s.length ≤ 100000000) (of n : Int) (nm : ByteArray) (rev auto : Bool) :
    Calls Try.prog 10 #[v, .int .i64 of, .agg (pcs nm n rev auto)] w (MadeC (putD s of nm n) w) := by
  have HA := Lib.hid (CB.new (T := 28) w (pcs nm n rev auto))
  have HB := Lib.hid (bel_new w (.cells (pcs nm n rev auto) 28))
  have HH := Lib.hid (having_any (h.below HB.out) hs of nm)
  have HLT := Lib.hid (have_lt s of nm)
  have HPL := Lib.hid (putD_len s of nm n)
  have HHL := Lib.hid (haveD_len s of nm)
  go_enter Try.func10, Try.ntmps10
  go_upto_region 1 with fail
  generalize w.alloc (.cells _ 28) = WA at *
  have p0 : WA.cell? ⟨w.heap.size, 0, none⟩ = some (.string nm) := HA.out.cell 0
  go_upto_region 2 with (go_at_call 23; go_must (refine HH.out.mono ?_); intro e W2 hq; obtain ⟨g, cap, he, ho, hg, hb⟩ := hq; subst he)
  have HO := Lib.hid ho
  have HBW := Lib.hid (HB.out.trans (hb.mono HB.out.size))
  have HG := Lib.hid (Nat.le_trans HB.out.size hg)
  have hP := HA.out.below hb HA.out.lt
  have p1 : W2.cell? ⟨w.heap.size, 1, none⟩ = some (.int .i64 n) := hP.cell 1
  obtain ⟨c1, c2⟩ := ho.cellN _ (have_lt s of nm)
  clear ho hb hg p0 hP
  have hI : (haveI' s nm : Int) < ((haveD s of nm).length : Int) := by have := HLT.out; omega
  have HF := Lib.hid (HO.out.put n)
  go_wp2
  go_ret
  exact ⟨g, cap, by rw [HPL.out]; rfl, HF.out, HG.out, HBW.out.setCell HG.out _⟩
set_option maxRecDepth 100000 in
set_option maxHeartbeats 3200000 in
theorem add_any {w : World} {v : Value} {s : List CoD} (h : RdSt w v s) (hs : s.length ≤ 100000000) (of n : Int) (nm : ByteArray) (rev auto : Bool) (ha : -2147483648 ≤ numD s of nm ∧ numD s of nm ≤ 2147483647) (hn : -1000000000000 ≤ n ∧ n ≤ 1000000000000) :
    Calls Try.prog 8 #[v, .int .i64 of, .agg (pcs nm n rev auto)] w (MadeC (addD s of nm n) w) := by
  have HA := Lib.hid (CB.new (T := 28) w (pcs nm n rev auto))
  have HB := Lib.hid (bel_new w (.cells (pcs nm n rev auto) 28))
  have HH := Lib.hid (having_any (h.below HB.out) hs of nm)
  have HLT := Lib.hid (have_lt s of nm)
  have HPL := Lib.hid (putD_len s of nm (sumD (numD s of nm) n))
  have HHL := Lib.hid (haveD_len s of nm)
  have HSU := Lib.hid (fun W => sum_any (numD s of nm) n W ha hn)
  clear ha hn
  go_enter Try.func8, Try.ntmps8
  go_upto_region 1 with fail
  generalize w.alloc (.cells _ 28) = WA at *
  have p0 : WA.cell? ⟨w.heap.size, 0, none⟩ = some (.string nm) := HA.out.cell 0
  go_upto_region 2 with (go_at_call 23; go_must (refine HH.out.mono ?_); intro e W2 hq; obtain ⟨g, cap, he, ho, hg, hb⟩ := hq; subst he)
  have HO := Lib.hid ho
  have HBW := Lib.hid (HB.out.trans (hb.mono HB.out.size))
  have HG := Lib.hid (Nat.le_trans HB.out.size hg)
  have hP := HA.out.below hb HA.out.lt
  have p1 : W2.drew.cell? ⟨w.heap.size, 1, none⟩ = some (.int .i64 n) := hP.cell 1
  obtain ⟨c1, c2⟩ := ho.cellN _ (have_lt s of nm)
  have c1 : W2.drew.cell? ⟨g, haveI' s nm * 4 + 2, none⟩ = some (.int .i64 (numD s of nm)) := c1
  have c2 : W2.drew.frozen? ⟨g, haveI' s nm * 4 + 2, none⟩ = false := c2
  clear ho hb hg p0 hP
  have hI : (haveI' s nm : Int) < ((haveD s of nm).length : Int) := by have := HLT.out; omega
  have hI2 : haveI' s nm < (haveD s of nm).length := HLT.out
  have HF := Lib.hid (HO.out.put (sumD (numD s of nm) n))
  go_region_law ((go_simp; go_at_call 24; refine (HSU.out _).mono ?_; rintro e w' ⟨rfl, rfl⟩))
  all_goals go_wp2
  all_goals go_ret
  all_goals exact ⟨g, cap, by unfold addD; rw [HPL.out]; rfl, HF.out, HG.out, HBW.out.drew.setCell HG.out _⟩
end Go.Proofs.Ytmnjopbfdocinaa
