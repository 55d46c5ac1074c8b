import Derived.Test.YtclicjiakkcfcaaGreatDoorSmH
import Derived.Test.YtclicjiakkcfcaaGreatDoorSmI
import Derived.Outline
import Derived.Deep.DeepMust
import Derived.Maps.AppendAt
set_option maxRecDepth 100000
set_option maxHeartbeats 6400000
namespace Go.Proofs.YtclicjiakkcfcaaGreatDoor
open Go.RowKit
abbrev scc (lv iv : Value) (s m : W3) : List Value := [lv, iv, .int .i64 s.a, .int .i64 s.b, .int .i64 s.c, .int .i64 m.a, .int .i64 m.b, .int .i64 m.c]
def ScI (T : TypeId) (w : World) (g o : Nat) (c0 : Array Value) (l : List Value) : Prop :=
 ∃ cur, CB T w g cur ∧ cur.size = c0.size ∧ o + 8 ≤ cur.size ∧ l.length = 8 ∧ (∀ i, i < 8 → cur[o + i]? = l[i]?) ∧ ∀ j, (j < o ∨ o + 8 ≤ j) → cur[j]? = c0[j]?
section
variable {T : TypeId} {w w' : World} {g o : Nat} {c0 : Array Value} {l : List Value}
theorem ScI.cell (h : ScI T w g o c0 l) (i : Nat) (hi : i < 8) : w.cell? ⟨g, o + i, none⟩ = l[i]? := by
 obtain ⟨cur, hcb, _, _, _, hc, _⟩ := h
 rw [hcb.cell, hc i hi]
theorem ScI.frozen (h : ScI T w g o c0 l) (i : Nat) : w.frozen? ⟨g, i, none⟩ = false := by
 obtain ⟨cur, hcb, _⟩ := h
 exact hcb.frozen i
theorem ScI.lt (h : ScI T w g o c0 l) : g < w.heap.size := by
 obtain ⟨cur, hcb, _⟩ := h
 exact hcb.lt
theorem ScI.below (h : ScI T w g o c0 l) (hb : Below w.heap.size w w') : ScI T w' g o c0 l := by
 obtain ⟨cur, hcb, h2⟩ := h
 exact ⟨cur, hcb.below hb hcb.lt, h2⟩
theorem ScI.set (h : ScI T w g o c0 l) (i : Nat) (hi : i < 8) (u : Value) : ScI T (w.setCell ⟨g, o + i, none⟩ u) g o c0 (l.set i u) := by
 obtain ⟨cur, hcb, h1, h2, h3, h4, h5⟩ := h
 refine ⟨_, hcb.set (o + i) u, by simpa using h1, by simpa using h2, by simpa using h3, fun k hk => ?_, fun j hj => ?_⟩
 · rw [Array.getElem?_setIfInBounds, List.getElem?_set]
   by_cases e : i = k
   · subst e
     rw [if_pos rfl, if_pos rfl, if_pos (by omega), if_pos (by omega)]
   · rw [if_neg (by omega), if_neg e]
     exact h4 k hk
 · rw [Array.getElem?_setIfInBounds, if_neg (by omega)]
   exact h5 j hj
theorem ScI.of (h : CB T w g c0) (ho : o + 8 ≤ c0.size) (hl : l.length = 8) (hc : ∀ i, i < 8 → c0[o + i]? = l[i]?) : ScI T w g o c0 l := ⟨c0, h, rfl, ho, hl, hc, fun _ _ => rfl⟩
end
theorem rdG.gw {w w' : World} {g : Nat} {d : Dt} {v : Value} (h : rdG w (fun b => b ≠ g) d v) (hg : w.grownBy w' (some g)) : rdG w' (fun b => b ≠ g) d v :=
 rdG.move (fun _ _ h => h) (fun b hb hl => hg.block b hl (fun e => hb (Option.some.inj e))) hg.size d v h
theorem rdG.bel {w w' : World} {Q : Nat → Prop} {d : Dt} {v : Value} (h : rdG w Q d v) (hb : Below w.heap.size w w') : rdG w' Q d v := h.under hb (Nat.le_refl _)
theorem rdG.cxHead {w : World} {Q : Nat → Prop} {c : CxD} {l : List CxD} {v : Value} (h : rdG w Q (.sl 3 (cxsDt (c :: l))) v) :
    ∃ b off cap Pt cb ps u1 a2 n2 c2, v = .slice (some ⟨b, off, none⟩) (l.length + 1) cap ∧ l.length + 1 ≤ cap ∧ b < w.heap.size ∧ Q b ∧ c = .mk Pt cb ps ∧ w.cell? ⟨b, off, none⟩ = some u1 ∧ w.cell? ⟨b, off + 1, none⟩ = some (.slice a2 n2 c2) ∧ w.cell? ⟨b, off + 2, none⟩ = some (.int .i64 ps) ∧ rdG w Q (.sl 2 (cmsDt Pt)) u1 := by
  cases c with
  | mk Pt cb ps =>
   obtain ⟨b, off, cap, hv, hle, hQ, hb, hr⟩ := h.base (by rw [cxsDt_len]; simp)
   rw [cxsDt_len, List.length_cons] at hv hle
   obtain ⟨_, h2⟩ := hr 0 (by rw [cxsDt_len]; simp)
   have e : (cxsDt (CxD.mk Pt cb ps :: l))[0]'(by rw [cxsDt_len]; simp) = [.sl 2 (cmsDt Pt), .sl 1 (cb.map fun x => [.lf (.string x)]), .lf (.int .i64 ps)] := by
    simp only [cxsDt, CxD.dt, List.getElem_cons_zero]
   rw [e] at h2
   obtain ⟨u1, c1, r1⟩ := h2 0 (by simp)
   obtain ⟨u2, c2, r2⟩ := h2 1 (by simp)
   obtain ⟨u3, c3, r3⟩ := h2 2 (by simp)
   simp only [List.getElem_cons_zero, List.getElem_cons_succ, Nat.zero_mul, Nat.add_zero] at c1 c2 c3 r1 r2 r3
   obtain rfl := r3.leaf
   obtain ⟨a2, cc, rfl, _⟩ := r2.shape
   exact ⟨b, off, cap, Pt, cb, ps, u1, a2, _, cc, hv, hle, hb, hQ, rfl, c1, c2, c3, r1⟩
theorem rdG.cxTail {w : World} {Q : Nat → Prop} {c : CxD} {l : List CxD} {b off n cap : Nat} (h : rdG w Q (.sl 3 (cxsDt (c :: l))) (.slice (some ⟨b, off, none⟩) n cap)) : rdG w Q (.sl 3 (cxsDt l)) (.slice (some ⟨b, off + 3, none⟩) (n - 1) (cap - 1)) := by
 have h1 := h.drop 1 (by rw [cxsDt_len]; simp)
 simp only [cxsDt, List.drop_succ_cons, List.drop_zero, Nat.one_mul] at h1
 exact h1
theorem scl_set {w w' : World} {g o : Nat} {u : Value} (h : w.grownBy w' (some g)) : w.grownBy (w'.setCell ⟨g, o, none⟩ u) (some g) := ⟨h.os, h.tape, h.output, by simpa using h.size, fun k hk hn => (heap_setCell_other w' ⟨g, o, none⟩ k u (fun e => hn (by rw [e]))).trans (h.block k hk hn)⟩
theorem gw_keep {w w' : World} {g : Nat} {b o : Nat} {v : Value} (h : w.cell? ⟨b, o, none⟩ = some v) (hg : w.grownBy w' (some g)) (hb : b ≠ g) : w'.cell? ⟨b, o, none⟩ = some v := hg.cell h (fun e => hb (Option.some.inj e))
def NextPost (T : TypeId) (w : World) (g o : Nat) (c0 : Array Value) (s m : W3) (c : CxD) (l : List CxD) (w' : World) : Prop :=
 ∃ lv iv, ScI T w' g o c0 (scc lv iv (bareCx c).1 (gr3 s m)) ∧ rdG w' (fun b => b ≠ g) (.sl 3 (cxsDt l)) lv ∧ rdG w' (fun b => b ≠ g) (.sl 1 (lsDt (bareCx c).2)) iv ∧ w.grownBy w' (some g)
theorem next_any {w : World} {g o : Nat} {c0 : Array Value} {lv iv : Value} {s m : W3} {c : CxD} {l : List CxD} (h : ScI 55 w g o c0 (scc lv iv s m)) (hl : rdG w (fun b => b ≠ g) (.sl 3 (cxsDt (c :: l))) lv) (hok : okCx c) (hiv : ∃ a n c, iv = .slice a n c) :
    Calls Tryz.prog 18 #[.pointer (some ⟨g, o, none⟩)] w fun e w' => (∃ v, e = .returned v) ∧ NextPost 55 w g o c0 s m c l w' := by
  obtain ⟨b, off, cap, Pt, cb, ps, u1, a2, n2, c2, rfl, hcap, hbl, hbg, rfl, k1, k2, k3, hr1⟩ := hl.cxHead
  obtain ⟨ia, in_, ic, rfl⟩ := hiv
  rw [okCx] at hok
  have HTL := Lib.hid hl.cxTail
  have HRL := Lib.hid hl
  have HG := Lib.hid (great_any (o := o) h.lt (h.cell 2 (by omega)) (h.cell 3 (by omega)) (h.cell 4 (by omega)) (h.cell 5 (by omega)) (h.cell 6 (by omega)) (h.cell 7 (by omega)))
  have HS := Lib.hid h
  have HR1 := Lib.hid hr1
  have HOK := Lib.hid hok
  have HK := Lib.hid (And.intro k1 (And.intro k2 k3))
  obtain ⟨M, hM⟩ : ∃ M, gr3 s m = M := ⟨_, rfl⟩
  rw [hM] at HG
  have HM := Lib.hid hM
  obtain ⟨N, hN⟩ : ∃ N, l.length = N := ⟨_, rfl⟩
  have HN := Lib.hid hN
  rw [hN] at hcap HS HRL HTL
  clear h hl hr1 hok k1 k2 k3 hM hN
  go_enter Tryz.func18, Tryz.ntmps18
  go_upto_region 1 with (go_at_call 19; go_must (refine HG.out.mono ?_); intro e w1 hq; obtain ⟨he, hb1⟩ := hq; subst he; have HS1 := Lib.hid (HS.out.below hb1); have y5 : w1.cell? ⟨g, o + 5, none⟩ = some (.int .i64 m.a) := HS1.out.cell 5 (by omega); have y6 : w1.cell? ⟨g, o + 5 + 1, none⟩ = some (.int .i64 m.b) := HS1.out.cell 6 (by omega); have y7 : w1.cell? ⟨g, o + 5 + 2, none⟩ = some (.int .i64 m.c) := HS1.out.cell 7 (by omega); have f5 : w1.frozen? ⟨g, o + 5, none⟩ = false := HS1.out.frozen _; have f6 : w1.frozen? ⟨g, o + 5 + 1, none⟩ = false := HS1.out.frozen _; have f7 : w1.frozen? ⟨g, o + 5 + 2, none⟩ = false := HS1.out.frozen _)
  have HS2 : Hid (ScI 55 (((w1.setCell ⟨g, o + 5, none⟩ (.int .i64 M.a)).setCell ⟨g, o + 5 + 1, none⟩ (.int .i64 M.b)).setCell ⟨g, o + 5 + 2, none⟩ (.int .i64 M.c)) g o c0 (scc (.slice (some ⟨b, off, none⟩) (N + 1) cap) (.slice ia in_ ic) s M)) := ((HS1.out.set 5 (by omega) (.int .i64 M.a)).set 6 (by omega) (.int .i64 M.b)).set 7 (by omega) (.int .i64 M.c)
  have HG2 : Hid (w.grownBy (((w1.setCell ⟨g, o + 5, none⟩ (.int .i64 M.a)).setCell ⟨g, o + 5 + 1, none⟩ (.int .i64 M.b)).setCell ⟨g, o + 5 + 2, none⟩ (.int .i64 M.c)) (some g)) := ((scl_set (scl_set (scl_set (gb_below hb1 (some g))))))
  clear y5 y6 y7 f5 f6 f7 HS1 HG HS hb1
  generalize World.setCell _ ⟨g, o + 5 + 2, none⟩ _ = W2 at *
  have t0 : W2.cell? ⟨g, o, none⟩ = some (.slice (some ⟨b, off, none⟩) (N + 1) cap) := HS2.out.cell 0 (by omega)
  have k1 := gw_keep HK.out.1 HG2.out hbg
  have k2 := gw_keep HK.out.2.1 HG2.out hbg
  have k3 := gw_keep HK.out.2.2 HG2.out hbg
  have HBR := Lib.hid (bare_any (cb := cb) (ps := ps) (a2 := a2) (n2 := n2) (c2 := c2) (HR1.out.gw HG2.out) HOK.out.1 (fun x hx => by
   have h1 := okCms_mem Pt HOK.out.2 x hx
   cases x with
   | mk t S => rw [okCm] at h1; exact h1.1))
  obtain ⟨B, hB⟩ : ∃ B, bareCx (.mk Pt cb ps) = B := ⟨_, rfl⟩
  have HBE := Lib.hid hB
  rw [hB] at HBR
  obtain ⟨ua, un, uc, hu1⟩ : ∃ a n c, u1 = .slice a n c := by
   obtain ⟨a, c, e, _⟩ := HR1.out.shape
   exact ⟨a, _, c, e⟩
  subst hu1
  clear hB
  go_upto_region 2 with (go_at_call 30; go_must (refine HBR.out.mono ?_); intro e w3 hq; obtain ⟨u, ks, he, hls, hks, hb3⟩ := hq; subst he; obtain ⟨pa, pc, hu, _⟩ := row_sl hls.row; subst hu; have HS3 := Lib.hid (HS2.out.below hb3); have z2 : w3.cell? ⟨g, o + 2, none⟩ = some (.int .i64 s.a) := HS3.out.cell 2 (by omega); have z3 : w3.cell? ⟨g, o + 2 + 1, none⟩ = some (.int .i64 s.b) := HS3.out.cell 3 (by omega); have z4 : w3.cell? ⟨g, o + 2 + 2, none⟩ = some (.int .i64 s.c) := HS3.out.cell 4 (by omega); have z1 : w3.cell? ⟨g, o + 1, none⟩ = some (.slice ia in_ ic) := HS3.out.cell 1 (by omega); have f2 : w3.frozen? ⟨g, o + 2, none⟩ = false := HS3.out.frozen _; have f3 : w3.frozen? ⟨g, o + 2 + 1, none⟩ = false := HS3.out.frozen _; have f4 : w3.frozen? ⟨g, o + 2 + 2, none⟩ = false := HS3.out.frozen _; have f1 : w3.frozen? ⟨g, o + 1, none⟩ = false := HS3.out.frozen _)
  have HS4 : Hid (ScI 55 ((((w3.setCell ⟨g, o + 2, none⟩ (.int .i64 B.1.a)).setCell ⟨g, o + 2 + 1, none⟩ (.int .i64 B.1.b)).setCell ⟨g, o + 2 + 2, none⟩ (.int .i64 B.1.c)).setCell ⟨g, o + 1, none⟩ (.slice pa ks.length pc)) g o c0 (scc (.slice (some ⟨b, off, none⟩) (N + 1) cap) (.slice pa ks.length pc) B.1 M)) := (((HS3.out.set 2 (by omega) (.int .i64 B.1.a)).set 3 (by omega) (.int .i64 B.1.b)).set 4 (by omega) (.int .i64 B.1.c)).set 1 (by omega) (.slice pa ks.length pc)
  have hg3 : w3.grownBy ((((w3.setCell ⟨g, o + 2, none⟩ (.int .i64 B.1.a)).setCell ⟨g, o + 2 + 1, none⟩ (.int .i64 B.1.b)).setCell ⟨g, o + 2 + 2, none⟩ (.int .i64 B.1.c)).setCell ⟨g, o + 1, none⟩ (.slice pa ks.length pc)) (some g) := scl_set (scl_set (scl_set (scl_set (World.grownBy.refl w3 (some g)))))
  have HG4 := Lib.hid ((HG2.out.trans (gb_below hb3 (some g))).trans hg3)
  have hgl := HS2.out.lt
  have hrd := hls.rd
  rw [hks] at hrd
  have HIV := Lib.hid ((hrd.weak (Q := fun b => b ≠ g) fun b _ hq => by
   rcases hq with ⟨h1, _⟩ | h1
   · exact h1
   · omega).gw hg3)
  clear z1 z2 z3 z4 f1 f2 f3 f4 hls hks hb3 hg3 hrd HS3 HBR t0 k1 k2 k3 HR1
  generalize World.setCell _ ⟨g, o + 1, none⟩ _ = W4 at *
  have t0 : W4.cell? ⟨g, o, none⟩ = some (.slice (some ⟨b, off, none⟩) (N + 1) cap) := HS4.out.cell 0 (by omega)
  have tf : W4.frozen? ⟨g, o, none⟩ = false := HS4.out.frozen _
  by_cases hc1 : cap = 1
  · have hN0 : N = 0 := by omega
    have HL0 := Lib.hid (show l = [] from List.eq_nil_of_length_eq_zero (by rw [HN.out]; exact hN0))
    subst hc1
    subst hN0
    have HS5 := Lib.hid (HS4.out.set 0 (by omega) (.slice (some ⟨b, off, none⟩) 0 0))
    have HG5 := Lib.hid (scl_set (o := o) (u := .slice (some ⟨b, off, none⟩) 0 0) HG4.out)
    have HG45 := Lib.hid (scl_set (o := o) (u := .slice (some ⟨b, off, none⟩) 0 0) (World.grownBy.refl W4 (some g)))
    clear HS4
    go_wp2
    exact ⟨rfl, .tuple #[], by simp [results, Tryz.results18, go_sem], ⟨_, rfl⟩, .slice (some ⟨b, off, none⟩) 0 0, .slice pa ks.length pc, by rw [HBE.out, HM.out]; exact HS5.out, by rw [HL0.out]; exact rdG.nil _ _ _ _ _, by rw [HBE.out]; exact HIV.out.gw HG45.out, HG5.out⟩
  · have hc2 : ¬ 1 = cap := fun e => hc1 e.symm
    have HLT := Lib.hid (HTL.out.gw HG4.out)
    have HS5 := Lib.hid (HS4.out.set 0 (by omega) (.slice (some ⟨b, off + 3, none⟩) N (cap - 1)))
    have HG5 := Lib.hid (scl_set (o := o) (u := .slice (some ⟨b, off + 3, none⟩) N (cap - 1)) HG4.out)
    have HG45 := Lib.hid (scl_set (o := o) (u := .slice (some ⟨b, off + 3, none⟩) N (cap - 1)) (World.grownBy.refl W4 (some g)))
    clear HS4
    go_wp2
    exact ⟨rfl, .tuple #[], by simp [results, Tryz.results18, go_sem], ⟨_, rfl⟩, .slice (some ⟨b, off + 3, none⟩) N (cap - 1), .slice pa ks.length pc, by rw [HBE.out, HM.out]; exact HS5.out, HLT.out.gw HG45.out, by rw [HBE.out]; exact HIV.out.gw HG45.out, HG5.out⟩
mutual
def zSm : SmD → Nat
  | .mk _ _ _ _ _ _ _ l => 1 + zLs l
def zSms : List SmD → Nat
  | [] => 0
  | s :: l => zSm s + zSms l
def zCm : CmD → Nat
  | .mk _ s => 1 + zSms s
def zCms : List CmD → Nat
  | [] => 0
  | c :: l => zCm c + zCms l
def zCx : CxD → Nat
  | .mk p _ _ => 1 + zCms p
def zLs : List CxD → Nat
  | [] => 0
  | c :: l => zCx c + zLs l
end
def zIn : List (List CxD) → Nat
  | [] => 0
  | l :: r => zLs l + zIn r
theorem zIn_app : ∀ a b : List (List CxD), zIn (a ++ b) = zIn a + zIn b
  | [], b => by
   show zIn b = 0 + zIn b
   omega
  | l :: a, b => by
   show zLs l + zIn (a ++ b) = zLs l + zIn a + zIn b
   rw [zIn_app a b]
   omega
theorem bndW.zero (n : Nat) : bndW (n : Int) W3.zero := by
 unfold bndW W3.zero
 simp
theorem zSms_b : ∀ l : List SmD, ∃ B : Nat, bndW (B : Int) (bareSms l).1 ∧ B + zIn (bareSms l).2 ≤ zSms l
  | [] => ⟨0, by rw [bareSms]; exact bndW.zero 0, by rw [bareSms, zIn, zSms]; exact Nat.le_refl _⟩
  | .mk k _ _ _ _ _ _ l :: r => by
   obtain ⟨B, h1, h2⟩ := zSms_b r
   refine ⟨1 + B, ?_, ?_⟩
   · rw [bareSms]
     have h := (smOwn_bnd k).add h1
     exact h.mono (by omega)
   · rw [bareSms, zSms, zSm, zIn_app]
     cases smHas k
     · rw [if_neg (by decide), zIn]
       omega
     · rw [if_pos rfl, zIn, zIn]
       omega
theorem zCms_b : ∀ l : List CmD, ∃ B : Nat, bndW (B : Int) (bareCms l).1 ∧ B + zIn (bareCms l).2 ≤ zCms l
  | [] => ⟨0, by rw [bareCms]; exact bndW.zero 0, by rw [bareCms, zIn, zCms]; exact Nat.le_refl _⟩
  | .mk t s :: r => by
   obtain ⟨B, h1, h2⟩ := zCms_b r
   obtain ⟨C, h3, h4⟩ := zSms_b s
   refine ⟨1 + C + B, ?_, ?_⟩
   · rw [bareCms]
     have h := ((cmOwn_bnd t).add h3).add h1
     exact h.mono (by omega)
   · rw [bareCms, zCms, zCm, zIn_app]
     omega
theorem zCx_b (c : CxD) : ∃ B : Nat, bndW (B : Int) (bareCx c).1 ∧ B + zIn (bareCx c).2 ≤ zCx c := by
 cases c with
 | mk p cb ps =>
  obtain ⟨B, h1, h2⟩ := zCms_b p
  refine ⟨1 + B, ?_, ?_⟩
  · rw [bareCx]
    exact ((cxOwn_bnd ps).add h1).mono (by omega)
  · rw [bareCx, zCx]
    simp only
    omega
theorem okIn_sms : ∀ l : List SmD, okSms l → ∀ x ∈ (bareSms l).2, okLs x
  | [], _ => by
   rw [bareSms]
   intro x hx
   simp at hx
  | .mk k _ _ _ _ _ _ l :: r, h => by
   rw [okSms, okSm] at h
   rw [bareSms]
   intro x hx
   rw [List.mem_append] at hx
   rcases hx with hx | hx
   · cases hk : smHas k
     · rw [hk, if_neg (by decide)] at hx
       simp at hx
     · rw [hk, if_pos rfl] at hx
       simp at hx
       subst hx
       exact h.1.2
   · exact okIn_sms r h.2 x hx
theorem okIn_cms : ∀ l : List CmD, okCms l → ∀ x ∈ (bareCms l).2, okLs x
  | [], _ => by
   rw [bareCms]
   intro x hx
   simp at hx
  | .mk t s :: r, h => by
   rw [okCms, okCm] at h
   rw [bareCms]
   intro x hx
   rw [List.mem_append] at hx
   rcases hx with hx | hx
   · exact okIn_sms s h.1.2 x hx
   · exact okIn_cms r h.2 x hx
theorem okIn_cx {c : CxD} (h : okCx c) : ∀ x ∈ (bareCx c).2, okLs x := by
 cases c with
 | mk p cb ps =>
  rw [okCx] at h
  rw [bareCx]
  exact okIn_cms p h.2
structure okMid (R : Nat) (s : Sc) (R' : Nat) : Prop where
  most : bndW (R : Int) s.most
  list : zLs s.list ≤ R
  sum : ∃ B : Nat, bndW (B : Int) s.sum ∧ B + zIn s.inner + R' ≤ R
  okl : okLs s.list
  oki : ∀ x ∈ s.inner, okLs x
def okUp : Nat → List Sc → Nat → Prop
  | R, [], R' => R' = R
  | R, s :: r, R' => ∃ R1, okMid R s R1 ∧ okUp R1 r R'
theorem okUp_snoc : ∀ (ks : List Sc) (R : Nat) (s : Sc) (R' : Nat), okUp R (ks ++ [s]) R' ↔ ∃ R1, okUp R ks R1 ∧ okMid R1 s R'
  | [], R, s, R' => by
   show (∃ R1, okMid R s R1 ∧ R' = R1) ↔ ∃ R1, R1 = R ∧ okMid R1 s R'
   constructor
   · rintro ⟨R1, h, rfl⟩
     exact ⟨R, rfl, h⟩
   · rintro ⟨R1, rfl, h⟩
     exact ⟨R', h, rfl⟩
  | k :: ks, R, s, R' => by
   show (∃ R1, okMid R k R1 ∧ okUp R1 (ks ++ [s]) R') ↔ ∃ R1, (∃ R2, okMid R k R2 ∧ okUp R2 ks R1) ∧ okMid R1 s R'
   constructor
   · rintro ⟨R1, h, h2⟩
     obtain ⟨R2, h3, h4⟩ := (okUp_snoc ks R1 s R').1 h2
     exact ⟨R2, ⟨R1, h, h3⟩, h4⟩
   · rintro ⟨R1, ⟨R2, h, h3⟩, h4⟩
     exact ⟨R2, h, (okUp_snoc ks R2 s R').2 ⟨R1, h3, h4⟩⟩
theorem gr3_bnd {n : Int} {s m : W3} (h1 : bndW n s) (h2 : bndW n m) : bndW n (gr3 s m) := by
 unfold gr3
 split
 · exact h1
 · exact h2
theorem okMid.next {R : Nat} {s : Sc} {c : CxD} {l : List CxD} (h : okMid R s 0) (hl : s.list = c :: l) : okMid R ⟨l, (bareCx c).2, (bareCx c).1, gr3 s.sum s.most⟩ 0 := by
 obtain ⟨h1, h2, ⟨B, h3, h4⟩, h5, h6⟩ := h
 rw [hl, zLs] at h2
 rw [hl, okLs] at h5
 obtain ⟨C, h7, h8⟩ := zCx_b c
 exact ⟨gr3_bnd (h3.mono (by omega)) h1, by show zLs l ≤ R; omega, ⟨C, h7, by show C + zIn (bareCx c).2 + 0 ≤ R; omega⟩, h5.2, okIn_cx h5.1⟩
theorem okMid.push {R : Nat} {s : Sc} {x : List CxD} {q : List (List CxD)} (h : okMid R s 0) (hi : s.inner = x :: q) : okMid R { s with inner := q } (zLs x) ∧ okMid (zLs x) (Sc.new x) 0 := by
 obtain ⟨h1, h2, ⟨B, h3, h4⟩, h5, h6⟩ := h
 rw [hi, zIn] at h4
 rw [hi] at h6
 exact ⟨⟨h1, h2, ⟨B, h3, by show B + zIn q + zLs x ≤ R; omega⟩, h5, fun y hy => h6 y (List.mem_cons_of_mem _ hy)⟩, ⟨bndW.zero _, Nat.le_refl _, ⟨0, bndW.zero 0, by show 0 + zIn [] + 0 ≤ zLs x; rw [zIn]; omega⟩, h6 x List.mem_cons_self, fun y hy => by simp [Sc.new] at hy⟩⟩
theorem okMid.pop {R R1 : Nat} {s t : Sc} (h : okMid R s R1) (ht : okMid R1 t 0) : okMid R { s with sum := s.sum.add (gr3 t.sum t.most) } 0 := by
 obtain ⟨h1, h2, ⟨B, h3, h4⟩, h5, h6⟩ := h
 obtain ⟨t1, _, ⟨C, t3, t4⟩, _, _⟩ := ht
 have hg := h3.add (gr3_bnd (t3.mono (show (C : Int) ≤ (R1 : Int) by omega)) t1)
 exact ⟨h1, h2, ⟨B + R1, by rw [show ((B + R1 : Nat) : Int) = (B : Int) + (R1 : Int) by omega]; exact hg, by show B + R1 + zIn s.inner + 0 ≤ R; omega⟩, h5, h6⟩
theorem okMid.pop_wrap {R R1 : Nat} {s t : Sc} (h : okMid R s R1) (ht : okMid R1 t 0) (hR : R ≤ 1000000000000000) : wrap64 (s.sum.a + (gr3 t.sum t.most).a) = s.sum.a + (gr3 t.sum t.most).a ∧ wrap64 (s.sum.b + (gr3 t.sum t.most).b) = s.sum.b + (gr3 t.sum t.most).b ∧ wrap64 (s.sum.c + (gr3 t.sum t.most).c) = s.sum.c + (gr3 t.sum t.most).c := by
 obtain ⟨h1, h2, ⟨B, h3, h4⟩, h5, h6⟩ := h
 obtain ⟨t1, _, ⟨C, t3, t4⟩, _, _⟩ := ht
 have hg := h3.add (gr3_bnd (t3.mono (show (C : Int) ≤ (R1 : Int) by omega)) t1)
 generalize gr3 t.sum t.most = x at *
 unfold bndW W3.add at hg
 simp only at hg
 unfold wrap64
 omega
abbrev SE := Value × Value × Sc
abbrev sck (e : SE) : List Value := scc e.1 e.2.1 e.2.2.sum e.2.2.most
structure RdE (w : World) (g : Nat) (e : SE) : Prop where
  list : rdG w (fun b => b ≠ g) (.sl 3 (cxsDt e.2.2.list)) e.1
  inner : rdG w (fun b => b ≠ g) (.sl 1 (lsDt e.2.2.inner)) e.2.1
structure StW (w : World) (B g cap : Nat) (ks : List SE) : Prop where
  own : ∃ cur, CB 55 w g cur ∧ cur.size = cap * 8 ∧ ks.length ≤ cap ∧ cur.toList.take (ks.length * 8) = ks.flatMap sck
  base : B ≤ g
  cap : cap ≤ maxLen
  rd : ∀ e ∈ ks, RdE w g e
theorem sck_flat (ks : List SE) : (ks.flatMap sck).length = ks.length * 8 := by
 induction ks with
 | nil => rfl
 | cons e ks ih => rw [List.flatMap_cons, List.length_append, ih]; show 8 + ks.length * 8 = (ks.length + 1) * 8; omega
section
variable {w w' : World} {B g cap : Nat} {ks : List SE} {t : SE}
theorem StW.lt (h : StW w B g cap ks) : g < w.heap.size := by
 obtain ⟨cur, hcb, _⟩ := h.own
 exact hcb.lt
theorem StW.below (h : StW w B g cap ks) (hb : Below w.heap.size w w') : StW w' B g cap ks := by
 obtain ⟨⟨cur, hcb, h2⟩, h3, h4, h5⟩ := h
 exact ⟨⟨cur, hcb.below hb hcb.lt, h2⟩, h3, h4, fun e he => ⟨(h5 e he).list.bel hb, (h5 e he).inner.bel hb⟩⟩
theorem StW.pop (h : StW w B g cap (ks ++ [t])) : StW w B g cap ks := by
 obtain ⟨⟨cur, hcb, h1, h2, h3⟩, h4, h5, h6⟩ := h
 rw [List.length_append] at h2 h3
 refine ⟨⟨cur, hcb, h1, by simp at h2; omega, ?_⟩, h4, h5, fun e he => h6 e (List.mem_append_left _ he)⟩
 have h7 : (cur.toList.take ((ks.length + [t].length) * 8)).take (ks.length * 8) = ((ks ++ [t]).flatMap sck).take (ks.length * 8) := by rw [h3]
 rw [List.take_take, Nat.min_eq_left (by simp; omega), List.flatMap_append, List.take_append_of_le_length (by rw [sck_flat]; exact Nat.le_refl _), List.take_of_length_le (l := ks.flatMap sck) (by rw [sck_flat]; exact Nat.le_refl _)] at h7
 exact h7
theorem StW.turn (h : StW w B g cap (ks ++ [t])) : ∃ cur, ScI 55 w g (ks.length * 8) cur (sck t) ∧ ∀ w' t', ScI 55 w' g (ks.length * 8) cur (sck t') → w.grownBy w' (some g) → RdE w' g t' → StW w' B g cap (ks ++ [t']) := by
 obtain ⟨⟨cur, hcb, h1, h2, h3⟩, h4, h5, h6⟩ := h
 rw [List.length_append, List.length_singleton] at h2 h3
 have hat : ∀ j, j < (ks.length + 1) * 8 → cur[j]? = ((ks ++ [t]).flatMap sck)[j]? := fun j hj => by
  rw [← h3, List.getElem?_take, if_pos hj]
  simp
 refine ⟨cur, ScI.of hcb (by omega) rfl (fun i hi => ?_), fun w' t' hs hg hr => ?_⟩
 · rw [hat _ (by omega), List.flatMap_append, List.getElem?_append_right (by rw [sck_flat]; omega), sck_flat]
   simp
 · obtain ⟨cur', c1, c2, c3, _, c5, c6⟩ := hs
   refine ⟨⟨cur', c1, by rw [c2, h1], by simpa using h2, ?_⟩, h4, h5, fun e he => ?_⟩
   · apply List.ext_getElem?
     intro j
     rw [List.length_append, List.length_singleton, List.getElem?_take]
     by_cases hj : j < (ks.length + 1) * 8
     · rw [if_pos hj]
       have e0 : cur'.toList[j]? = cur'[j]? := by simp
       rw [e0, List.flatMap_append]
       by_cases hj2 : j < ks.length * 8
       · rw [c6 j (.inl hj2), hat j hj, List.flatMap_append, List.getElem?_append_left (by rw [sck_flat]; exact hj2), List.getElem?_append_left (by rw [sck_flat]; exact hj2)]
       · rw [List.getElem?_append_right (by rw [sck_flat]; omega), sck_flat]
         have h7 := c5 (j - ks.length * 8) (by omega)
         rw [show ks.length * 8 + (j - ks.length * 8) = j by omega] at h7
         rw [h7]
         simp
     · rw [if_neg hj, List.getElem?_eq_none]
       rw [sck_flat]
       simp
       omega
   · rw [List.mem_append] at he
     rcases he with he | he
     · have := h6 e (List.mem_append_left _ he)
       exact ⟨this.list.gw hg, this.inner.gw hg⟩
     · simp at he
       subst he
       exact hr
theorem StW.row (h : StW w B g cap ks) : w.ownsRow B 55 8 (.slice (some ⟨g, 0, none⟩) ks.length cap) ks.length (ks.flatMap sck) := by
 obtain ⟨⟨cur, hcb, h1, h2, h3⟩, h4, h5, h6⟩ := h
 exact ⟨sck_flat ks, .inr ⟨g, cap, cur, rfl, h4, hcb, h2, h5, h1, h3⟩⟩
theorem rdG.newRow {d : Dt} {v : Value} {g' : Nat} (h : rdG w (fun b => b ≠ g) d v) (hg : w.grownBy w' (some g)) (hat : g' = g ∨ g' = w.heap.size) : rdG w' (fun b => b ≠ g') d v := by
 rcases hat with rfl | rfl
 · exact h.gw hg
 · have h1 := h.weak (Q := fun b => b ≠ g ∧ b < w.heap.size) fun b hl hb => ⟨hb, hl⟩
   exact rdG.move (fun b _ hb => Nat.ne_of_lt hb.2) (fun b hb _ => hg.block b hb.2 (fun e => hb.1 (Option.some.inj e))) hg.size d v h1
theorem StW.push {v' : Value} {u : Value} (h : StW w B g cap ks) (hu : u = .slice (some ⟨g, 0, none⟩) ks.length cap) (hr : RdE w g t) (ho : w'.ownsRow B 55 8 v' (ks.length + 1) (ks.flatMap sck ++ sck t)) (hg : w.grownBy w' u.ownBlock) (hat : v'.ownBlock = u.ownBlock ∨ v'.ownBlock = some w.heap.size) :
    ∃ g' cap', v' = .slice (some ⟨g', 0, none⟩) (ks.length + 1) cap' ∧ StW w' B g' cap' (ks ++ [t]) := by
  subst hu
  have hg : w.grownBy w' (some g) := hg
  rcases ho.2 with ⟨_, h0⟩ | ⟨g', cap', cur, rfl, h1, h2, h3, h4, h5, h6⟩
  · omega
  · have hat : g' = g ∨ g' = w.heap.size := by
     rcases hat with hat | hat
     · left
       exact Option.some.inj hat
     · right
       exact Option.some.inj hat
    refine ⟨g', cap', rfl, ⟨⟨cur, h2, h5, by simpa using h3, by rw [List.length_append, List.length_singleton, h6, List.flatMap_append]; simp⟩, h1, h4, fun e he => ?_⟩⟩
    have hre : RdE w g e := by
     rw [List.mem_append] at he
     rcases he with he | he
     · exact h.rd e he
     · simp at he
       subst he
       exact hr
    exact ⟨hre.list.newRow hg hat, hre.inner.newRow hg hat⟩
theorem rdG.lsHead {w : World} {Q : Nat → Prop} {x : List CxD} {q : List (List CxD)} {v : Value} (h : rdG w Q (.sl 1 (lsDt (x :: q))) v) :
    ∃ b off cap xv, v = .slice (some ⟨b, off, none⟩) (q.length + 1) cap ∧ q.length + 1 ≤ cap ∧ b < w.heap.size ∧ Q b ∧ w.cell? ⟨b, off, none⟩ = some xv ∧ rdG w Q (.sl 3 (cxsDt x)) xv ∧ rdG w Q (.sl 1 (lsDt q)) (.slice (some ⟨b, off + 1, none⟩) q.length (cap - 1)) := by
  obtain ⟨b, off, cap, hv, hle, hQ, hb, hr⟩ := h.base (by simp)
  rw [List.length_map, List.length_cons] at hv hle
  obtain ⟨_, h2⟩ := hr 0 (by simp)
  have e : (lsDt (x :: q))[0]'(by simp) = [.sl 3 (cxsDt x)] := by simp [lsDt]
  rw [e] at h2
  obtain ⟨u1, c1, r1⟩ := h2 0 (by simp)
  simp only [List.getElem_cons_zero, Nat.zero_mul, Nat.add_zero] at c1 r1
  rw [hv] at h
  have h3 := h.drop 1 (by simp)
  simp only [lsDt, List.map_cons, List.drop_succ_cons, List.drop_zero, Nat.one_mul, Nat.add_sub_cancel] at h3
  exact ⟨b, off, cap, u1, hv, hle, hb, hQ, c1, r1, h3⟩
end
abbrev scs (ks : List SE) : List Sc := ks.map fun e => e.2.2
theorem info_scale : (Tryz.prog.info? 55).map (fun i => (i.zero, i.size, i.bytes)) = some (some (.agg #[.slice none 0 0, .slice none 0 0, .int .i64 0, .int .i64 0, .int .i64 0, .int .i64 0, .int .i64 0, .int .i64 0]), 8, 96) := by kernel_rfl
end Go.Proofs.YtclicjiakkcfcaaGreatDoor
