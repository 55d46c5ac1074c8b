
import Derived.Test.YtkpaokcgjeplpaaDoorPrVe
import Derived.Test.YtkpaokcgjeplpaaDoorPrVf
import Derived.StillTailTactics
import Derived.Deep.RegionHeld3
import Derived.Deep.RegionWith
namespace Go.Proofs.YtkpaokcgjeplpaaDoor
open Go.RowKit
/-! PropTakes. -/
abbrev tnL : List ByteArray := [⟨#[99, 111, 108, 111, 114]⟩, ⟨#[99, 111, 110, 116, 101, 110, 116]⟩, ⟨#[99, 111, 117, 110, 116, 101, 114, 45, 105, 110, 99, 114, 101, 109, 101, 110, 116]⟩, ⟨#[99, 111, 117, 110, 116, 101, 114, 45, 114, 101, 115, 101, 116]⟩, ⟨#[99, 111, 117, 110, 116, 101, 114, 45, 115, 101, 116]⟩, ⟨#[100, 105, 115, 112, 108, 97, 121]⟩, ⟨#[108, 105, 115, 116, 45, 115, 116, 121, 108, 101, 45, 116, 121, 112, 101]⟩, ⟨#[113, 117, 111, 116, 101, 115]⟩]
abbrev tnC : Array Value := #[.string ⟨#[99, 111, 108, 111, 114]⟩, .string ⟨#[99, 111, 110, 116, 101, 110, 116]⟩, .string ⟨#[99, 111, 117, 110, 116, 101, 114, 45, 105, 110, 99, 114, 101, 109, 101, 110, 116]⟩, .string ⟨#[99, 111, 117, 110, 116, 101, 114, 45, 114, 101, 115, 101, 116]⟩, .string ⟨#[99, 111, 117, 110, 116, 101, 114, 45, 115, 101, 116]⟩, .string ⟨#[100, 105, 115, 112, 108, 97, 121]⟩, .string ⟨#[108, 105, 115, 116, 45, 115, 116, 121, 108, 101, 45, 116, 121, 112, 101]⟩, .string ⟨#[113, 117, 111, 116, 101, 115]⟩]
set_option maxRecDepth 100000 in
set_option maxHeartbeats 800000 in
theorem rnames_any (w : World) :
    Calls Tryd.prog 11 #[] w fun e w' => e = .returned (.slice (some ⟨w.heap.size, 0, none⟩) 8 8) ∧ CB 9 w' w.heap.size tnC ∧ Below w.heap.size w w' := by
  go_enter Tryd.func11, Tryd.ntmps11
  go_wp2
  go_ret
  exact ⟨rfl, CB.new _ _, (Below.refl w.heap.size w).alloc (Nat.le_refl _) _⟩
theorem tn_at (j : Nat) (hj : j < tnL.length) : tnC[j]? = some (.string tnL[j]) := by
  have hj8 : j < 8 := hj
  rcases (by omega : j = 0 ∨ j = 1 ∨ j = 2 ∨ j = 3 ∨ j = 4 ∨ j = 5 ∨ j = 6 ∨ j = 7) with rfl | rfl | rfl | rfl | rfl | rfl | rfl | rfl <;> rfl
theorem csets11g (d d' : StyD) (v1 v2 v3 v4 v5 u1 u2 u3 u4 u5 : Value) : csets (styC d v1 v2 v3 v4 v5) 0 (styC d' u1 u2 u3 u4 u5).toList = styC d' u1 u2 u3 u4 u5 := by kernel_rfl
theorem CB.all11g {w : World} {b : Nat} {d : StyD} {v1 v2 v3 v4 v5 : Value} (h : CB 26 w b (styC d v1 v2 v3 v4 v5)) (d' : StyD) (u1 u2 u3 u4 u5 : Value) : CB 26 (w.setCells b 0 (styC d' u1 u2 u3 u4 u5).toList) b (styC d' u1 u2 u3 u4 u5) := by
  have h1 := CB.sets (styC d' u1 u2 u3 u4 u5).toList 0 w _ h
  rw [csets11g] at h1
  exact h1
def foldT (a b : StyD) (i : Nat) : StyD := (tnL.take i).foldl (fun s n => takeS s b n) a
theorem foldT_all (a b : StyD) : foldT a b 8 = b := by
  obtain ⟨a0, a1, a2, a3, a4, a5, a6, a7, a8, a9, a10⟩ := a
  obtain ⟨b0, b1, b2, b3, b4, b5, b6, b7, b8, b9, b10⟩ := b
  kernel_rfl
theorem take_twice (a b : StyD) : takeS (takeS a b ⟨#[100, 105, 115, 112, 108, 97, 121]⟩) a ⟨#[100, 105, 115, 112, 108, 97, 121]⟩ = a := by
  obtain ⟨a0, a1, a2, a3, a4, a5, a6, a7, a8, a9, a10⟩ := a
  obtain ⟨b0, b1, b2, b3, b4, b5, b6, b7, b8, b9, b10⟩ := b
  kernel_rfl
theorem foldT_succ (a b : StyD) {i : Nat} (h : i < tnL.length) : foldT a b (i + 1) = takeS (foldT a b i) b tnL[i] := by
  unfold foldT
  rw [List.take_succ_eq_append_getElem h, List.foldl_append]
  rfl
theorem SLen.foldT {a b : StyD} (ha : SLen a) (hb : SLen b) : ∀ i, SLen (foldT a b i) := fun i => by
  unfold Proofs.YtkpaokcgjeplpaaDoor.foldT
  generalize tnL.take i = l
  induction l generalizing a with
  | nil => exact ha
  | cons n l ih => exact ih (ha.take hb n)
/-- The two boxes of the law's arguments. -/
structure PtB (w W : World) (a b : StyD) (p1 p2 p3 p4 p5 q1 q2 q3 q4 q5 : Value) : Prop where
  bel : Below w.heap.size w W
  ba : CB 26 W w.heap.size (styC a p1 p2 p3 p4 p5)
  bb : CB 26 W (w.heap.size + 1) (styC b q1 q2 q3 q4 q5)
  size : w.heap.size + 2 ≤ W.heap.size
theorem PtB.start (w : World) (a b : StyD) (p1 p2 p3 p4 p5 q1 q2 q3 q4 q5 : Value) : PtB w ((w.alloc (.cells (styC a p1 p2 p3 p4 p5) 26)).alloc (.cells (styC b q1 q2 q3 q4 q5) 26)) a b p1 p2 p3 p4 p5 q1 q2 q3 q4 q5 := by
  refine ⟨((Below.refl w.heap.size w).alloc (Nat.le_refl _) _).alloc (by simp) _, (CB.new _ _).alloc _, ?_, by simp⟩
  have := CB.new (T := 26) (w.alloc (.cells (styC a p1 p2 p3 p4 p5) 26)) (styC b q1 q2 q3 q4 q5)
  rw [show (w.alloc (.cells (styC a p1 p2 p3 p4 p5) 26)).heap.size = w.heap.size + 1 by simp] at this
  exact this
theorem PtB.below {w W W' : World} {a b : StyD} {p1 p2 p3 p4 p5 q1 q2 q3 q4 q5 : Value} (h : PtB w W a b p1 p2 p3 p4 p5 q1 q2 q3 q4 q5) (hb : Below W.heap.size W W') : PtB w W' a b p1 p2 p3 p4 p5 q1 q2 q3 q4 q5 :=
  ⟨below_seq h.bel hb, h.ba.below hb h.ba.lt, h.bb.below hb h.bb.lt, Nat.le_trans h.size hb.size⟩
set_option maxRecDepth 100000 in
set_option maxHeartbeats 6400000 in
theorem takes_main {a b : StyD} {p1 p2 p3 p4 p5 q1 q2 q3 q4 q5 : Value} (nm : ByteArray) (w : World) (ht : TabP w) (ha : RdSty w p1 p2 p3 p4 p5 a) (hb : RdSty w q1 q2 q3 q4 q5 b) :
    Calls Tryd.prog 3 #[.agg (styC a p1 p2 p3 p4 p5), .agg (styC b q1 q2 q3 q4 q5), .string nm] w fun e w' => e = .returned (.bool true) ∧ Below w.heap.size w w' := by
  obtain ⟨a1, n1, c1, rfl⟩ := ha.cont.sl
  obtain ⟨a2, n2, c2, rfl⟩ := ha.quotes.sl
  obtain ⟨a3, n3, c3, rfl⟩ := ha.reset.sl
  obtain ⟨a4, n4, c4, rfl⟩ := ha.add.sl
  obtain ⟨a5, n5, c5, rfl⟩ := ha.set.sl
  obtain ⟨b1, m1, d1, rfl⟩ := hb.cont.sl
  obtain ⟨b2, m2, d2, rfl⟩ := hb.quotes.sl
  obtain ⟨b3, m3, d3, rfl⟩ := hb.reset.sl
  obtain ⟨b4, m4, d4, rfl⟩ := hb.add.sl
  obtain ⟨b5, m5, d5, rfl⟩ := hb.set.sl
  have HA := Lib.hid ha
  have HB := Lib.hid hb
  have HT := Lib.hid ht
  have HK := Lib.hid (PtB.start w a b (.slice a1 n1 c1) (.slice a2 n2 c2) (.slice a3 n3 c3) (.slice a4 n4 c4) (.slice a5 n5 c5) (.slice b1 m1 d1) (.slice b2 m2 d2) (.slice b3 m3 d3) (.slice b4 m4 d4) (.slice b5 m5 d5))
  clear ha hb ht
  go_enter Tryd.func3, Tryd.ntmps3
  go_upto_region 1 with fail
  generalize (w.alloc (.cells (styC a _ _ _ _ _) 26)).alloc (.cells (styC b _ _ _ _ _) 26) = W0 at *
  obtain ⟨g0, g1, g2, g3, g4, g5, g6, g7, g8, g9, g10⟩ := HK.out.ba.s11
  go_wp2_with fail
  refine (stylelook_any (HA.out.below HK.out.bel)).mono ?_
  rintro e w1 ⟨⟨r1, rfl, k1⟩, hb1⟩
  have HK1 := Lib.hid (HK.out.below hb1)
  clear g0 g1 g2 g3 g4 g5 g6 g7 g8 g9 g10
  cases r1
  · go_wp2_with (go_at_call 7; (with_reducible refine (awake12_any _ (HT.out.below HK1.out.bel)).mono ?_); rintro e w5 ⟨rfl, hb5⟩; have HB5 := Lib.hid (below_seq HK1.out.bel hb5))
    go_ret
    exact ⟨rfl, HB5.out⟩
  have HLA := Lib.hid (k1 rfl)
  clear k1
  obtain ⟨h0, h1, h2, h3, h4, h5, h6, h7, h8, h9, h10⟩ := HK1.out.bb.s11
  go_wp2_with fail
  refine (stylelook_any (HB.out.below HK1.out.bel)).mono ?_
  rintro e w2 ⟨⟨r2, rfl, k2⟩, hb2⟩
  have HK2 := Lib.hid (HK1.out.below hb2)
  clear h0 h1 h2 h3 h4 h5 h6 h7 h8 h9 h10
  cases r2
  · go_wp2_with (go_at_call 7; (with_reducible refine (awake12_any _ (HT.out.below HK2.out.bel)).mono ?_); rintro e w5 ⟨rfl, hb5⟩; have HB5 := Lib.hid (below_seq HK2.out.bel hb5))
    go_ret
    exact ⟨rfl, HB5.out⟩
  have HLB := Lib.hid (k2 rfl)
  clear k2
  by_cases hsz : 100 < nm.size
  · have hszI : (100 : Int) < (nm.size : Int) := by omega
    go_wp2_with (go_at_call 7; (with_reducible refine (awake12_any _ (HT.out.below HK2.out.bel)).mono ?_); rintro e w5 ⟨rfl, hb5⟩; have HB5 := Lib.hid (below_seq HK2.out.bel hb5))
    go_ret
    exact ⟨rfl, HB5.out⟩
  have hszI : ¬ (100 : Int) < (nm.size : Int) := by omega
  go_upto_region 3 with fail
  have HS2 := Lib.hid (And.intro HK2.out.ba.s11 HK2.out.bb.s11)
  have hS2 := HS2.out
  go_region_held3 (fun w' => (w'.cell? ⟨w.heap.size, 0, none⟩ = some (.string a.disp) ∧ w'.cell? ⟨w.heap.size, 1, none⟩ = some (.string a.lt) ∧ w'.cell? ⟨w.heap.size, 2, none⟩ = some (.string a.color) ∧ w'.cell? ⟨w.heap.size, 3, none⟩ = some ((.slice a1 n1 c1)) ∧ w'.cell? ⟨w.heap.size, 4, none⟩ = some (.bool a.normal) ∧ w'.cell? ⟨w.heap.size, 5, none⟩ = some (.bool a.none) ∧ w'.cell? ⟨w.heap.size, 6, none⟩ = some ((.slice a2 n2 c2)) ∧ w'.cell? ⟨w.heap.size, 7, none⟩ = some (.bool a.auto) ∧ w'.cell? ⟨w.heap.size, 8, none⟩ = some ((.slice a3 n3 c3)) ∧ w'.cell? ⟨w.heap.size, 9, none⟩ = some ((.slice a4 n4 c4)) ∧ w'.cell? ⟨w.heap.size, 10, none⟩ = some ((.slice a5 n5 c5))) ∧ (w'.cell? ⟨w.heap.size + 1, 0, none⟩ = some (.string b.disp) ∧ w'.cell? ⟨w.heap.size + 1, 1, none⟩ = some (.string b.lt) ∧ w'.cell? ⟨w.heap.size + 1, 2, none⟩ = some (.string b.color) ∧ w'.cell? ⟨w.heap.size + 1, 3, none⟩ = some ((.slice b1 m1 d1)) ∧ w'.cell? ⟨w.heap.size + 1, 4, none⟩ = some (.bool b.normal) ∧ w'.cell? ⟨w.heap.size + 1, 5, none⟩ = some (.bool b.none) ∧ w'.cell? ⟨w.heap.size + 1, 6, none⟩ = some ((.slice b2 m2 d2)) ∧ w'.cell? ⟨w.heap.size + 1, 7, none⟩ = some (.bool b.auto) ∧ w'.cell? ⟨w.heap.size + 1, 8, none⟩ = some ((.slice b3 m3 d3)) ∧ w'.cell? ⟨w.heap.size + 1, 9, none⟩ = some ((.slice b4 m4 d4)) ∧ w'.cell? ⟨w.heap.size + 1, 10, none⟩ = some ((.slice b5 m5 d5)))) (first | go_keep | exact HS2.out | exact HS3.out | exact HS4.out | exact HS5.out) (first | (go_at_call 9; refine (ptake_any nm (HA.out.below (by first | exact HK2.out.bel | exact HK2.out.bel.drew)) (HB.out.below (by first | exact HK2.out.bel | exact HK2.out.bel.drew)) HLA.out HLB.out).mono ?_; rintro e w3 ⟨⟨s1, s2, s3, s4, s5, rfl, hr3⟩, hb3⟩; have HR3 := Lib.hid hr3; have hb3' : Below w2.heap.size w2 w3 := (by first | exact hb3 | exact below_seq ((Below.refl _ _).drew) hb3); have HK3 := Lib.hid (HK2.out.below hb3'); have HS3 := Lib.hid (And.intro HK3.out.ba.s11 HK3.out.bb.s11)) | (go_at_call 10; refine (rtake_any nm (HA.out.below HK3.out.bel) (HB.out.below HK3.out.bel)).mono ?_; rintro e w4 ⟨⟨z1, z2, z3, z4, z5, rfl, hr4⟩, hb4⟩; have HR4 := Lib.hid hr4; have HR3' := Lib.hid (HR3.out.below hb4); have HK4 := Lib.hid (HK3.out.below hb4); have HS4 := Lib.hid (And.intro HK4.out.ba.s11 HK4.out.bb.s11)) | (go_at_call 8; refine (samestyle_any HR3'.out HR4.out (by have := (HLA.out.take HLB.out nm).cont; omega) (by have := (HLA.out.take HLB.out nm).quotes; omega) (by have := (HLA.out.take HLB.out nm).reset; omega) (by have := (HLA.out.take HLB.out nm).add; omega) (by have := (HLA.out.take HLB.out nm).set; omega)).mono ?_; rintro e w5 ⟨rfl, hb5⟩; have HK5 := Lib.hid (HK4.out.below hb5); have HS5 := Lib.hid (And.intro HK5.out.ba.s11 HK5.out.bb.s11)))
  clear HS2 hS2 HS3 HS4 HS5
  go_upto_region 5 with fail
  obtain ⟨g0, g1, g2, g3, g4, g5, g6, g7, g8, g9, g10⟩ := HK5.out.ba.s11
  have HK6 := Lib.hid (HK5.out.below ((Below.refl w5.heap.size w5).alloc (Nat.le_refl _) (.cells (styC a (.slice a1 n1 c1) (.slice a2 n2 c2) (.slice a3 n3 c3) (.slice a4 n4 c4) (.slice a5 n5 c5)) 26)))
  have HC6 := Lib.hid (CB.new (T := 26) w5 (styC a (.slice a1 n1 c1) (.slice a2 n2 c2) (.slice a3 n3 c3) (.slice a4 n4 c4) (.slice a5 n5 c5)))
  have hsz5 := HK5.out.size
  go_upto_region 6 with fail
  generalize hW6 : w5.alloc (.cells _ 26) = W6 at *
  have hs6 : W6.heap.size = w5.heap.size + 1 := by rw [← hW6]; simp
  clear hW6 g0 g1 g2 g3 g4 g5 g6 g7 g8 g9 g10
  go_upto_region 7 with (go_at_call 11; refine (rnames_any _).mono ?_; rintro e w7 ⟨rfl, hn7, hb7⟩; have HK7 := Lib.hid (HK6.out.below hb7); have HC7 := Lib.hid (HC6.out.below hb7 HC6.out.lt); have HN7 := Lib.hid hn7; clear hn7 hb7)
  go_wp2
  go_loopw [9] (fun iv wr => ∃ (i : Nat) (r1 r2 r3 r4 r5 : Value), iv = .int .i64 i ∧ i ≤ 8 ∧ PtB w wr a b (.slice a1 n1 c1) (.slice a2 n2 c2) (.slice a3 n3 c3) (.slice a4 n4 c4) (.slice a5 n5 c5) (.slice b1 m1 d1) (.slice b2 m2 d2) (.slice b3 m3 d3) (.slice b4 m4 d4) (.slice b5 m5 d5) ∧ CB 26 wr w5.heap.size (styC (foldT a b i) r1 r2 r3 r4 r5) ∧ RdSty wr r1 r2 r3 r4 r5 (foldT a b i) ∧ CB 9 wr W6.heap.size tnC) (fun iv _ => 8 - (intOf iv).toNat)
  case atStart => exact ⟨0, _, _, _, _, _, rfl, by omega, HK7.out, HC7.out, HA.out.below HK7.out.bel, HN7.out⟩
  case round =>
    obtain ⟨i, r1, r2, r3, r4, r5, rfl, hi8, hk, hc, hr, hn⟩ := hrel
    obtain ⟨e1, l1, f1, rfl⟩ := hr.cont.sl
    obtain ⟨e2, l2, f2, rfl⟩ := hr.quotes.sl
    obtain ⟨e3, l3, f3, rfl⟩ := hr.reset.sl
    obtain ⟨e4, l4, f4, rfl⟩ := hr.add.sl
    obtain ⟨e5, l5, f5, rfl⟩ := hr.set.sl
    have HKR := Lib.hid hk
    have HCR := Lib.hid hc
    have HRR := Lib.hid hr
    have HNR := Lib.hid hn
    have hi0 : (0 : Int) ≤ (i : Int) := by omega
    have hcl := hc.lt
    clear hk hc hr hn
    by_cases hlt : i < 8
    · have hltI : (i : Int) < 8 := by omega
      have HNI := Lib.hid (tn_at i hlt)
      have HFS := Lib.hid (foldT_succ a b (i := i) hlt)
      have HLD := Lib.hid (SLen.foldT HLA.out HLB.out i)
      generalize (tnL[i]'hlt) = NI at *
      generalize foldT a b i = D at *
      have t0 : wr.cell? ⟨w5.heap.size, 0, none⟩ = some (.string D.disp) := HCR.out.cell 0
      have t1 : wr.cell? ⟨w5.heap.size, 1, none⟩ = some (.string D.lt) := HCR.out.cell 1
      have t2 : wr.cell? ⟨w5.heap.size, 2, none⟩ = some (.string D.color) := HCR.out.cell 2
      have t3 : wr.cell? ⟨w5.heap.size, 3, none⟩ = some ((.slice e1 l1 f1)) := HCR.out.cell 3
      have t4 : wr.cell? ⟨w5.heap.size, 4, none⟩ = some (.bool D.normal) := HCR.out.cell 4
      have t5 : wr.cell? ⟨w5.heap.size, 5, none⟩ = some (.bool D.none) := HCR.out.cell 5
      have t6 : wr.cell? ⟨w5.heap.size, 6, none⟩ = some ((.slice e2 l2 f2)) := HCR.out.cell 6
      have t7 : wr.cell? ⟨w5.heap.size, 7, none⟩ = some (.bool D.auto) := HCR.out.cell 7
      have t8 : wr.cell? ⟨w5.heap.size, 8, none⟩ = some ((.slice e3 l3 f3)) := HCR.out.cell 8
      have t9 : wr.cell? ⟨w5.heap.size, 9, none⟩ = some ((.slice e4 l4 f4)) := HCR.out.cell 9
      have t10 : wr.cell? ⟨w5.heap.size, 10, none⟩ = some ((.slice e5 l5 f5)) := HCR.out.cell 10
      have u0 : wr.cell? ⟨w.heap.size + 1, 0, none⟩ = some (.string b.disp) := HKR.out.bb.cell 0
      have u1 : wr.cell? ⟨w.heap.size + 1, 1, none⟩ = some (.string b.lt) := HKR.out.bb.cell 1
      have u2 : wr.cell? ⟨w.heap.size + 1, 2, none⟩ = some (.string b.color) := HKR.out.bb.cell 2
      have u3 : wr.cell? ⟨w.heap.size + 1, 3, none⟩ = some ((.slice b1 m1 d1)) := HKR.out.bb.cell 3
      have u4 : wr.cell? ⟨w.heap.size + 1, 4, none⟩ = some (.bool b.normal) := HKR.out.bb.cell 4
      have u5 : wr.cell? ⟨w.heap.size + 1, 5, none⟩ = some (.bool b.none) := HKR.out.bb.cell 5
      have u6 : wr.cell? ⟨w.heap.size + 1, 6, none⟩ = some ((.slice b2 m2 d2)) := HKR.out.bb.cell 6
      have u7 : wr.cell? ⟨w.heap.size + 1, 7, none⟩ = some (.bool b.auto) := HKR.out.bb.cell 7
      have u8 : wr.cell? ⟨w.heap.size + 1, 8, none⟩ = some ((.slice b3 m3 d3)) := HKR.out.bb.cell 8
      have u9 : wr.cell? ⟨w.heap.size + 1, 9, none⟩ = some ((.slice b4 m4 d4)) := HKR.out.bb.cell 9
      have u10 : wr.cell? ⟨w.heap.size + 1, 10, none⟩ = some ((.slice b5 m5 d5)) := HKR.out.bb.cell 10
      have v0 : wr.cell? ⟨w5.heap.size + 1, i, none⟩ = some (.string NI) := (by rw [← hs6]; exact (HNR.out.cell i).trans HNI.out)
      have HKD := Lib.hid (show PtB w wr.drew a b (.slice a1 n1 c1) (.slice a2 n2 c2) (.slice a3 n3 c3) (.slice a4 n4 c4) (.slice a5 n5 c5) (.slice b1 m1 d1) (.slice b2 m2 d2) (.slice b3 m3 d3) (.slice b4 m4 d4) (.slice b5 m5 d5) from ⟨HKR.out.bel.drew, HKR.out.ba, HKR.out.bb, HKR.out.size⟩)
      have HRD := Lib.hid (HRR.out.below ((Below.refl wr.heap.size wr).drew))
      have HCD := Lib.hid (show CB 26 wr.drew w5.heap.size (styC D (.slice e1 l1 f1) (.slice e2 l2 f2) (.slice e3 l3 f3) (.slice e4 l4 f4) (.slice e5 l5 f5)) from HCR.out)
      have HND := Lib.hid (show CB 9 wr.drew W6.heap.size tnC from HNR.out)
      have hcd : w5.heap.size < wr.drew.heap.size := hcl
      go_upto_region 10 with fail
      go_region_with ((go_at_call 9; (refine (ptake_own NI HRD.out (HB.out.below HKD.out.bel) HLD.out HLB.out).mono ?_); rintro e w1 ⟨⟨s1, s2, s3, s4, s5, rfl, hw1o⟩, hb1⟩; have hw1 := hw1o.rd; obtain ⟨x1, k1, y1, rfl⟩ := hw1.cont.sl; obtain ⟨x2, k2, y2, rfl⟩ := hw1.quotes.sl; obtain ⟨x3, k3, y3, rfl⟩ := hw1.reset.sl; obtain ⟨x4, k4, y4, rfl⟩ := hw1.add.sl; obtain ⟨x5, k5, y5, rfl⟩ := hw1.set.sl; have HW1 := Lib.hid hw1o; have HK1 := Lib.hid (HKD.out.below hb1); have HC1 := Lib.hid (HCD.out.below hb1 HCD.out.lt); have HN1 := Lib.hid (HND.out.below hb1 HND.out.lt); clear hw1 hw1o hb1; have o0 : w1.cell? ⟨w5.heap.size, 0, none⟩ = some (.string D.disp) := HC1.out.cell 0; have p0 : w1.frozen? ⟨w5.heap.size, 0, none⟩ = false := HC1.out.frozen 0; have o1 : w1.cell? ⟨w5.heap.size, 1, none⟩ = some (.string D.lt) := HC1.out.cell 1; have p1 : w1.frozen? ⟨w5.heap.size, 1, none⟩ = false := HC1.out.frozen 1; have o2 : w1.cell? ⟨w5.heap.size, 2, none⟩ = some (.string D.color) := HC1.out.cell 2; have p2 : w1.frozen? ⟨w5.heap.size, 2, none⟩ = false := HC1.out.frozen 2; have o3 : w1.cell? ⟨w5.heap.size, 3, none⟩ = some ((.slice e1 l1 f1)) := HC1.out.cell 3; have p3 : w1.frozen? ⟨w5.heap.size, 3, none⟩ = false := HC1.out.frozen 3; have o4 : w1.cell? ⟨w5.heap.size, 4, none⟩ = some (.bool D.normal) := HC1.out.cell 4; have p4 : w1.frozen? ⟨w5.heap.size, 4, none⟩ = false := HC1.out.frozen 4; have o5 : w1.cell? ⟨w5.heap.size, 5, none⟩ = some (.bool D.none) := HC1.out.cell 5; have p5 : w1.frozen? ⟨w5.heap.size, 5, none⟩ = false := HC1.out.frozen 5; have o6 : w1.cell? ⟨w5.heap.size, 6, none⟩ = some ((.slice e2 l2 f2)) := HC1.out.cell 6; have p6 : w1.frozen? ⟨w5.heap.size, 6, none⟩ = false := HC1.out.frozen 6; have o7 : w1.cell? ⟨w5.heap.size, 7, none⟩ = some (.bool D.auto) := HC1.out.cell 7; have p7 : w1.frozen? ⟨w5.heap.size, 7, none⟩ = false := HC1.out.frozen 7; have o8 : w1.cell? ⟨w5.heap.size, 8, none⟩ = some ((.slice e3 l3 f3)) := HC1.out.cell 8; have p8 : w1.frozen? ⟨w5.heap.size, 8, none⟩ = false := HC1.out.frozen 8; have o9 : w1.cell? ⟨w5.heap.size, 9, none⟩ = some ((.slice e4 l4 f4)) := HC1.out.cell 9; have p9 : w1.frozen? ⟨w5.heap.size, 9, none⟩ = false := HC1.out.frozen 9; have o10 : w1.cell? ⟨w5.heap.size, 10, none⟩ = some ((.slice e5 l5 f5)) := HC1.out.cell 10; have p10 : w1.frozen? ⟨w5.heap.size, 10, none⟩ = false := HC1.out.frozen 10))
      all_goals have HW2 := Lib.hid ((HW1.out.sets (b := w5.heap.size) hcd (styC (takeS D b NI) (.slice x1 k1 y1) (.slice x2 k2 y2) (.slice x3 k3 y3) (.slice x4 k4 y4) (.slice x5 k5 y5)).toList 0).rd)
      all_goals have HC2 := Lib.hid (HC1.out.all11g (takeS D b NI) (.slice x1 k1 y1) (.slice x2 k2 y2) (.slice x3 k3 y3) (.slice x4 k4 y4) (.slice x5 k5 y5))
      all_goals have HK2 := Lib.hid (show PtB w (w1.setCells w5.heap.size 0 (styC (takeS D b NI) (.slice x1 k1 y1) (.slice x2 k2 y2) (.slice x3 k3 y3) (.slice x4 k4 y4) (.slice x5 k5 y5)).toList) a b (.slice a1 n1 c1) (.slice a2 n2 c2) (.slice a3 n3 c3) (.slice a4 n4 c4) (.slice a5 n5 c5) (.slice b1 m1 d1) (.slice b2 m2 d2) (.slice b3 m3 d3) (.slice b4 m4 d4) (.slice b5 m5 d5) from ⟨setsS_below (by omega) _ 0 _ HK1.out.bel, CB.farS (by omega) _ 0 _ HK1.out.ba, CB.farS (by omega) _ 0 _ HK1.out.bb, Nat.le_trans (show w.heap.size + 2 ≤ w5.heap.size + 1 by omega) (Nat.succ_le_of_lt HC2.out.lt)⟩)
      all_goals have HN2 := Lib.hid (CB.farS (show W6.heap.size ≠ w5.heap.size by omega) (styC (takeS D b NI) (.slice x1 k1 y1) (.slice x2 k2 y2) (.slice x3 k3 y3) (.slice x4 k4 y4) (.slice x5 k5 y5)).toList 0 _ HN1.out)
      all_goals go_wp2
      all_goals exact ⟨⟨i + 1, _, _, _, _, _, by go_num, by omega, HK2.out, by rw [HFS.out]; exact HC2.out, by rw [HFS.out]; exact HW2.out, HN2.out⟩, by simp [intOf]; omega⟩
    · obtain rfl : i = 8 := by omega
      rw [foldT_all] at HCR HRR
      go_upto_region 11 with fail
      have HSR := Lib.hid (And.intro HKR.out.ba.s11 (And.intro HKR.out.bb.s11 HCR.out.s11))
      have hSR := HSR.out
      go_region_held3 (fun w' => (w'.cell? ⟨w.heap.size, 0, none⟩ = some (.string a.disp) ∧ w'.cell? ⟨w.heap.size, 1, none⟩ = some (.string a.lt) ∧ w'.cell? ⟨w.heap.size, 2, none⟩ = some (.string a.color) ∧ w'.cell? ⟨w.heap.size, 3, none⟩ = some ((.slice a1 n1 c1)) ∧ w'.cell? ⟨w.heap.size, 4, none⟩ = some (.bool a.normal) ∧ w'.cell? ⟨w.heap.size, 5, none⟩ = some (.bool a.none) ∧ w'.cell? ⟨w.heap.size, 6, none⟩ = some ((.slice a2 n2 c2)) ∧ w'.cell? ⟨w.heap.size, 7, none⟩ = some (.bool a.auto) ∧ w'.cell? ⟨w.heap.size, 8, none⟩ = some ((.slice a3 n3 c3)) ∧ w'.cell? ⟨w.heap.size, 9, none⟩ = some ((.slice a4 n4 c4)) ∧ w'.cell? ⟨w.heap.size, 10, none⟩ = some ((.slice a5 n5 c5))) ∧ (w'.cell? ⟨w.heap.size + 1, 0, none⟩ = some (.string b.disp) ∧ w'.cell? ⟨w.heap.size + 1, 1, none⟩ = some (.string b.lt) ∧ w'.cell? ⟨w.heap.size + 1, 2, none⟩ = some (.string b.color) ∧ w'.cell? ⟨w.heap.size + 1, 3, none⟩ = some ((.slice b1 m1 d1)) ∧ w'.cell? ⟨w.heap.size + 1, 4, none⟩ = some (.bool b.normal) ∧ w'.cell? ⟨w.heap.size + 1, 5, none⟩ = some (.bool b.none) ∧ w'.cell? ⟨w.heap.size + 1, 6, none⟩ = some ((.slice b2 m2 d2)) ∧ w'.cell? ⟨w.heap.size + 1, 7, none⟩ = some (.bool b.auto) ∧ w'.cell? ⟨w.heap.size + 1, 8, none⟩ = some ((.slice b3 m3 d3)) ∧ w'.cell? ⟨w.heap.size + 1, 9, none⟩ = some ((.slice b4 m4 d4)) ∧ w'.cell? ⟨w.heap.size + 1, 10, none⟩ = some ((.slice b5 m5 d5))) ∧ (w'.cell? ⟨w5.heap.size, 0, none⟩ = some (.string b.disp) ∧ w'.cell? ⟨w5.heap.size, 1, none⟩ = some (.string b.lt) ∧ w'.cell? ⟨w5.heap.size, 2, none⟩ = some (.string b.color) ∧ w'.cell? ⟨w5.heap.size, 3, none⟩ = some ((.slice e1 l1 f1)) ∧ w'.cell? ⟨w5.heap.size, 4, none⟩ = some (.bool b.normal) ∧ w'.cell? ⟨w5.heap.size, 5, none⟩ = some (.bool b.none) ∧ w'.cell? ⟨w5.heap.size, 6, none⟩ = some ((.slice e2 l2 f2)) ∧ w'.cell? ⟨w5.heap.size, 7, none⟩ = some (.bool b.auto) ∧ w'.cell? ⟨w5.heap.size, 8, none⟩ = some ((.slice e3 l3 f3)) ∧ w'.cell? ⟨w5.heap.size, 9, none⟩ = some ((.slice e4 l4 f4)) ∧ w'.cell? ⟨w5.heap.size, 10, none⟩ = some ((.slice e5 l5 f5)))) (first | go_keep | exact HSR.out | exact HS6.out | exact HS7.out | exact HS8.out | exact HS9.out | exact HS10.out) (first | (go_at_call 9; refine (ptake_any ⟨#[100, 105, 115, 112, 108, 97, 121]⟩ HR7.out (HA.out.below HK7'.out.bel) (HLA.out.take HLB.out ⟨#[100, 105, 115, 112, 108, 97, 121]⟩) HLA.out).mono ?_; rintro e w8 ⟨⟨z1, z2, z3, z4, z5, rfl, hr8⟩, hb8⟩; rw [take_twice] at hr8; rw [take_twice]; have HR8 := Lib.hid hr8; have HK8 := Lib.hid (HK7'.out.below hb8); have HC8 := Lib.hid (HC7'.out.below hb8 HC7'.out.lt); have HS8 := Lib.hid (And.intro HK8.out.ba.s11 (And.intro HK8.out.bb.s11 HC8.out.s11))) | (go_at_call 9; refine (ptake_any ⟨#[100, 105, 115, 112, 108, 97, 121]⟩ (HA.out.below HK6'.out.bel) (HB.out.below HK6'.out.bel) HLA.out HLB.out).mono ?_; rintro e w7' ⟨⟨z1, z2, z3, z4, z5, rfl, hr7⟩, hb7'⟩; have HR7 := Lib.hid hr7; have HK7' := Lib.hid (HK6'.out.below hb7'); have HC7' := Lib.hid (HC6'.out.below hb7' HC6'.out.lt); have HS7 := Lib.hid (And.intro HK7'.out.ba.s11 (And.intro HK7'.out.bb.s11 HC7'.out.s11))) | (go_at_call 8; refine (samestyle_any HR8.out (HA.out.below HK8.out.bel) (by have := HLA.out.cont; omega) (by have := HLA.out.quotes; omega) (by have := HLA.out.reset; omega) (by have := HLA.out.add; omega) (by have := HLA.out.set; omega)).mono ?_; rintro e w9 ⟨rfl, hb9⟩; have HK9 := Lib.hid (HK8.out.below hb9); have HC9 := Lib.hid (HC8.out.below hb9 HC8.out.lt); have HS9 := Lib.hid (And.intro HK9.out.ba.s11 (And.intro HK9.out.bb.s11 HC9.out.s11))) | (go_at_call 8; refine (samestyle_any (HRR.out.below (Below.refl _ _).drew) (HB.out.below HKR.out.bel.drew) (by have := HLB.out.cont; omega) (by have := HLB.out.quotes; omega) (by have := HLB.out.reset; omega) (by have := HLB.out.add; omega) (by have := HLB.out.set; omega)).mono ?_; rintro e w6' ⟨rfl, hb6⟩; have hb6' : Below wr.heap.size wr w6' := (by first | exact hb6 | exact below_seq ((Below.refl _ _).drew) hb6); have HK6' := Lib.hid (HKR.out.below hb6'); have HC6' := Lib.hid (HCR.out.below hb6' HCR.out.lt); have HS6 := Lib.hid (And.intro HK6'.out.ba.s11 (And.intro HK6'.out.bb.s11 HC6'.out.s11))) | (go_at_call 7; refine (awake12_any _ (HT.out.below HK9.out.bel)).mono ?_; rintro e w10 ⟨rfl, hb10⟩; have HK10 := Lib.hid (HK9.out.below hb10); have HC10 := Lib.hid (HC9.out.below hb10 HC9.out.lt); have HS10 := Lib.hid (And.intro HK10.out.ba.s11 (And.intro HK10.out.bb.s11 HC10.out.s11))))
      all_goals go_wp2
      all_goals go_ret
      all_goals exact ⟨rfl, HK10.out.bel⟩
theorem PropTakes_any (w : World) (ht : TabP w) {a : StyD} (p1 p2 p3 p4 p5 : Value) (ha : RdSty w p1 p2 p3 p4 p5 a) {b : StyD} (q1 q2 q3 q4 q5 : Value) (hb : RdSty w q1 q2 q3 q4 q5 b) (nm : ByteArray) (_hn : nm.size ≤ maxLen) :
    Calls Tryd.prog 3 #[.agg (styC a p1 p2 p3 p4 p5), .agg (styC b q1 q2 q3 q4 q5), .string nm] w fun e w' => e = .returned (.bool true) ∧ Below w.heap.size w w' := takes_main nm w ht ha hb
end Go.Proofs.YtkpaokcgjeplpaaDoor
