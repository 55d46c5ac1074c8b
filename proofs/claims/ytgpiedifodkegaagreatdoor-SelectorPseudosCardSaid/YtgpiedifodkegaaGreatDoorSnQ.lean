/- SelectorPseudos holds of every argument, where package selector's two tables of words and the library's tables of decimals hold what the program's own text lays in them (the card ties that): the call returns true, and each argument reads behind it as it did before. -/
import Derived.Test.YtgpiedifodkegaaGreatDoorTie
import Derived.Test.YtgpiedifodkegaaGreatDoorCards
import Derived.SevenTiedAt
import Derived.LaidMore
import Derived.MakeChecks
import Derived.Lay
import Derived.Lib.LaidU8
import Derived.Stop.Joined
import Derived.Test.YtgpiedifodkegaaGreatDoorSnA
set_option maxRecDepth 100000
set_option maxHeartbeats 6400000
namespace Go.Proofs.YtgpiedifodkegaaGreatDoor
open Go.RowKit
def pwL : List ByteArray := [⟨#[98, 101, 102, 111, 114, 101]⟩, ⟨#[97, 102, 116, 101, 114]⟩, ⟨#[109, 97, 114, 107, 101, 114]⟩, ⟨#[102, 105, 114, 115, 116, 45, 108, 101, 116, 116, 101, 114]⟩, ⟨#[102, 105, 114, 115, 116, 45, 108, 105, 110, 101]⟩]
def phL : List ByteArray := [⟨#[]⟩, ⟨#[97]⟩, ⟨#[97, 32, 62, 32, 46, 98]⟩, ⟨#[42, 35, 99]⟩]
def ptL : List ByteArray := [⟨#[]⟩, ⟨#[32, 98]⟩, ⟨#[46, 120]⟩, ⟨#[58, 58, 97, 102, 116, 101, 114]⟩]
def psT (sg : Bool) (i h j : Nat) : ByteArray := phL.getD h eB ++ (if sg = true then ⟨#[58]⟩ else ⟨#[58, 58]⟩) ++ pwL.getD i eB ++ ptL.getD j eB
def psBad (sg : Bool) (i j : Nat) : Bool := (sg && i == 2) || decide (0 < j)
def bnd6 (x : CxD) : Bool := decide (nCx x ≤ 100000000) && decide (zCx x ≤ 100000000)
def eq3 (x y : W3) : Bool := (x.a == y.a) && (x.b == y.b) && (x.c == y.c)
def psCx : CxD → Int
  | .mk _ _ p => p
def small3 (x : W3) : Bool := decide (0 ≤ x.a) && decide (x.a ≤ 100) && decide (0 ≤ x.b) && decide (x.b ≤ 100) && decide (0 ≤ x.c) && decide (x.c ≤ 100)
def psOk (sg : Bool) (i h j : Nat) : Bool := if psBad sg i j = true then (selS parseS (ndsS (toks (readS (psT sg i h j))))).isNone
  else match selS parseS (ndsS (toks (readS (psT sg i h j)))) with
  | some [x] => bnd6 x && (psCx x == (i : Int) + 1) && (if h = 0 then (selS parseS (ndsS (toks (readS (phL.getD h eB))))).isNone && eq3 (gr3 (wCx x) W3.zero) ⟨0, 0, 1⟩
    else match selS parseS (ndsS (toks (readS (phL.getD h eB)))) with
    | some [y] => bnd6 y && small3 (gr3 (wCx y) W3.zero) && eq3 (gr3 (wCx x) W3.zero) ((gr3 (wCx y) W3.zero).add ⟨0, 0, 1⟩)
    | _ => false)
  | _ => false
theorem ps_all : ([true, false].all fun sg => (List.range 5).all fun i => (List.range 4).all fun h => (List.range 4).all fun j => psOk sg i h j) = true := by decide +kernel
theorem ps_at (sg : Bool) {i h j : Nat} (hi : i < 5) (hh : h < 4) (hj : j < 4) : psOk sg i h j = true :=
 List.all_eq_true.1 (List.all_eq_true.1 (List.all_eq_true.1 (List.all_eq_true.1 ps_all sg (by cases sg <;> simp)) i (by simp; omega)) h (by simp; omega)) j (by simp; omega)
theorem eq3_eq {x y : W3} (h : eq3 x y = true) : x = y := by
 unfold eq3 at h
 simp only [Bool.and_eq_true, beq_iff_eq] at h
 obtain ⟨a1, a2, a3⟩ := x
 obtain ⟨b1, b2, b3⟩ := y
 obtain ⟨⟨h1, h2⟩, h3⟩ := h
 simp only at h1 h2 h3
 rw [h1, h2, h3]
theorem ps_bad {sg : Bool} {i h j : Nat} (hi : i < 5) (hh : h < 4) (hj : j < 4) (hb : psBad sg i j = true) : selS parseS (ndsS (toks (readS (psT sg i h j)))) = none := by
 have h := ps_at sg hi hh hj
 unfold psOk at h
 rw [if_pos hb] at h
 exact Option.isNone_iff_eq_none.1 h
theorem ps_good {sg : Bool} {i h j : Nat} (hi : i < 5) (hh : h < 4) (hj : j < 4) (hb : psBad sg i j = false) : ∃ x, selS parseS (ndsS (toks (readS (psT sg i h j)))) = some [x] ∧ okCx x ∧ nCx x ≤ 100000000 ∧ zCx x ≤ 100000000 ∧ psCx x = (i : Int) + 1 ∧ (h = 0 → gr3 (wCx x) W3.zero = ⟨0, 0, 1⟩) ∧ (h = 0 → selS parseS (ndsS (toks (readS (phL.getD h eB)))) = none) ∧ (h ≠ 0 → ∃ y, selS parseS (ndsS (toks (readS (phL.getD h eB)))) = some [y] ∧ okCx y ∧ nCx y ≤ 100000000 ∧ zCx y ≤ 100000000 ∧ ∃ a b c : Nat, a ≤ 100 ∧ b ≤ 100 ∧ c ≤ 100 ∧ gr3 (wCx y) W3.zero = ⟨a, b, c⟩ ∧ gr3 (wCx x) W3.zero = ⟨a, b, (c : Int) + 1⟩) := by
 have h1 := ps_at sg hi hh hj
 unfold psOk at h1
 rw [if_neg (by rw [hb]; decide)] at h1
 split at h1
 · rename_i x hx
   simp only [Bool.and_eq_true, beq_iff_eq, bnd6, decide_eq_true_eq] at h1
   obtain ⟨⟨⟨n1, n2⟩, n3⟩, n4⟩ := h1
   have hok := (selS_ok hx).2
   rw [okLs] at hok
   refine ⟨x, hx, hok.1, n1, n2, n3, fun h0 => ?_, fun h0 => ?_, fun h0 => ?_⟩
   · rw [if_pos h0] at n4
     simp only [Bool.and_eq_true] at n4
     exact eq3_eq n4.2
   · rw [if_pos h0] at n4
     simp only [Bool.and_eq_true] at n4
     exact Option.isNone_iff_eq_none.1 n4.1
   · rw [if_neg h0] at n4
     split at n4
     · rename_i y hy
       simp only [Bool.and_eq_true, bnd6, decide_eq_true_eq] at n4
       obtain ⟨⟨⟨m1, m2⟩, m3⟩, m4⟩ := n4
       have hoy := (selS_ok hy).2
       rw [okLs] at hoy
       have e := eq3_eq m4
       obtain ⟨⟨p, q, r⟩, hY⟩ : ∃ Y, gr3 (wCx y) W3.zero = Y := ⟨_, rfl⟩
       rw [hY] at m3 e
       unfold small3 at m3
       simp only [Bool.and_eq_true, decide_eq_true_eq] at m3
       obtain ⟨⟨⟨⟨⟨s1, s2⟩, s3⟩, s4⟩, s5⟩, s6⟩ := m3
       refine ⟨y, hy, hoy.1, m1, m2, p.toNat, q.toNat, r.toNat, by omega, by omega, by omega, ?_, ?_⟩
       · rw [hY, Int.toNat_of_nonneg s1, Int.toNat_of_nonneg s3, Int.toNat_of_nonneg s5]
       · rw [e, Int.toNat_of_nonneg s1, Int.toNat_of_nonneg s3, Int.toNat_of_nonneg s5]
         unfold W3.add
         simp
     · cases n4
 · cases h1
theorem cellS (w : World) (l : List ByteArray) (T : TypeId) {i : Nat} (h : i < l.length) : (w.alloc (.cells (l.map Value.string).toArray T)).cell? ⟨w.heap.size, i, none⟩ = some (.string (l.getD i eB)) := by
 have hb := heap_alloc_self w (.cells (l.map Value.string).toArray T)
 simp only [World.cell?, hb]
 simp [List.getD_eq_getElem?_getD, h]
theorem pw_cell (w : World) {i : Nat} (h : i < 5) : (w.alloc (.cells #[.string ⟨#[98, 101, 102, 111, 114, 101]⟩, .string ⟨#[97, 102, 116, 101, 114]⟩, .string ⟨#[109, 97, 114, 107, 101, 114]⟩, .string ⟨#[102, 105, 114, 115, 116, 45, 108, 101, 116, 116, 101, 114]⟩, .string ⟨#[102, 105, 114, 115, 116, 45, 108, 105, 110, 101]⟩] 9)).cell? ⟨w.heap.size, i, none⟩ = some (.string (pwL.getD i eB)) := cellS w pwL 9 h
theorem ph_cell (w : World) {i : Nat} (h : i < 4) : (w.alloc (.cells #[.string ⟨#[]⟩, .string ⟨#[97]⟩, .string ⟨#[97, 32, 62, 32, 46, 98]⟩, .string ⟨#[42, 35, 99]⟩] 9)).cell? ⟨w.heap.size, i, none⟩ = some (.string (phL.getD i eB)) := cellS w phL 9 h
theorem pt_cell (w : World) {i : Nat} (h : i < 4) : (w.alloc (.cells #[.string ⟨#[]⟩, .string ⟨#[32, 98]⟩, .string ⟨#[46, 120]⟩, .string ⟨#[58, 58, 97, 102, 116, 101, 114]⟩] 9)).cell? ⟨w.heap.size, i, none⟩ = some (.string (ptL.getD i eB)) := cellS w ptL 9 h
theorem pw_sz {i : Nat} (h : i < 5) : (pwL.getD i eB).size ≤ 20 := by
 have : i = 0 ∨ i = 1 ∨ i = 2 ∨ i = 3 ∨ i = 4 := by omega
 rcases this with rfl | rfl | rfl | rfl | rfl <;> decide
theorem ph_sz {i : Nat} (h : i < 4) : (phL.getD i eB).size ≤ 20 := by
 have : i = 0 ∨ i = 1 ∨ i = 2 ∨ i = 3 := by omega
 rcases this with rfl | rfl | rfl | rfl <;> decide
theorem pt_sz {i : Nat} (h : i < 4) : (ptL.getD i eB).size ≤ 20 := by
 have : i = 0 ∨ i = 1 ∨ i = 2 ∨ i = 3 := by omega
 rcases this with rfl | rfl | rfl | rfl <;> decide
theorem pse_b3 (w : World) (i h j : Nat) (k head tail : Int) (hl : TabL w) (ht : Tab w) (hi : i < 5) (hh : h < 4) (hj : j < 4) (hk1 : k % 5 = (i : Int)) (hk2 : head % 4 = (h : Int)) (hk3 : tail % 4 = (j : Int)) (hjp : 0 < j) :
    Calls Tryz.prog 7 #[.int .i64 k, .int .i64 head, .bool false, .int .i64 tail] w fun e w' => e = .returned (.bool true) ∧ Below w.heap.size w w' := by
  have HL := Lib.hid hl
  have HT := Lib.hid ht
  have HK1 := Lib.hid hk1
  have HK2 := Lib.hid hk2
  have HK3 := Lib.hid hk3
  have HHI := Lib.hid hi
  have i5 : (i : Int) < 5 := by omega
  have h4 : (h : Int) < 4 := by omega
  have j4 : (j : Int) < 4 := by omega
  obtain ⟨WW, hWW⟩ : ∃ T, pwL.getD i eB = T := ⟨_, rfl⟩
  obtain ⟨HH, hHH⟩ : ∃ T, phL.getD h eB = T := ⟨_, rfl⟩
  obtain ⟨JJ, hJJ⟩ : ∃ T, ptL.getD j eB = T := ⟨_, rfl⟩
  have s1 := pw_sz hi
  have s2 := ph_sz hh
  have s3 := pt_sz hj
  rw [hWW] at s1
  rw [hHH] at s2
  rw [hJJ] at s3
  have hT : psT false i h j = HH ++ ⟨#[58, 58]⟩ ++ WW ++ JJ := by rw [← hWW, ← hHH, ← hJJ]; rfl
  have c1 := cat_ok HH ⟨#[58, 58]⟩ (by show HH.size + 2 ≤ _; omega)
  obtain ⟨T1, hT1⟩ : ∃ T : ByteArray, HH ++ ⟨#[58, 58]⟩ = T := ⟨_, rfl⟩
  have z1 : T1.size ≤ 22 := by rw [← hT1, sz_app]; show HH.size + 2 ≤ _; omega
  rw [hT1] at c1 hT
  have c2 := cat_ok T1 WW (by omega)
  obtain ⟨T2, hT2⟩ : ∃ T : ByteArray, T1 ++ WW = T := ⟨_, rfl⟩
  have z2 : T2.size ≤ 42 := by rw [← hT2, sz_app]; omega
  rw [hT2] at c2 hT
  have c3 := cat_ok T2 JJ (by omega)
  obtain ⟨T3, hT3⟩ : ∃ T : ByteArray, T2 ++ JJ = T := ⟨_, rfl⟩
  have z3 : T3.size ≤ 5000000 := by rw [← hT3, sz_app]; omega
  have z4 : HH.size ≤ 5000000 := by omega
  rw [hT3] at c3 hT
  have HZ3 := Lib.hid z3
  have HZ4 := Lib.hid z4
  have hx := ps_bad (sg := false) hi hh hj (by unfold psBad; rw [decide_eq_true hjp]; rfl)
  rw [hT] at hx
  have HX := Lib.hid hx
  clear hx
  have j0 : (0 : Int) < (j : Int) := by omega
  have hcW := pw_cell w hi
  rw [hWW] at hcW
  have HCH := Lib.hid (fun W => ph_cell W hh)
  have HB1 := Lib.hid (bel_newS w (.cells #[.string ⟨#[98, 101, 102, 111, 114, 101]⟩, .string ⟨#[97, 102, 116, 101, 114]⟩, .string ⟨#[109, 97, 114, 107, 101, 114]⟩, .string ⟨#[102, 105, 114, 115, 116, 45, 108, 101, 116, 116, 101, 114]⟩, .string ⟨#[102, 105, 114, 115, 116, 45, 108, 105, 110, 101]⟩] 9))
  clear hl ht hk1 hk2 hk3 s1 s2 s3 z1 z2 z3 z4 hT hT1 hT2 hT3 hWW hi hh
  go_enter Tryz.func7, Tryz.ntmps7
  go_upto_region 2 with fail
  generalize w.alloc _ = W0 at *
  go_upto_region 3 with (go_at_call 16; (with_reducible refine (round_any k 5 i _ (by decide) (by decide) HK1.out).mono ?_); rintro e w' ⟨rfl, rfl⟩)
  have HB2 := Lib.hid (below_seq HB1.out (bel_newS W0 (.cells #[.string ⟨#[]⟩, .string ⟨#[97]⟩, .string ⟨#[97, 32, 62, 32, 46, 98]⟩, .string ⟨#[42, 35, 99]⟩] 9)))
  have hcH := HCH.out W0
  rw [hHH] at hcH
  replace hcW := cell_newS hcW (.cells #[.string ⟨#[]⟩, .string ⟨#[97]⟩, .string ⟨#[97, 32, 62, 32, 46, 98]⟩, .string ⟨#[42, 35, 99]⟩] 9)
  go_upto_region 4 with (go_at_call 16; (with_reducible refine (round_any head 4 h _ (by decide) (by decide) HK2.out).mono ?_); rintro e w' ⟨rfl, rfl⟩)
  generalize W0.alloc _ = W2 at *
  clear hcH HCH hHH
  go_upto_region 8 with (go_at_call 16; (with_reducible refine (round_any tail 4 j _ (by decide) (by decide) HK3.out).mono ?_); rintro e w' ⟨rfl, rfl⟩)
  go_upto_region 8 with fail
  refine wp_region_held_drew (S := (fun W => W.cell? ⟨w.heap.size, i, none⟩ = some (.string WW))) (by kernel_rfl) hcW (fun hHeld => ?_)
  have HB3 := Lib.hid HB2.out.drew
  generalize W2.drew = V3 at *
  clear hcW
  refine wTake 0 (v := ?_) rfl (Or.inl ⟨by rfl, ?_⟩) ?_
  rotate_left
  · intro W hSw
    go_simp
    all_goals with_reducible rfl
  try simp only [gA, gB, gC, gD, gE, gF, gG]
  refine wTake 1 (v := ?_) rfl (Or.inl ⟨by rfl, ?_⟩) ?_
  rotate_left
  · intro W hSw
    go_simp
    all_goals with_reducible rfl
  try simp only [gA, gB, gC, gD, gE, gF, gG]
  refine wTake 2 (v := ?_) rfl (Or.inl ⟨by rfl, ?_⟩) ?_
  rotate_left
  · intro W hSw
    go_simp
    all_goals with_reducible rfl
  try simp only [gA, gB, gC, gD, gE, gF, gG]
  refine wTake 3 (v := ?_) rfl (Or.inl ⟨by rfl, ?_⟩) ?_
  rotate_left
  · intro W hSw
    go_simp
    all_goals with_reducible rfl
  try simp only [gA, gB, gC, gD, gE, gF, gG]
  refine wTake 4 (v := ?_) rfl (Or.inl ⟨by rfl, ?_⟩) ?_
  rotate_left
  · intro W hSw
    go_simp
    all_goals with_reducible rfl
  try simp only [gA, gB, gC, gD, gE, gF, gG]
  refine wTake 5 (v := ?_) rfl (Or.inl ⟨by rfl, ?_⟩) ?_
  rotate_left
  · intro W hSw
    go_simp
    all_goals with_reducible rfl
  try simp only [gA, gB, gC, gD, gE, gF, gG]
  refine wTake 6 (v := ?_) rfl (Or.inl ⟨by rfl, ?_⟩) ?_
  rotate_left
  · intro W hSw
    have y0 := hSw
    go_simp
    all_goals with_reducible rfl
  try simp only [gA, gB, gC, gD, gE, gF, gG]
  refine wTake 7 (v := ?_) rfl (Or.inl ⟨by rfl, ?_⟩) ?_
  rotate_left
  · intro W hSw
    go_simp
    all_goals with_reducible rfl
  try simp only [gA, gB, gC, gD, gE, gF, gG]
  refine wTake 9 (v := ?_) rfl (Or.inl ⟨by rfl, ?_⟩) ?_
  rotate_left
  · intro W hSw
    go_simp
    all_goals with_reducible rfl
  try simp only [gA, gB, gC, gD, gE, gF, gG]
  refine wpAnyH_ready (rs := [8]) (by kernel_rfl) (by simp) ?_
  refine AllReadyH.cons (o := _) rfl (fun K hK => ?_) AllReadyH.nil
  simp only [List.getElem_toArray, List.getElem_cons_zero, List.getElem_cons_succ]
  rw [if_pos (by rfl)]
  go_simp
  have hcJ := pt_cell V3 hj
  rw [hJJ] at hcJ
  have hS4 : (fun W => W.cell? ⟨w.heap.size, i, none⟩ = some (.string WW)) (V3.alloc (.cells #[.string ⟨#[]⟩, .string ⟨#[32, 98]⟩, .string ⟨#[46, 120]⟩, .string ⟨#[58, 58, 97, 102, 116, 101, 114]⟩] 9)) := cell_newS hHeld _
  have HB4 := Lib.hid (below_seq HB3.out (bel_newS V3 (.cells #[.string ⟨#[]⟩, .string ⟨#[32, 98]⟩, .string ⟨#[46, 120]⟩, .string ⟨#[58, 58, 97, 102, 116, 101, 114]⟩] 9)))
  generalize V3.heap.size = b3 at *
  generalize V3.alloc (.cells #[.string ⟨#[]⟩, .string ⟨#[32, 98]⟩, .string ⟨#[46, 120]⟩, .string ⟨#[58, 58, 97, 102, 116, 101, 114]⟩] 9) = W4 at *
  refine hK.out _ _ hS4 (fun hHeld => ?_)
  clear hK K
  try simp only [gA, gB, gC, gD, gE, gF, gG]
  refine wTake 10 (v := ?_) rfl (Or.inl ⟨by rfl, ?_⟩) ?_
  rotate_left
  · intro W hSw
    go_simp
    all_goals with_reducible rfl
  try simp only [gA, gB, gC, gD, gE, gF, gG]
  refine wpAnyH_ready (rs := [11]) (by kernel_rfl) (by simp) ?_
  refine AllReadyH.cons (o := _) rfl (fun K hK => ?_) AllReadyH.nil
  simp only [List.getElem_toArray, List.getElem_cons_zero, List.getElem_cons_succ]
  rw [if_pos (by rfl)]
  go_simp
  refine hK.out _ _ hHeld (fun hHeld => ?_)
  clear hK K
  try simp only [gA, gB, gC, gD, gE, gF, gG]
  refine wTake 12 (v := ?_) rfl (Or.inl ⟨by rfl, ?_⟩) ?_
  rotate_left
  · intro W hSw
    go_simp
    all_goals with_reducible rfl
  try simp only [gA, gB, gC, gD, gE, gF, gG]
  refine wTake 13 (v := ?_) rfl (Or.inl ⟨by rfl, ?_⟩) ?_
  rotate_left
  · intro W hSw
    go_simp
    all_goals with_reducible rfl
  try simp only [gA, gB, gC, gD, gE, gF, gG]
  refine wpAnyH_done (by kernel_rfl) ?_ _
  have HB5 := Lib.hid HB4.out
  clear hcJ hHeld
  go_wp2_with fail
  refine (nodes6_any T3 _ HZ3.out).mono ?_
  rintro e w1 ⟨⟨v1, rfl, hv1⟩, ha1⟩
  go_wp2_with fail
  refine (parse6 T3 HZ3.out hv1 (HL.out.below (below_seq HB4.out ha1)) HX.out).mono ?_
  rintro e w2 ⟨⟨L, u, rfl, hr1, hL⟩, hb1⟩
  obtain ⟨q1, q2, rfl, _⟩ := hr1.shape
  have HB6 := Lib.hid (below_seq (below_seq HB4.out ha1) hb1)
  clear hv1 ha1 hb1 hr1 hL
  generalize (cxsDt L).length = m1 at *
  go_wp2_with (go_at_call 9; refine (awake6_any _ (HL.out.below HB6.out) (HT.out.below HB6.out)).mono ?_; rintro e w3 ⟨rfl, hb3⟩; have HB7 := Lib.hid (below_seq HB6.out hb3))
  go_ret
  exact ⟨rfl, HB7.out⟩
theorem pse_b2 (w : World) (i h j : Nat) (k head tail : Int) (hl : TabL w) (ht : Tab w) (hi : i < 5) (hh : h < 4) (hj : j < 4) (hk1 : k % 5 = (i : Int)) (hk2 : head % 4 = (h : Int)) (hk3 : tail % 4 = (j : Int)) (hi2 : i ≠ 2) (hjp : 0 < j) :
    Calls Tryz.prog 7 #[.int .i64 k, .int .i64 head, .bool true, .int .i64 tail] w fun e w' => e = .returned (.bool true) ∧ Below w.heap.size w w' := by
  have HL := Lib.hid hl
  have HT := Lib.hid ht
  have HK1 := Lib.hid hk1
  have HK2 := Lib.hid hk2
  have HK3 := Lib.hid hk3
  have HHI := Lib.hid hi
  have i5 : (i : Int) < 5 := by omega
  have h4 : (h : Int) < 4 := by omega
  have j4 : (j : Int) < 4 := by omega
  obtain ⟨WW, hWW⟩ : ∃ T, pwL.getD i eB = T := ⟨_, rfl⟩
  obtain ⟨HH, hHH⟩ : ∃ T, phL.getD h eB = T := ⟨_, rfl⟩
  obtain ⟨JJ, hJJ⟩ : ∃ T, ptL.getD j eB = T := ⟨_, rfl⟩
  have s1 := pw_sz hi
  have s2 := ph_sz hh
  have s3 := pt_sz hj
  rw [hWW] at s1
  rw [hHH] at s2
  rw [hJJ] at s3
  have hT : psT true i h j = HH ++ ⟨#[58]⟩ ++ WW ++ JJ := by rw [← hWW, ← hHH, ← hJJ]; rfl
  have c1 := cat_ok HH ⟨#[58]⟩ (by show HH.size + 1 ≤ _; omega)
  obtain ⟨T1, hT1⟩ : ∃ T : ByteArray, HH ++ ⟨#[58]⟩ = T := ⟨_, rfl⟩
  have z1 : T1.size ≤ 22 := by rw [← hT1, sz_app]; show HH.size + 1 ≤ _; omega
  rw [hT1] at c1 hT
  have c2 := cat_ok T1 WW (by omega)
  obtain ⟨T2, hT2⟩ : ∃ T : ByteArray, T1 ++ WW = T := ⟨_, rfl⟩
  have z2 : T2.size ≤ 42 := by rw [← hT2, sz_app]; omega
  rw [hT2] at c2 hT
  have c3 := cat_ok T2 JJ (by omega)
  obtain ⟨T3, hT3⟩ : ∃ T : ByteArray, T2 ++ JJ = T := ⟨_, rfl⟩
  have z3 : T3.size ≤ 5000000 := by rw [← hT3, sz_app]; omega
  have z4 : HH.size ≤ 5000000 := by omega
  rw [hT3] at c3 hT
  have HZ3 := Lib.hid z3
  have HZ4 := Lib.hid z4
  have hx := ps_bad (sg := true) hi hh hj (by unfold psBad; rw [decide_eq_true hjp, Bool.or_true])
  rw [hT] at hx
  have HX := Lib.hid hx
  clear hx
  have j0 : (0 : Int) < (j : Int) := by omega
  have i2 : ((i : Int) == 2) = false := by rw [beq_eq_false_iff_ne]; omega
  have hcW := pw_cell w hi
  rw [hWW] at hcW
  have HCH := Lib.hid (fun W => ph_cell W hh)
  have HB1 := Lib.hid (bel_newS w (.cells #[.string ⟨#[98, 101, 102, 111, 114, 101]⟩, .string ⟨#[97, 102, 116, 101, 114]⟩, .string ⟨#[109, 97, 114, 107, 101, 114]⟩, .string ⟨#[102, 105, 114, 115, 116, 45, 108, 101, 116, 116, 101, 114]⟩, .string ⟨#[102, 105, 114, 115, 116, 45, 108, 105, 110, 101]⟩] 9))
  clear hl ht hk1 hk2 hk3 s1 s2 s3 z1 z2 z3 z4 hT hT1 hT2 hT3 hWW hi hh
  go_enter Tryz.func7, Tryz.ntmps7
  go_upto_region 2 with fail
  generalize w.alloc _ = W0 at *
  go_upto_region 3 with (go_at_call 16; (with_reducible refine (round_any k 5 i _ (by decide) (by decide) HK1.out).mono ?_); rintro e w' ⟨rfl, rfl⟩)
  have HB2 := Lib.hid (below_seq HB1.out (bel_newS W0 (.cells #[.string ⟨#[]⟩, .string ⟨#[97]⟩, .string ⟨#[97, 32, 62, 32, 46, 98]⟩, .string ⟨#[42, 35, 99]⟩] 9)))
  have hcH := HCH.out W0
  rw [hHH] at hcH
  replace hcW := cell_newS hcW (.cells #[.string ⟨#[]⟩, .string ⟨#[97]⟩, .string ⟨#[97, 32, 62, 32, 46, 98]⟩, .string ⟨#[42, 35, 99]⟩] 9)
  go_upto_region 4 with (go_at_call 16; (with_reducible refine (round_any head 4 h _ (by decide) (by decide) HK2.out).mono ?_); rintro e w' ⟨rfl, rfl⟩)
  generalize W0.alloc _ = W2 at *
  clear hcH HCH hHH
  go_upto_region 8 with (go_at_call 16; (with_reducible refine (round_any tail 4 j _ (by decide) (by decide) HK3.out).mono ?_); rintro e w' ⟨rfl, rfl⟩)
  go_upto_region 8 with fail
  refine wp_region_held_drew (S := (fun W => W.cell? ⟨w.heap.size, i, none⟩ = some (.string WW))) (by kernel_rfl) hcW (fun hHeld => ?_)
  have HB3 := Lib.hid HB2.out.drew
  generalize W2.drew = V3 at *
  clear hcW
  refine wTake 0 (v := ?_) rfl (Or.inl ⟨by rfl, ?_⟩) ?_
  rotate_left
  · intro W hSw
    go_simp
    all_goals with_reducible rfl
  try simp only [gA, gB, gC, gD, gE, gF, gG]
  refine wTake 1 (v := ?_) rfl (Or.inl ⟨by rfl, ?_⟩) ?_
  rotate_left
  · intro W hSw
    go_simp
    all_goals with_reducible rfl
  try simp only [gA, gB, gC, gD, gE, gF, gG]
  refine wTake 2 (v := ?_) rfl (Or.inl ⟨by rfl, ?_⟩) ?_
  rotate_left
  · intro W hSw
    go_simp
    all_goals with_reducible rfl
  try simp only [gA, gB, gC, gD, gE, gF, gG]
  refine wTake 3 (v := ?_) rfl (Or.inl ⟨by rfl, ?_⟩) ?_
  rotate_left
  · intro W hSw
    go_simp
    all_goals with_reducible rfl
  try simp only [gA, gB, gC, gD, gE, gF, gG]
  refine wTake 4 (v := ?_) rfl (Or.inl ⟨by rfl, ?_⟩) ?_
  rotate_left
  · intro W hSw
    go_simp
    all_goals with_reducible rfl
  try simp only [gA, gB, gC, gD, gE, gF, gG]
  refine wTake 5 (v := ?_) rfl (Or.inl ⟨by rfl, ?_⟩) ?_
  rotate_left
  · intro W hSw
    go_simp
    all_goals with_reducible rfl
  try simp only [gA, gB, gC, gD, gE, gF, gG]
  refine wTake 6 (v := ?_) rfl (Or.inl ⟨by rfl, ?_⟩) ?_
  rotate_left
  · intro W hSw
    have y0 := hSw
    go_simp
    all_goals with_reducible rfl
  try simp only [gA, gB, gC, gD, gE, gF, gG]
  refine wTake 7 (v := ?_) rfl (Or.inl ⟨by rfl, ?_⟩) ?_
  rotate_left
  · intro W hSw
    go_simp
    all_goals with_reducible rfl
  try simp only [gA, gB, gC, gD, gE, gF, gG]
  refine wTake 9 (v := ?_) rfl (Or.inl ⟨by rfl, ?_⟩) ?_
  rotate_left
  · intro W hSw
    go_simp
    all_goals with_reducible rfl
  try simp only [gA, gB, gC, gD, gE, gF, gG]
  refine wpAnyH_ready (rs := [8]) (by kernel_rfl) (by simp) ?_
  refine AllReadyH.cons (o := _) rfl (fun K hK => ?_) AllReadyH.nil
  simp only [List.getElem_toArray, List.getElem_cons_zero, List.getElem_cons_succ]
  rw [if_pos (by rfl)]
  go_simp
  have hcJ := pt_cell V3 hj
  rw [hJJ] at hcJ
  have hS4 : (fun W => W.cell? ⟨w.heap.size, i, none⟩ = some (.string WW)) (V3.alloc (.cells #[.string ⟨#[]⟩, .string ⟨#[32, 98]⟩, .string ⟨#[46, 120]⟩, .string ⟨#[58, 58, 97, 102, 116, 101, 114]⟩] 9)) := cell_newS hHeld _
  have HB4 := Lib.hid (below_seq HB3.out (bel_newS V3 (.cells #[.string ⟨#[]⟩, .string ⟨#[32, 98]⟩, .string ⟨#[46, 120]⟩, .string ⟨#[58, 58, 97, 102, 116, 101, 114]⟩] 9)))
  generalize V3.heap.size = b3 at *
  generalize V3.alloc (.cells #[.string ⟨#[]⟩, .string ⟨#[32, 98]⟩, .string ⟨#[46, 120]⟩, .string ⟨#[58, 58, 97, 102, 116, 101, 114]⟩] 9) = W4 at *
  refine hK.out _ _ hS4 (fun hHeld => ?_)
  clear hK K
  try simp only [gA, gB, gC, gD, gE, gF, gG]
  refine wTake 10 (v := ?_) rfl (Or.inl ⟨by rfl, ?_⟩) ?_
  rotate_left
  · intro W hSw
    go_simp
    all_goals with_reducible rfl
  try simp only [gA, gB, gC, gD, gE, gF, gG]
  refine wpAnyH_ready (rs := [11]) (by kernel_rfl) (by simp) ?_
  refine AllReadyH.cons (o := _) rfl (fun K hK => ?_) AllReadyH.nil
  simp only [List.getElem_toArray, List.getElem_cons_zero, List.getElem_cons_succ]
  rw [if_pos (by rfl)]
  go_simp
  refine hK.out _ _ hHeld (fun hHeld => ?_)
  clear hK K
  try simp only [gA, gB, gC, gD, gE, gF, gG]
  refine wTake 12 (v := ?_) rfl (Or.inl ⟨by rfl, ?_⟩) ?_
  rotate_left
  · intro W hSw
    go_simp
    all_goals with_reducible rfl
  try simp only [gA, gB, gC, gD, gE, gF, gG]
  refine wTake 13 (v := ?_) rfl (Or.inl ⟨by rfl, ?_⟩) ?_
  rotate_left
  · intro W hSw
    go_simp
    all_goals with_reducible rfl
  try simp only [gA, gB, gC, gD, gE, gF, gG]
  refine wpAnyH_done (by kernel_rfl) ?_ _
  have HB5 := Lib.hid HB4.out
  clear hcJ hHeld
  go_wp2_with fail
  refine (nodes6_any T3 _ HZ3.out).mono ?_
  rintro e w1 ⟨⟨v1, rfl, hv1⟩, ha1⟩
  go_wp2_with fail
  refine (parse6 T3 HZ3.out hv1 (HL.out.below (below_seq HB4.out ha1)) HX.out).mono ?_
  rintro e w2 ⟨⟨L, u, rfl, hr1, hL⟩, hb1⟩
  obtain ⟨q1, q2, rfl, _⟩ := hr1.shape
  have HB6 := Lib.hid (below_seq (below_seq HB4.out ha1) hb1)
  clear hv1 ha1 hb1 hr1 hL
  generalize (cxsDt L).length = m1 at *
  go_wp2_with (go_at_call 9; refine (awake6_any _ (HL.out.below HB6.out) (HT.out.below HB6.out)).mono ?_; rintro e w3 ⟨rfl, hb3⟩; have HB7 := Lib.hid (below_seq HB6.out hb3))
  go_ret
  exact ⟨rfl, HB7.out⟩
theorem pse_b1 (w : World) (i h j : Nat) (k head tail : Int) (hl : TabL w) (ht : Tab w) (hi : i < 5) (hh : h < 4) (hj : j < 4) (hk1 : k % 5 = (i : Int)) (hk2 : head % 4 = (h : Int)) (hk3 : tail % 4 = (j : Int)) (hi2 : i = 2) :
    Calls Tryz.prog 7 #[.int .i64 k, .int .i64 head, .bool true, .int .i64 tail] w fun e w' => e = .returned (.bool true) ∧ Below w.heap.size w w' := by
  have HL := Lib.hid hl
  have HT := Lib.hid ht
  have HK1 := Lib.hid hk1
  have HK2 := Lib.hid hk2
  have HK3 := Lib.hid hk3
  have HHI := Lib.hid hi
  have i5 : (i : Int) < 5 := by omega
  have h4 : (h : Int) < 4 := by omega
  have j4 : (j : Int) < 4 := by omega
  obtain ⟨WW, hWW⟩ : ∃ T, pwL.getD i eB = T := ⟨_, rfl⟩
  obtain ⟨HH, hHH⟩ : ∃ T, phL.getD h eB = T := ⟨_, rfl⟩
  obtain ⟨JJ, hJJ⟩ : ∃ T, ptL.getD j eB = T := ⟨_, rfl⟩
  have s1 := pw_sz hi
  have s2 := ph_sz hh
  have s3 := pt_sz hj
  rw [hWW] at s1
  rw [hHH] at s2
  rw [hJJ] at s3
  have hT : psT true i h j = HH ++ ⟨#[58]⟩ ++ WW ++ JJ := by rw [← hWW, ← hHH, ← hJJ]; rfl
  have c1 := cat_ok HH ⟨#[58]⟩ (by show HH.size + 1 ≤ _; omega)
  obtain ⟨T1, hT1⟩ : ∃ T : ByteArray, HH ++ ⟨#[58]⟩ = T := ⟨_, rfl⟩
  have z1 : T1.size ≤ 22 := by rw [← hT1, sz_app]; show HH.size + 1 ≤ _; omega
  rw [hT1] at c1 hT
  have c2 := cat_ok T1 WW (by omega)
  obtain ⟨T2, hT2⟩ : ∃ T : ByteArray, T1 ++ WW = T := ⟨_, rfl⟩
  have z2 : T2.size ≤ 42 := by rw [← hT2, sz_app]; omega
  rw [hT2] at c2 hT
  have c3 := cat_ok T2 JJ (by omega)
  obtain ⟨T3, hT3⟩ : ∃ T : ByteArray, T2 ++ JJ = T := ⟨_, rfl⟩
  have z3 : T3.size ≤ 5000000 := by rw [← hT3, sz_app]; omega
  have z4 : HH.size ≤ 5000000 := by omega
  rw [hT3] at c3 hT
  have HZ3 := Lib.hid z3
  have HZ4 := Lib.hid z4
  have hx := ps_bad (sg := true) hi hh hj (by unfold psBad; rw [hi2]; rfl)
  rw [hT] at hx
  have HX := Lib.hid hx
  clear hx
  have i2 : ((i : Int) == 2) = true := by rw [hi2]; rfl
  clear hi2
  have hcW := pw_cell w hi
  rw [hWW] at hcW
  have HCH := Lib.hid (fun W => ph_cell W hh)
  have HB1 := Lib.hid (bel_newS w (.cells #[.string ⟨#[98, 101, 102, 111, 114, 101]⟩, .string ⟨#[97, 102, 116, 101, 114]⟩, .string ⟨#[109, 97, 114, 107, 101, 114]⟩, .string ⟨#[102, 105, 114, 115, 116, 45, 108, 101, 116, 116, 101, 114]⟩, .string ⟨#[102, 105, 114, 115, 116, 45, 108, 105, 110, 101]⟩] 9))
  clear hl ht hk1 hk2 hk3 s1 s2 s3 z1 z2 z3 z4 hT hT1 hT2 hT3 hWW hi hh
  go_enter Tryz.func7, Tryz.ntmps7
  go_upto_region 2 with fail
  generalize w.alloc _ = W0 at *
  go_upto_region 3 with (go_at_call 16; (with_reducible refine (round_any k 5 i _ (by decide) (by decide) HK1.out).mono ?_); rintro e w' ⟨rfl, rfl⟩)
  have HB2 := Lib.hid (below_seq HB1.out (bel_newS W0 (.cells #[.string ⟨#[]⟩, .string ⟨#[97]⟩, .string ⟨#[97, 32, 62, 32, 46, 98]⟩, .string ⟨#[42, 35, 99]⟩] 9)))
  have hcH := HCH.out W0
  rw [hHH] at hcH
  replace hcW := cell_newS hcW (.cells #[.string ⟨#[]⟩, .string ⟨#[97]⟩, .string ⟨#[97, 32, 62, 32, 46, 98]⟩, .string ⟨#[42, 35, 99]⟩] 9)
  go_upto_region 4 with (go_at_call 16; (with_reducible refine (round_any head 4 h _ (by decide) (by decide) HK2.out).mono ?_); rintro e w' ⟨rfl, rfl⟩)
  generalize W0.alloc _ = W2 at *
  clear hcH HCH hHH
  go_upto_region 8 with (go_at_call 16; (with_reducible refine (round_any tail 4 j _ (by decide) (by decide) HK3.out).mono ?_); rintro e w' ⟨rfl, rfl⟩)
  go_upto_region 8 with fail
  refine wp_region_held_drew (S := (fun W => W.cell? ⟨w.heap.size, i, none⟩ = some (.string WW))) (by kernel_rfl) hcW (fun hHeld => ?_)
  have HB3 := Lib.hid HB2.out.drew
  generalize W2.drew = V3 at *
  clear hcW
  refine wTake 0 (v := ?_) rfl (Or.inl ⟨by rfl, ?_⟩) ?_
  rotate_left
  · intro W hSw
    go_simp
    all_goals with_reducible rfl
  try simp only [gA, gB, gC, gD, gE, gF, gG]
  refine wTake 1 (v := ?_) rfl (Or.inl ⟨by rfl, ?_⟩) ?_
  rotate_left
  · intro W hSw
    go_simp
    all_goals with_reducible rfl
  try simp only [gA, gB, gC, gD, gE, gF, gG]
  refine wTake 2 (v := ?_) rfl (Or.inl ⟨by rfl, ?_⟩) ?_
  rotate_left
  · intro W hSw
    go_simp
    all_goals with_reducible rfl
  try simp only [gA, gB, gC, gD, gE, gF, gG]
  refine wTake 3 (v := ?_) rfl (Or.inl ⟨by rfl, ?_⟩) ?_
  rotate_left
  · intro W hSw
    go_simp
    all_goals with_reducible rfl
  try simp only [gA, gB, gC, gD, gE, gF, gG]
  refine wTake 4 (v := ?_) rfl (Or.inl ⟨by rfl, ?_⟩) ?_
  rotate_left
  · intro W hSw
    go_simp
    all_goals with_reducible rfl
  try simp only [gA, gB, gC, gD, gE, gF, gG]
  refine wTake 5 (v := ?_) rfl (Or.inl ⟨by rfl, ?_⟩) ?_
  rotate_left
  · intro W hSw
    go_simp
    all_goals with_reducible rfl
  try simp only [gA, gB, gC, gD, gE, gF, gG]
  refine wTake 6 (v := ?_) rfl (Or.inl ⟨by rfl, ?_⟩) ?_
  rotate_left
  · intro W hSw
    have y0 := hSw
    go_simp
    all_goals with_reducible rfl
  try simp only [gA, gB, gC, gD, gE, gF, gG]
  refine wTake 7 (v := ?_) rfl (Or.inl ⟨by rfl, ?_⟩) ?_
  rotate_left
  · intro W hSw
    go_simp
    all_goals with_reducible rfl
  try simp only [gA, gB, gC, gD, gE, gF, gG]
  refine wTake 9 (v := ?_) rfl (Or.inl ⟨by rfl, ?_⟩) ?_
  rotate_left
  · intro W hSw
    go_simp
    all_goals with_reducible rfl
  try simp only [gA, gB, gC, gD, gE, gF, gG]
  refine wpAnyH_ready (rs := [8]) (by kernel_rfl) (by simp) ?_
  refine AllReadyH.cons (o := _) rfl (fun K hK => ?_) AllReadyH.nil
  simp only [List.getElem_toArray, List.getElem_cons_zero, List.getElem_cons_succ]
  rw [if_pos (by rfl)]
  go_simp
  have hcJ := pt_cell V3 hj
  rw [hJJ] at hcJ
  have hS4 : (fun W => W.cell? ⟨w.heap.size, i, none⟩ = some (.string WW)) (V3.alloc (.cells #[.string ⟨#[]⟩, .string ⟨#[32, 98]⟩, .string ⟨#[46, 120]⟩, .string ⟨#[58, 58, 97, 102, 116, 101, 114]⟩] 9)) := cell_newS hHeld _
  have HB4 := Lib.hid (below_seq HB3.out (bel_newS V3 (.cells #[.string ⟨#[]⟩, .string ⟨#[32, 98]⟩, .string ⟨#[46, 120]⟩, .string ⟨#[58, 58, 97, 102, 116, 101, 114]⟩] 9)))
  generalize V3.heap.size = b3 at *
  generalize V3.alloc (.cells #[.string ⟨#[]⟩, .string ⟨#[32, 98]⟩, .string ⟨#[46, 120]⟩, .string ⟨#[58, 58, 97, 102, 116, 101, 114]⟩] 9) = W4 at *
  refine hK.out _ _ hS4 (fun hHeld => ?_)
  clear hK K
  try simp only [gA, gB, gC, gD, gE, gF, gG]
  refine wTake 10 (v := ?_) rfl (Or.inl ⟨by rfl, ?_⟩) ?_
  rotate_left
  · intro W hSw
    go_simp
    all_goals with_reducible rfl
  try simp only [gA, gB, gC, gD, gE, gF, gG]
  refine wpAnyH_ready (rs := [11]) (by kernel_rfl) (by simp) ?_
  refine AllReadyH.cons (o := _) rfl (fun K hK => ?_) AllReadyH.nil
  simp only [List.getElem_toArray, List.getElem_cons_zero, List.getElem_cons_succ]
  rw [if_pos (by rfl)]
  go_simp
  refine hK.out _ _ hHeld (fun hHeld => ?_)
  clear hK K
  try simp only [gA, gB, gC, gD, gE, gF, gG]
  refine wTake 12 (v := ?_) rfl (Or.inl ⟨by rfl, ?_⟩) ?_
  rotate_left
  · intro W hSw
    go_simp
    all_goals with_reducible rfl
  try simp only [gA, gB, gC, gD, gE, gF, gG]
  refine wTake 13 (v := ?_) rfl (Or.inl ⟨by rfl, ?_⟩) ?_
  rotate_left
  · intro W hSw
    go_simp
    all_goals with_reducible rfl
  try simp only [gA, gB, gC, gD, gE, gF, gG]
  refine wpAnyH_done (by kernel_rfl) ?_ _
  have HB5 := Lib.hid HB4.out
  clear hcJ hHeld
  go_wp2_with fail
  refine (nodes6_any T3 _ HZ3.out).mono ?_
  rintro e w1 ⟨⟨v1, rfl, hv1⟩, ha1⟩
  go_wp2_with fail
  refine (parse6 T3 HZ3.out hv1 (HL.out.below (below_seq HB4.out ha1)) HX.out).mono ?_
  rintro e w2 ⟨⟨L, u, rfl, hr1, hL⟩, hb1⟩
  obtain ⟨q1, q2, rfl, _⟩ := hr1.shape
  have HB6 := Lib.hid (below_seq (below_seq HB4.out ha1) hb1)
  clear hv1 ha1 hb1 hr1 hL
  generalize (cxsDt L).length = m1 at *
  go_wp2_with (go_at_call 9; refine (awake6_any _ (HL.out.below HB6.out) (HT.out.below HB6.out)).mono ?_; rintro e w3 ⟨rfl, hb3⟩; have HB7 := Lib.hid (below_seq HB6.out hb3))
  go_ret
  exact ⟨rfl, HB7.out⟩
theorem w3_lits {d : Nat} {a b c : Int} (ha : (Lit.int .i64 a).wf = true) (hb : (Lit.int .i64 b).wf = true) (hc : (Lit.int .i64 c).wf = true) : Tryz.prog.keyLits (d + 1 + 1) 38 [.int .i64 a, .int .i64 b, .int .i64 c] = some [.int .i64 a, .int .i64 b, .int .i64 c] := by
 have li : ∀ x : Int, (Lit.int .i64 x).wf = true → Tryz.prog.keyLits (d + 1) 3 [.int .i64 x] = some [.int .i64 x] := fun x h => by
  unfold Program.keyLits
  simp only [Tryz.underlying3]
  rw [if_pos ⟨trivial, h⟩]
 have ci : Tryz.prog.cellsOf 3 = 1 := by kernel_rfl
 have cw : Tryz.prog.cellsOf 38 = 3 := by kernel_rfl
 unfold Program.keyLits
 simp only [Tryz.underlying38]
 rw [if_pos (by simp [cw])]
 simp [List.range_succ, ci, li a ha, li b hb, li c hc]
theorem w3_eq {a b c : Int} (ha : (Lit.int .i64 a).wf = true) (hb : (Lit.int .i64 b).wf = true) (hc : (Lit.int .i64 c).wf = true) (w : World) : (Op.equalIn 10000 38 (.agg #[.int .i64 a, .int .i64 b, .int .i64 c]) (.agg #[.int .i64 a, .int .i64 b, .int .i64 c])).run Tryz.prog w = .ok true w := by
 obtain ⟨r, hr, hiff⟩ := run_equalIn_deep (P := Tryz.prog) 9990 10 38 (by kernel_rfl) w 10 10 (.agg #[.int .i64 a, .int .i64 b, .int .i64 c]) (.agg #[.int .i64 a, .int .i64 b, .int .i64 c]) [.int .i64 a, .int .i64 b, .int .i64 c] [.int .i64 a, .int .i64 b, .int .i64 c] (by kernel_rfl) (by kernel_rfl) (w3_lits (d := 8) ha hb hc) (w3_lits (d := 8) ha hb hc)
 rw [hiff.2 rfl] at hr
 exact hr
theorem wf_nat {n : Nat} (h : n ≤ 1000) : (Lit.int .i64 (n : Int)).wf = true := by
 have h1 : IntKind.i64.min = -9223372036854775808 := by decide
 have h2 : IntKind.i64.max = 9223372036854775807 := by decide
 show (decide (IntKind.i64.min ≤ (n : Int)) && decide ((n : Int) ≤ IntKind.i64.max)) = true
 rw [h1, h2, decide_eq_true (by omega), decide_eq_true (by omega)]
 rfl
theorem pk_cell (w : World) {i : Nat} (h : i < 5) : (w.alloc (.cells #[.int .i64 1, .int .i64 2, .int .i64 3, .int .i64 4, .int .i64 5] 3)).cell? ⟨w.heap.size, i, none⟩ = some (.int .i64 ((i : Int) + 1)) := by
 have hb := heap_alloc_self w (.cells #[.int .i64 1, .int .i64 2, .int .i64 3, .int .i64 4, .int .i64 5] 3)
 simp only [World.cell?, hb]
 have : i = 0 ∨ i = 1 ∨ i = 2 ∨ i = 3 ∨ i = 4 := by omega
 rcases this with rfl | rfl | rfl | rfl | rfl <;> rfl
theorem range3 {w : World} {b o : Nat} {x y z : Value} (h0 : w.cell? ⟨b, o, none⟩ = some x) (h1 : w.cell? ⟨b, o + 1, none⟩ = some y) (h2 : w.cell? ⟨b, o + 2, none⟩ = some z) : w.rangeAt b o [x, y, z] := fun j v hj => by
 match j, hj with
 | 0, hj => cases hj; exact h0
 | 1, hj => cases hj; exact h1
 | 2, hj => cases hj; exact h2
theorem range_below {w w' : World} {b o : Nat} {cs : List Value} (h : w.rangeAt b o cs) (hb : Below w.heap.size w w') : w'.rangeAt b o cs := fun j v hj => kept (h j v hj) hb
theorem e6z (W : World) : (Op.equalIn 10000 38 (.agg (W3.mk 0 0 1).cs) (.agg #[.int .i64 0, .int .i64 0, .int .i64 1])).run Tryz.prog W = .ok true W := by kernel_rfl
theorem pse_z0 (w : World) (i h j : Nat) (k head tail : Int) (hl : TabL w) (ht : Tab w) (hi : i < 5) (hh : h < 4) (hj : j < 4) (hk1 : k % 5 = (i : Int)) (hk2 : head % 4 = (h : Int)) (hk3 : tail % 4 = (j : Int)) (hjz : j = 0) (hhz : h = 0) :
    Calls Tryz.prog 7 #[.int .i64 k, .int .i64 head, .bool false, .int .i64 tail] w fun e w' => e = .returned (.bool true) ∧ Below w.heap.size w w' := by
  have HL := Lib.hid hl
  have HT := Lib.hid ht
  have HK1 := Lib.hid hk1
  have HK2 := Lib.hid hk2
  have HK3 := Lib.hid hk3
  have HHI := Lib.hid hi
  have i5 : (i : Int) < 5 := by omega
  have h4 : (h : Int) < 4 := by omega
  have j4 : (j : Int) < 4 := by omega
  obtain ⟨WW, hWW⟩ : ∃ T, pwL.getD i eB = T := ⟨_, rfl⟩
  obtain ⟨HH, hHH⟩ : ∃ T, phL.getD h eB = T := ⟨_, rfl⟩
  obtain ⟨JJ, hJJ⟩ : ∃ T, ptL.getD j eB = T := ⟨_, rfl⟩
  have s1 := pw_sz hi
  have s2 := ph_sz hh
  have s3 := pt_sz hj
  rw [hWW] at s1
  rw [hHH] at s2
  rw [hJJ] at s3
  have hT : psT false i h j = HH ++ ⟨#[58, 58]⟩ ++ WW ++ JJ := by rw [← hWW, ← hHH, ← hJJ]; rfl
  have c1 := cat_ok HH ⟨#[58, 58]⟩ (by show HH.size + 2 ≤ _; omega)
  obtain ⟨T1, hT1⟩ : ∃ T : ByteArray, HH ++ ⟨#[58, 58]⟩ = T := ⟨_, rfl⟩
  have z1 : T1.size ≤ 22 := by rw [← hT1, sz_app]; show HH.size + 2 ≤ _; omega
  rw [hT1] at c1 hT
  have c2 := cat_ok T1 WW (by omega)
  obtain ⟨T2, hT2⟩ : ∃ T : ByteArray, T1 ++ WW = T := ⟨_, rfl⟩
  have z2 : T2.size ≤ 42 := by rw [← hT2, sz_app]; omega
  rw [hT2] at c2 hT
  have c3 := cat_ok T2 JJ (by omega)
  obtain ⟨T3, hT3⟩ : ∃ T : ByteArray, T2 ++ JJ = T := ⟨_, rfl⟩
  have z3 : T3.size ≤ 5000000 := by rw [← hT3, sz_app]; omega
  have z4 : HH.size ≤ 5000000 := by omega
  rw [hT3] at c3 hT
  have HZ3 := Lib.hid z3
  have HZ4 := Lib.hid z4
  obtain ⟨x, hx, hok, hn, hz, hps, q1, q2, q3⟩ := ps_good (sg := false) hi hh hj (by unfold psBad; rw [decide_eq_false (by omega), Bool.or_false]; rfl)
  rw [hT] at hx
  have HX := Lib.hid hx
  have HOK := Lib.hid hok
  have HN := Lib.hid hn
  have HZ := Lib.hid hz
  have HPS := Lib.hid hps
  have j0 : ¬ (0 : Int) < (j : Int) := by omega
  have HW := Lib.hid (q1 hhz)
  have q2 := q2 hhz
  rw [hHH] at q2
  have HY := Lib.hid q2
  have hHE : (⟨#[]⟩ : ByteArray) = HH := by rw [← hHH, hhz]; rfl
  have HHE := Lib.hid hHE
  have HY0 : Hid (selS parseS (ndsS (toks (readS ⟨#[]⟩))) = none) := by rw [← hHE] at q2; exact q2
  clear hx hok hn hz hps q1 q2 q3 hHE hjz hhz
  have hcW := pw_cell w hi
  rw [hWW] at hcW
  have HCH := Lib.hid (fun W => ph_cell W hh)
  have HB1 := Lib.hid (bel_newS w (.cells #[.string ⟨#[98, 101, 102, 111, 114, 101]⟩, .string ⟨#[97, 102, 116, 101, 114]⟩, .string ⟨#[109, 97, 114, 107, 101, 114]⟩, .string ⟨#[102, 105, 114, 115, 116, 45, 108, 101, 116, 116, 101, 114]⟩, .string ⟨#[102, 105, 114, 115, 116, 45, 108, 105, 110, 101]⟩] 9))
  clear hl ht hk1 hk2 hk3 s1 s2 s3 z1 z2 z3 z4 hT hT1 hT2 hT3 hWW hi hh
  go_enter Tryz.func7, Tryz.ntmps7
  go_upto_region 2 with fail
  generalize w.alloc _ = W0 at *
  go_upto_region 3 with (go_at_call 16; (with_reducible refine (round_any k 5 i _ (by decide) (by decide) HK1.out).mono ?_); rintro e w' ⟨rfl, rfl⟩)
  have HB2 := Lib.hid (below_seq HB1.out (bel_newS W0 (.cells #[.string ⟨#[]⟩, .string ⟨#[97]⟩, .string ⟨#[97, 32, 62, 32, 46, 98]⟩, .string ⟨#[42, 35, 99]⟩] 9)))
  have hcH := HCH.out W0
  rw [hHH] at hcH
  replace hcW := cell_newS hcW (.cells #[.string ⟨#[]⟩, .string ⟨#[97]⟩, .string ⟨#[97, 32, 62, 32, 46, 98]⟩, .string ⟨#[42, 35, 99]⟩] 9)
  go_upto_region 4 with (go_at_call 16; (with_reducible refine (round_any head 4 h _ (by decide) (by decide) HK2.out).mono ?_); rintro e w' ⟨rfl, rfl⟩)
  generalize W0.alloc _ = W2 at *
  clear hcH HCH hHH
  go_upto_region 8 with (go_at_call 16; (with_reducible refine (round_any tail 4 j _ (by decide) (by decide) HK3.out).mono ?_); rintro e w' ⟨rfl, rfl⟩)
  go_upto_region 8 with fail
  refine wp_region_held_drew (S := (fun W => W.cell? ⟨w.heap.size, i, none⟩ = some (.string WW))) (by kernel_rfl) hcW (fun hHeld => ?_)
  have HB3 := Lib.hid HB2.out.drew
  generalize W2.drew = V3 at *
  clear hcW
  refine wTake 0 (v := ?_) rfl (Or.inl ⟨by rfl, ?_⟩) ?_
  rotate_left
  · intro W hSw
    go_simp
    all_goals with_reducible rfl
  try simp only [gA, gB, gC, gD, gE, gF, gG]
  refine wTake 1 (v := ?_) rfl (Or.inl ⟨by rfl, ?_⟩) ?_
  rotate_left
  · intro W hSw
    go_simp
    all_goals with_reducible rfl
  try simp only [gA, gB, gC, gD, gE, gF, gG]
  refine wTake 2 (v := ?_) rfl (Or.inl ⟨by rfl, ?_⟩) ?_
  rotate_left
  · intro W hSw
    go_simp
    all_goals with_reducible rfl
  try simp only [gA, gB, gC, gD, gE, gF, gG]
  refine wTake 3 (v := ?_) rfl (Or.inl ⟨by rfl, ?_⟩) ?_
  rotate_left
  · intro W hSw
    go_simp
    all_goals with_reducible rfl
  try simp only [gA, gB, gC, gD, gE, gF, gG]
  refine wTake 4 (v := ?_) rfl (Or.inl ⟨by rfl, ?_⟩) ?_
  rotate_left
  · intro W hSw
    go_simp
    all_goals with_reducible rfl
  try simp only [gA, gB, gC, gD, gE, gF, gG]
  refine wTake 5 (v := ?_) rfl (Or.inl ⟨by rfl, ?_⟩) ?_
  rotate_left
  · intro W hSw
    go_simp
    all_goals with_reducible rfl
  try simp only [gA, gB, gC, gD, gE, gF, gG]
  refine wTake 6 (v := ?_) rfl (Or.inl ⟨by rfl, ?_⟩) ?_
  rotate_left
  · intro W hSw
    have y0 := hSw
    go_simp
    all_goals with_reducible rfl
  try simp only [gA, gB, gC, gD, gE, gF, gG]
  refine wTake 7 (v := ?_) rfl (Or.inl ⟨by rfl, ?_⟩) ?_
  rotate_left
  · intro W hSw
    go_simp
    all_goals with_reducible rfl
  try simp only [gA, gB, gC, gD, gE, gF, gG]
  refine wTake 9 (v := ?_) rfl (Or.inl ⟨by rfl, ?_⟩) ?_
  rotate_left
  · intro W hSw
    go_simp
    all_goals with_reducible rfl
  try simp only [gA, gB, gC, gD, gE, gF, gG]
  refine wpAnyH_ready (rs := [8]) (by kernel_rfl) (by simp) ?_
  refine AllReadyH.cons (o := _) rfl (fun K hK => ?_) AllReadyH.nil
  simp only [List.getElem_toArray, List.getElem_cons_zero, List.getElem_cons_succ]
  rw [if_pos (by rfl)]
  go_simp
  have hcJ := pt_cell V3 hj
  rw [hJJ] at hcJ
  have hS4 : (fun W => W.cell? ⟨w.heap.size, i, none⟩ = some (.string WW)) (V3.alloc (.cells #[.string ⟨#[]⟩, .string ⟨#[32, 98]⟩, .string ⟨#[46, 120]⟩, .string ⟨#[58, 58, 97, 102, 116, 101, 114]⟩] 9)) := cell_newS hHeld _
  have HB4 := Lib.hid (below_seq HB3.out (bel_newS V3 (.cells #[.string ⟨#[]⟩, .string ⟨#[32, 98]⟩, .string ⟨#[46, 120]⟩, .string ⟨#[58, 58, 97, 102, 116, 101, 114]⟩] 9)))
  generalize V3.heap.size = b3 at *
  generalize V3.alloc (.cells #[.string ⟨#[]⟩, .string ⟨#[32, 98]⟩, .string ⟨#[46, 120]⟩, .string ⟨#[58, 58, 97, 102, 116, 101, 114]⟩] 9) = W4 at *
  refine hK.out _ _ hS4 (fun hHeld => ?_)
  clear hK K
  try simp only [gA, gB, gC, gD, gE, gF, gG]
  refine wTake 10 (v := ?_) rfl (Or.inl ⟨by rfl, ?_⟩) ?_
  rotate_left
  · intro W hSw
    go_simp
    all_goals with_reducible rfl
  try simp only [gA, gB, gC, gD, gE, gF, gG]
  refine wpAnyH_ready (rs := [11]) (by kernel_rfl) (by simp) ?_
  refine AllReadyH.cons (o := _) rfl (fun K hK => ?_) AllReadyH.nil
  simp only [List.getElem_toArray, List.getElem_cons_zero, List.getElem_cons_succ]
  rw [if_pos (by rfl)]
  go_simp
  refine hK.out _ _ hHeld (fun hHeld => ?_)
  clear hK K
  try simp only [gA, gB, gC, gD, gE, gF, gG]
  refine wTake 12 (v := ?_) rfl (Or.inl ⟨by rfl, ?_⟩) ?_
  rotate_left
  · intro W hSw
    go_simp
    all_goals with_reducible rfl
  try simp only [gA, gB, gC, gD, gE, gF, gG]
  refine wTake 13 (v := ?_) rfl (Or.inl ⟨by rfl, ?_⟩) ?_
  rotate_left
  · intro W hSw
    go_simp
    all_goals with_reducible rfl
  try simp only [gA, gB, gC, gD, gE, gF, gG]
  refine wpAnyH_done (by kernel_rfl) ?_ _
  have HB5 := Lib.hid HB4.out
  clear hcJ hHeld
  go_wp2_with fail
  refine (nodes6_any T3 _ HZ3.out).mono ?_
  rintro e w1 ⟨⟨v1, rfl, hv1⟩, ha1⟩
  go_wp2_with fail
  refine (parse6 T3 HZ3.out hv1 (HL.out.below (below_seq HB4.out ha1)) HX.out).mono ?_
  rintro e w2 ⟨⟨L, u, rfl, hr1, hL⟩, hb1⟩
  obtain rfl : L = [x] := hL
  obtain ⟨b, off, cap, hu, _, hrow⟩ := cx_row hr1 (Nat.succ_pos _)
  have hu : u = .slice (some ⟨b, off, none⟩) 1 cap := hu
  subst hu
  obtain ⟨a1, n1, c1, a2, n2, c2, pe, x0, x1, x2, R1⟩ := hrow 0 (Nat.succ_pos _)
  simp only [Nat.zero_mul, Nat.add_zero, List.getElem_cons_zero] at x0 x1 x2 R1
  have hpe : pe = (i : Int) + 1 := by
   obtain ⟨Pt, cb, hxe, _⟩ := R1
   have h1 := HPS.out
   rw [hxe] at h1
   exact h1
  subst hpe
  have HR1 := Lib.hid R1
  have HB6 := Lib.hid (below_seq (below_seq HB4.out ha1) hb1)
  have HX6 := Lib.hid (show w2.cell? ⟨b, off, none⟩ = some (.slice a1 n1 c1) ∧ w2.cell? ⟨b, off + 1, none⟩ = some (.slice a2 n2 c2) ∧ w2.cell? ⟨b, off + 2, none⟩ = some (.int .i64 ((i : Int) + 1)) from ⟨x0, x1, x2⟩)
  clear hv1 ha1 hb1 hr1 hrow x0 x1 x2 R1 HB5
  go_upto_region 12 with fail
  refine wp_region_held_drew (S := (fun W => W.cell? ⟨b, off + 2, none⟩ = some (.int .i64 ((i : Int) + 1)))) (by kernel_rfl) HX6.out.2.2 (fun hHeld => ?_)
  have HBD := Lib.hid (Below.refl w2.heap.size w2).drew
  generalize w2.drew = W5 at *
  refine wTake 0 (v := ?_) rfl (Or.inl ⟨by rfl, ?_⟩) ?_
  rotate_left
  · intro W hSw
    go_simp
    all_goals with_reducible rfl
  try simp only [gA, gB, gC, gD, gE, gF, gG]
  refine wTake 1 (v := ?_) rfl (Or.inl ⟨by rfl, ?_⟩) ?_
  rotate_left
  · intro W hSw
    go_simp
    all_goals with_reducible rfl
  try simp only [gA, gB, gC, gD, gE, gF, gG]
  refine wTake 2 (v := ?_) rfl (Or.inl ⟨by rfl, ?_⟩) ?_
  rotate_left
  · intro W hSw
    go_simp
    all_goals with_reducible rfl
  try simp only [gA, gB, gC, gD, gE, gF, gG]
  refine wTake 3 (v := ?_) rfl (Or.inl ⟨by rfl, ?_⟩) ?_
  rotate_left
  · intro W hSw
    go_simp
    all_goals with_reducible rfl
  try simp only [gA, gB, gC, gD, gE, gF, gG]
  refine wTake 4 (v := ?_) rfl (Or.inl ⟨by rfl, ?_⟩) ?_
  rotate_left
  · intro W hSw
    go_simp
    all_goals with_reducible rfl
  try simp only [gA, gB, gC, gD, gE, gF, gG]
  refine wTake 5 (v := ?_) rfl (Or.inl ⟨by rfl, ?_⟩) ?_
  rotate_left
  · intro W hSw
    go_simp
    all_goals with_reducible rfl
  try simp only [gA, gB, gC, gD, gE, gF, gG]
  refine wTake 6 (v := ?_) rfl (Or.inl ⟨by rfl, ?_⟩) ?_
  rotate_left
  · intro W hSw
    go_simp
    all_goals with_reducible rfl
  try simp only [gA, gB, gC, gD, gE, gF, gG]
  refine wTake 7 (v := ?_) rfl (Or.inl ⟨by rfl, ?_⟩) ?_
  rotate_left
  · intro W hSw
    go_simp
    all_goals with_reducible rfl
  try simp only [gA, gB, gC, gD, gE, gF, gG]
  refine wTake 8 (v := ?_) rfl (Or.inl ⟨by rfl, ?_⟩) ?_
  rotate_left
  · intro W hSw
    go_simp
    all_goals with_reducible rfl
  try simp only [gA, gB, gC, gD, gE, gF, gG]
  refine wTake 9 (v := ?_) rfl (Or.inl ⟨by rfl, ?_⟩) ?_
  rotate_left
  · intro W hSw
    go_simp
    all_goals with_reducible rfl
  try simp only [gA, gB, gC, gD, gE, gF, gG]
  refine wTake 10 (v := ?_) rfl (Or.inl ⟨by rfl, ?_⟩) ?_
  rotate_left
  · intro W hSw
    go_simp
    all_goals with_reducible rfl
  try simp only [gA, gB, gC, gD, gE, gF, gG]
  refine wTake 11 (v := ?_) rfl (Or.inl ⟨by rfl, ?_⟩) ?_
  rotate_left
  · intro W hSw
    have y0 := hSw
    go_simp
    all_goals with_reducible rfl
  try simp only [gA, gB, gC, gD, gE, gF, gG]
  refine wTake 13 (v := ?_) rfl (Or.inl ⟨by rfl, ?_⟩) ?_
  rotate_left
  · intro W hSw
    go_simp
    all_goals with_reducible rfl
  try simp only [gA, gB, gC, gD, gE, gF, gG]
  refine wpAnyH_ready (rs := [12]) (by kernel_rfl) (by simp) ?_
  refine AllReadyH.cons (o := _) rfl (fun K hK => ?_) AllReadyH.nil
  simp only [List.getElem_toArray, List.getElem_cons_zero, List.getElem_cons_succ]
  rw [if_pos (by rfl)]
  go_simp
  have hcK := pk_cell W5 HHI.out
  have hS4 : (fun W => W.cell? ⟨b, off + 2, none⟩ = some (.int .i64 ((i : Int) + 1))) (W5.alloc (.cells #[.int .i64 1, .int .i64 2, .int .i64 3, .int .i64 4, .int .i64 5] 3)) := cell_newS hHeld _
  have HB7 := Lib.hid (below_seq HBD.out (bel_newS W5 (.cells #[.int .i64 1, .int .i64 2, .int .i64 3, .int .i64 4, .int .i64 5] 3)))
  generalize W5.heap.size = b5 at *
  generalize W5.alloc (.cells #[.int .i64 1, .int .i64 2, .int .i64 3, .int .i64 4, .int .i64 5] 3) = W6 at *
  refine hK.out _ _ hS4 (fun hHeld => ?_)
  clear hK K
  try simp only [gA, gB, gC, gD, gE, gF, gG]
  refine wTake 14 (v := ?_) rfl (Or.inl ⟨by rfl, ?_⟩) ?_
  rotate_left
  · intro W hSw
    go_simp
    all_goals with_reducible rfl
  try simp only [gA, gB, gC, gD, gE, gF, gG]
  refine wpAnyH_ready (rs := [15]) (by kernel_rfl) (by simp) ?_
  refine AllReadyH.cons (o := _) rfl (fun K hK => ?_) AllReadyH.nil
  simp only [List.getElem_toArray, List.getElem_cons_zero, List.getElem_cons_succ]
  rw [if_pos (by rfl)]
  go_simp
  refine hK.out _ _ hHeld (fun hHeld => ?_)
  clear hK K
  try simp only [gA, gB, gC, gD, gE, gF, gG]
  refine wTake 16 (v := ?_) rfl (Or.inl ⟨by rfl, ?_⟩) ?_
  rotate_left
  · intro W hSw
    go_simp
    all_goals with_reducible rfl
  try simp only [gA, gB, gC, gD, gE, gF, gG]
  refine wTake 17 (v := ?_) rfl (Or.inl ⟨by rfl, ?_⟩) ?_
  rotate_left
  · intro W hSw
    go_simp
    all_goals with_reducible rfl
  try simp only [gA, gB, gC, gD, gE, gF, gG]
  refine wpAnyH_done (by kernel_rfl) ?_ _
  clear hcK hHeld
  have HB8 := Lib.hid (below_seq HB6.out HB7.out)
  rw [← HHE.out]
  go_wp2_with fail
  refine (nodes6_any ⟨#[]⟩ _ (by decide)).mono ?_
  rintro e w3 ⟨⟨v3, rfl, hv3⟩, ha3⟩
  go_wp2_with fail
  refine (parse6 ⟨#[]⟩ (by decide) hv3 (HL.out.below (below_seq HB8.out ha3)) HY0.out).mono ?_
  rintro e w4 ⟨⟨L4, u4, rfl, hr4, _⟩, hb4⟩
  obtain ⟨q1, q2, rfl, _⟩ := hr4.shape
  have HB9 := Lib.hid (below_seq (below_seq HB8.out ha3) hb4)
  have HB69 := Lib.hid (below_seq (below_seq HB7.out ha3) hb4)
  clear hv3 ha3 hb4 hr4
  generalize (cxsDt L4).length = m4 at *
  have x0 := kept HX6.out.1 HB69.out
  have x1 := kept HX6.out.2.1 HB69.out
  have x2 := kept HX6.out.2.2 HB69.out
  have HR9 := Lib.hid (HR1.out.below HB69.out)
  have ea := e6z
  go_wp2_with (first | (go_at_call 15; refine (weigh_cx HR9.out HOK.out HN.out HZ.out HW.out).mono ?_; rintro e w5 ⟨rfl, hb5⟩; have HBX := Lib.hid (below_seq HB9.out hb5)) | (go_at_call 9; refine (awake6_any _ (HL.out.below HBX.out) (HT.out.below HBX.out)).mono ?_; rintro e w7 ⟨rfl, hb7⟩; have HBY := Lib.hid (below_seq HBX.out hb7)))
  go_ret
  exact ⟨rfl, HBY.out⟩
theorem pse_z1 (w : World) (i h j : Nat) (k head tail : Int) (hl : TabL w) (ht : Tab w) (hi : i < 5) (hh : h < 4) (hj : j < 4) (hk1 : k % 5 = (i : Int)) (hk2 : head % 4 = (h : Int)) (hk3 : tail % 4 = (j : Int)) (hi2 : i ≠ 2) (hjz : j = 0) (hhz : h = 0) :
    Calls Tryz.prog 7 #[.int .i64 k, .int .i64 head, .bool true, .int .i64 tail] w fun e w' => e = .returned (.bool true) ∧ Below w.heap.size w w' := by
  have HL := Lib.hid hl
  have HT := Lib.hid ht
  have HK1 := Lib.hid hk1
  have HK2 := Lib.hid hk2
  have HK3 := Lib.hid hk3
  have HHI := Lib.hid hi
  have i5 : (i : Int) < 5 := by omega
  have h4 : (h : Int) < 4 := by omega
  have j4 : (j : Int) < 4 := by omega
  obtain ⟨WW, hWW⟩ : ∃ T, pwL.getD i eB = T := ⟨_, rfl⟩
  obtain ⟨HH, hHH⟩ : ∃ T, phL.getD h eB = T := ⟨_, rfl⟩
  obtain ⟨JJ, hJJ⟩ : ∃ T, ptL.getD j eB = T := ⟨_, rfl⟩
  have s1 := pw_sz hi
  have s2 := ph_sz hh
  have s3 := pt_sz hj
  rw [hWW] at s1
  rw [hHH] at s2
  rw [hJJ] at s3
  have hT : psT true i h j = HH ++ ⟨#[58]⟩ ++ WW ++ JJ := by rw [← hWW, ← hHH, ← hJJ]; rfl
  have c1 := cat_ok HH ⟨#[58]⟩ (by show HH.size + 1 ≤ _; omega)
  obtain ⟨T1, hT1⟩ : ∃ T : ByteArray, HH ++ ⟨#[58]⟩ = T := ⟨_, rfl⟩
  have z1 : T1.size ≤ 22 := by rw [← hT1, sz_app]; show HH.size + 1 ≤ _; omega
  rw [hT1] at c1 hT
  have c2 := cat_ok T1 WW (by omega)
  obtain ⟨T2, hT2⟩ : ∃ T : ByteArray, T1 ++ WW = T := ⟨_, rfl⟩
  have z2 : T2.size ≤ 42 := by rw [← hT2, sz_app]; omega
  rw [hT2] at c2 hT
  have c3 := cat_ok T2 JJ (by omega)
  obtain ⟨T3, hT3⟩ : ∃ T : ByteArray, T2 ++ JJ = T := ⟨_, rfl⟩
  have z3 : T3.size ≤ 5000000 := by rw [← hT3, sz_app]; omega
  have z4 : HH.size ≤ 5000000 := by omega
  rw [hT3] at c3 hT
  have HZ3 := Lib.hid z3
  have HZ4 := Lib.hid z4
  obtain ⟨x, hx, hok, hn, hz, hps, q1, q2, q3⟩ := ps_good (sg := true) hi hh hj (by unfold psBad; rw [decide_eq_false (by omega), Bool.or_false]; simp [hi2])
  rw [hT] at hx
  have HX := Lib.hid hx
  have HOK := Lib.hid hok
  have HN := Lib.hid hn
  have HZ := Lib.hid hz
  have HPS := Lib.hid hps
  have i2 : ((i : Int) == 2) = false := by rw [beq_eq_false_iff_ne]; omega
  have j0 : ¬ (0 : Int) < (j : Int) := by omega
  have HW := Lib.hid (q1 hhz)
  have q2 := q2 hhz
  rw [hHH] at q2
  have HY := Lib.hid q2
  have hHE : (⟨#[]⟩ : ByteArray) = HH := by rw [← hHH, hhz]; rfl
  have HHE := Lib.hid hHE
  have HY0 : Hid (selS parseS (ndsS (toks (readS ⟨#[]⟩))) = none) := by rw [← hHE] at q2; exact q2
  clear hx hok hn hz hps q1 q2 q3 hHE hjz hhz
  have hcW := pw_cell w hi
  rw [hWW] at hcW
  have HCH := Lib.hid (fun W => ph_cell W hh)
  have HB1 := Lib.hid (bel_newS w (.cells #[.string ⟨#[98, 101, 102, 111, 114, 101]⟩, .string ⟨#[97, 102, 116, 101, 114]⟩, .string ⟨#[109, 97, 114, 107, 101, 114]⟩, .string ⟨#[102, 105, 114, 115, 116, 45, 108, 101, 116, 116, 101, 114]⟩, .string ⟨#[102, 105, 114, 115, 116, 45, 108, 105, 110, 101]⟩] 9))
  clear hl ht hk1 hk2 hk3 s1 s2 s3 z1 z2 z3 z4 hT hT1 hT2 hT3 hWW hi hh
  go_enter Tryz.func7, Tryz.ntmps7
  go_upto_region 2 with fail
  generalize w.alloc _ = W0 at *
  go_upto_region 3 with (go_at_call 16; (with_reducible refine (round_any k 5 i _ (by decide) (by decide) HK1.out).mono ?_); rintro e w' ⟨rfl, rfl⟩)
  have HB2 := Lib.hid (below_seq HB1.out (bel_newS W0 (.cells #[.string ⟨#[]⟩, .string ⟨#[97]⟩, .string ⟨#[97, 32, 62, 32, 46, 98]⟩, .string ⟨#[42, 35, 99]⟩] 9)))
  have hcH := HCH.out W0
  rw [hHH] at hcH
  replace hcW := cell_newS hcW (.cells #[.string ⟨#[]⟩, .string ⟨#[97]⟩, .string ⟨#[97, 32, 62, 32, 46, 98]⟩, .string ⟨#[42, 35, 99]⟩] 9)
  go_upto_region 4 with (go_at_call 16; (with_reducible refine (round_any head 4 h _ (by decide) (by decide) HK2.out).mono ?_); rintro e w' ⟨rfl, rfl⟩)
  generalize W0.alloc _ = W2 at *
  clear hcH HCH hHH
  go_upto_region 8 with (go_at_call 16; (with_reducible refine (round_any tail 4 j _ (by decide) (by decide) HK3.out).mono ?_); rintro e w' ⟨rfl, rfl⟩)
  go_upto_region 8 with fail
  refine wp_region_held_drew (S := (fun W => W.cell? ⟨w.heap.size, i, none⟩ = some (.string WW))) (by kernel_rfl) hcW (fun hHeld => ?_)
  have HB3 := Lib.hid HB2.out.drew
  generalize W2.drew = V3 at *
  clear hcW
  refine wTake 0 (v := ?_) rfl (Or.inl ⟨by rfl, ?_⟩) ?_
  rotate_left
  · intro W hSw
    go_simp
    all_goals with_reducible rfl
  try simp only [gA, gB, gC, gD, gE, gF, gG]
  refine wTake 1 (v := ?_) rfl (Or.inl ⟨by rfl, ?_⟩) ?_
  rotate_left
  · intro W hSw
    go_simp
    all_goals with_reducible rfl
  try simp only [gA, gB, gC, gD, gE, gF, gG]
  refine wTake 2 (v := ?_) rfl (Or.inl ⟨by rfl, ?_⟩) ?_
  rotate_left
  · intro W hSw
    go_simp
    all_goals with_reducible rfl
  try simp only [gA, gB, gC, gD, gE, gF, gG]
  refine wTake 3 (v := ?_) rfl (Or.inl ⟨by rfl, ?_⟩) ?_
  rotate_left
  · intro W hSw
    go_simp
    all_goals with_reducible rfl
  try simp only [gA, gB, gC, gD, gE, gF, gG]
  refine wTake 4 (v := ?_) rfl (Or.inl ⟨by rfl, ?_⟩) ?_
  rotate_left
  · intro W hSw
    go_simp
    all_goals with_reducible rfl
  try simp only [gA, gB, gC, gD, gE, gF, gG]
  refine wTake 5 (v := ?_) rfl (Or.inl ⟨by rfl, ?_⟩) ?_
  rotate_left
  · intro W hSw
    go_simp
    all_goals with_reducible rfl
  try simp only [gA, gB, gC, gD, gE, gF, gG]
  refine wTake 6 (v := ?_) rfl (Or.inl ⟨by rfl, ?_⟩) ?_
  rotate_left
  · intro W hSw
    have y0 := hSw
    go_simp
    all_goals with_reducible rfl
  try simp only [gA, gB, gC, gD, gE, gF, gG]
  refine wTake 7 (v := ?_) rfl (Or.inl ⟨by rfl, ?_⟩) ?_
  rotate_left
  · intro W hSw
    go_simp
    all_goals with_reducible rfl
  try simp only [gA, gB, gC, gD, gE, gF, gG]
  refine wTake 9 (v := ?_) rfl (Or.inl ⟨by rfl, ?_⟩) ?_
  rotate_left
  · intro W hSw
    go_simp
    all_goals with_reducible rfl
  try simp only [gA, gB, gC, gD, gE, gF, gG]
  refine wpAnyH_ready (rs := [8]) (by kernel_rfl) (by simp) ?_
  refine AllReadyH.cons (o := _) rfl (fun K hK => ?_) AllReadyH.nil
  simp only [List.getElem_toArray, List.getElem_cons_zero, List.getElem_cons_succ]
  rw [if_pos (by rfl)]
  go_simp
  have hcJ := pt_cell V3 hj
  rw [hJJ] at hcJ
  have hS4 : (fun W => W.cell? ⟨w.heap.size, i, none⟩ = some (.string WW)) (V3.alloc (.cells #[.string ⟨#[]⟩, .string ⟨#[32, 98]⟩, .string ⟨#[46, 120]⟩, .string ⟨#[58, 58, 97, 102, 116, 101, 114]⟩] 9)) := cell_newS hHeld _
  have HB4 := Lib.hid (below_seq HB3.out (bel_newS V3 (.cells #[.string ⟨#[]⟩, .string ⟨#[32, 98]⟩, .string ⟨#[46, 120]⟩, .string ⟨#[58, 58, 97, 102, 116, 101, 114]⟩] 9)))
  generalize V3.heap.size = b3 at *
  generalize V3.alloc (.cells #[.string ⟨#[]⟩, .string ⟨#[32, 98]⟩, .string ⟨#[46, 120]⟩, .string ⟨#[58, 58, 97, 102, 116, 101, 114]⟩] 9) = W4 at *
  refine hK.out _ _ hS4 (fun hHeld => ?_)
  clear hK K
  try simp only [gA, gB, gC, gD, gE, gF, gG]
  refine wTake 10 (v := ?_) rfl (Or.inl ⟨by rfl, ?_⟩) ?_
  rotate_left
  · intro W hSw
    go_simp
    all_goals with_reducible rfl
  try simp only [gA, gB, gC, gD, gE, gF, gG]
  refine wpAnyH_ready (rs := [11]) (by kernel_rfl) (by simp) ?_
  refine AllReadyH.cons (o := _) rfl (fun K hK => ?_) AllReadyH.nil
  simp only [List.getElem_toArray, List.getElem_cons_zero, List.getElem_cons_succ]
  rw [if_pos (by rfl)]
  go_simp
  refine hK.out _ _ hHeld (fun hHeld => ?_)
  clear hK K
  try simp only [gA, gB, gC, gD, gE, gF, gG]
  refine wTake 12 (v := ?_) rfl (Or.inl ⟨by rfl, ?_⟩) ?_
  rotate_left
  · intro W hSw
    go_simp
    all_goals with_reducible rfl
  try simp only [gA, gB, gC, gD, gE, gF, gG]
  refine wTake 13 (v := ?_) rfl (Or.inl ⟨by rfl, ?_⟩) ?_
  rotate_left
  · intro W hSw
    go_simp
    all_goals with_reducible rfl
  try simp only [gA, gB, gC, gD, gE, gF, gG]
  refine wpAnyH_done (by kernel_rfl) ?_ _
  have HB5 := Lib.hid HB4.out
  clear hcJ hHeld
  go_wp2_with fail
  refine (nodes6_any T3 _ HZ3.out).mono ?_
  rintro e w1 ⟨⟨v1, rfl, hv1⟩, ha1⟩
  go_wp2_with fail
  refine (parse6 T3 HZ3.out hv1 (HL.out.below (below_seq HB4.out ha1)) HX.out).mono ?_
  rintro e w2 ⟨⟨L, u, rfl, hr1, hL⟩, hb1⟩
  obtain rfl : L = [x] := hL
  obtain ⟨b, off, cap, hu, _, hrow⟩ := cx_row hr1 (Nat.succ_pos _)
  have hu : u = .slice (some ⟨b, off, none⟩) 1 cap := hu
  subst hu
  obtain ⟨a1, n1, c1, a2, n2, c2, pe, x0, x1, x2, R1⟩ := hrow 0 (Nat.succ_pos _)
  simp only [Nat.zero_mul, Nat.add_zero, List.getElem_cons_zero] at x0 x1 x2 R1
  have hpe : pe = (i : Int) + 1 := by
   obtain ⟨Pt, cb, hxe, _⟩ := R1
   have h1 := HPS.out
   rw [hxe] at h1
   exact h1
  subst hpe
  have HR1 := Lib.hid R1
  have HB6 := Lib.hid (below_seq (below_seq HB4.out ha1) hb1)
  have HX6 := Lib.hid (show w2.cell? ⟨b, off, none⟩ = some (.slice a1 n1 c1) ∧ w2.cell? ⟨b, off + 1, none⟩ = some (.slice a2 n2 c2) ∧ w2.cell? ⟨b, off + 2, none⟩ = some (.int .i64 ((i : Int) + 1)) from ⟨x0, x1, x2⟩)
  clear hv1 ha1 hb1 hr1 hrow x0 x1 x2 R1 HB5
  go_upto_region 12 with fail
  refine wp_region_held_drew (S := (fun W => W.cell? ⟨b, off + 2, none⟩ = some (.int .i64 ((i : Int) + 1)))) (by kernel_rfl) HX6.out.2.2 (fun hHeld => ?_)
  have HBD := Lib.hid (Below.refl w2.heap.size w2).drew
  generalize w2.drew = W5 at *
  refine wTake 0 (v := ?_) rfl (Or.inl ⟨by rfl, ?_⟩) ?_
  rotate_left
  · intro W hSw
    go_simp
    all_goals with_reducible rfl
  try simp only [gA, gB, gC, gD, gE, gF, gG]
  refine wTake 1 (v := ?_) rfl (Or.inl ⟨by rfl, ?_⟩) ?_
  rotate_left
  · intro W hSw
    go_simp
    all_goals with_reducible rfl
  try simp only [gA, gB, gC, gD, gE, gF, gG]
  refine wTake 2 (v := ?_) rfl (Or.inl ⟨by rfl, ?_⟩) ?_
  rotate_left
  · intro W hSw
    go_simp
    all_goals with_reducible rfl
  try simp only [gA, gB, gC, gD, gE, gF, gG]
  refine wTake 3 (v := ?_) rfl (Or.inl ⟨by rfl, ?_⟩) ?_
  rotate_left
  · intro W hSw
    go_simp
    all_goals with_reducible rfl
  try simp only [gA, gB, gC, gD, gE, gF, gG]
  refine wTake 4 (v := ?_) rfl (Or.inl ⟨by rfl, ?_⟩) ?_
  rotate_left
  · intro W hSw
    go_simp
    all_goals with_reducible rfl
  try simp only [gA, gB, gC, gD, gE, gF, gG]
  refine wTake 5 (v := ?_) rfl (Or.inl ⟨by rfl, ?_⟩) ?_
  rotate_left
  · intro W hSw
    go_simp
    all_goals with_reducible rfl
  try simp only [gA, gB, gC, gD, gE, gF, gG]
  refine wTake 6 (v := ?_) rfl (Or.inl ⟨by rfl, ?_⟩) ?_
  rotate_left
  · intro W hSw
    go_simp
    all_goals with_reducible rfl
  try simp only [gA, gB, gC, gD, gE, gF, gG]
  refine wTake 7 (v := ?_) rfl (Or.inl ⟨by rfl, ?_⟩) ?_
  rotate_left
  · intro W hSw
    go_simp
    all_goals with_reducible rfl
  try simp only [gA, gB, gC, gD, gE, gF, gG]
  refine wTake 8 (v := ?_) rfl (Or.inl ⟨by rfl, ?_⟩) ?_
  rotate_left
  · intro W hSw
    go_simp
    all_goals with_reducible rfl
  try simp only [gA, gB, gC, gD, gE, gF, gG]
  refine wTake 9 (v := ?_) rfl (Or.inl ⟨by rfl, ?_⟩) ?_
  rotate_left
  · intro W hSw
    go_simp
    all_goals with_reducible rfl
  try simp only [gA, gB, gC, gD, gE, gF, gG]
  refine wTake 10 (v := ?_) rfl (Or.inl ⟨by rfl, ?_⟩) ?_
  rotate_left
  · intro W hSw
    go_simp
    all_goals with_reducible rfl
  try simp only [gA, gB, gC, gD, gE, gF, gG]
  refine wTake 11 (v := ?_) rfl (Or.inl ⟨by rfl, ?_⟩) ?_
  rotate_left
  · intro W hSw
    have y0 := hSw
    go_simp
    all_goals with_reducible rfl
  try simp only [gA, gB, gC, gD, gE, gF, gG]
  refine wTake 13 (v := ?_) rfl (Or.inl ⟨by rfl, ?_⟩) ?_
  rotate_left
  · intro W hSw
    go_simp
    all_goals with_reducible rfl
  try simp only [gA, gB, gC, gD, gE, gF, gG]
  refine wpAnyH_ready (rs := [12]) (by kernel_rfl) (by simp) ?_
  refine AllReadyH.cons (o := _) rfl (fun K hK => ?_) AllReadyH.nil
  simp only [List.getElem_toArray, List.getElem_cons_zero, List.getElem_cons_succ]
  rw [if_pos (by rfl)]
  go_simp
  have hcK := pk_cell W5 HHI.out
  have hS4 : (fun W => W.cell? ⟨b, off + 2, none⟩ = some (.int .i64 ((i : Int) + 1))) (W5.alloc (.cells #[.int .i64 1, .int .i64 2, .int .i64 3, .int .i64 4, .int .i64 5] 3)) := cell_newS hHeld _
  have HB7 := Lib.hid (below_seq HBD.out (bel_newS W5 (.cells #[.int .i64 1, .int .i64 2, .int .i64 3, .int .i64 4, .int .i64 5] 3)))
  generalize W5.heap.size = b5 at *
  generalize W5.alloc (.cells #[.int .i64 1, .int .i64 2, .int .i64 3, .int .i64 4, .int .i64 5] 3) = W6 at *
  refine hK.out _ _ hS4 (fun hHeld => ?_)
  clear hK K
  try simp only [gA, gB, gC, gD, gE, gF, gG]
  refine wTake 14 (v := ?_) rfl (Or.inl ⟨by rfl, ?_⟩) ?_
  rotate_left
  · intro W hSw
    go_simp
    all_goals with_reducible rfl
  try simp only [gA, gB, gC, gD, gE, gF, gG]
  refine wpAnyH_ready (rs := [15]) (by kernel_rfl) (by simp) ?_
  refine AllReadyH.cons (o := _) rfl (fun K hK => ?_) AllReadyH.nil
  simp only [List.getElem_toArray, List.getElem_cons_zero, List.getElem_cons_succ]
  rw [if_pos (by rfl)]
  go_simp
  refine hK.out _ _ hHeld (fun hHeld => ?_)
  clear hK K
  try simp only [gA, gB, gC, gD, gE, gF, gG]
  refine wTake 16 (v := ?_) rfl (Or.inl ⟨by rfl, ?_⟩) ?_
  rotate_left
  · intro W hSw
    go_simp
    all_goals with_reducible rfl
  try simp only [gA, gB, gC, gD, gE, gF, gG]
  refine wTake 17 (v := ?_) rfl (Or.inl ⟨by rfl, ?_⟩) ?_
  rotate_left
  · intro W hSw
    go_simp
    all_goals with_reducible rfl
  try simp only [gA, gB, gC, gD, gE, gF, gG]
  refine wpAnyH_done (by kernel_rfl) ?_ _
  clear hcK hHeld
  have HB8 := Lib.hid (below_seq HB6.out HB7.out)
  rw [← HHE.out]
  go_wp2_with fail
  refine (nodes6_any ⟨#[]⟩ _ (by decide)).mono ?_
  rintro e w3 ⟨⟨v3, rfl, hv3⟩, ha3⟩
  go_wp2_with fail
  refine (parse6 ⟨#[]⟩ (by decide) hv3 (HL.out.below (below_seq HB8.out ha3)) HY0.out).mono ?_
  rintro e w4 ⟨⟨L4, u4, rfl, hr4, _⟩, hb4⟩
  obtain ⟨q1, q2, rfl, _⟩ := hr4.shape
  have HB9 := Lib.hid (below_seq (below_seq HB8.out ha3) hb4)
  have HB69 := Lib.hid (below_seq (below_seq HB7.out ha3) hb4)
  clear hv3 ha3 hb4 hr4
  generalize (cxsDt L4).length = m4 at *
  have x0 := kept HX6.out.1 HB69.out
  have x1 := kept HX6.out.2.1 HB69.out
  have x2 := kept HX6.out.2.2 HB69.out
  have HR9 := Lib.hid (HR1.out.below HB69.out)
  have ea := e6z
  go_wp2_with (first | (go_at_call 15; refine (weigh_cx HR9.out HOK.out HN.out HZ.out HW.out).mono ?_; rintro e w5 ⟨rfl, hb5⟩; have HBX := Lib.hid (below_seq HB9.out hb5)) | (go_at_call 9; refine (awake6_any _ (HL.out.below HBX.out) (HT.out.below HBX.out)).mono ?_; rintro e w7 ⟨rfl, hb7⟩; have HBY := Lib.hid (below_seq HBX.out hb7)))
  go_ret
  exact ⟨rfl, HBY.out⟩
theorem pse_n0 (w : World) (i h j : Nat) (k head tail : Int) (hl : TabL w) (ht : Tab w) (hi : i < 5) (hh : h < 4) (hj : j < 4) (hk1 : k % 5 = (i : Int)) (hk2 : head % 4 = (h : Int)) (hk3 : tail % 4 = (j : Int)) (hjz : j = 0) (hhz : h ≠ 0) :
    Calls Tryz.prog 7 #[.int .i64 k, .int .i64 head, .bool false, .int .i64 tail] w fun e w' => e = .returned (.bool true) ∧ Below w.heap.size w w' := by
  have HL := Lib.hid hl
  have HT := Lib.hid ht
  have HK1 := Lib.hid hk1
  have HK2 := Lib.hid hk2
  have HK3 := Lib.hid hk3
  have HHI := Lib.hid hi
  have i5 : (i : Int) < 5 := by omega
  have h4 : (h : Int) < 4 := by omega
  have j4 : (j : Int) < 4 := by omega
  obtain ⟨WW, hWW⟩ : ∃ T, pwL.getD i eB = T := ⟨_, rfl⟩
  obtain ⟨HH, hHH⟩ : ∃ T, phL.getD h eB = T := ⟨_, rfl⟩
  obtain ⟨JJ, hJJ⟩ : ∃ T, ptL.getD j eB = T := ⟨_, rfl⟩
  have s1 := pw_sz hi
  have s2 := ph_sz hh
  have s3 := pt_sz hj
  rw [hWW] at s1
  rw [hHH] at s2
  rw [hJJ] at s3
  have hT : psT false i h j = HH ++ ⟨#[58, 58]⟩ ++ WW ++ JJ := by rw [← hWW, ← hHH, ← hJJ]; rfl
  have c1 := cat_ok HH ⟨#[58, 58]⟩ (by show HH.size + 2 ≤ _; omega)
  obtain ⟨T1, hT1⟩ : ∃ T : ByteArray, HH ++ ⟨#[58, 58]⟩ = T := ⟨_, rfl⟩
  have z1 : T1.size ≤ 22 := by rw [← hT1, sz_app]; show HH.size + 2 ≤ _; omega
  rw [hT1] at c1 hT
  have c2 := cat_ok T1 WW (by omega)
  obtain ⟨T2, hT2⟩ : ∃ T : ByteArray, T1 ++ WW = T := ⟨_, rfl⟩
  have z2 : T2.size ≤ 42 := by rw [← hT2, sz_app]; omega
  rw [hT2] at c2 hT
  have c3 := cat_ok T2 JJ (by omega)
  obtain ⟨T3, hT3⟩ : ∃ T : ByteArray, T2 ++ JJ = T := ⟨_, rfl⟩
  have z3 : T3.size ≤ 5000000 := by rw [← hT3, sz_app]; omega
  have z4 : HH.size ≤ 5000000 := by omega
  rw [hT3] at c3 hT
  have HZ3 := Lib.hid z3
  have HZ4 := Lib.hid z4
  obtain ⟨x, hx, hok, hn, hz, hps, q1, q2, q3⟩ := ps_good (sg := false) hi hh hj (by unfold psBad; rw [decide_eq_false (by omega), Bool.or_false]; rfl)
  rw [hT] at hx
  have HX := Lib.hid hx
  have HOK := Lib.hid hok
  have HN := Lib.hid hn
  have HZ := Lib.hid hz
  have HPS := Lib.hid hps
  have j0 : ¬ (0 : Int) < (j : Int) := by omega
  obtain ⟨y, hy, hoy, m1, m2, A, B, C, lA, lB, lC, hwy, hwx⟩ := q3 hhz
  rw [hHH] at hy
  have HY := Lib.hid hy
  have HOY := Lib.hid hoy
  have HNY := Lib.hid m1
  have HZY := Lib.hid m2
  have HW := Lib.hid hwx
  have HWY := Lib.hid hwy
  have HAB : Hid (A ≤ 100 ∧ B ≤ 100 ∧ C ≤ 100) := ⟨lA, lB, lC⟩
  have hHE : HH.toList.isEmpty = false := by
   have ho : h = 1 ∨ h = 2 ∨ h = 3 := by omega
   rw [← hHH]
   rcases ho with rfl | rfl | rfl <;> (show (_ : Bool) = _; kernel_rfl)
  have HHE := Lib.hid hHE
  clear hx hok hn hz hps q1 q2 q3 hHE hjz hhz hy hoy m1 m2 lA lB lC hwy hwx
  have hcW := pw_cell w hi
  rw [hWW] at hcW
  have HCH := Lib.hid (fun W => ph_cell W hh)
  have HB1 := Lib.hid (bel_newS w (.cells #[.string ⟨#[98, 101, 102, 111, 114, 101]⟩, .string ⟨#[97, 102, 116, 101, 114]⟩, .string ⟨#[109, 97, 114, 107, 101, 114]⟩, .string ⟨#[102, 105, 114, 115, 116, 45, 108, 101, 116, 116, 101, 114]⟩, .string ⟨#[102, 105, 114, 115, 116, 45, 108, 105, 110, 101]⟩] 9))
  clear hl ht hk1 hk2 hk3 s1 s2 s3 z1 z2 z3 z4 hT hT1 hT2 hT3 hWW hi hh
  go_enter Tryz.func7, Tryz.ntmps7
  go_upto_region 2 with fail
  generalize w.alloc _ = W0 at *
  go_upto_region 3 with (go_at_call 16; (with_reducible refine (round_any k 5 i _ (by decide) (by decide) HK1.out).mono ?_); rintro e w' ⟨rfl, rfl⟩)
  have HB2 := Lib.hid (below_seq HB1.out (bel_newS W0 (.cells #[.string ⟨#[]⟩, .string ⟨#[97]⟩, .string ⟨#[97, 32, 62, 32, 46, 98]⟩, .string ⟨#[42, 35, 99]⟩] 9)))
  have hcH := HCH.out W0
  rw [hHH] at hcH
  replace hcW := cell_newS hcW (.cells #[.string ⟨#[]⟩, .string ⟨#[97]⟩, .string ⟨#[97, 32, 62, 32, 46, 98]⟩, .string ⟨#[42, 35, 99]⟩] 9)
  go_upto_region 4 with (go_at_call 16; (with_reducible refine (round_any head 4 h _ (by decide) (by decide) HK2.out).mono ?_); rintro e w' ⟨rfl, rfl⟩)
  generalize W0.alloc _ = W2 at *
  clear hcH HCH hHH
  go_upto_region 8 with (go_at_call 16; (with_reducible refine (round_any tail 4 j _ (by decide) (by decide) HK3.out).mono ?_); rintro e w' ⟨rfl, rfl⟩)
  go_upto_region 8 with fail
  refine wp_region_held_drew (S := (fun W => W.cell? ⟨w.heap.size, i, none⟩ = some (.string WW))) (by kernel_rfl) hcW (fun hHeld => ?_)
  have HB3 := Lib.hid HB2.out.drew
  generalize W2.drew = V3 at *
  clear hcW
  refine wTake 0 (v := ?_) rfl (Or.inl ⟨by rfl, ?_⟩) ?_
  rotate_left
  · intro W hSw
    go_simp
    all_goals with_reducible rfl
  try simp only [gA, gB, gC, gD, gE, gF, gG]
  refine wTake 1 (v := ?_) rfl (Or.inl ⟨by rfl, ?_⟩) ?_
  rotate_left
  · intro W hSw
    go_simp
    all_goals with_reducible rfl
  try simp only [gA, gB, gC, gD, gE, gF, gG]
  refine wTake 2 (v := ?_) rfl (Or.inl ⟨by rfl, ?_⟩) ?_
  rotate_left
  · intro W hSw
    go_simp
    all_goals with_reducible rfl
  try simp only [gA, gB, gC, gD, gE, gF, gG]
  refine wTake 3 (v := ?_) rfl (Or.inl ⟨by rfl, ?_⟩) ?_
  rotate_left
  · intro W hSw
    go_simp
    all_goals with_reducible rfl
  try simp only [gA, gB, gC, gD, gE, gF, gG]
  refine wTake 4 (v := ?_) rfl (Or.inl ⟨by rfl, ?_⟩) ?_
  rotate_left
  · intro W hSw
    go_simp
    all_goals with_reducible rfl
  try simp only [gA, gB, gC, gD, gE, gF, gG]
  refine wTake 5 (v := ?_) rfl (Or.inl ⟨by rfl, ?_⟩) ?_
  rotate_left
  · intro W hSw
    go_simp
    all_goals with_reducible rfl
  try simp only [gA, gB, gC, gD, gE, gF, gG]
  refine wTake 6 (v := ?_) rfl (Or.inl ⟨by rfl, ?_⟩) ?_
  rotate_left
  · intro W hSw
    have y0 := hSw
    go_simp
    all_goals with_reducible rfl
  try simp only [gA, gB, gC, gD, gE, gF, gG]
  refine wTake 7 (v := ?_) rfl (Or.inl ⟨by rfl, ?_⟩) ?_
  rotate_left
  · intro W hSw
    go_simp
    all_goals with_reducible rfl
  try simp only [gA, gB, gC, gD, gE, gF, gG]
  refine wTake 9 (v := ?_) rfl (Or.inl ⟨by rfl, ?_⟩) ?_
  rotate_left
  · intro W hSw
    go_simp
    all_goals with_reducible rfl
  try simp only [gA, gB, gC, gD, gE, gF, gG]
  refine wpAnyH_ready (rs := [8]) (by kernel_rfl) (by simp) ?_
  refine AllReadyH.cons (o := _) rfl (fun K hK => ?_) AllReadyH.nil
  simp only [List.getElem_toArray, List.getElem_cons_zero, List.getElem_cons_succ]
  rw [if_pos (by rfl)]
  go_simp
  have hcJ := pt_cell V3 hj
  rw [hJJ] at hcJ
  have hS4 : (fun W => W.cell? ⟨w.heap.size, i, none⟩ = some (.string WW)) (V3.alloc (.cells #[.string ⟨#[]⟩, .string ⟨#[32, 98]⟩, .string ⟨#[46, 120]⟩, .string ⟨#[58, 58, 97, 102, 116, 101, 114]⟩] 9)) := cell_newS hHeld _
  have HB4 := Lib.hid (below_seq HB3.out (bel_newS V3 (.cells #[.string ⟨#[]⟩, .string ⟨#[32, 98]⟩, .string ⟨#[46, 120]⟩, .string ⟨#[58, 58, 97, 102, 116, 101, 114]⟩] 9)))
  generalize V3.heap.size = b3 at *
  generalize V3.alloc (.cells #[.string ⟨#[]⟩, .string ⟨#[32, 98]⟩, .string ⟨#[46, 120]⟩, .string ⟨#[58, 58, 97, 102, 116, 101, 114]⟩] 9) = W4 at *
  refine hK.out _ _ hS4 (fun hHeld => ?_)
  clear hK K
  try simp only [gA, gB, gC, gD, gE, gF, gG]
  refine wTake 10 (v := ?_) rfl (Or.inl ⟨by rfl, ?_⟩) ?_
  rotate_left
  · intro W hSw
    go_simp
    all_goals with_reducible rfl
  try simp only [gA, gB, gC, gD, gE, gF, gG]
  refine wpAnyH_ready (rs := [11]) (by kernel_rfl) (by simp) ?_
  refine AllReadyH.cons (o := _) rfl (fun K hK => ?_) AllReadyH.nil
  simp only [List.getElem_toArray, List.getElem_cons_zero, List.getElem_cons_succ]
  rw [if_pos (by rfl)]
  go_simp
  refine hK.out _ _ hHeld (fun hHeld => ?_)
  clear hK K
  try simp only [gA, gB, gC, gD, gE, gF, gG]
  refine wTake 12 (v := ?_) rfl (Or.inl ⟨by rfl, ?_⟩) ?_
  rotate_left
  · intro W hSw
    go_simp
    all_goals with_reducible rfl
  try simp only [gA, gB, gC, gD, gE, gF, gG]
  refine wTake 13 (v := ?_) rfl (Or.inl ⟨by rfl, ?_⟩) ?_
  rotate_left
  · intro W hSw
    go_simp
    all_goals with_reducible rfl
  try simp only [gA, gB, gC, gD, gE, gF, gG]
  refine wpAnyH_done (by kernel_rfl) ?_ _
  have HB5 := Lib.hid HB4.out
  clear hcJ hHeld
  go_wp2_with fail
  refine (nodes6_any T3 _ HZ3.out).mono ?_
  rintro e w1 ⟨⟨v1, rfl, hv1⟩, ha1⟩
  go_wp2_with fail
  refine (parse6 T3 HZ3.out hv1 (HL.out.below (below_seq HB4.out ha1)) HX.out).mono ?_
  rintro e w2 ⟨⟨L, u, rfl, hr1, hL⟩, hb1⟩
  obtain rfl : L = [x] := hL
  obtain ⟨b, off, cap, hu, _, hrow⟩ := cx_row hr1 (Nat.succ_pos _)
  have hu : u = .slice (some ⟨b, off, none⟩) 1 cap := hu
  subst hu
  obtain ⟨a1, n1, c1, a2, n2, c2, pe, x0, x1, x2, R1⟩ := hrow 0 (Nat.succ_pos _)
  simp only [Nat.zero_mul, Nat.add_zero, List.getElem_cons_zero] at x0 x1 x2 R1
  have hpe : pe = (i : Int) + 1 := by
   obtain ⟨Pt, cb, hxe, _⟩ := R1
   have h1 := HPS.out
   rw [hxe] at h1
   exact h1
  subst hpe
  have HR1 := Lib.hid R1
  have HB6 := Lib.hid (below_seq (below_seq HB4.out ha1) hb1)
  have HX6 := Lib.hid (show w2.cell? ⟨b, off, none⟩ = some (.slice a1 n1 c1) ∧ w2.cell? ⟨b, off + 1, none⟩ = some (.slice a2 n2 c2) ∧ w2.cell? ⟨b, off + 2, none⟩ = some (.int .i64 ((i : Int) + 1)) from ⟨x0, x1, x2⟩)
  clear hv1 ha1 hb1 hr1 hrow x0 x1 x2 R1 HB5
  go_upto_region 12 with fail
  refine wp_region_held_drew (S := (fun W => W.cell? ⟨b, off + 2, none⟩ = some (.int .i64 ((i : Int) + 1)))) (by kernel_rfl) HX6.out.2.2 (fun hHeld => ?_)
  have HBD := Lib.hid (Below.refl w2.heap.size w2).drew
  generalize w2.drew = W5 at *
  refine wTake 0 (v := ?_) rfl (Or.inl ⟨by rfl, ?_⟩) ?_
  rotate_left
  · intro W hSw
    go_simp
    all_goals with_reducible rfl
  try simp only [gA, gB, gC, gD, gE, gF, gG]
  refine wTake 1 (v := ?_) rfl (Or.inl ⟨by rfl, ?_⟩) ?_
  rotate_left
  · intro W hSw
    go_simp
    all_goals with_reducible rfl
  try simp only [gA, gB, gC, gD, gE, gF, gG]
  refine wTake 2 (v := ?_) rfl (Or.inl ⟨by rfl, ?_⟩) ?_
  rotate_left
  · intro W hSw
    go_simp
    all_goals with_reducible rfl
  try simp only [gA, gB, gC, gD, gE, gF, gG]
  refine wTake 3 (v := ?_) rfl (Or.inl ⟨by rfl, ?_⟩) ?_
  rotate_left
  · intro W hSw
    go_simp
    all_goals with_reducible rfl
  try simp only [gA, gB, gC, gD, gE, gF, gG]
  refine wTake 4 (v := ?_) rfl (Or.inl ⟨by rfl, ?_⟩) ?_
  rotate_left
  · intro W hSw
    go_simp
    all_goals with_reducible rfl
  try simp only [gA, gB, gC, gD, gE, gF, gG]
  refine wTake 5 (v := ?_) rfl (Or.inl ⟨by rfl, ?_⟩) ?_
  rotate_left
  · intro W hSw
    go_simp
    all_goals with_reducible rfl
  try simp only [gA, gB, gC, gD, gE, gF, gG]
  refine wTake 6 (v := ?_) rfl (Or.inl ⟨by rfl, ?_⟩) ?_
  rotate_left
  · intro W hSw
    go_simp
    all_goals with_reducible rfl
  try simp only [gA, gB, gC, gD, gE, gF, gG]
  refine wTake 7 (v := ?_) rfl (Or.inl ⟨by rfl, ?_⟩) ?_
  rotate_left
  · intro W hSw
    go_simp
    all_goals with_reducible rfl
  try simp only [gA, gB, gC, gD, gE, gF, gG]
  refine wTake 8 (v := ?_) rfl (Or.inl ⟨by rfl, ?_⟩) ?_
  rotate_left
  · intro W hSw
    go_simp
    all_goals with_reducible rfl
  try simp only [gA, gB, gC, gD, gE, gF, gG]
  refine wTake 9 (v := ?_) rfl (Or.inl ⟨by rfl, ?_⟩) ?_
  rotate_left
  · intro W hSw
    go_simp
    all_goals with_reducible rfl
  try simp only [gA, gB, gC, gD, gE, gF, gG]
  refine wTake 10 (v := ?_) rfl (Or.inl ⟨by rfl, ?_⟩) ?_
  rotate_left
  · intro W hSw
    go_simp
    all_goals with_reducible rfl
  try simp only [gA, gB, gC, gD, gE, gF, gG]
  refine wTake 11 (v := ?_) rfl (Or.inl ⟨by rfl, ?_⟩) ?_
  rotate_left
  · intro W hSw
    have y0 := hSw
    go_simp
    all_goals with_reducible rfl
  try simp only [gA, gB, gC, gD, gE, gF, gG]
  refine wTake 13 (v := ?_) rfl (Or.inl ⟨by rfl, ?_⟩) ?_
  rotate_left
  · intro W hSw
    go_simp
    all_goals with_reducible rfl
  try simp only [gA, gB, gC, gD, gE, gF, gG]
  refine wpAnyH_ready (rs := [12]) (by kernel_rfl) (by simp) ?_
  refine AllReadyH.cons (o := _) rfl (fun K hK => ?_) AllReadyH.nil
  simp only [List.getElem_toArray, List.getElem_cons_zero, List.getElem_cons_succ]
  rw [if_pos (by rfl)]
  go_simp
  have hcK := pk_cell W5 HHI.out
  have hS4 : (fun W => W.cell? ⟨b, off + 2, none⟩ = some (.int .i64 ((i : Int) + 1))) (W5.alloc (.cells #[.int .i64 1, .int .i64 2, .int .i64 3, .int .i64 4, .int .i64 5] 3)) := cell_newS hHeld _
  have HB7 := Lib.hid (below_seq HBD.out (bel_newS W5 (.cells #[.int .i64 1, .int .i64 2, .int .i64 3, .int .i64 4, .int .i64 5] 3)))
  generalize W5.heap.size = b5 at *
  generalize W5.alloc (.cells #[.int .i64 1, .int .i64 2, .int .i64 3, .int .i64 4, .int .i64 5] 3) = W6 at *
  refine hK.out _ _ hS4 (fun hHeld => ?_)
  clear hK K
  try simp only [gA, gB, gC, gD, gE, gF, gG]
  refine wTake 14 (v := ?_) rfl (Or.inl ⟨by rfl, ?_⟩) ?_
  rotate_left
  · intro W hSw
    go_simp
    all_goals with_reducible rfl
  try simp only [gA, gB, gC, gD, gE, gF, gG]
  refine wpAnyH_ready (rs := [15]) (by kernel_rfl) (by simp) ?_
  refine AllReadyH.cons (o := _) rfl (fun K hK => ?_) AllReadyH.nil
  simp only [List.getElem_toArray, List.getElem_cons_zero, List.getElem_cons_succ]
  rw [if_pos (by rfl)]
  go_simp
  refine hK.out _ _ hHeld (fun hHeld => ?_)
  clear hK K
  try simp only [gA, gB, gC, gD, gE, gF, gG]
  refine wTake 16 (v := ?_) rfl (Or.inl ⟨by rfl, ?_⟩) ?_
  rotate_left
  · intro W hSw
    go_simp
    all_goals with_reducible rfl
  try simp only [gA, gB, gC, gD, gE, gF, gG]
  refine wTake 17 (v := ?_) rfl (Or.inl ⟨by rfl, ?_⟩) ?_
  rotate_left
  · intro W hSw
    go_simp
    all_goals with_reducible rfl
  try simp only [gA, gB, gC, gD, gE, gF, gG]
  refine wpAnyH_done (by kernel_rfl) ?_ _
  clear hcK hHeld
  have HB8 := Lib.hid (below_seq HB6.out HB7.out)
  go_wp2_with fail
  refine (nodes6_any HH _ HZ4.out).mono ?_
  rintro e w3 ⟨⟨v3, rfl, hv3⟩, ha3⟩
  go_wp2_with fail
  refine (parse6 HH HZ4.out hv3 (HL.out.below (below_seq HB8.out ha3)) HY.out).mono ?_
  rintro e w4 ⟨⟨L4, u4, rfl, hr4, hL4⟩, hb4⟩
  obtain rfl : L4 = [y] := hL4
  obtain ⟨b', off', cap', hu4, _, hrow4⟩ := cx_row hr4 (Nat.succ_pos _)
  have hu4 : u4 = .slice (some ⟨b', off', none⟩) 1 cap' := hu4
  subst hu4
  obtain ⟨a3, n3, c3, a4, n4, c4, p4, y0, y1, y2, R4⟩ := hrow4 0 (Nat.succ_pos _)
  simp only [Nat.zero_mul, Nat.add_zero, List.getElem_cons_zero] at y0 y1 y2 R4
  have HR4 := Lib.hid R4
  have HB9 := Lib.hid (below_seq (below_seq HB8.out ha3) hb4)
  have HB69 := Lib.hid (below_seq (below_seq HB7.out ha3) hb4)
  have HX9 := Lib.hid (⟨kept HX6.out.1 HB69.out, kept HX6.out.2.1 HB69.out, kept HX6.out.2.2 HB69.out⟩ : w4.cell? ⟨b, off, none⟩ = some (.slice a1 n1 c1) ∧ w4.cell? ⟨b, off + 1, none⟩ = some (.slice a2 n2 c2) ∧ w4.cell? ⟨b, off + 2, none⟩ = some (.int .i64 ((i : Int) + 1)))
  have HR9 := Lib.hid (HR1.out.below HB69.out)
  clear hv3 ha3 hb4 hr4 hrow4 R4
  have hHE := HHE.out
  go_upto_region 18 with fail
  have HZB := Lib.hid (CB.new (T := 38) w4 #[.int .i64 0, .int .i64 0, .int .i64 0])
  have HBZ := Lib.hid (bel_newS w4 (.cells #[.int .i64 0, .int .i64 0, .int .i64 0] 38))
  replace y0 := cell_newS y0 (.cells #[.int .i64 0, .int .i64 0, .int .i64 0] 38)
  replace y1 := cell_newS y1 (.cells #[.int .i64 0, .int .i64 0, .int .i64 0] 38)
  replace y2 := cell_newS y2 (.cells #[.int .i64 0, .int .i64 0, .int .i64 0] 38)
  have HL7 := Lib.hid (show w4.heap.size < (w4.alloc (.cells #[.int .i64 0, .int .i64 0, .int .i64 0] 38)).heap.size by simp)
  have HRY := Lib.hid (HR4.out.below HBZ.out)
  generalize hgb : w4.heap.size = gb at *
  generalize w4.alloc (.cells #[.int .i64 0, .int .i64 0, .int .i64 0] 38) = W7 at *
  have HGB := Lib.hid hgb
  clear hgb hHE
  go_upto_region 20 with (go_at_call 15; refine (weigh_cx HRY.out HOY.out HNY.out HZY.out HWY.out).mono ?_; rintro e w5 ⟨rfl, hb5⟩; have HZ5 := Lib.hid (HZB.out.below hb5 HL7.out); have z0 : w5.cell? ⟨gb, 0, none⟩ = some (.int .i64 0) := HZ5.out.cell 0; have z1 : w5.cell? ⟨gb, 1, none⟩ = some (.int .i64 0) := HZ5.out.cell 1; have z2 : w5.cell? ⟨gb, 2, none⟩ = some (.int .i64 0) := HZ5.out.cell 2; have f0 : w5.frozen? ⟨gb, 0, none⟩ = false := HZ5.out.frozen _; have f1 : w5.frozen? ⟨gb, 1, none⟩ = false := HZ5.out.frozen _; have f2 : w5.frozen? ⟨gb, 2, none⟩ = false := HZ5.out.frozen _; have HB5 := Lib.hid hb5; clear hb5)
  have HC8 : Hid (CB 38 (((w5.setCell ⟨gb, 0, none⟩ (.int .i64 (A : Int))).setCell ⟨gb, 1, none⟩ (.int .i64 (B : Int))).setCell ⟨gb, 2, none⟩ (.int .i64 (C : Int))) gb #[.int .i64 (A : Int), .int .i64 (B : Int), .int .i64 (C : Int)]) := ((HZ5.out.set 0 (.int .i64 (A : Int))).set 1 (.int .i64 (B : Int))).set 2 (.int .i64 (C : Int))
  have hle : w2.heap.size ≤ gb := by have h := HB69.out.size; rw [HGB.out] at h; exact h
  have HB28 := Lib.hid ((((below_seq HB69.out (by rw [HGB.out]; exact HBZ.out.trans (HB5.out.mono (Nat.le_of_lt HL7.out)))).setCell (p := ⟨gb, 0, none⟩) hle (.int .i64 (A : Int))).setCell (p := ⟨gb, 1, none⟩) hle (.int .i64 (B : Int))).setCell (p := ⟨gb, 2, none⟩) hle (.int .i64 (C : Int)))
  clear z0 z1 z2 f0 f1 f2 y0 y1 y2
  generalize ((w5.setCell ⟨gb, 0, none⟩ (.int .i64 (A : Int))).setCell ⟨gb, 1, none⟩ (.int .i64 (B : Int))).setCell ⟨gb, 2, none⟩ (.int .i64 (C : Int)) = W8 at *
  have z2 : W8.cell? ⟨gb, 2, none⟩ = some (.int .i64 (C : Int)) := HC8.out.cell 2
  have f2 : W8.frozen? ⟨gb, 2, none⟩ = false := HC8.out.frozen _
  have hwi := wrap_succ1 (i := C) (by have := HAB.out; omega)
  go_upto_region 21 with fail
  have HC9 := Lib.hid (HC8.out.set 2 (.int .i64 ((C : Int) + 1)))
  have HB29 := Lib.hid (HB28.out.setCell (p := ⟨gb, 2, none⟩) hle (.int .i64 ((C : Int) + 1)))
  rw [hwi]
  clear z2 f2 hwi
  generalize W8.setCell ⟨gb, 2, none⟩ (.int .i64 ((C : Int) + 1)) = W9 at *
  have HX9' := Lib.hid (⟨kept HX6.out.1 HB29.out, kept HX6.out.2.1 HB29.out, kept HX6.out.2.2 HB29.out⟩ : W9.cell? ⟨b, off, none⟩ = some (.slice a1 n1 c1) ∧ W9.cell? ⟨b, off + 1, none⟩ = some (.slice a2 n2 c2) ∧ W9.cell? ⟨b, off + 2, none⟩ = some (.int .i64 ((i : Int) + 1)))
  have ea : ∀ W, (Op.equalIn 10000 38 (.agg (W3.mk A B ((C : Int) + 1)).cs) (.agg #[.int .i64 (A : Int), .int .i64 (B : Int), .int .i64 ((C : Int) + 1)])).run Tryz.prog W = .ok true W := fun W => w3_eq (wf_nat (by have := HAB.out; omega)) (wf_nat (by have := HAB.out; omega)) (wf_nat (n := C + 1) (by have := HAB.out; omega)) W
  refine wp_region_held_drew (S := (fun W => W.rangeAt b off [.slice a1 n1 c1, .slice a2 n2 c2, .int .i64 ((i : Int) + 1)] ∧ W.rangeAt gb 0 [.int .i64 (A : Int), .int .i64 (B : Int), .int .i64 ((C : Int) + 1)])) (by kernel_rfl) ⟨range3 HX9'.out.1 HX9'.out.2.1 HX9'.out.2.2, range3 (HC9.out.cell 0) (HC9.out.cell 1) (HC9.out.cell 2)⟩ (fun hHeld => ?_)
  have HB2d := Lib.hid HB29.out.drew
  have HRd := Lib.hid (HR1.out.below HB2d.out)
  generalize W9.drew = WA at *
  refine wTake 0 (v := ?_) rfl (Or.inl ⟨by rfl, ?_⟩) ?_
  rotate_left
  · intro W hSw
    go_simp
    all_goals with_reducible rfl
  try simp only [gA, gB, gC, gD, gE, gF, gG]
  refine wTake 1 (v := ?_) rfl (Or.inl ⟨by rfl, ?_⟩) ?_
  rotate_left
  · intro W hSw
    go_simp
    all_goals with_reducible rfl
  try simp only [gA, gB, gC, gD, gE, gF, gG]
  refine wTake 2 (v := _) rfl (yieldsIf_load_mid (by rfl) 33 (.tmp 120) rfl b off rfl [.slice a1 n1 c1, .slice a2 n2 c2, .int .i64 ((i : Int) + 1)] _ (fun _ h => h.1) Tryz.underlying33 (by rfl) (by kernel_rfl)) ?_
  try simp only [gA, gB, gC, gD, gE, gF, gG]
  refine wTake 4 (v := _) rfl (yieldsIf_load_mid (by rfl) 38 (.tmp 19) rfl gb 0 rfl [.int .i64 (A : Int), .int .i64 (B : Int), .int .i64 ((C : Int) + 1)] _ (fun _ h => h.2) Tryz.underlying38 (by rfl) w3_size) ?_
  try simp only [gA, gB, gC, gD, gE, gF, gG]
  refine wpAnyH_ready (rs := [3]) (by kernel_rfl) (by simp) ?_
  refine AllReadyH.cons (o := _) rfl (fun K hK => ?_) AllReadyH.nil
  simp only [List.getElem_toArray, List.getElem_cons_zero, List.getElem_cons_succ]
  rw [if_pos (by rfl)]
  go_simp
  refine (weigh_cx HRd.out HOK.out HN.out HZ.out HW.out).mono ?_
  rintro e wB ⟨rfl, hbB⟩
  have HBB := Lib.hid (below_seq (below_seq HB6.out HB2d.out) hbB)
  have hSB : (fun W => W.rangeAt b off [.slice a1 n1 c1, .slice a2 n2 c2, .int .i64 ((i : Int) + 1)] ∧ W.rangeAt gb 0 [.int .i64 (A : Int), .int .i64 (B : Int), .int .i64 ((C : Int) + 1)]) wB := ⟨range_below hHeld.1 hbB, range_below hHeld.2 hbB⟩
  clear hbB hHeld
  go_simp
  refine hK.out _ _ hSB (fun hHeld => ?_)
  clear hK K
  try simp only [gA, gB, gC, gD, gE, gF, gG]
  refine wTake 5 (v := ?_) rfl (Or.inl ⟨by rfl, ?_⟩) ?_
  rotate_left
  · intro W hSw
    go_simp
    all_goals with_reducible rfl
  try simp only [gA, gB, gC, gD, gE, gF, gG]
  refine wTake 6 (v := ?_) rfl (Or.inl ⟨by rfl, ?_⟩) ?_
  rotate_left
  · intro W hSw
    go_simp
    all_goals with_reducible rfl
  try simp only [gA, gB, gC, gD, gE, gF, gG]
  refine wpAnyH_ready (rs := [7]) (by kernel_rfl) (by simp) ?_
  refine AllReadyH.cons (o := _) rfl (fun K hK => ?_) AllReadyH.nil
  simp only [List.getElem_toArray, List.getElem_cons_zero, List.getElem_cons_succ]
  rw [if_pos (by rfl)]
  go_simp
  refine (awake6_any _ (HL.out.below HBB.out) (HT.out.below HBB.out)).mono ?_
  rintro e wC ⟨rfl, hbC⟩
  have HBC := Lib.hid (below_seq HBB.out hbC)
  have hSC : (fun W => W.rangeAt b off [.slice a1 n1 c1, .slice a2 n2 c2, .int .i64 ((i : Int) + 1)] ∧ W.rangeAt gb 0 [.int .i64 (A : Int), .int .i64 (B : Int), .int .i64 ((C : Int) + 1)]) wC := ⟨range_below hHeld.1 hbC, range_below hHeld.2 hbC⟩
  clear hbC hHeld hSB
  go_simp
  refine hK.out _ _ hSC (fun hHeld => ?_)
  clear hK K
  try simp only [gA, gB, gC, gD, gE, gF, gG]
  refine wTake 8 (v := ?_) rfl (Or.inl ⟨by rfl, ?_⟩) ?_
  rotate_left
  · intro W hSw
    go_simp
    all_goals with_reducible rfl
  try simp only [gA, gB, gC, gD, gE, gF, gG]
  refine wTake 9 (v := ?_) rfl (Or.inl ⟨by rfl, ?_⟩) ?_
  rotate_left
  · intro W hSw
    go_simp
    all_goals with_reducible rfl
  try simp only [gA, gB, gC, gD, gE, gF, gG]
  refine wpAnyH_done (by kernel_rfl) ?_ _
  go_wp2
  go_ret
  exact ⟨rfl, HBC.out⟩
theorem pse_n1 (w : World) (i h j : Nat) (k head tail : Int) (hl : TabL w) (ht : Tab w) (hi : i < 5) (hh : h < 4) (hj : j < 4) (hk1 : k % 5 = (i : Int)) (hk2 : head % 4 = (h : Int)) (hk3 : tail % 4 = (j : Int)) (hi2 : i ≠ 2) (hjz : j = 0) (hhz : h ≠ 0) :
    Calls Tryz.prog 7 #[.int .i64 k, .int .i64 head, .bool true, .int .i64 tail] w fun e w' => e = .returned (.bool true) ∧ Below w.heap.size w w' := by
  have HL := Lib.hid hl
  have HT := Lib.hid ht
  have HK1 := Lib.hid hk1
  have HK2 := Lib.hid hk2
  have HK3 := Lib.hid hk3
  have HHI := Lib.hid hi
  have i5 : (i : Int) < 5 := by omega
  have h4 : (h : Int) < 4 := by omega
  have j4 : (j : Int) < 4 := by omega
  obtain ⟨WW, hWW⟩ : ∃ T, pwL.getD i eB = T := ⟨_, rfl⟩
  obtain ⟨HH, hHH⟩ : ∃ T, phL.getD h eB = T := ⟨_, rfl⟩
  obtain ⟨JJ, hJJ⟩ : ∃ T, ptL.getD j eB = T := ⟨_, rfl⟩
  have s1 := pw_sz hi
  have s2 := ph_sz hh
  have s3 := pt_sz hj
  rw [hWW] at s1
  rw [hHH] at s2
  rw [hJJ] at s3
  have hT : psT true i h j = HH ++ ⟨#[58]⟩ ++ WW ++ JJ := by rw [← hWW, ← hHH, ← hJJ]; rfl
  have c1 := cat_ok HH ⟨#[58]⟩ (by show HH.size + 1 ≤ _; omega)
  obtain ⟨T1, hT1⟩ : ∃ T : ByteArray, HH ++ ⟨#[58]⟩ = T := ⟨_, rfl⟩
  have z1 : T1.size ≤ 22 := by rw [← hT1, sz_app]; show HH.size + 1 ≤ _; omega
  rw [hT1] at c1 hT
  have c2 := cat_ok T1 WW (by omega)
  obtain ⟨T2, hT2⟩ : ∃ T : ByteArray, T1 ++ WW = T := ⟨_, rfl⟩
  have z2 : T2.size ≤ 42 := by rw [← hT2, sz_app]; omega
  rw [hT2] at c2 hT
  have c3 := cat_ok T2 JJ (by omega)
  obtain ⟨T3, hT3⟩ : ∃ T : ByteArray, T2 ++ JJ = T := ⟨_, rfl⟩
  have z3 : T3.size ≤ 5000000 := by rw [← hT3, sz_app]; omega
  have z4 : HH.size ≤ 5000000 := by omega
  rw [hT3] at c3 hT
  have HZ3 := Lib.hid z3
  have HZ4 := Lib.hid z4
  obtain ⟨x, hx, hok, hn, hz, hps, q1, q2, q3⟩ := ps_good (sg := true) hi hh hj (by unfold psBad; rw [decide_eq_false (by omega), Bool.or_false]; simp [hi2])
  rw [hT] at hx
  have HX := Lib.hid hx
  have HOK := Lib.hid hok
  have HN := Lib.hid hn
  have HZ := Lib.hid hz
  have HPS := Lib.hid hps
  have i2 : ((i : Int) == 2) = false := by rw [beq_eq_false_iff_ne]; omega
  have j0 : ¬ (0 : Int) < (j : Int) := by omega
  obtain ⟨y, hy, hoy, m1, m2, A, B, C, lA, lB, lC, hwy, hwx⟩ := q3 hhz
  rw [hHH] at hy
  have HY := Lib.hid hy
  have HOY := Lib.hid hoy
  have HNY := Lib.hid m1
  have HZY := Lib.hid m2
  have HW := Lib.hid hwx
  have HWY := Lib.hid hwy
  have HAB : Hid (A ≤ 100 ∧ B ≤ 100 ∧ C ≤ 100) := ⟨lA, lB, lC⟩
  have hHE : HH.toList.isEmpty = false := by
   have ho : h = 1 ∨ h = 2 ∨ h = 3 := by omega
   rw [← hHH]
   rcases ho with rfl | rfl | rfl <;> (show (_ : Bool) = _; kernel_rfl)
  have HHE := Lib.hid hHE
  clear hx hok hn hz hps q1 q2 q3 hHE hjz hhz hy hoy m1 m2 lA lB lC hwy hwx
  have hcW := pw_cell w hi
  rw [hWW] at hcW
  have HCH := Lib.hid (fun W => ph_cell W hh)
  have HB1 := Lib.hid (bel_newS w (.cells #[.string ⟨#[98, 101, 102, 111, 114, 101]⟩, .string ⟨#[97, 102, 116, 101, 114]⟩, .string ⟨#[109, 97, 114, 107, 101, 114]⟩, .string ⟨#[102, 105, 114, 115, 116, 45, 108, 101, 116, 116, 101, 114]⟩, .string ⟨#[102, 105, 114, 115, 116, 45, 108, 105, 110, 101]⟩] 9))
  clear hl ht hk1 hk2 hk3 s1 s2 s3 z1 z2 z3 z4 hT hT1 hT2 hT3 hWW hi hh
  go_enter Tryz.func7, Tryz.ntmps7
  go_upto_region 2 with fail
  generalize w.alloc _ = W0 at *
  go_upto_region 3 with (go_at_call 16; (with_reducible refine (round_any k 5 i _ (by decide) (by decide) HK1.out).mono ?_); rintro e w' ⟨rfl, rfl⟩)
  have HB2 := Lib.hid (below_seq HB1.out (bel_newS W0 (.cells #[.string ⟨#[]⟩, .string ⟨#[97]⟩, .string ⟨#[97, 32, 62, 32, 46, 98]⟩, .string ⟨#[42, 35, 99]⟩] 9)))
  have hcH := HCH.out W0
  rw [hHH] at hcH
  replace hcW := cell_newS hcW (.cells #[.string ⟨#[]⟩, .string ⟨#[97]⟩, .string ⟨#[97, 32, 62, 32, 46, 98]⟩, .string ⟨#[42, 35, 99]⟩] 9)
  go_upto_region 4 with (go_at_call 16; (with_reducible refine (round_any head 4 h _ (by decide) (by decide) HK2.out).mono ?_); rintro e w' ⟨rfl, rfl⟩)
  generalize W0.alloc _ = W2 at *
  clear hcH HCH hHH
  go_upto_region 8 with (go_at_call 16; (with_reducible refine (round_any tail 4 j _ (by decide) (by decide) HK3.out).mono ?_); rintro e w' ⟨rfl, rfl⟩)
  go_upto_region 8 with fail
  refine wp_region_held_drew (S := (fun W => W.cell? ⟨w.heap.size, i, none⟩ = some (.string WW))) (by kernel_rfl) hcW (fun hHeld => ?_)
  have HB3 := Lib.hid HB2.out.drew
  generalize W2.drew = V3 at *
  clear hcW
  refine wTake 0 (v := ?_) rfl (Or.inl ⟨by rfl, ?_⟩) ?_
  rotate_left
  · intro W hSw
    go_simp
    all_goals with_reducible rfl
  try simp only [gA, gB, gC, gD, gE, gF, gG]
  refine wTake 1 (v := ?_) rfl (Or.inl ⟨by rfl, ?_⟩) ?_
  rotate_left
  · intro W hSw
    go_simp
    all_goals with_reducible rfl
  try simp only [gA, gB, gC, gD, gE, gF, gG]
  refine wTake 2 (v := ?_) rfl (Or.inl ⟨by rfl, ?_⟩) ?_
  rotate_left
  · intro W hSw
    go_simp
    all_goals with_reducible rfl
  try simp only [gA, gB, gC, gD, gE, gF, gG]
  refine wTake 3 (v := ?_) rfl (Or.inl ⟨by rfl, ?_⟩) ?_
  rotate_left
  · intro W hSw
    go_simp
    all_goals with_reducible rfl
  try simp only [gA, gB, gC, gD, gE, gF, gG]
  refine wTake 4 (v := ?_) rfl (Or.inl ⟨by rfl, ?_⟩) ?_
  rotate_left
  · intro W hSw
    go_simp
    all_goals with_reducible rfl
  try simp only [gA, gB, gC, gD, gE, gF, gG]
  refine wTake 5 (v := ?_) rfl (Or.inl ⟨by rfl, ?_⟩) ?_
  rotate_left
  · intro W hSw
    go_simp
    all_goals with_reducible rfl
  try simp only [gA, gB, gC, gD, gE, gF, gG]
  refine wTake 6 (v := ?_) rfl (Or.inl ⟨by rfl, ?_⟩) ?_
  rotate_left
  · intro W hSw
    have y0 := hSw
    go_simp
    all_goals with_reducible rfl
  try simp only [gA, gB, gC, gD, gE, gF, gG]
  refine wTake 7 (v := ?_) rfl (Or.inl ⟨by rfl, ?_⟩) ?_
  rotate_left
  · intro W hSw
    go_simp
    all_goals with_reducible rfl
  try simp only [gA, gB, gC, gD, gE, gF, gG]
  refine wTake 9 (v := ?_) rfl (Or.inl ⟨by rfl, ?_⟩) ?_
  rotate_left
  · intro W hSw
    go_simp
    all_goals with_reducible rfl
  try simp only [gA, gB, gC, gD, gE, gF, gG]
  refine wpAnyH_ready (rs := [8]) (by kernel_rfl) (by simp) ?_
  refine AllReadyH.cons (o := _) rfl (fun K hK => ?_) AllReadyH.nil
  simp only [List.getElem_toArray, List.getElem_cons_zero, List.getElem_cons_succ]
  rw [if_pos (by rfl)]
  go_simp
  have hcJ := pt_cell V3 hj
  rw [hJJ] at hcJ
  have hS4 : (fun W => W.cell? ⟨w.heap.size, i, none⟩ = some (.string WW)) (V3.alloc (.cells #[.string ⟨#[]⟩, .string ⟨#[32, 98]⟩, .string ⟨#[46, 120]⟩, .string ⟨#[58, 58, 97, 102, 116, 101, 114]⟩] 9)) := cell_newS hHeld _
  have HB4 := Lib.hid (below_seq HB3.out (bel_newS V3 (.cells #[.string ⟨#[]⟩, .string ⟨#[32, 98]⟩, .string ⟨#[46, 120]⟩, .string ⟨#[58, 58, 97, 102, 116, 101, 114]⟩] 9)))
  generalize V3.heap.size = b3 at *
  generalize V3.alloc (.cells #[.string ⟨#[]⟩, .string ⟨#[32, 98]⟩, .string ⟨#[46, 120]⟩, .string ⟨#[58, 58, 97, 102, 116, 101, 114]⟩] 9) = W4 at *
  refine hK.out _ _ hS4 (fun hHeld => ?_)
  clear hK K
  try simp only [gA, gB, gC, gD, gE, gF, gG]
  refine wTake 10 (v := ?_) rfl (Or.inl ⟨by rfl, ?_⟩) ?_
  rotate_left
  · intro W hSw
    go_simp
    all_goals with_reducible rfl
  try simp only [gA, gB, gC, gD, gE, gF, gG]
  refine wpAnyH_ready (rs := [11]) (by kernel_rfl) (by simp) ?_
  refine AllReadyH.cons (o := _) rfl (fun K hK => ?_) AllReadyH.nil
  simp only [List.getElem_toArray, List.getElem_cons_zero, List.getElem_cons_succ]
  rw [if_pos (by rfl)]
  go_simp
  refine hK.out _ _ hHeld (fun hHeld => ?_)
  clear hK K
  try simp only [gA, gB, gC, gD, gE, gF, gG]
  refine wTake 12 (v := ?_) rfl (Or.inl ⟨by rfl, ?_⟩) ?_
  rotate_left
  · intro W hSw
    go_simp
    all_goals with_reducible rfl
  try simp only [gA, gB, gC, gD, gE, gF, gG]
  refine wTake 13 (v := ?_) rfl (Or.inl ⟨by rfl, ?_⟩) ?_
  rotate_left
  · intro W hSw
    go_simp
    all_goals with_reducible rfl
  try simp only [gA, gB, gC, gD, gE, gF, gG]
  refine wpAnyH_done (by kernel_rfl) ?_ _
  have HB5 := Lib.hid HB4.out
  clear hcJ hHeld
  go_wp2_with fail
  refine (nodes6_any T3 _ HZ3.out).mono ?_
  rintro e w1 ⟨⟨v1, rfl, hv1⟩, ha1⟩
  go_wp2_with fail
  refine (parse6 T3 HZ3.out hv1 (HL.out.below (below_seq HB4.out ha1)) HX.out).mono ?_
  rintro e w2 ⟨⟨L, u, rfl, hr1, hL⟩, hb1⟩
  obtain rfl : L = [x] := hL
  obtain ⟨b, off, cap, hu, _, hrow⟩ := cx_row hr1 (Nat.succ_pos _)
  have hu : u = .slice (some ⟨b, off, none⟩) 1 cap := hu
  subst hu
  obtain ⟨a1, n1, c1, a2, n2, c2, pe, x0, x1, x2, R1⟩ := hrow 0 (Nat.succ_pos _)
  simp only [Nat.zero_mul, Nat.add_zero, List.getElem_cons_zero] at x0 x1 x2 R1
  have hpe : pe = (i : Int) + 1 := by
   obtain ⟨Pt, cb, hxe, _⟩ := R1
   have h1 := HPS.out
   rw [hxe] at h1
   exact h1
  subst hpe
  have HR1 := Lib.hid R1
  have HB6 := Lib.hid (below_seq (below_seq HB4.out ha1) hb1)
  have HX6 := Lib.hid (show w2.cell? ⟨b, off, none⟩ = some (.slice a1 n1 c1) ∧ w2.cell? ⟨b, off + 1, none⟩ = some (.slice a2 n2 c2) ∧ w2.cell? ⟨b, off + 2, none⟩ = some (.int .i64 ((i : Int) + 1)) from ⟨x0, x1, x2⟩)
  clear hv1 ha1 hb1 hr1 hrow x0 x1 x2 R1 HB5
  go_upto_region 12 with fail
  refine wp_region_held_drew (S := (fun W => W.cell? ⟨b, off + 2, none⟩ = some (.int .i64 ((i : Int) + 1)))) (by kernel_rfl) HX6.out.2.2 (fun hHeld => ?_)
  have HBD := Lib.hid (Below.refl w2.heap.size w2).drew
  generalize w2.drew = W5 at *
  refine wTake 0 (v := ?_) rfl (Or.inl ⟨by rfl, ?_⟩) ?_
  rotate_left
  · intro W hSw
    go_simp
    all_goals with_reducible rfl
  try simp only [gA, gB, gC, gD, gE, gF, gG]
  refine wTake 1 (v := ?_) rfl (Or.inl ⟨by rfl, ?_⟩) ?_
  rotate_left
  · intro W hSw
    go_simp
    all_goals with_reducible rfl
  try simp only [gA, gB, gC, gD, gE, gF, gG]
  refine wTake 2 (v := ?_) rfl (Or.inl ⟨by rfl, ?_⟩) ?_
  rotate_left
  · intro W hSw
    go_simp
    all_goals with_reducible rfl
  try simp only [gA, gB, gC, gD, gE, gF, gG]
  refine wTake 3 (v := ?_) rfl (Or.inl ⟨by rfl, ?_⟩) ?_
  rotate_left
  · intro W hSw
    go_simp
    all_goals with_reducible rfl
  try simp only [gA, gB, gC, gD, gE, gF, gG]
  refine wTake 4 (v := ?_) rfl (Or.inl ⟨by rfl, ?_⟩) ?_
  rotate_left
  · intro W hSw
    go_simp
    all_goals with_reducible rfl
  try simp only [gA, gB, gC, gD, gE, gF, gG]
  refine wTake 5 (v := ?_) rfl (Or.inl ⟨by rfl, ?_⟩) ?_
  rotate_left
  · intro W hSw
    go_simp
    all_goals with_reducible rfl
  try simp only [gA, gB, gC, gD, gE, gF, gG]
  refine wTake 6 (v := ?_) rfl (Or.inl ⟨by rfl, ?_⟩) ?_
  rotate_left
  · intro W hSw
    go_simp
    all_goals with_reducible rfl
  try simp only [gA, gB, gC, gD, gE, gF, gG]
  refine wTake 7 (v := ?_) rfl (Or.inl ⟨by rfl, ?_⟩) ?_
  rotate_left
  · intro W hSw
    go_simp
    all_goals with_reducible rfl
  try simp only [gA, gB, gC, gD, gE, gF, gG]
  refine wTake 8 (v := ?_) rfl (Or.inl ⟨by rfl, ?_⟩) ?_
  rotate_left
  · intro W hSw
    go_simp
    all_goals with_reducible rfl
  try simp only [gA, gB, gC, gD, gE, gF, gG]
  refine wTake 9 (v := ?_) rfl (Or.inl ⟨by rfl, ?_⟩) ?_
  rotate_left
  · intro W hSw
    go_simp
    all_goals with_reducible rfl
  try simp only [gA, gB, gC, gD, gE, gF, gG]
  refine wTake 10 (v := ?_) rfl (Or.inl ⟨by rfl, ?_⟩) ?_
  rotate_left
  · intro W hSw
    go_simp
    all_goals with_reducible rfl
  try simp only [gA, gB, gC, gD, gE, gF, gG]
  refine wTake 11 (v := ?_) rfl (Or.inl ⟨by rfl, ?_⟩) ?_
  rotate_left
  · intro W hSw
    have y0 := hSw
    go_simp
    all_goals with_reducible rfl
  try simp only [gA, gB, gC, gD, gE, gF, gG]
  refine wTake 13 (v := ?_) rfl (Or.inl ⟨by rfl, ?_⟩) ?_
  rotate_left
  · intro W hSw
    go_simp
    all_goals with_reducible rfl
  try simp only [gA, gB, gC, gD, gE, gF, gG]
  refine wpAnyH_ready (rs := [12]) (by kernel_rfl) (by simp) ?_
  refine AllReadyH.cons (o := _) rfl (fun K hK => ?_) AllReadyH.nil
  simp only [List.getElem_toArray, List.getElem_cons_zero, List.getElem_cons_succ]
  rw [if_pos (by rfl)]
  go_simp
  have hcK := pk_cell W5 HHI.out
  have hS4 : (fun W => W.cell? ⟨b, off + 2, none⟩ = some (.int .i64 ((i : Int) + 1))) (W5.alloc (.cells #[.int .i64 1, .int .i64 2, .int .i64 3, .int .i64 4, .int .i64 5] 3)) := cell_newS hHeld _
  have HB7 := Lib.hid (below_seq HBD.out (bel_newS W5 (.cells #[.int .i64 1, .int .i64 2, .int .i64 3, .int .i64 4, .int .i64 5] 3)))
  generalize W5.heap.size = b5 at *
  generalize W5.alloc (.cells #[.int .i64 1, .int .i64 2, .int .i64 3, .int .i64 4, .int .i64 5] 3) = W6 at *
  refine hK.out _ _ hS4 (fun hHeld => ?_)
  clear hK K
  try simp only [gA, gB, gC, gD, gE, gF, gG]
  refine wTake 14 (v := ?_) rfl (Or.inl ⟨by rfl, ?_⟩) ?_
  rotate_left
  · intro W hSw
    go_simp
    all_goals with_reducible rfl
  try simp only [gA, gB, gC, gD, gE, gF, gG]
  refine wpAnyH_ready (rs := [15]) (by kernel_rfl) (by simp) ?_
  refine AllReadyH.cons (o := _) rfl (fun K hK => ?_) AllReadyH.nil
  simp only [List.getElem_toArray, List.getElem_cons_zero, List.getElem_cons_succ]
  rw [if_pos (by rfl)]
  go_simp
  refine hK.out _ _ hHeld (fun hHeld => ?_)
  clear hK K
  try simp only [gA, gB, gC, gD, gE, gF, gG]
  refine wTake 16 (v := ?_) rfl (Or.inl ⟨by rfl, ?_⟩) ?_
  rotate_left
  · intro W hSw
    go_simp
    all_goals with_reducible rfl
  try simp only [gA, gB, gC, gD, gE, gF, gG]
  refine wTake 17 (v := ?_) rfl (Or.inl ⟨by rfl, ?_⟩) ?_
  rotate_left
  · intro W hSw
    go_simp
    all_goals with_reducible rfl
  try simp only [gA, gB, gC, gD, gE, gF, gG]
  refine wpAnyH_done (by kernel_rfl) ?_ _
  clear hcK hHeld
  have HB8 := Lib.hid (below_seq HB6.out HB7.out)
  go_wp2_with fail
  refine (nodes6_any HH _ HZ4.out).mono ?_
  rintro e w3 ⟨⟨v3, rfl, hv3⟩, ha3⟩
  go_wp2_with fail
  refine (parse6 HH HZ4.out hv3 (HL.out.below (below_seq HB8.out ha3)) HY.out).mono ?_
  rintro e w4 ⟨⟨L4, u4, rfl, hr4, hL4⟩, hb4⟩
  obtain rfl : L4 = [y] := hL4
  obtain ⟨b', off', cap', hu4, _, hrow4⟩ := cx_row hr4 (Nat.succ_pos _)
  have hu4 : u4 = .slice (some ⟨b', off', none⟩) 1 cap' := hu4
  subst hu4
  obtain ⟨a3, n3, c3, a4, n4, c4, p4, y0, y1, y2, R4⟩ := hrow4 0 (Nat.succ_pos _)
  simp only [Nat.zero_mul, Nat.add_zero, List.getElem_cons_zero] at y0 y1 y2 R4
  have HR4 := Lib.hid R4
  have HB9 := Lib.hid (below_seq (below_seq HB8.out ha3) hb4)
  have HB69 := Lib.hid (below_seq (below_seq HB7.out ha3) hb4)
  have HX9 := Lib.hid (⟨kept HX6.out.1 HB69.out, kept HX6.out.2.1 HB69.out, kept HX6.out.2.2 HB69.out⟩ : w4.cell? ⟨b, off, none⟩ = some (.slice a1 n1 c1) ∧ w4.cell? ⟨b, off + 1, none⟩ = some (.slice a2 n2 c2) ∧ w4.cell? ⟨b, off + 2, none⟩ = some (.int .i64 ((i : Int) + 1)))
  have HR9 := Lib.hid (HR1.out.below HB69.out)
  clear hv3 ha3 hb4 hr4 hrow4 R4
  have hHE := HHE.out
  go_upto_region 18 with fail
  have HZB := Lib.hid (CB.new (T := 38) w4 #[.int .i64 0, .int .i64 0, .int .i64 0])
  have HBZ := Lib.hid (bel_newS w4 (.cells #[.int .i64 0, .int .i64 0, .int .i64 0] 38))
  replace y0 := cell_newS y0 (.cells #[.int .i64 0, .int .i64 0, .int .i64 0] 38)
  replace y1 := cell_newS y1 (.cells #[.int .i64 0, .int .i64 0, .int .i64 0] 38)
  replace y2 := cell_newS y2 (.cells #[.int .i64 0, .int .i64 0, .int .i64 0] 38)
  have HL7 := Lib.hid (show w4.heap.size < (w4.alloc (.cells #[.int .i64 0, .int .i64 0, .int .i64 0] 38)).heap.size by simp)
  have HRY := Lib.hid (HR4.out.below HBZ.out)
  generalize hgb : w4.heap.size = gb at *
  generalize w4.alloc (.cells #[.int .i64 0, .int .i64 0, .int .i64 0] 38) = W7 at *
  have HGB := Lib.hid hgb
  clear hgb hHE
  go_upto_region 20 with (go_at_call 15; refine (weigh_cx HRY.out HOY.out HNY.out HZY.out HWY.out).mono ?_; rintro e w5 ⟨rfl, hb5⟩; have HZ5 := Lib.hid (HZB.out.below hb5 HL7.out); have z0 : w5.cell? ⟨gb, 0, none⟩ = some (.int .i64 0) := HZ5.out.cell 0; have z1 : w5.cell? ⟨gb, 1, none⟩ = some (.int .i64 0) := HZ5.out.cell 1; have z2 : w5.cell? ⟨gb, 2, none⟩ = some (.int .i64 0) := HZ5.out.cell 2; have f0 : w5.frozen? ⟨gb, 0, none⟩ = false := HZ5.out.frozen _; have f1 : w5.frozen? ⟨gb, 1, none⟩ = false := HZ5.out.frozen _; have f2 : w5.frozen? ⟨gb, 2, none⟩ = false := HZ5.out.frozen _; have HB5 := Lib.hid hb5; clear hb5)
  have HC8 : Hid (CB 38 (((w5.setCell ⟨gb, 0, none⟩ (.int .i64 (A : Int))).setCell ⟨gb, 1, none⟩ (.int .i64 (B : Int))).setCell ⟨gb, 2, none⟩ (.int .i64 (C : Int))) gb #[.int .i64 (A : Int), .int .i64 (B : Int), .int .i64 (C : Int)]) := ((HZ5.out.set 0 (.int .i64 (A : Int))).set 1 (.int .i64 (B : Int))).set 2 (.int .i64 (C : Int))
  have hle : w2.heap.size ≤ gb := by have h := HB69.out.size; rw [HGB.out] at h; exact h
  have HB28 := Lib.hid ((((below_seq HB69.out (by rw [HGB.out]; exact HBZ.out.trans (HB5.out.mono (Nat.le_of_lt HL7.out)))).setCell (p := ⟨gb, 0, none⟩) hle (.int .i64 (A : Int))).setCell (p := ⟨gb, 1, none⟩) hle (.int .i64 (B : Int))).setCell (p := ⟨gb, 2, none⟩) hle (.int .i64 (C : Int)))
  clear z0 z1 z2 f0 f1 f2 y0 y1 y2
  generalize ((w5.setCell ⟨gb, 0, none⟩ (.int .i64 (A : Int))).setCell ⟨gb, 1, none⟩ (.int .i64 (B : Int))).setCell ⟨gb, 2, none⟩ (.int .i64 (C : Int)) = W8 at *
  have z2 : W8.cell? ⟨gb, 2, none⟩ = some (.int .i64 (C : Int)) := HC8.out.cell 2
  have f2 : W8.frozen? ⟨gb, 2, none⟩ = false := HC8.out.frozen _
  have hwi := wrap_succ1 (i := C) (by have := HAB.out; omega)
  go_upto_region 21 with fail
  have HC9 := Lib.hid (HC8.out.set 2 (.int .i64 ((C : Int) + 1)))
  have HB29 := Lib.hid (HB28.out.setCell (p := ⟨gb, 2, none⟩) hle (.int .i64 ((C : Int) + 1)))
  rw [hwi]
  clear z2 f2 hwi
  generalize W8.setCell ⟨gb, 2, none⟩ (.int .i64 ((C : Int) + 1)) = W9 at *
  have HX9' := Lib.hid (⟨kept HX6.out.1 HB29.out, kept HX6.out.2.1 HB29.out, kept HX6.out.2.2 HB29.out⟩ : W9.cell? ⟨b, off, none⟩ = some (.slice a1 n1 c1) ∧ W9.cell? ⟨b, off + 1, none⟩ = some (.slice a2 n2 c2) ∧ W9.cell? ⟨b, off + 2, none⟩ = some (.int .i64 ((i : Int) + 1)))
  have ea : ∀ W, (Op.equalIn 10000 38 (.agg (W3.mk A B ((C : Int) + 1)).cs) (.agg #[.int .i64 (A : Int), .int .i64 (B : Int), .int .i64 ((C : Int) + 1)])).run Tryz.prog W = .ok true W := fun W => w3_eq (wf_nat (by have := HAB.out; omega)) (wf_nat (by have := HAB.out; omega)) (wf_nat (n := C + 1) (by have := HAB.out; omega)) W
  refine wp_region_held_drew (S := (fun W => W.rangeAt b off [.slice a1 n1 c1, .slice a2 n2 c2, .int .i64 ((i : Int) + 1)] ∧ W.rangeAt gb 0 [.int .i64 (A : Int), .int .i64 (B : Int), .int .i64 ((C : Int) + 1)])) (by kernel_rfl) ⟨range3 HX9'.out.1 HX9'.out.2.1 HX9'.out.2.2, range3 (HC9.out.cell 0) (HC9.out.cell 1) (HC9.out.cell 2)⟩ (fun hHeld => ?_)
  have HB2d := Lib.hid HB29.out.drew
  have HRd := Lib.hid (HR1.out.below HB2d.out)
  generalize W9.drew = WA at *
  refine wTake 0 (v := ?_) rfl (Or.inl ⟨by rfl, ?_⟩) ?_
  rotate_left
  · intro W hSw
    go_simp
    all_goals with_reducible rfl
  try simp only [gA, gB, gC, gD, gE, gF, gG]
  refine wTake 1 (v := ?_) rfl (Or.inl ⟨by rfl, ?_⟩) ?_
  rotate_left
  · intro W hSw
    go_simp
    all_goals with_reducible rfl
  try simp only [gA, gB, gC, gD, gE, gF, gG]
  refine wTake 2 (v := _) rfl (yieldsIf_load_mid (by rfl) 33 (.tmp 120) rfl b off rfl [.slice a1 n1 c1, .slice a2 n2 c2, .int .i64 ((i : Int) + 1)] _ (fun _ h => h.1) Tryz.underlying33 (by rfl) (by kernel_rfl)) ?_
  try simp only [gA, gB, gC, gD, gE, gF, gG]
  refine wTake 4 (v := _) rfl (yieldsIf_load_mid (by rfl) 38 (.tmp 19) rfl gb 0 rfl [.int .i64 (A : Int), .int .i64 (B : Int), .int .i64 ((C : Int) + 1)] _ (fun _ h => h.2) Tryz.underlying38 (by rfl) w3_size) ?_
  try simp only [gA, gB, gC, gD, gE, gF, gG]
  refine wpAnyH_ready (rs := [3]) (by kernel_rfl) (by simp) ?_
  refine AllReadyH.cons (o := _) rfl (fun K hK => ?_) AllReadyH.nil
  simp only [List.getElem_toArray, List.getElem_cons_zero, List.getElem_cons_succ]
  rw [if_pos (by rfl)]
  go_simp
  refine (weigh_cx HRd.out HOK.out HN.out HZ.out HW.out).mono ?_
  rintro e wB ⟨rfl, hbB⟩
  have HBB := Lib.hid (below_seq (below_seq HB6.out HB2d.out) hbB)
  have hSB : (fun W => W.rangeAt b off [.slice a1 n1 c1, .slice a2 n2 c2, .int .i64 ((i : Int) + 1)] ∧ W.rangeAt gb 0 [.int .i64 (A : Int), .int .i64 (B : Int), .int .i64 ((C : Int) + 1)]) wB := ⟨range_below hHeld.1 hbB, range_below hHeld.2 hbB⟩
  clear hbB hHeld
  go_simp
  refine hK.out _ _ hSB (fun hHeld => ?_)
  clear hK K
  try simp only [gA, gB, gC, gD, gE, gF, gG]
  refine wTake 5 (v := ?_) rfl (Or.inl ⟨by rfl, ?_⟩) ?_
  rotate_left
  · intro W hSw
    go_simp
    all_goals with_reducible rfl
  try simp only [gA, gB, gC, gD, gE, gF, gG]
  refine wTake 6 (v := ?_) rfl (Or.inl ⟨by rfl, ?_⟩) ?_
  rotate_left
  · intro W hSw
    go_simp
    all_goals with_reducible rfl
  try simp only [gA, gB, gC, gD, gE, gF, gG]
  refine wpAnyH_ready (rs := [7]) (by kernel_rfl) (by simp) ?_
  refine AllReadyH.cons (o := _) rfl (fun K hK => ?_) AllReadyH.nil
  simp only [List.getElem_toArray, List.getElem_cons_zero, List.getElem_cons_succ]
  rw [if_pos (by rfl)]
  go_simp
  refine (awake6_any _ (HL.out.below HBB.out) (HT.out.below HBB.out)).mono ?_
  rintro e wC ⟨rfl, hbC⟩
  have HBC := Lib.hid (below_seq HBB.out hbC)
  have hSC : (fun W => W.rangeAt b off [.slice a1 n1 c1, .slice a2 n2 c2, .int .i64 ((i : Int) + 1)] ∧ W.rangeAt gb 0 [.int .i64 (A : Int), .int .i64 (B : Int), .int .i64 ((C : Int) + 1)]) wC := ⟨range_below hHeld.1 hbC, range_below hHeld.2 hbC⟩
  clear hbC hHeld hSB
  go_simp
  refine hK.out _ _ hSC (fun hHeld => ?_)
  clear hK K
  try simp only [gA, gB, gC, gD, gE, gF, gG]
  refine wTake 8 (v := ?_) rfl (Or.inl ⟨by rfl, ?_⟩) ?_
  rotate_left
  · intro W hSw
    go_simp
    all_goals with_reducible rfl
  try simp only [gA, gB, gC, gD, gE, gF, gG]
  refine wTake 9 (v := ?_) rfl (Or.inl ⟨by rfl, ?_⟩) ?_
  rotate_left
  · intro W hSw
    go_simp
    all_goals with_reducible rfl
  try simp only [gA, gB, gC, gD, gE, gF, gG]
  refine wpAnyH_done (by kernel_rfl) ?_ _
  go_wp2
  go_ret
  exact ⟨rfl, HBC.out⟩
theorem SelectorPseudos_any (w : World) (ht : Tab6 w) (k : Int) (_wk : (Lit.int .i64 k).wf = true) (head : Int) (_wh : (Lit.int .i64 head).wf = true) (sg : Bool) (tail : Int) (_wt : (Lit.int .i64 tail).wf = true) : Calls Tryz.prog 7 #[.int .i64 k, .int .i64 head, .bool sg, .int .i64 tail] w fun e w' => e = .returned (.bool true) ∧ Below w.heap.size w w' := by
 obtain ⟨i, hi⟩ : ∃ m : Nat, k % 5 = (m : Int) := ⟨(k % 5).toNat, by omega⟩
 obtain ⟨h, hh⟩ : ∃ m : Nat, head % 4 = (m : Int) := ⟨(head % 4).toNat, by omega⟩
 obtain ⟨j, hj⟩ : ∃ m : Nat, tail % 4 = (m : Int) := ⟨(tail % 4).toNat, by omega⟩
 have i5 : i < 5 := by omega
 have h4 : h < 4 := by omega
 have j4 : j < 4 := by omega
 cases sg with
 | false =>
  by_cases hjp : 0 < j
  · exact pse_b3 w i h j k head tail ht.1 ht.2 i5 h4 j4 hi hh hj hjp
  · by_cases hz : h = 0
    · exact pse_z0 w i h j k head tail ht.1 ht.2 i5 h4 j4 hi hh hj (by omega) hz
    · exact pse_n0 w i h j k head tail ht.1 ht.2 i5 h4 j4 hi hh hj (by omega) hz
 | true =>
  by_cases h2 : i = 2
  · exact pse_b1 w i h j k head tail ht.1 ht.2 i5 h4 j4 hi hh hj h2
  · by_cases hjp : 0 < j
    · exact pse_b2 w i h j k head tail ht.1 ht.2 i5 h4 j4 hi hh hj h2 hjp
    · by_cases hz : h = 0
      · exact pse_z1 w i h j k head tail ht.1 ht.2 i5 h4 j4 hi hh hj h2 (by omega) hz
      · exact pse_n1 w i h j k head tail ht.1 ht.2 i5 h4 j4 hi hh hj h2 (by omega) hz
end Go.Proofs.YtgpiedifodkegaaGreatDoor
namespace Go.Proofs.YtgpiedifodkegaaGreatDoor.selectorPseudos
open Go.ChangeShapes Go.WideShapes Go.ChangeAt Go.RowKit
abbrev laidL : List (String × DataW Unit) := [("math/bits.deBruijn32tab", Rows.laid_math_bits_deBruijn32tab), ("math/bits.deBruijn64tab", Rows.laid_math_bits_deBruijn64tab), ("internal/strconv.uint64pow10", Rows.laid_internal_strconv_uint64pow10), ("fleuron/selector.words", Rows.laid_fleuron_selector_words), ("fleuron/selector.elements", Rows.laid_fleuron_selector_elements)]
theorem tab_of {W : World} (h : laidMetH Tryz.prog laidL W) : Tab6 W := by
 rw [MakeChecks.laidMetH_plain _ _ _ (by kernel_rfl)] at h
 exact tab6_of h (.tail _ (.tail _ (.tail _ (.head _)))) (.tail _ (.tail _ (.tail _ (.tail _ (.head _))))) (.tail _ (.tail _ (.head _)))
theorem lifted (os : Os) (started : os.Started) (H : Type) (enc : TypeId × Value → H) :
    ReturnsInHanded {} Tryz.checked os 7 .any (fun w args => (Rows.selectorPseudosSpec.pre enc Tryz.prog Tryz.f7 [] false w args ∧ laidMetH Tryz.prog laidL w) ∧ sizedMet enc Tryz.prog Tryz.f7 (OpenSpec.ofChange Rows.selectorPseudosSpec) false w args) (Rows.selectorPseudosSpec.post enc Tryz.prog Tryz.f7 false true false false) := by
  refine returnsInHanded_of_change_and (C := Tryz.checked) (X := fun w _ => laidMetH Tryz.prog laidL w) (fun _ _ _ hh h => h.of_heap hh) own started (by kernel_rfl) Tryz.func7
    (ChangeSpec.witness_shaped (enc := enc) (C := Tryz.checked) (os := os) (X := fun w _ => laidMetH Tryz.prog laidL w) false (World.laidAll Tryz.prog os laidL) #[.int .i64 0, .int .i64 0, .bool false, .int .i64 0] 8 (World.laidAll_os _ _ _)
      (World.shaped_of_ZipB (by kernel_rfl) (by kernel_rfl)) (by kernel_rfl) (by kernel_rfl) (by kernel_rfl)
      (by rw [MakeChecks.laidMetH_plain _ _ _ (by kernel_rfl)]; exact laidMet_laidAll _ (by kernel_rfl) (by kernel_rfl))) ?_
  intro W base args ds gs before hval0 hW _ _ hL _
  have hval : ∀ (j : Nat) t v, Tryz.f7.params[j]? = some t → args[j]? = some v → Value.okWide Tryz.prog W .any base t v := hval0
  have hW' := hW
  obtain ⟨p, q, hA0, hV, rfl, hfz, hnd⟩ := hW
  have hlt : ∀ x ∈ p, x.block < W.heap.size := fun x hx => hW'.lt x (List.mem_append_left _ hx)
  have hA : DataW.TrodAll enc Tryz.prog W 0 (fun _ => true) true Tryz.f7.params.toList args.toList ds p := hA0
  rw [Tryz.params7] at hA hval
  obtain ⟨v0, vs0, d0, ds0, p0, q0, hargs, rfl, rfl, h0, r0⟩ := trodAll_cons hA
  obtain ⟨v1, vs1, d1, ds1, p1, q1, rfl, rfl, rfl, h1, r1⟩ := trodAll_cons r0
  obtain ⟨v2, vs2, d2, ds2, p2, q2, rfl, rfl, rfl, h2, r2⟩ := trodAll_cons r1
  obtain ⟨v3, vs3, d3, ds3, p3, q3, rfl, rfl, rfl, h3, r3⟩ := trodAll_cons r2
  obtain ⟨rfl, rfl, rfl⟩ := trodAll_nil r3
  obtain rfl : args = #[v0, v1, v2, v3] := by cases args; simp_all
  have hV' := hV
  obtain ⟨rfl, rfl⟩ := trodVars_none hV
  obtain ⟨a0, rfl, rfl, rfl, w0⟩ := open_int Tryz.underlying3 (hval 0 3 v0 rfl rfl) h0
  obtain ⟨a1, rfl, rfl, rfl, w1⟩ := open_int Tryz.underlying3 (hval 1 3 v1 rfl rfl) h1
  obtain ⟨a2, rfl, rfl, rfl⟩ := open_bool Tryz.underlying4 (hval 2 4 v2 rfl rfl) h2
  obtain ⟨a3, rfl, rfl, rfl, w3⟩ := open_int Tryz.underlying3 (hval 3 3 v3 rfl rfl) h3
  refine (SelectorPseudos_any W (tab_of hL) a0 w0 a1 w1 a2 a3 w3).mono fun e W' ⟨he, hg⟩ => ?_
  subst he
  exact ⟨_, rfl, law_post laidOut (by kernel_rfl) rfl rfl Tryz.underlying4 rfl rfl rfl hW' hg⟩
theorem over : Rows.selectorPseudosRow.holds Tryz.pinned (OpenSpec.ofChange Rows.selectorPseudosSpec) :=
 OpenClaim.holds_of_wide 7 Tryz.f7 rfl rfl rfl rfl rfl rfl rfl ⟨rfl, rfl, rfl, rfl, rfl⟩ rfl rfl rfl rfl rfl (by kernel_rfl) Tryz.func7 (by kernel_rfl)
   (of_decide_eq_true (by kernel_rfl)) (by unfold Func.isWrapper; first | (rw [if_pos (by decide +kernel)]; kernel_rfl) | (rw [if_neg (by decide +kernel)]; exact ⟨rfl, rfl⟩))
   (fun os started H enc _ => lifted os started H enc)
theorem proved : Rows.SelectorPseudosCardSaid :=
 Claim7.holds_tied_plain_at .later [] [.data, .data, .data, .data, .data] true (true, "d0036d5512a72c49b745c0c6c8ca9f9d6f6837c966c9eb1ac8f280244e3c1477") false
   over (fun _ h => by cases h) (by kernel_rfl) (fun _ h => by cases h) selectorPseudos_row_tie rfl ⟨rfl, rfl⟩ (by kernel_rfl) rfl
   (fun f fn hf hfn => by
    obtain rfl : f = 7 := Option.some.inj ((show Tryz.prog.funcNamed "fleuron/fleuronlaw6.SelectorPseudos" = some 7 by kernel_rfl).symm.trans hf) |>.symm
    obtain rfl : fn = Tryz.f7 := (Option.some.inj (Tryz.func7.symm.trans hfn)).symm
    exact ⟨by kernel_rfl, fun j t ht => by
     rw [Tryz.params7] at ht
     have hm : t ∈ [ 3, 3, 4, 3 ] := by simpa using Array.mem_of_getElem? ht
     have hall : ([ 3, 3, 4, 3 ].all fun u => !Tryz.prog.wantsStandIn u) = true := by kernel_rfl
     exact (show Tryz.prog.wantsStandIn t = false by simpa using List.all_eq_true.1 hall t hm)⟩)
   (by kernel_rfl)
end Go.Proofs.YtgpiedifodkegaaGreatDoor.selectorPseudos
