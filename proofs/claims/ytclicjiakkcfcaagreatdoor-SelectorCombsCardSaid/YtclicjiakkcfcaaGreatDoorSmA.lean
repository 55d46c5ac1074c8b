import Derived.Test.YtclicjiakkcfcaaGreatDoorSlZ
import Derived.Laws.Concat
import Derived.Deep.RegionWith
set_option maxRecDepth 100000
set_option maxHeartbeats 3200000
namespace Go.Proofs.YtclicjiakkcfcaaGreatDoor
open Go.RowKit
theorem fn_ok4 {ps : List Nd → Int × Int × Bool} (hP : PsOk ps) : FnOk (fnS ps 1) 4 := by
 have h5 : FnOk (fnS ps 0) 5 := sfun_deep 5 (by omega)
 exact sfun_any (by omega) (by omega) (slist_any (by omega) (by omega) h5) (snth_any (by omega) (by omega) hP (slist_any (by omega) (by omega) h5))
theorem fn_ok3 {ps : List Nd → Int × Int × Bool} (hP : PsOk ps) : FnOk (fnS ps 2) 3 :=
 sfun_any (by omega) (by omega) (slist_any (by omega) (by omega) (fn_ok4 hP)) (snth_any (by omega) (by omega) hP (slist_any (by omega) (by omega) (fn_ok4 hP)))
theorem fn_ok2 {ps : List Nd → Int × Int × Bool} (hP : PsOk ps) : FnOk (fnS ps 3) 2 :=
 sfun_any (by omega) (by omega) (slist_any (by omega) (by omega) (fn_ok3 hP)) (snth_any (by omega) (by omega) hP (slist_any (by omega) (by omega) (fn_ok3 hP)))
theorem fn_ok1 {ps : List Nd → Int × Int × Bool} (hP : PsOk ps) : FnOk (fnS ps 4) 1 :=
 sfun_any (by omega) (by omega) (slist_any (by omega) (by omega) (fn_ok2 hP)) (snth_any (by omega) (by omega) hP (slist_any (by omega) (by omega) (fn_ok2 hP)))
def ParsePost (w : World) (r : Option (List CxD)) (e : Ending) (w' : World) : Prop :=
 (∃ L u, e = .returned (.tuple #[u, .int .i64 (if r.isSome = true then 0 else 2)]) ∧ rdG w' (fun g => w.heap.size ≤ g) (.sl 3 (cxsDt L)) u ∧ L = r.getD []) ∧ Below w.heap.size w w'
theorem sparse_any {ps : List Nd → Int × Int × Bool} (hP : PsOk ps) {P : Nat → Prop} {w : World} {v : Value} {l : List Nd} (h : RdN w P v l) (hl : szL l ≤ 100000000) (hx : txD l) (ht : TabL w) :
    Calls Tryz.prog 7 #[v] w (ParsePost w (selS ps l)) := by
  have HL := Lib.hid (slist_any (fn := fnS ps 4) (d := 0) (by omega) (by omega) (fn_ok1 hP) P w v l false h hl hx ht)
  unfold ListPost at HL
  obtain ⟨R, hR⟩ : ∃ R, selS ps l = R := ⟨_, rfl⟩
  have hR2 : listW (fnS ps 4) ((0 : Int) == 0) false l = R := hR
  rw [hR2] at HL
  rw [hR]
  obtain ⟨va, vc, rfl, _⟩ := h.shape
  unfold ParsePost
  clear h hl hx ht hR hR2
  generalize l.length = N at *
  cases R with
  | none =>
   go_enter Tryz.func7, Tryz.ntmps7
   go_wp2_with (go_at_call 14; (refine HL.out.mono ?_); rintro e w1 ⟨⟨L, u, rfl, hr, hq⟩, hb⟩; obtain ⟨ua, uc, rfl, _⟩ := hr.shape)
   exact bodyPost_ret (v := .tuple #[.slice none 0 0, .int .i64 2]) (by simp [results, Tryz.results7, go_sem]) rfl ⟨⟨[], _, rfl, by rw [cxsDt]; exact rdG.nil _ _ _ _ _, rfl⟩, hb⟩
  | some s =>
   go_enter Tryz.func7, Tryz.ntmps7
   go_wp2_with (go_at_call 14; (refine HL.out.mono ?_); rintro e w1 ⟨⟨L, u, rfl, hr, hq⟩, hb⟩; obtain ⟨ua, uc, rfl, _⟩ := hr.shape; obtain rfl := hq s rfl)
   exact bodyPost_ret (v := .tuple #[.slice ua (cxsDt s).length uc, .int .i64 0]) (by simp [results, Tryz.results7, go_sem]) rfl ⟨⟨s, _, rfl, hr, rfl⟩, hb⟩
def isElS (n : Int) : Bool := decide (1 ≤ n) && decide (n ≤ 5)
def betS (c : ByteArray) : ByteArray := if (c.toList == [32]) = true then c else ⟨#[32]⟩ ++ c ++ ⟨#[32]⟩
def brOp (t o x : ByteArray) : ByteArray := if (o.toList == []) = true then t else t ++ (o ++ ⟨#[34]⟩ ++ x ++ ⟨#[34]⟩)
def brFo (t : ByteArray) (f : Bool) : ByteArray := if f = true then t ++ ⟨#[32, 105]⟩ else t
def brS (n o x : ByteArray) (f : Bool) : ByteArray := brFo (brOp (⟨#[91]⟩ ++ n) o x) f ++ ⟨#[93]⟩
theorem sz_app (a b : ByteArray) : (a ++ b).size = a.size + b.size := ByteArray.size_append
theorem cat_ok (a b : ByteArray) (h : a.size + b.size ≤ 1000000000000) : ∀ W : World, (Op.stringOp .add a b).run Tryz.prog W = .ok (.string (a ++ b)) W := fun W => run_string_add_sum W _ _ (by omega)
theorem isEl_any (n : Int) (w : World) : Calls Tryz.prog 34 #[.int .i64 n] w fun e w' => e = .returned (.bool (isElS n)) ∧ w' = w := by
 unfold isElS
 cases h1 : decide ((1 : Int) ≤ n)
 · rw [Bool.false_and]
   go_enter Tryz.func34, Tryz.ntmps34
   go_wp2
   go_ret
   exact ⟨rfl, rfl⟩
 · rw [Bool.true_and]
   cases h2 : decide (n ≤ (5 : Int))
   · go_enter Tryz.func34, Tryz.ntmps34
     go_wp2
     go_ret
     exact ⟨rfl, rfl⟩
   · go_enter Tryz.func34, Tryz.ntmps34
     go_wp2
     go_ret
     exact ⟨rfl, rfl⟩
theorem bet_any (c : ByteArray) (hc : c.size ≤ 1000000000) (w : World) : Calls Tryz.prog 32 #[.string c] w fun e w' => e = .returned (.string (betS c)) ∧ w' = w := by
 unfold betS
 cases h : (c.toList == [32])
 · rw [if_neg (by decide)]
   have a1 := cat_ok ⟨#[32]⟩ c (by show 1 + c.size ≤ _; omega)
   have a2 := cat_ok (⟨#[32]⟩ ++ c) ⟨#[32]⟩ (by rw [sz_app]; show 1 + c.size + 1 ≤ _; omega)
   go_enter Tryz.func32, Tryz.ntmps32
   go_wp2
   go_ret
   exact ⟨rfl, rfl⟩
 · rw [if_pos rfl]
   go_enter Tryz.func32, Tryz.ntmps32
   go_wp2
   go_ret
   exact ⟨rfl, rfl⟩
theorem br_sz (o x : ByteArray) : (o ++ ⟨#[34]⟩ ++ x ++ ⟨#[34]⟩ : ByteArray).size = o.size + 1 + x.size + 1 := by rw [sz_app, sz_app, sz_app]; rfl
theorem br_any (k : Int) (n o x : ByteArray) (f : Bool) (a b : Int) (p : Option Addr) (m c : Nat) (hn : n.size ≤ 1000000000) (ho : o.size ≤ 1000000000) (hx : x.size ≤ 1000000000) (w : World) :
    Calls Tryz.prog 56 #[sval k n o x f a b (.slice p m c)] w fun e w' => e = .returned (.string (brS n o x f)) ∧ Below w.heap.size w w' := by
  have hb := (Below.refl w.heap.size w).alloc (Nat.le_refl _) (.cells (simC k n o x f a b (.slice p m c)) 72)
  have hz := CB.new (T := 72) w (simC k n o x f a b (.slice p m c))
  obtain ⟨T0, hT0⟩ : ∃ t, (⟨#[91]⟩ ++ n : ByteArray) = t := ⟨_, rfl⟩
  have hs0 : T0.size ≤ 1000000001 := by rw [← hT0, sz_app]; show 1 + n.size ≤ _; omega
  have a0 := cat_ok ⟨#[91]⟩ n (by show 1 + n.size ≤ _; omega)
  rw [hT0] at a0
  have HB := Lib.hid hb
  have HZ := Lib.hid hz
  cases h1 : (o.toList == [])
  · obtain ⟨O, hO⟩ : ∃ t, (o ++ ⟨#[34]⟩ ++ x ++ ⟨#[34]⟩ : ByteArray) = t := ⟨_, rfl⟩
    have hsO : O.size ≤ 2000000002 := by rw [← hO, br_sz]; omega
    have a1 := cat_ok o ⟨#[34]⟩ (by show o.size + 1 ≤ _; omega)
    have a2 := cat_ok (o ++ ⟨#[34]⟩) x (by rw [sz_app]; show o.size + 1 + x.size ≤ _; omega)
    have a3 := cat_ok (o ++ ⟨#[34]⟩ ++ x) ⟨#[34]⟩ (by rw [sz_app, sz_app]; show o.size + 1 + x.size + 1 ≤ _; omega)
    have a4 := cat_ok T0 O (by omega)
    rw [hO] at a3
    have hoe : ¬ o.toList = [] := by simpa using h1
    obtain ⟨T1, hT1⟩ : ∃ t, (T0 ++ O : ByteArray) = t := ⟨_, rfl⟩
    have hs1 : T1.size ≤ 3000000003 := by rw [← hT1, sz_app]; omega
    rw [hT1] at a4
    cases f
    · have a6 := cat_ok T1 ⟨#[93]⟩ (by show T1.size + 1 ≤ _; omega)
      have HE : Hid (brS n o x false = T1 ++ ⟨#[93]⟩) := by show _ = _; unfold brS brOp brFo; rw [h1, hT0, hO, ← hT1]; rfl
      rw [HE.out]
      clear hs0 hs1 hsO hT0 hT1 hO hb hz hn ho hx
      go_enter Tryz.func56, Tryz.ntmps56
      go_upto_region 1 with fail
      generalize w.alloc (.cells _ 72) = W0 at *
      have z1 : W0.cell? ⟨w.heap.size, 1, none⟩ = some (.string n) := HZ.out.cell 1
      have z2 : W0.cell? ⟨w.heap.size, 2, none⟩ = some (.string o) := HZ.out.cell 2
      have z3 : W0.cell? ⟨w.heap.size, 3, none⟩ = some (.string x) := HZ.out.cell 3
      have z4 : W0.cell? ⟨w.heap.size, 4, none⟩ = some (.bool false) := HZ.out.cell 4
      go_wp2
      go_ret
      exact ⟨rfl, HB.out⟩
    · have a5 := cat_ok T1 ⟨#[32, 105]⟩ (by show T1.size + 2 ≤ _; omega)
      have a6 := cat_ok (T1 ++ ⟨#[32, 105]⟩) ⟨#[93]⟩ (by rw [sz_app]; show T1.size + 2 + 1 ≤ _; omega)
      have HE : Hid (brS n o x true = T1 ++ ⟨#[32, 105]⟩ ++ ⟨#[93]⟩) := by show _ = _; unfold brS brOp brFo; rw [h1, hT0, hO, ← hT1]; rfl
      rw [HE.out]
      clear hs0 hs1 hsO hT0 hT1 hO hb hz hn ho hx
      go_enter Tryz.func56, Tryz.ntmps56
      go_upto_region 1 with fail
      generalize w.alloc (.cells _ 72) = W0 at *
      have z1 : W0.cell? ⟨w.heap.size, 1, none⟩ = some (.string n) := HZ.out.cell 1
      have z2 : W0.cell? ⟨w.heap.size, 2, none⟩ = some (.string o) := HZ.out.cell 2
      have z3 : W0.cell? ⟨w.heap.size, 3, none⟩ = some (.string x) := HZ.out.cell 3
      have z4 : W0.cell? ⟨w.heap.size, 4, none⟩ = some (.bool true) := HZ.out.cell 4
      go_wp2
      go_ret
      exact ⟨rfl, HB.out⟩
  · have hoe : o.toList = [] := by simpa using h1
    cases f
    · have a6 := cat_ok T0 ⟨#[93]⟩ (by show T0.size + 1 ≤ _; omega)
      have HE : Hid (brS n o x false = T0 ++ ⟨#[93]⟩) := by show _ = _; unfold brS brOp brFo; rw [h1, hT0]; rfl
      rw [HE.out]
      clear hs0 hT0 hb hz hn ho hx
      go_enter Tryz.func56, Tryz.ntmps56
      go_upto_region 1 with fail
      generalize w.alloc (.cells _ 72) = W0 at *
      have z1 : W0.cell? ⟨w.heap.size, 1, none⟩ = some (.string n) := HZ.out.cell 1
      have z2 : W0.cell? ⟨w.heap.size, 2, none⟩ = some (.string o) := HZ.out.cell 2
      have z4 : W0.cell? ⟨w.heap.size, 4, none⟩ = some (.bool false) := HZ.out.cell 4
      go_wp2
      go_ret
      exact ⟨rfl, HB.out⟩
    · have a5 := cat_ok T0 ⟨#[32, 105]⟩ (by show T0.size + 2 ≤ _; omega)
      have a6 := cat_ok (T0 ++ ⟨#[32, 105]⟩) ⟨#[93]⟩ (by rw [sz_app]; show T0.size + 2 + 1 ≤ _; omega)
      have HE : Hid (brS n o x true = T0 ++ ⟨#[32, 105]⟩ ++ ⟨#[93]⟩) := by show _ = _; unfold brS brOp brFo; rw [h1, hT0]; rfl
      rw [HE.out]
      clear hs0 hT0 hb hz hn ho hx
      go_enter Tryz.func56, Tryz.ntmps56
      go_upto_region 1 with fail
      generalize w.alloc (.cells _ 72) = W0 at *
      have z1 : W0.cell? ⟨w.heap.size, 1, none⟩ = some (.string n) := HZ.out.cell 1
      have z2 : W0.cell? ⟨w.heap.size, 2, none⟩ = some (.string o) := HZ.out.cell 2
      have z4 : W0.cell? ⟨w.heap.size, 4, none⟩ = some (.bool true) := HZ.out.cell 4
      go_wp2
      go_ret
      exact ⟨rfl, HB.out⟩
def cmpI (x y : Int) : Int := if x < y then -1 else if y < x then 1 else 0
def cmpL : List Int → List Int → Int
  | x :: a, y :: b => if (cmpI x y == 0) = true then cmpL a b else cmpI x y
  | _, _ => 0
theorem cmpL_at {xs ys : List Int} {i : Nat} (h1 : i < xs.length) (h2 : i < ys.length) : cmpL (xs.drop i) (ys.drop i) = if (cmpI xs[i] ys[i] == 0) = true then cmpL (xs.drop (i + 1)) (ys.drop (i + 1)) else cmpI xs[i] ys[i] := by
 rw [List.drop_eq_getElem_cons h1, List.drop_eq_getElem_cons h2, cmpL]
theorem nan_any (x : Int) (w : World) : Calls Tryz.prog 75 #[.int .i64 x] w fun e w' => e = .returned (.bool false) ∧ w' = w := by
 have h : (x != x) = false := by rw [bne, beq_self_eq_true]; rfl
 go_enter Tryz.func75, Tryz.ntmps75
 go_wp2
 go_ret
 exact ⟨rfl, rfl⟩
theorem cmpI_any (x y : Int) (w : World) : Calls Tryz.prog 55 #[.int .i64 x, .int .i64 y] w fun e w' => e = .returned (.int .i64 (cmpI x y)) ∧ w' = w := by
 unfold cmpI
 by_cases h1 : x < y
 · rw [if_pos h1]
   have h1b : decide (x < y) = true := decide_eq_true h1
   go_enter Tryz.func55, Tryz.ntmps55
   go_wp2_with (go_at_call 75; refine (nan_any _ _).mono ?_; rintro e w1 ⟨rfl, rfl⟩)
   go_ret
   exact ⟨rfl, rfl⟩
 · rw [if_neg h1]
   have h1b : decide (x < y) = false := decide_eq_false h1
   by_cases h2 : y < x
   · rw [if_pos h2]
     have h2b : decide (y < x) = true := decide_eq_true h2
     go_enter Tryz.func55, Tryz.ntmps55
     go_wp2_with (go_at_call 75; refine (nan_any _ _).mono ?_; rintro e w1 ⟨rfl, rfl⟩)
     go_ret
     exact ⟨rfl, rfl⟩
   · rw [if_neg h2]
     have h2b : decide (y < x) = false := decide_eq_false h2
     go_enter Tryz.func55, Tryz.ntmps55
     go_wp2_with (go_at_call 75; refine (nan_any _ _).mono ?_; rintro e w1 ⟨rfl, rfl⟩)
     go_ret
     exact ⟨rfl, rfl⟩
theorem compare_any {xs ys : List Int} {N : Nat} (hx : xs.length = N) (hy : ys.length = N) (hN : N ≤ 1000000) {g o o2 c c2 : Nat} {w : World} (h1 : ∀ j (hj : j < xs.length), w.cell? ⟨g, o + j, none⟩ = some (.int .i64 xs[j])) (h2 : ∀ j (hj : j < ys.length), w.cell? ⟨g, o2 + j, none⟩ = some (.int .i64 ys[j])) :
    Calls Tryz.prog 31 #[.slice (some ⟨g, o, none⟩) N c, .slice (some ⟨g, o2, none⟩) N c2] w fun e w' => e = .returned (.int .i64 (cmpL xs ys)) ∧ w' = w := by
  obtain ⟨R, hR⟩ : ∃ R, cmpL xs ys = R := ⟨_, rfl⟩
  rw [hR]
  have H1 := Lib.hid h1
  have H2 := Lib.hid h2
  have HX := Lib.hid hx
  have HY := Lib.hid hy
  have HR : Hid (cmpL (xs.drop 0) (ys.drop 0) = R) := hR
  clear h1 h2 hx hy hR
  go_enter Tryz.func31, Tryz.ntmps31
  go_wp2
  go_loopw [11] (fun iv wr => ∃ i : Nat, iv = .int .i64 i ∧ i ≤ N ∧ wr = w ∧ cmpL (xs.drop i) (ys.drop i) = R) (fun iv _ => N - (intOf iv).toNat)
  case atStart => exact ⟨0, rfl, Nat.zero_le _, rfl, HR.out⟩
  case round =>
   obtain ⟨i, rfl, hiN, rfl, hr⟩ := hrel
   have HRI := Lib.hid hr
   clear hr
   by_cases hlt : i < N
   · have i1 : i < xs.length := by rw [HX.out]; exact hlt
     have i2 : i < ys.length := by rw [HY.out]; exact hlt
     have c1 := H1.out i i1
     have c2 := H2.out i i2
     have HS := Lib.hid (cmpL_at i1 i2)
     generalize xs[i] = x at *
     generalize ys[i] = y at *
     have hx0 : (0 : Int) ≤ (i : Int) := by omega
     have hx1 : (i : Int) < (N : Int) := by omega
     have hx1b : decide ((i : Int) < (N : Int)) = true := decide_eq_true hx1
     have hx2 : ¬ (N : Int) ≤ (i : Int) := by omega
     have hx2b : decide ((N : Int) ≤ (i : Int)) = false := decide_eq_false hx2
     have hw1 : wrap64 ((i : Int) + 1) = ((i + 1 : Nat) : Int) := by unfold wrap64; omega
     obtain ⟨C, hC⟩ : ∃ C, cmpI x y = C := ⟨_, rfl⟩
     have HC := Lib.hid hC
     rw [hC] at HS
     clear hC
     cases hc : (C == 0)
     · have hcn : (C != 0) = true := by rw [bne, hc]; rfl
       have hcz : ¬ C = 0 := by simpa using hc
       have HE : Hid (R = C) := by show _ = _; rw [← HRI.out, HS.out, hc]; rfl
       go_wp2_with (go_at_call 55; refine (cmpI_any _ _ _).mono ?_; rintro e w1 ⟨rfl, rfl⟩; rw [HC.out])
       go_ret
       exact ⟨by rw [HE.out]; rfl, rfl⟩
     · have hcn : (C != 0) = false := by rw [bne, hc]; rfl
       have HE : Hid (cmpL (xs.drop (i + 1)) (ys.drop (i + 1)) = R) := by show _ = _; rw [← HRI.out, HS.out, hc]; rfl
       go_wp2_with (go_at_call 55; refine (cmpI_any _ _ _).mono ?_; rintro e w1 ⟨rfl, rfl⟩; rw [HC.out])
       go_roundw
       case rel => exact ⟨i + 1, by first | rfl | trivial, hlt, by first | rfl | trivial, HE.out⟩
       case measure => simp [intOf]; omega
   · obtain rfl : i = N := by omega
     have hxn : ¬ (i : Int) < (i : Int) := by omega
     have hxnb : decide ((i : Int) < (i : Int)) = false := decide_eq_false hxn
     have HE : Hid (R = 0) := by
      show _ = _
      rw [← HRI.out, List.drop_eq_nil_of_le (by rw [HX.out]; exact Nat.le_refl _)]
      rfl
     go_wp2
     go_ret
     exact ⟨by rw [HE.out]; rfl, rfl⟩
structure W3 where
  a : Int
  b : Int
  c : Int
def W3.l (w : W3) : List Int := [w.a, w.b, w.c]
abbrev W3.cs (w : W3) : Array Value := #[.int .i64 w.a, .int .i64 w.b, .int .i64 w.c]
def W3.zero : W3 := ⟨0, 0, 0⟩
abbrev z3 : Array Value := #[.int .i64 0, .int .i64 0, .int .i64 0]
def W3.add (x y : W3) : W3 := ⟨x.a + y.a, x.b + y.b, x.c + y.c⟩
def gr3 (s m : W3) : W3 := if 0 < cmpL s.l m.l then s else m
theorem W3.add_comm (x y : W3) : x.add y = y.add x := by unfold W3.add; simp [Int.add_comm]
theorem W3.add_assoc (x y z : W3) : (x.add y).add z = x.add (y.add z) := by unfold W3.add; simp [Int.add_assoc]
theorem W3.add_zero (x : W3) : x.add W3.zero = x := by unfold W3.add W3.zero; simp
def smOwn (k : Int) : W3 := if (k == 1) = true then ⟨1, 0, 0⟩ else if (decide (2 ≤ k) && decide (k ≤ 10)) = true then ⟨0, 1, 0⟩ else ⟨0, 0, 0⟩
def smHas (k : Int) : Bool := k == 9 || k == 10 || k == 11 || k == 12
def cmOwn (t : ByteArray) : W3 := if (t.toList == [] || t.toList == [42]) = true then ⟨0, 0, 0⟩ else ⟨0, 0, 1⟩
def cxOwn (ps : Int) : W3 := if isElS ps = true then ⟨0, 0, 1⟩ else ⟨0, 0, 0⟩
mutual
def wSm : SmD → W3
  | .mk k _ _ _ _ _ _ l => if smHas k = true then (smOwn k).add (wLs l W3.zero) else smOwn k
def wSms : List SmD → W3
  | [] => W3.zero
  | s :: l => (wSm s).add (wSms l)
def wCm : CmD → W3
  | .mk t s => (cmOwn t).add (wSms s)
def wCms : List CmD → W3
  | [] => W3.zero
  | c :: l => (wCm c).add (wCms l)
def wCx : CxD → W3
  | .mk p _ ps => (cxOwn ps).add (wCms p)
def wLs : List CxD → W3 → W3
  | [], m => m
  | c :: l, m => wLs l (gr3 (wCx c) m)
end
def bareSms : List SmD → W3 × List (List CxD)
  | [] => (W3.zero, [])
  | .mk k _ _ _ _ _ _ l :: r => ((smOwn k).add (bareSms r).1, (if smHas k = true then [l] else []) ++ (bareSms r).2)
def bareCms : List CmD → W3 × List (List CxD)
  | [] => (W3.zero, [])
  | .mk t s :: r => (((cmOwn t).add (bareSms s).1).add (bareCms r).1, (bareSms s).2 ++ (bareCms r).2)
def bareCx : CxD → W3 × List (List CxD)
  | .mk p _ ps => ((cxOwn ps).add (bareCms p).1, (bareCms p).2)
def sumL : List (List CxD) → W3
  | [] => W3.zero
  | l :: r => (wLs l W3.zero).add (sumL r)
theorem sumL_app : ∀ a b : List (List CxD), sumL (a ++ b) = (sumL a).add (sumL b)
  | [], b => by
   show sumL b = W3.zero.add (sumL b)
   rw [W3.add_comm, W3.add_zero]
  | l :: a, b => by
   show (wLs l W3.zero).add (sumL (a ++ b)) = ((wLs l W3.zero).add (sumL a)).add (sumL b)
   rw [sumL_app a b, W3.add_assoc]
theorem W3.mix (a b c d : W3) : (a.add b).add (c.add d) = (a.add c).add (b.add d) := by
 rw [W3.add_assoc, W3.add_assoc, ← W3.add_assoc b c d, W3.add_comm b c, W3.add_assoc c b d]
theorem bareSms_w : ∀ l : List SmD, wSms l = (bareSms l).1.add (sumL (bareSms l).2)
  | [] => by
   rw [wSms, bareSms, sumL, W3.add_zero]
  | .mk k _ _ _ _ _ _ l :: r => by
   rw [wSms, wSm, bareSms, bareSms_w r, sumL_app]
   cases smHas k
   · rw [if_neg (by decide), if_neg (by decide), sumL]
     show (smOwn k).add _ = ((smOwn k).add (bareSms r).1).add (W3.zero.add _)
     rw [W3.add_comm W3.zero, W3.add_zero, W3.add_assoc]
   · rw [if_pos rfl, if_pos rfl, sumL, sumL, W3.add_zero]
     exact W3.mix _ _ _ _
theorem bareCms_w : ∀ l : List CmD, wCms l = (bareCms l).1.add (sumL (bareCms l).2)
  | [] => by
   rw [wCms, bareCms, sumL, W3.add_zero]
  | .mk t s :: r => by
   rw [wCms, wCm, bareCms, bareCms_w r, sumL_app, bareSms_w s, ← W3.add_assoc (cmOwn t)]
   exact W3.mix _ _ _ _
theorem bareCx_w (c : CxD) : wCx c = (bareCx c).1.add (sumL (bareCx c).2) := by
 cases c with
 | mk p cb ps =>
  rw [wCx, bareCx, bareCms_w p, W3.add_assoc]
theorem w3_size : (Tryz.prog.info? 37).map (·.size) = some 3 := by kernel_rfl
theorem w3_at {w : World} {g o : Nat} {x : W3} (h0 : w.cell? ⟨g, o, none⟩ = some (.int .i64 x.a)) (h1 : w.cell? ⟨g, o + 1, none⟩ = some (.int .i64 x.b)) (h2 : w.cell? ⟨g, o + 2, none⟩ = some (.int .i64 x.c)) : ∀ j (hj : j < x.l.length), w.cell? ⟨g, o + j, none⟩ = some (.int .i64 x.l[j]) := by
 intro j hj
 match j, hj with
 | 0, _ => exact h0
 | 1, _ => exact h1
 | 2, _ => exact h2
theorem CB.w3 {w : World} {g : Nat} (h : CB 37 w g z3) (y : W3) : CB 37 (((w.setCell ⟨g, 0, none⟩ (.int .i64 y.a)).setCell ⟨g, 1, none⟩ (.int .i64 y.b)).setCell ⟨g, 2, none⟩ (.int .i64 y.c)) g y.cs := by
 have hc := ((h.set 0 (.int .i64 y.a)).set 1 (.int .i64 y.b)).set 2 (.int .i64 y.c)
 rw [show (((z3.setIfInBounds 0 (.int .i64 y.a)).setIfInBounds 1 (.int .i64 y.b)).setIfInBounds 2 (.int .i64 y.c)) = y.cs by kernel_rfl] at hc
 exact hc
theorem great_any {w : World} {g o : Nat} {s m : W3} (hg : g < w.heap.size) (s0 : w.cell? ⟨g, o + 2, none⟩ = some (.int .i64 s.a)) (s1 : w.cell? ⟨g, o + 2 + 1, none⟩ = some (.int .i64 s.b)) (s2 : w.cell? ⟨g, o + 2 + 2, none⟩ = some (.int .i64 s.c)) (m0 : w.cell? ⟨g, o + 5, none⟩ = some (.int .i64 m.a)) (m1 : w.cell? ⟨g, o + 5 + 1, none⟩ = some (.int .i64 m.b)) (m2 : w.cell? ⟨g, o + 5 + 2, none⟩ = some (.int .i64 m.c)) :
    Calls Tryz.prog 19 #[.pointer (some ⟨g, o, none⟩)] w fun e w' => e = .returned (.agg (gr3 s m).cs) ∧ Below w.heap.size w w' := by
  have hb := (Below.refl w.heap.size w).alloc (Nat.le_refl _) (.cells z3 37)
  have HB := Lib.hid hb
  have HZ := Lib.hid (CB.new (T := 37) w z3)
  have hc : ∀ k, (w.alloc (.cells z3 37)).cell? ⟨g, k, none⟩ = w.cell? ⟨g, k, none⟩ := fun k => World.cell?_of_block (a := ⟨g, k, none⟩) (hb.block g hg)
  rw [← hc] at s0 s1 s2 m0 m1 m2
  have hne : g ≠ w.heap.size := by omega
  obtain ⟨R, hR⟩ : ∃ R, gr3 s m = R := ⟨_, rfl⟩
  have HR : Hid ((if 0 < cmpL s.l m.l then s else m) = R) := hR
  rw [hR]
  have HC := Lib.hid (compare_any (xs := s.l) (ys := m.l) (N := 3) (c := 3) (c2 := 3) rfl rfl (by omega) (w := (w.alloc (.cells z3 37)).drew) (w3_at (w := (w.alloc (.cells z3 37)).drew) s0 s1 s2) (w3_at (w := (w.alloc (.cells z3 37)).drew) m0 m1 m2))
  clear hb hc hR
  obtain ⟨C, hC⟩ : ∃ C, cmpL s.l m.l = C := ⟨_, rfl⟩
  rw [hC] at HC HR
  clear hC
  go_enter Tryz.func19, Tryz.ntmps19
  go_upto_region 1 with fail
  generalize w.alloc (.cells _ 37) = W0 at *
  by_cases h : 0 < C
  · have h0b : decide ((0 : Int) < C) = true := decide_eq_true h
    have HE : Hid (R = s) := by show _ = _; rw [← HR.out, if_pos h]
    go_region_with (go_at_call 31; refine HC.out.mono ?_; rintro e w1 ⟨rfl, rfl⟩)
    have HZD := Lib.hid (show CB 37 W0.drew w.heap.size z3 from HZ.out)
    have HBD := Lib.hid HB.out.drew
    replace s0 : W0.drew.cell? ⟨g, o + 2, none⟩ = some (.int .i64 s.a) := s0
    replace s1 : W0.drew.cell? ⟨g, o + 2 + 1, none⟩ = some (.int .i64 s.b) := s1
    replace s2 : W0.drew.cell? ⟨g, o + 2 + 2, none⟩ = some (.int .i64 s.c) := s2
    replace m0 : W0.drew.cell? ⟨g, o + 5, none⟩ = some (.int .i64 m.a) := m0
    replace m1 : W0.drew.cell? ⟨g, o + 5 + 1, none⟩ = some (.int .i64 m.b) := m1
    replace m2 : W0.drew.cell? ⟨g, o + 5 + 2, none⟩ = some (.int .i64 m.c) := m2
    clear HZ HB HC
    generalize W0.drew = W1 at *
    have y0 : W1.cell? ⟨w.heap.size, 0, none⟩ = some (.int .i64 0) := HZD.out.cell 0
    have y1 : W1.cell? ⟨w.heap.size, 1, none⟩ = some (.int .i64 0) := HZD.out.cell 1
    have y2 : W1.cell? ⟨w.heap.size, 2, none⟩ = some (.int .i64 0) := HZD.out.cell 2
    have f0 : W1.frozen? ⟨w.heap.size, 0, none⟩ = false := HZD.out.frozen 0
    have f1 : W1.frozen? ⟨w.heap.size, 1, none⟩ = false := HZD.out.frozen 1
    have f2 : W1.frozen? ⟨w.heap.size, 2, none⟩ = false := HZD.out.frozen 2
    go_wp2
    exact bodyPost_ret (v := .agg #[.int .i64 s.a, .int .i64 s.b, .int .i64 s.c]) (results_cell_row (by rfl) _ _ w.heap.size _ _ _ _ (by rfl) (HZD.out.w3 s) Tryz.underlying37 (by rfl) w3_size) rfl ⟨by rw [HE.out], ((HBD.out.setCell (p := ⟨w.heap.size, 0, none⟩) (Nat.le_refl _) _).setCell (p := ⟨w.heap.size, 1, none⟩) (Nat.le_refl _) _).setCell (p := ⟨w.heap.size, 2, none⟩) (Nat.le_refl _) _⟩
  · have h0b : decide ((0 : Int) < C) = false := decide_eq_false h
    have HE : Hid (R = m) := by show _ = _; rw [← HR.out, if_neg h]
    go_region_with (go_at_call 31; refine HC.out.mono ?_; rintro e w1 ⟨rfl, rfl⟩)
    have HZD := Lib.hid (show CB 37 W0.drew w.heap.size z3 from HZ.out)
    have HBD := Lib.hid HB.out.drew
    replace s0 : W0.drew.cell? ⟨g, o + 2, none⟩ = some (.int .i64 s.a) := s0
    replace s1 : W0.drew.cell? ⟨g, o + 2 + 1, none⟩ = some (.int .i64 s.b) := s1
    replace s2 : W0.drew.cell? ⟨g, o + 2 + 2, none⟩ = some (.int .i64 s.c) := s2
    replace m0 : W0.drew.cell? ⟨g, o + 5, none⟩ = some (.int .i64 m.a) := m0
    replace m1 : W0.drew.cell? ⟨g, o + 5 + 1, none⟩ = some (.int .i64 m.b) := m1
    replace m2 : W0.drew.cell? ⟨g, o + 5 + 2, none⟩ = some (.int .i64 m.c) := m2
    clear HZ HB HC
    generalize W0.drew = W1 at *
    have y0 : W1.cell? ⟨w.heap.size, 0, none⟩ = some (.int .i64 0) := HZD.out.cell 0
    have y1 : W1.cell? ⟨w.heap.size, 1, none⟩ = some (.int .i64 0) := HZD.out.cell 1
    have y2 : W1.cell? ⟨w.heap.size, 2, none⟩ = some (.int .i64 0) := HZD.out.cell 2
    have f0 : W1.frozen? ⟨w.heap.size, 0, none⟩ = false := HZD.out.frozen 0
    have f1 : W1.frozen? ⟨w.heap.size, 1, none⟩ = false := HZD.out.frozen 1
    have f2 : W1.frozen? ⟨w.heap.size, 2, none⟩ = false := HZD.out.frozen 2
    go_wp2
    exact bodyPost_ret (v := .agg #[.int .i64 m.a, .int .i64 m.b, .int .i64 m.c]) (results_cell_row (by rfl) _ _ w.heap.size _ _ _ _ (by rfl) (HZD.out.w3 m) Tryz.underlying37 (by rfl) w3_size) rfl ⟨by rw [HE.out], ((HBD.out.setCell (p := ⟨w.heap.size, 0, none⟩) (Nat.le_refl _) _).setCell (p := ⟨w.heap.size, 1, none⟩) (Nat.le_refl _) _).setCell (p := ⟨w.heap.size, 2, none⟩) (Nat.le_refl _) _⟩
theorem w3_ix0 (a b c : Value) (W : World) : (Instr.index 37 (.agg #[a, b, c]) (.int .i64 0)).run Tryz.prog W = .ok a W := by kernel_rfl
theorem w3_ix1 (a b c : Value) (W : World) : (Instr.index 37 (.agg #[a, b, c]) (.int .i64 1)).run Tryz.prog W = .ok b W := by kernel_rfl
theorem w3_ix2 (a b c : Value) (W : World) : (Instr.index 37 (.agg #[a, b, c]) (.int .i64 2)).run Tryz.prog W = .ok c W := by kernel_rfl
theorem wadd_any {w : World} {g o : Nat} {s x : W3} (hg : g < w.heap.size) (s0 : w.cell? ⟨g, o + 2, none⟩ = some (.int .i64 s.a)) (s1 : w.cell? ⟨g, o + 2 + 1, none⟩ = some (.int .i64 s.b)) (s2 : w.cell? ⟨g, o + 2 + 2, none⟩ = some (.int .i64 s.c)) (f0 : w.frozen? ⟨g, o + 2, none⟩ = false) (f1 : w.frozen? ⟨g, o + 2 + 1, none⟩ = false) (f2 : w.frozen? ⟨g, o + 2 + 2, none⟩ = false) (h0 : wrap64 (s.a + x.a) = s.a + x.a) (h1 : wrap64 (s.b + x.b) = s.b + x.b) (h2 : wrap64 (s.c + x.c) = s.c + x.c) :
    Calls Tryz.prog 20 #[.pointer (some ⟨g, o, none⟩), .agg x.cs] w fun e w' => (∃ v, e = .returned v) ∧ ∃ A, Below w.heap.size w A ∧ w' = A.setCells g (o + 2) [.int .i64 (s.a + x.a), .int .i64 (s.b + x.b), .int .i64 (s.c + x.c)] := by
  have hb := (Below.refl w.heap.size w).alloc (Nat.le_refl _) (.cells x.cs 37)
  have HB := Lib.hid hb
  have HZ := Lib.hid (CB.new (T := 37) w x.cs)
  have hc : ∀ k, (w.alloc (.cells x.cs 37)).cell? ⟨g, k, none⟩ = w.cell? ⟨g, k, none⟩ := fun k => World.cell?_of_block (a := ⟨g, k, none⟩) (hb.block g hg)
  have hf : ∀ k, (w.alloc (.cells x.cs 37)).frozen? ⟨g, k, none⟩ = w.frozen? ⟨g, k, none⟩ := fun k => World.frozen?_of_block (a := ⟨g, k, none⟩) (hb.block g hg)
  rw [← hc] at s0 s1 s2
  rw [← hf] at f0 f1 f2
  clear hb hc hf
  have i0 := w3_ix0 (.int .i64 x.a) (.int .i64 x.b) (.int .i64 x.c)
  have i1 := w3_ix1 (.int .i64 x.a) (.int .i64 x.b) (.int .i64 x.c)
  have i2 := w3_ix2 (.int .i64 x.a) (.int .i64 x.b) (.int .i64 x.c)
  go_enter Tryz.func20, Tryz.ntmps20
  go_upto_region 1 with fail
  generalize w.alloc (.cells _ 37) = W0 at *
  have z0 : W0.cell? ⟨w.heap.size, 0, none⟩ = some (.int .i64 x.a) := HZ.out.cell 0
  have z1 : W0.cell? ⟨w.heap.size, 1, none⟩ = some (.int .i64 x.b) := HZ.out.cell 1
  have z2 : W0.cell? ⟨w.heap.size, 2, none⟩ = some (.int .i64 x.c) := HZ.out.cell 2
  go_wp2
  clear z0 z1 z2
  obtain ⟨W1, hW1⟩ : ∃ W, W0.drew.setCell ⟨g, o + 2, none⟩ (.int .i64 (s.a + x.a)) = W := ⟨_, rfl⟩
  obtain ⟨W2, hW2⟩ : ∃ W, W1.drew.setCell ⟨g, o + 2 + 1, none⟩ (.int .i64 (s.b + x.b)) = W := ⟨_, rfl⟩
  obtain ⟨W3', hW3⟩ : ∃ W, W2.drew.setCell ⟨g, o + 2 + 2, none⟩ (.int .i64 (s.c + x.c)) = W := ⟨_, rfl⟩
  have s1' : W1.cell? ⟨g, o + 2 + 1, none⟩ = some (.int .i64 s.b) := by rw [← hW1]; exact (World.cell?_setCell_other _ _ _ _ (by simp)).trans s1
  have f1' : W1.frozen? ⟨g, o + 2 + 1, none⟩ = false := by rw [← hW1, World.frozen?_setCell]; exact f1
  have s2' : W2.cell? ⟨g, o + 2 + 2, none⟩ = some (.int .i64 s.c) := by
   rw [← hW2]
   refine (World.cell?_setCell_other _ _ _ _ (by simp)).trans ?_
   rw [← hW1]
   exact (World.cell?_setCell_other _ _ _ _ (by simp)).trans s2
  have f2' : W2.frozen? ⟨g, o + 2 + 2, none⟩ = false := by
   rw [← hW2, World.frozen?_setCell, ← hW1]
   show (W0.drew.setCell _ _).frozen? _ = _
   rw [World.frozen?_setCell]
   exact f2
  have HF : Hid (W3' = W0.drew.drew.drew.setCells g (o + 2) [.int .i64 (s.a + x.a), .int .i64 (s.b + x.b), .int .i64 (s.c + x.c)]) := by
   show _ = _
   rw [← hW3, ← hW2, ← hW1]
   rfl
  have HW1 := Lib.hid hW1
  have HW2 := Lib.hid hW2
  have HW3 := Lib.hid hW3
  clear s1 s2 f1 f2 hW1 hW2 hW3
  go_loopw [7] (fun iv wr => (iv = .int .i64 0 ∧ wr = W0) ∨ (iv = .int .i64 1 ∧ wr = W1) ∨ (iv = .int .i64 2 ∧ wr = W2) ∨ (iv = .int .i64 3 ∧ wr = W3')) (fun iv _ => 3 - (intOf iv).toNat)
  case atStart => exact Or.inl ⟨rfl, rfl⟩
  case round =>
   rcases hrel with ⟨rfl, rfl⟩ | ⟨rfl, rfl⟩ | ⟨rfl, rfl⟩ | ⟨rfl, rfl⟩
   · go_upto_region 4 with fail
     go_region
     all_goals go_wp2
     all_goals go_roundw
     case rel => exact Or.inr (Or.inl ⟨by first | rfl | trivial, HW1.out⟩)
     case measure => simp [intOf]
   · go_upto_region 4 with fail
     go_region
     all_goals go_wp2
     all_goals go_roundw
     case rel => exact Or.inr (Or.inr (Or.inl ⟨by first | rfl | trivial, HW2.out⟩))
     case measure => simp [intOf]
   · go_upto_region 4 with fail
     go_region
     all_goals go_wp2
     all_goals go_roundw
     case rel => exact Or.inr (Or.inr (Or.inr ⟨by first | rfl | trivial, HW3.out⟩))
     case measure => simp [intOf]
   · go_wp2
     exact ⟨rfl, .tuple #[], by simp [results, Tryz.results20, go_sem], ⟨_, rfl⟩, W0.drew.drew.drew, HB.out.drew.drew.drew, HF.out⟩
end Go.Proofs.YtclicjiakkcfcaaGreatDoor
