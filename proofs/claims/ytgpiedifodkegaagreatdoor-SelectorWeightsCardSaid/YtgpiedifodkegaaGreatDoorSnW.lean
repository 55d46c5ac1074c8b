/- SelectorWeights holds of every argument, where package selector's two tables of words and the library's tables of decimals hold what the program's own text lays in them (the card ties that): the call returns true, and each argument reads behind it as it did before. -/
import Derived.Test.YtgpiedifodkegaaGreatDoorTie
import Derived.Test.YtgpiedifodkegaaGreatDoorCards
import Derived.SevenTiedAt
import Derived.LaidMore
import Derived.MakeChecks
import Derived.Lay
import Derived.Lib.LaidU8
import Derived.Stop.Joined
import Derived.Test.YtgpiedifodkegaaGreatDoorSnA
set_option maxRecDepth 100000
set_option maxHeartbeats 6400000
namespace Go.Proofs.YtgpiedifodkegaaGreatDoor
open Go.RowKit
def kT : Nat → ByteArray
  | 0 => ⟨#[42]⟩
  | n + 1 => kT n ++ ⟨#[46, 107]⟩
def iT (b : Nat) : Nat → ByteArray
  | 0 => kT b
  | n + 1 => iT b n ++ ⟨#[35, 105]⟩
def tT (b a : Nat) : Nat → ByteArray
  | 0 => iT b a
  | n + 1 => ⟨#[116, 32]⟩ ++ tT b a n
def hT (k : Nat) (s : ByteArray) : ByteArray :=
 if k = 1 then ⟨#[58, 119, 104, 101, 114, 101, 40]⟩ ++ s ++ ⟨#[41]⟩
 else if k = 2 then ⟨#[58, 105, 115, 40, 117, 44, 32]⟩ ++ s ++ ⟨#[44, 32, 118, 41]⟩
 else if k = 3 then ⟨#[120, 58, 110, 111, 116, 40]⟩ ++ s ++ ⟨#[41]⟩
 else if k = 4 then ⟨#[58, 110, 116, 104, 45, 99, 104, 105, 108, 100, 40, 50, 110, 32, 111, 102, 32]⟩ ++ s ++ ⟨#[41, 58, 58, 97, 102, 116, 101, 114]⟩
 else s
theorem kT_size : ∀ n, (kT n).size = 1 + 2 * n
  | 0 => rfl
  | n + 1 => by rw [kT, sz_app, kT_size n]; show 1 + 2 * n + 2 = _; omega
theorem iT_size (b : Nat) : ∀ n, (iT b n).size = 1 + 2 * b + 2 * n
  | 0 => kT_size b
  | n + 1 => by rw [iT, sz_app, iT_size b n]; show 1 + 2 * b + 2 * n + 2 = _; omega
theorem tT_size (b a : Nat) : ∀ n, (tT b a n).size = 1 + 2 * b + 2 * a + 2 * n
  | 0 => iT_size b a
  | n + 1 => by rw [tT, sz_app, tT_size b a n]; show 2 + (1 + 2 * b + 2 * a + 2 * n) = _; omega
def wgW (a b c k : Nat) : W3 := if k = 1 then ⟨0, 0, 0⟩ else if k = 2 then (if (decide (a = 0) && decide (b = 0) && decide (c = 0)) = true then ⟨0, 0, 1⟩ else ⟨a, b, c⟩) else if k = 3 then ⟨a, b, c + 1⟩ else if k = 4 then ⟨a, b + 1, c + 1⟩ else ⟨a, b, c⟩
def wgOk (a b c k : Nat) : Bool := match selS parseS (ndsS (toks (readS (hT k (tT b a c))))) with
 | some [x] => decide (nCx x ≤ 100000000) && decide (zCx x ≤ 100000000) && (((gr3 (wCx x) W3.zero).a == (wgW a b c k).a) && ((gr3 (wCx x) W3.zero).b == (wgW a b c k).b) && ((gr3 (wCx x) W3.zero).c == (wgW a b c k).c))
 | _ => false
theorem wg_0 : ((List.range 6).all fun a => (List.range 6).all fun b => (List.range 4).all fun c => wgOk a b c 0) = true := by decide +kernel
theorem wg_1 : ((List.range 6).all fun a => (List.range 6).all fun b => (List.range 4).all fun c => wgOk a b c 1) = true := by decide +kernel
theorem wg_2 : ((List.range 6).all fun a => (List.range 6).all fun b => (List.range 4).all fun c => wgOk a b c 2) = true := by decide +kernel
theorem wg_3 : ((List.range 6).all fun a => (List.range 6).all fun b => (List.range 4).all fun c => wgOk a b c 3) = true := by decide +kernel
theorem wg_4 : ((List.range 6).all fun a => (List.range 6).all fun b => (List.range 4).all fun c => wgOk a b c 4) = true := by decide +kernel
theorem wg_at {a b c k : Nat} (ha : a ≤ 5) (hb : b ≤ 5) (hc : c ≤ 3) (hk : k ≤ 4) : ∃ x, selS parseS (ndsS (toks (readS (hT k (tT b a c))))) = some [x] ∧ okCx x ∧ nCx x ≤ 100000000 ∧ zCx x ≤ 100000000 ∧ gr3 (wCx x) W3.zero = wgW a b c k := by
 have h : wgOk a b c k = true := by
  have ho : k = 0 ∨ k = 1 ∨ k = 2 ∨ k = 3 ∨ k = 4 := by omega
  have g : ∀ {k : Nat}, (((List.range 6).all fun a => (List.range 6).all fun b => (List.range 4).all fun c => wgOk a b c k) = true) → wgOk a b c k = true := fun h => List.all_eq_true.1 (List.all_eq_true.1 (List.all_eq_true.1 h a (by simp; omega)) b (by simp; omega)) c (by simp; omega)
  rcases ho with rfl | rfl | rfl | rfl | rfl
  · exact g wg_0
  · exact g wg_1
  · exact g wg_2
  · exact g wg_3
  · exact g wg_4
 unfold wgOk at h
 split at h
 · rename_i x hx
   simp only [Bool.and_eq_true, decide_eq_true_eq, beq_iff_eq] at h
   obtain ⟨⟨h1, h2⟩, ⟨h3, h4⟩, h5⟩ := h
   have hok := (selS_ok hx).2
   rw [okLs] at hok
   refine ⟨x, hx, hok.1, h1, h2, ?_⟩
   generalize gr3 (wCx x) W3.zero = A at *
   generalize wgW a b c k = B at *
   obtain ⟨a1, a2, a3⟩ := A
   obtain ⟨b1, b2, b3⟩ := B
   simp only at h3 h4 h5
   rw [h3, h4, h5]
 · cases h
theorem w3_lits {d : Nat} {a b c : Int} (ha : (Lit.int .i64 a).wf = true) (hb : (Lit.int .i64 b).wf = true) (hc : (Lit.int .i64 c).wf = true) : Tryz.prog.keyLits (d + 1 + 1) 38 [.int .i64 a, .int .i64 b, .int .i64 c] = some [.int .i64 a, .int .i64 b, .int .i64 c] := by
 have li : ∀ x : Int, (Lit.int .i64 x).wf = true → Tryz.prog.keyLits (d + 1) 3 [.int .i64 x] = some [.int .i64 x] := fun x h => by
  unfold Program.keyLits
  simp only [Tryz.underlying3]
  rw [if_pos ⟨trivial, h⟩]
 have ci : Tryz.prog.cellsOf 3 = 1 := by kernel_rfl
 have cw : Tryz.prog.cellsOf 38 = 3 := by kernel_rfl
 unfold Program.keyLits
 simp only [Tryz.underlying38]
 rw [if_pos (by simp [cw])]
 simp [List.range_succ, ci, li a ha, li b hb, li c hc]
theorem w3_eq {a b c : Int} (ha : (Lit.int .i64 a).wf = true) (hb : (Lit.int .i64 b).wf = true) (hc : (Lit.int .i64 c).wf = true) (w : World) : (Op.equalIn 10000 38 (.agg #[.int .i64 a, .int .i64 b, .int .i64 c]) (.agg #[.int .i64 a, .int .i64 b, .int .i64 c])).run Tryz.prog w = .ok true w := by
 obtain ⟨r, hr, hiff⟩ := run_equalIn_deep (P := Tryz.prog) 9990 10 38 (by kernel_rfl) w 10 10 (.agg #[.int .i64 a, .int .i64 b, .int .i64 c]) (.agg #[.int .i64 a, .int .i64 b, .int .i64 c]) [.int .i64 a, .int .i64 b, .int .i64 c] [.int .i64 a, .int .i64 b, .int .i64 c] (by kernel_rfl) (by kernel_rfl) (w3_lits (d := 8) ha hb hc) (w3_lits (d := 8) ha hb hc)
 rw [hiff.2 rfl] at hr
 exact hr
theorem wf_nat {n : Nat} (h : n ≤ 1000) : (Lit.int .i64 (n : Int)).wf = true := by
 have h1 : IntKind.i64.min = -9223372036854775808 := by decide
 have h2 : IntKind.i64.max = 9223372036854775807 := by decide
 show (decide (IntKind.i64.min ≤ (n : Int)) && decide ((n : Int) ≤ IntKind.i64.max)) = true
 rw [h1, h2, decide_eq_true (by omega), decide_eq_true (by omega)]
 rfl
theorem range3 {w : World} {b o : Nat} {x y z : Value} (h0 : w.cell? ⟨b, o, none⟩ = some x) (h1 : w.cell? ⟨b, o + 1, none⟩ = some y) (h2 : w.cell? ⟨b, o + 2, none⟩ = some z) : w.rangeAt b o [x, y, z] := fun j v hj => by
 match j, hj with
 | 0, hj => cases hj; exact h0
 | 1, hj => cases hj; exact h1
 | 2, hj => cases hj; exact h2
theorem range_below {w w' : World} {b o : Nat} {cs : List Value} (h : w.rangeAt b o cs) (hb : Below w.heap.size w w') : w'.rangeAt b o cs := fun j v hj => kept (h j v hj) hb
theorem weights_0 (w : World) (a b c : Nat) (how : Int) (hl : TabL w) (ht : Tab w) (ha : a ≤ 5) (hb : b ≤ 5) (hc : c ≤ 3) (hk : how % 5 = 0) :
    Calls Tryz.prog 4 #[.int .i64 a, .int .i64 b, .int .i64 c, .int .i64 how] w fun e w' => e = .returned (.bool true) ∧ Below w.heap.size w w' := by
  obtain ⟨x, hx, hok, hn, hz, hw⟩ := wg_at ha hb hc (k := 0) (by decide)
  have HL := Lib.hid hl
  have HT := Lib.hid ht
  have HK := Lib.hid hk
  have HX := Lib.hid hx
  have HOK := Lib.hid hok
  have HN := Lib.hid hn
  have HZ := Lib.hid hz
  have HW := Lib.hid hw
  have HBD : Hid (a ≤ 5 ∧ b ≤ 5 ∧ c ≤ 3) := ⟨ha, hb, hc⟩
  have a0 : ¬ (a : Int) < 0 := by omega
  have a5 : ¬ (5 : Int) < (a : Int) := by omega
  have b0 : ¬ (b : Int) < 0 := by omega
  have b5 : ¬ (5 : Int) < (b : Int) := by omega
  have c0 : ¬ (c : Int) < 0 := by omega
  have c3 : ¬ (3 : Int) < (c : Int) := by omega
  clear hl ht hk hx hok hn hz hw ha hb hc
  go_enter Tryz.func4, Tryz.ntmps4
  go_wp2
  go_loopw [9, 10] (fun sv iv wr => ∃ i : Nat, iv = .int .i64 i ∧ sv = .string (kT i) ∧ i ≤ b ∧ Below w.heap.size w wr) (fun _ iv _ => b - (intOf iv).toNat)
  case atStart => exact ⟨0, rfl, rfl, Nat.zero_le _, Below.refl _ _⟩
  case round =>
   obtain ⟨b1, rfl, rfl, hin, hB⟩ := hrel
   have HB := Lib.hid hB
   clear hB
   by_cases hlt : b1 < b
   · have hltI : (b1 : Int) < (b : Int) := by omega
     have cc := cat_ok (kT b1) ⟨#[46, 107]⟩ (by have := kT_size b1; have := HBD.out; simp only [show ∀ b : UInt8, ∀ c : UInt8, (⟨#[b, c]⟩ : ByteArray).size = 2 from fun _ _ => rfl]; omega)
     rw [show (kT b1) ++ ⟨#[46, 107]⟩ = kT (b1 + 1) from rfl] at cc
     have hwi := wrap_succ1 (i := b1) (by have := HBD.out; omega)
     go_wp2
     go_roundw
     case rel => exact ⟨b1 + 1, by first | rfl | exact congrArg (Value.int .i64) hwi, rfl, hlt, HB.out⟩
     case measure => first | (rw [hwi]; exact meas_succ hlt) | exact meas_succ hlt
   · obtain rfl : b1 = b := by omega
     have hltI : ¬ (b1 : Int) < (b1 : Int) := Int.lt_irrefl _
     clear hin hlt
     go_wp2
     go_loopw [9, 11] (fun sv iv wr => ∃ i : Nat, iv = .int .i64 i ∧ sv = .string (iT b1 i) ∧ i ≤ a ∧ Below w.heap.size w wr) (fun _ iv _ => a - (intOf iv).toNat)
     case atStart => exact ⟨0, rfl, rfl, Nat.zero_le _, HB.out⟩
     case round =>
      obtain ⟨a1, rfl, rfl, hin, hB⟩ := hrel
      have HB := Lib.hid hB
      clear hB
      by_cases hlt : a1 < a
      · have hltI : (a1 : Int) < (a : Int) := by omega
        have cc := cat_ok (iT b1 a1) ⟨#[35, 105]⟩ (by have := iT_size b1 a1; have := HBD.out; simp only [show ∀ b : UInt8, ∀ c : UInt8, (⟨#[b, c]⟩ : ByteArray).size = 2 from fun _ _ => rfl]; omega)
        rw [show (iT b1 a1) ++ ⟨#[35, 105]⟩ = iT b1 (a1 + 1) from rfl] at cc
        have hwi := wrap_succ1 (i := a1) (by have := HBD.out; omega)
        go_wp2
        go_roundw
        case rel => exact ⟨a1 + 1, by first | rfl | exact congrArg (Value.int .i64) hwi, rfl, hlt, HB.out⟩
        case measure => first | (rw [hwi]; exact meas_succ hlt) | exact meas_succ hlt
      · obtain rfl : a1 = a := by omega
        have hltI : ¬ (a1 : Int) < (a1 : Int) := Int.lt_irrefl _
        clear hin hlt
        go_wp2
        go_loopw [9, 12] (fun sv iv wr => ∃ i : Nat, iv = .int .i64 i ∧ sv = .string (tT b1 a1 i) ∧ i ≤ c ∧ Below w.heap.size w wr) (fun _ iv _ => c - (intOf iv).toNat)
        case atStart => exact ⟨0, rfl, rfl, Nat.zero_le _, HB.out⟩
        case round =>
         obtain ⟨c1, rfl, rfl, hin, hB⟩ := hrel
         have HB := Lib.hid hB
         clear hB
         by_cases hlt : c1 < c
         · have hltI : (c1 : Int) < (c : Int) := by omega
           have cc := cat_ok ⟨#[116, 32]⟩ (tT b1 a1 c1) (by have := tT_size b1 a1 c1; have := HBD.out; simp only [show ∀ b : UInt8, ∀ c : UInt8, (⟨#[b, c]⟩ : ByteArray).size = 2 from fun _ _ => rfl]; omega)
           rw [show ⟨#[116, 32]⟩ ++ (tT b1 a1 c1) = tT b1 a1 (c1 + 1) from rfl] at cc
           have hwi := wrap_succ1 (i := c1) (by have := HBD.out; omega)
           go_wp2
           go_roundw
           case rel => exact ⟨c1 + 1, by first | rfl | exact congrArg (Value.int .i64) hwi, rfl, hlt, HB.out⟩
           case measure => first | (rw [hwi]; exact meas_succ hlt) | exact meas_succ hlt
         · obtain rfl : c1 = c := by omega
           have hltI : ¬ (c1 : Int) < (c1 : Int) := Int.lt_irrefl _
           clear hin hlt
           clear a0 a5 b0 b5 c0 c3
           go_upto_region 17 with fail
           have HC7 := Lib.hid (CB.new (T := 38) wr #[.int .i64 (a1 : Int), .int .i64 (b1 : Int), .int .i64 (c1 : Int)])
           have HB7 := Lib.hid (below_seq HB.out (bel_newS wr (.cells #[.int .i64 (a1 : Int), .int .i64 (b1 : Int), .int .i64 (c1 : Int)] 38)))
           have HL7 := Lib.hid (show wr.heap.size < (wr.alloc (.cells #[.int .i64 (a1 : Int), .int .i64 (b1 : Int), .int .i64 (c1 : Int)] 38)).heap.size by simp)
           have HLE := Lib.hid HB.out.size
           generalize wr.heap.size = gb at *
           generalize wr.alloc (.cells #[.int .i64 (a1 : Int), .int .i64 (b1 : Int), .int .i64 (c1 : Int)] 38) = W7 at *
           have hsz := tT_size b1 a1 c1
           obtain ⟨T, hT⟩ : ∃ T, tT b1 a1 c1 = T := ⟨_, rfl⟩
           rw [hT] at HX hsz ⊢
           have hsz9 : T.size ≤ 60 := by have := HBD.out; omega
           clear hsz hT
           have HXT : Hid (selS parseS (ndsS (toks (readS T))) = some [x]) := HX
           have HST : Hid (T.size ≤ 5000000) := by show _ ≤ _; omega
           clear hsz9
           have HWV : Hid (gr3 (wCx x) W3.zero = ⟨(a1 : Int), (b1 : Int), (c1 : Int)⟩) := HW
           have HC8 := HC7
           have HB8 := HB7
           have HLB := HL7
           go_upto_region 32 with (go_at_call 16; (with_reducible refine (round_any how 5 0 _ (by decide) (by decide) HK.out).mono ?_); rintro e w' ⟨rfl, rfl⟩)
           go_upto_region 32 with fail
           go_wp2_with fail
           refine (nodes6_any T _ HST.out).mono ?_
           rintro e w1 ⟨⟨v1, rfl, hv1⟩, ha1⟩
           go_wp2_with fail
           refine (parse6 T HST.out hv1 (HL.out.below (below_seq HB8.out ha1)) HXT.out).mono ?_
           rintro e w2 ⟨⟨L, u, rfl, hr1, hL⟩, hb1⟩
           obtain rfl : L = [x] := hL
           obtain ⟨b, off, cap, hu, _, hrow⟩ := cx_row hr1 (Nat.succ_pos _)
           have hu : u = .slice (some ⟨b, off, none⟩) 1 cap := hu
           subst hu
           obtain ⟨a1', n1, c1', a2, n2, c2, pe, x0, x1, x2, R1⟩ := hrow 0 (Nat.succ_pos _)
           simp only [Nat.zero_mul, Nat.add_zero, List.getElem_cons_zero] at x0 x1 x2 R1
           have hc2 := (HC8.out.below (below_seq ha1 hb1) HLB.out)
           have HB9 := Lib.hid (below_seq (below_seq HB8.out ha1) hb1)
           have ea : ∀ W, (Op.equalIn 10000 38 (.agg (W3.mk (a1 : Int) (b1 : Int) (c1 : Int)).cs) (.agg #[.int .i64 (a1 : Int), .int .i64 (b1 : Int), .int .i64 (c1 : Int)])).run Tryz.prog W = .ok true W := fun W => w3_eq (wf_nat (by have := HBD.out; omega)) (wf_nat (by have := HBD.out; omega)) (wf_nat (by have := HBD.out; omega)) W
           go_upto_region 33 with fail
           refine wp_region_held_drew (S := (fun W => W.rangeAt b off [.slice a1' n1 c1', .slice a2 n2 c2, .int .i64 pe] ∧ W.rangeAt gb 0 [.int .i64 (a1 : Int), .int .i64 (b1 : Int), .int .i64 (c1 : Int)])) (by kernel_rfl) ⟨range3 x0 x1 x2, range3 (hc2.cell 0) (hc2.cell 1) (hc2.cell 2)⟩ (fun hHeld => ?_)
           have HBd := Lib.hid HB9.out.drew
           have HRd := Lib.hid (R1.below (Below.refl w2.heap.size w2).drew)
           generalize w2.drew = WA at *
           clear x0 x1 x2 hc2 R1 hrow hr1 hb1 ha1 hv1
           refine wTake 0 (v := ?_) rfl (Or.inl ⟨by rfl, ?_⟩) ?_
           rotate_left
           · intro W hSw
             go_simp
             all_goals with_reducible rfl
           try simp only [gA, gB, gC, gD, gE, gF, gG]
           refine wTake 1 (v := ?_) rfl (Or.inl ⟨by rfl, ?_⟩) ?_
           rotate_left
           · intro W hSw
             go_simp
             all_goals with_reducible rfl
           try simp only [gA, gB, gC, gD, gE, gF, gG]
           refine wTake 2 (v := ?_) rfl (Or.inl ⟨by rfl, ?_⟩) ?_
           rotate_left
           · intro W hSw
             go_simp
             all_goals with_reducible rfl
           try simp only [gA, gB, gC, gD, gE, gF, gG]
           refine wTake 3 (v := ?_) rfl (Or.inl ⟨by rfl, ?_⟩) ?_
           rotate_left
           · intro W hSw
             go_simp
             all_goals with_reducible rfl
           try simp only [gA, gB, gC, gD, gE, gF, gG]
           refine wTake 4 (v := ?_) rfl (Or.inl ⟨by rfl, ?_⟩) ?_
           rotate_left
           · intro W hSw
             go_simp
             all_goals with_reducible rfl
           try simp only [gA, gB, gC, gD, gE, gF, gG]
           refine wTake 5 (v := ?_) rfl (Or.inl ⟨by rfl, ?_⟩) ?_
           rotate_left
           · intro W hSw
             go_simp
             all_goals with_reducible rfl
           try simp only [gA, gB, gC, gD, gE, gF, gG]
           refine wTake 6 (v := ?_) rfl (Or.inl ⟨by rfl, ?_⟩) ?_
           rotate_left
           · intro W hSw
             go_simp
             all_goals with_reducible rfl
           try simp only [gA, gB, gC, gD, gE, gF, gG]
           refine wTake 7 (v := ?_) rfl (Or.inl ⟨by rfl, ?_⟩) ?_
           rotate_left
           · intro W hSw
             go_simp
             all_goals with_reducible rfl
           try simp only [gA, gB, gC, gD, gE, gF, gG]
           refine wTake 8 (v := ?_) rfl (Or.inl ⟨by rfl, ?_⟩) ?_
           rotate_left
           · intro W hSw
             go_simp
             all_goals with_reducible rfl
           try simp only [gA, gB, gC, gD, gE, gF, gG]
           refine wTake 9 (v := ?_) rfl (Or.inl ⟨by rfl, ?_⟩) ?_
           rotate_left
           · intro W hSw
             go_simp
             all_goals with_reducible rfl
           try simp only [gA, gB, gC, gD, gE, gF, gG]
           refine wTake 10 (v := _) rfl (yieldsIf_load_mid (by rfl) 33 (.tmp 125) rfl b off rfl [.slice a1' n1 c1', .slice a2 n2 c2, .int .i64 pe] _ (fun _ h => h.1) Tryz.underlying33 (by rfl) (by kernel_rfl)) ?_
           try simp only [gA, gB, gC, gD, gE, gF, gG]
           refine wTake 12 (v := _) rfl (yieldsIf_load_mid (by rfl) 38 (.tmp 13) rfl gb 0 rfl [.int .i64 (a1 : Int), .int .i64 (b1 : Int), .int .i64 (c1 : Int)] _ (fun _ h => h.2) Tryz.underlying38 (by rfl) w3_size) ?_
           try simp only [gA, gB, gC, gD, gE, gF, gG]
           refine wpAnyH_ready (rs := [11]) (by kernel_rfl) (by simp) ?_
           refine AllReadyH.cons (o := _) rfl (fun K hK => ?_) AllReadyH.nil
           simp only [List.getElem_toArray, List.getElem_cons_zero, List.getElem_cons_succ]
           rw [if_pos (by rfl)]
           go_simp
           refine (weigh_cx HRd.out HOK.out HN.out HZ.out HWV.out).mono ?_
           rintro e wB ⟨rfl, hbB⟩
           have HBB := Lib.hid (below_seq HBd.out hbB)
           have hSB : (fun W => W.rangeAt b off [.slice a1' n1 c1', .slice a2 n2 c2, .int .i64 pe] ∧ W.rangeAt gb 0 [.int .i64 (a1 : Int), .int .i64 (b1 : Int), .int .i64 (c1 : Int)]) wB := ⟨range_below hHeld.1 hbB, range_below hHeld.2 hbB⟩
           clear hbB hHeld
           go_simp
           refine hK.out _ _ hSB (fun hHeld => ?_)
           clear hK K
           try simp only [gA, gB, gC, gD, gE, gF, gG]
           refine wTake 13 (v := ?_) rfl (Or.inl ⟨by rfl, ?_⟩) ?_
           rotate_left
           · intro W hSw
             go_simp
             all_goals with_reducible rfl
           try simp only [gA, gB, gC, gD, gE, gF, gG]
           refine wTake 14 (v := ?_) rfl (Or.inl ⟨by rfl, ?_⟩) ?_
           rotate_left
           · intro W hSw
             go_simp
             all_goals with_reducible rfl
           try simp only [gA, gB, gC, gD, gE, gF, gG]
           refine wTake 15 (v := ?_) rfl (Or.inl ⟨by rfl, ?_⟩) ?_
           rotate_left
           · intro W hSw
             go_simp
             all_goals with_reducible rfl
           try simp only [gA, gB, gC, gD, gE, gF, gG]
           refine wpAnyH_ready (rs := [16]) (by kernel_rfl) (by simp) ?_
           refine AllReadyH.cons (o := _) rfl (fun K hK => ?_) AllReadyH.nil
           simp only [List.getElem_toArray, List.getElem_cons_zero, List.getElem_cons_succ]
           rw [if_pos (by rfl)]
           go_simp
           refine (awake6_any _ (HL.out.below HBB.out) (HT.out.below HBB.out)).mono ?_
           rintro e wC ⟨rfl, hbC⟩
           have HBC := Lib.hid (below_seq HBB.out hbC)
           have hSC : (fun W => W.rangeAt b off [.slice a1' n1 c1', .slice a2 n2 c2, .int .i64 pe] ∧ W.rangeAt gb 0 [.int .i64 (a1 : Int), .int .i64 (b1 : Int), .int .i64 (c1 : Int)]) wC := ⟨range_below hHeld.1 hbC, range_below hHeld.2 hbC⟩
           clear hbC hHeld hSB
           go_simp
           refine hK.out _ _ hSC (fun hHeld => ?_)
           clear hK K
           try simp only [gA, gB, gC, gD, gE, gF, gG]
           refine wTake 17 (v := ?_) rfl (Or.inl ⟨by rfl, ?_⟩) ?_
           rotate_left
           · intro W hSw
             go_simp
             all_goals with_reducible rfl
           try simp only [gA, gB, gC, gD, gE, gF, gG]
           refine wTake 18 (v := ?_) rfl (Or.inl ⟨by rfl, ?_⟩) ?_
           rotate_left
           · intro W hSw
             go_simp
             all_goals with_reducible rfl
           try simp only [gA, gB, gC, gD, gE, gF, gG]
           refine wpAnyH_done (by kernel_rfl) ?_ _
           go_wp2
           go_ret
           exact ⟨rfl, HBC.out⟩
theorem weights_1 (w : World) (a b c : Nat) (how : Int) (hl : TabL w) (ht : Tab w) (ha : a ≤ 5) (hb : b ≤ 5) (hc : c ≤ 3) (hk : how % 5 = 1) :
    Calls Tryz.prog 4 #[.int .i64 a, .int .i64 b, .int .i64 c, .int .i64 how] w fun e w' => e = .returned (.bool true) ∧ Below w.heap.size w w' := by
  obtain ⟨x, hx, hok, hn, hz, hw⟩ := wg_at ha hb hc (k := 1) (by decide)
  have HL := Lib.hid hl
  have HT := Lib.hid ht
  have HK := Lib.hid hk
  have HX := Lib.hid hx
  have HOK := Lib.hid hok
  have HN := Lib.hid hn
  have HZ := Lib.hid hz
  have HW := Lib.hid hw
  have HBD : Hid (a ≤ 5 ∧ b ≤ 5 ∧ c ≤ 3) := ⟨ha, hb, hc⟩
  have a0 : ¬ (a : Int) < 0 := by omega
  have a5 : ¬ (5 : Int) < (a : Int) := by omega
  have b0 : ¬ (b : Int) < 0 := by omega
  have b5 : ¬ (5 : Int) < (b : Int) := by omega
  have c0 : ¬ (c : Int) < 0 := by omega
  have c3 : ¬ (3 : Int) < (c : Int) := by omega
  clear hl ht hk hx hok hn hz hw ha hb hc
  go_enter Tryz.func4, Tryz.ntmps4
  go_wp2
  go_loopw [9, 10] (fun sv iv wr => ∃ i : Nat, iv = .int .i64 i ∧ sv = .string (kT i) ∧ i ≤ b ∧ Below w.heap.size w wr) (fun _ iv _ => b - (intOf iv).toNat)
  case atStart => exact ⟨0, rfl, rfl, Nat.zero_le _, Below.refl _ _⟩
  case round =>
   obtain ⟨b1, rfl, rfl, hin, hB⟩ := hrel
   have HB := Lib.hid hB
   clear hB
   by_cases hlt : b1 < b
   · have hltI : (b1 : Int) < (b : Int) := by omega
     have cc := cat_ok (kT b1) ⟨#[46, 107]⟩ (by have := kT_size b1; have := HBD.out; simp only [show ∀ b : UInt8, ∀ c : UInt8, (⟨#[b, c]⟩ : ByteArray).size = 2 from fun _ _ => rfl]; omega)
     rw [show (kT b1) ++ ⟨#[46, 107]⟩ = kT (b1 + 1) from rfl] at cc
     have hwi := wrap_succ1 (i := b1) (by have := HBD.out; omega)
     go_wp2
     go_roundw
     case rel => exact ⟨b1 + 1, by first | rfl | exact congrArg (Value.int .i64) hwi, rfl, hlt, HB.out⟩
     case measure => first | (rw [hwi]; exact meas_succ hlt) | exact meas_succ hlt
   · obtain rfl : b1 = b := by omega
     have hltI : ¬ (b1 : Int) < (b1 : Int) := Int.lt_irrefl _
     clear hin hlt
     go_wp2
     go_loopw [9, 11] (fun sv iv wr => ∃ i : Nat, iv = .int .i64 i ∧ sv = .string (iT b1 i) ∧ i ≤ a ∧ Below w.heap.size w wr) (fun _ iv _ => a - (intOf iv).toNat)
     case atStart => exact ⟨0, rfl, rfl, Nat.zero_le _, HB.out⟩
     case round =>
      obtain ⟨a1, rfl, rfl, hin, hB⟩ := hrel
      have HB := Lib.hid hB
      clear hB
      by_cases hlt : a1 < a
      · have hltI : (a1 : Int) < (a : Int) := by omega
        have cc := cat_ok (iT b1 a1) ⟨#[35, 105]⟩ (by have := iT_size b1 a1; have := HBD.out; simp only [show ∀ b : UInt8, ∀ c : UInt8, (⟨#[b, c]⟩ : ByteArray).size = 2 from fun _ _ => rfl]; omega)
        rw [show (iT b1 a1) ++ ⟨#[35, 105]⟩ = iT b1 (a1 + 1) from rfl] at cc
        have hwi := wrap_succ1 (i := a1) (by have := HBD.out; omega)
        go_wp2
        go_roundw
        case rel => exact ⟨a1 + 1, by first | rfl | exact congrArg (Value.int .i64) hwi, rfl, hlt, HB.out⟩
        case measure => first | (rw [hwi]; exact meas_succ hlt) | exact meas_succ hlt
      · obtain rfl : a1 = a := by omega
        have hltI : ¬ (a1 : Int) < (a1 : Int) := Int.lt_irrefl _
        clear hin hlt
        go_wp2
        go_loopw [9, 12] (fun sv iv wr => ∃ i : Nat, iv = .int .i64 i ∧ sv = .string (tT b1 a1 i) ∧ i ≤ c ∧ Below w.heap.size w wr) (fun _ iv _ => c - (intOf iv).toNat)
        case atStart => exact ⟨0, rfl, rfl, Nat.zero_le _, HB.out⟩
        case round =>
         obtain ⟨c1, rfl, rfl, hin, hB⟩ := hrel
         have HB := Lib.hid hB
         clear hB
         by_cases hlt : c1 < c
         · have hltI : (c1 : Int) < (c : Int) := by omega
           have cc := cat_ok ⟨#[116, 32]⟩ (tT b1 a1 c1) (by have := tT_size b1 a1 c1; have := HBD.out; simp only [show ∀ b : UInt8, ∀ c : UInt8, (⟨#[b, c]⟩ : ByteArray).size = 2 from fun _ _ => rfl]; omega)
           rw [show ⟨#[116, 32]⟩ ++ (tT b1 a1 c1) = tT b1 a1 (c1 + 1) from rfl] at cc
           have hwi := wrap_succ1 (i := c1) (by have := HBD.out; omega)
           go_wp2
           go_roundw
           case rel => exact ⟨c1 + 1, by first | rfl | exact congrArg (Value.int .i64) hwi, rfl, hlt, HB.out⟩
           case measure => first | (rw [hwi]; exact meas_succ hlt) | exact meas_succ hlt
         · obtain rfl : c1 = c := by omega
           have hltI : ¬ (c1 : Int) < (c1 : Int) := Int.lt_irrefl _
           clear hin hlt
           clear a0 a5 b0 b5 c0 c3
           go_upto_region 17 with fail
           have HC7 := Lib.hid (CB.new (T := 38) wr #[.int .i64 (a1 : Int), .int .i64 (b1 : Int), .int .i64 (c1 : Int)])
           have HB7 := Lib.hid (below_seq HB.out (bel_newS wr (.cells #[.int .i64 (a1 : Int), .int .i64 (b1 : Int), .int .i64 (c1 : Int)] 38)))
           have HL7 := Lib.hid (show wr.heap.size < (wr.alloc (.cells #[.int .i64 (a1 : Int), .int .i64 (b1 : Int), .int .i64 (c1 : Int)] 38)).heap.size by simp)
           have HLE := Lib.hid HB.out.size
           generalize wr.heap.size = gb at *
           generalize wr.alloc (.cells #[.int .i64 (a1 : Int), .int .i64 (b1 : Int), .int .i64 (c1 : Int)] 38) = W7 at *
           have hsz := tT_size b1 a1 c1
           obtain ⟨T, hT⟩ : ∃ T, tT b1 a1 c1 = T := ⟨_, rfl⟩
           rw [hT] at HX hsz ⊢
           have hsz9 : T.size ≤ 60 := by have := HBD.out; omega
           clear hsz hT
           have ca := cat_ok ⟨#[58, 119, 104, 101, 114, 101, 40]⟩ T (by simp only [show (⟨#[58, 119, 104, 101, 114, 101, 40]⟩ : ByteArray).size = 7 from rfl]; omega)
           obtain ⟨T1, hT1⟩ : ∃ T1 : ByteArray, ⟨#[58, 119, 104, 101, 114, 101, 40]⟩ ++ T = T1 := ⟨_, rfl⟩
           have hs1 : T1.size ≤ 80 := by rw [← hT1, sz_app]; simp only [show (⟨#[58, 119, 104, 101, 114, 101, 40]⟩ : ByteArray).size = 7 from rfl]; omega
           rw [hT1] at ca
           have cb := cat_ok T1 ⟨#[41]⟩ (by simp only [show (⟨#[41]⟩ : ByteArray).size = 1 from rfl]; omega)
           obtain ⟨T2, hT2⟩ : ∃ T2 : ByteArray, T1 ++ ⟨#[41]⟩ = T2 := ⟨_, rfl⟩
           have HST : Hid (T2.size ≤ 5000000) := by show _ ≤ _; rw [← hT2, sz_app]; simp only [show (⟨#[41]⟩ : ByteArray).size = 1 from rfl]; omega
           rw [hT2] at cb
           have HXT : Hid (selS parseS (ndsS (toks (readS T2))) = some [x]) := by show _ = _; rw [← hT2, ← hT1]; exact HX.out
           clear hs1 hT1 hT2
           clear hsz9
           have HWV : Hid (gr3 (wCx x) W3.zero = ⟨0, 0, 0⟩) := HW
           have z0 : W7.cell? ⟨gb, 0, none⟩ = some (.int .i64 (a1 : Int)) := HC7.out.cell 0
           have z1 : W7.cell? ⟨gb, 1, none⟩ = some (.int .i64 (b1 : Int)) := HC7.out.cell 1
           have z2 : W7.cell? ⟨gb, 2, none⟩ = some (.int .i64 (c1 : Int)) := HC7.out.cell 2
           have f0 : W7.frozen? ⟨gb, 0, none⟩ = false := HC7.out.frozen _
           have f1 : W7.frozen? ⟨gb, 1, none⟩ = false := HC7.out.frozen _
           have f2 : W7.frozen? ⟨gb, 2, none⟩ = false := HC7.out.frozen _
           go_upto_region 32 with (go_at_call 16; (with_reducible refine (round_any how 5 1 _ (by decide) (by decide) HK.out).mono ?_); rintro e w' ⟨rfl, rfl⟩)
           have HC8 : Hid (CB 38 (((W7.setCell ⟨gb, 0, none⟩ (.int .i64 0)).setCell ⟨gb, 1, none⟩ (.int .i64 0)).setCell ⟨gb, 2, none⟩ (.int .i64 0)) gb #[.int .i64 0, .int .i64 0, .int .i64 0]) := ((HC7.out.set 0 (.int .i64 0)).set 1 (.int .i64 0)).set 2 (.int .i64 0)
           have HB8 := Lib.hid (((HB7.out.setCell (p := ⟨gb, 0, none⟩) HLE.out (.int .i64 0)).setCell (p := ⟨gb, 1, none⟩) HLE.out (.int .i64 0)).setCell (p := ⟨gb, 2, none⟩) HLE.out (.int .i64 0))
           have HLB : Hid (gb < (((W7.setCell ⟨gb, 0, none⟩ (.int .i64 0)).setCell ⟨gb, 1, none⟩ (.int .i64 0)).setCell ⟨gb, 2, none⟩ (.int .i64 0)).heap.size) := HC8.out.lt
           clear z0 z1 z2 f0 f1 f2
           generalize ((W7.setCell ⟨gb, 0, none⟩ (.int .i64 0)).setCell ⟨gb, 1, none⟩ (.int .i64 0)).setCell ⟨gb, 2, none⟩ (.int .i64 0) = W8 at *
           go_upto_region 32 with fail
           go_wp2_with fail
           refine (nodes6_any T2 _ HST.out).mono ?_
           rintro e w1 ⟨⟨v1, rfl, hv1⟩, ha1⟩
           go_wp2_with fail
           refine (parse6 T2 HST.out hv1 (HL.out.below (below_seq HB8.out ha1)) HXT.out).mono ?_
           rintro e w2 ⟨⟨L, u, rfl, hr1, hL⟩, hb1⟩
           obtain rfl : L = [x] := hL
           obtain ⟨b, off, cap, hu, _, hrow⟩ := cx_row hr1 (Nat.succ_pos _)
           have hu : u = .slice (some ⟨b, off, none⟩) 1 cap := hu
           subst hu
           obtain ⟨a1', n1, c1', a2, n2, c2, pe, x0, x1, x2, R1⟩ := hrow 0 (Nat.succ_pos _)
           simp only [Nat.zero_mul, Nat.add_zero, List.getElem_cons_zero] at x0 x1 x2 R1
           have hc2 := (HC8.out.below (below_seq ha1 hb1) HLB.out)
           have HB9 := Lib.hid (below_seq (below_seq HB8.out ha1) hb1)
           have ea : ∀ W, (Op.equalIn 10000 38 (.agg (W3.mk 0 0 0).cs) (.agg #[.int .i64 0, .int .i64 0, .int .i64 0])).run Tryz.prog W = .ok true W := fun W => w3_eq (by decide) (by decide) (by decide) W
           go_upto_region 33 with fail
           refine wp_region_held_drew (S := (fun W => W.rangeAt b off [.slice a1' n1 c1', .slice a2 n2 c2, .int .i64 pe] ∧ W.rangeAt gb 0 [.int .i64 0, .int .i64 0, .int .i64 0])) (by kernel_rfl) ⟨range3 x0 x1 x2, range3 (hc2.cell 0) (hc2.cell 1) (hc2.cell 2)⟩ (fun hHeld => ?_)
           have HBd := Lib.hid HB9.out.drew
           have HRd := Lib.hid (R1.below (Below.refl w2.heap.size w2).drew)
           generalize w2.drew = WA at *
           clear x0 x1 x2 hc2 R1 hrow hr1 hb1 ha1 hv1
           refine wTake 0 (v := ?_) rfl (Or.inl ⟨by rfl, ?_⟩) ?_
           rotate_left
           · intro W hSw
             go_simp
             all_goals with_reducible rfl
           try simp only [gA, gB, gC, gD, gE, gF, gG]
           refine wTake 1 (v := ?_) rfl (Or.inl ⟨by rfl, ?_⟩) ?_
           rotate_left
           · intro W hSw
             go_simp
             all_goals with_reducible rfl
           try simp only [gA, gB, gC, gD, gE, gF, gG]
           refine wTake 2 (v := ?_) rfl (Or.inl ⟨by rfl, ?_⟩) ?_
           rotate_left
           · intro W hSw
             go_simp
             all_goals with_reducible rfl
           try simp only [gA, gB, gC, gD, gE, gF, gG]
           refine wTake 3 (v := ?_) rfl (Or.inl ⟨by rfl, ?_⟩) ?_
           rotate_left
           · intro W hSw
             go_simp
             all_goals with_reducible rfl
           try simp only [gA, gB, gC, gD, gE, gF, gG]
           refine wTake 4 (v := ?_) rfl (Or.inl ⟨by rfl, ?_⟩) ?_
           rotate_left
           · intro W hSw
             go_simp
             all_goals with_reducible rfl
           try simp only [gA, gB, gC, gD, gE, gF, gG]
           refine wTake 5 (v := ?_) rfl (Or.inl ⟨by rfl, ?_⟩) ?_
           rotate_left
           · intro W hSw
             go_simp
             all_goals with_reducible rfl
           try simp only [gA, gB, gC, gD, gE, gF, gG]
           refine wTake 6 (v := ?_) rfl (Or.inl ⟨by rfl, ?_⟩) ?_
           rotate_left
           · intro W hSw
             go_simp
             all_goals with_reducible rfl
           try simp only [gA, gB, gC, gD, gE, gF, gG]
           refine wTake 7 (v := ?_) rfl (Or.inl ⟨by rfl, ?_⟩) ?_
           rotate_left
           · intro W hSw
             go_simp
             all_goals with_reducible rfl
           try simp only [gA, gB, gC, gD, gE, gF, gG]
           refine wTake 8 (v := ?_) rfl (Or.inl ⟨by rfl, ?_⟩) ?_
           rotate_left
           · intro W hSw
             go_simp
             all_goals with_reducible rfl
           try simp only [gA, gB, gC, gD, gE, gF, gG]
           refine wTake 9 (v := ?_) rfl (Or.inl ⟨by rfl, ?_⟩) ?_
           rotate_left
           · intro W hSw
             go_simp
             all_goals with_reducible rfl
           try simp only [gA, gB, gC, gD, gE, gF, gG]
           refine wTake 10 (v := _) rfl (yieldsIf_load_mid (by rfl) 33 (.tmp 125) rfl b off rfl [.slice a1' n1 c1', .slice a2 n2 c2, .int .i64 pe] _ (fun _ h => h.1) Tryz.underlying33 (by rfl) (by kernel_rfl)) ?_
           try simp only [gA, gB, gC, gD, gE, gF, gG]
           refine wTake 12 (v := _) rfl (yieldsIf_load_mid (by rfl) 38 (.tmp 13) rfl gb 0 rfl [.int .i64 0, .int .i64 0, .int .i64 0] _ (fun _ h => h.2) Tryz.underlying38 (by rfl) w3_size) ?_
           try simp only [gA, gB, gC, gD, gE, gF, gG]
           refine wpAnyH_ready (rs := [11]) (by kernel_rfl) (by simp) ?_
           refine AllReadyH.cons (o := _) rfl (fun K hK => ?_) AllReadyH.nil
           simp only [List.getElem_toArray, List.getElem_cons_zero, List.getElem_cons_succ]
           rw [if_pos (by rfl)]
           go_simp
           refine (weigh_cx HRd.out HOK.out HN.out HZ.out HWV.out).mono ?_
           rintro e wB ⟨rfl, hbB⟩
           have HBB := Lib.hid (below_seq HBd.out hbB)
           have hSB : (fun W => W.rangeAt b off [.slice a1' n1 c1', .slice a2 n2 c2, .int .i64 pe] ∧ W.rangeAt gb 0 [.int .i64 0, .int .i64 0, .int .i64 0]) wB := ⟨range_below hHeld.1 hbB, range_below hHeld.2 hbB⟩
           clear hbB hHeld
           go_simp
           refine hK.out _ _ hSB (fun hHeld => ?_)
           clear hK K
           try simp only [gA, gB, gC, gD, gE, gF, gG]
           refine wTake 13 (v := ?_) rfl (Or.inl ⟨by rfl, ?_⟩) ?_
           rotate_left
           · intro W hSw
             go_simp
             all_goals with_reducible rfl
           try simp only [gA, gB, gC, gD, gE, gF, gG]
           refine wTake 14 (v := ?_) rfl (Or.inl ⟨by rfl, ?_⟩) ?_
           rotate_left
           · intro W hSw
             go_simp
             all_goals with_reducible rfl
           try simp only [gA, gB, gC, gD, gE, gF, gG]
           refine wTake 15 (v := ?_) rfl (Or.inl ⟨by rfl, ?_⟩) ?_
           rotate_left
           · intro W hSw
             go_simp
             all_goals with_reducible rfl
           try simp only [gA, gB, gC, gD, gE, gF, gG]
           refine wpAnyH_ready (rs := [16]) (by kernel_rfl) (by simp) ?_
           refine AllReadyH.cons (o := _) rfl (fun K hK => ?_) AllReadyH.nil
           simp only [List.getElem_toArray, List.getElem_cons_zero, List.getElem_cons_succ]
           rw [if_pos (by rfl)]
           go_simp
           refine (awake6_any _ (HL.out.below HBB.out) (HT.out.below HBB.out)).mono ?_
           rintro e wC ⟨rfl, hbC⟩
           have HBC := Lib.hid (below_seq HBB.out hbC)
           have hSC : (fun W => W.rangeAt b off [.slice a1' n1 c1', .slice a2 n2 c2, .int .i64 pe] ∧ W.rangeAt gb 0 [.int .i64 0, .int .i64 0, .int .i64 0]) wC := ⟨range_below hHeld.1 hbC, range_below hHeld.2 hbC⟩
           clear hbC hHeld hSB
           go_simp
           refine hK.out _ _ hSC (fun hHeld => ?_)
           clear hK K
           try simp only [gA, gB, gC, gD, gE, gF, gG]
           refine wTake 17 (v := ?_) rfl (Or.inl ⟨by rfl, ?_⟩) ?_
           rotate_left
           · intro W hSw
             go_simp
             all_goals with_reducible rfl
           try simp only [gA, gB, gC, gD, gE, gF, gG]
           refine wTake 18 (v := ?_) rfl (Or.inl ⟨by rfl, ?_⟩) ?_
           rotate_left
           · intro W hSw
             go_simp
             all_goals with_reducible rfl
           try simp only [gA, gB, gC, gD, gE, gF, gG]
           refine wpAnyH_done (by kernel_rfl) ?_ _
           go_wp2
           go_ret
           exact ⟨rfl, HBC.out⟩
theorem weights_3 (w : World) (a b c : Nat) (how : Int) (hl : TabL w) (ht : Tab w) (ha : a ≤ 5) (hb : b ≤ 5) (hc : c ≤ 3) (hk : how % 5 = 3) :
    Calls Tryz.prog 4 #[.int .i64 a, .int .i64 b, .int .i64 c, .int .i64 how] w fun e w' => e = .returned (.bool true) ∧ Below w.heap.size w w' := by
  obtain ⟨x, hx, hok, hn, hz, hw⟩ := wg_at ha hb hc (k := 3) (by decide)
  have HL := Lib.hid hl
  have HT := Lib.hid ht
  have HK := Lib.hid hk
  have HX := Lib.hid hx
  have HOK := Lib.hid hok
  have HN := Lib.hid hn
  have HZ := Lib.hid hz
  have HW := Lib.hid hw
  have HBD : Hid (a ≤ 5 ∧ b ≤ 5 ∧ c ≤ 3) := ⟨ha, hb, hc⟩
  have a0 : ¬ (a : Int) < 0 := by omega
  have a5 : ¬ (5 : Int) < (a : Int) := by omega
  have b0 : ¬ (b : Int) < 0 := by omega
  have b5 : ¬ (5 : Int) < (b : Int) := by omega
  have c0 : ¬ (c : Int) < 0 := by omega
  have c3 : ¬ (3 : Int) < (c : Int) := by omega
  clear hl ht hk hx hok hn hz hw ha hb hc
  go_enter Tryz.func4, Tryz.ntmps4
  go_wp2
  go_loopw [9, 10] (fun sv iv wr => ∃ i : Nat, iv = .int .i64 i ∧ sv = .string (kT i) ∧ i ≤ b ∧ Below w.heap.size w wr) (fun _ iv _ => b - (intOf iv).toNat)
  case atStart => exact ⟨0, rfl, rfl, Nat.zero_le _, Below.refl _ _⟩
  case round =>
   obtain ⟨b1, rfl, rfl, hin, hB⟩ := hrel
   have HB := Lib.hid hB
   clear hB
   by_cases hlt : b1 < b
   · have hltI : (b1 : Int) < (b : Int) := by omega
     have cc := cat_ok (kT b1) ⟨#[46, 107]⟩ (by have := kT_size b1; have := HBD.out; simp only [show ∀ b : UInt8, ∀ c : UInt8, (⟨#[b, c]⟩ : ByteArray).size = 2 from fun _ _ => rfl]; omega)
     rw [show (kT b1) ++ ⟨#[46, 107]⟩ = kT (b1 + 1) from rfl] at cc
     have hwi := wrap_succ1 (i := b1) (by have := HBD.out; omega)
     go_wp2
     go_roundw
     case rel => exact ⟨b1 + 1, by first | rfl | exact congrArg (Value.int .i64) hwi, rfl, hlt, HB.out⟩
     case measure => first | (rw [hwi]; exact meas_succ hlt) | exact meas_succ hlt
   · obtain rfl : b1 = b := by omega
     have hltI : ¬ (b1 : Int) < (b1 : Int) := Int.lt_irrefl _
     clear hin hlt
     go_wp2
     go_loopw [9, 11] (fun sv iv wr => ∃ i : Nat, iv = .int .i64 i ∧ sv = .string (iT b1 i) ∧ i ≤ a ∧ Below w.heap.size w wr) (fun _ iv _ => a - (intOf iv).toNat)
     case atStart => exact ⟨0, rfl, rfl, Nat.zero_le _, HB.out⟩
     case round =>
      obtain ⟨a1, rfl, rfl, hin, hB⟩ := hrel
      have HB := Lib.hid hB
      clear hB
      by_cases hlt : a1 < a
      · have hltI : (a1 : Int) < (a : Int) := by omega
        have cc := cat_ok (iT b1 a1) ⟨#[35, 105]⟩ (by have := iT_size b1 a1; have := HBD.out; simp only [show ∀ b : UInt8, ∀ c : UInt8, (⟨#[b, c]⟩ : ByteArray).size = 2 from fun _ _ => rfl]; omega)
        rw [show (iT b1 a1) ++ ⟨#[35, 105]⟩ = iT b1 (a1 + 1) from rfl] at cc
        have hwi := wrap_succ1 (i := a1) (by have := HBD.out; omega)
        go_wp2
        go_roundw
        case rel => exact ⟨a1 + 1, by first | rfl | exact congrArg (Value.int .i64) hwi, rfl, hlt, HB.out⟩
        case measure => first | (rw [hwi]; exact meas_succ hlt) | exact meas_succ hlt
      · obtain rfl : a1 = a := by omega
        have hltI : ¬ (a1 : Int) < (a1 : Int) := Int.lt_irrefl _
        clear hin hlt
        go_wp2
        go_loopw [9, 12] (fun sv iv wr => ∃ i : Nat, iv = .int .i64 i ∧ sv = .string (tT b1 a1 i) ∧ i ≤ c ∧ Below w.heap.size w wr) (fun _ iv _ => c - (intOf iv).toNat)
        case atStart => exact ⟨0, rfl, rfl, Nat.zero_le _, HB.out⟩
        case round =>
         obtain ⟨c1, rfl, rfl, hin, hB⟩ := hrel
         have HB := Lib.hid hB
         clear hB
         by_cases hlt : c1 < c
         · have hltI : (c1 : Int) < (c : Int) := by omega
           have cc := cat_ok ⟨#[116, 32]⟩ (tT b1 a1 c1) (by have := tT_size b1 a1 c1; have := HBD.out; simp only [show ∀ b : UInt8, ∀ c : UInt8, (⟨#[b, c]⟩ : ByteArray).size = 2 from fun _ _ => rfl]; omega)
           rw [show ⟨#[116, 32]⟩ ++ (tT b1 a1 c1) = tT b1 a1 (c1 + 1) from rfl] at cc
           have hwi := wrap_succ1 (i := c1) (by have := HBD.out; omega)
           go_wp2
           go_roundw
           case rel => exact ⟨c1 + 1, by first | rfl | exact congrArg (Value.int .i64) hwi, rfl, hlt, HB.out⟩
           case measure => first | (rw [hwi]; exact meas_succ hlt) | exact meas_succ hlt
         · obtain rfl : c1 = c := by omega
           have hltI : ¬ (c1 : Int) < (c1 : Int) := Int.lt_irrefl _
           clear hin hlt
           clear a0 a5 b0 b5 c0 c3
           go_upto_region 17 with fail
           have HC7 := Lib.hid (CB.new (T := 38) wr #[.int .i64 (a1 : Int), .int .i64 (b1 : Int), .int .i64 (c1 : Int)])
           have HB7 := Lib.hid (below_seq HB.out (bel_newS wr (.cells #[.int .i64 (a1 : Int), .int .i64 (b1 : Int), .int .i64 (c1 : Int)] 38)))
           have HL7 := Lib.hid (show wr.heap.size < (wr.alloc (.cells #[.int .i64 (a1 : Int), .int .i64 (b1 : Int), .int .i64 (c1 : Int)] 38)).heap.size by simp)
           have HLE := Lib.hid HB.out.size
           generalize wr.heap.size = gb at *
           generalize wr.alloc (.cells #[.int .i64 (a1 : Int), .int .i64 (b1 : Int), .int .i64 (c1 : Int)] 38) = W7 at *
           have hsz := tT_size b1 a1 c1
           obtain ⟨T, hT⟩ : ∃ T, tT b1 a1 c1 = T := ⟨_, rfl⟩
           rw [hT] at HX hsz ⊢
           have hsz9 : T.size ≤ 60 := by have := HBD.out; omega
           clear hsz hT
           have ca := cat_ok ⟨#[120, 58, 110, 111, 116, 40]⟩ T (by simp only [show (⟨#[120, 58, 110, 111, 116, 40]⟩ : ByteArray).size = 6 from rfl]; omega)
           obtain ⟨T1, hT1⟩ : ∃ T1 : ByteArray, ⟨#[120, 58, 110, 111, 116, 40]⟩ ++ T = T1 := ⟨_, rfl⟩
           have hs1 : T1.size ≤ 80 := by rw [← hT1, sz_app]; simp only [show (⟨#[120, 58, 110, 111, 116, 40]⟩ : ByteArray).size = 6 from rfl]; omega
           rw [hT1] at ca
           have cb := cat_ok T1 ⟨#[41]⟩ (by simp only [show (⟨#[41]⟩ : ByteArray).size = 1 from rfl]; omega)
           obtain ⟨T2, hT2⟩ : ∃ T2 : ByteArray, T1 ++ ⟨#[41]⟩ = T2 := ⟨_, rfl⟩
           have HST : Hid (T2.size ≤ 5000000) := by show _ ≤ _; rw [← hT2, sz_app]; simp only [show (⟨#[41]⟩ : ByteArray).size = 1 from rfl]; omega
           rw [hT2] at cb
           have HXT : Hid (selS parseS (ndsS (toks (readS T2))) = some [x]) := by show _ = _; rw [← hT2, ← hT1]; exact HX.out
           clear hs1 hT1 hT2
           clear hsz9
           have HWV : Hid (gr3 (wCx x) W3.zero = ⟨(a1 : Int), (b1 : Int), ((c1 : Int) + 1)⟩) := HW
           have z0 : W7.cell? ⟨gb, 0, none⟩ = some (.int .i64 (a1 : Int)) := HC7.out.cell 0
           have z1 : W7.cell? ⟨gb, 1, none⟩ = some (.int .i64 (b1 : Int)) := HC7.out.cell 1
           have z2 : W7.cell? ⟨gb, 2, none⟩ = some (.int .i64 (c1 : Int)) := HC7.out.cell 2
           have f0 : W7.frozen? ⟨gb, 0, none⟩ = false := HC7.out.frozen _
           have f1 : W7.frozen? ⟨gb, 1, none⟩ = false := HC7.out.frozen _
           have f2 : W7.frozen? ⟨gb, 2, none⟩ = false := HC7.out.frozen _
           have hw2 := wrap_succ1 (i := c1) (by have := HBD.out; omega)
           go_upto_region 32 with (go_at_call 16; (with_reducible refine (round_any how 5 3 _ (by decide) (by decide) HK.out).mono ?_); rintro e w' ⟨rfl, rfl⟩)
           rw [hw2]
           have HC8 : Hid (CB 38 (W7.setCell ⟨gb, 2, none⟩ (.int .i64 ((c1 : Int) + 1))) gb #[.int .i64 (a1 : Int), .int .i64 (b1 : Int), .int .i64 ((c1 : Int) + 1)]) := HC7.out.set 2 (.int .i64 ((c1 : Int) + 1))
           have HB8 := Lib.hid (HB7.out.setCell (p := ⟨gb, 2, none⟩) HLE.out (.int .i64 ((c1 : Int) + 1)))
           have HLB : Hid (gb < (W7.setCell ⟨gb, 2, none⟩ (.int .i64 ((c1 : Int) + 1))).heap.size) := HC8.out.lt
           clear z0 z1 z2 f0 f1 f2 hw2
           generalize W7.setCell ⟨gb, 2, none⟩ (.int .i64 ((c1 : Int) + 1)) = W8 at *
           go_upto_region 32 with fail
           go_wp2_with fail
           refine (nodes6_any T2 _ HST.out).mono ?_
           rintro e w1 ⟨⟨v1, rfl, hv1⟩, ha1⟩
           go_wp2_with fail
           refine (parse6 T2 HST.out hv1 (HL.out.below (below_seq HB8.out ha1)) HXT.out).mono ?_
           rintro e w2 ⟨⟨L, u, rfl, hr1, hL⟩, hb1⟩
           obtain rfl : L = [x] := hL
           obtain ⟨b, off, cap, hu, _, hrow⟩ := cx_row hr1 (Nat.succ_pos _)
           have hu : u = .slice (some ⟨b, off, none⟩) 1 cap := hu
           subst hu
           obtain ⟨a1', n1, c1', a2, n2, c2, pe, x0, x1, x2, R1⟩ := hrow 0 (Nat.succ_pos _)
           simp only [Nat.zero_mul, Nat.add_zero, List.getElem_cons_zero] at x0 x1 x2 R1
           have hc2 := (HC8.out.below (below_seq ha1 hb1) HLB.out)
           have HB9 := Lib.hid (below_seq (below_seq HB8.out ha1) hb1)
           have ea : ∀ W, (Op.equalIn 10000 38 (.agg (W3.mk (a1 : Int) (b1 : Int) ((c1 : Int) + 1)).cs) (.agg #[.int .i64 (a1 : Int), .int .i64 (b1 : Int), .int .i64 ((c1 : Int) + 1)])).run Tryz.prog W = .ok true W := fun W => w3_eq (wf_nat (by have := HBD.out; omega)) (wf_nat (by have := HBD.out; omega)) (wf_nat (n := c1 + 1) (by have := HBD.out; omega)) W
           go_upto_region 33 with fail
           refine wp_region_held_drew (S := (fun W => W.rangeAt b off [.slice a1' n1 c1', .slice a2 n2 c2, .int .i64 pe] ∧ W.rangeAt gb 0 [.int .i64 (a1 : Int), .int .i64 (b1 : Int), .int .i64 ((c1 : Int) + 1)])) (by kernel_rfl) ⟨range3 x0 x1 x2, range3 (hc2.cell 0) (hc2.cell 1) (hc2.cell 2)⟩ (fun hHeld => ?_)
           have HBd := Lib.hid HB9.out.drew
           have HRd := Lib.hid (R1.below (Below.refl w2.heap.size w2).drew)
           generalize w2.drew = WA at *
           clear x0 x1 x2 hc2 R1 hrow hr1 hb1 ha1 hv1
           refine wTake 0 (v := ?_) rfl (Or.inl ⟨by rfl, ?_⟩) ?_
           rotate_left
           · intro W hSw
             go_simp
             all_goals with_reducible rfl
           try simp only [gA, gB, gC, gD, gE, gF, gG]
           refine wTake 1 (v := ?_) rfl (Or.inl ⟨by rfl, ?_⟩) ?_
           rotate_left
           · intro W hSw
             go_simp
             all_goals with_reducible rfl
           try simp only [gA, gB, gC, gD, gE, gF, gG]
           refine wTake 2 (v := ?_) rfl (Or.inl ⟨by rfl, ?_⟩) ?_
           rotate_left
           · intro W hSw
             go_simp
             all_goals with_reducible rfl
           try simp only [gA, gB, gC, gD, gE, gF, gG]
           refine wTake 3 (v := ?_) rfl (Or.inl ⟨by rfl, ?_⟩) ?_
           rotate_left
           · intro W hSw
             go_simp
             all_goals with_reducible rfl
           try simp only [gA, gB, gC, gD, gE, gF, gG]
           refine wTake 4 (v := ?_) rfl (Or.inl ⟨by rfl, ?_⟩) ?_
           rotate_left
           · intro W hSw
             go_simp
             all_goals with_reducible rfl
           try simp only [gA, gB, gC, gD, gE, gF, gG]
           refine wTake 5 (v := ?_) rfl (Or.inl ⟨by rfl, ?_⟩) ?_
           rotate_left
           · intro W hSw
             go_simp
             all_goals with_reducible rfl
           try simp only [gA, gB, gC, gD, gE, gF, gG]
           refine wTake 6 (v := ?_) rfl (Or.inl ⟨by rfl, ?_⟩) ?_
           rotate_left
           · intro W hSw
             go_simp
             all_goals with_reducible rfl
           try simp only [gA, gB, gC, gD, gE, gF, gG]
           refine wTake 7 (v := ?_) rfl (Or.inl ⟨by rfl, ?_⟩) ?_
           rotate_left
           · intro W hSw
             go_simp
             all_goals with_reducible rfl
           try simp only [gA, gB, gC, gD, gE, gF, gG]
           refine wTake 8 (v := ?_) rfl (Or.inl ⟨by rfl, ?_⟩) ?_
           rotate_left
           · intro W hSw
             go_simp
             all_goals with_reducible rfl
           try simp only [gA, gB, gC, gD, gE, gF, gG]
           refine wTake 9 (v := ?_) rfl (Or.inl ⟨by rfl, ?_⟩) ?_
           rotate_left
           · intro W hSw
             go_simp
             all_goals with_reducible rfl
           try simp only [gA, gB, gC, gD, gE, gF, gG]
           refine wTake 10 (v := _) rfl (yieldsIf_load_mid (by rfl) 33 (.tmp 125) rfl b off rfl [.slice a1' n1 c1', .slice a2 n2 c2, .int .i64 pe] _ (fun _ h => h.1) Tryz.underlying33 (by rfl) (by kernel_rfl)) ?_
           try simp only [gA, gB, gC, gD, gE, gF, gG]
           refine wTake 12 (v := _) rfl (yieldsIf_load_mid (by rfl) 38 (.tmp 13) rfl gb 0 rfl [.int .i64 (a1 : Int), .int .i64 (b1 : Int), .int .i64 ((c1 : Int) + 1)] _ (fun _ h => h.2) Tryz.underlying38 (by rfl) w3_size) ?_
           try simp only [gA, gB, gC, gD, gE, gF, gG]
           refine wpAnyH_ready (rs := [11]) (by kernel_rfl) (by simp) ?_
           refine AllReadyH.cons (o := _) rfl (fun K hK => ?_) AllReadyH.nil
           simp only [List.getElem_toArray, List.getElem_cons_zero, List.getElem_cons_succ]
           rw [if_pos (by rfl)]
           go_simp
           refine (weigh_cx HRd.out HOK.out HN.out HZ.out HWV.out).mono ?_
           rintro e wB ⟨rfl, hbB⟩
           have HBB := Lib.hid (below_seq HBd.out hbB)
           have hSB : (fun W => W.rangeAt b off [.slice a1' n1 c1', .slice a2 n2 c2, .int .i64 pe] ∧ W.rangeAt gb 0 [.int .i64 (a1 : Int), .int .i64 (b1 : Int), .int .i64 ((c1 : Int) + 1)]) wB := ⟨range_below hHeld.1 hbB, range_below hHeld.2 hbB⟩
           clear hbB hHeld
           go_simp
           refine hK.out _ _ hSB (fun hHeld => ?_)
           clear hK K
           try simp only [gA, gB, gC, gD, gE, gF, gG]
           refine wTake 13 (v := ?_) rfl (Or.inl ⟨by rfl, ?_⟩) ?_
           rotate_left
           · intro W hSw
             go_simp
             all_goals with_reducible rfl
           try simp only [gA, gB, gC, gD, gE, gF, gG]
           refine wTake 14 (v := ?_) rfl (Or.inl ⟨by rfl, ?_⟩) ?_
           rotate_left
           · intro W hSw
             go_simp
             all_goals with_reducible rfl
           try simp only [gA, gB, gC, gD, gE, gF, gG]
           refine wTake 15 (v := ?_) rfl (Or.inl ⟨by rfl, ?_⟩) ?_
           rotate_left
           · intro W hSw
             go_simp
             all_goals with_reducible rfl
           try simp only [gA, gB, gC, gD, gE, gF, gG]
           refine wpAnyH_ready (rs := [16]) (by kernel_rfl) (by simp) ?_
           refine AllReadyH.cons (o := _) rfl (fun K hK => ?_) AllReadyH.nil
           simp only [List.getElem_toArray, List.getElem_cons_zero, List.getElem_cons_succ]
           rw [if_pos (by rfl)]
           go_simp
           refine (awake6_any _ (HL.out.below HBB.out) (HT.out.below HBB.out)).mono ?_
           rintro e wC ⟨rfl, hbC⟩
           have HBC := Lib.hid (below_seq HBB.out hbC)
           have hSC : (fun W => W.rangeAt b off [.slice a1' n1 c1', .slice a2 n2 c2, .int .i64 pe] ∧ W.rangeAt gb 0 [.int .i64 (a1 : Int), .int .i64 (b1 : Int), .int .i64 ((c1 : Int) + 1)]) wC := ⟨range_below hHeld.1 hbC, range_below hHeld.2 hbC⟩
           clear hbC hHeld hSB
           go_simp
           refine hK.out _ _ hSC (fun hHeld => ?_)
           clear hK K
           try simp only [gA, gB, gC, gD, gE, gF, gG]
           refine wTake 17 (v := ?_) rfl (Or.inl ⟨by rfl, ?_⟩) ?_
           rotate_left
           · intro W hSw
             go_simp
             all_goals with_reducible rfl
           try simp only [gA, gB, gC, gD, gE, gF, gG]
           refine wTake 18 (v := ?_) rfl (Or.inl ⟨by rfl, ?_⟩) ?_
           rotate_left
           · intro W hSw
             go_simp
             all_goals with_reducible rfl
           try simp only [gA, gB, gC, gD, gE, gF, gG]
           refine wpAnyH_done (by kernel_rfl) ?_ _
           go_wp2
           go_ret
           exact ⟨rfl, HBC.out⟩
theorem weights_4 (w : World) (a b c : Nat) (how : Int) (hl : TabL w) (ht : Tab w) (ha : a ≤ 5) (hb : b ≤ 5) (hc : c ≤ 3) (hk : how % 5 = 4) :
    Calls Tryz.prog 4 #[.int .i64 a, .int .i64 b, .int .i64 c, .int .i64 how] w fun e w' => e = .returned (.bool true) ∧ Below w.heap.size w w' := by
  obtain ⟨x, hx, hok, hn, hz, hw⟩ := wg_at ha hb hc (k := 4) (by decide)
  have HL := Lib.hid hl
  have HT := Lib.hid ht
  have HK := Lib.hid hk
  have HX := Lib.hid hx
  have HOK := Lib.hid hok
  have HN := Lib.hid hn
  have HZ := Lib.hid hz
  have HW := Lib.hid hw
  have HBD : Hid (a ≤ 5 ∧ b ≤ 5 ∧ c ≤ 3) := ⟨ha, hb, hc⟩
  have a0 : ¬ (a : Int) < 0 := by omega
  have a5 : ¬ (5 : Int) < (a : Int) := by omega
  have b0 : ¬ (b : Int) < 0 := by omega
  have b5 : ¬ (5 : Int) < (b : Int) := by omega
  have c0 : ¬ (c : Int) < 0 := by omega
  have c3 : ¬ (3 : Int) < (c : Int) := by omega
  clear hl ht hk hx hok hn hz hw ha hb hc
  go_enter Tryz.func4, Tryz.ntmps4
  go_wp2
  go_loopw [9, 10] (fun sv iv wr => ∃ i : Nat, iv = .int .i64 i ∧ sv = .string (kT i) ∧ i ≤ b ∧ Below w.heap.size w wr) (fun _ iv _ => b - (intOf iv).toNat)
  case atStart => exact ⟨0, rfl, rfl, Nat.zero_le _, Below.refl _ _⟩
  case round =>
   obtain ⟨b1, rfl, rfl, hin, hB⟩ := hrel
   have HB := Lib.hid hB
   clear hB
   by_cases hlt : b1 < b
   · have hltI : (b1 : Int) < (b : Int) := by omega
     have cc := cat_ok (kT b1) ⟨#[46, 107]⟩ (by have := kT_size b1; have := HBD.out; simp only [show ∀ b : UInt8, ∀ c : UInt8, (⟨#[b, c]⟩ : ByteArray).size = 2 from fun _ _ => rfl]; omega)
     rw [show (kT b1) ++ ⟨#[46, 107]⟩ = kT (b1 + 1) from rfl] at cc
     have hwi := wrap_succ1 (i := b1) (by have := HBD.out; omega)
     go_wp2
     go_roundw
     case rel => exact ⟨b1 + 1, by first | rfl | exact congrArg (Value.int .i64) hwi, rfl, hlt, HB.out⟩
     case measure => first | (rw [hwi]; exact meas_succ hlt) | exact meas_succ hlt
   · obtain rfl : b1 = b := by omega
     have hltI : ¬ (b1 : Int) < (b1 : Int) := Int.lt_irrefl _
     clear hin hlt
     go_wp2
     go_loopw [9, 11] (fun sv iv wr => ∃ i : Nat, iv = .int .i64 i ∧ sv = .string (iT b1 i) ∧ i ≤ a ∧ Below w.heap.size w wr) (fun _ iv _ => a - (intOf iv).toNat)
     case atStart => exact ⟨0, rfl, rfl, Nat.zero_le _, HB.out⟩
     case round =>
      obtain ⟨a1, rfl, rfl, hin, hB⟩ := hrel
      have HB := Lib.hid hB
      clear hB
      by_cases hlt : a1 < a
      · have hltI : (a1 : Int) < (a : Int) := by omega
        have cc := cat_ok (iT b1 a1) ⟨#[35, 105]⟩ (by have := iT_size b1 a1; have := HBD.out; simp only [show ∀ b : UInt8, ∀ c : UInt8, (⟨#[b, c]⟩ : ByteArray).size = 2 from fun _ _ => rfl]; omega)
        rw [show (iT b1 a1) ++ ⟨#[35, 105]⟩ = iT b1 (a1 + 1) from rfl] at cc
        have hwi := wrap_succ1 (i := a1) (by have := HBD.out; omega)
        go_wp2
        go_roundw
        case rel => exact ⟨a1 + 1, by first | rfl | exact congrArg (Value.int .i64) hwi, rfl, hlt, HB.out⟩
        case measure => first | (rw [hwi]; exact meas_succ hlt) | exact meas_succ hlt
      · obtain rfl : a1 = a := by omega
        have hltI : ¬ (a1 : Int) < (a1 : Int) := Int.lt_irrefl _
        clear hin hlt
        go_wp2
        go_loopw [9, 12] (fun sv iv wr => ∃ i : Nat, iv = .int .i64 i ∧ sv = .string (tT b1 a1 i) ∧ i ≤ c ∧ Below w.heap.size w wr) (fun _ iv _ => c - (intOf iv).toNat)
        case atStart => exact ⟨0, rfl, rfl, Nat.zero_le _, HB.out⟩
        case round =>
         obtain ⟨c1, rfl, rfl, hin, hB⟩ := hrel
         have HB := Lib.hid hB
         clear hB
         by_cases hlt : c1 < c
         · have hltI : (c1 : Int) < (c : Int) := by omega
           have cc := cat_ok ⟨#[116, 32]⟩ (tT b1 a1 c1) (by have := tT_size b1 a1 c1; have := HBD.out; simp only [show ∀ b : UInt8, ∀ c : UInt8, (⟨#[b, c]⟩ : ByteArray).size = 2 from fun _ _ => rfl]; omega)
           rw [show ⟨#[116, 32]⟩ ++ (tT b1 a1 c1) = tT b1 a1 (c1 + 1) from rfl] at cc
           have hwi := wrap_succ1 (i := c1) (by have := HBD.out; omega)
           go_wp2
           go_roundw
           case rel => exact ⟨c1 + 1, by first | rfl | exact congrArg (Value.int .i64) hwi, rfl, hlt, HB.out⟩
           case measure => first | (rw [hwi]; exact meas_succ hlt) | exact meas_succ hlt
         · obtain rfl : c1 = c := by omega
           have hltI : ¬ (c1 : Int) < (c1 : Int) := Int.lt_irrefl _
           clear hin hlt
           clear a0 a5 b0 b5 c0 c3
           go_upto_region 17 with fail
           have HC7 := Lib.hid (CB.new (T := 38) wr #[.int .i64 (a1 : Int), .int .i64 (b1 : Int), .int .i64 (c1 : Int)])
           have HB7 := Lib.hid (below_seq HB.out (bel_newS wr (.cells #[.int .i64 (a1 : Int), .int .i64 (b1 : Int), .int .i64 (c1 : Int)] 38)))
           have HL7 := Lib.hid (show wr.heap.size < (wr.alloc (.cells #[.int .i64 (a1 : Int), .int .i64 (b1 : Int), .int .i64 (c1 : Int)] 38)).heap.size by simp)
           have HLE := Lib.hid HB.out.size
           generalize wr.heap.size = gb at *
           generalize wr.alloc (.cells #[.int .i64 (a1 : Int), .int .i64 (b1 : Int), .int .i64 (c1 : Int)] 38) = W7 at *
           have hsz := tT_size b1 a1 c1
           obtain ⟨T, hT⟩ : ∃ T, tT b1 a1 c1 = T := ⟨_, rfl⟩
           rw [hT] at HX hsz ⊢
           have hsz9 : T.size ≤ 60 := by have := HBD.out; omega
           clear hsz hT
           have ca := cat_ok ⟨#[58, 110, 116, 104, 45, 99, 104, 105, 108, 100, 40, 50, 110, 32, 111, 102, 32]⟩ T (by simp only [show (⟨#[58, 110, 116, 104, 45, 99, 104, 105, 108, 100, 40, 50, 110, 32, 111, 102, 32]⟩ : ByteArray).size = 17 from rfl]; omega)
           obtain ⟨T1, hT1⟩ : ∃ T1 : ByteArray, ⟨#[58, 110, 116, 104, 45, 99, 104, 105, 108, 100, 40, 50, 110, 32, 111, 102, 32]⟩ ++ T = T1 := ⟨_, rfl⟩
           have hs1 : T1.size ≤ 80 := by rw [← hT1, sz_app]; simp only [show (⟨#[58, 110, 116, 104, 45, 99, 104, 105, 108, 100, 40, 50, 110, 32, 111, 102, 32]⟩ : ByteArray).size = 17 from rfl]; omega
           rw [hT1] at ca
           have cb := cat_ok T1 ⟨#[41, 58, 58, 97, 102, 116, 101, 114]⟩ (by simp only [show (⟨#[41, 58, 58, 97, 102, 116, 101, 114]⟩ : ByteArray).size = 8 from rfl]; omega)
           obtain ⟨T2, hT2⟩ : ∃ T2 : ByteArray, T1 ++ ⟨#[41, 58, 58, 97, 102, 116, 101, 114]⟩ = T2 := ⟨_, rfl⟩
           have HST : Hid (T2.size ≤ 5000000) := by show _ ≤ _; rw [← hT2, sz_app]; simp only [show (⟨#[41, 58, 58, 97, 102, 116, 101, 114]⟩ : ByteArray).size = 8 from rfl]; omega
           rw [hT2] at cb
           have HXT : Hid (selS parseS (ndsS (toks (readS T2))) = some [x]) := by show _ = _; rw [← hT2, ← hT1]; exact HX.out
           clear hs1 hT1 hT2
           clear hsz9
           have HWV : Hid (gr3 (wCx x) W3.zero = ⟨(a1 : Int), ((b1 : Int) + 1), ((c1 : Int) + 1)⟩) := HW
           have z0 : W7.cell? ⟨gb, 0, none⟩ = some (.int .i64 (a1 : Int)) := HC7.out.cell 0
           have z1 : W7.cell? ⟨gb, 1, none⟩ = some (.int .i64 (b1 : Int)) := HC7.out.cell 1
           have z2 : W7.cell? ⟨gb, 2, none⟩ = some (.int .i64 (c1 : Int)) := HC7.out.cell 2
           have f0 : W7.frozen? ⟨gb, 0, none⟩ = false := HC7.out.frozen _
           have f1 : W7.frozen? ⟨gb, 1, none⟩ = false := HC7.out.frozen _
           have f2 : W7.frozen? ⟨gb, 2, none⟩ = false := HC7.out.frozen _
           have hw2 := wrap_succ1 (i := c1) (by have := HBD.out; omega)
           have hw1 := wrap_succ1 (i := b1) (by have := HBD.out; omega)
           go_upto_region 31 with (go_at_call 16; (with_reducible refine (round_any how 5 4 _ (by decide) (by decide) HK.out).mono ?_); rintro e w' ⟨rfl, rfl⟩)
           rw [hw1]
           have HCa : Hid (CB 38 (W7.setCell ⟨gb, 1, none⟩ (.int .i64 ((b1 : Int) + 1))) gb #[.int .i64 (a1 : Int), .int .i64 ((b1 : Int) + 1), .int .i64 (c1 : Int)]) := HC7.out.set 1 (.int .i64 ((b1 : Int) + 1))
           have HBa := Lib.hid (HB7.out.setCell (p := ⟨gb, 1, none⟩) HLE.out (.int .i64 ((b1 : Int) + 1)))
           clear z0 z1 z2 f0 f1 f2 hw1
           generalize W7.setCell ⟨gb, 1, none⟩ (.int .i64 ((b1 : Int) + 1)) = W6 at *
           have z2 : W6.cell? ⟨gb, 2, none⟩ = some (.int .i64 (c1 : Int)) := HCa.out.cell 2
           have f2 : W6.frozen? ⟨gb, 2, none⟩ = false := HCa.out.frozen _
           go_upto_region 32 with fail
           rw [hw2]
           have HC8 : Hid (CB 38 (W6.setCell ⟨gb, 2, none⟩ (.int .i64 ((c1 : Int) + 1))) gb #[.int .i64 (a1 : Int), .int .i64 ((b1 : Int) + 1), .int .i64 ((c1 : Int) + 1)]) := HCa.out.set 2 (.int .i64 ((c1 : Int) + 1))
           have HB8 := Lib.hid (HBa.out.setCell (p := ⟨gb, 2, none⟩) HLE.out (.int .i64 ((c1 : Int) + 1)))
           have HLB : Hid (gb < (W6.setCell ⟨gb, 2, none⟩ (.int .i64 ((c1 : Int) + 1))).heap.size) := HC8.out.lt
           clear z2 f2 hw2
           generalize W6.setCell ⟨gb, 2, none⟩ (.int .i64 ((c1 : Int) + 1)) = W8 at *
           go_upto_region 32 with fail
           go_wp2_with fail
           refine (nodes6_any T2 _ HST.out).mono ?_
           rintro e w1 ⟨⟨v1, rfl, hv1⟩, ha1⟩
           go_wp2_with fail
           refine (parse6 T2 HST.out hv1 (HL.out.below (below_seq HB8.out ha1)) HXT.out).mono ?_
           rintro e w2 ⟨⟨L, u, rfl, hr1, hL⟩, hb1⟩
           obtain rfl : L = [x] := hL
           obtain ⟨b, off, cap, hu, _, hrow⟩ := cx_row hr1 (Nat.succ_pos _)
           have hu : u = .slice (some ⟨b, off, none⟩) 1 cap := hu
           subst hu
           obtain ⟨a1', n1, c1', a2, n2, c2, pe, x0, x1, x2, R1⟩ := hrow 0 (Nat.succ_pos _)
           simp only [Nat.zero_mul, Nat.add_zero, List.getElem_cons_zero] at x0 x1 x2 R1
           have hc2 := (HC8.out.below (below_seq ha1 hb1) HLB.out)
           have HB9 := Lib.hid (below_seq (below_seq HB8.out ha1) hb1)
           have ea : ∀ W, (Op.equalIn 10000 38 (.agg (W3.mk (a1 : Int) ((b1 : Int) + 1) ((c1 : Int) + 1)).cs) (.agg #[.int .i64 (a1 : Int), .int .i64 ((b1 : Int) + 1), .int .i64 ((c1 : Int) + 1)])).run Tryz.prog W = .ok true W := fun W => w3_eq (wf_nat (by have := HBD.out; omega)) (wf_nat (n := b1 + 1) (by have := HBD.out; omega)) (wf_nat (n := c1 + 1) (by have := HBD.out; omega)) W
           go_upto_region 33 with fail
           refine wp_region_held_drew (S := (fun W => W.rangeAt b off [.slice a1' n1 c1', .slice a2 n2 c2, .int .i64 pe] ∧ W.rangeAt gb 0 [.int .i64 (a1 : Int), .int .i64 ((b1 : Int) + 1), .int .i64 ((c1 : Int) + 1)])) (by kernel_rfl) ⟨range3 x0 x1 x2, range3 (hc2.cell 0) (hc2.cell 1) (hc2.cell 2)⟩ (fun hHeld => ?_)
           have HBd := Lib.hid HB9.out.drew
           have HRd := Lib.hid (R1.below (Below.refl w2.heap.size w2).drew)
           generalize w2.drew = WA at *
           clear x0 x1 x2 hc2 R1 hrow hr1 hb1 ha1 hv1
           refine wTake 0 (v := ?_) rfl (Or.inl ⟨by rfl, ?_⟩) ?_
           rotate_left
           · intro W hSw
             go_simp
             all_goals with_reducible rfl
           try simp only [gA, gB, gC, gD, gE, gF, gG]
           refine wTake 1 (v := ?_) rfl (Or.inl ⟨by rfl, ?_⟩) ?_
           rotate_left
           · intro W hSw
             go_simp
             all_goals with_reducible rfl
           try simp only [gA, gB, gC, gD, gE, gF, gG]
           refine wTake 2 (v := ?_) rfl (Or.inl ⟨by rfl, ?_⟩) ?_
           rotate_left
           · intro W hSw
             go_simp
             all_goals with_reducible rfl
           try simp only [gA, gB, gC, gD, gE, gF, gG]
           refine wTake 3 (v := ?_) rfl (Or.inl ⟨by rfl, ?_⟩) ?_
           rotate_left
           · intro W hSw
             go_simp
             all_goals with_reducible rfl
           try simp only [gA, gB, gC, gD, gE, gF, gG]
           refine wTake 4 (v := ?_) rfl (Or.inl ⟨by rfl, ?_⟩) ?_
           rotate_left
           · intro W hSw
             go_simp
             all_goals with_reducible rfl
           try simp only [gA, gB, gC, gD, gE, gF, gG]
           refine wTake 5 (v := ?_) rfl (Or.inl ⟨by rfl, ?_⟩) ?_
           rotate_left
           · intro W hSw
             go_simp
             all_goals with_reducible rfl
           try simp only [gA, gB, gC, gD, gE, gF, gG]
           refine wTake 6 (v := ?_) rfl (Or.inl ⟨by rfl, ?_⟩) ?_
           rotate_left
           · intro W hSw
             go_simp
             all_goals with_reducible rfl
           try simp only [gA, gB, gC, gD, gE, gF, gG]
           refine wTake 7 (v := ?_) rfl (Or.inl ⟨by rfl, ?_⟩) ?_
           rotate_left
           · intro W hSw
             go_simp
             all_goals with_reducible rfl
           try simp only [gA, gB, gC, gD, gE, gF, gG]
           refine wTake 8 (v := ?_) rfl (Or.inl ⟨by rfl, ?_⟩) ?_
           rotate_left
           · intro W hSw
             go_simp
             all_goals with_reducible rfl
           try simp only [gA, gB, gC, gD, gE, gF, gG]
           refine wTake 9 (v := ?_) rfl (Or.inl ⟨by rfl, ?_⟩) ?_
           rotate_left
           · intro W hSw
             go_simp
             all_goals with_reducible rfl
           try simp only [gA, gB, gC, gD, gE, gF, gG]
           refine wTake 10 (v := _) rfl (yieldsIf_load_mid (by rfl) 33 (.tmp 125) rfl b off rfl [.slice a1' n1 c1', .slice a2 n2 c2, .int .i64 pe] _ (fun _ h => h.1) Tryz.underlying33 (by rfl) (by kernel_rfl)) ?_
           try simp only [gA, gB, gC, gD, gE, gF, gG]
           refine wTake 12 (v := _) rfl (yieldsIf_load_mid (by rfl) 38 (.tmp 13) rfl gb 0 rfl [.int .i64 (a1 : Int), .int .i64 ((b1 : Int) + 1), .int .i64 ((c1 : Int) + 1)] _ (fun _ h => h.2) Tryz.underlying38 (by rfl) w3_size) ?_
           try simp only [gA, gB, gC, gD, gE, gF, gG]
           refine wpAnyH_ready (rs := [11]) (by kernel_rfl) (by simp) ?_
           refine AllReadyH.cons (o := _) rfl (fun K hK => ?_) AllReadyH.nil
           simp only [List.getElem_toArray, List.getElem_cons_zero, List.getElem_cons_succ]
           rw [if_pos (by rfl)]
           go_simp
           refine (weigh_cx HRd.out HOK.out HN.out HZ.out HWV.out).mono ?_
           rintro e wB ⟨rfl, hbB⟩
           have HBB := Lib.hid (below_seq HBd.out hbB)
           have hSB : (fun W => W.rangeAt b off [.slice a1' n1 c1', .slice a2 n2 c2, .int .i64 pe] ∧ W.rangeAt gb 0 [.int .i64 (a1 : Int), .int .i64 ((b1 : Int) + 1), .int .i64 ((c1 : Int) + 1)]) wB := ⟨range_below hHeld.1 hbB, range_below hHeld.2 hbB⟩
           clear hbB hHeld
           go_simp
           refine hK.out _ _ hSB (fun hHeld => ?_)
           clear hK K
           try simp only [gA, gB, gC, gD, gE, gF, gG]
           refine wTake 13 (v := ?_) rfl (Or.inl ⟨by rfl, ?_⟩) ?_
           rotate_left
           · intro W hSw
             go_simp
             all_goals with_reducible rfl
           try simp only [gA, gB, gC, gD, gE, gF, gG]
           refine wTake 14 (v := ?_) rfl (Or.inl ⟨by rfl, ?_⟩) ?_
           rotate_left
           · intro W hSw
             go_simp
             all_goals with_reducible rfl
           try simp only [gA, gB, gC, gD, gE, gF, gG]
           refine wTake 15 (v := ?_) rfl (Or.inl ⟨by rfl, ?_⟩) ?_
           rotate_left
           · intro W hSw
             go_simp
             all_goals with_reducible rfl
           try simp only [gA, gB, gC, gD, gE, gF, gG]
           refine wpAnyH_ready (rs := [16]) (by kernel_rfl) (by simp) ?_
           refine AllReadyH.cons (o := _) rfl (fun K hK => ?_) AllReadyH.nil
           simp only [List.getElem_toArray, List.getElem_cons_zero, List.getElem_cons_succ]
           rw [if_pos (by rfl)]
           go_simp
           refine (awake6_any _ (HL.out.below HBB.out) (HT.out.below HBB.out)).mono ?_
           rintro e wC ⟨rfl, hbC⟩
           have HBC := Lib.hid (below_seq HBB.out hbC)
           have hSC : (fun W => W.rangeAt b off [.slice a1' n1 c1', .slice a2 n2 c2, .int .i64 pe] ∧ W.rangeAt gb 0 [.int .i64 (a1 : Int), .int .i64 ((b1 : Int) + 1), .int .i64 ((c1 : Int) + 1)]) wC := ⟨range_below hHeld.1 hbC, range_below hHeld.2 hbC⟩
           clear hbC hHeld hSB
           go_simp
           refine hK.out _ _ hSC (fun hHeld => ?_)
           clear hK K
           try simp only [gA, gB, gC, gD, gE, gF, gG]
           refine wTake 17 (v := ?_) rfl (Or.inl ⟨by rfl, ?_⟩) ?_
           rotate_left
           · intro W hSw
             go_simp
             all_goals with_reducible rfl
           try simp only [gA, gB, gC, gD, gE, gF, gG]
           refine wTake 18 (v := ?_) rfl (Or.inl ⟨by rfl, ?_⟩) ?_
           rotate_left
           · intro W hSw
             go_simp
             all_goals with_reducible rfl
           try simp only [gA, gB, gC, gD, gE, gF, gG]
           refine wpAnyH_done (by kernel_rfl) ?_ _
           go_wp2
           go_ret
           exact ⟨rfl, HBC.out⟩
theorem weights_2 (w : World) (a b c : Nat) (how : Int) (hl : TabL w) (ht : Tab w) (ha : a ≤ 5) (hb : b ≤ 5) (hc : c ≤ 3) (hk : how % 5 = 2) :
    Calls Tryz.prog 4 #[.int .i64 a, .int .i64 b, .int .i64 c, .int .i64 how] w fun e w' => e = .returned (.bool true) ∧ Below w.heap.size w w' := by
  obtain ⟨x, hx, hok, hn, hz, hw⟩ := wg_at ha hb hc (k := 2) (by decide)
  have HL := Lib.hid hl
  have HT := Lib.hid ht
  have HK := Lib.hid hk
  have HX := Lib.hid hx
  have HOK := Lib.hid hok
  have HN := Lib.hid hn
  have HZ := Lib.hid hz
  have HW := Lib.hid hw
  have HBD : Hid (a ≤ 5 ∧ b ≤ 5 ∧ c ≤ 3) := ⟨ha, hb, hc⟩
  have a0 : ¬ (a : Int) < 0 := by omega
  have a5 : ¬ (5 : Int) < (a : Int) := by omega
  have b0 : ¬ (b : Int) < 0 := by omega
  have b5 : ¬ (5 : Int) < (b : Int) := by omega
  have c0 : ¬ (c : Int) < 0 := by omega
  have c3 : ¬ (3 : Int) < (c : Int) := by omega
  clear hl ht hk hx hok hn hz hw ha hb hc
  go_enter Tryz.func4, Tryz.ntmps4
  go_wp2
  go_loopw [9, 10] (fun sv iv wr => ∃ i : Nat, iv = .int .i64 i ∧ sv = .string (kT i) ∧ i ≤ b ∧ Below w.heap.size w wr) (fun _ iv _ => b - (intOf iv).toNat)
  case atStart => exact ⟨0, rfl, rfl, Nat.zero_le _, Below.refl _ _⟩
  case round =>
   obtain ⟨b1, rfl, rfl, hin, hB⟩ := hrel
   have HB := Lib.hid hB
   clear hB
   by_cases hlt : b1 < b
   · have hltI : (b1 : Int) < (b : Int) := by omega
     have cc := cat_ok (kT b1) ⟨#[46, 107]⟩ (by have := kT_size b1; have := HBD.out; simp only [show ∀ b : UInt8, ∀ c : UInt8, (⟨#[b, c]⟩ : ByteArray).size = 2 from fun _ _ => rfl]; omega)
     rw [show (kT b1) ++ ⟨#[46, 107]⟩ = kT (b1 + 1) from rfl] at cc
     have hwi := wrap_succ1 (i := b1) (by have := HBD.out; omega)
     go_wp2
     go_roundw
     case rel => exact ⟨b1 + 1, by first | rfl | exact congrArg (Value.int .i64) hwi, rfl, hlt, HB.out⟩
     case measure => first | (rw [hwi]; exact meas_succ hlt) | exact meas_succ hlt
   · obtain rfl : b1 = b := by omega
     have hltI : ¬ (b1 : Int) < (b1 : Int) := Int.lt_irrefl _
     clear hin hlt
     go_wp2
     go_loopw [9, 11] (fun sv iv wr => ∃ i : Nat, iv = .int .i64 i ∧ sv = .string (iT b1 i) ∧ i ≤ a ∧ Below w.heap.size w wr) (fun _ iv _ => a - (intOf iv).toNat)
     case atStart => exact ⟨0, rfl, rfl, Nat.zero_le _, HB.out⟩
     case round =>
      obtain ⟨a1, rfl, rfl, hin, hB⟩ := hrel
      have HB := Lib.hid hB
      clear hB
      by_cases hlt : a1 < a
      · have hltI : (a1 : Int) < (a : Int) := by omega
        have cc := cat_ok (iT b1 a1) ⟨#[35, 105]⟩ (by have := iT_size b1 a1; have := HBD.out; simp only [show ∀ b : UInt8, ∀ c : UInt8, (⟨#[b, c]⟩ : ByteArray).size = 2 from fun _ _ => rfl]; omega)
        rw [show (iT b1 a1) ++ ⟨#[35, 105]⟩ = iT b1 (a1 + 1) from rfl] at cc
        have hwi := wrap_succ1 (i := a1) (by have := HBD.out; omega)
        go_wp2
        go_roundw
        case rel => exact ⟨a1 + 1, by first | rfl | exact congrArg (Value.int .i64) hwi, rfl, hlt, HB.out⟩
        case measure => first | (rw [hwi]; exact meas_succ hlt) | exact meas_succ hlt
      · obtain rfl : a1 = a := by omega
        have hltI : ¬ (a1 : Int) < (a1 : Int) := Int.lt_irrefl _
        clear hin hlt
        go_wp2
        go_loopw [9, 12] (fun sv iv wr => ∃ i : Nat, iv = .int .i64 i ∧ sv = .string (tT b1 a1 i) ∧ i ≤ c ∧ Below w.heap.size w wr) (fun _ iv _ => c - (intOf iv).toNat)
        case atStart => exact ⟨0, rfl, rfl, Nat.zero_le _, HB.out⟩
        case round =>
         obtain ⟨c1, rfl, rfl, hin, hB⟩ := hrel
         have HB := Lib.hid hB
         clear hB
         by_cases hlt : c1 < c
         · have hltI : (c1 : Int) < (c : Int) := by omega
           have cc := cat_ok ⟨#[116, 32]⟩ (tT b1 a1 c1) (by have := tT_size b1 a1 c1; have := HBD.out; simp only [show ∀ b : UInt8, ∀ c : UInt8, (⟨#[b, c]⟩ : ByteArray).size = 2 from fun _ _ => rfl]; omega)
           rw [show ⟨#[116, 32]⟩ ++ (tT b1 a1 c1) = tT b1 a1 (c1 + 1) from rfl] at cc
           have hwi := wrap_succ1 (i := c1) (by have := HBD.out; omega)
           go_wp2
           go_roundw
           case rel => exact ⟨c1 + 1, by first | rfl | exact congrArg (Value.int .i64) hwi, rfl, hlt, HB.out⟩
           case measure => first | (rw [hwi]; exact meas_succ hlt) | exact meas_succ hlt
         · obtain rfl : c1 = c := by omega
           have hltI : ¬ (c1 : Int) < (c1 : Int) := Int.lt_irrefl _
           clear hin hlt
           clear a0 a5 b0 b5 c0 c3
           go_upto_region 17 with fail
           have HC7 := Lib.hid (CB.new (T := 38) wr #[.int .i64 (a1 : Int), .int .i64 (b1 : Int), .int .i64 (c1 : Int)])
           have HB7 := Lib.hid (below_seq HB.out (bel_newS wr (.cells #[.int .i64 (a1 : Int), .int .i64 (b1 : Int), .int .i64 (c1 : Int)] 38)))
           have HL7 := Lib.hid (show wr.heap.size < (wr.alloc (.cells #[.int .i64 (a1 : Int), .int .i64 (b1 : Int), .int .i64 (c1 : Int)] 38)).heap.size by simp)
           have HLE := Lib.hid HB.out.size
           generalize wr.heap.size = gb at *
           generalize wr.alloc (.cells #[.int .i64 (a1 : Int), .int .i64 (b1 : Int), .int .i64 (c1 : Int)] 38) = W7 at *
           have hsz := tT_size b1 a1 c1
           obtain ⟨T, hT⟩ : ∃ T, tT b1 a1 c1 = T := ⟨_, rfl⟩
           rw [hT] at HX hsz ⊢
           have hsz9 : T.size ≤ 60 := by have := HBD.out; omega
           clear hsz hT
           have ca := cat_ok ⟨#[58, 105, 115, 40, 117, 44, 32]⟩ T (by simp only [show (⟨#[58, 105, 115, 40, 117, 44, 32]⟩ : ByteArray).size = 7 from rfl]; omega)
           obtain ⟨T1, hT1⟩ : ∃ T1 : ByteArray, ⟨#[58, 105, 115, 40, 117, 44, 32]⟩ ++ T = T1 := ⟨_, rfl⟩
           have hs1 : T1.size ≤ 80 := by rw [← hT1, sz_app]; simp only [show (⟨#[58, 105, 115, 40, 117, 44, 32]⟩ : ByteArray).size = 7 from rfl]; omega
           rw [hT1] at ca
           have cb := cat_ok T1 ⟨#[44, 32, 118, 41]⟩ (by simp only [show (⟨#[44, 32, 118, 41]⟩ : ByteArray).size = 4 from rfl]; omega)
           obtain ⟨T2, hT2⟩ : ∃ T2 : ByteArray, T1 ++ ⟨#[44, 32, 118, 41]⟩ = T2 := ⟨_, rfl⟩
           have HST : Hid (T2.size ≤ 5000000) := by show _ ≤ _; rw [← hT2, sz_app]; simp only [show (⟨#[44, 32, 118, 41]⟩ : ByteArray).size = 4 from rfl]; omega
           rw [hT2] at cb
           have HXT : Hid (selS parseS (ndsS (toks (readS T2))) = some [x]) := by show _ = _; rw [← hT2, ← hT1]; exact HX.out
           clear hs1 hT1 hT2
           clear hsz9
           go_upto_region 23 with (go_at_call 16; (with_reducible refine (round_any how 5 2 _ (by decide) (by decide) HK.out).mono ?_); rintro e w' ⟨rfl, rfl⟩)
           by_cases h1 : a1 = 0
           · by_cases h2 : b1 = 0
             · by_cases h3 : c1 = 0
               · have hae : a1 = 0 := h1
                 have hbe : b1 = 0 := h2
                 have hce : c1 = 0 := h3
                 have HWV : Hid (gr3 (wCx x) W3.zero = ⟨0, 0, 1⟩) := by show _ = _; rw [HW.out, hae, hbe, hce]; rfl
                 have i1 : ((a1 : Int) == 0) = true := by rw [hae]; rfl
                 have i2 : ((b1 : Int) == 0) = true := by rw [hbe]; rfl
                 have i3 : ((c1 : Int) == 0) = true := by rw [hce]; rfl
                 clear hae hbe hce h1 h2 h3
                 have z0 : W7.cell? ⟨gb, 0, none⟩ = some (.int .i64 (a1 : Int)) := HC7.out.cell 0
                 have z1 : W7.cell? ⟨gb, 1, none⟩ = some (.int .i64 (b1 : Int)) := HC7.out.cell 1
                 have z2 : W7.cell? ⟨gb, 2, none⟩ = some (.int .i64 (c1 : Int)) := HC7.out.cell 2
                 have f0 : W7.frozen? ⟨gb, 0, none⟩ = false := HC7.out.frozen _
                 have f1 : W7.frozen? ⟨gb, 1, none⟩ = false := HC7.out.frozen _
                 have f2 : W7.frozen? ⟨gb, 2, none⟩ = false := HC7.out.frozen _
                 go_upto_region 32 with fail
                 clear i1 i2 i3
                 have HC8 : Hid (CB 38 (((W7.setCell ⟨gb, 0, none⟩ (.int .i64 0)).setCell ⟨gb, 1, none⟩ (.int .i64 0)).setCell ⟨gb, 2, none⟩ (.int .i64 1)) gb #[.int .i64 0, .int .i64 0, .int .i64 1]) := ((HC7.out.set 0 (.int .i64 0)).set 1 (.int .i64 0)).set 2 (.int .i64 1)
                 have HB8 := Lib.hid (((HB7.out.setCell (p := ⟨gb, 0, none⟩) HLE.out (.int .i64 0)).setCell (p := ⟨gb, 1, none⟩) HLE.out (.int .i64 0)).setCell (p := ⟨gb, 2, none⟩) HLE.out (.int .i64 1))
                 have HLB : Hid (gb < (((W7.setCell ⟨gb, 0, none⟩ (.int .i64 0)).setCell ⟨gb, 1, none⟩ (.int .i64 0)).setCell ⟨gb, 2, none⟩ (.int .i64 1)).heap.size) := HC8.out.lt
                 clear z0 z1 z2 f0 f1 f2
                 generalize ((W7.setCell ⟨gb, 0, none⟩ (.int .i64 0)).setCell ⟨gb, 1, none⟩ (.int .i64 0)).setCell ⟨gb, 2, none⟩ (.int .i64 1) = W8 at *
                 go_upto_region 32 with fail
                 go_wp2_with fail
                 refine (nodes6_any T2 _ HST.out).mono ?_
                 rintro e w1 ⟨⟨v1, rfl, hv1⟩, ha1⟩
                 go_wp2_with fail
                 refine (parse6 T2 HST.out hv1 (HL.out.below (below_seq HB8.out ha1)) HXT.out).mono ?_
                 rintro e w2 ⟨⟨L, u, rfl, hr1, hL⟩, hb1⟩
                 obtain rfl : L = [x] := hL
                 obtain ⟨b, off, cap, hu, _, hrow⟩ := cx_row hr1 (Nat.succ_pos _)
                 have hu : u = .slice (some ⟨b, off, none⟩) 1 cap := hu
                 subst hu
                 obtain ⟨a1', n1, c1', a2, n2, c2, pe, x0, x1, x2, R1⟩ := hrow 0 (Nat.succ_pos _)
                 simp only [Nat.zero_mul, Nat.add_zero, List.getElem_cons_zero] at x0 x1 x2 R1
                 have hc2 := (HC8.out.below (below_seq ha1 hb1) HLB.out)
                 have HB9 := Lib.hid (below_seq (below_seq HB8.out ha1) hb1)
                 have ea : ∀ W, (Op.equalIn 10000 38 (.agg (W3.mk 0 0 1).cs) (.agg #[.int .i64 0, .int .i64 0, .int .i64 1])).run Tryz.prog W = .ok true W := fun W => w3_eq (by decide) (by decide) (by decide) W
                 go_upto_region 33 with fail
                 refine wp_region_held_drew (S := (fun W => W.rangeAt b off [.slice a1' n1 c1', .slice a2 n2 c2, .int .i64 pe] ∧ W.rangeAt gb 0 [.int .i64 0, .int .i64 0, .int .i64 1])) (by kernel_rfl) ⟨range3 x0 x1 x2, range3 (hc2.cell 0) (hc2.cell 1) (hc2.cell 2)⟩ (fun hHeld => ?_)
                 have HBd := Lib.hid HB9.out.drew
                 have HRd := Lib.hid (R1.below (Below.refl w2.heap.size w2).drew)
                 generalize w2.drew = WA at *
                 clear x0 x1 x2 hc2 R1 hrow hr1 hb1 ha1 hv1
                 refine wTake 0 (v := ?_) rfl (Or.inl ⟨by rfl, ?_⟩) ?_
                 rotate_left
                 · intro W hSw
                   go_simp
                   all_goals with_reducible rfl
                 try simp only [gA, gB, gC, gD, gE, gF, gG]
                 refine wTake 1 (v := ?_) rfl (Or.inl ⟨by rfl, ?_⟩) ?_
                 rotate_left
                 · intro W hSw
                   go_simp
                   all_goals with_reducible rfl
                 try simp only [gA, gB, gC, gD, gE, gF, gG]
                 refine wTake 2 (v := ?_) rfl (Or.inl ⟨by rfl, ?_⟩) ?_
                 rotate_left
                 · intro W hSw
                   go_simp
                   all_goals with_reducible rfl
                 try simp only [gA, gB, gC, gD, gE, gF, gG]
                 refine wTake 3 (v := ?_) rfl (Or.inl ⟨by rfl, ?_⟩) ?_
                 rotate_left
                 · intro W hSw
                   go_simp
                   all_goals with_reducible rfl
                 try simp only [gA, gB, gC, gD, gE, gF, gG]
                 refine wTake 4 (v := ?_) rfl (Or.inl ⟨by rfl, ?_⟩) ?_
                 rotate_left
                 · intro W hSw
                   go_simp
                   all_goals with_reducible rfl
                 try simp only [gA, gB, gC, gD, gE, gF, gG]
                 refine wTake 5 (v := ?_) rfl (Or.inl ⟨by rfl, ?_⟩) ?_
                 rotate_left
                 · intro W hSw
                   go_simp
                   all_goals with_reducible rfl
                 try simp only [gA, gB, gC, gD, gE, gF, gG]
                 refine wTake 6 (v := ?_) rfl (Or.inl ⟨by rfl, ?_⟩) ?_
                 rotate_left
                 · intro W hSw
                   go_simp
                   all_goals with_reducible rfl
                 try simp only [gA, gB, gC, gD, gE, gF, gG]
                 refine wTake 7 (v := ?_) rfl (Or.inl ⟨by rfl, ?_⟩) ?_
                 rotate_left
                 · intro W hSw
                   go_simp
                   all_goals with_reducible rfl
                 try simp only [gA, gB, gC, gD, gE, gF, gG]
                 refine wTake 8 (v := ?_) rfl (Or.inl ⟨by rfl, ?_⟩) ?_
                 rotate_left
                 · intro W hSw
                   go_simp
                   all_goals with_reducible rfl
                 try simp only [gA, gB, gC, gD, gE, gF, gG]
                 refine wTake 9 (v := ?_) rfl (Or.inl ⟨by rfl, ?_⟩) ?_
                 rotate_left
                 · intro W hSw
                   go_simp
                   all_goals with_reducible rfl
                 try simp only [gA, gB, gC, gD, gE, gF, gG]
                 refine wTake 10 (v := _) rfl (yieldsIf_load_mid (by rfl) 33 (.tmp 125) rfl b off rfl [.slice a1' n1 c1', .slice a2 n2 c2, .int .i64 pe] _ (fun _ h => h.1) Tryz.underlying33 (by rfl) (by kernel_rfl)) ?_
                 try simp only [gA, gB, gC, gD, gE, gF, gG]
                 refine wTake 12 (v := _) rfl (yieldsIf_load_mid (by rfl) 38 (.tmp 13) rfl gb 0 rfl [.int .i64 0, .int .i64 0, .int .i64 1] _ (fun _ h => h.2) Tryz.underlying38 (by rfl) w3_size) ?_
                 try simp only [gA, gB, gC, gD, gE, gF, gG]
                 refine wpAnyH_ready (rs := [11]) (by kernel_rfl) (by simp) ?_
                 refine AllReadyH.cons (o := _) rfl (fun K hK => ?_) AllReadyH.nil
                 simp only [List.getElem_toArray, List.getElem_cons_zero, List.getElem_cons_succ]
                 rw [if_pos (by rfl)]
                 go_simp
                 refine (weigh_cx HRd.out HOK.out HN.out HZ.out HWV.out).mono ?_
                 rintro e wB ⟨rfl, hbB⟩
                 have HBB := Lib.hid (below_seq HBd.out hbB)
                 have hSB : (fun W => W.rangeAt b off [.slice a1' n1 c1', .slice a2 n2 c2, .int .i64 pe] ∧ W.rangeAt gb 0 [.int .i64 0, .int .i64 0, .int .i64 1]) wB := ⟨range_below hHeld.1 hbB, range_below hHeld.2 hbB⟩
                 clear hbB hHeld
                 go_simp
                 refine hK.out _ _ hSB (fun hHeld => ?_)
                 clear hK K
                 try simp only [gA, gB, gC, gD, gE, gF, gG]
                 refine wTake 13 (v := ?_) rfl (Or.inl ⟨by rfl, ?_⟩) ?_
                 rotate_left
                 · intro W hSw
                   go_simp
                   all_goals with_reducible rfl
                 try simp only [gA, gB, gC, gD, gE, gF, gG]
                 refine wTake 14 (v := ?_) rfl (Or.inl ⟨by rfl, ?_⟩) ?_
                 rotate_left
                 · intro W hSw
                   go_simp
                   all_goals with_reducible rfl
                 try simp only [gA, gB, gC, gD, gE, gF, gG]
                 refine wTake 15 (v := ?_) rfl (Or.inl ⟨by rfl, ?_⟩) ?_
                 rotate_left
                 · intro W hSw
                   go_simp
                   all_goals with_reducible rfl
                 try simp only [gA, gB, gC, gD, gE, gF, gG]
                 refine wpAnyH_ready (rs := [16]) (by kernel_rfl) (by simp) ?_
                 refine AllReadyH.cons (o := _) rfl (fun K hK => ?_) AllReadyH.nil
                 simp only [List.getElem_toArray, List.getElem_cons_zero, List.getElem_cons_succ]
                 rw [if_pos (by rfl)]
                 go_simp
                 refine (awake6_any _ (HL.out.below HBB.out) (HT.out.below HBB.out)).mono ?_
                 rintro e wC ⟨rfl, hbC⟩
                 have HBC := Lib.hid (below_seq HBB.out hbC)
                 have hSC : (fun W => W.rangeAt b off [.slice a1' n1 c1', .slice a2 n2 c2, .int .i64 pe] ∧ W.rangeAt gb 0 [.int .i64 0, .int .i64 0, .int .i64 1]) wC := ⟨range_below hHeld.1 hbC, range_below hHeld.2 hbC⟩
                 clear hbC hHeld hSB
                 go_simp
                 refine hK.out _ _ hSC (fun hHeld => ?_)
                 clear hK K
                 try simp only [gA, gB, gC, gD, gE, gF, gG]
                 refine wTake 17 (v := ?_) rfl (Or.inl ⟨by rfl, ?_⟩) ?_
                 rotate_left
                 · intro W hSw
                   go_simp
                   all_goals with_reducible rfl
                 try simp only [gA, gB, gC, gD, gE, gF, gG]
                 refine wTake 18 (v := ?_) rfl (Or.inl ⟨by rfl, ?_⟩) ?_
                 rotate_left
                 · intro W hSw
                   go_simp
                   all_goals with_reducible rfl
                 try simp only [gA, gB, gC, gD, gE, gF, gG]
                 refine wpAnyH_done (by kernel_rfl) ?_ _
                 go_wp2
                 go_ret
                 exact ⟨rfl, HBC.out⟩
               · have HWV : Hid (gr3 (wCx x) W3.zero = ⟨(a1 : Int), (b1 : Int), (c1 : Int)⟩) := by
                  show _ = _
                  rw [HW.out]
                  show (if (decide (a1 = 0) && decide (b1 = 0) && decide (c1 = 0)) = true then _ else _) = _
                  rw [if_neg (by simp; omega)]
                 have i1 : ((a1 : Int) == 0) = true := by rw [beq_iff_eq]; omega
                 have i2 : ((b1 : Int) == 0) = true := by rw [beq_iff_eq]; omega
                 have i3 : ((c1 : Int) == 0) = false := by rw [beq_eq_false_iff_ne]; omega
                 clear h1 h2 h3
                 have HC8 := HC7
                 have HB8 := HB7
                 have HLB := HL7
                 go_upto_region 32 with fail
                 try clear i1
                 try clear i2
                 try clear i3
                 go_upto_region 32 with fail
                 go_wp2_with fail
                 refine (nodes6_any T2 _ HST.out).mono ?_
                 rintro e w1 ⟨⟨v1, rfl, hv1⟩, ha1⟩
                 go_wp2_with fail
                 refine (parse6 T2 HST.out hv1 (HL.out.below (below_seq HB8.out ha1)) HXT.out).mono ?_
                 rintro e w2 ⟨⟨L, u, rfl, hr1, hL⟩, hb1⟩
                 obtain rfl : L = [x] := hL
                 obtain ⟨b, off, cap, hu, _, hrow⟩ := cx_row hr1 (Nat.succ_pos _)
                 have hu : u = .slice (some ⟨b, off, none⟩) 1 cap := hu
                 subst hu
                 obtain ⟨a1', n1, c1', a2, n2, c2, pe, x0, x1, x2, R1⟩ := hrow 0 (Nat.succ_pos _)
                 simp only [Nat.zero_mul, Nat.add_zero, List.getElem_cons_zero] at x0 x1 x2 R1
                 have hc2 := (HC8.out.below (below_seq ha1 hb1) HLB.out)
                 have HB9 := Lib.hid (below_seq (below_seq HB8.out ha1) hb1)
                 have ea : ∀ W, (Op.equalIn 10000 38 (.agg (W3.mk (a1 : Int) (b1 : Int) (c1 : Int)).cs) (.agg #[.int .i64 (a1 : Int), .int .i64 (b1 : Int), .int .i64 (c1 : Int)])).run Tryz.prog W = .ok true W := fun W => w3_eq (wf_nat (by have := HBD.out; omega)) (wf_nat (by have := HBD.out; omega)) (wf_nat (by have := HBD.out; omega)) W
                 go_upto_region 33 with fail
                 refine wp_region_held_drew (S := (fun W => W.rangeAt b off [.slice a1' n1 c1', .slice a2 n2 c2, .int .i64 pe] ∧ W.rangeAt gb 0 [.int .i64 (a1 : Int), .int .i64 (b1 : Int), .int .i64 (c1 : Int)])) (by kernel_rfl) ⟨range3 x0 x1 x2, range3 (hc2.cell 0) (hc2.cell 1) (hc2.cell 2)⟩ (fun hHeld => ?_)
                 have HBd := Lib.hid HB9.out.drew
                 have HRd := Lib.hid (R1.below (Below.refl w2.heap.size w2).drew)
                 generalize w2.drew = WA at *
                 clear x0 x1 x2 hc2 R1 hrow hr1 hb1 ha1 hv1
                 refine wTake 0 (v := ?_) rfl (Or.inl ⟨by rfl, ?_⟩) ?_
                 rotate_left
                 · intro W hSw
                   go_simp
                   all_goals with_reducible rfl
                 try simp only [gA, gB, gC, gD, gE, gF, gG]
                 refine wTake 1 (v := ?_) rfl (Or.inl ⟨by rfl, ?_⟩) ?_
                 rotate_left
                 · intro W hSw
                   go_simp
                   all_goals with_reducible rfl
                 try simp only [gA, gB, gC, gD, gE, gF, gG]
                 refine wTake 2 (v := ?_) rfl (Or.inl ⟨by rfl, ?_⟩) ?_
                 rotate_left
                 · intro W hSw
                   go_simp
                   all_goals with_reducible rfl
                 try simp only [gA, gB, gC, gD, gE, gF, gG]
                 refine wTake 3 (v := ?_) rfl (Or.inl ⟨by rfl, ?_⟩) ?_
                 rotate_left
                 · intro W hSw
                   go_simp
                   all_goals with_reducible rfl
                 try simp only [gA, gB, gC, gD, gE, gF, gG]
                 refine wTake 4 (v := ?_) rfl (Or.inl ⟨by rfl, ?_⟩) ?_
                 rotate_left
                 · intro W hSw
                   go_simp
                   all_goals with_reducible rfl
                 try simp only [gA, gB, gC, gD, gE, gF, gG]
                 refine wTake 5 (v := ?_) rfl (Or.inl ⟨by rfl, ?_⟩) ?_
                 rotate_left
                 · intro W hSw
                   go_simp
                   all_goals with_reducible rfl
                 try simp only [gA, gB, gC, gD, gE, gF, gG]
                 refine wTake 6 (v := ?_) rfl (Or.inl ⟨by rfl, ?_⟩) ?_
                 rotate_left
                 · intro W hSw
                   go_simp
                   all_goals with_reducible rfl
                 try simp only [gA, gB, gC, gD, gE, gF, gG]
                 refine wTake 7 (v := ?_) rfl (Or.inl ⟨by rfl, ?_⟩) ?_
                 rotate_left
                 · intro W hSw
                   go_simp
                   all_goals with_reducible rfl
                 try simp only [gA, gB, gC, gD, gE, gF, gG]
                 refine wTake 8 (v := ?_) rfl (Or.inl ⟨by rfl, ?_⟩) ?_
                 rotate_left
                 · intro W hSw
                   go_simp
                   all_goals with_reducible rfl
                 try simp only [gA, gB, gC, gD, gE, gF, gG]
                 refine wTake 9 (v := ?_) rfl (Or.inl ⟨by rfl, ?_⟩) ?_
                 rotate_left
                 · intro W hSw
                   go_simp
                   all_goals with_reducible rfl
                 try simp only [gA, gB, gC, gD, gE, gF, gG]
                 refine wTake 10 (v := _) rfl (yieldsIf_load_mid (by rfl) 33 (.tmp 125) rfl b off rfl [.slice a1' n1 c1', .slice a2 n2 c2, .int .i64 pe] _ (fun _ h => h.1) Tryz.underlying33 (by rfl) (by kernel_rfl)) ?_
                 try simp only [gA, gB, gC, gD, gE, gF, gG]
                 refine wTake 12 (v := _) rfl (yieldsIf_load_mid (by rfl) 38 (.tmp 13) rfl gb 0 rfl [.int .i64 (a1 : Int), .int .i64 (b1 : Int), .int .i64 (c1 : Int)] _ (fun _ h => h.2) Tryz.underlying38 (by rfl) w3_size) ?_
                 try simp only [gA, gB, gC, gD, gE, gF, gG]
                 refine wpAnyH_ready (rs := [11]) (by kernel_rfl) (by simp) ?_
                 refine AllReadyH.cons (o := _) rfl (fun K hK => ?_) AllReadyH.nil
                 simp only [List.getElem_toArray, List.getElem_cons_zero, List.getElem_cons_succ]
                 rw [if_pos (by rfl)]
                 go_simp
                 refine (weigh_cx HRd.out HOK.out HN.out HZ.out HWV.out).mono ?_
                 rintro e wB ⟨rfl, hbB⟩
                 have HBB := Lib.hid (below_seq HBd.out hbB)
                 have hSB : (fun W => W.rangeAt b off [.slice a1' n1 c1', .slice a2 n2 c2, .int .i64 pe] ∧ W.rangeAt gb 0 [.int .i64 (a1 : Int), .int .i64 (b1 : Int), .int .i64 (c1 : Int)]) wB := ⟨range_below hHeld.1 hbB, range_below hHeld.2 hbB⟩
                 clear hbB hHeld
                 go_simp
                 refine hK.out _ _ hSB (fun hHeld => ?_)
                 clear hK K
                 try simp only [gA, gB, gC, gD, gE, gF, gG]
                 refine wTake 13 (v := ?_) rfl (Or.inl ⟨by rfl, ?_⟩) ?_
                 rotate_left
                 · intro W hSw
                   go_simp
                   all_goals with_reducible rfl
                 try simp only [gA, gB, gC, gD, gE, gF, gG]
                 refine wTake 14 (v := ?_) rfl (Or.inl ⟨by rfl, ?_⟩) ?_
                 rotate_left
                 · intro W hSw
                   go_simp
                   all_goals with_reducible rfl
                 try simp only [gA, gB, gC, gD, gE, gF, gG]
                 refine wTake 15 (v := ?_) rfl (Or.inl ⟨by rfl, ?_⟩) ?_
                 rotate_left
                 · intro W hSw
                   go_simp
                   all_goals with_reducible rfl
                 try simp only [gA, gB, gC, gD, gE, gF, gG]
                 refine wpAnyH_ready (rs := [16]) (by kernel_rfl) (by simp) ?_
                 refine AllReadyH.cons (o := _) rfl (fun K hK => ?_) AllReadyH.nil
                 simp only [List.getElem_toArray, List.getElem_cons_zero, List.getElem_cons_succ]
                 rw [if_pos (by rfl)]
                 go_simp
                 refine (awake6_any _ (HL.out.below HBB.out) (HT.out.below HBB.out)).mono ?_
                 rintro e wC ⟨rfl, hbC⟩
                 have HBC := Lib.hid (below_seq HBB.out hbC)
                 have hSC : (fun W => W.rangeAt b off [.slice a1' n1 c1', .slice a2 n2 c2, .int .i64 pe] ∧ W.rangeAt gb 0 [.int .i64 (a1 : Int), .int .i64 (b1 : Int), .int .i64 (c1 : Int)]) wC := ⟨range_below hHeld.1 hbC, range_below hHeld.2 hbC⟩
                 clear hbC hHeld hSB
                 go_simp
                 refine hK.out _ _ hSC (fun hHeld => ?_)
                 clear hK K
                 try simp only [gA, gB, gC, gD, gE, gF, gG]
                 refine wTake 17 (v := ?_) rfl (Or.inl ⟨by rfl, ?_⟩) ?_
                 rotate_left
                 · intro W hSw
                   go_simp
                   all_goals with_reducible rfl
                 try simp only [gA, gB, gC, gD, gE, gF, gG]
                 refine wTake 18 (v := ?_) rfl (Or.inl ⟨by rfl, ?_⟩) ?_
                 rotate_left
                 · intro W hSw
                   go_simp
                   all_goals with_reducible rfl
                 try simp only [gA, gB, gC, gD, gE, gF, gG]
                 refine wpAnyH_done (by kernel_rfl) ?_ _
                 go_wp2
                 go_ret
                 exact ⟨rfl, HBC.out⟩
             · have HWV : Hid (gr3 (wCx x) W3.zero = ⟨(a1 : Int), (b1 : Int), (c1 : Int)⟩) := by
                show _ = _
                rw [HW.out]
                show (if (decide (a1 = 0) && decide (b1 = 0) && decide (c1 = 0)) = true then _ else _) = _
                rw [if_neg (by simp; omega)]
               have i1 : ((a1 : Int) == 0) = true := by rw [beq_iff_eq]; omega
               have i2 : ((b1 : Int) == 0) = false := by rw [beq_eq_false_iff_ne]; omega
               clear h1 h2
               have HC8 := HC7
               have HB8 := HB7
               have HLB := HL7
               go_upto_region 32 with fail
               try clear i1
               try clear i2
               try clear i3
               go_upto_region 32 with fail
               go_wp2_with fail
               refine (nodes6_any T2 _ HST.out).mono ?_
               rintro e w1 ⟨⟨v1, rfl, hv1⟩, ha1⟩
               go_wp2_with fail
               refine (parse6 T2 HST.out hv1 (HL.out.below (below_seq HB8.out ha1)) HXT.out).mono ?_
               rintro e w2 ⟨⟨L, u, rfl, hr1, hL⟩, hb1⟩
               obtain rfl : L = [x] := hL
               obtain ⟨b, off, cap, hu, _, hrow⟩ := cx_row hr1 (Nat.succ_pos _)
               have hu : u = .slice (some ⟨b, off, none⟩) 1 cap := hu
               subst hu
               obtain ⟨a1', n1, c1', a2, n2, c2, pe, x0, x1, x2, R1⟩ := hrow 0 (Nat.succ_pos _)
               simp only [Nat.zero_mul, Nat.add_zero, List.getElem_cons_zero] at x0 x1 x2 R1
               have hc2 := (HC8.out.below (below_seq ha1 hb1) HLB.out)
               have HB9 := Lib.hid (below_seq (below_seq HB8.out ha1) hb1)
               have ea : ∀ W, (Op.equalIn 10000 38 (.agg (W3.mk (a1 : Int) (b1 : Int) (c1 : Int)).cs) (.agg #[.int .i64 (a1 : Int), .int .i64 (b1 : Int), .int .i64 (c1 : Int)])).run Tryz.prog W = .ok true W := fun W => w3_eq (wf_nat (by have := HBD.out; omega)) (wf_nat (by have := HBD.out; omega)) (wf_nat (by have := HBD.out; omega)) W
               go_upto_region 33 with fail
               refine wp_region_held_drew (S := (fun W => W.rangeAt b off [.slice a1' n1 c1', .slice a2 n2 c2, .int .i64 pe] ∧ W.rangeAt gb 0 [.int .i64 (a1 : Int), .int .i64 (b1 : Int), .int .i64 (c1 : Int)])) (by kernel_rfl) ⟨range3 x0 x1 x2, range3 (hc2.cell 0) (hc2.cell 1) (hc2.cell 2)⟩ (fun hHeld => ?_)
               have HBd := Lib.hid HB9.out.drew
               have HRd := Lib.hid (R1.below (Below.refl w2.heap.size w2).drew)
               generalize w2.drew = WA at *
               clear x0 x1 x2 hc2 R1 hrow hr1 hb1 ha1 hv1
               refine wTake 0 (v := ?_) rfl (Or.inl ⟨by rfl, ?_⟩) ?_
               rotate_left
               · intro W hSw
                 go_simp
                 all_goals with_reducible rfl
               try simp only [gA, gB, gC, gD, gE, gF, gG]
               refine wTake 1 (v := ?_) rfl (Or.inl ⟨by rfl, ?_⟩) ?_
               rotate_left
               · intro W hSw
                 go_simp
                 all_goals with_reducible rfl
               try simp only [gA, gB, gC, gD, gE, gF, gG]
               refine wTake 2 (v := ?_) rfl (Or.inl ⟨by rfl, ?_⟩) ?_
               rotate_left
               · intro W hSw
                 go_simp
                 all_goals with_reducible rfl
               try simp only [gA, gB, gC, gD, gE, gF, gG]
               refine wTake 3 (v := ?_) rfl (Or.inl ⟨by rfl, ?_⟩) ?_
               rotate_left
               · intro W hSw
                 go_simp
                 all_goals with_reducible rfl
               try simp only [gA, gB, gC, gD, gE, gF, gG]
               refine wTake 4 (v := ?_) rfl (Or.inl ⟨by rfl, ?_⟩) ?_
               rotate_left
               · intro W hSw
                 go_simp
                 all_goals with_reducible rfl
               try simp only [gA, gB, gC, gD, gE, gF, gG]
               refine wTake 5 (v := ?_) rfl (Or.inl ⟨by rfl, ?_⟩) ?_
               rotate_left
               · intro W hSw
                 go_simp
                 all_goals with_reducible rfl
               try simp only [gA, gB, gC, gD, gE, gF, gG]
               refine wTake 6 (v := ?_) rfl (Or.inl ⟨by rfl, ?_⟩) ?_
               rotate_left
               · intro W hSw
                 go_simp
                 all_goals with_reducible rfl
               try simp only [gA, gB, gC, gD, gE, gF, gG]
               refine wTake 7 (v := ?_) rfl (Or.inl ⟨by rfl, ?_⟩) ?_
               rotate_left
               · intro W hSw
                 go_simp
                 all_goals with_reducible rfl
               try simp only [gA, gB, gC, gD, gE, gF, gG]
               refine wTake 8 (v := ?_) rfl (Or.inl ⟨by rfl, ?_⟩) ?_
               rotate_left
               · intro W hSw
                 go_simp
                 all_goals with_reducible rfl
               try simp only [gA, gB, gC, gD, gE, gF, gG]
               refine wTake 9 (v := ?_) rfl (Or.inl ⟨by rfl, ?_⟩) ?_
               rotate_left
               · intro W hSw
                 go_simp
                 all_goals with_reducible rfl
               try simp only [gA, gB, gC, gD, gE, gF, gG]
               refine wTake 10 (v := _) rfl (yieldsIf_load_mid (by rfl) 33 (.tmp 125) rfl b off rfl [.slice a1' n1 c1', .slice a2 n2 c2, .int .i64 pe] _ (fun _ h => h.1) Tryz.underlying33 (by rfl) (by kernel_rfl)) ?_
               try simp only [gA, gB, gC, gD, gE, gF, gG]
               refine wTake 12 (v := _) rfl (yieldsIf_load_mid (by rfl) 38 (.tmp 13) rfl gb 0 rfl [.int .i64 (a1 : Int), .int .i64 (b1 : Int), .int .i64 (c1 : Int)] _ (fun _ h => h.2) Tryz.underlying38 (by rfl) w3_size) ?_
               try simp only [gA, gB, gC, gD, gE, gF, gG]
               refine wpAnyH_ready (rs := [11]) (by kernel_rfl) (by simp) ?_
               refine AllReadyH.cons (o := _) rfl (fun K hK => ?_) AllReadyH.nil
               simp only [List.getElem_toArray, List.getElem_cons_zero, List.getElem_cons_succ]
               rw [if_pos (by rfl)]
               go_simp
               refine (weigh_cx HRd.out HOK.out HN.out HZ.out HWV.out).mono ?_
               rintro e wB ⟨rfl, hbB⟩
               have HBB := Lib.hid (below_seq HBd.out hbB)
               have hSB : (fun W => W.rangeAt b off [.slice a1' n1 c1', .slice a2 n2 c2, .int .i64 pe] ∧ W.rangeAt gb 0 [.int .i64 (a1 : Int), .int .i64 (b1 : Int), .int .i64 (c1 : Int)]) wB := ⟨range_below hHeld.1 hbB, range_below hHeld.2 hbB⟩
               clear hbB hHeld
               go_simp
               refine hK.out _ _ hSB (fun hHeld => ?_)
               clear hK K
               try simp only [gA, gB, gC, gD, gE, gF, gG]
               refine wTake 13 (v := ?_) rfl (Or.inl ⟨by rfl, ?_⟩) ?_
               rotate_left
               · intro W hSw
                 go_simp
                 all_goals with_reducible rfl
               try simp only [gA, gB, gC, gD, gE, gF, gG]
               refine wTake 14 (v := ?_) rfl (Or.inl ⟨by rfl, ?_⟩) ?_
               rotate_left
               · intro W hSw
                 go_simp
                 all_goals with_reducible rfl
               try simp only [gA, gB, gC, gD, gE, gF, gG]
               refine wTake 15 (v := ?_) rfl (Or.inl ⟨by rfl, ?_⟩) ?_
               rotate_left
               · intro W hSw
                 go_simp
                 all_goals with_reducible rfl
               try simp only [gA, gB, gC, gD, gE, gF, gG]
               refine wpAnyH_ready (rs := [16]) (by kernel_rfl) (by simp) ?_
               refine AllReadyH.cons (o := _) rfl (fun K hK => ?_) AllReadyH.nil
               simp only [List.getElem_toArray, List.getElem_cons_zero, List.getElem_cons_succ]
               rw [if_pos (by rfl)]
               go_simp
               refine (awake6_any _ (HL.out.below HBB.out) (HT.out.below HBB.out)).mono ?_
               rintro e wC ⟨rfl, hbC⟩
               have HBC := Lib.hid (below_seq HBB.out hbC)
               have hSC : (fun W => W.rangeAt b off [.slice a1' n1 c1', .slice a2 n2 c2, .int .i64 pe] ∧ W.rangeAt gb 0 [.int .i64 (a1 : Int), .int .i64 (b1 : Int), .int .i64 (c1 : Int)]) wC := ⟨range_below hHeld.1 hbC, range_below hHeld.2 hbC⟩
               clear hbC hHeld hSB
               go_simp
               refine hK.out _ _ hSC (fun hHeld => ?_)
               clear hK K
               try simp only [gA, gB, gC, gD, gE, gF, gG]
               refine wTake 17 (v := ?_) rfl (Or.inl ⟨by rfl, ?_⟩) ?_
               rotate_left
               · intro W hSw
                 go_simp
                 all_goals with_reducible rfl
               try simp only [gA, gB, gC, gD, gE, gF, gG]
               refine wTake 18 (v := ?_) rfl (Or.inl ⟨by rfl, ?_⟩) ?_
               rotate_left
               · intro W hSw
                 go_simp
                 all_goals with_reducible rfl
               try simp only [gA, gB, gC, gD, gE, gF, gG]
               refine wpAnyH_done (by kernel_rfl) ?_ _
               go_wp2
               go_ret
               exact ⟨rfl, HBC.out⟩
           · have HWV : Hid (gr3 (wCx x) W3.zero = ⟨(a1 : Int), (b1 : Int), (c1 : Int)⟩) := by
              show _ = _
              rw [HW.out]
              show (if (decide (a1 = 0) && decide (b1 = 0) && decide (c1 = 0)) = true then _ else _) = _
              rw [if_neg (by simp; omega)]
             have i1 : ((a1 : Int) == 0) = false := by rw [beq_eq_false_iff_ne]; omega
             clear h1
             have HC8 := HC7
             have HB8 := HB7
             have HLB := HL7
             go_upto_region 32 with fail
             try clear i1
             try clear i2
             try clear i3
             go_upto_region 32 with fail
             go_wp2_with fail
             refine (nodes6_any T2 _ HST.out).mono ?_
             rintro e w1 ⟨⟨v1, rfl, hv1⟩, ha1⟩
             go_wp2_with fail
             refine (parse6 T2 HST.out hv1 (HL.out.below (below_seq HB8.out ha1)) HXT.out).mono ?_
             rintro e w2 ⟨⟨L, u, rfl, hr1, hL⟩, hb1⟩
             obtain rfl : L = [x] := hL
             obtain ⟨b, off, cap, hu, _, hrow⟩ := cx_row hr1 (Nat.succ_pos _)
             have hu : u = .slice (some ⟨b, off, none⟩) 1 cap := hu
             subst hu
             obtain ⟨a1', n1, c1', a2, n2, c2, pe, x0, x1, x2, R1⟩ := hrow 0 (Nat.succ_pos _)
             simp only [Nat.zero_mul, Nat.add_zero, List.getElem_cons_zero] at x0 x1 x2 R1
             have hc2 := (HC8.out.below (below_seq ha1 hb1) HLB.out)
             have HB9 := Lib.hid (below_seq (below_seq HB8.out ha1) hb1)
             have ea : ∀ W, (Op.equalIn 10000 38 (.agg (W3.mk (a1 : Int) (b1 : Int) (c1 : Int)).cs) (.agg #[.int .i64 (a1 : Int), .int .i64 (b1 : Int), .int .i64 (c1 : Int)])).run Tryz.prog W = .ok true W := fun W => w3_eq (wf_nat (by have := HBD.out; omega)) (wf_nat (by have := HBD.out; omega)) (wf_nat (by have := HBD.out; omega)) W
             go_upto_region 33 with fail
             refine wp_region_held_drew (S := (fun W => W.rangeAt b off [.slice a1' n1 c1', .slice a2 n2 c2, .int .i64 pe] ∧ W.rangeAt gb 0 [.int .i64 (a1 : Int), .int .i64 (b1 : Int), .int .i64 (c1 : Int)])) (by kernel_rfl) ⟨range3 x0 x1 x2, range3 (hc2.cell 0) (hc2.cell 1) (hc2.cell 2)⟩ (fun hHeld => ?_)
             have HBd := Lib.hid HB9.out.drew
             have HRd := Lib.hid (R1.below (Below.refl w2.heap.size w2).drew)
             generalize w2.drew = WA at *
             clear x0 x1 x2 hc2 R1 hrow hr1 hb1 ha1 hv1
             refine wTake 0 (v := ?_) rfl (Or.inl ⟨by rfl, ?_⟩) ?_
             rotate_left
             · intro W hSw
               go_simp
               all_goals with_reducible rfl
             try simp only [gA, gB, gC, gD, gE, gF, gG]
             refine wTake 1 (v := ?_) rfl (Or.inl ⟨by rfl, ?_⟩) ?_
             rotate_left
             · intro W hSw
               go_simp
               all_goals with_reducible rfl
             try simp only [gA, gB, gC, gD, gE, gF, gG]
             refine wTake 2 (v := ?_) rfl (Or.inl ⟨by rfl, ?_⟩) ?_
             rotate_left
             · intro W hSw
               go_simp
               all_goals with_reducible rfl
             try simp only [gA, gB, gC, gD, gE, gF, gG]
             refine wTake 3 (v := ?_) rfl (Or.inl ⟨by rfl, ?_⟩) ?_
             rotate_left
             · intro W hSw
               go_simp
               all_goals with_reducible rfl
             try simp only [gA, gB, gC, gD, gE, gF, gG]
             refine wTake 4 (v := ?_) rfl (Or.inl ⟨by rfl, ?_⟩) ?_
             rotate_left
             · intro W hSw
               go_simp
               all_goals with_reducible rfl
             try simp only [gA, gB, gC, gD, gE, gF, gG]
             refine wTake 5 (v := ?_) rfl (Or.inl ⟨by rfl, ?_⟩) ?_
             rotate_left
             · intro W hSw
               go_simp
               all_goals with_reducible rfl
             try simp only [gA, gB, gC, gD, gE, gF, gG]
             refine wTake 6 (v := ?_) rfl (Or.inl ⟨by rfl, ?_⟩) ?_
             rotate_left
             · intro W hSw
               go_simp
               all_goals with_reducible rfl
             try simp only [gA, gB, gC, gD, gE, gF, gG]
             refine wTake 7 (v := ?_) rfl (Or.inl ⟨by rfl, ?_⟩) ?_
             rotate_left
             · intro W hSw
               go_simp
               all_goals with_reducible rfl
             try simp only [gA, gB, gC, gD, gE, gF, gG]
             refine wTake 8 (v := ?_) rfl (Or.inl ⟨by rfl, ?_⟩) ?_
             rotate_left
             · intro W hSw
               go_simp
               all_goals with_reducible rfl
             try simp only [gA, gB, gC, gD, gE, gF, gG]
             refine wTake 9 (v := ?_) rfl (Or.inl ⟨by rfl, ?_⟩) ?_
             rotate_left
             · intro W hSw
               go_simp
               all_goals with_reducible rfl
             try simp only [gA, gB, gC, gD, gE, gF, gG]
             refine wTake 10 (v := _) rfl (yieldsIf_load_mid (by rfl) 33 (.tmp 125) rfl b off rfl [.slice a1' n1 c1', .slice a2 n2 c2, .int .i64 pe] _ (fun _ h => h.1) Tryz.underlying33 (by rfl) (by kernel_rfl)) ?_
             try simp only [gA, gB, gC, gD, gE, gF, gG]
             refine wTake 12 (v := _) rfl (yieldsIf_load_mid (by rfl) 38 (.tmp 13) rfl gb 0 rfl [.int .i64 (a1 : Int), .int .i64 (b1 : Int), .int .i64 (c1 : Int)] _ (fun _ h => h.2) Tryz.underlying38 (by rfl) w3_size) ?_
             try simp only [gA, gB, gC, gD, gE, gF, gG]
             refine wpAnyH_ready (rs := [11]) (by kernel_rfl) (by simp) ?_
             refine AllReadyH.cons (o := _) rfl (fun K hK => ?_) AllReadyH.nil
             simp only [List.getElem_toArray, List.getElem_cons_zero, List.getElem_cons_succ]
             rw [if_pos (by rfl)]
             go_simp
             refine (weigh_cx HRd.out HOK.out HN.out HZ.out HWV.out).mono ?_
             rintro e wB ⟨rfl, hbB⟩
             have HBB := Lib.hid (below_seq HBd.out hbB)
             have hSB : (fun W => W.rangeAt b off [.slice a1' n1 c1', .slice a2 n2 c2, .int .i64 pe] ∧ W.rangeAt gb 0 [.int .i64 (a1 : Int), .int .i64 (b1 : Int), .int .i64 (c1 : Int)]) wB := ⟨range_below hHeld.1 hbB, range_below hHeld.2 hbB⟩
             clear hbB hHeld
             go_simp
             refine hK.out _ _ hSB (fun hHeld => ?_)
             clear hK K
             try simp only [gA, gB, gC, gD, gE, gF, gG]
             refine wTake 13 (v := ?_) rfl (Or.inl ⟨by rfl, ?_⟩) ?_
             rotate_left
             · intro W hSw
               go_simp
               all_goals with_reducible rfl
             try simp only [gA, gB, gC, gD, gE, gF, gG]
             refine wTake 14 (v := ?_) rfl (Or.inl ⟨by rfl, ?_⟩) ?_
             rotate_left
             · intro W hSw
               go_simp
               all_goals with_reducible rfl
             try simp only [gA, gB, gC, gD, gE, gF, gG]
             refine wTake 15 (v := ?_) rfl (Or.inl ⟨by rfl, ?_⟩) ?_
             rotate_left
             · intro W hSw
               go_simp
               all_goals with_reducible rfl
             try simp only [gA, gB, gC, gD, gE, gF, gG]
             refine wpAnyH_ready (rs := [16]) (by kernel_rfl) (by simp) ?_
             refine AllReadyH.cons (o := _) rfl (fun K hK => ?_) AllReadyH.nil
             simp only [List.getElem_toArray, List.getElem_cons_zero, List.getElem_cons_succ]
             rw [if_pos (by rfl)]
             go_simp
             refine (awake6_any _ (HL.out.below HBB.out) (HT.out.below HBB.out)).mono ?_
             rintro e wC ⟨rfl, hbC⟩
             have HBC := Lib.hid (below_seq HBB.out hbC)
             have hSC : (fun W => W.rangeAt b off [.slice a1' n1 c1', .slice a2 n2 c2, .int .i64 pe] ∧ W.rangeAt gb 0 [.int .i64 (a1 : Int), .int .i64 (b1 : Int), .int .i64 (c1 : Int)]) wC := ⟨range_below hHeld.1 hbC, range_below hHeld.2 hbC⟩
             clear hbC hHeld hSB
             go_simp
             refine hK.out _ _ hSC (fun hHeld => ?_)
             clear hK K
             try simp only [gA, gB, gC, gD, gE, gF, gG]
             refine wTake 17 (v := ?_) rfl (Or.inl ⟨by rfl, ?_⟩) ?_
             rotate_left
             · intro W hSw
               go_simp
               all_goals with_reducible rfl
             try simp only [gA, gB, gC, gD, gE, gF, gG]
             refine wTake 18 (v := ?_) rfl (Or.inl ⟨by rfl, ?_⟩) ?_
             rotate_left
             · intro W hSw
               go_simp
               all_goals with_reducible rfl
             try simp only [gA, gB, gC, gD, gE, gF, gG]
             refine wpAnyH_done (by kernel_rfl) ?_ _
             go_wp2
             go_ret
             exact ⟨rfl, HBC.out⟩
theorem weights_any (w : World) (hl : TabL w) (ht : Tab w) (a b c how : Int) : Calls Tryz.prog 4 #[.int .i64 a, .int .i64 b, .int .i64 c, .int .i64 how] w fun e w' => e = .returned (.bool true) ∧ Below w.heap.size w w' := by
 by_cases hal0 : a < 0
 · have HL := Lib.hid hl
   have HT := Lib.hid ht
   clear hl ht
   go_enter Tryz.func4, Tryz.ntmps4
   go_wp2_with (go_at_call 9; refine (awake6_any _ HL.out HT.out).mono ?_; rintro e w3 ⟨rfl, hb3⟩)
   go_ret
   exact ⟨rfl, hb3⟩
 by_cases h5la : 5 < a
 · have HL := Lib.hid hl
   have HT := Lib.hid ht
   clear hl ht
   go_enter Tryz.func4, Tryz.ntmps4
   go_wp2_with (go_at_call 9; refine (awake6_any _ HL.out HT.out).mono ?_; rintro e w3 ⟨rfl, hb3⟩)
   go_ret
   exact ⟨rfl, hb3⟩
 by_cases hbl0 : b < 0
 · have HL := Lib.hid hl
   have HT := Lib.hid ht
   clear hl ht
   go_enter Tryz.func4, Tryz.ntmps4
   go_wp2_with (go_at_call 9; refine (awake6_any _ HL.out HT.out).mono ?_; rintro e w3 ⟨rfl, hb3⟩)
   go_ret
   exact ⟨rfl, hb3⟩
 by_cases h5lb : 5 < b
 · have HL := Lib.hid hl
   have HT := Lib.hid ht
   clear hl ht
   go_enter Tryz.func4, Tryz.ntmps4
   go_wp2_with (go_at_call 9; refine (awake6_any _ HL.out HT.out).mono ?_; rintro e w3 ⟨rfl, hb3⟩)
   go_ret
   exact ⟨rfl, hb3⟩
 by_cases hcl0 : c < 0
 · have HL := Lib.hid hl
   have HT := Lib.hid ht
   clear hl ht
   go_enter Tryz.func4, Tryz.ntmps4
   go_wp2_with (go_at_call 9; refine (awake6_any _ HL.out HT.out).mono ?_; rintro e w3 ⟨rfl, hb3⟩)
   go_ret
   exact ⟨rfl, hb3⟩
 by_cases h3lc : 3 < c
 · have HL := Lib.hid hl
   have HT := Lib.hid ht
   clear hl ht
   go_enter Tryz.func4, Tryz.ntmps4
   go_wp2_with (go_at_call 9; refine (awake6_any _ HL.out HT.out).mono ?_; rintro e w3 ⟨rfl, hb3⟩)
   go_ret
   exact ⟨rfl, hb3⟩
 obtain ⟨a', rfl⟩ : ∃ m : Nat, a = m := ⟨a.toNat, by omega⟩
 obtain ⟨b', rfl⟩ : ∃ m : Nat, b = m := ⟨b.toNat, by omega⟩
 obtain ⟨c', rfl⟩ : ∃ m : Nat, c = m := ⟨c.toNat, by omega⟩
 have hk : how % 5 = 0 ∨ how % 5 = 1 ∨ how % 5 = 2 ∨ how % 5 = 3 ∨ how % 5 = 4 := by omega
 rcases hk with hk | hk | hk | hk | hk
 · exact weights_0 w a' b' c' how hl ht (by omega) (by omega) (by omega) hk
 · exact weights_1 w a' b' c' how hl ht (by omega) (by omega) (by omega) hk
 · exact weights_2 w a' b' c' how hl ht (by omega) (by omega) (by omega) hk
 · exact weights_3 w a' b' c' how hl ht (by omega) (by omega) (by omega) hk
 · exact weights_4 w a' b' c' how hl ht (by omega) (by omega) (by omega) hk
theorem SelectorWeights_any (w : World) (ht : Tab6 w) (a : Int) (_wa : (Lit.int .i64 a).wf = true) (b : Int) (_wb : (Lit.int .i64 b).wf = true) (c : Int) (_wc : (Lit.int .i64 c).wf = true) (k : Int) (_wk : (Lit.int .i64 k).wf = true) : Calls Tryz.prog 4 #[.int .i64 a, .int .i64 b, .int .i64 c, .int .i64 k] w fun e w' => e = .returned (.bool true) ∧ Below w.heap.size w w' := weights_any w ht.1 ht.2 a b c k
end Go.Proofs.YtgpiedifodkegaaGreatDoor
namespace Go.Proofs.YtgpiedifodkegaaGreatDoor.selectorWeights
open Go.ChangeShapes Go.WideShapes Go.ChangeAt Go.RowKit
abbrev laidL : List (String × DataW Unit) := [("math/bits.deBruijn32tab", Rows.laid_math_bits_deBruijn32tab), ("math/bits.deBruijn64tab", Rows.laid_math_bits_deBruijn64tab), ("internal/strconv.uint64pow10", Rows.laid_internal_strconv_uint64pow10), ("fleuron/selector.words", Rows.laid_fleuron_selector_words), ("fleuron/selector.elements", Rows.laid_fleuron_selector_elements)]
theorem tab_of {W : World} (h : laidMetH Tryz.prog laidL W) : Tab6 W := by
 rw [MakeChecks.laidMetH_plain _ _ _ (by kernel_rfl)] at h
 exact tab6_of h (.tail _ (.tail _ (.tail _ (.head _)))) (.tail _ (.tail _ (.tail _ (.tail _ (.head _))))) (.tail _ (.tail _ (.head _)))
theorem lifted (os : Os) (started : os.Started) (H : Type) (enc : TypeId × Value → H) :
    ReturnsInHanded {} Tryz.checked os 4 .any (fun w args => (Rows.selectorWeightsSpec.pre enc Tryz.prog Tryz.f4 [] false w args ∧ laidMetH Tryz.prog laidL w) ∧ sizedMet enc Tryz.prog Tryz.f4 (OpenSpec.ofChange Rows.selectorWeightsSpec) false w args) (Rows.selectorWeightsSpec.post enc Tryz.prog Tryz.f4 false true false false) := by
  refine returnsInHanded_of_change_and (C := Tryz.checked) (X := fun w _ => laidMetH Tryz.prog laidL w) (fun _ _ _ hh h => h.of_heap hh) own started (by kernel_rfl) Tryz.func4
    (ChangeSpec.witness_shaped (enc := enc) (C := Tryz.checked) (os := os) (X := fun w _ => laidMetH Tryz.prog laidL w) false (World.laidAll Tryz.prog os laidL) #[.int .i64 0, .int .i64 0, .int .i64 0, .int .i64 0] 8 (World.laidAll_os _ _ _)
      (World.shaped_of_ZipB (by kernel_rfl) (by kernel_rfl)) (by kernel_rfl) (by kernel_rfl) (by kernel_rfl)
      (by rw [MakeChecks.laidMetH_plain _ _ _ (by kernel_rfl)]; exact laidMet_laidAll _ (by kernel_rfl) (by kernel_rfl))) ?_
  intro W base args ds gs before hval0 hW _ _ hL _
  have hval : ∀ (j : Nat) t v, Tryz.f4.params[j]? = some t → args[j]? = some v → Value.okWide Tryz.prog W .any base t v := hval0
  have hW' := hW
  obtain ⟨p, q, hA0, hV, rfl, hfz, hnd⟩ := hW
  have hlt : ∀ x ∈ p, x.block < W.heap.size := fun x hx => hW'.lt x (List.mem_append_left _ hx)
  have hA : DataW.TrodAll enc Tryz.prog W 0 (fun _ => true) true Tryz.f4.params.toList args.toList ds p := hA0
  rw [Tryz.params4] at hA hval
  obtain ⟨v0, vs0, d0, ds0, p0, q0, hargs, rfl, rfl, h0, r0⟩ := trodAll_cons hA
  obtain ⟨v1, vs1, d1, ds1, p1, q1, rfl, rfl, rfl, h1, r1⟩ := trodAll_cons r0
  obtain ⟨v2, vs2, d2, ds2, p2, q2, rfl, rfl, rfl, h2, r2⟩ := trodAll_cons r1
  obtain ⟨v3, vs3, d3, ds3, p3, q3, rfl, rfl, rfl, h3, r3⟩ := trodAll_cons r2
  obtain ⟨rfl, rfl, rfl⟩ := trodAll_nil r3
  obtain rfl : args = #[v0, v1, v2, v3] := by cases args; simp_all
  have hV' := hV
  obtain ⟨rfl, rfl⟩ := trodVars_none hV
  obtain ⟨a0, rfl, rfl, rfl, w0⟩ := open_int Tryz.underlying3 (hval 0 3 v0 rfl rfl) h0
  obtain ⟨a1, rfl, rfl, rfl, w1⟩ := open_int Tryz.underlying3 (hval 1 3 v1 rfl rfl) h1
  obtain ⟨a2, rfl, rfl, rfl, w2⟩ := open_int Tryz.underlying3 (hval 2 3 v2 rfl rfl) h2
  obtain ⟨a3, rfl, rfl, rfl, w3⟩ := open_int Tryz.underlying3 (hval 3 3 v3 rfl rfl) h3
  refine (SelectorWeights_any W (tab_of hL) a0 w0 a1 w1 a2 w2 a3 w3).mono fun e W' ⟨he, hg⟩ => ?_
  subst he
  exact ⟨_, rfl, law_post laidOut (by kernel_rfl) rfl rfl Tryz.underlying4 rfl rfl rfl hW' hg⟩
theorem over : Rows.selectorWeightsRow.holds Tryz.pinned (OpenSpec.ofChange Rows.selectorWeightsSpec) :=
 OpenClaim.holds_of_wide 4 Tryz.f4 rfl rfl rfl rfl rfl rfl rfl ⟨rfl, rfl, rfl, rfl, rfl⟩ rfl rfl rfl rfl rfl (by kernel_rfl) Tryz.func4 (by kernel_rfl)
   (of_decide_eq_true (by kernel_rfl)) (by unfold Func.isWrapper; first | (rw [if_pos (by decide +kernel)]; kernel_rfl) | (rw [if_neg (by decide +kernel)]; exact ⟨rfl, rfl⟩))
   (fun os started H enc _ => lifted os started H enc)
theorem proved : Rows.SelectorWeightsCardSaid :=
 Claim7.holds_tied_plain_at .later [] [.data, .data, .data, .data, .data] true (true, "d0036d5512a72c49b745c0c6c8ca9f9d6f6837c966c9eb1ac8f280244e3c1477") false
   over (fun _ h => by cases h) (by kernel_rfl) (fun _ h => by cases h) selectorWeights_row_tie rfl ⟨rfl, rfl⟩ (by kernel_rfl) rfl
   (fun f fn hf hfn => by
    obtain rfl : f = 4 := Option.some.inj ((show Tryz.prog.funcNamed "fleuron/fleuronlaw6.SelectorWeights" = some 4 by kernel_rfl).symm.trans hf) |>.symm
    obtain rfl : fn = Tryz.f4 := (Option.some.inj (Tryz.func4.symm.trans hfn)).symm
    exact ⟨by kernel_rfl, fun j t ht => by
     rw [Tryz.params4] at ht
     have hm : t ∈ [ 3, 3, 3, 3 ] := by simpa using Array.mem_of_getElem? ht
     have hall : ([ 3, 3, 3, 3 ].all fun u => !Tryz.prog.wantsStandIn u) = true := by kernel_rfl
     exact (show Tryz.prog.wantsStandIn t = false by simpa using List.all_eq_true.1 hall t hm)⟩)
   (by kernel_rfl)
end Go.Proofs.YtgpiedifodkegaaGreatDoor.selectorWeights
