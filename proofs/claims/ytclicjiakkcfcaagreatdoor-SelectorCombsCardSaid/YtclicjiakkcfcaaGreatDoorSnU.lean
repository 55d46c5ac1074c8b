/- SelectorCombs holds of every argument, where package selector's two tables of words and the library's tables of decimals hold what the program's own text lays in them (the card ties that): the call returns true, and each argument reads behind it as it did before. -/
import Derived.Test.YtclicjiakkcfcaaGreatDoorSyA
import Derived.Laws.OwnMore
import Derived.Laws.Rows
import Derived.BigRegion
import Derived.Deep.CutBlock
import Derived.Deep.Cut
import Derived.Test.YtclicjiakkcfcaaGreatDoorTie
import Derived.Test.YtclicjiakkcfcaaGreatDoorCards
import Derived.SevenTiedAt
import Derived.LaidMore
import Derived.MakeChecks
import Derived.Lay
import Derived.Lib.LaidU8
import Derived.Stop.Joined
import Derived.Test.YtclicjiakkcfcaaGreatDoorSnA
import Derived.Test.YtclicjiakkcfcaaGreatDoorCbA
set_option maxRecDepth 100000
set_option maxHeartbeats 1600000
namespace Go.Proofs.YtclicjiakkcfcaaGreatDoor
open Go.RowKit
abbrev OwnT (B : Nat) (w : World) (v : Value) (l : List ByteArray) : Prop := w.ownsRow B 9 1 v l.length (l.map Value.string)
theorem OwnT.nil (B : Nat) (w : World) : OwnT B w (.slice none 0 0) [] := ⟨by simp, .inl ⟨rfl, rfl⟩⟩
theorem OwnT.snoc {B : Nat} {w : World} {v : Value} {l : List ByteArray} {x : ByteArray} (h : w.ownsRow B 9 1 v (l.length + 1) (l.map Value.string ++ [.string x])) : OwnT B w v (l ++ [x]) := by
 unfold OwnT
 rw [List.length_append, List.length_singleton, List.map_append]
 exact h
theorem OwnT.rd {B : Nat} {w : World} {v : Value} {l : List ByteArray} (h : OwnT B w v l) : RdTx w v l := by
 have hl := h.lt
 have hc := fun g hg => h.cells (g := g) hg
 rcases h.2 with ⟨rfl, h0⟩ | ⟨g, cap, cur, rfl, b, c, d, _⟩
 · exact ⟨none, 0, by rw [h0], by omega, fun hp => by omega⟩
 · refine ⟨_, cap, rfl, d, fun _ => ⟨g, 0, rfl, (hl g rfl).2, fun j hj => ?_⟩⟩
   have := hc g rfl j (.string l[j]) (by rw [List.getElem?_map, List.getElem?_eq_getElem hj]; rfl)
   have hadd : (⟨g, 0, none⟩ : Addr).add j = ⟨g, j, none⟩ := by unfold Addr.add; split <;> simp_all
   rw [hadd] at this
   rw [Nat.zero_add]
   exact this
theorem info_str : (Tryz.prog.info? 9).map (fun i => (i.zero, i.size, i.bytes)) = some (some (.string ⟨#[]⟩), 1, 16) := by kernel_rfl
theorem bytes_ne {x y : ByteArray} (h : (x.toList == y.toList) = false) : x ≠ y := fun e => by subst e; simp at h
theorem blq_go (b : ByteArray) : ∀ (n i : Nat) (r : List UInt8), b.size - i = n → ByteArray.toList.loop b i r = r.reverse ++ b.data.toList.drop i := by
 intro n
 induction n with
 | zero =>
  intro i r h
  unfold ByteArray.toList.loop
  have hz : b.size = b.data.toList.length := by rw [Array.length_toList]; rfl
  rw [if_neg (by omega), List.drop_eq_nil_of_le (by omega), List.append_nil]
 | succ n ih =>
  intro i r h
  unfold ByteArray.toList.loop
  have hz : b.size = b.data.toList.length := by rw [Array.length_toList]; rfl
  have hi : i < b.data.toList.length := by omega
  rw [if_pos (by omega), ih (i + 1) _ (by omega), List.reverse_cons, List.append_assoc, List.drop_eq_getElem_cons hi]
  congr 2
  show [b.data[i]!] ++ _ = _
  rw [getElem!_pos b.data i (by rw [← Array.length_toList]; exact hi)]
  rfl
theorem blq_data (b : ByteArray) : b.toList = b.data.toList := by
 unfold ByteArray.toList
 rw [blq_go b _ 0 [] rfl]; rfl
theorem bl_eq {x y : ByteArray} (h : (x.toList == y.toList) = true) : x = y := by
 have h1 : x.toList = y.toList := by simpa using h
 rw [blq_data, blq_data] at h1
 exact ByteArray.ext (Array.ext' h1)
theorem texts_any (a b : List ByteArray) (va vb : Value) (w : World) (ha : RdTx w va a) (hb : RdTx w vb b) (hl : a.length ≤ 1000000000) :
    Calls Tryz.prog 9 #[va, vb] w fun e w' => e = .returned (.bool (decide (a = b))) ∧ Below w.heap.size w w' := by
  obtain ⟨pa, ca, rfl, hla, hca⟩ := ha
  obtain ⟨pb, cb, rfl, hlb, hcb⟩ := hb
  by_cases hlen : a.length = b.length
  · obtain ⟨N, hN⟩ : ∃ N, a.length = N := ⟨_, rfl⟩
    have hNb : b.length = N := by omega
    have HA := Lib.hid hca
    have HB := Lib.hid hcb
    have HNA := Lib.hid hN
    have HNB := Lib.hid hNb
    have n1 : ((N : Int) != (N : Int)) = false := by simp
    rw [hN] at hl ⊢
    rw [hNb]
    clear hca hcb hla hlb hlen hN hNb
    go_enter Tryz.func9, Tryz.ntmps9
    go_wp2
    go_loopw [5] (fun iv wr => ∃ i : Nat, iv = .int .i64 i ∧ i ≤ N ∧ (∀ j, (h1 : j < a.length) → (h2 : j < b.length) → j < i → a[j] = b[j]) ∧ Below w.heap.size w wr) (fun iv _ => N - (intOf iv).toNat)
    case atStart => exact ⟨0, rfl, Nat.zero_le _, fun _ _ _ h => absurd h (by omega), Below.refl _ _⟩
    case round =>
     obtain ⟨i, rfl, hi, heq, hbl⟩ := hrel
     have HE := Lib.hid heq
     have HW := Lib.hid hbl
     have HD := Lib.hid hbl.drew
     clear heq hbl
     by_cases hlt : i < N
     · have hI : (i : Int) < (N : Int) := by omega
       have hI0 : (0 : Int) ≤ (i : Int) := by omega
       obtain ⟨ga, oa, rfl, hga, fa⟩ := HA.out (by rw [HNA.out]; omega)
       obtain ⟨gb, ob, rfl, hgb, fb⟩ := HB.out (by rw [HNB.out]; omega)
       have e1 := (HW.out.cell (p := ⟨ga, oa + i, none⟩) hga).trans (fa i (by rw [HNA.out]; exact hlt))
       have e2 := (HW.out.cell (p := ⟨gb, ob + i, none⟩) hgb).trans (fb i (by rw [HNB.out]; exact hlt))
       have HX : Hid (∀ x y, a[i]'(by rw [HNA.out]; exact hlt) = x → b[i]'(by rw [HNB.out]; exact hlt) = y → x = y → ∀ j, (h1 : j < a.length) → (h2 : j < b.length) → j < i + 1 → a[j] = b[j]) := fun x y hx hy hxy j h1 h2 hj => by
        by_cases c : j < i
        · exact HE.out j h1 h2 c
        · obtain rfl : j = i := by omega
          rw [hx, hy, hxy]
       have HY : Hid (∀ x y, a[i]'(by rw [HNA.out]; exact hlt) = x → b[i]'(by rw [HNB.out]; exact hlt) = y → x ≠ y → a ≠ b) := fun x y hx hy hxy hab => by
        subst hab
        exact hxy (hx.symm.trans hy)
       clear fa fb
       generalize hxa : a[i]'(by rw [HNA.out]; exact hlt) = x at *
       generalize hxb : b[i]'(by rw [HNB.out]; exact hlt) = y at *
       cases hc : (x.toList == y.toList)
       · go_upto_region 6 with fail
         go_region
         all_goals go_wp2
         all_goals go_ret
         all_goals exact ⟨ret_bool (decide_eq_false (HY.out x y rfl rfl (bytes_ne hc))).symm, HD.out⟩
       · go_upto_region 6 with fail
         go_region
         all_goals go_wp2
         all_goals go_roundw
         case rel => exact ⟨i + 1, by go_num, by omega, HX.out x y rfl rfl (bl_eq hc), HD.out⟩
         case measure => simp [intOf]; omega
     · obtain rfl : i = N := by omega
       have hI : ¬ (i : Int) < (i : Int) := by omega
       have HEQ : Hid (a = b) := List.ext_getElem (by rw [HNA.out, HNB.out]) fun j h1 h2 => HE.out j h1 h2 (by rw [← HNA.out]; exact h1)
       go_wp2
       go_ret
       exact ⟨ret_bool (decide_eq_true HEQ.out).symm, HW.out⟩
  · have HNE : Hid (a ≠ b) := fun e => hlen (by rw [e])
    have n1 : ((a.length : Int) != (b.length : Int)) = true := by simp; omega
    have n2 : ¬ (a.length : Int) = (b.length : Int) := by omega
    clear hca hcb
    go_enter Tryz.func9, Tryz.ntmps9
    go_wp2
    go_ret
    exact ⟨ret_bool (decide_eq_false HNE.out).symm, Below.refl _ _⟩
end Go.Proofs.YtclicjiakkcfcaaGreatDoor
set_option maxRecDepth 100000
set_option maxHeartbeats 12800000
namespace Go.Proofs.YtclicjiakkcfcaaGreatDoor
open Go.RowKit
def pdB (p : Nat) : ByteArray := [⟨#[]⟩, ⟨#[32]⟩, ⟨#[10, 32]⟩, ⟨#[47, 42, 32, 120, 32, 42, 47]⟩, ⟨#[32, 47, 42, 42, 47, 32]⟩].getD p ⟨#[]⟩
def txC (F : Nat → Nat × Nat) : Nat → ByteArray
  | 0 => ⟨#[97]⟩
  | k + 1 => txC F k ++ pdB (F k).2 ++ cbB (F k).1 ++ pdB (F k).2 ++ ⟨#[97]⟩
abbrev prC (F : Nat → Nat × Nat) (k : Nat) : List (Nat × Nat) := (List.range k).map F
theorem pdB_cases {p : Nat} (h : p < 5) : (pdB p).size ≤ 7 ∧ nums (pdB p) = pdN p := by
 have : p = 0 ∨ p = 1 ∨ p = 2 ∨ p = 3 ∨ p = 4 := by omega
 rcases this with rfl | rfl | rfl | rfl | rfl <;> exact ⟨by decide, by decide⟩
theorem cbB_cases {c : Nat} (h : c < 4) : (cbB c).size = 1 ∧ nums (cbB c) = [cbN c] := by
 have : c = 0 ∨ c = 1 ∨ c = 2 ∨ c = 3 := by omega
 rcases this with rfl | rfl | rfl | rfl <;> exact ⟨by decide, by decide⟩
theorem txC_size {F : Nat → Nat × Nat} (hF : ∀ j, okCb (F j)) : ∀ k, (txC F k).size ≤ 1 + 16 * k
  | 0 => Nat.le_refl _
  | k + 1 => by
   have h := txC_size hF k
   have h1 := (pdB_cases (hF k).2).1
   have h2 := (cbB_cases (hF k).1).1
   rw [txC, sz_app, sz_app, sz_app, sz_app]
   have : (⟨#[97]⟩ : ByteArray).size = 1 := rfl
   omega
theorem txC_nums {F : Nat → Nat × Nat} (hF : ∀ j, okCb (F j)) : ∀ k, nums (txC F k) = cmbL (prC F k)
  | 0 => rfl
  | k + 1 => by
   rw [txC, nums_append, nums_append, nums_append, nums_append, txC_nums hF k, (pdB_cases (hF k).2).2, (cbB_cases (hF k).1).2, show prC F (k + 1) = prC F k ++ [F k] by unfold prC; rw [List.range_succ, List.map_append]; rfl, show F k = ((F k).1, (F k).2) from rfl, cmbL_snoc]
   unfold pcL
   rw [show nums ⟨#[97]⟩ = [97] by decide]
   simp
def okX (x : Int) : Bool := decide (1 ≤ x ∧ x < 128 ∧ x ≠ 12 ∧ x ≠ 13)
theorem pcL_ok {c p : Nat} (hc : c < 4) (hp : p < 5) : (pcL c p).all okX = true := by
 have h1 : c = 0 ∨ c = 1 ∨ c = 2 ∨ c = 3 := by omega
 have h2 : p = 0 ∨ p = 1 ∨ p = 2 ∨ p = 3 ∨ p = 4 := by omega
 rcases h1 with rfl | rfl | rfl | rfl <;> rcases h2 with rfl | rfl | rfl | rfl | rfl <;> decide
theorem cmbL_ok : ∀ l : List (Nat × Nat), (∀ x ∈ l, okCb x) → (cmbL l).all okX = true
  | [], _ => by decide
  | (c, p) :: l, h => by
   have hx := h (c, p) (by simp)
   rw [cmbL, List.all_cons, List.all_append, pcL_ok hx.1 hx.2, cmbL_ok l (fun x hx => h x (by simp [hx]))]
   decide
theorem prC_ok {F : Nat → Nat × Nat} (hF : ∀ j, okCb (F j)) (k : Nat) : ∀ x ∈ prC F k, okCb x := fun x hx => by
 obtain ⟨j, _, rfl⟩ := List.mem_map.1 hx
 exact hF j
theorem sel_tx {F : Nat → Nat × Nat} (hF : ∀ j, okCb (F j)) (k : Nat) : selS parseS (ndsS (toks (readS (txC F k)))) = if k + 1 ≤ 8 then some [.mk (List.replicate (k + 1) cpA) ((prC F k).map fun x => cbB x.1) 0] else none := by
 have e : readS (txC F k) = cmbL (prC F k) := by
  rw [ascii_read _ (fun x hx => by
   rw [txC_nums hF k] at hx
   exact of_decide_eq_true (List.all_eq_true.1 (cmbL_ok _ (prC_ok hF k)) x hx)), txC_nums hF k]
 rw [e, sel_cmb parseS (prC_ok hF k)]
 simp [prC]
theorem w_cmb {n : Nat} (h : n ≤ 8) (cs : List ByteArray) : gr3 (wCx (.mk (List.replicate n cpA) cs 0)) W3.zero = ⟨0, 0, (n : Int)⟩ ∧ nCx (.mk (List.replicate n cpA) cs 0) ≤ 100000000 ∧ zCx (.mk (List.replicate n cpA) cs 0) ≤ 100000000 := by
 have : n = 0 ∨ n = 1 ∨ n = 2 ∨ n = 3 ∨ n = 4 ∨ n = 5 ∨ n = 6 ∨ n = 7 ∨ n = 8 := by omega
 rcases this with rfl | rfl | rfl | rfl | rfl | rfl | rfl | rfl | rfl <;> exact ⟨by (show (_ : W3) = _; kernel_rfl), Nat.le_of_ble_eq_true (by (show (_ : Bool) = _; kernel_rfl)), Nat.le_of_ble_eq_true (by (show (_ : Bool) = _; kernel_rfl))⟩
theorem cellS (w : World) (l : List ByteArray) (T : TypeId) {i : Nat} (h : i < l.length) : (w.alloc (.cells (l.map Value.string).toArray T)).cell? ⟨w.heap.size, i, none⟩ = some (.string (l.getD i eB)) := by
 have hb := heap_alloc_self w (.cells (l.map Value.string).toArray T)
 simp only [World.cell?, hb]
 simp [List.getD_eq_getElem?_getD, h]
theorem cb_cell (w : World) {i : Nat} (h : i < 4) : (w.alloc (.cells #[.string ⟨#[32]⟩, .string ⟨#[62]⟩, .string ⟨#[43]⟩, .string ⟨#[126]⟩] 9)).cell? ⟨w.heap.size, i, none⟩ = some (.string (cbB i)) := cellS w [⟨#[32]⟩, ⟨#[62]⟩, ⟨#[43]⟩, ⟨#[126]⟩] 9 h
theorem pd_cell (w : World) {i : Nat} (h : i < 5) : (w.alloc (.cells #[.string ⟨#[]⟩, .string ⟨#[32]⟩, .string ⟨#[10, 32]⟩, .string ⟨#[47, 42, 32, 120, 32, 42, 47]⟩, .string ⟨#[32, 47, 42, 42, 47, 32]⟩] 9)).cell? ⟨w.heap.size, i, none⟩ = some (.string (pdB i)) := cellS w [⟨#[]⟩, ⟨#[32]⟩, ⟨#[10, 32]⟩, ⟨#[47, 42, 32, 120, 32, 42, 47]⟩, ⟨#[32, 47, 42, 42, 47, 32]⟩] 9 h
theorem rdtx_of {w : World} {Q : Nat → Prop} {cb : List ByteArray} {u : Value} (h : rdG w Q (.sl 1 (cb.map fun x => [.lf (.string x)])) u) : RdTx w u cb := by
 obtain ⟨a, c, hv, hle⟩ := h.shape
 rw [List.length_map] at hv hle
 refine ⟨a, c, hv, hle, fun hp => ?_⟩
 obtain ⟨b, off, c', hv', _, hb, hrow⟩ := rdG.rowAt (f := fun x => [Dt.lf (.string x)]) h hp
 rw [hv] at hv'
 injection hv' with e1 e2 e3
 refine ⟨b, off, e1, hb, fun j hj => ?_⟩
 obtain ⟨x, hx, hd⟩ := hrow j hj 0 (Nat.succ_pos _)
 rw [show ([Dt.lf (.string cb[j])] : List Dt)[0] = Dt.lf (.string cb[j]) from rfl, rdG] at hd
 rw [Nat.mul_one, Nat.add_zero, hd] at hx
 exact hx
theorem w3_lits {d : Nat} {a b c : Int} (ha : (Lit.int .i64 a).wf = true) (hb : (Lit.int .i64 b).wf = true) (hc : (Lit.int .i64 c).wf = true) : Tryz.prog.keyLits (d + 1 + 1) 37 [.int .i64 a, .int .i64 b, .int .i64 c] = some [.int .i64 a, .int .i64 b, .int .i64 c] := by
 have li : ∀ x : Int, (Lit.int .i64 x).wf = true → Tryz.prog.keyLits (d + 1) 3 [.int .i64 x] = some [.int .i64 x] := fun x h => by
  unfold Program.keyLits
  simp only [Tryz.underlying3]
  rw [if_pos ⟨trivial, h⟩]
 have ci : Tryz.prog.cellsOf 3 = 1 := by kernel_rfl
 have cw : Tryz.prog.cellsOf 37 = 3 := by kernel_rfl
 unfold Program.keyLits
 simp only [Tryz.underlying37]
 rw [if_pos (by simp [cw])]
 simp [List.range_succ, ci, li a ha, li b hb, li c hc]
theorem w3_eq {a b c : Int} (ha : (Lit.int .i64 a).wf = true) (hb : (Lit.int .i64 b).wf = true) (hc : (Lit.int .i64 c).wf = true) (w : World) : (Op.equalIn 10000 37 (.agg #[.int .i64 a, .int .i64 b, .int .i64 c]) (.agg #[.int .i64 a, .int .i64 b, .int .i64 c])).run Tryz.prog w = .ok true w := by
 obtain ⟨r, hr, hiff⟩ := run_equalIn_deep (P := Tryz.prog) 9990 10 37 (by kernel_rfl) w 10 10 (.agg #[.int .i64 a, .int .i64 b, .int .i64 c]) (.agg #[.int .i64 a, .int .i64 b, .int .i64 c]) [.int .i64 a, .int .i64 b, .int .i64 c] [.int .i64 a, .int .i64 b, .int .i64 c] (by kernel_rfl) (by kernel_rfl) (w3_lits (d := 8) ha hb hc) (w3_lits (d := 8) ha hb hc)
 rw [hiff.2 rfl] at hr
 exact hr
theorem wf_nat {n : Nat} (h : n ≤ 1000) : (Lit.int .i64 (n : Int)).wf = true := by
 have h1 : IntKind.i64.min = -9223372036854775808 := by decide
 have h2 : IntKind.i64.max = 9223372036854775807 := by decide
 show (decide (IntKind.i64.min ≤ (n : Int)) && decide ((n : Int) ≤ IntKind.i64.max)) = true
 rw [h1, h2, decide_eq_true (by omega), decide_eq_true (by omega)]
 rfl
def fC (xs ys : List Int) (j : Nat) : Nat × Nat := ((nth xs (j + 1) % 4).toNat, (nth ys (j + 1) % 5).toNat)
theorem fC_ok (xs ys : List Int) (j : Nat) : okCb (fC xs ys j) := by
 unfold okCb fC
 simp only
 omega
theorem combs_in (w : World) (xs ys : List Int) (va vb : Value) (hl : TabL w) (ht : Tab w) (h1 : Rd .i64 w va xs) (h2 : Rd .i64 w vb ys) (hn1 : 1 ≤ xs.length) (hn2 : xs.length ≤ 12) (hm1 : xs.length ≤ ys.length) (hm2 : ys.length ≤ 40) :
    Calls Tryz.prog 3 #[va, vb] w fun e w' => e = .returned (.bool true) ∧ Below w.heap.size w w' := by
  obtain ⟨i0, hi, hz0, hz1, hz2⟩ := info_parts info_str
  obtain ⟨a1, k1, rfl, hk1, hc1⟩ := h1
  obtain ⟨a2, k2, rfl, hk2, hc2⟩ := h2
  obtain ⟨b1, o1, rfl, hb1, hx⟩ := hc1 (by omega)
  obtain ⟨b2, o2, rfl, hb2, hy⟩ := hc2 (by omega)
  obtain ⟨n, hn⟩ : ∃ n, xs.length = n := ⟨_, rfl⟩
  obtain ⟨m, hm⟩ : ∃ m, ys.length = m := ⟨_, rfl⟩
  rw [hn] at hn1 hn2 hm1 hx hk1 ⊢
  rw [hm] at hm1 hm2 hy hk2 ⊢
  have HL := Lib.hid hl
  have HT := Lib.hid ht
  have HX := Lib.hid hx
  have HY := Lib.hid hy
  have HNM : Hid (1 ≤ n ∧ n ≤ 12 ∧ n ≤ m ∧ m ≤ 40) := ⟨hn1, hn2, hm1, hm2⟩
  have HBB : Hid (b1 < w.heap.size ∧ b2 < w.heap.size) := ⟨hb1, hb2⟩
  have HKK : Hid (n ≤ k1 ∧ m ≤ k2) := ⟨hk1, hk2⟩
  have g1 : ¬ (n : Int) < 1 := by omega
  have g2 : ¬ (12 : Int) < (n : Int) := by omega
  have g3 : ¬ (m : Int) < (n : Int) := by omega
  have g4 : ¬ (40 : Int) < (m : Int) := by omega
  have HCB := Lib.hid (fun c (hc : c < 4) => cell_newS (cb_cell w hc) (.cells #[.string ⟨#[]⟩, .string ⟨#[32]⟩, .string ⟨#[10, 32]⟩, .string ⟨#[47, 42, 32, 120, 32, 42, 47]⟩, .string ⟨#[32, 47, 42, 42, 47, 32]⟩] 9))
  have HPB := Lib.hid (fun p (hp : p < 5) => pd_cell (w.alloc (.cells #[.string ⟨#[32]⟩, .string ⟨#[62]⟩, .string ⟨#[43]⟩, .string ⟨#[126]⟩] 9)) hp)
  have hsz : (w.alloc (.cells #[.string ⟨#[32]⟩, .string ⟨#[62]⟩, .string ⟨#[43]⟩, .string ⟨#[126]⟩] 9)).heap.size = w.heap.size + 1 := by simp
  rw [hsz] at HPB
  have HB0 := Lib.hid (below_seq (bel_newS w (.cells #[.string ⟨#[32]⟩, .string ⟨#[62]⟩, .string ⟨#[43]⟩, .string ⟨#[126]⟩] 9)) (bel_newS (w.alloc (.cells #[.string ⟨#[32]⟩, .string ⟨#[62]⟩, .string ⟨#[43]⟩, .string ⟨#[126]⟩] 9)) (.cells #[.string ⟨#[]⟩, .string ⟨#[32]⟩, .string ⟨#[10, 32]⟩, .string ⟨#[47, 42, 32, 120, 32, 42, 47]⟩, .string ⟨#[32, 47, 42, 42, 47, 32]⟩] 9)))
  clear hl ht hx hy hn1 hn2 hm1 hm2 hb1 hb2 hk1 hk2 hc1 hc2 hsz hn hm
  go_enter Tryz.func3, Tryz.ntmps3
  go_upto_region 5 with fail
  generalize (w.alloc (.cells #[.string ⟨#[32]⟩, .string ⟨#[62]⟩, .string ⟨#[43]⟩, .string ⟨#[126]⟩] 9)).alloc (.cells #[.string ⟨#[]⟩, .string ⟨#[32]⟩, .string ⟨#[10, 32]⟩, .string ⟨#[47, 42, 32, 120, 32, 42, 47]⟩, .string ⟨#[32, 47, 42, 42, 47, 32]⟩] 9) = W2 at *
  clear g1 g2 g3 g4
  go_wp2
  go_loopw [7, 8, 9] (fun sv vv iv wr => ∃ (i k : Nat) (v0 : Value), v0 = vv ∧ iv = .int .i64 i ∧ sv = .string (txC (fC xs ys) k) ∧ i = k + 1 ∧ i ≤ n ∧ OwnT W2.heap.size wr v0 ((List.range k).map fun j => cbB (fC xs ys j).1) ∧ Below W2.heap.size W2 wr) (fun _ _ iv _ => n - (intOf iv).toNat)
  case atStart => exact ⟨1, 0, _, rfl, rfl, rfl, rfl, HNM.out.1, OwnT.nil _ _, Below.refl _ _⟩
  case round =>
   obtain ⟨i, k, v0, rfl, rfl, rfl, hik, hin, hown, hB⟩ := hrel
   have HIK := Lib.hid hik
   have HB := Lib.hid hB
   obtain ⟨ba, bc, rfl, _⟩ := row_sl hown
   have hml : ((List.range k).map fun j => cbB (fC xs ys j).1).length = k := by rw [List.length_map, List.length_range]
   have HOWT := Lib.hid hown
   have HOW : Hid (wr.ownsRow W2.heap.size 9 1 (.slice ba k bc) k (((List.range k).map fun j => cbB (fC xs ys j).1).map Value.string)) := by
    have hh := hown
    unfold OwnT at hh
    rw [hml] at hh
    exact hh
   rw [hml] at HOWT ⊢
   have HML := Lib.hid hml
   have HKL : Hid (k = k) := rfl
   have HKB : Hid (k ≤ 12) := by show _ ≤ _; have := HNM.out; omega
   clear hB hown hml hik
   by_cases hlt : i < n
   · have hltI : (i : Int) < (n : Int) := by omega
     have him : i < m := by have := HNM.out; omega
     have himI : (i : Int) < (m : Int) := by omega
     have c1 : wr.cell? ⟨b1, o1 + i, none⟩ = some (.int .i64 (nth xs i)) := kept (kept (HX.out i hlt) HB0.out) HB.out
     have c2 : wr.cell? ⟨b2, o2 + i, none⟩ = some (.int .i64 (nth ys i)) := kept (kept (HY.out i (by have := HNM.out; omega)) HB0.out) HB.out
     have hF := fC_ok xs ys k
     obtain ⟨c, hc⟩ : ∃ c, (fC xs ys k).1 = c := ⟨_, rfl⟩
     obtain ⟨p, hp⟩ : ∃ p, (fC xs ys k).2 = p := ⟨_, rfl⟩
     have hrc : nth xs i % 4 = (c : Int) := by rw [← hc, HIK.out]; show _ = ((nth xs (k + 1) % 4).toNat : Int); omega
     have hrp : nth ys i % 5 = (p : Int) := by rw [← hp, HIK.out]; show _ = ((nth ys (k + 1) % 5).toNat : Int); omega
     have hc4 : c < 4 := by rw [← hc]; exact hF.1
     have hp5 : p < 5 := by rw [← hp]; exact hF.2
     have HFC : Hid ((fC xs ys k).1 = c) := hc
     have e1 := kept (HCB.out c hc4) HB.out
     have e2 := kept (HPB.out p hp5) HB.out
     have hps := (pdB_cases hp5).1
     have p5 : (p : Int) < 5 := by omega
     have p0 : (0 : Int) ≤ (p : Int) := by omega
     obtain ⟨Pd, hPd⟩ : ∃ T, pdB p = T := ⟨_, rfl⟩
     rw [hPd] at e2 hps
     have HPD : Hid (pdB (fC xs ys k).2 = Pd) := by show _ = _; rw [hp, hPd]
     have hsz := txC_size (fC_ok xs ys) k
     obtain ⟨S, hS⟩ : ∃ T, txC (fC xs ys) k = T := ⟨_, rfl⟩
     rw [hS] at hsz ⊢
     have HS := Lib.hid hS
     have hsz : S.size ≤ 200 := by have := HKB.out; omega
     have HWI := Lib.hid (wrap_succ1 (i := i) (by have := HNM.out; omega))
     have HRC := Lib.hid hrc
     have HRP := Lib.hid hrp
     clear hF hc hp hrc hrp hPd hS hp5
     have hcc : c = 0 ∨ c = 1 ∨ c = 2 ∨ c = 3 := by omega
     clear hc4
     rcases hcc with rfl | rfl | rfl | rfl
     · have hcb : cbB 0 = ⟨#[32]⟩ := rfl
       replace HRC : Hid (nth xs i % 4 = 0) := by show _ = _; have h := HRC.out; omega
       rw [hcb] at e1
       have ca := cat_ok S Pd (by omega)
       obtain ⟨T1, hT1⟩ : ∃ T : ByteArray, S ++ Pd = T := ⟨_, rfl⟩
       have z1 : T1.size ≤ 300 := by rw [← hT1, sz_app]; omega
       rw [hT1] at ca
       have cb := cat_ok T1 ⟨#[32]⟩ (by show T1.size + 1 ≤ _; omega)
       obtain ⟨T2, hT2⟩ : ∃ T : ByteArray, T1 ++ ⟨#[32]⟩ = T := ⟨_, rfl⟩
       have z2 : T2.size ≤ 301 := by rw [← hT2, sz_app]; show T1.size + 1 ≤ _; omega
       rw [hT2] at cb
       have cc := cat_ok T2 Pd (by omega)
       obtain ⟨T3, hT3⟩ : ∃ T : ByteArray, T2 ++ Pd = T := ⟨_, rfl⟩
       have z3 : T3.size ≤ 310 := by rw [← hT3, sz_app]; omega
       rw [hT3] at cc
       have cd := cat_ok T3 ⟨#[97]⟩ (by show T3.size + 1 ≤ _; omega)
       obtain ⟨T4, hT4⟩ : ∃ T : ByteArray, T3 ++ ⟨#[97]⟩ = T := ⟨_, rfl⟩
       rw [hT4] at cd
       have HT4 : Hid (txC (fC xs ys) (k + 1) = T4) := by show _ = _; rw [txC, HS.out, HFC.out, HPD.out, hcb, hT1, hT2, hT3, hT4]
       have HW4 : Hid ((List.range (k + 1)).map (fun j => cbB (fC xs ys j).1) = (List.range k).map (fun j => cbB (fC xs ys j).1) ++ [⟨#[32]⟩]) := by show _ = _; rw [List.range_succ, List.map_append, List.map_singleton, HFC.out, hcb]
       have HNEW := Lib.hid (cell_one_new wr (.string ⟨#[32]⟩) 9)
       have HOW5 := Lib.hid (HOW.out.alloc (.cells #[.string ⟨#[32]⟩] 9))
       have HAm := Lib.hid ((Below.refl wr.heap.size wr).alloc (Nat.le_refl _) (.cells #[.string ⟨#[32]⟩] 9))
       have HBS := Lib.hid HB.out.size
       clear hT1 hT2 hT3 hT4 z1 z2 z3 hcb hsz hps
       go_upto_region 15 with (first | (go_at_call 6; (with_reducible refine (round_any (nth xs i) 4 0 _ (by decide) (by decide) HRC.out).mono ?_); rintro e w' ⟨rfl, rfl⟩) | (go_at_call 6; (with_reducible refine (round_any (nth ys i) 5 p _ (by decide) (by decide) HRP.out).mono ?_); rintro e w' ⟨rfl, rfl⟩))
       clear e1 e2 c1 c2 ca cb cc
       go_wp2_with (at_builtin; refine wpList_append_own _ rfl _ _ 24 rfl W2.heap.size 9 i0 (.string ⟨#[]⟩) 1 16 Tryz.underlying24 hi hz0 hz1 hz2 rfl (by decide) _ _ _ rfl HOW5.out ⟨_, 0, none⟩ 1 1 [.string ⟨#[32]⟩] rfl rfl HNEW.out (by simp [Value.oneCell']) (by have := HKB.out; unfold maxLen; omega) (by have := HKB.out; omega) (by have := HBS.out; simp; omega) ?_; intro v' w6 ho6 hg6 _)
       have hb6 : Below W2.heap.size W2 w6 := (HB.out.alloc HB.out.size (.cells #[.string ⟨#[32]⟩] 9)).grown hg6 (by have := HBS.out; simp; omega) (fun q hq => by have := (HOW5.out.lt q hq).1; omega)
       go_roundw
       case rel => exact ⟨i + 1, k + 1, v', rfl, by first | rfl | exact congrArg (Value.int .i64) HWI.out, by rw [HT4.out], by rw [HIK.out], hlt, by rw [HW4.out]; exact OwnT.snoc (by rw [HML.out]; exact ho6), hb6⟩
       case measure => first | (rw [HWI.out]; exact meas_succ hlt) | exact meas_succ hlt
     · have hcb : cbB 1 = ⟨#[62]⟩ := rfl
       replace HRC : Hid (nth xs i % 4 = 1) := by show _ = _; have h := HRC.out; omega
       rw [hcb] at e1
       have ca := cat_ok S Pd (by omega)
       obtain ⟨T1, hT1⟩ : ∃ T : ByteArray, S ++ Pd = T := ⟨_, rfl⟩
       have z1 : T1.size ≤ 300 := by rw [← hT1, sz_app]; omega
       rw [hT1] at ca
       have cb := cat_ok T1 ⟨#[62]⟩ (by show T1.size + 1 ≤ _; omega)
       obtain ⟨T2, hT2⟩ : ∃ T : ByteArray, T1 ++ ⟨#[62]⟩ = T := ⟨_, rfl⟩
       have z2 : T2.size ≤ 301 := by rw [← hT2, sz_app]; show T1.size + 1 ≤ _; omega
       rw [hT2] at cb
       have cc := cat_ok T2 Pd (by omega)
       obtain ⟨T3, hT3⟩ : ∃ T : ByteArray, T2 ++ Pd = T := ⟨_, rfl⟩
       have z3 : T3.size ≤ 310 := by rw [← hT3, sz_app]; omega
       rw [hT3] at cc
       have cd := cat_ok T3 ⟨#[97]⟩ (by show T3.size + 1 ≤ _; omega)
       obtain ⟨T4, hT4⟩ : ∃ T : ByteArray, T3 ++ ⟨#[97]⟩ = T := ⟨_, rfl⟩
       rw [hT4] at cd
       have HT4 : Hid (txC (fC xs ys) (k + 1) = T4) := by show _ = _; rw [txC, HS.out, HFC.out, HPD.out, hcb, hT1, hT2, hT3, hT4]
       have HW4 : Hid ((List.range (k + 1)).map (fun j => cbB (fC xs ys j).1) = (List.range k).map (fun j => cbB (fC xs ys j).1) ++ [⟨#[62]⟩]) := by show _ = _; rw [List.range_succ, List.map_append, List.map_singleton, HFC.out, hcb]
       have HNEW := Lib.hid (cell_one_new wr (.string ⟨#[62]⟩) 9)
       have HOW5 := Lib.hid (HOW.out.alloc (.cells #[.string ⟨#[62]⟩] 9))
       have HAm := Lib.hid ((Below.refl wr.heap.size wr).alloc (Nat.le_refl _) (.cells #[.string ⟨#[62]⟩] 9))
       have HBS := Lib.hid HB.out.size
       clear hT1 hT2 hT3 hT4 z1 z2 z3 hcb hsz hps
       go_upto_region 15 with (first | (go_at_call 6; (with_reducible refine (round_any (nth xs i) 4 1 _ (by decide) (by decide) HRC.out).mono ?_); rintro e w' ⟨rfl, rfl⟩) | (go_at_call 6; (with_reducible refine (round_any (nth ys i) 5 p _ (by decide) (by decide) HRP.out).mono ?_); rintro e w' ⟨rfl, rfl⟩))
       clear e1 e2 c1 c2 ca cb cc
       go_wp2_with (at_builtin; refine wpList_append_own _ rfl _ _ 24 rfl W2.heap.size 9 i0 (.string ⟨#[]⟩) 1 16 Tryz.underlying24 hi hz0 hz1 hz2 rfl (by decide) _ _ _ rfl HOW5.out ⟨_, 0, none⟩ 1 1 [.string ⟨#[62]⟩] rfl rfl HNEW.out (by simp [Value.oneCell']) (by have := HKB.out; unfold maxLen; omega) (by have := HKB.out; omega) (by have := HBS.out; simp; omega) ?_; intro v' w6 ho6 hg6 _)
       have hb6 : Below W2.heap.size W2 w6 := (HB.out.alloc HB.out.size (.cells #[.string ⟨#[62]⟩] 9)).grown hg6 (by have := HBS.out; simp; omega) (fun q hq => by have := (HOW5.out.lt q hq).1; omega)
       go_roundw
       case rel => exact ⟨i + 1, k + 1, v', rfl, by first | rfl | exact congrArg (Value.int .i64) HWI.out, by rw [HT4.out], by rw [HIK.out], hlt, by rw [HW4.out]; exact OwnT.snoc (by rw [HML.out]; exact ho6), hb6⟩
       case measure => first | (rw [HWI.out]; exact meas_succ hlt) | exact meas_succ hlt
     · have hcb : cbB 2 = ⟨#[43]⟩ := rfl
       replace HRC : Hid (nth xs i % 4 = 2) := by show _ = _; have h := HRC.out; omega
       rw [hcb] at e1
       have ca := cat_ok S Pd (by omega)
       obtain ⟨T1, hT1⟩ : ∃ T : ByteArray, S ++ Pd = T := ⟨_, rfl⟩
       have z1 : T1.size ≤ 300 := by rw [← hT1, sz_app]; omega
       rw [hT1] at ca
       have cb := cat_ok T1 ⟨#[43]⟩ (by show T1.size + 1 ≤ _; omega)
       obtain ⟨T2, hT2⟩ : ∃ T : ByteArray, T1 ++ ⟨#[43]⟩ = T := ⟨_, rfl⟩
       have z2 : T2.size ≤ 301 := by rw [← hT2, sz_app]; show T1.size + 1 ≤ _; omega
       rw [hT2] at cb
       have cc := cat_ok T2 Pd (by omega)
       obtain ⟨T3, hT3⟩ : ∃ T : ByteArray, T2 ++ Pd = T := ⟨_, rfl⟩
       have z3 : T3.size ≤ 310 := by rw [← hT3, sz_app]; omega
       rw [hT3] at cc
       have cd := cat_ok T3 ⟨#[97]⟩ (by show T3.size + 1 ≤ _; omega)
       obtain ⟨T4, hT4⟩ : ∃ T : ByteArray, T3 ++ ⟨#[97]⟩ = T := ⟨_, rfl⟩
       rw [hT4] at cd
       have HT4 : Hid (txC (fC xs ys) (k + 1) = T4) := by show _ = _; rw [txC, HS.out, HFC.out, HPD.out, hcb, hT1, hT2, hT3, hT4]
       have HW4 : Hid ((List.range (k + 1)).map (fun j => cbB (fC xs ys j).1) = (List.range k).map (fun j => cbB (fC xs ys j).1) ++ [⟨#[43]⟩]) := by show _ = _; rw [List.range_succ, List.map_append, List.map_singleton, HFC.out, hcb]
       have HNEW := Lib.hid (cell_one_new wr (.string ⟨#[43]⟩) 9)
       have HOW5 := Lib.hid (HOW.out.alloc (.cells #[.string ⟨#[43]⟩] 9))
       have HAm := Lib.hid ((Below.refl wr.heap.size wr).alloc (Nat.le_refl _) (.cells #[.string ⟨#[43]⟩] 9))
       have HBS := Lib.hid HB.out.size
       clear hT1 hT2 hT3 hT4 z1 z2 z3 hcb hsz hps
       go_upto_region 15 with (first | (go_at_call 6; (with_reducible refine (round_any (nth xs i) 4 2 _ (by decide) (by decide) HRC.out).mono ?_); rintro e w' ⟨rfl, rfl⟩) | (go_at_call 6; (with_reducible refine (round_any (nth ys i) 5 p _ (by decide) (by decide) HRP.out).mono ?_); rintro e w' ⟨rfl, rfl⟩))
       clear e1 e2 c1 c2 ca cb cc
       go_wp2_with (at_builtin; refine wpList_append_own _ rfl _ _ 24 rfl W2.heap.size 9 i0 (.string ⟨#[]⟩) 1 16 Tryz.underlying24 hi hz0 hz1 hz2 rfl (by decide) _ _ _ rfl HOW5.out ⟨_, 0, none⟩ 1 1 [.string ⟨#[43]⟩] rfl rfl HNEW.out (by simp [Value.oneCell']) (by have := HKB.out; unfold maxLen; omega) (by have := HKB.out; omega) (by have := HBS.out; simp; omega) ?_; intro v' w6 ho6 hg6 _)
       have hb6 : Below W2.heap.size W2 w6 := (HB.out.alloc HB.out.size (.cells #[.string ⟨#[43]⟩] 9)).grown hg6 (by have := HBS.out; simp; omega) (fun q hq => by have := (HOW5.out.lt q hq).1; omega)
       go_roundw
       case rel => exact ⟨i + 1, k + 1, v', rfl, by first | rfl | exact congrArg (Value.int .i64) HWI.out, by rw [HT4.out], by rw [HIK.out], hlt, by rw [HW4.out]; exact OwnT.snoc (by rw [HML.out]; exact ho6), hb6⟩
       case measure => first | (rw [HWI.out]; exact meas_succ hlt) | exact meas_succ hlt
     · have hcb : cbB 3 = ⟨#[126]⟩ := rfl
       replace HRC : Hid (nth xs i % 4 = 3) := by show _ = _; have h := HRC.out; omega
       rw [hcb] at e1
       have ca := cat_ok S Pd (by omega)
       obtain ⟨T1, hT1⟩ : ∃ T : ByteArray, S ++ Pd = T := ⟨_, rfl⟩
       have z1 : T1.size ≤ 300 := by rw [← hT1, sz_app]; omega
       rw [hT1] at ca
       have cb := cat_ok T1 ⟨#[126]⟩ (by show T1.size + 1 ≤ _; omega)
       obtain ⟨T2, hT2⟩ : ∃ T : ByteArray, T1 ++ ⟨#[126]⟩ = T := ⟨_, rfl⟩
       have z2 : T2.size ≤ 301 := by rw [← hT2, sz_app]; show T1.size + 1 ≤ _; omega
       rw [hT2] at cb
       have cc := cat_ok T2 Pd (by omega)
       obtain ⟨T3, hT3⟩ : ∃ T : ByteArray, T2 ++ Pd = T := ⟨_, rfl⟩
       have z3 : T3.size ≤ 310 := by rw [← hT3, sz_app]; omega
       rw [hT3] at cc
       have cd := cat_ok T3 ⟨#[97]⟩ (by show T3.size + 1 ≤ _; omega)
       obtain ⟨T4, hT4⟩ : ∃ T : ByteArray, T3 ++ ⟨#[97]⟩ = T := ⟨_, rfl⟩
       rw [hT4] at cd
       have HT4 : Hid (txC (fC xs ys) (k + 1) = T4) := by show _ = _; rw [txC, HS.out, HFC.out, HPD.out, hcb, hT1, hT2, hT3, hT4]
       have HW4 : Hid ((List.range (k + 1)).map (fun j => cbB (fC xs ys j).1) = (List.range k).map (fun j => cbB (fC xs ys j).1) ++ [⟨#[126]⟩]) := by show _ = _; rw [List.range_succ, List.map_append, List.map_singleton, HFC.out, hcb]
       have HNEW := Lib.hid (cell_one_new wr (.string ⟨#[126]⟩) 9)
       have HOW5 := Lib.hid (HOW.out.alloc (.cells #[.string ⟨#[126]⟩] 9))
       have HAm := Lib.hid ((Below.refl wr.heap.size wr).alloc (Nat.le_refl _) (.cells #[.string ⟨#[126]⟩] 9))
       have HBS := Lib.hid HB.out.size
       clear hT1 hT2 hT3 hT4 z1 z2 z3 hcb hsz hps
       go_upto_region 15 with (first | (go_at_call 6; (with_reducible refine (round_any (nth xs i) 4 3 _ (by decide) (by decide) HRC.out).mono ?_); rintro e w' ⟨rfl, rfl⟩) | (go_at_call 6; (with_reducible refine (round_any (nth ys i) 5 p _ (by decide) (by decide) HRP.out).mono ?_); rintro e w' ⟨rfl, rfl⟩))
       clear e1 e2 c1 c2 ca cb cc
       go_wp2_with (at_builtin; refine wpList_append_own _ rfl _ _ 24 rfl W2.heap.size 9 i0 (.string ⟨#[]⟩) 1 16 Tryz.underlying24 hi hz0 hz1 hz2 rfl (by decide) _ _ _ rfl HOW5.out ⟨_, 0, none⟩ 1 1 [.string ⟨#[126]⟩] rfl rfl HNEW.out (by simp [Value.oneCell']) (by have := HKB.out; unfold maxLen; omega) (by have := HKB.out; omega) (by have := HBS.out; simp; omega) ?_; intro v' w6 ho6 hg6 _)
       have hb6 : Below W2.heap.size W2 w6 := (HB.out.alloc HB.out.size (.cells #[.string ⟨#[126]⟩] 9)).grown hg6 (by have := HBS.out; simp; omega) (fun q hq => by have := (HOW5.out.lt q hq).1; omega)
       go_roundw
       case rel => exact ⟨i + 1, k + 1, v', rfl, by first | rfl | exact congrArg (Value.int .i64) HWI.out, by rw [HT4.out], by rw [HIK.out], hlt, by rw [HW4.out]; exact OwnT.snoc (by rw [HML.out]; exact ho6), hb6⟩
       case measure => first | (rw [HWI.out]; exact meas_succ hlt) | exact meas_succ hlt
   · have hni : i = n := by omega
     have hltI : ¬ (i : Int) < (n : Int) := by omega
     have HSL := Lib.hid (sel_tx (fC_ok xs ys) k)
     have hsz := txC_size (fC_ok xs ys) k
     obtain ⟨S, hS⟩ : ∃ T, txC (fC xs ys) k = T := ⟨_, rfl⟩
     rw [hS] at HSL hsz ⊢
     have HST : Hid (S.size ≤ 5000000) := by show _ ≤ _; have := HKB.out; omega
     have HNK : Hid (n = k + 1) := by show _ = _; have := HIK.out; omega
     have HBW := Lib.hid (below_seq HB0.out HB.out)
     clear hsz hS hni hlt hin
     by_cases h8 : 8 < n
     · have h8I : (8 : Int) < (n : Int) := by omega
       have HSN : Hid (selS parseS (ndsS (toks (readS S))) = none) := by show _ = _; rw [HSL.out, if_neg (by have := HNK.out; omega)]
       clear h8
       go_wp2_with fail
       refine (nodes6_any S _ HST.out).mono ?_
       rintro e w1 ⟨⟨v1, rfl, hv1⟩, ha1⟩
       go_wp2_with fail
       refine (parse6 S HST.out hv1 (HL.out.below (below_seq HBW.out ha1)) HSN.out).mono ?_
       rintro e w2 ⟨⟨L, u, rfl, hr1, hL⟩, hb1⟩
       obtain ⟨q1, q2, rfl, _⟩ := hr1.shape
       have HB2 := Lib.hid (below_seq (below_seq HBW.out ha1) hb1)
       clear hv1 ha1 hb1 hr1 hL
       generalize (cxsDt L).length = m1 at *
       go_wp2_with (go_at_call 5; refine (awake6_any _ (HL.out.below HB2.out) (HT.out.below HB2.out)).mono ?_; rintro e w3 ⟨rfl, hb3⟩; have HB3 := Lib.hid (below_seq HB2.out hb3))
       go_ret
       exact ⟨rfl, HB3.out⟩
     · have h8I : ¬ (8 : Int) < (n : Int) := by omega
       obtain ⟨cs, hcs⟩ : ∃ cs, (List.range k).map (fun j => cbB (fC xs ys j).1) = cs := ⟨_, rfl⟩
       have hcs2 : (prC (fC xs ys) k).map (fun x => cbB x.1) = cs := by rw [← hcs]; unfold prC; rw [List.map_map]; rfl
       obtain ⟨x, hx⟩ : ∃ x : CxD, x = .mk (List.replicate n cpA) cs 0 := ⟨_, rfl⟩
       have HSY : Hid (selS parseS (ndsS (toks (readS S))) = some [x]) := by show _ = _; rw [HSL.out, if_pos (by have := HNK.out; omega), hcs2, hx, HNK.out]
       obtain ⟨q1, q2, q3⟩ := w_cmb (n := n) (by omega) cs
       rw [← hx] at q1 q2 q3
       have hok := (selS_ok HSY.out).2
       rw [okLs] at hok
       have HOK := Lib.hid hok.1
       have HW := Lib.hid q1
       have HN := Lib.hid q2
       have HZ := Lib.hid q3
       have HXE := Lib.hid hx
       have HWT : Hid (RdTx wr (.slice ba k bc) cs) := by
        have h := OwnT.rd (by have h := HOWT.out; exact h)
        rw [hcs] at h
        exact h
       have HCL : Hid (cs.length = k) := by show _ = _; rw [← hcs, List.length_map, List.length_range]
       clear h8 hcs hcs2 hx q1 q2 q3 hok
       go_wp2_with fail
       refine (nodes6_any S _ HST.out).mono ?_
       rintro e w1 ⟨⟨v1, rfl, hv1⟩, ha1⟩
       go_wp2_with fail
       refine (parse6 S HST.out hv1 (HL.out.below (below_seq HBW.out ha1)) HSY.out).mono ?_
       rintro e w2 ⟨⟨L, u, rfl, hr1, hL⟩, hb1⟩
       obtain rfl : L = [x] := hL
       obtain ⟨b, off, cap, hu, _, hrow⟩ := cx_row hr1 (Nat.succ_pos _)
       have hu : u = .slice (some ⟨b, off, none⟩) 1 cap := hu
       subst hu
       obtain ⟨a3, n3, c3, a4, n4, c4, pe, x0, x1, x2, R1⟩ := hrow 0 (Nat.succ_pos _)
       simp only [Nat.zero_mul, Nat.add_zero, List.getElem_cons_zero] at x0 x1 x2 R1
       have hd := R1
       obtain ⟨Pt, cb, hxe, r1, r2⟩ := hd
       rw [HXE.out] at hxe
       injection hxe with e1 e2 e3
       subst e1 e2 e3
       have hn3 : n3 = n := by
        obtain ⟨_, _, hs1, _⟩ := r1.shape
        injection hs1 with _ e4 _
        rw [e4, cmsDt_map, List.length_map, List.length_replicate]
       have HRC := Lib.hid (rdtx_of r2)
       have HR1 := Lib.hid R1
       have HB2 := Lib.hid (below_seq (below_seq HBW.out ha1) hb1)
       have HW2 := Lib.hid (RdTx.below (HWT.out) (below_seq ha1 hb1))
       rw [hn3] at x0
       clear hv1 ha1 hb1 hr1 hrow R1 r1 r2
       rw [hn3] at HR1
       clear hn3
       have ea : ∀ W, (Op.equalIn 10000 37 (.agg (W3.mk 0 0 (n : Int)).cs) (.agg #[.int .i64 0, .int .i64 0, .int .i64 (n : Int)])).run Tryz.prog W = .ok true W := fun W => w3_eq (a := 0) (b := 0) (c := (n : Int)) (by decide) (by decide) (wf_nat (by have := HNM.out; omega)) W
       have hnn : ((n : Int) == (n : Int)) = true := by simp
       go_wp2_with (first | (go_at_call 9; refine (texts_any cs cs _ _ _ HRC.out HW2.out (by have := HCL.out; have := HKB.out; omega)).mono ?_; rintro e w3 ⟨rfl, hb3⟩; rw [decide_eq_true rfl]; have HB3 := Lib.hid (below_seq HB2.out hb3); have y0 := kept x0 hb3; have y1 := kept x1 hb3; have y2 := kept x2 hb3; have HR3 := Lib.hid (HR1.out.below hb3); clear hb3 x0 x1 x2) | (go_at_call 10; refine (weigh_cx HR3.out HOK.out HN.out HZ.out HW.out).mono ?_; rintro e w4 ⟨rfl, hb4⟩; have HB4 := Lib.hid (below_seq HB3.out hb4); clear hb4) | (go_at_call 5; refine (awake6_any _ (HL.out.below HB4.out) (HT.out.below HB4.out)).mono ?_; rintro e w5 ⟨rfl, hb5⟩; have HB5 := Lib.hid (below_seq HB4.out hb5); clear hb5))
       go_ret
       exact ⟨rfl, HB5.out⟩
theorem SelectorCombs_any (w : World) (ht6 : Tab6 w) (xs : List Int) (va : Value) (h1 : Rd .i64 w va xs) (_w1 : ∀ x ∈ xs, (Lit.int .i64 x).wf = true) (_l1 : xs.length ≤ maxLen) (ys : List Int) (vb : Value) (h2 : Rd .i64 w vb ys) (_w2 : ∀ x ∈ ys, (Lit.int .i64 x).wf = true) (_l2 : ys.length ≤ maxLen) :
    Calls Tryz.prog 3 #[va, vb] w fun e w' => e = .returned (.bool true) ∧ Below w.heap.size w w' := by
  have hl := ht6.1
  have ht := ht6.2
  clear ht6 _w1 _l1 _w2 _l2
  by_cases q1 : xs.length < 1
  · have HL := Lib.hid hl
    have HT := Lib.hid ht
    obtain ⟨a1, k1, rfl, hk1, _⟩ := h1
    obtain ⟨a2, k2, rfl, hk2, _⟩ := h2
    obtain ⟨n, hn⟩ : ∃ n, xs.length = n := ⟨_, rfl⟩
    obtain ⟨m, hm⟩ : ∃ m, ys.length = m := ⟨_, rfl⟩
    rw [hn] at q1 hk1 ⊢
    rw [hm] at hk2 ⊢
    have g1 : (n : Int) < 1 := by omega
    clear hl ht hk1 hk2 hn hm q1
    go_enter Tryz.func3, Tryz.ntmps3
    go_wp2_with (go_at_call 5; refine (awake6_any _ HL.out HT.out).mono ?_; rintro e w3 ⟨rfl, hb3⟩)
    go_ret
    exact ⟨rfl, hb3⟩
  by_cases q2 : 12 < xs.length
  · have HL := Lib.hid hl
    have HT := Lib.hid ht
    obtain ⟨a1, k1, rfl, hk1, _⟩ := h1
    obtain ⟨a2, k2, rfl, hk2, _⟩ := h2
    obtain ⟨n, hn⟩ : ∃ n, xs.length = n := ⟨_, rfl⟩
    obtain ⟨m, hm⟩ : ∃ m, ys.length = m := ⟨_, rfl⟩
    rw [hn] at q1 q2 hk1 ⊢
    rw [hm] at hk2 ⊢
    have g1 : ¬ (n : Int) < 1 := by omega
    have g2 : (12 : Int) < (n : Int) := by omega
    clear hl ht hk1 hk2 hn hm q1 q2
    go_enter Tryz.func3, Tryz.ntmps3
    go_wp2_with (go_at_call 5; refine (awake6_any _ HL.out HT.out).mono ?_; rintro e w3 ⟨rfl, hb3⟩)
    go_ret
    exact ⟨rfl, hb3⟩
  by_cases q3 : ys.length < xs.length
  · have HL := Lib.hid hl
    have HT := Lib.hid ht
    obtain ⟨a1, k1, rfl, hk1, _⟩ := h1
    obtain ⟨a2, k2, rfl, hk2, _⟩ := h2
    obtain ⟨n, hn⟩ : ∃ n, xs.length = n := ⟨_, rfl⟩
    obtain ⟨m, hm⟩ : ∃ m, ys.length = m := ⟨_, rfl⟩
    rw [hn] at q1 q2 q3 hk1 ⊢
    rw [hm] at q3 hk2 ⊢
    have g1 : ¬ (n : Int) < 1 := by omega
    have g2 : ¬ (12 : Int) < (n : Int) := by omega
    have g3 : (m : Int) < (n : Int) := by omega
    clear hl ht hk1 hk2 hn hm q1 q2 q3
    go_enter Tryz.func3, Tryz.ntmps3
    go_wp2_with (go_at_call 5; refine (awake6_any _ HL.out HT.out).mono ?_; rintro e w3 ⟨rfl, hb3⟩)
    go_ret
    exact ⟨rfl, hb3⟩
  by_cases q4 : 40 < ys.length
  · have HL := Lib.hid hl
    have HT := Lib.hid ht
    obtain ⟨a1, k1, rfl, hk1, _⟩ := h1
    obtain ⟨a2, k2, rfl, hk2, _⟩ := h2
    obtain ⟨n, hn⟩ : ∃ n, xs.length = n := ⟨_, rfl⟩
    obtain ⟨m, hm⟩ : ∃ m, ys.length = m := ⟨_, rfl⟩
    rw [hn] at q1 q2 q3 hk1 ⊢
    rw [hm] at q3 q4 hk2 ⊢
    have g1 : ¬ (n : Int) < 1 := by omega
    have g2 : ¬ (12 : Int) < (n : Int) := by omega
    have g3 : ¬ (m : Int) < (n : Int) := by omega
    have g4 : (40 : Int) < (m : Int) := by omega
    clear hl ht hk1 hk2 hn hm q1 q2 q3 q4
    go_enter Tryz.func3, Tryz.ntmps3
    go_wp2_with (go_at_call 5; refine (awake6_any _ HL.out HT.out).mono ?_; rintro e w3 ⟨rfl, hb3⟩)
    go_ret
    exact ⟨rfl, hb3⟩
  exact combs_in w xs ys va vb hl ht h1 h2 (by omega) (by omega) (by omega) (by omega)
end Go.Proofs.YtclicjiakkcfcaaGreatDoor
namespace Go.Proofs.YtclicjiakkcfcaaGreatDoor.selectorCombs
open Go.ChangeShapes Go.WideShapes Go.ChangeAt Go.RowKit
abbrev laidL : List (String × DataW Unit) := [("math/bits.deBruijn32tab", Rows.laid_math_bits_deBruijn32tab), ("math/bits.deBruijn64tab", Rows.laid_math_bits_deBruijn64tab), ("internal/strconv.uint64pow10", Rows.laid_internal_strconv_uint64pow10), ("fleuron/selector.words", Rows.laid_fleuron_selector_words), ("fleuron/selector.elements", Rows.laid_fleuron_selector_elements)]
theorem tab_of {W : World} (h : laidMetH Tryz.prog laidL W) : Tab6 W := by
 rw [MakeChecks.laidMetH_plain _ _ _ (by kernel_rfl)] at h
 exact tab6_of h (.tail _ (.tail _ (.tail _ (.head _)))) (.tail _ (.tail _ (.tail _ (.tail _ (.head _))))) (.tail _ (.tail _ (.head _)))
theorem lifted (os : Os) (started : os.Started) (H : Type) (enc : TypeId × Value → H) :
    ReturnsInHanded {} Tryz.checked os 3 .any (fun w args => (Rows.selectorCombsSpec.pre enc Tryz.prog Tryz.f3 [] false w args ∧ laidMetH Tryz.prog laidL w) ∧ sizedMet enc Tryz.prog Tryz.f3 (OpenSpec.ofChange Rows.selectorCombsSpec) false w args) (Rows.selectorCombsSpec.post enc Tryz.prog Tryz.f3 false true false false) := by
  refine returnsInHanded_of_change_and (C := Tryz.checked) (X := fun w _ => laidMetH Tryz.prog laidL w) (fun _ _ _ hh h => h.of_heap hh) own started (by kernel_rfl) Tryz.func3
    (ChangeSpec.witness_shaped (enc := enc) (C := Tryz.checked) (os := os) (X := fun w _ => laidMetH Tryz.prog laidL w) false (World.laidAll Tryz.prog os laidL) #[.slice none 0 0, .slice none 0 0] 8 (World.laidAll_os _ _ _)
      (World.shaped_of_ZipB (by kernel_rfl) (by kernel_rfl)) (by kernel_rfl) (by kernel_rfl) (by kernel_rfl)
      (by rw [MakeChecks.laidMetH_plain _ _ _ (by kernel_rfl)]; exact laidMet_laidAll _ (by kernel_rfl) (by kernel_rfl))) ?_
  intro W base args ds gs before hval0 hW _ _ hL _
  have hval : ∀ (j : Nat) t v, Tryz.f3.params[j]? = some t → args[j]? = some v → Value.okWide Tryz.prog W .any base t v := hval0
  have hW' := hW
  obtain ⟨p, q, hA0, hV, rfl, hfz, hnd⟩ := hW
  have hlt : ∀ x ∈ p, x.block < W.heap.size := fun x hx => hW'.lt x (List.mem_append_left _ hx)
  have hA : DataW.TrodAll enc Tryz.prog W 0 (fun _ => true) true Tryz.f3.params.toList args.toList ds p := hA0
  rw [Tryz.params3] at hA hval
  obtain ⟨v0, vs0, d0, ds0, p0, q0, hargs, rfl, rfl, h0, r0⟩ := trodAll_cons hA
  obtain ⟨v1, vs1, d1, ds1, p1, q1, rfl, rfl, rfl, h1, r1⟩ := trodAll_cons r0
  obtain ⟨rfl, rfl, rfl⟩ := trodAll_nil r1
  obtain rfl : args = #[v0, v1] := by cases args; simp_all
  have hV' := hV
  obtain ⟨rfl, rfl⟩ := trodVars_none hV
  obtain ⟨a0, b0, c0, w0⟩ := rd_of_trod Tryz.underlying22 Tryz.underlying3 (by kernel_rfl) (hval 0 22 v0 rfl rfl) h0 (fun x hx => hlt x (by simp [hx]))
  obtain ⟨a1, b1, c1, w1⟩ := rd_of_trod Tryz.underlying22 Tryz.underlying3 (by kernel_rfl) (hval 1 22 v1 rfl rfl) h1 (fun x hx => hlt x (by simp [hx]))
  refine (SelectorCombs_any W (tab_of hL) a0 v0 b0 c0 w0 a1 v1 b1 c1 w1).mono fun e W' ⟨he, hg⟩ => ?_
  subst he
  exact ⟨_, rfl, law_post laidOut (by kernel_rfl) rfl rfl Tryz.underlying4 rfl rfl rfl hW' hg⟩
theorem over : Rows.selectorCombsRow.holds Tryz.pinned (OpenSpec.ofChange Rows.selectorCombsSpec) :=
 OpenClaim.holds_of_wide 3 Tryz.f3 rfl rfl rfl rfl rfl rfl rfl ⟨rfl, rfl, rfl, rfl, rfl⟩ rfl rfl rfl rfl rfl (by kernel_rfl) Tryz.func3 (by kernel_rfl)
   (of_decide_eq_true (by kernel_rfl)) (by unfold Func.isWrapper; first | (rw [if_pos (by decide +kernel)]; kernel_rfl) | (rw [if_neg (by decide +kernel)]; exact ⟨rfl, rfl⟩))
   (fun os started H enc _ => lifted os started H enc)
theorem proved : Rows.SelectorCombsCardSaid :=
 Claim7.holds_tied_plain_at .later [] [.data, .data, .data, .data, .data] true (true, "b0dfa9918e752a7da940b4a18c25e05d3ab600a5da078201f24ce6dd0e97fea8") false
   over (fun _ h => by cases h) (by kernel_rfl) (fun _ h => by cases h) selectorCombs_row_tie rfl ⟨rfl, rfl⟩ (by kernel_rfl) rfl
   (fun f fn hf hfn => by
    obtain rfl : f = 3 := Option.some.inj ((show Tryz.prog.funcNamed "fleuron/fleuronlaw6.SelectorCombs" = some 3 by kernel_rfl).symm.trans hf) |>.symm
    obtain rfl : fn = Tryz.f3 := (Option.some.inj (Tryz.func3.symm.trans hfn)).symm
    exact ⟨by kernel_rfl, fun j t ht => by
     rw [Tryz.params3] at ht
     have hm : t ∈ [ 22, 22 ] := by simpa using Array.mem_of_getElem? ht
     have hall : ([ 22, 22 ].all fun u => !Tryz.prog.wantsStandIn u) = true := by kernel_rfl
     exact (show Tryz.prog.wantsStandIn t = false by simpa using List.all_eq_true.1 hall t hm)⟩)
   (by kernel_rfl)
end Go.Proofs.YtclicjiakkcfcaaGreatDoor.selectorCombs
