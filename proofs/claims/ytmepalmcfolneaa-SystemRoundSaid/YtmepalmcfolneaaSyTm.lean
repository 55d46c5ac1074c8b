
import Derived.Test.YtmepalmcfolneaaSyTp
import Derived.Test.YtmepalmcfolneaaSyT3
import Derived.Test.YtmepalmcfolneaaSyQ2
import Derived.Deep.CutBlock
import Derived.BigRegion
import Derived.Deep.DeepMust
namespace Go.Proofs.Ytmepalmcfolneaa
open Go.RowKit
/-- A frame again, but for eighteen slots. -/
def fill (xs : Array Value) (T : Nat → Value) (d : Nat) : Nat → Array Value
  | 0 => xs
  | n + 1 => fill (xs.setIfInBounds d (T d)) T (d + 1) n
theorem fill_size (T : Nat → Value) : ∀ (n d : Nat) (xs : Array Value), (fill xs T d n).size = xs.size
  | 0, _, _ => rfl
  | n + 1, d, xs => by rw [fill, fill_size T n]; simp
theorem fill_at (T : Nat → Value) : ∀ (n d : Nat) (xs : Array Value) (k : Nat), k < xs.size → (fill xs T d n)[k]? = if d ≤ k ∧ k < d + n then some (T k) else xs[k]?
  | 0, d, xs, k, _ => by rw [fill, if_neg (by omega)]
  | n + 1, d, xs, k, h => by
    rw [fill, fill_at T n (d + 1) _ k (by simpa using h)]
    by_cases c : k = d
    · subst c
      rw [if_neg (by omega), if_pos (by omega)]
      simp [h]
    · rw [Array.getElem?_setIfInBounds_ne (Ne.symm c)]
      by_cases c2 : d ≤ k ∧ k < d + (n + 1)
      · rw [if_pos c2, if_pos (by omega)]
      · rw [if_neg c2, if_neg (by omega)]
theorem act_fill {A a : Act} (h1 : a.tmps.size = A.tmps.size) (h2 : ∀ k, k < 58 ∨ 75 < k → a.tmps[k]? = A.tmps[k]?) (h3 : a.defers = A.defers) : ∃ T : Nat → Value, a = { tmps := fill A.tmps T 58 18, defers := A.defers } := by
  refine ⟨fun k => a.tmps.getD k undef, ?_⟩
  cases a with
  | mk t d =>
    simp only [Act.mk.injEq]
    refine ⟨Array.ext_getElem? fun k => ?_, h3⟩
    by_cases hk : k < A.tmps.size
    · rw [fill_at _ _ _ _ _ hk]
      by_cases c : 58 ≤ k ∧ k < 58 + 18
      · rw [if_pos c]
        have : k < t.size := by have h1' : t.size = A.tmps.size := h1; omega
        simp [this]
      · rw [if_neg c]
        exact h2 k (by omega)
    · have h1' : t.size = A.tmps.size := h1
      rw [Array.getElem?_eq_none (by omega), Array.getElem?_eq_none (by rw [fill_size]; omega)]
theorem bx_rangeM {w : World} {b : Nat} {vs : List Value} (h : Bx w b vs.toArray) : w.rangeAt b 0 vs := fun j v hv => by
  rw [Nat.zero_add, h.cell, ← hv]
  simp
theorem rdAt {w w' : World} {a : Option Addr} {j k : Nat} (h : RdTx w (.slice a j k) (lets 65 j)) (hb : Below w.heap.size w w') (hj : 0 < j := by omega) : ∃ b off, a = some ⟨b, off, none⟩ ∧ ∀ i, i < j → w'.cell? ⟨b, off + i, none⟩ = some (.string (letB 65 i)) := by
  obtain ⟨a', c, hv, _, hc⟩ := h
  have hl := lets_len 65 j
  injection hv with hv _ _
  subst hv
  obtain ⟨b, off, rfl, hlt, hc⟩ := hc (by omega)
  refine ⟨b, off, rfl, fun i hi => ?_⟩
  have := (hb.cell (p := ⟨b, off + i, none⟩) hlt).trans (hc i (by omega))
  rw [this]
  simp [lets]
theorem quo_is (n : Int) (j : Nat) (hn : 1 ≤ n) (hj : 1 ≤ j) : ∃ Q : Nat, (n + (j : Int) - 1).tdiv (j : Int) = (Q : Int) ∧ (Q : Int) = (n - 1) / (j : Int) + 1 ∧ (Q : Int) ≤ n := by
  have h2 := Int.ediv_le_self (j : Int) (show 0 ≤ n - 1 by omega)
  have h0 : 0 ≤ (n - 1) / (j : Int) := Int.ediv_nonneg (by omega) (by omega)
  refine ⟨((n - 1) / (j : Int) + 1).toNat, ?_, by omega, by omega⟩
  rw [Int.tdiv_eq_ediv_of_nonneg (by omega), show n + (j : Int) - 1 = (n - 1) + 1 * (j : Int) by omega, Int.add_mul_ediv_right _ _ (by omega)]
  omega
theorem rep_ext (t M : Nat) (x : Int) (i : Nat) (hx : x = (M : Int)) (hi : i < t) : (repB t ((65 + x.toNat).toUInt8)).extract i (i + 1) = letB 65 M := by
  subst hx
  rw [Int.toNat_natCast]
  refine ByteArray.ext (Array.ext ?_ ?_)
  · simp [repB, letB, ByteArray.extract, ByteArray.copySlice]
    omega
  · intro k h1 h2
    simp [repB, letB, ByteArray.extract, ByteArray.copySlice]
theorem cut_one {s u : ByteArray} {i : Nat} (hi : i < s.size) (h : s.extract i (i + 1) = u) (W : World) : (Instr.slice 9 (.string s) (some (.int .i64 (i : Int))) (some (.int .i64 ((i : Int) + 1))) none).run Try.prog W = .ok (.string u) W := by
  have := run_slice_string (P := Try.prog) W 9 s .i64 .i64 (i : Int) ((i : Int) + 1) Try.underlying9 (by omega) (by omega) (by omega)
  rw [show ((i : Int) + 1).toNat = i + 1 by omega, Int.toNat_natCast, h] at this
  exact this
abbrev sysT (c : Nat) : ByteArray := if c = 0 then cyT else if c = 1 then fiT else syT
abbrev fstI (first : Int) (c : Nat) : Int := if c = 1 then first else 1
/-- The three styles while the law builds them. -/
structure RoI (w0 : World) (H : Nat) (first : Int) (L : List ByteArray) (p : Nat → Value) (wr : World) : Prop where
  bx : ∀ c, c < 3 → Bx wr (H + c) (madeC (sysT c) (fstI first c) (p c))
  fam : Fam w0.heap.size wr (fun k => if k < 3 then (p k, L) else (.slice none 0 0, []))
  below : Below w0.heap.size w0 wr
  lo : w0.heap.size ≤ H
theorem RoI.alloc {w0 : World} {H : Nat} {first : Int} {L : List ByteArray} {p : Nat → Value} {wr : World} (h : RoI w0 H first L p wr) (o : Obj) : RoI w0 H first L p (wr.alloc o) :=
  ⟨fun c hc => (h.bx c hc).alloc o, ⟨fun i => (h.fam.own i).alloc o, h.fam.apart⟩, h.below.alloc h.below.size o, h.lo⟩
theorem RoI.sl {w0 : World} {H : Nat} {first : Int} {L : List ByteArray} {p : Nat → Value} {wr : World} (h : RoI w0 H first L p wr) (c : Nat) (hc : c < 3) : OwnT w0.heap.size wr (p c) L := by
  have := h.fam.own c
  simp only [if_pos hc] at this
  exact this
theorem set_three (s : ByteArray) (f : Int) (sv wv : Value) : (madeC s f sv).setIfInBounds 3 wv = madeC s f wv := by kernel_rfl
set_option maxRecDepth 100000 in
set_option maxHeartbeats 6400000 in
theorem round_main (K : Nat) (n first : Int) (w : World) (hk1 : 1 ≤ K) (hk2 : K ≤ 30) (hn1 : -2147483648 ≤ n) (hn2 : n ≤ 2147483647) (hf1 : -1000 ≤ first) (hf2 : first ≤ 1000) :
    Calls Try.prog 3 #[.int .i64 K, .int .i64 n, .int .i64 first] w fun e w' => e = .returned (.bool true) ∧ Below w.heap.size w w' := by
  have c1 : ¬ (K : Int) < 1 := by omega
  have c2 : ¬ (30 : Int) < (K : Int) := by omega
  have c3 : ¬ n < -2147483648 := by omega
  have c4 : ¬ (2147483648 : Int) ≤ n := by omega
  have c5 : ¬ first < -1000 := by omega
  have c6 : ¬ (1000 : Int) < first := by omega
  have d1 : decide ((K : Int) < 1) = false := decide_eq_false c1
  have d2 : decide ((30 : Int) < (K : Int)) = false := decide_eq_false c2
  have d3 : decide (n < -2147483648) = false := decide_eq_false c3
  have d4 : decide ((2147483648 : Int) ≤ n) = false := decide_eq_false c4
  have d5 : decide (first < -1000) = false := decide_eq_false c5
  have d6 : decide ((1000 : Int) < first) = false := decide_eq_false c6
  go_enter Try.func3, Try.ntmps3
  go_wp2_with fail
  refine (made_any _ _ _ _ _).mono ?_
  rintro e w1 ⟨rfl, hb1⟩
  go_wp2_with fail
  refine (made_any _ _ _ _ _).mono ?_
  rintro e w2 ⟨rfl, hb2⟩
  go_wp2_with fail
  refine (made_any _ _ _ _ _).mono ?_
  rintro e w3 ⟨rfl, hb3⟩
  go_upto_region 5 with fail
  have HR0 : Hid (∀ W, W = ((w3.alloc (.cells (madeC cyT 1 (.slice none 0 0)) 28)).alloc (.cells (madeC fiT first (.slice none 0 0)) 28)).alloc (.cells (madeC syT 1 (.slice none 0 0)) 28) → RoI w w3.heap.size first (lets 65 0) (fun _ => .slice none 0 0) W) := by
    rintro W rfl
    have hz : w.heap.size ≤ w3.heap.size := Nat.le_trans hb1.size (Nat.le_trans hb2.size hb3.size)
    refine ⟨fun c hc => ?_, ⟨fun i => ?_, fun i j _ => ?_⟩, ?_, hz⟩
    · rcases (show c = 0 ∨ c = 1 ∨ c = 2 by omega) with rfl | rfl | rfl
      · exact ((Bx.new _ _).alloc _).alloc _
      · have := (Bx.new (w3.alloc (.cells (madeC cyT 1 (.slice none 0 0)) 28)) (madeC fiT first (.slice none 0 0))).alloc (.cells (madeC syT 1 (.slice none 0 0)) 28)
        rw [show (w3.alloc (.cells (madeC cyT 1 (.slice none 0 0)) 28)).heap.size = w3.heap.size + 1 by simp] at this
        exact this
      · have := Bx.new ((w3.alloc (.cells (madeC cyT 1 (.slice none 0 0)) 28)).alloc (.cells (madeC fiT first (.slice none 0 0)) 28)) (madeC syT 1 (.slice none 0 0))
        rw [show ((w3.alloc (.cells (madeC cyT 1 (.slice none 0 0)) 28)).alloc (.cells (madeC fiT first (.slice none 0 0)) 28)).heap.size = w3.heap.size + 2 by simp] at this
        exact this
    · split
      · exact OwnT.nil _ _
      · exact OwnT.nil _ _
    · split
      · exact .inl rfl
      · exact .inl rfl
    · exact ((((below_seq (below_seq hb1 hb2) hb3).alloc hz _).alloc (by simp; omega) _).alloc (by simp; omega) _)
  have HR1 := Lib.hid (HR0.out _ rfl)
  generalize ((w3.alloc _).alloc _).alloc _ = W3 at *
  clear HR0
  go_wp2_with fail
  go_loopw [10] (fun iv wr => ∃ (j : Nat) (p : Nat → Value), iv = .int .i64 j ∧ j ≤ K ∧ RoI w w3.heap.size first (lets 65 j) p wr) (fun iv _ => K - (intOf iv).toNat)
  case atStart => exact ⟨0, _, rfl, Nat.zero_le _, HR1.out⟩
  case round =>
    obtain ⟨j, p, rfl, hj, hI⟩ := hrel
    have HI := Lib.hid hI
    clear hI
    by_cases hlt : j < K
    · have hltI : (j : Int) < (K : Int) := by omega
      have hcv : ∀ w : World, (convert 30 9 (.slice (some ⟨w.heap.size, 0, none⟩) 1 1)).run Try.prog (w.alloc (.cells #[.int .u8 (65 + (j : Int))] 5)) = .ok (.string (letB 65 j)) (w.alloc (.cells #[.int .u8 (65 + (j : Int))] 5)) := fun w => conv_one 65 j w
      go_upto_region 9 with fail
      refine three_appends (p := p) (w0 := w) (b := fun c => w3.heap.size + c) (cs := fun c => madeC (sysT c) (fstI first c) (p c)) (s := letB 65 j) (L := lets 65 j) ?hOPS ?hBAS (by rw [lets_len]; omega) (by kernel_rfl) (fun c hc => (HI.out.alloc _).bx c hc) (HI.out.alloc _).fam (HI.out.alloc _).below ?_
      case hOPS =>
        refine ⟨by kernel_rfl, fun c hc => ?_, fun c hc => ?_, fun c hc => ?_, fun c hc => ?_, fun c hc => ?_, fun c hc => ?_, fun c hc => ?_, by kernel_rfl, fun c hc => ?_, fun c hc => ?_, fun c hc => ?_, fun c hc => ?_⟩ <;> (rcases (show c = 0 ∨ c = 1 ∨ c = 2 by omega) with rfl | rfl | rfl) <;> first | exact ⟨_, rfl, rfl, rfl, rfl⟩ | kernel_rfl | exact ⟨by kernel_rfl, by kernel_rfl⟩
      case hBAS =>
        refine ⟨Nat.le_refl 188, fun c hc => ?_, rfl, fun c d _ _ h => by show w3.heap.size + c ≠ w3.heap.size + d; omega, fun c _ => by show w.heap.size ≤ w3.heap.size + c; have := HI.out.lo; omega, fun c _ => ⟨by show 3 < 16; decide, rfl⟩⟩
        rcases (show c = 0 ∨ c = 1 ∨ c = 2 by omega) with rfl | rfl | rfl <;> rfl
      intro a' w' g cap h1 h2 h3 h4 h5 h6
      obtain ⟨T, rfl⟩ := act_fill h1 h2 h3
      clear h1 h2 h3
      have HNX : Hid (RoI w w3.heap.size first (lets 65 (j + 1)) (fun c => .slice (some ⟨g c, 0, none⟩) ((lets 65 j).length + 1) (cap c)) w') := by
        refine ⟨fun c hc => ?_, ?_, h6, HI.out.lo⟩
        · have := h4 c hc
          rw [set_three] at this
          exact this
        · rw [← lets_snoc]
          exact h5
      clear h4 h5 h6
      simp only [fill, List.setIfInBounds_toArray, List.set_cons_succ, List.set_cons_zero, Nat.reduceAdd]
      go_wp2_with fail
      go_roundw
      case rel => exact ⟨j + 1, _, by go_num, by omega, HNX.out⟩
      case measure => simp [intOf]; omega
    · obtain rfl : j = K := by omega
      have hltI : ¬ (j : Int) < (j : Int) := by omega
      have hln := lets_len 65 j
      obtain ⟨a0, k0, hp0⟩ := ownT_len (HI.out.sl 0 (by omega))
      obtain ⟨a1, k1, hp1⟩ := ownT_len (HI.out.sl 1 (by omega))
      obtain ⟨a2, k2, hp2⟩ := ownT_len (HI.out.sl 2 (by omega))
      have hr0 := (HI.out.sl 0 (by omega)).rd
      have hr1 := (HI.out.sl 1 (by omega)).rd
      have hr2 := (HI.out.sl 2 (by omega)).rd
      have hx0 := HI.out.bx 0 (by omega)
      have hx1 := HI.out.bx 1 (by omega)
      have hx2 := HI.out.bx 2 (by omega)
      rw [hln] at hp0 hp1 hp2
      rw [hp0] at hr0 hx0
      rw [hp1] at hr1 hx1
      rw [hp2] at hr2 hx2
      have HX0 : Hid (Bx wr w3.heap.size (madeC cyT 1 (.slice a0 j k0))) := hx0
      have HX1 : Hid (Bx wr (w3.heap.size + 1) (madeC fiT first (.slice a1 j k1))) := hx1
      have HX2 : Hid (Bx wr (w3.heap.size + 1 + 1) (madeC syT 1 (.slice a2 j k2))) := hx2
      have HXX := HX1
      have HQ0 : Hid (DefQ wr (madeF cyT 1 (lets 65 j)) (.slice a0 j k0) (.slice none 0 0) (.slice none 0 0)) := madeFQ hr0 (by omega) (by omega)
      have HQ1 : Hid (DefQ wr (madeF fiT first (lets 65 j)) (.slice a1 j k1) (.slice none 0 0) (.slice none 0 0)) := madeFQ hr1 (by omega) (by omega)
      have HQ2 : Hid (DefQ wr (madeF syT 1 (lets 65 j)) (.slice a2 j k2) (.slice none 0 0) (.slice none 0 0)) := madeFQ hr2 (by omega) (by omega)
      have HRR0 := Lib.hid hr0
      have HRR1 := Lib.hid hr1
      have HCY := Lib.hid (cyc_says j n hk1 (by omega) hn1 hn2)
      have HFI := Lib.hid (fix_says j n first hk1 (by omega) hn1 hn2)
      have HSY := Lib.hid (sym_says j n hk1 (by omega) hn1 hn2)
      have HBW := Lib.hid HI.out.below
      have hxl0 := HX0.out.lt
      have hxl1 := HX1.out.lt
      have hxl2 := HX2.out.lt
      clear hx0 hx1 hx2 hr0 hr1 hr2 hp0 hp1 hp2 hln
      generalize hTF : signsT (madeF fiT first (lets 65 j)) n = TF at *
      generalize hOF : signsB (madeF fiT first (lets 65 j)) n = OF at *
      generalize hTS : signsT (madeF syT 1 (lets 65 j)) n = TS at *
      generalize hOS : signsB (madeF syT 1 (lets 65 j)) n = OS at *
      have HTF := Lib.hid hTF
      have HOF := Lib.hid hOF
      have HTS := Lib.hid hTS
      have HOS := Lib.hid hOS
      clear hTF hOF hTS hOS
      go_wp2_with (refine wpList_load_mid (by rfl) 28 (.tmp 7) (by rfl) (w3.heap.size) 0 (by rfl) [.string ⟨#[]⟩, .string cyT, .int .i64 1, .slice a0 j k0, .slice none 0 0, .string ⟨#[]⟩, .string ⟨#[]⟩, .string ⟨#[]⟩, .string ⟨#[]⟩, .bool true, .slice none 0 0, .int .i64 0, .string ⟨#[]⟩, .string ⟨#[]⟩, .string ⟨#[]⟩, .int .i64 0] _ (bx_rangeM HX0.out) Try.underlying28 (by rfl) def_size ?_)
      refine (signs_any _ (madeF cyT 1 (lets 65 j)) _ _ _ HQ0.out n).mono ?_
      rintro e w4 ⟨rfl, hb4⟩
      rw [HCY.out.1, HCY.out.2]
      have HX1 := Lib.hid (HX1.out.below hb4 hxl1)
      have HX2 := Lib.hid (HX2.out.below hb4 hxl2)
      have HB4 := Lib.hid hb4
      clear hb4
      go_wp2_with (refine wpList_load_mid (by rfl) 28 (.tmp 8) (by rfl) (w3.heap.size + 1) 0 (by rfl) [.string ⟨#[]⟩, .string fiT, .int .i64 first, .slice a1 j k1, .slice none 0 0, .string ⟨#[]⟩, .string ⟨#[]⟩, .string ⟨#[]⟩, .string ⟨#[]⟩, .bool true, .slice none 0 0, .int .i64 0, .string ⟨#[]⟩, .string ⟨#[]⟩, .string ⟨#[]⟩, .int .i64 0] _ (bx_rangeM HX1.out) Try.underlying28 (by rfl) def_size ?_)
      refine (signs_any _ (madeF fiT first (lets 65 j)) _ _ _ (HQ1.out.below HB4.out) n).mono ?_
      rintro e w5 ⟨rfl, hb5⟩
      rw [HTF.out, HOF.out]
      have HB5 := Lib.hid (below_seq HB4.out hb5)
      have HX2 := Lib.hid (HX2.out.below hb5 (Nat.lt_of_lt_of_le hxl2 HB4.out.size))
      clear hb5
      go_wp2_with (refine wpList_load_mid (by rfl) 28 (.tmp 9) (by rfl) (w3.heap.size + 1 + 1) 0 (by rfl) [.string ⟨#[]⟩, .string syT, .int .i64 1, .slice a2 j k2, .slice none 0 0, .string ⟨#[]⟩, .string ⟨#[]⟩, .string ⟨#[]⟩, .string ⟨#[]⟩, .bool true, .slice none 0 0, .int .i64 0, .string ⟨#[]⟩, .string ⟨#[]⟩, .string ⟨#[]⟩, .int .i64 0] _ (bx_rangeM HX2.out) Try.underlying28 (by rfl) def_size ?_)
      refine (signs_any _ (madeF syT 1 (lets 65 j)) _ _ _ (HQ2.out.below HB5.out) n).mono ?_
      rintro e w6 ⟨rfl, hb6⟩
      rw [HTS.out, HOS.out]
      have HB6 := Lib.hid (below_seq HB5.out hb6)
      clear hb6
      obtain ⟨M, hM, hMj⟩ : ∃ M : Nat, (n - 1) % (j : Int) = (M : Int) ∧ M < j := by
        have h0 := Int.emod_nonneg (n - 1) (show (j : Int) ≠ 0 by omega)
        have h1 := Int.emod_lt_of_pos (n - 1) (show (0 : Int) < (j : Int) by omega)
        exact ⟨((n - 1) % (j : Int)).toNat, by omega, by omega⟩
      rw [hM]
      have hM2 := hM
      have HM := Lib.hid hM
      clear hM
      go_upto_region 14 with (go_at_call 7; refine (sy_round (n - 1) j M _ (by omega) (by omega) HM.out).mono ?_; rintro e w7 ⟨rfl, rfl⟩)
      have q0 : w6.cell? ⟨w3.heap.size, 3, none⟩ = some (.slice a0 j k0) := (HX0.out.below HB6.out hxl0).cell 3
      have q1 : w6.cell? ⟨w3.heap.size + 1, 3, none⟩ = some (.slice a1 j k1) := (HXX.out.below HB6.out hxl1).cell 3
      have HLL : ∀ i, (hi : i < (lets 65 j).length) → (lets 65 j)[i] = letB 65 i := fun i hi => by simp [lets]
      obtain ⟨g0, o0, rfl, hs0⟩ := rdAt HRR0.out HB6.out
      obtain ⟨g1, o1, rfl, hs1⟩ := rdAt HRR1.out HB6.out
      have s0 := hs0 M hMj
      have HS1 := Lib.hid hs1
      have HBB := Lib.hid (below_seq HBW.out HB6.out)
      clear hs0 hs1 HLL
      generalize hLT : letB 65 M = LT at *
      have hLT1 : LT.size = 1 := by rw [← hLT]; rfl
      have HLT := Lib.hid hLT
      clear hLT
      have hM0 : (0 : Int) ≤ (M : Int) := by omega
      have hMI : (M : Int) < (j : Int) := by omega
      rcases HFI.out with ⟨f1, f2, rfl, hTT⟩ | ⟨f1, rfl, hTT⟩
      · obtain ⟨N2, hN2⟩ : ∃ N2 : Nat, n - first = (N2 : Int) := ⟨(n - first).toNat, by omega⟩
        have s1 := HS1.out N2 (by omega)
        rw [hN2, Int.toNat_natCast] at hTT
        subst hTT
        have e1 : first ≤ n := f1
        have e2 : n < first + (j : Int) := by omega
        have e3 : (0 : Int) ≤ (N2 : Int) := by omega
        have e4 : (N2 : Int) < (j : Int) := by omega
        rcases HSY.out with ⟨hno, rfl, rfl⟩ | ⟨t, y1, y2, y3, rfl, hTT2⟩
        · by_cases y1 : n < 1
          · have y1d : decide (n < 1) = true := decide_eq_true y1
            go_wp2_with (go_at_call 4; (with_reducible refine (awake_any _).mono ?_); rintro e w8 ⟨rfl, hb8⟩)
            go_ret
            exact ⟨rfl, below_seq HBB.out hb8⟩
          · have y1d : decide (n < 1) = false := decide_eq_false y1
            obtain ⟨Q, hQ, hQ2, hQ3⟩ := quo_is n j (by omega) (by omega)
            have y4 : (60 : Int) < (Q : Int) := by omega
            have y5 : ((j : Int) == 0) = false := beq_eq_false_iff_ne.2 (by omega)
            have y6 : ¬ (j : Int) = 0 := by omega
            clear hno hQ2
            go_wp2_with (go_at_call 4; (with_reducible refine (awake_any _).mono ?_); rintro e w8 ⟨rfl, hb8⟩)
            go_ret
            exact ⟨rfl, below_seq HBB.out hb8⟩
        · have y1I : ¬ n < 1 := by omega
          have y1d : decide (n < 1) = false := decide_eq_false y1I
          obtain ⟨Q, hQ, hQ2, hQ3⟩ := quo_is n j (by omega) (by omega)
          have y4 : ¬ (60 : Int) < (Q : Int) := by omega
          have y4d : decide ((60 : Int) < (Q : Int)) = false := decide_eq_false y4
          have y5 : ((j : Int) == 0) = false := beq_eq_false_iff_ne.2 (by omega)
          have y6 : ¬ (j : Int) = 0 := by omega
          obtain rfl : t = Q := by omega
          have hsz : TS.size = t := by rw [hTT2]; exact repB_size _ _
          have HSL : Hid (∀ i, i < t → TS.extract i (i + 1) = LT) := fun i hi => by
            rw [hTT2, ← HLT.out]
            exact rep_ext _ _ _ _ hM2 hi
          clear y2 hQ2 hTT2
          go_wp2
          go_loopw [19] (fun iv wv => ∃ i : Nat, iv = .int .i64 i ∧ i ≤ t ∧ wv.cell? ⟨w3.heap.size, 3, none⟩ = some (.slice (some ⟨g0, o0, none⟩) j k0) ∧ wv.cell? ⟨g0, o0 + M, none⟩ = some (.string LT) ∧ Below w.heap.size w wv) (fun iv _ => t - (intOf iv).toNat)
          case atStart => exact ⟨0, rfl, Nat.zero_le _, q0, s0, HBB.out⟩
          case round =>
            obtain ⟨i, rfl, hi, r0, r1, r2⟩ := hrel
            have HR2 := Lib.hid r2
            clear r2
            by_cases hil : i < t
            · have z1 : (i : Int) < (t : Int) := by omega
              have z0 : (0 : Int) ≤ (i : Int) := by omega
              have z2 : (i : Int) + 1 ≤ (t : Int) := by omega
              have hrun : ∀ W : World, (Instr.slice 9 (.string TS) (some (.int .i64 (i : Int))) (some (.int .i64 ((i : Int) + 1))) none).run Try.prog W = .ok (.string LT) W := fun W => cut_one (by omega) (HSL.out i hil) W
              have HDR := Lib.hid HR2.out.drew
              go_upto_region 23 with fail
              go_region
              all_goals go_wp2
              all_goals go_roundw
              case rel => exact ⟨i + 1, by go_num, by omega, r0, r1, HDR.out⟩
              case measure => simp [intOf]; omega
            · obtain rfl : i = t := by omega
              have z1 : ¬ (i : Int) < (i : Int) := by omega
              go_wp2_with (go_at_call 4; (with_reducible refine (awake_any _).mono ?_); rintro e w8 ⟨rfl, hb8⟩)
              go_ret
              exact ⟨rfl, below_seq HR2.out hb8⟩
      · subst hTT
        by_cases g1 : first ≤ n
        · have g2 : ¬ n < first + (j : Int) := by omega
          have g1d : decide (first ≤ n) = true := decide_eq_true g1
          have g2d : decide (n < first + (j : Int)) = false := decide_eq_false g2
          go_upto_region 16 with fail
          rcases HSY.out with ⟨hno, rfl, rfl⟩ | ⟨t, y1, y2, y3, rfl, hTT2⟩
          · by_cases y1 : n < 1
            · have y1d : decide (n < 1) = true := decide_eq_true y1
              go_wp2_with (go_at_call 4; (with_reducible refine (awake_any _).mono ?_); rintro e w8 ⟨rfl, hb8⟩)
              go_ret
              exact ⟨rfl, below_seq HBB.out hb8⟩
            · have y1d : decide (n < 1) = false := decide_eq_false y1
              obtain ⟨Q, hQ, hQ2, hQ3⟩ := quo_is n j (by omega) (by omega)
              have y4 : (60 : Int) < (Q : Int) := by omega
              have y5 : ((j : Int) == 0) = false := beq_eq_false_iff_ne.2 (by omega)
              have y6 : ¬ (j : Int) = 0 := by omega
              clear hno hQ2
              go_wp2_with (go_at_call 4; (with_reducible refine (awake_any _).mono ?_); rintro e w8 ⟨rfl, hb8⟩)
              go_ret
              exact ⟨rfl, below_seq HBB.out hb8⟩
          · have y1I : ¬ n < 1 := by omega
            have y1d : decide (n < 1) = false := decide_eq_false y1I
            obtain ⟨Q, hQ, hQ2, hQ3⟩ := quo_is n j (by omega) (by omega)
            have y4 : ¬ (60 : Int) < (Q : Int) := by omega
            have y4d : decide ((60 : Int) < (Q : Int)) = false := decide_eq_false y4
            have y5 : ((j : Int) == 0) = false := beq_eq_false_iff_ne.2 (by omega)
            have y6 : ¬ (j : Int) = 0 := by omega
            obtain rfl : t = Q := by omega
            have hsz : TS.size = t := by rw [hTT2]; exact repB_size _ _
            have HSL : Hid (∀ i, i < t → TS.extract i (i + 1) = LT) := fun i hi => by
              rw [hTT2, ← HLT.out]
              exact rep_ext _ _ _ _ hM2 hi
            clear y2 hQ2 hTT2
            go_wp2
            go_loopw [19] (fun iv wv => ∃ i : Nat, iv = .int .i64 i ∧ i ≤ t ∧ wv.cell? ⟨w3.heap.size, 3, none⟩ = some (.slice (some ⟨g0, o0, none⟩) j k0) ∧ wv.cell? ⟨g0, o0 + M, none⟩ = some (.string LT) ∧ Below w.heap.size w wv) (fun iv _ => t - (intOf iv).toNat)
            case atStart => exact ⟨0, rfl, Nat.zero_le _, q0, s0, HBB.out⟩
            case round =>
              obtain ⟨i, rfl, hi, r0, r1, r2⟩ := hrel
              have HR2 := Lib.hid r2
              clear r2
              by_cases hil : i < t
              · have z1 : (i : Int) < (t : Int) := by omega
                have z0 : (0 : Int) ≤ (i : Int) := by omega
                have z2 : (i : Int) + 1 ≤ (t : Int) := by omega
                have hrun : ∀ W : World, (Instr.slice 9 (.string TS) (some (.int .i64 (i : Int))) (some (.int .i64 ((i : Int) + 1))) none).run Try.prog W = .ok (.string LT) W := fun W => cut_one (by omega) (HSL.out i hil) W
                have HDR := Lib.hid HR2.out.drew
                go_upto_region 23 with fail
                go_region
                all_goals go_wp2
                all_goals go_roundw
                case rel => exact ⟨i + 1, by go_num, by omega, r0, r1, HDR.out⟩
                case measure => simp [intOf]; omega
              · obtain rfl : i = t := by omega
                have z1 : ¬ (i : Int) < (i : Int) := by omega
                go_wp2_with (go_at_call 4; (with_reducible refine (awake_any _).mono ?_); rintro e w8 ⟨rfl, hb8⟩)
                go_ret
                exact ⟨rfl, below_seq HR2.out hb8⟩
        · have g1d : decide (first ≤ n) = false := decide_eq_false g1
          go_upto_region 16 with fail
          rcases HSY.out with ⟨hno, rfl, rfl⟩ | ⟨t, y1, y2, y3, rfl, hTT2⟩
          · by_cases y1 : n < 1
            · have y1d : decide (n < 1) = true := decide_eq_true y1
              go_wp2_with (go_at_call 4; (with_reducible refine (awake_any _).mono ?_); rintro e w8 ⟨rfl, hb8⟩)
              go_ret
              exact ⟨rfl, below_seq HBB.out hb8⟩
            · have y1d : decide (n < 1) = false := decide_eq_false y1
              obtain ⟨Q, hQ, hQ2, hQ3⟩ := quo_is n j (by omega) (by omega)
              have y4 : (60 : Int) < (Q : Int) := by omega
              have y5 : ((j : Int) == 0) = false := beq_eq_false_iff_ne.2 (by omega)
              have y6 : ¬ (j : Int) = 0 := by omega
              clear hno hQ2
              go_wp2_with (go_at_call 4; (with_reducible refine (awake_any _).mono ?_); rintro e w8 ⟨rfl, hb8⟩)
              go_ret
              exact ⟨rfl, below_seq HBB.out hb8⟩
          · have y1I : ¬ n < 1 := by omega
            have y1d : decide (n < 1) = false := decide_eq_false y1I
            obtain ⟨Q, hQ, hQ2, hQ3⟩ := quo_is n j (by omega) (by omega)
            have y4 : ¬ (60 : Int) < (Q : Int) := by omega
            have y4d : decide ((60 : Int) < (Q : Int)) = false := decide_eq_false y4
            have y5 : ((j : Int) == 0) = false := beq_eq_false_iff_ne.2 (by omega)
            have y6 : ¬ (j : Int) = 0 := by omega
            obtain rfl : t = Q := by omega
            have hsz : TS.size = t := by rw [hTT2]; exact repB_size _ _
            have HSL : Hid (∀ i, i < t → TS.extract i (i + 1) = LT) := fun i hi => by
              rw [hTT2, ← HLT.out]
              exact rep_ext _ _ _ _ hM2 hi
            clear y2 hQ2 hTT2
            go_wp2
            go_loopw [19] (fun iv wv => ∃ i : Nat, iv = .int .i64 i ∧ i ≤ t ∧ wv.cell? ⟨w3.heap.size, 3, none⟩ = some (.slice (some ⟨g0, o0, none⟩) j k0) ∧ wv.cell? ⟨g0, o0 + M, none⟩ = some (.string LT) ∧ Below w.heap.size w wv) (fun iv _ => t - (intOf iv).toNat)
            case atStart => exact ⟨0, rfl, Nat.zero_le _, q0, s0, HBB.out⟩
            case round =>
              obtain ⟨i, rfl, hi, r0, r1, r2⟩ := hrel
              have HR2 := Lib.hid r2
              clear r2
              by_cases hil : i < t
              · have z1 : (i : Int) < (t : Int) := by omega
                have z0 : (0 : Int) ≤ (i : Int) := by omega
                have z2 : (i : Int) + 1 ≤ (t : Int) := by omega
                have hrun : ∀ W : World, (Instr.slice 9 (.string TS) (some (.int .i64 (i : Int))) (some (.int .i64 ((i : Int) + 1))) none).run Try.prog W = .ok (.string LT) W := fun W => cut_one (by omega) (HSL.out i hil) W
                have HDR := Lib.hid HR2.out.drew
                go_upto_region 23 with fail
                go_region
                all_goals go_wp2
                all_goals go_roundw
                case rel => exact ⟨i + 1, by go_num, by omega, r0, r1, HDR.out⟩
                case measure => simp [intOf]; omega
              · obtain rfl : i = t := by omega
                have z1 : ¬ (i : Int) < (i : Int) := by omega
                go_wp2_with (go_at_call 4; (with_reducible refine (awake_any _).mono ?_); rintro e w8 ⟨rfl, hb8⟩)
                go_ret
                exact ⟨rfl, below_seq HR2.out hb8⟩
end Go.Proofs.Ytmepalmcfolneaa
