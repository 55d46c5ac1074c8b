
import Derived.Test.YtfggpenfdfklkaaGreatRuV
import Derived.Test.YtfggpenfdfklkaaGreatShG
import Derived.Laws.OwnMore
import Derived.Deep.DeepMust
import Derived.BigQuiet
namespace Go.Proofs.YtfggpenfdfklkaaGreat
open Go.RowKit
/-! Stage 4's law: its nodes; its awake. -/
set_option maxRecDepth 100000 in
set_option maxHeartbeats 800000 in
theorem nodes4_any (s : ByteArray) (w : World) (hs : s.size ≤ 5000000) :
    Calls Tryz.prog 12 #[.string s] w (NodesPost w (ndsS (toks (readS s)))) := by
  have hcv := run_bytes_of_string (P := Tryz.prog) w 9 22 5 s Tryz.underlying9 Tryz.underlying22 Tryz.underlying5
  have hrd := rd_bytes w s
  have hb : Below w.heap.size w (w.drew.alloc (.cells (bytesRow s (grownCap w s.size 0 5)) 5 ((bytesRow s (grownCap w s.size 0 5)).size, (bytesRow s (grownCap w s.size 0 5)).size + 1))) := ((Below.refl _ w).drew).alloc (Nat.le_refl _) _
  generalize grownCap w s.size 0 5 = cap at *
  generalize w.drew.alloc (.cells (bytesRow s cap) 5 ((bytesRow s cap).size, (bytesRow s cap).size + 1)) = wb at *
  have hnl : (nums s).length ≤ 1000000000 := by rw [nums_length]; omega
  have hrl := readS_length s
  have htl : (toks (readS s)).length ≤ s.size := Nat.le_trans (toks_len_leZ _ _ (Nat.le_refl _)) hrl
  go_enter Tryz.func12, Tryz.ntmps12
  go_wp2_with fail
  refine (refread_any _ _ _ hrd hnl).mono ?_
  rintro e w2 ⟨⟨v2, rfl, hr2⟩, hb2⟩
  rw [str_nums] at hr2
  go_wp2_with fail
  refine (rtokens_any _ _ _ hr2 (by omega) (readS_ok s)).mono ?_
  rintro e w3 ⟨v3, rfl, hr3, hb3⟩
  go_wp2_with fail
  refine (refnodes_any _ _ _ hr3 (by omega)).mono ?_
  rintro e w4 ⟨⟨v4, rfl, hr4⟩, hb4⟩
  go_wp2
  go_ret
  have hB := below_seq (below_seq hb hb2) hb3
  exact ⟨⟨_, rfl, hr4.weak fun b _ hb => Nat.le_trans hB.size hb⟩, below_seq hB hb4⟩
abbrev a4X : List Int := [64, 120, 32, 97, 59, 32, 98, 44, 32, 99, 32, 123, 32, 100, 32, 58, 32, 101, 32, 33, 105, 109, 112, 111, 114, 116, 97, 110, 116, 59, 32, 102, 59, 32, 103, 58, 104, 32, 125, 32, 105]
abbrev a4V : ByteArray := ⟨#[32, 97, 32, 33, 32, 73, 77, 80, 79, 82, 84, 65, 78, 84, 32]⟩
abbrev a4D : ByteArray := ⟨#[97, 58, 98, 59, 59, 99, 58, 33]⟩
abbrev lf (k : Int) (t : ByteArray) : Nd := .mk { kind := k, text := t } []
abbrev a4D0 : DeclD := ⟨⟨#[100]⟩, [lf 1 ⟨#[101]⟩], true⟩
abbrev a4D1 : DeclD := ⟨⟨#[103]⟩, [lf 1 ⟨#[104]⟩], false⟩
abbrev a4R0 : RuleD := ⟨⟨#[120]⟩, [lf 1 ⟨#[97]⟩], false, []⟩
abbrev a4R1 : RuleD := ⟨⟨#[]⟩, [lf 1 ⟨#[98]⟩, lf 18 ⟨#[]⟩, lf 13 ⟨#[]⟩, lf 1 ⟨#[99]⟩], true, [a4D0, a4D1]⟩
theorem a4_rules : rulesS (ndsS (toks (readS (strOfNums a4X)))) = [a4R0, a4R1] := by kernel_rfl
theorem a4_v : valP (ndsS (toks (readS a4V))) = ([lf 1 ⟨#[97]⟩], true) := by kernel_rfl
theorem a4_d : declsS (ndsS (toks (readS a4D))) = [⟨⟨#[97]⟩, [lf 1 ⟨#[98]⟩], false⟩] := by kernel_rfl
theorem a4_vz : szL (ndsS (toks (readS a4V))) ≤ 100000000 := by decide +kernel
theorem a4_dz : szL (ndsS (toks (readS a4D))) ≤ 100000000 := by decide +kernel
end Go.Proofs.YtfggpenfdfklkaaGreat
namespace Go.Proofs.YtfggpenfdfklkaaGreat
open Go.RowKit
theorem a4_e : shE [a4R0, a4R1] = 0 := by kernel_rfl
theorem a4_r : shR [a4R0, a4R1] = [a4R0, a4R1] := by kernel_rfl
theorem info_u8z : (Tryz.prog.info? 5).map (fun i => (i.zero, i.size, i.bytes)) = some (some (.int .u8 0), 1, 1) := by kernel_rfl
set_option maxRecDepth 100000 in
set_option maxHeartbeats 3200000 in
theorem awake4_any (w : World) :
    Calls Tryz.prog 9 #[] w fun e w' => e = .returned (.bool true) ∧ Below w.heap.size w w' := by
  obtain ⟨i0, hi, hz0, hz1, hz2⟩ := info_parts info_u8z
  have kc := fun (w : World) (C : Array Value) (n c : Nat) => Lib.run_convert_bytes_const (P := Tryz.prog) w 22 5 C n c Tryz.underlying22 Tryz.underlying5
  have hrd := Rd.lit w .u8 a4X (a4X.map (Value.int .u8)).toArray 5 (41, 42) 41 rfl rfl
  simp only [a4X, List.map_cons, List.map_nil] at hrd
  go_enter Tryz.func9, Tryz.ntmps9
  go_wp2_with fail
  refine (rsheet_any a4X _ _ hrd (by decide)).mono ?_
  intro e w1 hq
  unfold SheetP at hq
  rw [a4_rules, a4_e, a4_r] at hq
  obtain ⟨⟨v1, rfl, hr1⟩, hb1⟩ := hq
  have HB1 := Lib.hid (below_seq ((Below.refl w.heap.size w).alloc (Nat.le_refl _) _) hb1)
  have HR1 := Lib.hid hr1
  clear hr1 hb1 hrd kc
  obtain ⟨w2, hmk, hown, hg⟩ := run_make_full (P := Tryz.prog) w1 w1.heap.size 22 5 i0 _ 1 Tryz.underlying22 hi hz0 hz1 .i64 .i64 65537 (by rw [hz2]; omega) (by unfold maxLen; omega) (Nat.le_refl _)
  rw [show ((65537 : Nat) : Int) = 65537 from rfl] at hmk
  have HG := Lib.hid (below_seq HB1.out ((Below.refl w1.heap.size w1).grown hg (Nat.le_refl _) (fun k e => by cases e)))
  have HR2 := Lib.hid (HR1.out.under ((Below.refl w1.heap.size w1).grown hg (Nat.le_refl _) (fun k e => by cases e)) (Nat.le_refl _))
  clear hown hg
  go_wp2_with (first | (go_at_call 10; refine (rsheet_big (some ⟨w1.heap.size, 0, none⟩) 65537 65537 w2 (by decide)).mono ?_; rintro e w3 ⟨rfl, rfl⟩) | (go_at_call 12; (have hgd := hb5; clear hgd); refine (nodes4_any a4D _ (by decide)).mono ?_; rintro e w6 ⟨⟨v6, rfl, hr6⟩, hb6⟩; have HB6 := Lib.hid (below_seq HB5.out hb6)) | (go_at_call 12; refine (nodes4_any a4V _ (by decide)).mono ?_; rintro e w4 ⟨⟨v4, rfl, hr4⟩, hb4⟩) | (go_at_call 13; refine (value_any hr4 (sized_here (nds_sized a4V (by decide))) a4_vz).mono ?_; intro e w5 hq; unfold ValP at hq; rw [a4_v] at hq; obtain ⟨⟨v5, rfl, hv5⟩, hb5⟩ := hq; obtain ⟨va, vc, hus, _⟩ := hv5.shape; subst hus; have HB5 := Lib.hid (below_seq (below_seq HG.out hb4) hb5); have HR5 := Lib.hid ((HR2.out.under hb4 (Nat.le_refl _)).under hb5 (Nat.le_refl _)); obtain ⟨g, off, c, hgv, hgc, _, hgl, hat⟩ := HR5.out.base (by decide); subst hgv; have A0 := hat 0 (by decide); have A1 := hat 1 (by decide); have x0 : w5.cell? ⟨g, off, none⟩ = some (.string ⟨#[120]⟩) := A0.c0; have x2 : w5.cell? ⟨g, off + 2, none⟩ = some (.bool false) := A0.c2; obtain ⟨p0, x1, hp0⟩ := A0.c1; obtain ⟨pa0, pc0, hps, _⟩ := hp0.shape; subst hps; have y2 : w5.cell? ⟨g, off + 4 + 2, none⟩ = some (.bool true) := A1.c2; obtain ⟨p1, y1, hp1⟩ := A1.c1; obtain ⟨pa1, pc1, hps1, _⟩ := hp1.shape; subst hps1; obtain ⟨d1, y3, hd1⟩ := A1.c3; obtain ⟨dg, doff, dc, hdv, hdc, _, hdl, hdat⟩ := hd1.base (by decide); subst hdv; have D0 := hdat 0 (by decide); have D1 := hdat 1 (by decide); have z0 : w5.cell? ⟨dg, doff, none⟩ = some (.string ⟨#[100]⟩) := D0.c0; have z2 : w5.cell? ⟨dg, doff + 2, none⟩ = some (.bool true) := D0.c2; have t0 : w5.cell? ⟨dg, doff + 3, none⟩ = some (.string ⟨#[103]⟩) := D1.c0; simp only [List.length_cons, List.length_nil, Nat.zero_mul, Nat.one_mul, Nat.add_zero, List.getElem_cons_zero, List.getElem_cons_succ, Nat.reduceAdd] at x1 y1 y3; clear hat hdat A0 A1 D0 D1 hp0 hp1 hd1) | (go_at_call 17; refine (rdecls_any hr6 a4_dz (sized_here (nds_sized a4D (by decide)))).mono ?_; intro e w7 hq; unfold DeclsPost at hq; rw [a4_d] at hq; obtain ⟨⟨v7, rfl, hd7⟩, hb7⟩ := hq; obtain ⟨ea, ec, hus⟩ := hd7.sl; subst hus; have HB7 := Lib.hid (below_seq HB6.out hb7)))
  go_ret
  exact ⟨rfl, HB7.out⟩
end Go.Proofs.YtfggpenfdfklkaaGreat
namespace Go.Proofs.YtfggpenfdfklkaaGreat
open Go.RowKit
/-! RulesRead. -/
theorem szL_dw (p : Nd → Bool) : ∀ l : List Nd, szL (l.dropWhile p) ≤ szL l
  | [] => Nat.le_refl _
  | n :: l => by
    rw [List.dropWhile_cons]
    split
    · have := szL_dw p l
      rw [szL]
      omega
    · exact Nat.le_refl _
theorem szL_tw (p : Nd → Bool) : ∀ l : List Nd, szL (l.takeWhile p) ≤ szL l
  | [] => Nat.le_refl _
  | n :: l => by
    rw [List.takeWhile_cons]
    split
    · have := szL_tw p l
      rw [szL, szL]
      omega
    · rw [szL]; omega
theorem szL_tail (l : List Nd) : szL l.tail ≤ szL l := by
  cases l with
  | nil => exact Nat.le_refl _
  | cons n l => rw [szL, List.tail_cons]; omega
theorem szL_trA : ∀ l : List Nd, szL (trA l) ≤ szL l := fun l => by
  obtain ⟨k, _, e⟩ := trA_drop l
  rw [e]
  exact szL_sub _ _
theorem declOf_sz (seg : List Nd) : (declOf seg).length ≤ seg.length ∧ ∀ d ∈ declOf seg, szL d.val ≤ szL seg := by
  cases seg with
  | nil => exact ⟨Nat.zero_le _, fun d hd => by simp [declOf] at hd⟩
  | cons n r =>
    unfold declOf
    simp only
    have h1 := szL_trA r
    split
    · exact ⟨Nat.zero_le _, fun d hd => by simp at hd⟩
    · rename_i c v hv
      rw [hv] at h1
      split
      · split
        · refine ⟨by simp, fun d hd => ?_⟩
          rw [List.mem_singleton] at hd
          subst hd
          have := val_sz v
          rw [szL] at h1 ⊢
          show szL (valS v).1 ≤ _
          omega
        · exact ⟨Nat.zero_le _, fun d hd => by simp at hd⟩
      · exact ⟨Nat.zero_le _, fun d hd => by simp at hd⟩
theorem declsS_sz : ∀ (m : Nat) (l : List Nd), l.length ≤ m → (declsS l).length ≤ l.length ∧ ∀ d ∈ declsS l, szL d.val ≤ szL l
  | _, [], _ => by
    rw [declsS_nil]
    exact ⟨Nat.zero_le _, fun d hd => by simp at hd⟩
  | 0, n :: r, h => by simp at h
  | m + 1, n :: r, h => by
    have hr : r.length ≤ m := by simpa using h
    have hz : szL r ≤ szL (n :: r) := by rw [szL]; omega
    rw [declsS_cons]
    split
    · obtain ⟨i1, i2⟩ := declsS_sz m r hr
      refine ⟨by rw [List.length_cons]; omega, fun d hd => Nat.le_trans (i2 d hd) hz⟩
    split
    · have h1 := dropW_len skipB r
      have h2 : (r.dropWhile skipB).tail.length ≤ r.length := by rw [List.length_tail]; omega
      obtain ⟨i1, i2⟩ := declsS_sz m (r.dropWhile skipB).tail (by omega)
      refine ⟨by rw [List.length_cons]; omega, fun d hd => ?_⟩
      have := i2 d hd
      have := szL_tail (r.dropWhile skipB)
      have := szL_dw skipB r
      omega
    · have h1 := dropW_len nsemB r
      obtain ⟨i1, i2⟩ := declsS_sz m (r.dropWhile nsemB) (by omega)
      obtain ⟨j1, j2⟩ := declOf_sz (n :: r.takeWhile nsemB)
      have h3 : (r.takeWhile nsemB).length + (r.dropWhile nsemB).length = r.length := by
        rw [← List.length_append, List.takeWhile_append_dropWhile]
      refine ⟨?_, fun d hd => ?_⟩
      · rw [List.length_append, List.length_cons]
        rw [List.length_cons] at j1
        omega
      · rcases List.mem_append.1 hd with hd | hd
        · have := j2 d hd
          have := szL_tw nsemB r
          rw [szL] at *
          omega
        · have := i2 d hd
          have := szL_dw nsemB r
          omega
theorem rulesS_sz : ∀ (m : Nat) (l : List Nd), l.length ≤ m → ∀ x ∈ rulesS l, szL x.pre ≤ szL l ∧ x.decls.length ≤ szL l ∧ ∀ d ∈ x.decls, szL d.val ≤ szL l
  | _, [], _ => by
    rw [rulesS_nil]
    exact fun d hd => by simp at hd
  | 0, n :: r, h => by simp at h
  | m + 1, n :: r, h => by
    have hr : r.length ≤ m := by simpa using h
    have hz : szL r ≤ szL (n :: r) := by rw [szL]; omega
    rw [rulesS_cons]
    split
    · exact fun x hx => by
        obtain ⟨i1, i2, i3⟩ := rulesS_sz m r hr x hx
        exact ⟨by omega, by omega, fun d hd => Nat.le_trans (i3 d hd) hz⟩
    · have hb : szL (bodyOf n r) ≤ szL (n :: r) := by
        unfold bodyOf
        split
        · exact hz
        · exact Nat.le_refl _
      generalize hp : preB (n.tok.kind == 3) = p at *
      have h1 := dropW_len p (bodyOf n r)
      have h2 := body_len n r
      have h3 : ((bodyOf n r).dropWhile p).tail.length ≤ m := by rw [List.length_tail]; omega
      have h4 := szL_dw p (bodyOf n r)
      intro x hx
      rcases List.mem_append.1 hx with hx | hx
      · unfold ruleOf at hx
        rw [hp] at hx
        split at hx
        · rw [List.mem_singleton] at hx
          subst hx
          have h5 := szL_trim ((bodyOf n r).takeWhile p)
          have h6 := szL_tw p (bodyOf n r)
          refine ⟨by show szL (trimS _) ≤ _; omega, ?_⟩
          show (kidsD ((bodyOf n r).dropWhile p)).length ≤ _ ∧ ∀ d ∈ kidsD ((bodyOf n r).dropWhile p), _
          cases hd : (bodyOf n r).dropWhile p with
          | nil => exact ⟨Nat.zero_le _, fun d hd => by simp [kidsD] at hd⟩
          | cons q t =>
            rw [hd] at h4
            unfold kidsD
            simp only
            split
            · obtain ⟨i1, i2⟩ := declsS_sz _ q.kids (Nat.le_refl _)
              have h7 := szL_ge q.kids
              have h8 : szL q.kids + 1 ≤ szL (q :: t) := szL_at (q :: t) 0 (by simp)
              exact ⟨by omega, fun d hd => by have := i2 d hd; omega⟩
            · exact ⟨Nat.zero_le _, fun d hd => by simp at hd⟩
        · simp at hx
      · obtain ⟨i1, i2, i3⟩ := rulesS_sz m _ h3 x hx
        have h5 := szL_tail ((bodyOf n r).dropWhile p)
        exact ⟨by omega, by omega, fun d hd => by have := i3 d hd; omega⟩
theorem shR_len (rs : List RuleD) : (shR rs).length ≤ 500 := by
  unfold shR
  split
  · assumption
  · exact Nat.zero_le _
theorem shR_mem {rs : List RuleD} {x : RuleD} (h : x ∈ shR rs) : x ∈ rs := by
  unfold shR at h
  split at h
  · exact h
  · simp at h
end Go.Proofs.YtfggpenfdfklkaaGreat
