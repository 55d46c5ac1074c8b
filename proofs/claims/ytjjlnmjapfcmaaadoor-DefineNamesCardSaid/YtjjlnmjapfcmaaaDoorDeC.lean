
import Derived.Test.YtjjlnmjapfcmaaaDoorDeB
namespace Go.Proofs.YtjjlnmjapfcmaaaDoor
open Go.RowKit
def okN (n : Nd) : Bool := (symS n.tok).2
def symsR (l : List Nd) : List ByteArray × Bool := if l.all okN = true then (l.map fun n => n.tok.text, decide (0 < l.length)) else ([], false)
theorem symS_ok {t : Tok} (h : (symS t).2 = true) : (symS t).1 = t.text := by
  unfold symS at h ⊢
  split at h
  · rename_i h1; rw [if_pos h1]
  · cases h
def SymsPost (w : World) (r : List ByteArray × Bool) (e : Ending) (w' : World) : Prop := (∃ v', e = .returned (.tuple #[v', .bool r.2]) ∧ OwnT w.heap.size w' v' r.1) ∧ Below w.heap.size w w'
theorem take_map {l : List Nd} {i : Nat} (hi : i < l.length) : (l.take (i + 1)).map (fun n => n.tok.text) = (l.take i).map (fun n => n.tok.text) ++ [(l[i]).tok.text] := by
  rw [List.take_succ_eq_append_getElem hi, List.map_append]
  rfl
set_option maxRecDepth 100000 in
set_option maxHeartbeats 3200000 in
theorem symbols_any {l : List Nd} {v : Value} {w : World} {P : Nat → Prop} (h : RdN w P v l) (hl : szL l ≤ 100000000) :
    Calls Tryd.prog 76 #[v] w (SymsPost w (symsR l)) := by
  obtain ⟨i0, hi, hz0, hz1, hz2⟩ := info_parts info_str
  have hll := szL_ge l
  obtain ⟨a, c, rfl, hlc⟩ := h.shape
  have HH := Lib.hid h
  obtain ⟨N, hN⟩ : ∃ N, l.length = N := ⟨_, rfl⟩
  rw [hN] at hll hlc HH ⊢
  have HN := Lib.hid hN
  clear h hN
  go_enter Tryd.func76, Tryd.ntmps76
  go_wp2
  go_loopw [4, 11] (fun ov iv wr => ∃ (i : Nat) (o0 : Value), o0 = ov ∧ iv = .int .i64 i ∧ i ≤ N ∧ OwnT w.heap.size wr o0 ((l.take i).map fun n => n.tok.text) ∧ (l.take i).all okN = true ∧ Below w.heap.size w wr) (fun _ iv _ => N - (intOf iv).toNat)
  case atStart => exact ⟨0, _, rfl, rfl, Nat.zero_le _, OwnT.nil _ _, rfl, Below.refl _ _⟩
  case round =>
    obtain ⟨i, o0, rfl, rfl, hiN, hown, hall, hB⟩ := hrel
    have hws := hB.size
    have HB := Lib.hid hB
    have HA := Lib.hid hall
    obtain ⟨ba, bc, rfl, _⟩ := row_sl hown
    have hml : ((l.take i).map fun n => n.tok.text).length = i := by rw [List.length_map, List.length_take, HN.out]; omega
    have HOW : Hid (wr.ownsRow w.heap.size 9 1 (.slice ba i bc) i (((l.take i).map fun n => n.tok.text).map Value.string)) := by
      have hh := hown
      unfold OwnT at hh
      rw [hml] at hh
      exact hh
    rw [hml] at ⊢
    have HML := Lib.hid hml
    clear hB hall hown hml
    by_cases hlt : i < N
    · have hr := HH.out.under HB.out (Nat.le_refl _)
      obtain ⟨b, off, c2, hv2, _, _, hbl, g1⟩ := hr.base (by rw [HN.out]; omega)
      rw [HN.out] at hv2
      injection hv2 with e1 _ e3
      subst e1 e3
      obtain ⟨u, hat, hku⟩ := g1 i (by rw [HN.out]; exact hlt)
      have HTM := Lib.hid (take_map (l := l) (i := i) (by rw [HN.out]; exact hlt))
      have HTA : Hid ((l.take (i + 1)).all okN = okN (l[i]'(by rw [HN.out]; exact hlt))) := by
        show _ = _
        rw [List.take_succ_eq_append_getElem (by rw [HN.out]; exact hlt), List.all_append, HA.out]
        simp
      have HTN : Hid (okN (l[i]'(by rw [HN.out]; exact hlt)) = false → l.all okN = false) := fun hq => by
        rw [Bool.eq_false_iff]
        intro hh
        rw [List.all_eq_true.1 hh _ (List.getElem_mem _)] at hq
        cases hq
      generalize l[i]'(by rw [HN.out]; exact hlt) = nd at *
      obtain ⟨t, k⟩ := nd
      simp only [Nd.tok] at hat
      obtain ⟨ua, uc, hus, _⟩ := hku.shape
      subst hus
      obtain ⟨p0, p1, p2, p3, p4, p5, p6⟩ := hat
      have hx0 : (0 : Int) ≤ (i : Int) := by omega
      have hx1 : (i : Int) < (N : Int) := by omega
      clear hku g1 hr
      cases hq : (symS t).2
      · have HR : Hid (symsR l = ([], false)) := if_neg (by rw [HTN.out hq]; decide)
        have HQ := Lib.hid hq
        clear hq
        go_wp2_with (go_at_call 17; (with_reducible refine (symbol_any _ _ _ _ _).mono ?_); rintro e w5 ⟨rfl, hb5⟩; rw [HQ.out])
        refine bodyPost_ret (v := .tuple #[.slice none 0 0, .bool false]) (by simp [results, Tryd.results76, go_sem]) rfl ?_
        rw [HR.out]
        exact ⟨⟨_, rfl, OwnT.nil _ _⟩, below_seq (below_seq HB.out ((Below.refl wr.heap.size wr).alloc (Nat.le_refl _) _)) hb5⟩
      · have HQ := Lib.hid hq
        have HQ1 := Lib.hid (symS_ok hq)
        clear hq
        go_wp2_with (first | (go_at_call 17; (with_reducible refine (symbol_any _ _ _ _ _).mono ?_); rintro e w5 ⟨rfl, hb5⟩; rw [HQ.out, HQ1.out]; have HB5 := Lib.hid (below_seq (below_seq HB.out ((Below.refl wr.heap.size wr).alloc (Nat.le_refl _) (.cells #[.int .i64 t.kind, .string t.text, .int .i64 t.int, .bool t.whole, .bool t.sign, .bool t.id, .slice ua k.length uc] 50))) hb5); have hs5 := HB5.out.size; have hs6 := (below_seq ((Below.refl wr.heap.size wr).alloc (Nat.le_refl _) (.cells #[.int .i64 t.kind, .string t.text, .int .i64 t.int, .bool t.whole, .bool t.sign, .bool t.id, .slice ua k.length uc] 50)) hb5); have HOW5 := Lib.hid ((HOW.out.kept (gb_below hs6 none) (by cases hv : (Value.slice ba i bc).ownBlock with | none => exact .inl rfl | some g => exact .inr (by simp))).alloc (.cells #[.string t.text] 9))) | (at_builtin; refine wpList_append_own _ rfl _ _ 25 rfl w.heap.size 9 i0 (.string ⟨#[]⟩) 1 16 Tryd.underlying25 hi hz0 hz1 hz2 rfl (by decide) _ _ _ rfl HOW5.out ⟨w5.heap.size, 0, none⟩ 1 1 [.string t.text] rfl rfl (cell_one_new _ _ _) (by simp [Value.oneCell']) (by unfold maxLen; omega) (by omega) (by simp; omega) ?_; intro v' w6 ho6 hg6 _))
        have hb6 : Below w.heap.size w w6 := (HB5.out.alloc hs5 (.cells #[.string t.text] 9)).grown hg6 (by simp; omega) (fun q hq => by have := (HOW.out.lt q hq).1; omega)
        go_roundw
        case rel => exact ⟨i + 1, v', rfl, by go_num, by omega, by rw [HTM.out]; exact OwnT.snoc (by rw [HML.out]; exact ho6), by rw [HTA.out]; exact HQ.out, hb6⟩
        case measure => simp [intOf]; omega
    · obtain rfl : i = N := by omega
      have HE : Hid (l.take i = l) := List.take_of_length_le (by rw [HN.out]; omega)
      have HR : Hid (symsR l = (l.map (fun n => n.tok.text), decide (0 < l.length))) := if_pos (by rw [← HE.out]; exact HA.out)
      have HD : Hid (decide (0 < l.length) = decide (0 < i)) := by rw [HN.out]; exact rfl
      have HOX : Hid (OwnT w.heap.size wr (.slice ba i bc) (l.map fun n => n.tok.text)) := by
        have hh := HOW.out
        rw [HE.out] at hh
        show OwnT _ _ _ _
        unfold OwnT
        rw [List.length_map, HN.out]
        exact hh
      by_cases h0 : 0 < i
      · have h0I : (0 : Int) < (i : Int) := by omega
        go_wp2
        refine bodyPost_ret (v := .tuple #[.slice ba i bc, .bool true]) (by simp [results, Tryd.results76, go_sem]) rfl ?_
        rw [HR.out]
        exact ⟨⟨_, by rw [HD.out, decide_eq_true h0], HOX.out⟩, HB.out⟩
      · have h0I : ¬ (0 : Int) < (i : Int) := by omega
        have h0d : decide ((0 : Int) < (i : Int)) = false := decide_eq_false h0I
        go_wp2
        refine bodyPost_ret (v := .tuple #[.slice ba i bc, .bool false]) (by simp [results, Tryd.results76, go_sem]) rfl ?_
        rw [HR.out]
        exact ⟨⟨_, by rw [HD.out, decide_eq_false h0], HOX.out⟩, HB.out⟩
theorem pln_take {l : List Nd} {i : Nat} (hi : i < l.length) : plnS (l.take (i + 1)) = plnS (l.take i) ++ (if isWh l[i] = true then [] else [l[i]]) := by
  unfold plnS
  rw [List.take_succ_eq_append_getElem hi, List.filter_append]
  congr 1
  cases hq : isWh l[i]
  · simp [hq]
  · simp [hq]
set_option maxRecDepth 100000 in
set_option maxHeartbeats 3200000 in
theorem ww_any {l : List Nd} {v : Value} {w : World} {P : Nat → Prop} (h : RdN w P v l) (hl : szL l ≤ 100000000) :
    Calls Tryd.prog 28 #[v] w (CopyPost w P (plnS l)) := by
  obtain ⟨i0, hi, hz0, hz1, hz2⟩ := info_parts info_node
  have hll := szL_ge l
  obtain ⟨a, c, rfl, hlc⟩ := h.shape
  have HH := Lib.hid (h.weak (Q := fun b => P b ∧ b < w.heap.size) fun b hl hb => ⟨hb, hl⟩)
  obtain ⟨N, hN⟩ : ∃ N, l.length = N := ⟨_, rfl⟩
  rw [hN] at hll hlc HH ⊢
  have HN := Lib.hid hN
  clear h hN
  go_enter Tryd.func28, Tryd.ntmps28
  go_wp2
  go_loopw [3, 8] (fun ov iv wr => ∃ (i : Nat) (o0 : Value), o0 = ov ∧ iv = .int .i64 i ∧ i ≤ N ∧ RowN (fun b => P b ∧ b < w.heap.size) w.heap.size wr o0 (plnS (l.take i)) ∧ Below w.heap.size w wr) (fun _ iv _ => N - (intOf iv).toNat)
  case atStart => exact ⟨0, _, rfl, rfl, Nat.zero_le _, RowN.nil _ _ _, Below.refl _ _⟩
  case round =>
    obtain ⟨i, o0, rfl, rfl, hiN, hrow, hB⟩ := hrel
    have hws := hB.size
    have HB := Lib.hid hB
    obtain ⟨oa, oc, rfl⟩ := hrow.sl
    have hml : (plnS (l.take i)).length ≤ i := by
      have := List.length_filter_le (fun n => !isWh n) (l.take i)
      rw [List.length_take] at this
      unfold plnS
      omega
    obtain ⟨m, hm⟩ : ∃ m, (plnS (l.take i)).length = m := ⟨_, rfl⟩
    have HROW : Hid (RowN (fun b => P b ∧ b < w.heap.size) w.heap.size wr (.slice oa m oc) (plnS (l.take i))) := by
      have hh := hrow
      rw [hm] at hh
      exact hh
    rw [hm] at hml ⊢
    have HM := Lib.hid hm
    clear hB hrow hm
    by_cases hlt : i < N
    · have hr := HH.out.under HB.out (Nat.le_refl _)
      obtain ⟨b, off, c2, hv2, _, _, hbl, g1⟩ := hr.base (by rw [HN.out]; omega)
      rw [HN.out] at hv2
      injection hv2 with e1 _ e3
      subst e1 e3
      obtain ⟨u, hat, hku⟩ := g1 i (by rw [HN.out]; exact hlt)
      have HPL := Lib.hid (pln_take (l := l) (i := i) (by rw [HN.out]; exact hlt))
      generalize l[i]'(by rw [HN.out]; exact hlt) = nd at *
      obtain ⟨t, k⟩ := nd
      simp only [Nd.tok, Nd.kids] at hat hku
      obtain ⟨ua, uc, hus, _⟩ := hku.shape
      subst hus
      have HKU := Lib.hid hku
      obtain ⟨p0, p1, p2, p3, p4, p5, p6⟩ := hat
      have hx0 : (0 : Int) ≤ (i : Int) := by omega
      have hx1 : (i : Int) < (N : Int) := by omega
      clear hku g1 hr
      have HAl := Lib.hid (show Below wr.heap.size wr (wr.alloc (.cells #[.int .i64 t.kind, .string t.text, .int .i64 t.int, .bool t.whole, .bool t.sign, .bool t.id, .slice ua k.length uc] 50)) from (Below.refl _ _).alloc (Nat.le_refl _) _)
      by_cases hwh : (t.kind == 13) = true
      · have hwb : (t.kind != 13) = false := by rw [bne, hwh]; rfl
        have HE : Hid (plnS (l.take (i + 1)) = plnS (l.take i)) := by
          show _ = _
          rw [HPL.out, wh_iff, if_pos hwh, List.append_nil]
        go_wp2
        go_roundw
        case rel => exact ⟨i + 1, _, rfl, by go_num, by omega, by rw [HE.out]; exact HROW.out.below HAl.out, below_seq HB.out HAl.out⟩
        case measure => simp [intOf]; omega
      · have hwh : (t.kind == 13) = false := by simpa using hwh
        have hwb : (t.kind != 13) = true := by rw [bne, hwh]; rfl
        have HE : Hid (plnS (l.take (i + 1)) = plnS (l.take i) ++ [.mk t k]) := by
          show _ = _
          rw [HPL.out, wh_iff, if_neg (by rw [hwh]; decide)]
        have HAm := Lib.hid (below_seq HAl.out ((Below.refl (wr.alloc (.cells #[.int .i64 t.kind, .string t.text, .int .i64 t.int, .bool t.whole, .bool t.sign, .bool t.id, .slice ua k.length uc] 50)).heap.size _).alloc (Nat.le_refl _) (.cells #[.int .i64 t.kind, .string t.text, .int .i64 t.int, .bool t.whole, .bool t.sign, .bool t.id, .slice ua k.length uc] 50)))
        have HBZ := Lib.hid (below_seq HB.out HAm.out)
        have hbz := HBZ.out.size
        obtain ⟨fs, hf1, hf2⟩ := HROW.out.below HAm.out
        have hfl : fs.length = m := by rw [hf2.len, HM.out]
        have HF1 := Lib.hid hf1
        have HF2 := Lib.hid hf2
        have HFL := Lib.hid hfl
        unfold RowF at hf1
        rw [hfl] at hf1
        have hob := fun q hq => HROW.out.block q hq
        have HU6 := Lib.hid ((HKU.out.under HAm.out (Nat.le_refl _)).weak (Q := fun b => (P b ∧ b < w.heap.size) ∧ (Value.slice oa m oc).ownBlock ≠ some b) fun q _ hq => ⟨hq, fun e => by have := (hob q e).1; omega⟩)
        have HNEW := Lib.hid (cell_seven_new (wr.alloc (.cells #[.int .i64 t.kind, .string t.text, .int .i64 t.int, .bool t.whole, .bool t.sign, .bool t.id, .slice ua k.length uc] 50)) t (.slice ua k.length uc) 50)
        rw [show (wr.alloc (.cells #[.int .i64 t.kind, .string t.text, .int .i64 t.int, .bool t.whole, .bool t.sign, .bool t.id, .slice ua k.length uc] 50)).heap.size = wr.heap.size + 1 by simp] at HNEW
        clear hf2 hfl
        go_wp2_with (at_builtin; (refine wpList_append_lies _ rfl _ _ 34 rfl w.heap.size 50 i0 (.agg #[.int .i64 0, .string ⟨#[]⟩, .int .i64 0, .bool false, .bool false, .bool false, .slice none 0 0]) 7 64 Tryd.underlying34 hi hz0 hz1 hz2 rfl (by decide) (.slice oa m oc) m (fs.flatMap ncells) rfl hf1 ⟨_, 0, none⟩ 1 1 (ncells (t, .slice ua k.length uc)) rfl rfl HNEW.out (ncells_one _ rfl) (by decide) (by unfold maxLen; omega) (by omega) (by simpa using hbz) _ rfl ?_); intro g cap w7 hown7 hgrow7 hat7 hlt7)
        have hP := RowN.push HF1.out HF2.out HFL.out hown7 hgrow7 hat7 HU6.out
        have hB8 := HBZ.out.grown hgrow7 hbz (fun q hq => (hob q hq).1)
        go_roundw
        case rel => exact ⟨i + 1, _, rfl, by go_num, by omega, by rw [HE.out]; exact hP, hB8⟩
        case measure => simp [intOf]; omega
    · obtain rfl : i = N := by omega
      have HE : Hid (l.take i = l) := List.take_of_length_le (by rw [HN.out]; omega)
      go_wp2
      go_ret
      refine ⟨⟨_, rfl, ?_⟩, HB.out⟩
      have hh := HROW.out.rd
      rw [HE.out] at hh
      exact hh.weak fun _ _ hb => hb.elim (fun h => .inl h.1) .inr
end Go.Proofs.YtjjlnmjapfcmaaaDoor
