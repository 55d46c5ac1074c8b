
import Derived.Test.YtkpaokcgjeplpaaDoorDeB
import Derived.Deep.MidRow
import Derived.Laws.Rows
import Derived.Test.YtkpaokcgjeplpaaDoorDeC
import Derived.Test.YtkpaokcgjeplpaaDoorDeE
import Derived.Deep.Onto
import Derived.Test.YtkpaokcgjeplpaaDoorSyQ0
namespace Go.Proofs.YtkpaokcgjeplpaaDoor
open Go.RowKit
/-! prop: its tables, and what reads a word. -/
abbrev wdL : List (ByteArray × Int) := [(⟨#[105, 110, 104, 101, 114, 105, 116]⟩, 1), (⟨#[105, 110, 105, 116, 105, 97, 108]⟩, 2), (⟨#[117, 110, 115, 101, 116]⟩, 3)]
abbrev mkL : List (ByteArray × Int) := [(⟨#[111, 112, 101, 110, 45, 113, 117, 111, 116, 101]⟩, 5), (⟨#[99, 108, 111, 115, 101, 45, 113, 117, 111, 116, 101]⟩, 6), (⟨#[110, 111, 45, 111, 112, 101, 110, 45, 113, 117, 111, 116, 101]⟩, 7), (⟨#[110, 111, 45, 99, 108, 111, 115, 101, 45, 113, 117, 111, 116, 101]⟩, 8)]
def wdC : List Value := wdL.flatMap fun x => [.string x.1, .int .i64 x.2]
def mkC : List Value := mkL.flatMap fun x => [.string x.1, .int .i64 x.2]
/-- The tables lie in memory as the program's text lays them. -/
structure TabP (w : World) : Prop where
  nm : TabN w
  mks : w.rangeAt 1 0 mkC
  wd : w.rangeAt 0 0 wdC
theorem TabP.below {w w' : World} (h : TabP w) (hb : Below w.heap.size w w') : TabP w' :=
  ⟨h.nm.below hb, rangeAt_below h.mks (by decide) hb, rangeAt_below h.wd (by decide) hb⟩
abbrev pnoneB : ByteArray := ⟨#[110, 111, 110, 101]⟩
abbrev pnormalB : ByteArray := ⟨#[110, 111, 114, 109, 97, 108]⟩
abbrev pautoB : ByteArray := ⟨#[97, 117, 116, 111]⟩
abbrev pdecB : ByteArray := ⟨#[100, 101, 99, 105, 109, 97, 108]⟩
/-- How a word in small letters says it. -/
def wideS (s : ByteArray) : Int := kindF s wdL
def markS (s : ByteArray) : Int := kindF s mkL
def singleS (l : List Nd) : ByteArray × Bool := match l with
  | [n] => if (n.tok.kind == 1) = true then (lowS n.tok.text, true) else (⟨#[]⟩, false)
  | _ => (⟨#[]⟩, false)
def aloneW (l : List Nd) : ByteArray := (singleS l).1
theorem singleS_no {l : List Nd} (h : l.length ≠ 1) : singleS l = (⟨#[]⟩, false) := by
  unfold singleS
  split
  · exact absurd rfl h
  · rfl
theorem size_nb : (Tryd.prog.info? 122).map (·.size) = some 6 := by kernel_rfl
theorem size_nb4 : (Tryd.prog.info? 123).map (·.size) = some 8 := by kernel_rfl
theorem wd_index (w : World) : ∀ (i : Nat) (hi : i < wdL.length), (Instr.index 122 (.agg wdC.toArray) (.int .i64 i)).run Tryd.prog w = .ok (.agg #[.string (wdL[i]).1, .int .i64 (wdL[i]).2]) w
  | 0, _ => by kernel_rfl
  | 1, _ => by kernel_rfl
  | 2, _ => by kernel_rfl
theorem mk_index (w : World) : ∀ (i : Nat) (hi : i < mkL.length), (Instr.index 123 (.agg mkC.toArray) (.int .i64 i)).run Tryd.prog w = .ok (.agg #[.string (mkL[i]).1, .int .i64 (mkL[i]).2]) w
  | 0, _ => by kernel_rfl
  | 1, _ => by kernel_rfl
  | 2, _ => by kernel_rfl
  | 3, _ => by kernel_rfl
set_option maxRecDepth 100000 in
set_option maxHeartbeats 3200000 in
theorem wideWord_any (s : ByteArray) (w : World) (ht : TabP w) :
    Calls Tryd.prog 62 #[.string s] w fun e w' => e = .returned (.int .i64 (wideS s)) ∧ Below w.heap.size w w' := by
  have HT := Lib.hid ht.wd
  go_enter Tryd.func62, Tryd.ntmps62
  go_wp2_with (refine wpList_load_mid (by rfl) 122 (.global 0) (by rfl) 0 0 (by rfl) wdC _ HT.out Tryd.underlying122 (by rfl) size_nb ?_)
  generalize hNC : (Value.agg wdC.toArray) = NC
  have HIX : Hid (∀ (w : World) (i : Nat) (hi : i < wdL.length), (Instr.index 122 NC (.int .i64 i)).run Tryd.prog w = .ok (.agg #[.string (wdL[i]).1, .int .i64 (wdL[i]).2]) w) := by
    intro w i hi
    rw [← hNC]
    exact wd_index w i hi
  clear hNC
  go_loopw [6] (fun iv wr => ∃ i : Nat, iv = .int .i64 i ∧ i ≤ 3 ∧ kindF s (wdL.drop i) = wideS s ∧ Below w.heap.size w wr) (fun iv _ => 3 - (intOf iv).toNat)
  case atStart => exact ⟨0, rfl, by omega, rfl, Below.refl _ _⟩
  case round =>
    obtain ⟨i, rfl, hi, hk, hB⟩ := hrel
    have HK := Lib.hid hk
    have HB := Lib.hid hB
    clear hk hB
    by_cases hlt : i < 3
    · have hltI : (i : Int) < 3 := by omega
      have hi0 : (0 : Int) ≤ (i : Int) := by omega
      have hix := HIX.out wr i hlt
      have HD : Hid (kindF s (wdL.drop i) = if ((wdL[i]'hlt).1.toList == s.toList) = true then (wdL[i]'hlt).2 else kindF s (wdL.drop (i + 1))) := by
        show _ = _
        rw [List.drop_eq_getElem_cons (show i < wdL.length from hlt), kindF]
      generalize (wdL[i]'hlt) = x at *
      have HA := Lib.hid (HB.out.alloc HB.out.size (.cells #[.string x.1, .int .i64 x.2] 121))
      cases hq : (x.1.toList == s.toList)
      · have HN := Lib.hid (show kindF s (wdL.drop (i + 1)) = wideS s by rw [← HK.out, HD.out, if_neg (by rw [hq]; decide)])
        go_wp2
        go_roundw
        case rel => exact ⟨i + 1, by go_num, by omega, HN.out, HA.out⟩
        case measure => simp [intOf]; omega
      · have HN := Lib.hid (show x.2 = wideS s by rw [← HK.out, HD.out, if_pos hq])
        go_wp2
        go_ret
        exact ⟨by rw [← HN.out]; rfl, HA.out⟩
    · obtain rfl : i = 3 := by omega
      have HN := Lib.hid (show (0 : Int) = wideS s by rw [← HK.out]; rfl)
      go_wp2
      go_ret
      exact ⟨by rw [← HN.out]; rfl, HB.out⟩
theorem res_box {P : Program} {fn : Func} {p t2 : Tmp} {ty : TypeId} (h : fn.results = #[.cell p ty, .tmp t2]) (tmps : Array Value) (w : World) (g : Nat) (t : TypeId) (cs : Array Value) (d : TypeDesc) (x : Value)
    (hp : tmps.getD p undef = .pointer (some ⟨g, 0, none⟩)) (hx : tmps.getD t2 undef = x) (hg : CB t w g cs)
    (hu : P.underlying ty = some d) (hd : d.isRow = true) (hi : (P.info? ty).map (·.size) = some cs.size) :
    (results fn tmps).run P w = .ok (.tuple #[.agg cs, x]) w := by
  have hp' : tmps[p]?.getD undef = .pointer (some ⟨g, 0, none⟩) := by simpa using hp
  have hx' : tmps[t2]?.getD undef = x := by simpa using hx
  have hl := run_loadVar_row (P := P) w g t ty cs (0, 0) d hg hu (by cases d <;> simp_all [TypeDesc.isRow]) hi
  simp [results, h, hp', hx', asAddr, hl]
abbrev put4 (W : World) (B : Nat) (x y z u : Value) : World := (((W.setCell ⟨B, 0, none⟩ x).setCell ⟨B, 1, none⟩ y).setCell ⟨B, 2, none⟩ z).setCell ⟨B, 3, none⟩ u
theorem CB.put4 {T : TypeId} {W : World} {B : Nat} {a b c d : Value} (h : CB T W B #[a, b, c, d]) (x y z u : Value) : CB T (put4 W B x y z u) B #[x, y, z, u] :=
  (((h.set 0 x).set 1 y).set 2 z).set 3 u
theorem put4_below {w W : World} {B : Nat} (hb : Below w.heap.size w W) (hB : w.heap.size ≤ B) (x y z u : Value) : Below w.heap.size w (put4 W B x y z u) :=
  (((hb.setCell (p := ⟨B, 0, none⟩) hB x).setCell (p := ⟨B, 1, none⟩) hB y).setCell (p := ⟨B, 2, none⟩) hB z).setCell (p := ⟨B, 3, none⟩) hB u
theorem item_size : (Tryd.prog.info? 45).map (·.size) = some 4 := by kernel_rfl
/-- The item of a word: its kind, if there is one. -/
def quoteP (s : ByteArray) : Value := .tuple #[.agg #[.int .i64 (markS s), .string ⟨#[]⟩, .string ⟨#[]⟩, .string ⟨#[]⟩], .bool (markS s != 0)]
theorem mk_pos : ∀ x ∈ mkL, x.2 ≠ 0 := by decide
theorem quoteP_yes {s : ByteArray} {k : Int} (h : k = markS s) (hk : k ≠ 0) : Value.tuple #[.agg #[.int .i64 k, .string ⟨#[]⟩, .string ⟨#[]⟩, .string ⟨#[]⟩], .bool true] = quoteP s := by
  unfold quoteP
  rw [← h, show (k != 0) = true by rw [bne_iff_ne]; exact hk]
theorem quoteP_no {s : ByteArray} (h : (0 : Int) = markS s) : Value.tuple #[.agg #[.int .i64 0, .string ⟨#[]⟩, .string ⟨#[]⟩, .string ⟨#[]⟩], .bool false] = quoteP s := by
  unfold quoteP
  rw [← h]
  rfl
set_option maxRecDepth 100000 in
set_option maxHeartbeats 3200000 in
theorem quote_any (s : ByteArray) (w : World) (ht : TabP w) :
    Calls Tryd.prog 64 #[.string s] w fun e w' => e = .returned (quoteP s) ∧ Below w.heap.size w w' := by
  have HT := Lib.hid (rangeAt_below ht.mks (by decide) ((Below.refl w.heap.size w).alloc (Nat.le_refl _) (.cells #[.int .i64 0, .string ⟨#[]⟩, .string ⟨#[]⟩, .string ⟨#[]⟩] 45)))
  have HC0 := CB.new (T := 45) w #[.int .i64 0, .string ⟨#[]⟩, .string ⟨#[]⟩, .string ⟨#[]⟩]
  have HB0 := (Below.refl w.heap.size w).alloc (Nat.le_refl _) (.cells #[.int .i64 0, .string ⟨#[]⟩, .string ⟨#[]⟩, .string ⟨#[]⟩] 45)
  go_enter Tryd.func64, Tryd.ntmps64
  go_wp2_with (refine wpList_load_mid (by rfl) 123 (.global 1) (by rfl) 1 0 (by rfl) mkC _ HT.out Tryd.underlying123 (by rfl) size_nb4 ?_)
  generalize hNC : (Value.agg mkC.toArray) = NC
  have HIX : Hid (∀ (w : World) (i : Nat) (hi : i < mkL.length), (Instr.index 123 NC (.int .i64 i)).run Tryd.prog w = .ok (.agg #[.string (mkL[i]).1, .int .i64 (mkL[i]).2]) w) := by
    intro w i hi
    rw [← hNC]
    exact mk_index w i hi
  clear hNC
  go_loopw [7] (fun iv wr => ∃ i : Nat, iv = .int .i64 i ∧ i ≤ 4 ∧ kindF s (mkL.drop i) = markS s ∧ CB 45 wr w.heap.size #[.int .i64 0, .string ⟨#[]⟩, .string ⟨#[]⟩, .string ⟨#[]⟩] ∧ Below w.heap.size w wr) (fun iv _ => 4 - (intOf iv).toNat)
  case atStart => exact ⟨0, rfl, by omega, rfl, HC0, HB0⟩
  case round =>
    obtain ⟨i, rfl, hi, hk, hC, hB⟩ := hrel
    have hlt0 := hC.lt
    have HC := Lib.hid hC
    clear hC
    have HK := Lib.hid hk
    have HB := Lib.hid hB
    clear hk hB
    by_cases hlt : i < 4
    · have hltI : (i : Int) < 4 := by omega
      have hi0 : (0 : Int) ≤ (i : Int) := by omega
      have hix := HIX.out wr i hlt
      have HD : Hid (kindF s (mkL.drop i) = if ((mkL[i]'hlt).1.toList == s.toList) = true then (mkL[i]'hlt).2 else kindF s (mkL.drop (i + 1))) := by
        show _ = _
        rw [List.drop_eq_getElem_cons (show i < mkL.length from hlt), kindF]
      have HZ := Lib.hid (mk_pos _ (List.getElem_mem (show i < mkL.length from hlt)))
      generalize (mkL[i]'hlt) = x at *
      have HA := Lib.hid (HB.out.alloc HB.out.size (.cells #[.string x.1, .int .i64 x.2] 121))
      cases hq : (x.1.toList == s.toList)
      · have HN := Lib.hid (show kindF s (mkL.drop (i + 1)) = markS s by rw [← HK.out, HD.out, if_neg (by rw [hq]; decide)])
        go_wp2
        go_roundw
        case rel => exact ⟨i + 1, by go_num, by omega, HN.out, HC.out.alloc _, HA.out⟩
        case measure => simp [intOf]; omega
      · have HN := Lib.hid (show x.2 = markS s by rw [← HK.out, HD.out, if_pos hq])
        have c0 : wr.cell? ⟨w.heap.size, 0, none⟩ = some (.int .i64 0) := HC.out.cell 0
        have c1 : wr.cell? ⟨w.heap.size, 1, none⟩ = some (.string ⟨#[]⟩) := HC.out.cell 1
        have c2 : wr.cell? ⟨w.heap.size, 2, none⟩ = some (.string ⟨#[]⟩) := HC.out.cell 2
        have c3 : wr.cell? ⟨w.heap.size, 3, none⟩ = some (.string ⟨#[]⟩) := HC.out.cell 3
        have f0 : wr.frozen? ⟨w.heap.size, 0, none⟩ = false := HC.out.frozen 0
        have f1 : wr.frozen? ⟨w.heap.size, 1, none⟩ = false := HC.out.frozen 1
        have f2 : wr.frozen? ⟨w.heap.size, 2, none⟩ = false := HC.out.frozen 2
        have f3 : wr.frozen? ⟨w.heap.size, 3, none⟩ = false := HC.out.frozen 3
        go_wp2
        refine bodyPost_ret (v := quoteP s) (by rw [← quoteP_yes HN.out HZ.out]; exact res_box (by rfl) _ _ w.heap.size _ _ _ _ (by rfl) (by rfl) ((HC.out.put4 _ _ _ _).alloc _) Tryd.underlying45 (by rfl) item_size) rfl ⟨rfl, ?_⟩
        exact (put4_below HB.out (Nat.le_refl _) _ _ _ _).alloc (by simp; omega) _
    · obtain rfl : i = 4 := by omega
      have HN := Lib.hid (show (0 : Int) = markS s by rw [← HK.out]; rfl)
      have c0 : wr.cell? ⟨w.heap.size, 0, none⟩ = some (.int .i64 0) := HC.out.cell 0
      have c1 : wr.cell? ⟨w.heap.size, 1, none⟩ = some (.string ⟨#[]⟩) := HC.out.cell 1
      have c2 : wr.cell? ⟨w.heap.size, 2, none⟩ = some (.string ⟨#[]⟩) := HC.out.cell 2
      have c3 : wr.cell? ⟨w.heap.size, 3, none⟩ = some (.string ⟨#[]⟩) := HC.out.cell 3
      have f0 : wr.frozen? ⟨w.heap.size, 0, none⟩ = false := HC.out.frozen 0
      have f1 : wr.frozen? ⟨w.heap.size, 1, none⟩ = false := HC.out.frozen 1
      have f2 : wr.frozen? ⟨w.heap.size, 2, none⟩ = false := HC.out.frozen 2
      have f3 : wr.frozen? ⟨w.heap.size, 3, none⟩ = false := HC.out.frozen 3
      go_wp2
      refine bodyPost_ret (v := quoteP s) (by rw [← quoteP_no HN.out]; exact res_box (by rfl) _ _ w.heap.size _ _ _ _ (by rfl) (by rfl) (HC.out.put4 _ _ _ _) Tryd.underlying45 (by rfl) item_size) rfl ⟨rfl, ?_⟩
      exact put4_below HB.out (Nat.le_refl _) _ _ _ _
end Go.Proofs.YtkpaokcgjeplpaaDoor
namespace Go.Proofs.YtkpaokcgjeplpaaDoor
open Go.RowKit
/-! prop: withoutWhite, small, single, alone, wide. -/
set_option maxRecDepth 100000 in
set_option maxHeartbeats 3200000 in
theorem pww_any {l : List Nd} {v : Value} {w : World} {P : Nat → Prop} (h : RdN w P v l) (hl : szL l ≤ 100000000) :
    Calls Tryd.prog 48 #[v] w (CopyPost w P (plnS l)) := by
  obtain ⟨i0, hi, hz0, hz1, hz2⟩ := info_parts info_node
  have hll := szL_ge l
  obtain ⟨a, c, rfl, hlc⟩ := h.shape
  have HH := Lib.hid (h.weak (Q := fun b => P b ∧ b < w.heap.size) fun b hl hb => ⟨hb, hl⟩)
  obtain ⟨N, hN⟩ : ∃ N, l.length = N := ⟨_, rfl⟩
  rw [hN] at hll hlc HH ⊢
  have HN := Lib.hid hN
  clear h hN
  go_enter Tryd.func48, Tryd.ntmps48
  go_wp2
  go_loopw [3, 8] (fun ov iv wr => ∃ (i : Nat) (o0 : Value), o0 = ov ∧ iv = .int .i64 i ∧ i ≤ N ∧ RowN (fun b => P b ∧ b < w.heap.size) w.heap.size wr o0 (plnS (l.take i)) ∧ Below w.heap.size w wr) (fun _ iv _ => N - (intOf iv).toNat)
  case atStart => exact ⟨0, _, rfl, rfl, Nat.zero_le _, RowN.nil _ _ _, Below.refl _ _⟩
  case round =>
    obtain ⟨i, o0, rfl, rfl, hiN, hrow, hB⟩ := hrel
    have hws := hB.size
    have HB := Lib.hid hB
    obtain ⟨oa, oc, rfl⟩ := hrow.sl
    have hml : (plnS (l.take i)).length ≤ i := by
      have := List.length_filter_le (fun n => !isWh n) (l.take i)
      rw [List.length_take] at this
      unfold plnS
      omega
    obtain ⟨m, hm⟩ : ∃ m, (plnS (l.take i)).length = m := ⟨_, rfl⟩
    have HROW : Hid (RowN (fun b => P b ∧ b < w.heap.size) w.heap.size wr (.slice oa m oc) (plnS (l.take i))) := by
      have hh := hrow
      rw [hm] at hh
      exact hh
    rw [hm] at hml ⊢
    have HM := Lib.hid hm
    clear hB hrow hm
    by_cases hlt : i < N
    · have hr := HH.out.under HB.out (Nat.le_refl _)
      obtain ⟨b, off, c2, hv2, _, _, hbl, g1⟩ := hr.base (by rw [HN.out]; omega)
      rw [HN.out] at hv2
      injection hv2 with e1 _ e3
      subst e1 e3
      obtain ⟨u, hat, hku⟩ := g1 i (by rw [HN.out]; exact hlt)
      have HPL := Lib.hid (pln_take (l := l) (i := i) (by rw [HN.out]; exact hlt))
      generalize l[i]'(by rw [HN.out]; exact hlt) = nd at *
      obtain ⟨t, k⟩ := nd
      simp only [Nd.tok, Nd.kids] at hat hku
      obtain ⟨ua, uc, hus, _⟩ := hku.shape
      subst hus
      have HKU := Lib.hid hku
      obtain ⟨p0, p1, p2, p3, p4, p5, p6⟩ := hat
      have hx0 : (0 : Int) ≤ (i : Int) := by omega
      have hx1 : (i : Int) < (N : Int) := by omega
      clear hku g1 hr
      have HAl := Lib.hid (show Below wr.heap.size wr (wr.alloc (.cells #[.int .i64 t.kind, .string t.text, .int .i64 t.int, .bool t.whole, .bool t.sign, .bool t.id, .slice ua k.length uc] 86)) from (Below.refl _ _).alloc (Nat.le_refl _) _)
      by_cases hwh : (t.kind == 13) = true
      · have hwb : (t.kind != 13) = false := by rw [bne, hwh]; rfl
        have HE : Hid (plnS (l.take (i + 1)) = plnS (l.take i)) := by
          show _ = _
          rw [HPL.out, wh_iff, if_pos hwh, List.append_nil]
        go_wp2
        go_roundw
        case rel => exact ⟨i + 1, _, rfl, by go_num, by omega, by rw [HE.out]; exact HROW.out.below HAl.out, below_seq HB.out HAl.out⟩
        case measure => simp [intOf]; omega
      · have hwh : (t.kind == 13) = false := by simpa using hwh
        have hwb : (t.kind != 13) = true := by rw [bne, hwh]; rfl
        have HE : Hid (plnS (l.take (i + 1)) = plnS (l.take i) ++ [.mk t k]) := by
          show _ = _
          rw [HPL.out, wh_iff, if_neg (by rw [hwh]; decide)]
        have HAm := Lib.hid (below_seq HAl.out ((Below.refl (wr.alloc (.cells #[.int .i64 t.kind, .string t.text, .int .i64 t.int, .bool t.whole, .bool t.sign, .bool t.id, .slice ua k.length uc] 86)).heap.size _).alloc (Nat.le_refl _) (.cells #[.int .i64 t.kind, .string t.text, .int .i64 t.int, .bool t.whole, .bool t.sign, .bool t.id, .slice ua k.length uc] 86)))
        have HBZ := Lib.hid (below_seq HB.out HAm.out)
        have hbz := HBZ.out.size
        obtain ⟨fs, hf1, hf2⟩ := HROW.out.below HAm.out
        have hfl : fs.length = m := by rw [hf2.len, HM.out]
        have HF1 := Lib.hid hf1
        have HF2 := Lib.hid hf2
        have HFL := Lib.hid hfl
        unfold RowF at hf1
        rw [hfl] at hf1
        have hob := fun q hq => HROW.out.block q hq
        have HU6 := Lib.hid ((HKU.out.under HAm.out (Nat.le_refl _)).weak (Q := fun b => (P b ∧ b < w.heap.size) ∧ (Value.slice oa m oc).ownBlock ≠ some b) fun q _ hq => ⟨hq, fun e => by have := (hob q e).1; omega⟩)
        have HNEW := Lib.hid (cell_seven_new (wr.alloc (.cells #[.int .i64 t.kind, .string t.text, .int .i64 t.int, .bool t.whole, .bool t.sign, .bool t.id, .slice ua k.length uc] 86)) t (.slice ua k.length uc) 86)
        rw [show (wr.alloc (.cells #[.int .i64 t.kind, .string t.text, .int .i64 t.int, .bool t.whole, .bool t.sign, .bool t.id, .slice ua k.length uc] 86)).heap.size = wr.heap.size + 1 by simp] at HNEW
        clear hf2 hfl
        go_wp2_with (at_builtin; (refine wpList_append_lies _ rfl _ _ 66 rfl w.heap.size 86 i0 (.agg #[.int .i64 0, .string ⟨#[]⟩, .int .i64 0, .bool false, .bool false, .bool false, .slice none 0 0]) 7 64 Tryd.underlying66 hi hz0 hz1 hz2 rfl (by decide) (.slice oa m oc) m (fs.flatMap ncells) rfl hf1 ⟨_, 0, none⟩ 1 1 (ncells (t, .slice ua k.length uc)) rfl rfl HNEW.out (ncells_one _ rfl) (by decide) (by unfold maxLen; omega) (by omega) (by simpa using hbz) _ rfl ?_); intro g cap w7 hown7 hgrow7 hat7 hlt7)
        have hP := RowN.push HF1.out HF2.out HFL.out hown7 hgrow7 hat7 HU6.out
        have hB8 := HBZ.out.grown hgrow7 hbz (fun q hq => (hob q hq).1)
        go_roundw
        case rel => exact ⟨i + 1, _, rfl, by go_num, by omega, by rw [HE.out]; exact hP, hB8⟩
        case measure => simp [intOf]; omega
    · obtain rfl : i = N := by omega
      have HE : Hid (l.take i = l) := List.take_of_length_le (by rw [HN.out]; omega)
      go_wp2
      go_ret
      refine ⟨⟨_, rfl, ?_⟩, HB.out⟩
      have hh := HROW.out.rd
      rw [HE.out] at hh
      exact hh.weak fun _ _ hb => hb.elim (fun h => .inl h.1) .inr
set_option maxRecDepth 100000 in
set_option maxHeartbeats 1600000 in
theorem small_any (t : Tok) (a : Option Addr) (n c : Nat) (w : World) (hx : t.text.size ≤ 1000000000) :
    Calls Tryd.prog 63 #[nval t (.slice a n c)] w fun e w' => e = .returned (.string (lowS t.text)) ∧ Below w.heap.size w w' := by
  have hb := box_bel w t (.slice a n c)
  go_enter Tryd.func63, Tryd.ntmps63
  go_wp2_with (go_at_call 83; (with_reducible refine (lower_any _ _ hx).mono ?_); rintro e w1 ⟨rfl, hb1⟩)
  go_ret
  exact ⟨rfl, below_seq hb hb1⟩
set_option maxRecDepth 100000 in
set_option maxHeartbeats 3200000 in
theorem single_any {l : List Nd} {v : Value} {w : World} {P : Nat → Prop} (h : RdN w P v l) (hl : szL l ≤ 100000000) (hx : TX l) :
    Calls Tryd.prog 50 #[v] w fun e w' => e = .returned (.tuple #[.string (singleS l).1, .bool (singleS l).2]) ∧ Below w.heap.size w w' := by
  have hll := szL_ge l
  have HN0 := Lib.hid (fun (h : l.length ≠ 1) => singleS_no h)
  by_cases hlen : l.length = 1
  · obtain ⟨n, rfl⟩ := List.length_eq_one_iff.1 hlen
    have htx := hx n (by simp)
    obtain ⟨b, off, c2, u, rfl, hle2, _, hbl, hat, hku⟩ := h.at 0 (by simp)
    obtain ⟨tk, k⟩ := n
    simp only [List.getElem_cons_zero, Nd.tok, Nd.kids] at hat hku
    simp only [Nd.tok] at htx
    obtain ⟨ua, uc, rfl, _⟩ := hku.shape
    obtain ⟨p0, p1, p2, p3, p4, p5, p6⟩ := hat
    simp only [Nat.zero_mul, Nat.add_zero] at p0 p1 p2 p3 p4 p5 p6
    clear hlen HN0 hx hku
    by_cases k1 : (tk.kind == 1) = true
    · have k1b : (tk.kind != 1) = false := by rw [bne, k1]; rfl
      have HD : Hid (singleS [.mk tk k] = (lowS tk.text, true)) := if_pos k1
      go_enter Tryd.func50, Tryd.ntmps50
      go_wp2_with (go_at_call 63; (with_reducible refine (small_any _ _ _ _ _ htx).mono ?_); rintro e w2 ⟨rfl, hb2⟩)
      refine bodyPost_ret (v := .tuple #[.string (lowS tk.text), .bool true]) (by simp [results, Tryd.results50, go_sem]) rfl ⟨?_, hb2⟩
      rw [HD.out]
    · have k1 : (tk.kind == 1) = false := by simpa using k1
      have k1b : (tk.kind != 1) = true := by rw [bne, k1]; rfl
      have HD : Hid (singleS [.mk tk k] = (⟨#[]⟩, false)) := if_neg (by show ¬ (tk.kind == 1) = true; rw [k1]; decide)
      go_enter Tryd.func50, Tryd.ntmps50
      go_wp2
      refine bodyPost_ret (v := .tuple #[.string (⟨#[]⟩), .bool false]) (by simp [results, Tryd.results50, go_sem]) rfl ⟨?_, Below.refl _ _⟩
      rw [HD.out]
  · have HR := Lib.hid (HN0.out hlen)
    obtain ⟨a, c, rfl, hlc⟩ := h.shape
    have hl1 : ((l.length : Int) == 1) = false := beq_eq_false_iff_ne.2 (by omega)
    have hl2 : ((l.length : Int) != 1) = true := by rw [bne, hl1]; rfl
    have hl3 : ¬ (l.length : Int) = 1 := by omega
    generalize singleS l = S at *
    go_enter Tryd.func50, Tryd.ntmps50
    go_wp2
    refine bodyPost_ret (v := .tuple #[.string (⟨#[]⟩), .bool false]) (by simp [results, Tryd.results50, go_sem]) rfl ⟨?_, Below.refl _ _⟩
    rw [HR.out]
set_option maxRecDepth 100000 in
set_option maxHeartbeats 1600000 in
theorem palone_any {l : List Nd} {v : Value} {w : World} {P : Nat → Prop} (h : RdN w P v l) (hl : szL l ≤ 100000000) (hx : TX l) :
    Calls Tryd.prog 51 #[v] w fun e w' => e = .returned (.string (aloneW l)) ∧ Below w.heap.size w w' := by
  have HC := Lib.hid (single_any h hl hx)
  obtain ⟨a, c, rfl, _⟩ := h.shape
  go_enter Tryd.func51, Tryd.ntmps51
  go_wp2_with (go_at_call 50; refine HC.out.mono ?_; rintro e w1 ⟨rfl, hb1⟩)
  go_ret
  exact ⟨rfl, hb1⟩
set_option maxRecDepth 100000 in
set_option maxHeartbeats 1600000 in
theorem wide_any {l : List Nd} {v : Value} {w : World} {P : Nat → Prop} (ht : TabP w) (h : RdN w P v l) (hl : szL l ≤ 100000000) (hx : TX l) :
    Calls Tryd.prog 49 #[v] w fun e w' => e = .returned (.int .i64 (wideS (aloneW l))) ∧ Below w.heap.size w w' := by
  have HT := Lib.hid ht
  have HC := Lib.hid (palone_any h hl hx)
  obtain ⟨a, c, rfl, _⟩ := h.shape
  go_enter Tryd.func49, Tryd.ntmps49
  go_wp2_with (first | (go_at_call 51; refine HC.out.mono ?_; rintro e w1 ⟨rfl, hb1⟩; have HT1 := Lib.hid (HT.out.below hb1)) | (go_at_call 62; (with_reducible refine (wideWord_any _ _ HT1.out).mono ?_); rintro e w2 ⟨rfl, hb2⟩))
  go_ret
  exact ⟨rfl, below_seq hb1 hb2⟩
def nameOrS (l : List Nd) : ByteArray × Bool := if ((aloneW l).toList == [110, 111, 110, 101]) = true then (pnoneB, true) else nameS l
set_option maxRecDepth 100000 in
set_option maxHeartbeats 1600000 in
theorem nameOr_any {l : List Nd} {v : Value} {w : World} {P : Nat → Prop} (ht : TabP w) (h : RdN w P v l) (hl : szL l ≤ 100000000) (hx : TX l) :
    Calls Tryd.prog 54 #[v] w fun e w' => e = .returned (.tuple #[.string (nameOrS l).1, .bool (nameOrS l).2]) ∧ Below w.heap.size w w' := by
  have HH := Lib.hid h
  have HT := Lib.hid ht
  have HC := Lib.hid (palone_any h hl hx)
  obtain ⟨a, c, rfl, _⟩ := h.shape
  have HY : Hid (((aloneW l).toList == [110, 111, 110, 101]) = true → nameOrS l = (pnoneB, true)) := fun hq => if_pos hq
  have HN : Hid (((aloneW l).toList == [110, 111, 110, 101]) = false → nameOrS l = nameS l) := fun hq => if_neg (by rw [hq]; decide)
  generalize nameOrS l = R at *
  generalize aloneW l = W at *
  go_enter Tryd.func54, Tryd.ntmps54
  go_wp2_with fail
  refine HC.out.mono ?_
  rintro e w1 ⟨rfl, hb1⟩
  have HC1 := Lib.hid (nameN_any (HT.out.below hb1).nm (HH.out.under hb1 (Nat.le_refl _)) hl hx)
  cases hq : (W.toList == [110, 111, 110, 101])
  · have HR := Lib.hid (HN.out hq)
    go_wp2_with (go_at_call 68; refine HC1.out.mono ?_; rintro e w2 ⟨rfl, hb2⟩)
    refine bodyPost_ret (v := .tuple #[.string (nameS l).1, .bool (nameS l).2]) (by simp [results, Tryd.results54, go_sem]) rfl ⟨?_, below_seq hb1 hb2⟩
    rw [HR.out]
  · have HR := Lib.hid (HY.out hq)
    go_wp2
    refine bodyPost_ret (v := .tuple #[.string pnoneB, .bool true]) (by simp [results, Tryd.results54, go_sem]) rfl ⟨?_, hb1⟩
    rw [HR.out]
end Go.Proofs.YtkpaokcgjeplpaaDoor
namespace Go.Proofs.YtkpaokcgjeplpaaDoor
open Go.RowKit
/-! prop: styles. -/
structure ItD where
  kind : Int
  text : ByteArray := ⟨#[]⟩
  sep : ByteArray := ⟨#[]⟩
  style : ByteArray := ⟨#[]⟩
structure PaD where
  name : ByteArray
  n : Int := 0
  rev : Bool := false
  auto : Bool := false
structure StyD where
  disp : ByteArray := ⟨#[]⟩
  lt : ByteArray := ⟨#[]⟩
  color : ByteArray := ⟨#[]⟩
  cont : List ItD := []
  normal : Bool := false
  none : Bool := false
  quotes : List ByteArray := []
  auto : Bool := false
  reset : List PaD := []
  add : List PaD := []
  set : List PaD := []
abbrev icells (x : ItD) : List Value := [.int .i64 x.kind, .string x.text, .string x.sep, .string x.style]
abbrev pcells (x : PaD) : List Value := [.string x.name, .int .i64 x.n, .bool x.rev, .bool x.auto]
def OwnIt (B : Nat) (w : World) (v : Value) (l : List ItD) : Prop := w.ownsRow B 45 4 v l.length (l.flatMap icells)
def OwnPa (B : Nat) (w : World) (v : Value) (l : List PaD) : Prop := w.ownsRow B 47 4 v l.length (l.flatMap pcells)
theorem OwnIt.nil (B : Nat) (w : World) : OwnIt B w (.slice none 0 0) [] := ⟨by simp, .inl ⟨rfl, rfl⟩⟩
theorem OwnPa.nil (B : Nat) (w : World) : OwnPa B w (.slice none 0 0) [] := ⟨by simp, .inl ⟨rfl, rfl⟩⟩
abbrev styC (d : StyD) (vc vq vr va vs : Value) : Array Value := #[.string d.disp, .string d.lt, .string d.color, vc, .bool d.normal, .bool d.none, vq, .bool d.auto, vr, va, vs]
/-- A style whose lists are its own. -/
def OwnS (B : Nat) (w : World) (v : Value) (d : StyD) : Prop := ∃ vc vq vr va vs, v = .agg (styC d vc vq vr va vs) ∧ OwnIt B w vc d.cont ∧ OwnT B w vq d.quotes ∧ OwnPa B w vr d.reset ∧ OwnPa B w va d.add ∧ OwnPa B w vs d.set
/-- A style without lists. -/
theorem OwnS.flat (B : Nat) (w : World) (d : StyD) (h : d.cont = [] ∧ d.quotes = [] ∧ d.reset = [] ∧ d.add = [] ∧ d.set = []) : OwnS B w (.agg (styC d (.slice none 0 0) (.slice none 0 0) (.slice none 0 0) (.slice none 0 0) (.slice none 0 0))) d :=
  ⟨_, _, _, _, _, rfl, by rw [h.1]; exact .nil _ _, by rw [h.2.1]; exact OwnT.nil _ _, by rw [h.2.2.1]; exact .nil _ _, by rw [h.2.2.2.1]; exact .nil _ _, by rw [h.2.2.2.2]; exact .nil _ _⟩
def ReadPost (w : World) (r : StyD × Bool) (e : Ending) (w' : World) : Prop := (∃ v, e = .returned (.tuple #[v, .bool r.2]) ∧ OwnS w.heap.size w' v r.1) ∧ Below w.heap.size w w'
abbrev zS : Array Value := styC {} (.slice none 0 0) (.slice none 0 0) (.slice none 0 0) (.slice none 0 0) (.slice none 0 0)
abbrev sbx (w : World) : World := w.alloc (.cells zS 26)
theorem sbx_bel (w : World) : Below w.heap.size w (sbx w) := (Below.refl w.heap.size w).alloc (Nat.le_refl _) _
theorem style_size : (Tryd.prog.info? 26).map (·.size) = some 11 := by kernel_rfl
theorem csets11 (d : StyD) (vc vq vr va vs : Value) : csets zS 0 (styC d vc vq vr va vs).toList = styC d vc vq vr va vs := by kernel_rfl
theorem CB.all11 {w : World} {b : Nat} (h : CB 26 w b zS) (d : StyD) (vc vq vr va vs : Value) : CB 26 (w.setCells b 0 (styC d vc vq vr va vs).toList) b (styC d vc vq vr va vs) := by
  have h1 := CB.sets (styC d vc vq vr va vs).toList 0 w _ h
  rw [csets11] at h1
  exact h1
theorem CB.at11 {w : World} {b : Nat} (h : CB 26 w b zS) : w.cell? ⟨b, 0, none⟩ = some (.string ⟨#[]⟩) ∧ w.cell? ⟨b, 1, none⟩ = some (.string ⟨#[]⟩) ∧ w.cell? ⟨b, 2, none⟩ = some (.string ⟨#[]⟩) ∧ w.cell? ⟨b, 3, none⟩ = some (.slice none 0 0) ∧ w.cell? ⟨b, 4, none⟩ = some (.bool false) ∧ w.cell? ⟨b, 5, none⟩ = some (.bool false) ∧ w.cell? ⟨b, 6, none⟩ = some (.slice none 0 0) ∧ w.cell? ⟨b, 7, none⟩ = some (.bool false) ∧ w.cell? ⟨b, 8, none⟩ = some (.slice none 0 0) ∧ w.cell? ⟨b, 9, none⟩ = some (.slice none 0 0) ∧ w.cell? ⟨b, 10, none⟩ = some (.slice none 0 0) :=
  ⟨h.cell 0, h.cell 1, h.cell 2, h.cell 3, h.cell 4, h.cell 5, h.cell 6, h.cell 7, h.cell 8, h.cell 9, h.cell 10⟩
theorem CB.fr11 {w : World} {b : Nat} (h : CB 26 w b zS) : w.frozen? ⟨b, 0, none⟩ = false ∧ w.frozen? ⟨b, 1, none⟩ = false ∧ w.frozen? ⟨b, 2, none⟩ = false ∧ w.frozen? ⟨b, 3, none⟩ = false ∧ w.frozen? ⟨b, 4, none⟩ = false ∧ w.frozen? ⟨b, 5, none⟩ = false ∧ w.frozen? ⟨b, 6, none⟩ = false ∧ w.frozen? ⟨b, 7, none⟩ = false ∧ w.frozen? ⟨b, 8, none⟩ = false ∧ w.frozen? ⟨b, 9, none⟩ = false ∧ w.frozen? ⟨b, 10, none⟩ = false :=
  ⟨h.frozen 0, h.frozen 1, h.frozen 2, h.frozen 3, h.frozen 4, h.frozen 5, h.frozen 6, h.frozen 7, h.frozen 8, h.frozen 9, h.frozen 10⟩
theorem CB.grown {T : TypeId} {w w' : World} {b : Nat} {cs : Array Value} {row : Option Nat} (h : CB T w b cs) (hg : w.grownBy w' row) (hne : row ≠ some b) : CB T w' b cs :=
  (hg.block b h.lt (fun e => hne e.symm)).trans h
theorem own_sets {B b : Nat} {T : TypeId} {size n : Nat} {v : Value} {xs : List Value} (hb : b < B) : ∀ (vs : List Value) (o : Nat) (w : World), w.ownsRow B T size v n xs → (w.setCells b o vs).ownsRow B T size v n xs
  | [], _, _, h => h
  | u :: r, o, w, h => own_sets hb r (o + 1) _ (h.kept (row := some b) (gb_set (gb_below (Below.refl _ _) _) (p := ⟨b, o, none⟩) (.inl rfl) u) (by
      cases hv : v.ownBlock with
      | none => exact .inl rfl
      | some g => exact .inr (fun e => by injection e with e; have := (h.lt g hv).1; omega)))
/-- What a reader answers: the box of its result, written. -/
theorem sty_fin {w W : World} (hB : Below w.heap.size w W) (d : StyD) (ok : Bool) (vc vq vr va vs : Value) (h1 : OwnIt (w.heap.size + 1) W vc d.cont) (h2 : OwnT (w.heap.size + 1) W vq d.quotes) (h3 : OwnPa (w.heap.size + 1) W vr d.reset) (h4 : OwnPa (w.heap.size + 1) W va d.add) (h5 : OwnPa (w.heap.size + 1) W vs d.set) :
    ReadPost w (d, ok) (.returned (.tuple #[.agg (styC d vc vq vr va vs), .bool ok])) (W.setCells w.heap.size 0 (styC d vc vq vr va vs).toList) :=
  ⟨⟨_, rfl, _, _, _, _, _, rfl, (own_sets (Nat.lt_succ_self _) _ 0 W h1).mono (by omega), (own_sets (Nat.lt_succ_self _) _ 0 W h2).mono (by omega), (own_sets (Nat.lt_succ_self _) _ 0 W h3).mono (by omega), (own_sets (Nat.lt_succ_self _) _ 0 W h4).mono (by omega), (own_sets (Nat.lt_succ_self _) _ 0 W h5).mono (by omega)⟩, setsS_below (Nat.le_refl _) _ 0 W hB⟩
theorem sty_flat {w W : World} (hB : Below w.heap.size w W) (d : StyD) (ok : Bool) (h : d.cont = [] ∧ d.quotes = [] ∧ d.reset = [] ∧ d.add = [] ∧ d.set = []) :
    ReadPost w (d, ok) (.returned (.tuple #[.agg (styC d (.slice none 0 0) (.slice none 0 0) (.slice none 0 0) (.slice none 0 0) (.slice none 0 0)), .bool ok])) (W.setCells w.heap.size 0 (styC d (.slice none 0 0) (.slice none 0 0) (.slice none 0 0) (.slice none 0 0) (.slice none 0 0)).toList) :=
  sty_fin hB d ok _ _ _ _ _ (by rw [h.1]; exact .nil _ _) (by rw [h.2.1]; exact OwnT.nil _ _) (by rw [h.2.2.1]; exact .nil _ _) (by rw [h.2.2.2.1]; exact .nil _ _) (by rw [h.2.2.2.2]; exact .nil _ _)
theorem sty_new (w : World) (d : StyD) (ok : Bool) (h : d.cont = [] ∧ d.quotes = [] ∧ d.reset = [] ∧ d.add = [] ∧ d.set = []) :
    ReadPost w (d, ok) (.returned (.tuple #[.agg (styC d (.slice none 0 0) (.slice none 0 0) (.slice none 0 0) (.slice none 0 0) (.slice none 0 0)), .bool ok])) (w.alloc (.cells (styC d (.slice none 0 0) (.slice none 0 0) (.slice none 0 0) (.slice none 0 0) (.slice none 0 0)) 26)) :=
  ⟨⟨_, rfl, OwnS.flat _ _ _ h⟩, (Below.refl w.heap.size w).alloc (Nat.le_refl _) _⟩
def colorS (l : List Nd) : StyD × Bool := ({ color := (singleS l).1 }, (singleS l).2)
abbrev blockB : ByteArray := ⟨#[98, 108, 111, 99, 107]⟩
abbrev inlineB : ByteArray := ⟨#[105, 110, 108, 105, 110, 101]⟩
abbrev listB : ByteArray := ⟨#[108, 105, 115, 116, 45, 105, 116, 101, 109]⟩
def dispB (s : ByteArray) : Bool := (s.toList == [110, 111, 110, 101]) || (s.toList == [98, 108, 111, 99, 107]) || (s.toList == [105, 110, 108, 105, 110, 101]) || (s.toList == [108, 105, 115, 116, 45, 105, 116, 101, 109])
def dispS (l : List Nd) : StyD × Bool := if dispB (aloneW l) = true then ({ disp := aloneW l }, true) else ({}, false)
/-- A text as a list's style: a mark ahead. -/
def ptextT (s : ByteArray) : ByteArray := ⟨#[34]⟩ ++ s
def ltypeS (l : List Nd) : StyD × Bool := match l with
  | [n] => if (n.tok.kind == 5) = true then ({ lt := ptextT n.tok.text }, true) else ({ lt := (nameOrS [n]).1 }, (nameOrS [n]).2)
  | l => ({ lt := (nameOrS l).1 }, (nameOrS l).2)
theorem ltypeS_no {l : List Nd} (h : l.length ≠ 1) : ltypeS l = ({ lt := (nameOrS l).1 }, (nameOrS l).2) := by
  unfold ltypeS
  split
  · exact absurd rfl h
  · rfl
set_option maxRecDepth 100000 in
set_option maxHeartbeats 1600000 in
theorem color_any {l : List Nd} {v : Value} {w : World} {P : Nat → Prop} (h : RdN w P v l) (hl : szL l ≤ 100000000) (hx : TX l) :
    Calls Tryd.prog 28 #[v] w (ReadPost w (colorS l)) := by
  have HB0 := Lib.hid (sbx_bel w)
  have HCB0 := Lib.hid (CB.new (T := 26) w zS)
  have HH := Lib.hid (h.under HB0.out (Nat.le_refl _))
  have HC := Lib.hid (single_any HH.out hl hx)
  obtain ⟨a, c, rfl, _⟩ := h.shape
  unfold colorS
  generalize singleS l = S at *
  go_enter Tryd.func28, Tryd.ntmps28
  go_wp2_with (go_at_call 50; refine HC.out.mono ?_; rintro e w1 ⟨rfl, hb1⟩; have hB1 := below_seq HB0.out hb1; have HCB1 := Lib.hid (HCB0.out.below hb1 (by simp)); obtain ⟨c0, c1, c2, c3, c4, c5, c6, c7, c8, c9, c10⟩ := HCB1.out.at11; obtain ⟨f0, f1, f2, f3, f4, f5, f6, f7, f8, f9, f10⟩ := HCB1.out.fr11; have hs1 := HCB1.out.lt)
  refine bodyPost_ret (v := .tuple #[.agg (styC { color := S.1 } (.slice none 0 0) (.slice none 0 0) (.slice none 0 0) (.slice none 0 0) (.slice none 0 0)), .bool S.2]) (res_box (by rfl) _ _ w.heap.size _ _ _ _ (by rfl) (by rfl) (HCB1.out.all11 { color := S.1 } (.slice none 0 0) (.slice none 0 0) (.slice none 0 0) (.slice none 0 0) (.slice none 0 0)) Tryd.underlying26 (by rfl) style_size) rfl ?_
  exact sty_flat hB1 { color := S.1 } S.2 ⟨rfl, rfl, rfl, rfl, rfl⟩
set_option maxRecDepth 100000 in
set_option maxHeartbeats 3200000 in
theorem disp_any {l : List Nd} {v : Value} {w : World} {P : Nat → Prop} (h : RdN w P v l) (hl : szL l ≤ 100000000) (hx : TX l) :
    Calls Tryd.prog 38 #[v] w (ReadPost w (dispS l)) := by
  have HB0 := Lib.hid (sbx_bel w)
  have HCB0 := Lib.hid (CB.new (T := 26) w zS)
  have HH := Lib.hid (h.under HB0.out (Nat.le_refl _))
  have HC := Lib.hid (palone_any HH.out hl hx)
  obtain ⟨a, c, rfl, _⟩ := h.shape
  unfold dispS
  generalize aloneW l = W at *
  by_cases hd : dispB W = true
  · rw [if_pos hd]
    have hd2 := hd
    unfold dispB at hd2
    clear hd
    cases h1 : (W.toList == [110, 111, 110, 101])
    · cases h2 : (W.toList == [98, 108, 111, 99, 107])
      · cases h3 : (W.toList == [105, 110, 108, 105, 110, 101])
        · have h4 : (W.toList == [108, 105, 115, 116, 45, 105, 116, 101, 109]) = true := by rw [h1, h2, h3] at hd2; simpa using hd2
          clear hd2
          go_enter Tryd.func38, Tryd.ntmps38
          go_wp2_with (go_at_call 51; refine HC.out.mono ?_; rintro e w1 ⟨rfl, hb1⟩; have hB1 := below_seq HB0.out hb1; have HCB1 := Lib.hid (HCB0.out.below hb1 (by simp)); obtain ⟨c0, c1, c2, c3, c4, c5, c6, c7, c8, c9, c10⟩ := HCB1.out.at11; obtain ⟨f0, f1, f2, f3, f4, f5, f6, f7, f8, f9, f10⟩ := HCB1.out.fr11; have hs1 := HCB1.out.lt)
          refine bodyPost_ret (v := .tuple #[.agg (styC { disp := W } (.slice none 0 0) (.slice none 0 0) (.slice none 0 0) (.slice none 0 0) (.slice none 0 0)), .bool true]) (res_box (by rfl) _ _ w.heap.size _ _ _ _ (by rfl) (by rfl) (HCB1.out.all11 { disp := W } (.slice none 0 0) (.slice none 0 0) (.slice none 0 0) (.slice none 0 0) (.slice none 0 0)) Tryd.underlying26 (by rfl) style_size) rfl ?_
          exact sty_flat hB1 { disp := W } true ⟨rfl, rfl, rfl, rfl, rfl⟩
        · clear hd2
          go_enter Tryd.func38, Tryd.ntmps38
          go_wp2_with (go_at_call 51; refine HC.out.mono ?_; rintro e w1 ⟨rfl, hb1⟩; have hB1 := below_seq HB0.out hb1; have HCB1 := Lib.hid (HCB0.out.below hb1 (by simp)); obtain ⟨c0, c1, c2, c3, c4, c5, c6, c7, c8, c9, c10⟩ := HCB1.out.at11; obtain ⟨f0, f1, f2, f3, f4, f5, f6, f7, f8, f9, f10⟩ := HCB1.out.fr11; have hs1 := HCB1.out.lt)
          refine bodyPost_ret (v := .tuple #[.agg (styC { disp := W } (.slice none 0 0) (.slice none 0 0) (.slice none 0 0) (.slice none 0 0) (.slice none 0 0)), .bool true]) (res_box (by rfl) _ _ w.heap.size _ _ _ _ (by rfl) (by rfl) (HCB1.out.all11 { disp := W } (.slice none 0 0) (.slice none 0 0) (.slice none 0 0) (.slice none 0 0) (.slice none 0 0)) Tryd.underlying26 (by rfl) style_size) rfl ?_
          exact sty_flat hB1 { disp := W } true ⟨rfl, rfl, rfl, rfl, rfl⟩
      · clear hd2
        go_enter Tryd.func38, Tryd.ntmps38
        go_wp2_with (go_at_call 51; refine HC.out.mono ?_; rintro e w1 ⟨rfl, hb1⟩; have hB1 := below_seq HB0.out hb1; have HCB1 := Lib.hid (HCB0.out.below hb1 (by simp)); obtain ⟨c0, c1, c2, c3, c4, c5, c6, c7, c8, c9, c10⟩ := HCB1.out.at11; obtain ⟨f0, f1, f2, f3, f4, f5, f6, f7, f8, f9, f10⟩ := HCB1.out.fr11; have hs1 := HCB1.out.lt)
        refine bodyPost_ret (v := .tuple #[.agg (styC { disp := W } (.slice none 0 0) (.slice none 0 0) (.slice none 0 0) (.slice none 0 0) (.slice none 0 0)), .bool true]) (res_box (by rfl) _ _ w.heap.size _ _ _ _ (by rfl) (by rfl) (HCB1.out.all11 { disp := W } (.slice none 0 0) (.slice none 0 0) (.slice none 0 0) (.slice none 0 0) (.slice none 0 0)) Tryd.underlying26 (by rfl) style_size) rfl ?_
        exact sty_flat hB1 { disp := W } true ⟨rfl, rfl, rfl, rfl, rfl⟩
    · clear hd2
      go_enter Tryd.func38, Tryd.ntmps38
      go_wp2_with (go_at_call 51; refine HC.out.mono ?_; rintro e w1 ⟨rfl, hb1⟩; have hB1 := below_seq HB0.out hb1; have HCB1 := Lib.hid (HCB0.out.below hb1 (by simp)); obtain ⟨c0, c1, c2, c3, c4, c5, c6, c7, c8, c9, c10⟩ := HCB1.out.at11; obtain ⟨f0, f1, f2, f3, f4, f5, f6, f7, f8, f9, f10⟩ := HCB1.out.fr11; have hs1 := HCB1.out.lt)
      refine bodyPost_ret (v := .tuple #[.agg (styC { disp := W } (.slice none 0 0) (.slice none 0 0) (.slice none 0 0) (.slice none 0 0) (.slice none 0 0)), .bool true]) (res_box (by rfl) _ _ w.heap.size _ _ _ _ (by rfl) (by rfl) (HCB1.out.all11 { disp := W } (.slice none 0 0) (.slice none 0 0) (.slice none 0 0) (.slice none 0 0) (.slice none 0 0)) Tryd.underlying26 (by rfl) style_size) rfl ?_
      exact sty_flat hB1 { disp := W } true ⟨rfl, rfl, rfl, rfl, rfl⟩
  · have hd : dispB W = false := by simpa using hd
    rw [if_neg (by rw [hd]; decide)]
    unfold dispB at hd
    simp only [Bool.or_eq_false_iff] at hd
    obtain ⟨⟨⟨h1, h2⟩, h3⟩, h4⟩ := hd
    go_enter Tryd.func38, Tryd.ntmps38
    go_wp2_with (go_at_call 51; refine HC.out.mono ?_; rintro e w1 ⟨rfl, hb1⟩; have hB1 := below_seq HB0.out hb1; have HCB1 := Lib.hid (HCB0.out.below hb1 (by simp)); obtain ⟨c0, c1, c2, c3, c4, c5, c6, c7, c8, c9, c10⟩ := HCB1.out.at11; obtain ⟨f0, f1, f2, f3, f4, f5, f6, f7, f8, f9, f10⟩ := HCB1.out.fr11; have hs1 := HCB1.out.lt)
    refine bodyPost_ret (v := .tuple #[.agg (styC {} (.slice none 0 0) (.slice none 0 0) (.slice none 0 0) (.slice none 0 0) (.slice none 0 0)), .bool false]) (res_box (by rfl) _ _ w.heap.size _ _ _ _ (by rfl) (by rfl) (HCB1.out.all11 {} (.slice none 0 0) (.slice none 0 0) (.slice none 0 0) (.slice none 0 0) (.slice none 0 0)) Tryd.underlying26 (by rfl) style_size) rfl ?_
    exact sty_flat hB1 {} false ⟨rfl, rfl, rfl, rfl, rfl⟩
set_option maxRecDepth 100000 in
set_option maxHeartbeats 3200000 in
theorem ltype_any {l : List Nd} {v : Value} {w : World} {P : Nat → Prop} (ht : TabP w) (h : RdN w P v l) (hl : szL l ≤ 100000000) (hx : TX l) :
    Calls Tryd.prog 40 #[v] w (ReadPost w (ltypeS l)) := by
  have hll := szL_ge l
  have HB0 := Lib.hid (sbx_bel w)
  have HCB0 := Lib.hid (CB.new (T := 26) w zS)
  have HH := Lib.hid (h.under HB0.out (Nat.le_refl _))
  have HC := Lib.hid (nameOr_any (ht.below HB0.out) HH.out hl hx)
  have HN0 := Lib.hid (fun (h : l.length ≠ 1) => ltypeS_no h)
  by_cases hlen : l.length = 1
  · obtain ⟨n, rfl⟩ := List.length_eq_one_iff.1 hlen
    obtain ⟨b, off, c2, u, rfl, hle2, _, hbl, hat, hku⟩ := h.at 0 (by simp)
    obtain ⟨tk, k⟩ := n
    simp only [List.getElem_cons_zero, Nd.tok, Nd.kids] at hat hku
    obtain ⟨p0, p1, p2, p3, p4, p5, p6⟩ := hat
    simp only [Nat.zero_mul, Nat.add_zero] at p0 p1 p2 p3 p4 p5 p6
    have htx := hx _ (List.mem_singleton.2 rfl)
    simp only [Nd.tok] at htx
    clear hlen HN0 hx hku
    by_cases k1 : (tk.kind == 5) = true
    · have HD : Hid (ltypeS [.mk tk k] = ({ lt := ptextT tk.text }, true)) := if_pos k1
      have hq1 : ¬ 9223372036854775807 < 1 + tk.text.size := by omega
      go_enter Tryd.func40, Tryd.ntmps40
      rw [HD.out, show ptextT tk.text = (⟨#[34]⟩ ++ tk.text : ByteArray) from rfl]
      go_wp2
      generalize (⟨#[34]⟩ ++ tk.text : ByteArray) = X at *
      refine bodyPost_ret (v := .tuple #[.agg (styC { lt := X } (.slice none 0 0) (.slice none 0 0) (.slice none 0 0) (.slice none 0 0) (.slice none 0 0)), .bool true]) (res_box (by rfl) _ _ w.heap.size _ _ _ _ (by rfl) (by rfl) (CB.new w (styC { lt := X } (.slice none 0 0) (.slice none 0 0) (.slice none 0 0) (.slice none 0 0) (.slice none 0 0))) Tryd.underlying26 (by rfl) style_size) rfl ?_
      exact sty_new w { lt := X } true ⟨rfl, rfl, rfl, rfl, rfl⟩
    · have k1 : (tk.kind == 5) = false := by simpa using k1
      have HD : Hid (ltypeS [.mk tk k] = ({ lt := (nameOrS [.mk tk k]).1 }, (nameOrS [.mk tk k]).2)) := if_neg (by show ¬ (tk.kind == 5) = true; rw [k1]; decide)
      rw [HD.out]
      generalize nameOrS [.mk tk k] = S at *
      go_enter Tryd.func40, Tryd.ntmps40
      go_wp2_with (go_at_call 54; refine HC.out.mono ?_; rintro e w1 ⟨rfl, hb1⟩; have hB1 := below_seq HB0.out hb1; have HCB1 := Lib.hid (HCB0.out.below hb1 (by simp)); obtain ⟨c0, c1, c2, c3, c4, c5, c6, c7, c8, c9, c10⟩ := HCB1.out.at11; obtain ⟨f0, f1, f2, f3, f4, f5, f6, f7, f8, f9, f10⟩ := HCB1.out.fr11; have hs1 := HCB1.out.lt)
      refine bodyPost_ret (v := .tuple #[.agg (styC { lt := S.1 } (.slice none 0 0) (.slice none 0 0) (.slice none 0 0) (.slice none 0 0) (.slice none 0 0)), .bool S.2]) (res_box (by rfl) _ _ w.heap.size _ _ _ _ (by rfl) (by rfl) (HCB1.out.all11 { lt := S.1 } (.slice none 0 0) (.slice none 0 0) (.slice none 0 0) (.slice none 0 0) (.slice none 0 0)) Tryd.underlying26 (by rfl) style_size) rfl ?_
      exact sty_flat hB1 { lt := S.1 } S.2 ⟨rfl, rfl, rfl, rfl, rfl⟩
  · have HR := Lib.hid (HN0.out hlen)
    obtain ⟨a, c, rfl, hlc⟩ := h.shape
    have hl1 : ((l.length : Int) == 1) = false := beq_eq_false_iff_ne.2 (by omega)
    have hl2 : ((l.length : Int) != 1) = true := by rw [bne, hl1]; rfl
    have hl3 : ¬ (l.length : Int) = 1 := by omega
    rw [HR.out]
    generalize nameOrS l = S at *
    go_enter Tryd.func40, Tryd.ntmps40
    go_wp2_with (go_at_call 54; refine HC.out.mono ?_; rintro e w1 ⟨rfl, hb1⟩; have hB1 := below_seq HB0.out hb1; have HCB1 := Lib.hid (HCB0.out.below hb1 (by simp)); obtain ⟨c0, c1, c2, c3, c4, c5, c6, c7, c8, c9, c10⟩ := HCB1.out.at11; obtain ⟨f0, f1, f2, f3, f4, f5, f6, f7, f8, f9, f10⟩ := HCB1.out.fr11; have hs1 := HCB1.out.lt)
    refine bodyPost_ret (v := .tuple #[.agg (styC { lt := S.1 } (.slice none 0 0) (.slice none 0 0) (.slice none 0 0) (.slice none 0 0) (.slice none 0 0)), .bool S.2]) (res_box (by rfl) _ _ w.heap.size _ _ _ _ (by rfl) (by rfl) (HCB1.out.all11 { lt := S.1 } (.slice none 0 0) (.slice none 0 0) (.slice none 0 0) (.slice none 0 0) (.slice none 0 0)) Tryd.underlying26 (by rfl) style_size) rfl ?_
    exact sty_flat hB1 { lt := S.1 } S.2 ⟨rfl, rfl, rfl, rfl, rfl⟩
end Go.Proofs.YtkpaokcgjeplpaaDoor
namespace Go.Proofs.YtkpaokcgjeplpaaDoor
open Go.RowKit
/-! prop: quotes. -/
def isStr (n : Nd) : Bool := n.tok.kind == 5
def quotesL (l : List Nd) : StyD × Bool := if l.all isStr = true then ({ quotes := l.map fun n => n.tok.text }, true) else ({}, false)
def quotesS (l : List Nd) : StyD × Bool :=
  if ((aloneW l).toList == [110, 111, 110, 101]) = true then ({}, true)
  else if ((aloneW l).toList == [97, 117, 116, 111]) = true then ({ auto := true }, true)
  else if l.length = 0 ∨ l.length % 2 ≠ 0 ∨ 32 < l.length then ({}, false)
  else quotesL l
set_option maxRecDepth 100000 in
set_option maxHeartbeats 3200000 in
theorem quotes_any {l : List Nd} {v : Value} {w : World} {P : Nat → Prop} (h : RdN w P v l) (hl : szL l ≤ 100000000) (hx : TX l) :
    Calls Tryd.prog 42 #[v] w (ReadPost w (quotesS l)) := by
  obtain ⟨i0, hi, hz0, hz1, hz2⟩ := info_parts info_str
  have hll := szL_ge l
  have HB0 := Lib.hid (sbx_bel w)
  have HCB0 := Lib.hid (CB.new (T := 26) w zS)
  have HH := Lib.hid (h.under HB0.out (Nat.le_refl _))
  have HC := Lib.hid (palone_any HH.out hl hx)
  obtain ⟨a, c, rfl, hlc⟩ := h.shape
  have HQ1 : Hid (((aloneW l).toList == [110, 111, 110, 101]) = true → quotesS l = ({}, true)) := fun hq => if_pos hq
  have HQ2 : Hid (((aloneW l).toList == [110, 111, 110, 101]) = false → ((aloneW l).toList == [97, 117, 116, 111]) = true → quotesS l = ({ auto := true }, true)) := fun h1 h2 => (if_neg (by rw [h1]; decide)).trans (if_pos h2)
  have HQ3 : Hid (((aloneW l).toList == [110, 111, 110, 101]) = false → ((aloneW l).toList == [97, 117, 116, 111]) = false → (l.length = 0 ∨ l.length % 2 ≠ 0 ∨ 32 < l.length) → quotesS l = ({}, false)) := fun h1 h2 h3 => ((if_neg (by rw [h1]; decide)).trans (if_neg (by rw [h2]; decide))).trans (if_pos h3)
  have HQ4 : Hid (((aloneW l).toList == [110, 111, 110, 101]) = false → ((aloneW l).toList == [97, 117, 116, 111]) = false → ¬ (l.length = 0 ∨ l.length % 2 ≠ 0 ∨ 32 < l.length) → quotesS l = quotesL l) := fun h1 h2 h3 => ((if_neg (by rw [h1]; decide)).trans (if_neg (by rw [h2]; decide))).trans (if_neg h3)
  generalize quotesS l = QS at *
  generalize aloneW l = W at *
  obtain ⟨N, hN⟩ : ∃ N, l.length = N := ⟨_, rfl⟩
  have HL := Lib.hid h
  rw [hN] at hll hlc HH HC HL HQ3 HQ4 ⊢
  have HN := Lib.hid hN
  clear h hN hx hl
  cases h1 : (W.toList == [110, 111, 110, 101])
  rotate_left
  · have HR := Lib.hid (HQ1.out h1)
    clear HQ1 HQ2 HQ3 HQ4
    rw [HR.out]
    go_enter Tryd.func42, Tryd.ntmps42
    go_wp2_with (go_at_call 51; refine HC.out.mono ?_; rintro e w1 ⟨rfl, hb1⟩; have hB1 := below_seq HB0.out hb1; have HCB1 := Lib.hid (HCB0.out.below hb1 (by simp)); obtain ⟨c0, c1, c2, c3, c4, c5, c6, c7, c8, c9, c10⟩ := HCB1.out.at11; obtain ⟨f0, f1, f2, f3, f4, f5, f6, f7, f8, f9, f10⟩ := HCB1.out.fr11; have hs1 := HCB1.out.lt)
    refine bodyPost_ret (v := .tuple #[.agg (styC {} (.slice none 0 0) (.slice none 0 0) (.slice none 0 0) (.slice none 0 0) (.slice none 0 0)), .bool true]) (res_box (by rfl) _ _ w.heap.size _ _ _ _ (by rfl) (by rfl) (HCB1.out.all11 {} (.slice none 0 0) (.slice none 0 0) (.slice none 0 0) (.slice none 0 0) (.slice none 0 0)) Tryd.underlying26 (by rfl) style_size) rfl ?_
    exact sty_flat hB1 {} true ⟨rfl, rfl, rfl, rfl, rfl⟩
  cases h2 : (W.toList == [97, 117, 116, 111])
  rotate_left
  · have HR := Lib.hid (HQ2.out h1 h2)
    clear HQ1 HQ2 HQ3 HQ4
    rw [HR.out]
    go_enter Tryd.func42, Tryd.ntmps42
    go_wp2_with (go_at_call 51; refine HC.out.mono ?_; rintro e w1 ⟨rfl, hb1⟩; have hB1 := below_seq HB0.out hb1; have HCB1 := Lib.hid (HCB0.out.below hb1 (by simp)); obtain ⟨c0, c1, c2, c3, c4, c5, c6, c7, c8, c9, c10⟩ := HCB1.out.at11; obtain ⟨f0, f1, f2, f3, f4, f5, f6, f7, f8, f9, f10⟩ := HCB1.out.fr11; have hs1 := HCB1.out.lt)
    refine bodyPost_ret (v := .tuple #[.agg (styC { auto := true } (.slice none 0 0) (.slice none 0 0) (.slice none 0 0) (.slice none 0 0) (.slice none 0 0)), .bool true]) (res_box (by rfl) _ _ w.heap.size _ _ _ _ (by rfl) (by rfl) (HCB1.out.all11 { auto := true } (.slice none 0 0) (.slice none 0 0) (.slice none 0 0) (.slice none 0 0) (.slice none 0 0)) Tryd.underlying26 (by rfl) style_size) rfl ?_
    exact sty_flat hB1 { auto := true } true ⟨rfl, rfl, rfl, rfl, rfl⟩
  by_cases g0 : N = 0
  · have HR := Lib.hid (HQ3.out h1 h2 (.inl g0))
    clear HQ1 HQ2 HQ3 HQ4
    subst g0
    rw [HR.out]
    go_enter Tryd.func42, Tryd.ntmps42
    go_wp2_with (go_at_call 51; refine HC.out.mono ?_; rintro e w1 ⟨rfl, hb1⟩; have hB1 := below_seq HB0.out hb1; have HCB1 := Lib.hid (HCB0.out.below hb1 (by simp)); obtain ⟨c0, c1, c2, c3, c4, c5, c6, c7, c8, c9, c10⟩ := HCB1.out.at11; obtain ⟨f0, f1, f2, f3, f4, f5, f6, f7, f8, f9, f10⟩ := HCB1.out.fr11; have hs1 := HCB1.out.lt)
    refine bodyPost_ret (v := .tuple #[.agg (styC {} (.slice none 0 0) (.slice none 0 0) (.slice none 0 0) (.slice none 0 0) (.slice none 0 0)), .bool false]) (res_box (by rfl) _ _ w.heap.size _ _ _ _ (by rfl) (by rfl) (HCB1.out.all11 {} (.slice none 0 0) (.slice none 0 0) (.slice none 0 0) (.slice none 0 0) (.slice none 0 0)) Tryd.underlying26 (by rfl) style_size) rfl ?_
    exact sty_flat hB1 {} false ⟨rfl, rfl, rfl, rfl, rfl⟩
  have g0b : ((N : Int) == 0) = false := beq_eq_false_iff_ne.2 (by omega)
  have g0c : ¬ (N : Int) = 0 := by omega
  by_cases g1 : N % 2 ≠ 0
  · have HR := Lib.hid (HQ3.out h1 h2 (.inr (.inl g1)))
    clear HQ1 HQ2 HQ3 HQ4
    have ht : (N : Int).tmod 2 = 1 := by rw [Int.tmod_eq_emod_of_nonneg (by omega)]; omega
    have hm : (Int.tmod (N : Int) 2 == 0) = false := by rw [ht]; rfl
    have hm2 : (Int.tmod (N : Int) 2 != 0) = true := by rw [bne, hm]; rfl
    rw [HR.out]
    go_enter Tryd.func42, Tryd.ntmps42
    go_wp2_with (go_at_call 51; refine HC.out.mono ?_; rintro e w1 ⟨rfl, hb1⟩; have hB1 := below_seq HB0.out hb1; have HCB1 := Lib.hid (HCB0.out.below hb1 (by simp)); obtain ⟨c0, c1, c2, c3, c4, c5, c6, c7, c8, c9, c10⟩ := HCB1.out.at11; obtain ⟨f0, f1, f2, f3, f4, f5, f6, f7, f8, f9, f10⟩ := HCB1.out.fr11; have hs1 := HCB1.out.lt)
    refine bodyPost_ret (v := .tuple #[.agg (styC {} (.slice none 0 0) (.slice none 0 0) (.slice none 0 0) (.slice none 0 0) (.slice none 0 0)), .bool false]) (res_box (by rfl) _ _ w.heap.size _ _ _ _ (by rfl) (by rfl) (HCB1.out.all11 {} (.slice none 0 0) (.slice none 0 0) (.slice none 0 0) (.slice none 0 0) (.slice none 0 0)) Tryd.underlying26 (by rfl) style_size) rfl ?_
    exact sty_flat hB1 {} false ⟨rfl, rfl, rfl, rfl, rfl⟩
  have ht : (N : Int).tmod 2 = 0 := by rw [Int.tmod_eq_emod_of_nonneg (by omega)]; omega
  have hm : (Int.tmod (N : Int) 2 == 0) = true := by rw [ht]; rfl
  have hm2 : (Int.tmod (N : Int) 2 != 0) = false := by rw [bne, hm]; rfl
  by_cases g2 : 32 < N
  · have HR := Lib.hid (HQ3.out h1 h2 (.inr (.inr g2)))
    clear HQ1 HQ2 HQ3 HQ4
    have g2I : (32 : Int) < (N : Int) := by omega
    rw [HR.out]
    go_enter Tryd.func42, Tryd.ntmps42
    go_wp2_with (go_at_call 51; refine HC.out.mono ?_; rintro e w1 ⟨rfl, hb1⟩; have hB1 := below_seq HB0.out hb1; have HCB1 := Lib.hid (HCB0.out.below hb1 (by simp)); obtain ⟨c0, c1, c2, c3, c4, c5, c6, c7, c8, c9, c10⟩ := HCB1.out.at11; obtain ⟨f0, f1, f2, f3, f4, f5, f6, f7, f8, f9, f10⟩ := HCB1.out.fr11; have hs1 := HCB1.out.lt)
    refine bodyPost_ret (v := .tuple #[.agg (styC {} (.slice none 0 0) (.slice none 0 0) (.slice none 0 0) (.slice none 0 0) (.slice none 0 0)), .bool false]) (res_box (by rfl) _ _ w.heap.size _ _ _ _ (by rfl) (by rfl) (HCB1.out.all11 {} (.slice none 0 0) (.slice none 0 0) (.slice none 0 0) (.slice none 0 0) (.slice none 0 0)) Tryd.underlying26 (by rfl) style_size) rfl ?_
    exact sty_flat hB1 {} false ⟨rfl, rfl, rfl, rfl, rfl⟩
  have g2I : ¬ (32 : Int) < (N : Int) := by omega
  have HR : Hid (QS = quotesL l) := HQ4.out h1 h2 (by omega)
  clear HQ1 HQ2 HQ3 HQ4
  rw [HR.out]
  clear HR
  have hN32 : N ≤ 32 := by omega
  go_enter Tryd.func42, Tryd.ntmps42
  go_wp2_with (go_at_call 51; refine HC.out.mono ?_; rintro e w1 ⟨rfl, hb1⟩; have hB1 := below_seq HB0.out hb1; have HCB1 := Lib.hid (HCB0.out.below hb1 (by simp)); obtain ⟨c0, c1, c2, c3, c4, c5, c6, c7, c8, c9, c10⟩ := HCB1.out.at11; obtain ⟨f0, f1, f2, f3, f4, f5, f6, f7, f8, f9, f10⟩ := HCB1.out.fr11; have hs1 := HCB1.out.lt)
  clear c0 c1 c2 c3 c4 c5 c6 c7 c8 c9 c10 f0 f1 f2 f3 f4 f5 f6 f7 f8 f9 f10
  go_loopw [4, 32] (fun ov iv wr => ∃ (i : Nat) (o0 : Value), o0 = ov ∧ iv = .int .i64 i ∧ i ≤ N ∧ OwnT (w.heap.size + 1) wr o0 ((l.take i).map fun n => n.tok.text) ∧ (l.take i).all isStr = true ∧ CB 26 wr w.heap.size zS ∧ Below w.heap.size w wr) (fun _ iv _ => N - (intOf iv).toNat)
  case atStart => exact ⟨0, _, rfl, rfl, Nat.zero_le _, OwnT.nil _ _, rfl, HCB1.out, hB1⟩
  case round =>
    obtain ⟨i, o0, rfl, rfl, hiN, hown, hall, hcb, hB⟩ := hrel
    have hws := hcb.lt
    have HCB := Lib.hid hcb
    have HB := Lib.hid hB
    have HA := Lib.hid hall
    obtain ⟨ba, bc, rfl, _⟩ := row_sl hown
    have hml : ((l.take i).map fun n => n.tok.text).length = i := by rw [List.length_map, List.length_take, HN.out]; omega
    have HOW : Hid (wr.ownsRow (w.heap.size + 1) 9 1 (.slice ba i bc) i (((l.take i).map fun n => n.tok.text).map Value.string)) := by
      have hh := hown
      unfold OwnT at hh
      rw [hml] at hh
      exact hh
    rw [hml] at ⊢
    have HML := Lib.hid hml
    clear hB hall hown hml hcb
    by_cases hlt : i < N
    · have hr := HL.out.under HB.out (Nat.le_refl _)
      obtain ⟨b, off, c2, hv2, _, _, hbl, g1⟩ := hr.base (by rw [HN.out]; omega)
      rw [HN.out] at hv2
      injection hv2 with e1 _ e3
      subst e1 e3
      obtain ⟨u, hat, hku⟩ := g1 i (by rw [HN.out]; exact hlt)
      have HTM := Lib.hid (take_map (l := l) (i := i) (by rw [HN.out]; exact hlt))
      have HTA : Hid ((l.take (i + 1)).all isStr = isStr (l[i]'(by rw [HN.out]; exact hlt))) := by
        show _ = _
        rw [List.take_succ_eq_append_getElem (by rw [HN.out]; exact hlt), List.all_append, HA.out]
        simp
      have HTN : Hid (isStr (l[i]'(by rw [HN.out]; exact hlt)) = false → l.all isStr = false) := fun hq => by
        rw [Bool.eq_false_iff]
        intro hh
        rw [List.all_eq_true.1 hh _ (List.getElem_mem _)] at hq
        cases hq
      generalize l[i]'(by rw [HN.out]; exact hlt) = nd at *
      obtain ⟨t, k⟩ := nd
      simp only [Nd.tok, Nd.kids] at hat hku
      obtain ⟨ua, uc, hus, _⟩ := hku.shape
      subst hus
      obtain ⟨p0, p1, p2, p3, p4, p5, p6⟩ := hat
      have hx0 : (0 : Int) ≤ (i : Int) := by omega
      have hx1 : (i : Int) < (N : Int) := by omega
      clear hku g1 hr
      by_cases hq : (t.kind == 5) = true
      · have hqb : (t.kind != 5) = false := by rw [bne, hq]; rfl
        have HQ := Lib.hid hq
        have HNEW := Lib.hid (cell_one_new (wr.alloc (.cells #[.int .i64 t.kind, .string t.text, .int .i64 t.int, .bool t.whole, .bool t.sign, .bool t.id, .slice ua k.length uc] 86)) (.string t.text) 9)
        rw [show (wr.alloc (.cells #[.int .i64 t.kind, .string t.text, .int .i64 t.int, .bool t.whole, .bool t.sign, .bool t.id, .slice ua k.length uc] 86)).heap.size = wr.heap.size + 1 by simp] at HNEW
        have HOW5 := Lib.hid ((HOW.out.alloc (.cells #[.int .i64 t.kind, .string t.text, .int .i64 t.int, .bool t.whole, .bool t.sign, .bool t.id, .slice ua k.length uc] 86)).alloc (.cells #[.string t.text] 9))
        have HAm := Lib.hid (((Below.refl wr.heap.size wr).alloc (Nat.le_refl _) (.cells #[.int .i64 t.kind, .string t.text, .int .i64 t.int, .bool t.whole, .bool t.sign, .bool t.id, .slice ua k.length uc] 86)).alloc (by simp) (.cells #[.string t.text] 9))
        go_wp2_with (at_builtin; refine wpList_append_own _ rfl _ _ 23 rfl (w.heap.size + 1) 9 i0 (.string ⟨#[]⟩) 1 16 Tryd.underlying23 hi hz0 hz1 hz2 rfl (by decide) _ _ _ rfl HOW5.out ⟨_, 0, none⟩ 1 1 [.string t.text] rfl rfl HNEW.out (by simp [Value.oneCell']) (by unfold maxLen; omega) (by have := HAm.out.size; simp; omega) (by simp; omega) ?_; intro v' w6 ho6 hg6 _)
        have hb6 : Below w.heap.size w w6 := (below_seq HB.out HAm.out).grown hg6 (by have := HAm.out.size; omega) (fun q hq => by have := (HOW.out.lt q hq).1; omega)
        have hqc := ((HCB.out.alloc (.cells #[.int .i64 t.kind, .string t.text, .int .i64 t.int, .bool t.whole, .bool t.sign, .bool t.id, .slice ua k.length uc] 86)).alloc (.cells #[.string t.text] 9)).grown hg6 (fun e => by have := (HOW.out.lt _ e).1; omega)
        go_roundw
        case rel => exact ⟨i + 1, v', rfl, by go_num, by omega, by rw [HTM.out]; exact OwnT.snoc (by rw [HML.out]; exact ho6), by rw [HTA.out]; exact HQ.out, hqc, hb6⟩
        case measure => simp [intOf]; omega
      · have hq : (t.kind == 5) = false := by simpa using hq
        have hqb : (t.kind != 5) = true := by rw [bne, hq]; rfl
        have HR : Hid (quotesL l = ({}, false)) := if_neg (by rw [HTN.out hq]; decide)
        have hb5 := HB.out.alloc HB.out.size (.cells #[.int .i64 t.kind, .string t.text, .int .i64 t.int, .bool t.whole, .bool t.sign, .bool t.id, .slice ua k.length uc] 86)
        obtain ⟨c0, c1, c2, c3, c4, c5, c6, c7, c8, c9, c10⟩ := HCB.out.at11; obtain ⟨f0, f1, f2, f3, f4, f5, f6, f7, f8, f9, f10⟩ := HCB.out.fr11
        go_wp2
        refine bodyPost_ret (v := .tuple #[.agg (styC {} (.slice none 0 0) (.slice none 0 0) (.slice none 0 0) (.slice none 0 0) (.slice none 0 0)), .bool false]) (res_box (by rfl) _ _ w.heap.size _ _ _ _ (by rfl) (by rfl) ((HCB.out.all11 {} (.slice none 0 0) (.slice none 0 0) (.slice none 0 0) (.slice none 0 0) (.slice none 0 0)).alloc _) Tryd.underlying26 (by rfl) style_size) rfl ?_
        rw [HR.out]
        have hh := sty_flat HB.out {} false ⟨rfl, rfl, rfl, rfl, rfl⟩
        exact ⟨⟨_, rfl, OwnS.flat _ _ _ ⟨rfl, rfl, rfl, rfl, rfl⟩⟩, hh.2.alloc (by have := hh.2.size; exact this) _⟩
    · obtain rfl : i = N := by omega
      have HE : Hid (l.take i = l) := List.take_of_length_le (by rw [HN.out]; omega)
      have HR : Hid (quotesL l = ({ quotes := l.map fun n => n.tok.text }, true)) := if_pos (by rw [← HE.out]; exact HA.out)
      have HOX : Hid (OwnT (w.heap.size + 1) wr (.slice ba i bc) (l.map fun n => n.tok.text)) := by
        have hh := HOW.out
        rw [HE.out] at hh
        show OwnT _ _ _ _
        unfold OwnT
        rw [List.length_map, HN.out]
        exact hh
      obtain ⟨c0, c1, c2, c3, c4, c5, c6, c7, c8, c9, c10⟩ := HCB.out.at11; obtain ⟨f0, f1, f2, f3, f4, f5, f6, f7, f8, f9, f10⟩ := HCB.out.fr11
      go_wp2
      generalize (l.map fun n => n.tok.text) = ML at *
      refine bodyPost_ret (v := .tuple #[.agg (styC { quotes := ML } (.slice none 0 0) (.slice ba i bc) (.slice none 0 0) (.slice none 0 0) (.slice none 0 0)), .bool true]) (res_box (by rfl) _ _ w.heap.size _ _ _ _ (by rfl) (by rfl) (HCB.out.all11 { quotes := ML } (.slice none 0 0) (.slice ba i bc) (.slice none 0 0) (.slice none 0 0) (.slice none 0 0)) Tryd.underlying26 (by rfl) style_size) rfl ?_
      rw [HR.out]
      exact sty_fin HB.out { quotes := ML } true _ _ _ _ _ (.nil _ _) HOX.out (.nil _ _) (.nil _ _) (.nil _ _)
end Go.Proofs.YtkpaokcgjeplpaaDoor
