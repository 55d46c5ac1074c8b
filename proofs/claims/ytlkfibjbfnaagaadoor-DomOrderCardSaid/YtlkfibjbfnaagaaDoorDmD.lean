
import Derived.Test.YtlkfibjbfnaagaaDoorDmC
import Derived.Deep.CutBlock
import Derived.Deep.DeepCutAuto
import Derived.Maps.OwnSet
import Derived.Maps.AppendAt
import Derived.StringKeys
import Derived.Lib.AppendIntMem
namespace Go.Proofs.YtlkfibjbfnaagaaDoor
open Go.RowKit Go.Maps Go.WideMaps
theorem dg_below {a b : World} (h : Below a.heap.size a b) (row : Option Nat) : a.grownBy b row := ⟨h.os, h.tape, h.output, h.size, fun i hi _ => h.block i hi⟩
def acells (a : ByteArray × ByteArray) : List Value := [.string a.1, .string a.2]
theorem acells_len (l : List (ByteArray × ByteArray)) : (l.flatMap acells).length = l.length * 2 := by
  induction l with
  | nil => rfl
  | cons a l ih => rw [List.flatMap_cons, List.length_append, ih, List.length_cons]; show 2 + _ = _; omega
theorem acells_at {l : List (ByteArray × ByteArray)} {j : Nat} (h : j < l.length) : (l.flatMap acells)[j * 2]? = some (.string (l[j]).1) ∧ (l.flatMap acells)[j * 2 + 1]? = some (.string (l[j]).2) := by
  induction l generalizing j with
  | nil => exact absurd h (Nat.not_lt_zero _)
  | cons a l ih =>
    cases j with
    | zero => exact ⟨rfl, rfl⟩
    | succ j =>
      have := ih (j := j) (by simpa using h)
      rw [List.flatMap_cons]
      have e : (acells a).length = 2 := rfl
      constructor
      · rw [List.getElem?_append_right (by rw [e]; omega), e, show (j + 1) * 2 - 2 = j * 2 by omega]; exact this.1
      · rw [List.getElem?_append_right (by rw [e]; omega), e, show (j + 1) * 2 + 1 - 2 = j * 2 + 1 by omega]; exact this.2
/-- A row of pairs that the call has made. -/
def OwnA (B : Nat) (w : World) (v : Value) (l : List (ByteArray × ByteArray)) : Prop := w.ownsRow B 57 2 v l.length (l.flatMap acells)
theorem OwnA.rd {B : Nat} {w : World} {v : Value} {l : List (ByteArray × ByteArray)} (h : OwnA B w v l) : RdA w v l := by
  have hl := World.ownsRow.lt h
  have hc := fun g hg => World.ownsRow.cells h (g := g) hg
  unfold OwnA at h
  rcases h.2 with ⟨rfl, h0⟩ | ⟨g, cap, cur, rfl, b, c, d, _⟩
  · exact ⟨none, 0, by rw [h0], by omega, fun hp => by omega⟩
  · refine ⟨_, cap, rfl, d, fun _ => ⟨g, 0, rfl, (hl g rfl).2, fun j hj => ?_⟩⟩
    have hadd : ∀ k, (⟨g, 0, none⟩ : Addr).add k = ⟨g, k, none⟩ := fun k => by unfold Addr.add; split <;> simp_all
    have h0 := hc g rfl (j * 2) _ (acells_at hj).1
    have h1 := hc g rfl (j * 2 + 1) _ (acells_at hj).2
    rw [hadd] at h0 h1
    rw [Nat.zero_add]
    exact ⟨h0, h1⟩
def nmsOf (l : List (ByteArray × ByteArray)) : List (List UInt8) := l.map fun a => a.1.data.toList
def SetA (l : List (ByteArray × ByteArray)) : DataW Unit := setOf (.agg []) ((nmsOf l).map Lit.string)
theorem has_SetA (l : List (ByteArray × ByteArray)) (s : List UInt8) : Maps.has (SetA l) (.string s) = decide (s ∈ nmsOf l) := by
  unfold SetA
  rw [has_setOf _ _ _ (fun x hx => by obtain ⟨y, _, rfl⟩ := List.mem_map.1 hx; exact trivial)]
  rw [Bool.eq_iff_iff, List.any_eq_true, decide_eq_true_iff]
  constructor
  · rintro ⟨x, hx, h⟩
    obtain ⟨y, hy, rfl⟩ := List.mem_map.1 hx
    have : (y == s) = true := h
    rw [← eq_of_beq this]; exact hy
  · intro h
    exact ⟨.string s, List.mem_map.2 ⟨s, h, rfl⟩, show (s == s) = true by simp⟩
theorem SetA_snoc (l : List (ByteArray × ByteArray)) (a : ByteArray × ByteArray) : SetA (l ++ [a]) = (SetA l).put (.string a.1.data.toList) (.agg []) := by
  unfold SetA nmsOf
  rw [List.map_append, List.map_append, List.map_singleton, List.map_singleton, setOf_snoc]
theorem info_attr : (Tryd.prog.info? 57).map (fun i => (i.zero, i.size, i.bytes)) = some (some (.agg #[.string ⟨#[]⟩, .string ⟨#[]⟩]), 2, 32) := by kernel_rfl
theorem zero_unit (w : World) : (zeroValue 87).run Tryd.prog w = .ok (.agg #[]) w := by kernel_rfl
theorem run_mk (n : Int) (w : World) : (Instr.makeMap 86 (some (.int .i64 n))).run Tryd.prog w = .ok (.map (some w.heap.size)) (w.alloc (.map #[] 0)) := by
  simp [Instr.makeMap, run_underlying Tryd.underlying86, asInt, asIntOf, Result.andThen]
theorem law_str : Keyed Tryd.prog 9 := string_keyed Tryd.underlying9
theorem cell_two_new (w : World) (a b : Value) (T : TypeId) : ∀ j u, ([a, b] : List Value)[j]? = some u → (w.alloc (.cells #[a, b] T)).cell? ((⟨w.heap.size, 0, none⟩ : Addr).add j) = some u := by
  intro j u hj
  have hadd : (⟨w.heap.size, 0, none⟩ : Addr).add j = ⟨w.heap.size, j, none⟩ := by unfold Addr.add; split <;> simp_all
  rw [hadd]
  unfold World.cell?
  rw [heap_alloc_self]
  match j, hj with
  | 0, hj => simpa using hj
  | 1, hj => simpa using hj
  | j + 2, hj => simp at hj
theorem lowS_szz (s : ByteArray) : (lowS s).size = s.size := by
  unfold lowS
  rw [strOfNums_size, List.length_map, nums_length]
theorem cell_grown {w w' : World} {row : Option Nat} (h : w.grownBy w' row) {b o : Nat} (hb : b < w.heap.size) (hne : some b ≠ row) : w'.cell? ⟨b, o, none⟩ = w.cell? ⟨b, o, none⟩ := by
  unfold World.cell?
  rw [h.block b hb hne]
theorem cell_alloc' {w : World} {b o : Nat} {v : Value} {ob : Obj} (h : w.cell? ⟨b, o, none⟩ = some v) (hb : b < w.heap.size) : (w.alloc ob).cell? ⟨b, o, none⟩ = some v :=
  ((below_al' w ob).cell (p := ⟨b, o, none⟩) hb).trans h
theorem cells_two {w : World} {b : Nat} {x y : Value} {T : TypeId} (h : w.heap[b]? = some (.cells #[x, y] T (0, 0))) : w.cell? ⟨b, 0, none⟩ = some x ∧ w.cell? ⟨b, 1, none⟩ = some y ∧ w.frozen? ⟨b, 0, none⟩ = false := by
  refine ⟨by simp [World.cell?, h], by simp [World.cell?, h], by simp [World.frozen?, h]⟩
theorem own_mono {B B' : Nat} {w : World} {v : Value} {l : List (ByteArray × ByteArray)} (h : OwnA B w v l) (hB : B' ≤ B) : OwnA B' w v l := by
  refine ⟨h.1, ?_⟩
  rcases h.2 with h | ⟨g, cap, cur, h1, h2, h3⟩
  · exact .inl h
  · exact .inr ⟨g, cap, cur, h1, Nat.le_trans hB h2, h3⟩
theorem own_ne_new {B : Nat} {w : World} {e : TypeId} {size n : Nat} {v : Value} {xs : List Value} (h : w.ownsRow B e size v n xs) {x : Nat} (hx : x < B) : v.ownBlock = none ∨ v.ownBlock ≠ some x := by
  by_cases e : v.ownBlock = none
  · exact .inl e
  · refine .inr fun e2 => ?_
    have := (h.lt x e2).1
    omega
def FirstsPost (w : World) (R : List (ByteArray × ByteArray)) (e : Ending) (w' : World) : Prop := ∃ v, e = .returned v ∧ OwnA w.heap.size w' v R ∧ Below w.heap.size w w'
theorem firsts_len (seen : List (List UInt8)) (l : List (ByteArray × ByteArray)) : (firstsFrom seen l).length ≤ l.length := by
  induction l generalizing seen with
  | nil => exact Nat.le_refl _
  | cons a l ih =>
    obtain ⟨n, v⟩ := a
    unfold firstsFrom
    split
    · have := ih seen; simp; omega
    · have := ih (seen ++ [(lowS n).data.toList]); simp; omega
set_option maxRecDepth 100000 in
set_option maxHeartbeats 3200000 in
theorem firsts_any {w : World} {v : Value} {l : List (ByteArray × ByteArray)} (h : RdA w v l) (hl : l.length ≤ 100000000) (hz : ∀ a ∈ l, a.1.size ≤ 1000000000) :
    Calls Tryd.prog 52 #[v] w (FirstsPost w (firstsFrom [] l)) := by
  have hmm := run_mk
  obtain ⟨i0, hi, hz0, hz1, hz2⟩ := info_parts info_attr
  obtain ⟨a, c, rfl, hle, hc⟩ := h
  obtain ⟨L, hL⟩ : ∃ L, l.length = L := ⟨_, rfl⟩
  obtain ⟨R, hR⟩ : ∃ R, firstsFrom [] l = R := ⟨_, rfl⟩
  rw [hR]
  have HR := Lib.hid hR
  have HC := Lib.hid hc
  have HL := Lib.hid hL
  rw [hL] at hl hle ⊢
  clear hR hc hL
  go_enter Tryd.func52, Tryd.ntmps52
  go_wp2
  go_loopw [4, 14] (fun lv i wr => ∃ (k : Nat) (out : List (ByteArray × ByteArray)) (q : Value), q = lv ∧ k ≤ L ∧ i = .int .i64 k ∧ out.length ≤ k ∧ R = out ++ firstsFrom (nmsOf out) (l.drop k) ∧ wr.ownsMap Tryd.prog 9 unitElem w.heap.size k (SetA out) ∧ OwnA (w.heap.size + 1) wr lv out ∧ Below w.heap.size w wr ∧ w.heap.size + 1 ≤ wr.heap.size)
    (fun _ i _ => L - (intOf i).toNat)
  case atStart => exact ⟨0, [], _, rfl, Nat.zero_le _, rfl, Nat.le_refl _, HR.out.symm, World.ownsMap_made _ _ _ _, World.ownsRow_nil _ _ _ _, (Below.refl _ _).alloc (Nat.le_refl _) _, by simp⟩
  case round =>
    obtain ⟨k, out, lv, rfl, hk, rfl, hol, hq, hown, hrow, hbw, hws⟩ := hrel
    have HQ := Lib.hid hq
    clear hq
    by_cases hlt : k < L
    · have hltI : (k : Int) < (L : Int) := by omega
      have hkl : k < l.length := by rw [HL.out]; exact hlt
      obtain ⟨b, off, rfl, hb, hcc⟩ := HC.out (by omega)
      obtain ⟨hc0, hc1⟩ := hcc k hkl
      have hdk : l.drop k = l[k] :: l.drop (k + 1) := List.drop_eq_getElem_cons hkl
      have hz1' := hz l[k] (List.getElem_mem hkl)
      obtain ⟨⟨n, vv⟩, hx⟩ : ∃ x, l[k] = x := ⟨_, rfl⟩
      rw [hx] at hc0 hc1 hdk hz1'
      have HDK := Lib.hid hdk
      clear hcc hdk hx
      simp only at hc0 hc1 hz1'
      have hcw0 := (hbw.cell (p := ⟨b, off + k * 2, none⟩) hb).trans hc0
      have hcw1 := (hbw.cell (p := ⟨b, off + k * 2 + 1, none⟩) hb).trans hc1
      have hbl : b < wr.heap.size := Nat.lt_of_lt_of_le hb hbw.size
      clear hc0 hc1
      have hA := below_al' wr (.cells #[.string n, .string vv] 57)
      have hx := heap_alloc_self wr (.cells #[.string n, .string vv] 57)
      have hAl : wr.heap.size < (wr.alloc (.cells #[.string n, .string vv] 57)).heap.size := by simp
      obtain ⟨S, hS⟩ : ∃ S, lowS n = S := ⟨_, rfl⟩
      have HS := Lib.hid hS
      clear hS
      go_upto_region 7 with (go_at_call 51; (with_reducible refine (lower_any n _ hz1').mono ?_); rintro e w1 ⟨rfl, hb1⟩; rw [HS.out]; have x0 : w1.heap[wr.heap.size]? = some (.cells #[.string n, .string vv] 57 (0, 0)) := (hb1.block _ hAl).trans hx; obtain ⟨xc, xd, xf⟩ := cells_two x0)
      have hB1 : Below wr.heap.size wr (w1.setCell ⟨wr.heap.size, 0, none⟩ (.string S)) := (dm_seq hA hb1).setCell (Nat.le_refl _) _
      have hx1 : (w1.setCell ⟨wr.heap.size, 0, none⟩ (.string S)).heap[wr.heap.size]? = some (.cells #[.string S, .string vv] 57 (0, 0)) := heap_setCell_same w1 wr.heap.size 0 _ _ (.string S) x0
      generalize w1.setCell ⟨wr.heap.size, 0, none⟩ (.string S) = W1 at *
      clear x0 xf xc xd hb1 hx hA hAl hcw0 hcw1
      obtain ⟨y0, y1, yf⟩ := cells_two hx1
      have hAl : wr.heap.size < W1.heap.size := (Array.getElem?_eq_some_iff.1 hx1).1
      clear hx1
      have hown1 := hown.kept (dg_below hB1 none) (by simp)
      have hrow1 : OwnA (w.heap.size + 1) W1 lv out := World.ownsRow.kept hrow (dg_below hB1 none) (by cases h : lv.ownBlock with | none => exact .inl rfl | some x => exact .inr (by simp))
      have hbw1 : Below w.heap.size w W1 := dm_seq hbw hB1
      have hkey : keyOf Tryd.prog 9 (.string S) = some (.string S.data.toList) := keyOf_string_mk Tryd.underlying9 (by rw [← HS.out, lowS_szz]; unfold maxLen; omega)
      have hmb : w.heap.size < wr.heap.size := by omega
      clear hown hrow
      by_cases hin : S.data.toList ∈ nmsOf out
      · have HH := Lib.hid (show Maps.has (SetA out) (.string S.data.toList) = true by rw [has_SetA]; exact decide_eq_true hin)
        have HQ2 := Lib.hid (show R = out ++ firstsFrom (nmsOf out) (l.drop (k + 1)) by
          rw [HQ.out, HDK.out]
          conv => lhs; rw [firstsFrom]
          rw [HS.out, if_pos hin])
        clear hin
        go_wp2_with (at_lookup; refine wpList_lookup_own_unit _ rfl _ _ 86 rfl 9 87 law_str Tryd.underlying86 (zero_unit _) w.heap.size k _ rfl hown1 _ _ rfl hkey ?_; rw [HH.out])
        go_roundw
        case rel => exact ⟨k + 1, out, _, rfl, by omega, by go_num, by omega, HQ2.out, (hown1.alloc _).mono (Nat.le_succ _), World.ownsRow.alloc hrow1 _, hbw1.alloc (by have := hbw1.size; omega) _, by simp; omega⟩
        case measure => simp [intOf]; omega
      · have HH := Lib.hid (show Maps.has (SetA out) (.string S.data.toList) = false by rw [has_SetA]; exact decide_eq_false hin)
        have HQ2 := Lib.hid (show R = (out ++ [(S, vv)]) ++ firstsFrom (nmsOf (out ++ [(S, vv)])) (l.drop (k + 1)) by
          rw [HQ.out, HDK.out]
          conv => lhs; rw [firstsFrom]
          rw [HS.out, if_neg hin, List.append_assoc]
          unfold nmsOf
          rw [List.map_append]
          rfl)
        clear hin
        go_wp2_with (first | (at_lookup; refine wpList_lookup_own_unit _ rfl _ _ 86 rfl 9 87 law_str Tryd.underlying86 (zero_unit _) w.heap.size k _ rfl hown1 _ _ rfl hkey ?_; rw [HH.out]) | (at_mapUpdate; refine wpList_mapUpdate_own _ rfl _ _ _ 86 rfl 9 87 law_str Tryd.underlying86 (unitElem (H := Unit)) w.heap.size k _ rfl (hown1.alloc _) (by unfold maxLen; omega) _ _ _ rfl rfl hkey _ [] unitElem_mk ?_; intro w2 hown2 hgrow2; have z0 : w2.cell? ⟨wr.heap.size, 0, none⟩ = some (.string S) := (cell_grown hgrow2 (by simp; omega) (by simp; omega)).trans (cell_alloc' y0 hAl); have z1 : w2.cell? ⟨wr.heap.size, 1, none⟩ = some (.string vv) := (cell_grown hgrow2 (by simp; omega) (by simp; omega)).trans (cell_alloc' y1 hAl); have hrow2 : OwnA (w.heap.size + 1) w2 lv out := World.ownsRow.kept (World.ownsRow.alloc hrow1 _) hgrow2 (own_ne_new hrow1 (Nat.lt_succ_self _))) | (at_builtin; refine wpList_append_own _ rfl _ _ 35 rfl (w.heap.size + 1) 57 i0 (.agg #[.string ⟨#[]⟩, .string ⟨#[]⟩]) 2 32 Tryd.underlying35 hi hz0 hz1 hz2 rfl (by decide) _ _ _ rfl (World.ownsRow.alloc hrow2 _) ⟨_, 0, none⟩ 1 1 [.string S, .string vv] rfl rfl (cell_two_new _ _ _ _) (fun u hu => by simp at hu; rcases hu with rfl | rfl <;> rfl) (by unfold maxLen; omega) (by omega) (by have := hgrow2.size; simp at this; simp; omega) ?_; intro v' w4 ho4 hg4 _))
        have hMB : some w.heap.size ≠ lv.ownBlock := by
          rcases own_ne_new hrow1 (Nat.lt_succ_self w.heap.size) with h | h
          · rw [h]; simp
          · exact fun e => h e.symm
        have hrB : ∀ j, lv.ownBlock = some j → w.heap.size ≤ j := fun j hj => by have := (World.ownsRow.lt hrow1 j hj).1; omega
        have hz2' := hgrow2.size
        have hz4 := hg4.size
        have hb2 : Below w.heap.size w w2 := (hbw1.alloc (by have := hbw1.size; omega) _).grown hgrow2 (by simp; omega) (fun j hj => by cases hj; exact Nat.le_refl _)
        have hb4 : Below w.heap.size w w4 := (hb2.alloc hb2.size _).grown hg4 (by have := hb2.size; simp; omega) hrB
        have hm4 := (hown2.alloc (.cells #[.string S, .string vv] 57)).kept hg4 hMB
        rw [← SetA_snoc out (S, vv)] at hm4
        have HM4 := Lib.hid hm4
        have HO4 := Lib.hid (show OwnA (w.heap.size + 1) w4 v' (out ++ [(S, vv)]) by
          unfold OwnA
          rw [List.length_append, List.flatMap_append]
          simpa [acells] using ho4)
        have hs4 : w.heap.size + 1 ≤ w4.heap.size := by simp at hz2' hz4; omega
        go_roundw
        case rel => exact ⟨k + 1, out ++ [(S, vv)], _, rfl, by omega, by go_num, by simp; omega, HQ2.out, HM4.out, HO4.out, hb4, hs4⟩
        case measure => simp [intOf]; omega
    · have hkL : k = L := by omega
      have hltI : ¬ (k : Int) < (L : Int) := by omega
      have HF := Lib.hid (show out = R by rw [HQ.out, List.drop_eq_nil_of_le (by rw [HL.out]; omega)]; simp [firstsFrom])
      clear hkL
      go_wp2
      go_ret
      refine ⟨_, rfl, ?_, hbw⟩
      rw [← HF.out]
      exact own_mono hrow (Nat.le_succ _)
end Go.Proofs.YtlkfibjbfnaagaaDoor
