import Derived.Test.YtbmbjbfgphhhcaaPtsL
import Derived.Lib.AppendStr
namespace Go.Proofs.Ytbmbjbfgphhhcaa
open Go.RowKit

/-- A line's end of each kind. -/
def lineEnd (k : Nat) : List Int := if k = 0 then [13, 10] else if k = 1 then [10] else if k = 2 then [12] else [13]
def lineBytes : List Nat → List Int
  | [] => []
  | k :: ks => lineEnd k ++ 120 :: lineBytes ks
def lineWant : List Nat → List Int
  | [] => []
  | _ :: ks => 10 :: 120 :: lineWant ks

theorem lineBytes_snoc (ks : List Nat) (k : Nat) : lineBytes (ks ++ [k]) = lineBytes ks ++ lineEnd k ++ [120] := by
  induction ks with
  | nil => simp [lineBytes]
  | cons a ks ih => simp [lineBytes, ih]
theorem lineWant_snoc (ks : List Nat) (k : Nat) : lineWant (ks ++ [k]) = lineWant ks ++ [10, 120] := by
  induction ks with
  | nil => simp [lineWant]
  | cons a ks ih => simp [lineWant, ih]
theorem lineEnd_length (k : Nat) : 1 ≤ (lineEnd k).length ∧ (lineEnd k).length ≤ 2 := by
  unfold lineEnd
  split
  · simp
  · split
    · simp
    · split <;> simp
theorem lineBytes_length (ks : List Nat) : (lineBytes ks).length ≤ 3 * ks.length := by
  induction ks with
  | nil => simp [lineBytes]
  | cons a ks ih => have := lineEnd_length a; simp [lineBytes]; omega
theorem lineWant_length (ks : List Nat) : (lineWant ks).length = 2 * ks.length := by
  induction ks with
  | nil => simp [lineWant]
  | cons a ks ih => simp [lineWant]; omega

/-- ASCII bytes are their own signs. -/
theorem runesFrom_ascii (l : List Int) (h : ∀ x ∈ l, 0 ≤ x ∧ x < 128) : ∀ f pos, pos + f = l.length → runesFrom (strOfNums l) f pos = l.drop pos
  | 0, pos, hp => by simp [runesFrom, List.drop_eq_nil_of_le (show l.length ≤ pos by omega)]
  | f + 1, pos, hp => by
    have hlt : pos < l.length := by omega
    have hs : pos < (strOfNums l).size := by rw [strOfNums_size]; exact hlt
    have hx := h l[pos] (List.getElem_mem hlt)
    have hb : ((strOfNums l)[pos]'hs).toNat = l[pos].toNat := by
      show ((strOfNums l).data[pos]'hs).toNat = _
      simp only [strOfNums]
      simp
      omega
    have hd := decode_ascii (strOfNums l) pos hs (by rw [hb]; omega)
    rw [runesFrom, if_pos hs, hd, hb, runesFrom_ascii l h f (pos + 1) (by omega), List.drop_eq_getElem_cons hlt]
    congr 1
    omega

theorem readS_ascii (l : List Int) (h : ∀ x ∈ l, 0 ≤ x ∧ x < 128) : readS (strOfNums l) = readGo l true false := by
  unfold readS
  rw [runesFrom_ascii l h _ 0 (by rw [strOfNums_size]; omega), List.drop_zero]

theorem lineBytes_ascii (ks : List Nat) : ∀ x ∈ lineBytes ks, 0 ≤ x ∧ x < 128 := by
  induction ks with
  | nil => simp [lineBytes]
  | cons a ks ih =>
    intro x hx
    simp only [lineBytes, List.mem_append, List.mem_cons] at hx
    rcases hx with hx | rfl | hx
    · unfold lineEnd at hx
      grind
    · omega
    · exact ih x hx

theorem readGo_lines (ks : List Nat) : ∀ first, readGo (lineBytes ks) first false = lineWant ks := by
  induction ks with
  | nil => intro first; simp [lineBytes, lineWant, readGo]
  | cons a ks ih =>
    intro first
    simp only [lineBytes, lineWant, lineEnd]
    split
    · simp [readGo, sPlain, ih]
    · split
      · simp [readGo, sPlain, ih]
      · split
        · simp [readGo, sPlain, ih]
        · simp [readGo, sPlain, ih]

theorem read_lines (ks : List Nat) : readS (strOfNums (lineBytes ks)) = lineWant ks := by
  rw [readS_ascii _ (lineBytes_ascii ks), readGo_lines]

theorem own_cast {w : World} {B e : Nat} {v : Value} {n n' : Nat} {xs xs' : List Value} (h : w.ownsRow B e 1 v n xs) (h1 : n = n') (h2 : xs = xs') : w.ownsRow B e 1 v n' xs' := by
  subst h1 h2
  exact h

/-- Rows of unlike elements are apart. -/
theorem own_apart {w : World} {B B' e e' n n' s s' : Nat} {v v' : Value} {xs xs' : List Value} (h : w.ownsRow B e s v n xs) (h' : w.ownsRow B' e' s' v' n' xs') (hne : e ≠ e') : v.ownBlock = none ∨ v.ownBlock ≠ v'.ownBlock := by
  rcases h.2 with ⟨rfl, _⟩ | ⟨g, cap, cur, rfl, _, hg, _⟩
  · exact .inl rfl
  · refine .inr ?_
    rcases h'.2 with ⟨rfl, _⟩ | ⟨g', cap', cur', rfl, _, hg', _⟩
    · simp [Value.ownBlock]
    · simp only [Value.ownBlock, ne_eq, Option.some.injEq]
      intro e1
      subst e1
      rw [hg] at hg'
      simp only [Option.some.injEq, Obj.cells.injEq] at hg'
      exact hne hg'.2.1

def LinInv (xs : List Int) (w : World) (bv wv iv : Value) (wr : World) : Prop :=
  ∃ (k : Nat) (ks : List Nat), k ≤ xs.length ∧ iv = .int .i64 k ∧ ks.length = k ∧ wr.ownsRow w.heap.size 5 1 bv (lineBytes ks).length ((lineBytes ks).map (Value.int .u8)) ∧
    wr.ownsRow w.heap.size 21 1 wv (lineWant ks).length ((lineWant ks).map (Value.int .i32)) ∧ Below w.heap.size w wr

theorem mod4 (a1 : Int) : ∃ i : Nat, (i = 0 ∨ i = 1 ∨ i = 2 ∨ i = 3) ∧ (wrap64 (a1.tmod 4 + 4)).tmod 4 = (i : Int) := by
  have h1 : -3 ≤ a1.tmod 4 ∧ a1.tmod 4 ≤ 3 := by
    rcases Int.le_total 0 a1 with h | h
    · rw [Int.tmod_eq_emod_of_nonneg h]
      omega
    · have : a1.tmod 4 = -((-a1) % 4) := by
        rw [← Int.tmod_eq_emod_of_nonneg (by omega : (0 : Int) ≤ -a1), Int.neg_tmod]
        omega
      omega
  have h2 : wrap64 (a1.tmod 4 + 4) = a1.tmod 4 + 4 := by unfold wrap64; omega
  rw [h2, Int.tmod_eq_emod_of_nonneg (by omega)]
  exact ⟨((a1.tmod 4 + 4) % 4).toNat, by omega, by omega⟩

theorem sz1 (a : UInt8) : (⟨#[a]⟩ : ByteArray).size = 1 := rfl
theorem sz2 (a b : UInt8) : (⟨#[a, b]⟩ : ByteArray).size = 2 := rfl
theorem info_u8 : (Try.prog.info? 5).map (fun i => (i.zero, i.size, i.bytes)) = some (some (.int .u8 0), 1, 1) := by kernel_rfl

set_option maxHeartbeats 1600000 in
theorem PointsLines_any (w : World) (xs : List Int) (v : Value) (hv : Rd .i64 w v xs) (_hwf : ∀ x ∈ xs, (Lit.int .i64 x).wf = true) (_hl : xs.length ≤ maxLen) :
    Calls Try.prog 5 #[v] w fun e w' => e = .returned (.bool true) ∧ Below w.heap.size w w' := by
  have hv0 := hv
  obtain ⟨a, c, rfl, hle, hcell⟩ := hv0
  unfold maxLen at _hl
  by_cases h1 : (60 : Int) < xs.length
  · go_enter Try.func5, Try.ntmps5
    go_wp2_with (go_at_call 8; refine (awake_any _).mono ?_; rintro e w2 ⟨rfl, hb2⟩)
    go_ret
    exact ⟨rfl, hb2⟩
  have h3 : xs.length ≤ 60 := by omega
  obtain ⟨i0, hi, hz0, hz1, hz2⟩ := info_parts info_i32
  obtain ⟨j0, gi, gz0, gz1, gz2⟩ := info_parts info_u8
  have HC := Lib.hid hcell
  clear hcell
  go_enter Try.func5, Try.ntmps5
  go_wp2
  go_loopw [3, 4, 5, 6] (fun bv wv iv _ wr => LinInv xs w bv wv iv wr) (fun _ _ iv _ _ => xs.length - (intOf iv).toNat)
  case atStart => exact ⟨0, [], Nat.zero_le _, rfl, rfl, World.ownsRow_nil _ _ _ _, World.ownsRow_nil _ _ _ _, Below.refl _ _⟩
  case round =>
    obtain ⟨k, ks, hk, rfl, hks, ho, hw, hb⟩ := hrel
    have hbl := lineBytes_length ks
    have hwl := lineWant_length ks
    by_cases hlt : k < xs.length
    · obtain ⟨b, off, rfl, hbs, hcl⟩ := HC.out (by omega)
      have e1 : wr.cell? ⟨b, off + k, none⟩ = some (.int .i64 (nth xs k)) := by rw [hb.cell (p := ⟨b, off + k, none⟩) hbs]; exact hcl k hlt
      obtain ⟨m, hm, he⟩ := mod4 (nth xs k)
      have hsz := hb.size
      clear hcl
      rcases hm with rfl | rfl | rfl | rfl
      · go_wp2_with (first | (at_builtin; refine Lib.wpList_append_own_string _ rfl _ _ 22 9 rfl w.heap.size 5 j0 Try.underlying22 Try.underlying9 gi gz0 gz1 gz2 _ _ _ rfl (ho.alloc _) ⟨#[13, 10]⟩ rfl (by unfold maxLen; rw [sz2]; omega) (by rw [sz2]; omega) (by simp; omega) ?_; intro v1 W1 ho1 hg1 _; have hw1 := (hw.alloc _).kept hg1 (own_apart hw ho (by decide)); have hb1 := (hb.alloc hsz _).grown hg1 (by simp; omega) (fun k hk => (ho.lt k hk).1); have hs1 := hb1.size)
                            | (at_builtin; refine wpList_append_own _ rfl _ _ 22 rfl w.heap.size 5 j0 (.int .u8 0) 1 1 Try.underlying22 gi gz0 gz1 gz2 rfl (by decide) _ _ _ rfl (ho1.alloc _) ⟨W1.heap.size, 0, none⟩ 1 1 [.int .u8 120] rfl rfl (cell_one_new _ _ _) (fun u hu => by simp at hu; subst hu; rfl) (by unfold maxLen; rw [sz2]; omega) (by rw [sz2]; omega) (by simp; omega) ?_; intro v2 W2 ho2 hg2 _; have hw2 := (hw1.alloc _).kept hg2 (own_apart hw1 ho1 (by decide)); have hb2 := (hb1.alloc hs1 _).grown hg2 (by simp; omega) (fun k hk => (ho1.lt k hk).1); have hs2 := hb2.size)
                            | (at_builtin; refine wpList_append_own _ rfl _ _ 27 rfl w.heap.size 21 i0 (.int .i32 0) 1 4 Try.underlying27 hi hz0 hz1 hz2 rfl (by decide) _ _ _ rfl (hw2.alloc _) ⟨W2.heap.size, 0, none⟩ 2 2 [.int .i32 10, .int .i32 120] rfl rfl (cell_two_new _ _ _ _) (fun u hu => by simp at hu; rcases hu with rfl | rfl <;> rfl) (by unfold maxLen; omega) (by omega) (by simp; omega) ?_; intro v3 W3 hw3 hg3 _; have ho3 := (ho2.alloc _).kept hg3 (own_apart ho2 hw2 (by decide)); have hb3 := (hb2.alloc hs2 _).grown hg3 (by simp; omega) (fun k hk => (hw2.lt k hk).1)))
        go_roundw
        case rel =>
          refine ⟨k + 1, ks ++ [0], by omega, by go_num, by simp [hks], own_cast ho3 ?_ ?_, own_cast hw3 ?_ ?_, hb3⟩
          · rw [lineBytes_snoc, sz2]; simp [lineEnd]
          · rw [lineBytes_snoc]; simp [lineEnd, Lib.strCells]
          · rw [lineWant_snoc]; simp
          · rw [lineWant_snoc]; simp
        case measure => simp [intOf]; omega
      · go_wp2_with (first | (at_builtin; refine Lib.wpList_append_own_string _ rfl _ _ 22 9 rfl w.heap.size 5 j0 Try.underlying22 Try.underlying9 gi gz0 gz1 gz2 _ _ _ rfl (ho.alloc _) ⟨#[10]⟩ rfl (by unfold maxLen; rw [sz1]; omega) (by rw [sz1]; omega) (by simp; omega) ?_; intro v1 W1 ho1 hg1 _; have hw1 := (hw.alloc _).kept hg1 (own_apart hw ho (by decide)); have hb1 := (hb.alloc hsz _).grown hg1 (by simp; omega) (fun k hk => (ho.lt k hk).1); have hs1 := hb1.size)
                            | (at_builtin; refine wpList_append_own _ rfl _ _ 22 rfl w.heap.size 5 j0 (.int .u8 0) 1 1 Try.underlying22 gi gz0 gz1 gz2 rfl (by decide) _ _ _ rfl (ho1.alloc _) ⟨W1.heap.size, 0, none⟩ 1 1 [.int .u8 120] rfl rfl (cell_one_new _ _ _) (fun u hu => by simp at hu; subst hu; rfl) (by unfold maxLen; rw [sz1]; omega) (by rw [sz1]; omega) (by simp; omega) ?_; intro v2 W2 ho2 hg2 _; have hw2 := (hw1.alloc _).kept hg2 (own_apart hw1 ho1 (by decide)); have hb2 := (hb1.alloc hs1 _).grown hg2 (by simp; omega) (fun k hk => (ho1.lt k hk).1); have hs2 := hb2.size)
                            | (at_builtin; refine wpList_append_own _ rfl _ _ 27 rfl w.heap.size 21 i0 (.int .i32 0) 1 4 Try.underlying27 hi hz0 hz1 hz2 rfl (by decide) _ _ _ rfl (hw2.alloc _) ⟨W2.heap.size, 0, none⟩ 2 2 [.int .i32 10, .int .i32 120] rfl rfl (cell_two_new _ _ _ _) (fun u hu => by simp at hu; rcases hu with rfl | rfl <;> rfl) (by unfold maxLen; omega) (by omega) (by simp; omega) ?_; intro v3 W3 hw3 hg3 _; have ho3 := (ho2.alloc _).kept hg3 (own_apart ho2 hw2 (by decide)); have hb3 := (hb2.alloc hs2 _).grown hg3 (by simp; omega) (fun k hk => (hw2.lt k hk).1)))
        go_roundw
        case rel =>
          refine ⟨k + 1, ks ++ [1], by omega, by go_num, by simp [hks], own_cast ho3 ?_ ?_, own_cast hw3 ?_ ?_, hb3⟩
          · rw [lineBytes_snoc, sz1]; simp [lineEnd]
          · rw [lineBytes_snoc]; simp [lineEnd, Lib.strCells]
          · rw [lineWant_snoc]; simp
          · rw [lineWant_snoc]; simp
        case measure => simp [intOf]; omega
      · go_wp2_with (first | (at_builtin; refine Lib.wpList_append_own_string _ rfl _ _ 22 9 rfl w.heap.size 5 j0 Try.underlying22 Try.underlying9 gi gz0 gz1 gz2 _ _ _ rfl (ho.alloc _) ⟨#[12]⟩ rfl (by unfold maxLen; rw [sz1]; omega) (by rw [sz1]; omega) (by simp; omega) ?_; intro v1 W1 ho1 hg1 _; have hw1 := (hw.alloc _).kept hg1 (own_apart hw ho (by decide)); have hb1 := (hb.alloc hsz _).grown hg1 (by simp; omega) (fun k hk => (ho.lt k hk).1); have hs1 := hb1.size)
                            | (at_builtin; refine wpList_append_own _ rfl _ _ 22 rfl w.heap.size 5 j0 (.int .u8 0) 1 1 Try.underlying22 gi gz0 gz1 gz2 rfl (by decide) _ _ _ rfl (ho1.alloc _) ⟨W1.heap.size, 0, none⟩ 1 1 [.int .u8 120] rfl rfl (cell_one_new _ _ _) (fun u hu => by simp at hu; subst hu; rfl) (by unfold maxLen; rw [sz1]; omega) (by rw [sz1]; omega) (by simp; omega) ?_; intro v2 W2 ho2 hg2 _; have hw2 := (hw1.alloc _).kept hg2 (own_apart hw1 ho1 (by decide)); have hb2 := (hb1.alloc hs1 _).grown hg2 (by simp; omega) (fun k hk => (ho1.lt k hk).1); have hs2 := hb2.size)
                            | (at_builtin; refine wpList_append_own _ rfl _ _ 27 rfl w.heap.size 21 i0 (.int .i32 0) 1 4 Try.underlying27 hi hz0 hz1 hz2 rfl (by decide) _ _ _ rfl (hw2.alloc _) ⟨W2.heap.size, 0, none⟩ 2 2 [.int .i32 10, .int .i32 120] rfl rfl (cell_two_new _ _ _ _) (fun u hu => by simp at hu; rcases hu with rfl | rfl <;> rfl) (by unfold maxLen; omega) (by omega) (by simp; omega) ?_; intro v3 W3 hw3 hg3 _; have ho3 := (ho2.alloc _).kept hg3 (own_apart ho2 hw2 (by decide)); have hb3 := (hb2.alloc hs2 _).grown hg3 (by simp; omega) (fun k hk => (hw2.lt k hk).1)))
        go_roundw
        case rel =>
          refine ⟨k + 1, ks ++ [2], by omega, by go_num, by simp [hks], own_cast ho3 ?_ ?_, own_cast hw3 ?_ ?_, hb3⟩
          · rw [lineBytes_snoc, sz1]; simp [lineEnd]
          · rw [lineBytes_snoc]; simp [lineEnd, Lib.strCells]
          · rw [lineWant_snoc]; simp
          · rw [lineWant_snoc]; simp
        case measure => simp [intOf]; omega
      · go_wp2_with (first | (at_builtin; refine Lib.wpList_append_own_string _ rfl _ _ 22 9 rfl w.heap.size 5 j0 Try.underlying22 Try.underlying9 gi gz0 gz1 gz2 _ _ _ rfl (ho.alloc _) ⟨#[13]⟩ rfl (by unfold maxLen; rw [sz1]; omega) (by rw [sz1]; omega) (by simp; omega) ?_; intro v1 W1 ho1 hg1 _; have hw1 := (hw.alloc _).kept hg1 (own_apart hw ho (by decide)); have hb1 := (hb.alloc hsz _).grown hg1 (by simp; omega) (fun k hk => (ho.lt k hk).1); have hs1 := hb1.size)
                            | (at_builtin; refine wpList_append_own _ rfl _ _ 22 rfl w.heap.size 5 j0 (.int .u8 0) 1 1 Try.underlying22 gi gz0 gz1 gz2 rfl (by decide) _ _ _ rfl (ho1.alloc _) ⟨W1.heap.size, 0, none⟩ 1 1 [.int .u8 120] rfl rfl (cell_one_new _ _ _) (fun u hu => by simp at hu; subst hu; rfl) (by unfold maxLen; rw [sz1]; omega) (by rw [sz1]; omega) (by simp; omega) ?_; intro v2 W2 ho2 hg2 _; have hw2 := (hw1.alloc _).kept hg2 (own_apart hw1 ho1 (by decide)); have hb2 := (hb1.alloc hs1 _).grown hg2 (by simp; omega) (fun k hk => (ho1.lt k hk).1); have hs2 := hb2.size)
                            | (at_builtin; refine wpList_append_own _ rfl _ _ 27 rfl w.heap.size 21 i0 (.int .i32 0) 1 4 Try.underlying27 hi hz0 hz1 hz2 rfl (by decide) _ _ _ rfl (hw2.alloc _) ⟨W2.heap.size, 0, none⟩ 2 2 [.int .i32 10, .int .i32 120] rfl rfl (cell_two_new _ _ _ _) (fun u hu => by simp at hu; rcases hu with rfl | rfl <;> rfl) (by unfold maxLen; omega) (by omega) (by simp; omega) ?_; intro v3 W3 hw3 hg3 _; have ho3 := (ho2.alloc _).kept hg3 (own_apart ho2 hw2 (by decide)); have hb3 := (hb2.alloc hs2 _).grown hg3 (by simp; omega) (fun k hk => (hw2.lt k hk).1)))
        go_roundw
        case rel =>
          refine ⟨k + 1, ks ++ [3], by omega, by go_num, by simp [hks], own_cast ho3 ?_ ?_, own_cast hw3 ?_ ?_, hb3⟩
          · rw [lineBytes_snoc, sz1]; simp [lineEnd]
          · rw [lineBytes_snoc]; simp [lineEnd, Lib.strCells]
          · rw [lineWant_snoc]; simp
          · rw [lineWant_snoc]; simp
        case measure => simp [intOf]; omega
    · have hall := read_lines ks
      have hbl2 : (lineBytes ks).length ≤ 1000000000 := by omega
      have hwl2 : (lineWant ks).length ≤ 1000000000 := by omega
      have hro := Rd.own ho
      have hrw := Rd.own hw
      go_wp2_with (first | (go_at_call 12; refine (read_any (lineBytes ks) _ _ hro hbl2).mono ?_; rintro e w1 ⟨⟨v1, rfl, hr1⟩, hb1⟩; rw [hall] at hr1)
                         | (go_at_call 11; refine (same_any _ _ _ _ _ hr1 (hrw.below hb1) (by omega)).mono ?_; rintro e w3 ⟨rfl, n3, rfl⟩)
                         | (go_at_call 8; refine (awake_any _).mono ?_; rintro e w7 ⟨rfl, hb7⟩))
      go_ret
      exact ⟨rfl, below_seq (below_drewN (hb.trans (hb1.mono hb.size)) n3) hb7⟩
end Go.Proofs.Ytbmbjbfgphhhcaa
