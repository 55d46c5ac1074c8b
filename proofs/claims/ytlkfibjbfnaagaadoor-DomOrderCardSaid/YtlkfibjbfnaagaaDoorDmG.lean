
import Derived.Test.YtlkfibjbfnaagaaDoorDmF
namespace Go.Proofs.YtlkfibjbfnaagaaDoor
open Go.RowKit Go.Maps Go.WideMaps Go.Shelf
theorem info_int : (Tryd.prog.info? 3).map (fun i => (i.zero, i.size, i.bytes)) = some (some (.int .i64 0), 1, 8) := by kernel_rfl
abbrev OwnI (B : Nat) (w : World) (v : Value) (l : List Nat) : Prop := w.ownsRow B 3 1 v l.length ((ints l).map (Value.int .i64))
theorem ints_snoc (l : List Nat) (k : Nat) : (ints (l ++ [k])).map (Value.int .i64) = (ints l).map (Value.int .i64) ++ [.int .i64 (k : Int)] := by
  unfold ints
  rw [List.map_append, List.map_append]
  rfl
def elemsOf (es : List NdD) (l : List Nat) : List Nat := l.filter fun k => elemS es k
theorem elems_snoc (es : List NdD) (l : List Nat) (k : Nat) : elemsOf es (l ++ [k]) = elemsOf es l ++ (if elemS es k = true then [k] else []) := by
  unfold elemsOf
  rw [List.filter_append]
  congr 1
  cases h : elemS es k with
  | true => simp [h]
  | false => simp [h]
set_option maxRecDepth 100000 in
set_option maxHeartbeats 1600000 in
theorem elements_any {w : World} {tb g c : Nat} {es : List NdD} (h : TreeR w tb g c es) (hw : WF es) (i : Int) : Calls Tryd.prog 24 #[tp tb, .int .i64 i] w (IntsPost w (elemsOf es (kidsS es i))) := by
  obtain ⟨i0, hi, hz0, hz1, hz2⟩ := info_parts info_int
  have HT := Lib.hid (there_any h i)
  cases ht : thereS es i with
  | false =>
    rw [kids_no ht]
    rw [ht] at HT
    clear h ht
    go_enter Tryd.func24, Tryd.ntmps24
    go_wp2_with (go_at_call 37; (with_reducible refine HT.out.mono ?_); rintro e w1 ⟨rfl, rfl⟩)
    go_ret
    exact ⟨_, rfl, rd_nil _ _ _, Below.refl _ _⟩
  | true =>
    rw [ht] at HT
    obtain ⟨k, rfl, hk⟩ := there_yes ht
    rw [kids_at hk]
    obtain ⟨av, kv, ha, _, hkv⟩ := h.nodes k hk
    have hr := h.root
    have q5 := ha.c5
    have hlen := h.len
    have hfew := hw.few k hk
    have hkI : (k : Int) < (es.length : Int) := by omega
    obtain ⟨a', c', rfl, hle, hkv⟩ := hkv
    obtain ⟨L, hL⟩ : ∃ L, (es[k]).kids = L := ⟨_, rfl⟩
    rw [hL] at q5 hkv hle hfew ⊢
    rw [ints_len] at hkv hle q5
    have HE := fun {w2 : World} (hb : Below w.heap.size w w2) (j : Int) => Lib.hid (element_any (h.below hb) j)
    have HK := Lib.hid hkv
    obtain ⟨R, hR⟩ : ∃ R, elemsOf es L = R := ⟨_, rfl⟩
    rw [hR]
    have HR := Lib.hid hR
    obtain ⟨N, hN⟩ : ∃ N, L.length = N := ⟨_, rfl⟩
    have HN := Lib.hid hN
    rw [hN] at q5 hle hfew
    clear h ha ht hL hw hkv hR hN
    go_enter Tryd.func24, Tryd.ntmps24
    go_wp2_with (go_at_call 37; (with_reducible refine HT.out.mono ?_); rintro e w1 ⟨rfl, rfl⟩)
    go_loopw [5, 21] (fun lv iv wr => ∃ (j : Nat) (q : Value), q = lv ∧ iv = .int .i64 j ∧ j ≤ N ∧ OwnI w.heap.size wr q (elemsOf es (L.take j)) ∧ Below w.heap.size w wr) (fun _ iv _ => N - (intOf iv).toNat)
    case atStart => exact ⟨0, _, rfl, rfl, Nat.zero_le _, World.ownsRow_nil _ _ _ _, Below.refl _ _⟩
    case round =>
      obtain ⟨j, lv, rfl, rfl, hj, hrow, hb⟩ := hrel
      by_cases hlt : j < N
      · have hltI : (j : Int) < (N : Int) := by omega
        have hjL : j < L.length := by rw [HN.out]; exact hlt
        obtain ⟨b, off, rfl, hbl, hcc⟩ := HK.out (by omega)
        have hc0 := hcc j hjL
        rw [ints_at hjL] at hc0
        replace hc0 := (hb.cell (p := ⟨b, off + j, none⟩) hbl).trans hc0
        have htk : elemsOf es (L.take (j + 1)) = elemsOf es (L.take j) ++ (if elemS es (L[j]) = true then [L[j]] else []) := by
          rw [List.take_succ_eq_append_getElem hjL, elems_snoc]
        have HE2 := HE hb (L[j] : Int)
        obtain ⟨x, hx⟩ : ∃ x, L[j] = x := ⟨_, rfl⟩
        rw [hx] at hc0 htk HE2
        have HTK := Lib.hid htk
        have hol : (elemsOf es (L.take j)).length ≤ j := Nat.le_trans (List.length_filter_le _ _) (by rw [List.length_take]; omega)
        clear hcc htk hx
        cases he : elemS es x with
        | true =>
          rw [he] at HE2
          have HT2 := Lib.hid (show elemsOf es (L.take (j + 1)) = elemsOf es (L.take j) ++ [x] by rw [HTK.out, he]; rfl)
          clear he
          go_wp2_with (first | (go_at_call 44; (with_reducible refine HE2.out.mono ?_); rintro e w1 ⟨rfl, rfl⟩) | (at_builtin; refine wpList_append_own _ rfl _ _ 33 rfl w.heap.size 3 i0 (.int .i64 0) 1 8 Tryd.underlying33 hi hz0 hz1 hz2 rfl (by decide) _ _ _ rfl (World.ownsRow.alloc hrow _) ⟨_, 0, none⟩ 1 1 [.int .i64 x] rfl rfl (cell_one_new _ _ _) (fun u hu => by simp at hu; subst hu; rfl) (by unfold maxLen; omega) (by omega) (by have := hb.size; simp; omega) ?_; intro v' w4 ho4 hg4 _))
          have hb4 : Below w.heap.size w w4 := (hb.alloc hb.size _).grown hg4 (by have := hb.size; simp; omega) (fun z hz => (World.ownsRow.lt hrow z hz).1)
          have HO := Lib.hid (show OwnI w.heap.size w4 v' (elemsOf es (L.take (j + 1))) by
            rw [HT2.out]
            show w4.ownsRow _ _ _ _ _ _
            rw [List.length_append, ints_snoc]
            exact ho4)
          go_roundw
          case rel => exact ⟨j + 1, _, rfl, by go_num, by omega, HO.out, hb4⟩
          case measure => simp [intOf]; omega
        | false =>
          rw [he] at HE2
          have HT2 := Lib.hid (show elemsOf es (L.take (j + 1)) = elemsOf es (L.take j) by rw [HTK.out, he]; simp)
          clear he
          go_wp2_with (go_at_call 44; (with_reducible refine HE2.out.mono ?_); rintro e w1 ⟨rfl, rfl⟩)
          go_roundw
          case rel => exact ⟨j + 1, _, rfl, by go_num, by omega, by rw [HT2.out]; exact hrow, hb⟩
          case measure => simp [intOf]; omega
      · have hltI : ¬ (j : Int) < (N : Int) := by omega
        have HF := Lib.hid (show elemsOf es (L.take j) = R by rw [List.take_of_length_le (by rw [HN.out]; omega)]; exact HR.out)
        go_wp2
        go_ret
        refine ⟨_, rfl, ?_, hb⟩
        rw [← HF.out]
        exact rd_own hrow
def befF (es : List NdD) : Nat → Int → List Nat
  | 0, _ => []
  | n + 1, a => if a = -1 then [] else match es[a.toNat]? with
    | some e => a.toNat :: befF es n e.ahead
    | none => []
def beforeS (es : List NdD) (i : Int) : List Nat := if 0 ≤ i then (match es[i.toNat]? with
  | some e => befF es i.toNat e.ahead
  | none => []) else []
theorem before_at {es : List NdD} {k : Nat} (h : k < es.length) : beforeS es k = befF es k (es[k]).ahead := by
  unfold beforeS
  rw [if_pos (by omega), Int.toNat_natCast, List.getElem?_eq_getElem h]
theorem before_no {es : List NdD} {i : Int} (h : thereS es i = false) : beforeS es i = [] := by
  unfold beforeS
  split
  · have := of_decide_eq_false h
    rw [List.getElem?_eq_none (by omega)]
  · rfl
theorem bef_step {es : List NdD} {n x : Nat} (hx : x < es.length) : befF es (n + 1) x = x :: befF es n (es[x]).ahead := by
  rw [befF]
  rw [if_neg (by omega), Int.toNat_natCast, List.getElem?_eq_getElem hx]
/-- So much fuel is enough. -/
theorem bef_more {es : List NdD} (hw : WF es) : ∀ (n : Nat) (a : Int), a < n → -1 ≤ a → a < es.length → ∀ m : Nat, a < m → befF es n a = befF es m a := by
  intro n
  induction n with
  | zero =>
    intro a h1 h2 h3 m hm
    obtain rfl : a = -1 := by omega
    cases m with
    | zero => rfl
    | succ m => rfl
  | succ n ih =>
    intro a h1 h2 h3 m hm
    cases m with
    | zero =>
      obtain rfl : a = -1 := by omega
      rfl
    | succ m =>
      by_cases ha : a = -1
      · subst ha; rfl
      · obtain ⟨x, rfl⟩ : ∃ x : Nat, a = x := ⟨a.toNat, by omega⟩
        have hx : x < es.length := by omega
        rw [bef_step hx, bef_step hx]
        have := hw.ahead x hx
        rw [ih _ (by omega) this.2 (by omega) m (by omega)]
set_option maxRecDepth 100000 in
set_option maxHeartbeats 1600000 in
theorem before_any {w : World} {tb g c : Nat} {es : List NdD} (h : TreeR w tb g c es) (hw : WF es) (i : Int) : Calls Tryd.prog 27 #[tp tb, .int .i64 i] w (IntsPost w (beforeS es i)) := by
  obtain ⟨i0, hi, hz0, hz1, hz2⟩ := info_parts info_int
  have HT := Lib.hid (there_any h i)
  cases ht : thereS es i with
  | false =>
    rw [before_no ht]
    rw [ht] at HT
    clear h ht
    go_enter Tryd.func27, Tryd.ntmps27
    go_wp2_with (go_at_call 37; (with_reducible refine HT.out.mono ?_); rintro e w1 ⟨rfl, rfl⟩)
    go_ret
    exact ⟨_, rfl, rd_nil _ _ _, Below.refl _ _⟩
  | true =>
    rw [ht] at HT
    obtain ⟨k, rfl, hk⟩ := there_yes ht
    rw [before_at hk]
    obtain ⟨av, kv, ha, _, _⟩ := h.nodes k hk
    have hr := h.root
    have q6 := ha.c6
    have hlen := h.len
    have hkI : (k : Int) < (es.length : Int) := by omega
    have hah := hw.ahead k hk
    obtain ⟨A0, hA0⟩ : ∃ A0, (es[k]).ahead = A0 := ⟨_, rfl⟩
    rw [hA0] at q6 hah ⊢
    obtain ⟨R, hR⟩ : ∃ R, befF es k A0 = R := ⟨_, rfl⟩
    rw [hR]
    have HR := Lib.hid hR
    have HH := Lib.hid h
    have HW := Lib.hid hw
    have HRT := fun {w2 : World} (hb : Below w.heap.size w w2) => (h.below hb).root
    clear h ha ht hw hA0 hR
    go_enter Tryd.func27, Tryd.ntmps27
    go_wp2_with (go_at_call 37; (with_reducible refine HT.out.mono ?_); rintro e w1 ⟨rfl, rfl⟩)
    clear hr q6
    go_loopw [5, 6] (fun lv iv wr => ∃ (a : Int) (n : Nat) (l : List Nat) (q : Value), q = lv ∧ iv = .int .i64 a ∧ a < n ∧ -1 ≤ a ∧ a < es.length ∧ n + l.length ≤ k ∧ R = l ++ befF es n a ∧ OwnI w.heap.size wr q l ∧ Below w.heap.size w wr) (fun _ iv _ => (intOf iv + 1).toNat)
    case atStart => exact ⟨A0, k, [], _, rfl, rfl, hah.1, hah.2, by omega, by simp, HR.out.symm, World.ownsRow_nil _ _ _ _, Below.refl _ _⟩
    case round =>
      obtain ⟨a, n, l, lv, rfl, rfl, h1, h2, h3, h4, hq, hrow, hb⟩ := hrel
      have HQ := Lib.hid hq
      clear hq
      by_cases ha : a = -1
      · subst ha
        have HF := Lib.hid (show l = R by rw [HQ.out]; cases n <;> simp [befF])
        go_wp2
        go_ret
        refine ⟨_, rfl, ?_, hb⟩
        rw [← HF.out]
        exact rd_own hrow
      · obtain ⟨x, rfl⟩ : ∃ x : Nat, a = x := ⟨a.toNat, by omega⟩
        have hx : x < es.length := by omega
        have hxI : (x : Int) < (es.length : Int) := h3
        have hne : ((x : Int) != -1) = true := by rw [bne_iff_ne]; omega
        obtain ⟨av, kv, hat, _, _⟩ := HH.out.nodes x hx
        have hgl := HH.out.gl
        have q6 := (hb.cell (p := ⟨g, x * 7 + 6, none⟩) hgl).trans hat.c6
        have hr := HRT hb
        have hah2 := HW.out.ahead x hx
        obtain ⟨m, rfl⟩ : ∃ m, n = m + 1 := ⟨n - 1, by omega⟩
        have HQ2 := Lib.hid (show R = (l ++ [x]) ++ befF es m (es[x]).ahead by rw [HQ.out, bef_step hx, List.append_assoc]; rfl)
        obtain ⟨A2, hA2⟩ : ∃ A2, (es[x]).ahead = A2 := ⟨_, rfl⟩
        rw [hA2] at q6 hah2 HQ2
        have hbl : g < wr.heap.size := Nat.lt_of_lt_of_le hgl hb.size
        have htl : tb < wr.heap.size := Nat.lt_of_lt_of_le HH.out.tl hb.size
        have hgB : g < w.heap.size := hgl
        have htB : tb < w.heap.size := HH.out.tl
        clear hat hA2 ha
        go_wp2_with (at_builtin; refine wpList_append_own _ rfl _ _ 33 rfl w.heap.size 3 i0 (.int .i64 0) 1 8 Tryd.underlying33 hi hz0 hz1 hz2 rfl (by decide) _ _ _ rfl (World.ownsRow.alloc hrow _) ⟨_, 0, none⟩ 1 1 [.int .i64 x] rfl rfl (cell_one_new _ _ _) (fun u hu => by simp at hu; subst hu; rfl) (by unfold maxLen; omega) (by omega) (by have := hb.size; simp; omega) ?_; intro v' w4 ho4 hg4 _; have hb4 : Below w.heap.size w w4 := (hb.alloc hb.size _).grown hg4 (by have := hb.size; simp; omega) (fun z hz => (World.ownsRow.lt hrow z hz).1); have q6' := (hb4.cell (p := ⟨g, x * 7 + 6, none⟩) hgB).trans ((hb.cell (p := ⟨g, x * 7 + 6, none⟩) hgB).symm.trans q6); have hr' := HRT hb4)
        have HO := Lib.hid (show OwnI w.heap.size w4 v' (l ++ [x]) by
          show w4.ownsRow _ _ _ _ _ _
          rw [List.length_append, ints_snoc]
          exact ho4)
        go_roundw
        case rel => exact ⟨A2, m, l ++ [x], _, rfl, rfl, by omega, hah2.2, by omega, by rw [List.length_append]; simp; omega, HQ2.out, HO.out, hb4⟩
        case measure => simp [intOf]; omega
end Go.Proofs.YtlkfibjbfnaagaaDoor
