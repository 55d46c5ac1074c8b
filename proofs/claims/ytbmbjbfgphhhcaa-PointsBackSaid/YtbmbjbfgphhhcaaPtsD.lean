import Derived.Test.YtbmbjbfgphhhcaaPtsM
namespace Go.Proofs.Ytbmbjbfgphhhcaa
open Go.RowKit

theorem info_i32 : (Try.prog.info? 21).map (fun i => (i.zero, i.size, i.bytes)) = some (some (.int .i32 0), 1, 4) := by kernel_rfl

/-- What a call that reads a sheet's signs answers. -/
def Signs (s : ByteArray) (e : Ending) (w : World) : Prop := ∃ v, e = .returned v ∧ Rd .i32 w v (readS s)

/-- What holds at each round's head: 'B1': from where on the row is the call's own; 'K': the iterator's block. -/
def RdInv (B1 K : Nat) (w : World) (s : ByteArray) (sv lv : Value) (wr : World) : Prop :=
  ∃ (pos f : Nat) (last : Int) (out : List Int), pos ≤ s.size ∧ s.size ≤ pos + f ∧ lv = .int .i32 last ∧ out.length ≤ pos ∧
    wr.ownsRow B1 21 1 sv out.length (out.map (Value.int .i32)) ∧ wr.heap[K]? = some (.stringIter s pos) ∧ Below w.heap.size w wr ∧ Going s out f pos (pos == 0) (last == 13)

theorem RdInv.skip {B1 K : Nat} {w W1 : World} {s : ByteArray} {sv : Value} {pos f : Nat} {D : Nat × Nat} {last r : Int} {out : List Int} (hD : Utf8.decode s pos = D) (hp : pos < s.size) (hf : s.size ≤ pos + f) (hol : out.length ≤ pos)
    (hgo : Going s out f pos (pos == 0) (last == 13)) (ho : W1.ownsRow B1 21 1 sv out.length (out.map (Value.int .i32))) (hk : W1.heap[K]? = some (.stringIter s (pos + D.2))) (hb : Below w.heap.size w W1)
    (hw : pos + D.2 ≤ s.size) (hr : r = D.1) (hc : (((pos == 0) && (D.1 : Int) == 65279) || ((last == 13) && (D.1 : Int) == 10)) = true) : RdInv B1 K w s sv (.int .i32 r) W1 := by
  obtain ⟨f, rfl⟩ : ∃ g, f = g + 1 := ⟨f - 1, by omega⟩
  have h1 := width_pos s pos hp
  subst hD
  refine ⟨pos + (Utf8.decode s pos).2, f, r, out, hw, by omega, rfl, by omega, ho, hk, hb, ?_⟩
  have h2 := hgo.skip hp hc
  have h3 : (pos + (Utf8.decode s pos).2 == 0) = false := by simp; omega
  have h4 : (r == 13) = false := by
    rw [hr]
    generalize ((Utf8.decode s pos).1 : Int) = q at hc
    grind
  rw [h3, h4]
  exact h2

theorem RdInv.take {B1 K : Nat} {w W1 W4 : World} {s : ByteArray} {sv sv' : Value} {pos f : Nat} {D : Nat × Nat} {last r : Int} {out : List Int} (hD : Utf8.decode s pos = D) (hp : pos < s.size) (hf : s.size ≤ pos + f) (hol : out.length ≤ pos)
    (hgo : Going s out f pos (pos == 0) (last == 13)) (ho1 : W1.ownsRow B1 21 1 sv out.length (out.map (Value.int .i32))) (hk : W1.heap[K]? = some (.stringIter s (pos + D.2))) (hb : Below w.heap.size w W1)
    {x : Value} (ho : W4.ownsRow B1 21 1 sv' (out.length + 1) (out.map (Value.int .i32) ++ [.int .i32 (sPlain D.1)])) (hg : (W1.alloc (.cells #[x] 21)).grownBy W4 sv.ownBlock)
    (hB1 : w.heap.size ≤ B1) (hw : pos + D.2 ≤ s.size) (hr : r = D.1) (hc : (((pos == 0) && (D.1 : Int) == 65279) || ((last == 13) && (D.1 : Int) == 10)) = false) : RdInv B1 K w s sv' (.int .i32 r) W4 := by
  obtain ⟨f, rfl⟩ : ∃ g, f = g + 1 := ⟨f - 1, by omega⟩
  have h1 := width_pos s pos hp
  subst hD
  have hlt : K < W1.heap.size := (Array.getElem?_eq_some_iff.1 hk).1
  have hk1 : (W1.alloc (.cells #[x] 21)).heap[K]? = some (.stringIter s (pos + (Utf8.decode s pos).2)) := by rw [Below.heap_alloc _ _ _ hlt]; exact hk
  have hk4 := iter_kept (ho1.alloc (.cells #[x] 21)) hk1 hg
  have hb4 : Below w.heap.size w W4 := (hb.alloc hb.size (.cells #[x] 21)).grown hg (by have := hb.size; simp; omega) (fun k hk => by have := (ho1.lt k hk).1; omega)
  refine ⟨pos + (Utf8.decode s pos).2, f, r, out ++ [sPlain (Utf8.decode s pos).1], hw, by omega, rfl, by rw [List.length_append]; simp; omega, ?_, hk4, hb4, ?_⟩
  · rw [List.length_append, List.map_append]
    exact ho
  · have h2 := hgo.take hp hc
    have h3 : (pos + (Utf8.decode s pos).2 == 0) = false := by simp; omega
    rw [h3, hr]
    exact h2

theorem meas_skip {K pos d : Nat} {s : ByteArray} {wr W1 : World} (hk : wr.heap[K]? = some (.stringIter s pos)) (hk1 : W1.heap[K]? = some (.stringIter s (pos + d))) (hd : 1 ≤ d) (hp : pos < s.size) :
    s.size - W1.iterPos K < s.size - wr.iterPos K := by
  rw [iterPos_of hk, iterPos_of hk1]
  omega

theorem meas_take {K pos d : Nat} {s : ByteArray} {wr W1 W4 : World} {B1 e n : Nat} {sv x : Value} {l : List Value} {t : TypeId} (hk : wr.heap[K]? = some (.stringIter s pos)) (hk1 : W1.heap[K]? = some (.stringIter s (pos + d))) (hd : 1 ≤ d) (hp : pos < s.size)
    (ho1 : W1.ownsRow B1 e 1 sv n l) (hg : (W1.alloc (.cells #[x] t)).grownBy W4 sv.ownBlock) :
    s.size - W4.iterPos K < s.size - wr.iterPos K := by
  have hlt : K < W1.heap.size := (Array.getElem?_eq_some_iff.1 hk1).1
  have hk2 : (W1.alloc (.cells #[x] t)).heap[K]? = some (.stringIter s (pos + d)) := by rw [Below.heap_alloc _ _ _ hlt]; exact hk1
  exact meas_skip hk (iter_kept (ho1.alloc (.cells #[x] t)) hk2 hg) hd hp

set_option maxHeartbeats 1600000 in
theorem read_any (xs : List Int) (v : Value) (w : World) (hv : Rd .u8 w v xs) (hs : xs.length ≤ 1000000000) :
    Calls Try.prog 12 #[v] w fun e w' => Signs (strOfNums xs) e w' ∧ Below w.heap.size w w' := by
  obtain ⟨i0, hi, hz0, hz1, hz2⟩ := info_parts info_i32
  have hsz : (strOfNums xs).size = xs.length := strOfNums_size xs
  have HZ := Lib.hid hsz
  clear hsz
  go_enter Try.func12, Try.ntmps12
  go_wp2_with fail
  refine (count_any xs v w hv (by omega)).mono ?_
  rintro e w1 ⟨⟨n, hn, rfl⟩, hb1⟩
  go_wp2_with (at_make; refine wpList_make_own _ rfl _ _ 27 rfl w1.heap.size 21 i0 (.int .i32 0) 1 Try.underlying27 hi hz0 hz1 _ _ _ n rfl rfl rfl (by rw [hz2]; omega) (by unfold maxLen; omega) (Nat.le_refl _) ?_; intro w2 hown hg; have hb2 : Below w.heap.size w w2 := hb1.trans ((Below.refl w.heap.size w1).grown hg hb1.size (fun k hk => by simp at hk)); have hcv := (hv.below hb2).conv)
  have hk0 : (w2.iter (strOfNums xs) 0).heap[w2.heap.size]? = some (.stringIter (strOfNums xs) 0) := World.iter_heap w2 _ 0
  have hown0 := hown.alloc (.stringIter (strOfNums xs) 0)
  have hb3 : Below w.heap.size w (w2.iter (strOfNums xs) 0) := hb2.alloc hb2.size _
  have hge := hb2.size
  have hge0 : w.heap.size ≤ w1.heap.size := hb1.size
  have hge1 : w1.heap.size ≤ w2.heap.size := hg.size
  clear hb1 hb2 hg hown hv
  go_loopw [3, 4] (fun sv lv wr => RdInv w1.heap.size w2.heap.size w (strOfNums xs) sv lv wr)
    (fun _ _ wr => (strOfNums xs).size - wr.iterPos w2.heap.size)
  case atStart => exact ⟨0, (strOfNums xs).size, 0, [], Nat.zero_le _, by omega, rfl, Nat.le_refl _, hown0, hk0, hb3, rfl⟩
  case round =>
    obtain ⟨pos, f, last, out, hps, hf, rfl, hol, ho, hk, hb, hgo⟩ := hrel
    clear hown0 hk0 hb3 hcv
    by_cases hp : pos < (strOfNums xs).size
    · have hnx : ∀ ty, (Instr.next (.pointer (some ⟨w2.heap.size, 0, none⟩)) true ty).run Try.prog wr = _ := fun ty => Lib.run_next_any_at wr _ _ pos ty hk hp
      have hwd := width_pos _ pos hp
      have hk1 := Lib.iterAt_heap wr w2.heap.size _ pos (pos + (Utf8.decode (strOfNums xs) pos).2) hk
      have ho1 := own_iterAt ho hk (pos + (Utf8.decode (strOfNums xs) pos).2)
      have hb1 : Below w.heap.size w (wr.iterAt w2.heap.size (strOfNums xs) (pos + (Utf8.decode (strOfNums xs) pos).2)) := Lib.below_iterAt hb hge _ _
      generalize hW : wr.iterAt w2.heap.size (strOfNums xs) (pos + (Utf8.decode (strOfNums xs) pos).2) = W1 at hnx hk1 ho1 hb1
      clear hW
      generalize hD : Utf8.decode (strOfNums xs) pos = D at *
      have hlt1 : w2.heap.size < W1.heap.size := (Array.getElem?_eq_some_iff.1 hk1).1
      have hp9 : pos ≤ 1000000000 := by have := HZ.out; omega
      have hf1 : 1 ≤ f := by omega
      have hwf := width_fits _ pos hp
      rw [hD] at hwf
      have hgoH := Lib.hid hgo
      have hDH := Lib.hid hD
      clear hgo hD
      go_wp2_with (first | (go_at_call 28; refine (plain_any _ _).mono ?_; rintro e w' ⟨rfl, rfl⟩) | (at_builtin; refine wpList_append_own _ rfl _ _ 27 rfl w1.heap.size 21 i0 (.int .i32 0) 1 4 Try.underlying27 hi hz0 hz1 hz2 rfl (by decide) _ _ _ rfl (ho1.alloc _) ⟨W1.heap.size, 0, none⟩ 1 1 [.int .i32 (sPlain D.1)] rfl rfl (cell_one_new _ _ _) (fun u hu => by simp at hu; subst hu; rfl) (by unfold maxLen; omega) (by omega) (by simp; omega) ?_; intro v' w4 ho4 hg4 _))
      all_goals
        go_roundw
        case rel => first | exact RdInv.take hDH.out hp hf hol hgoH.out ho1 hk1 hb1 ho4 hg4 hge0 hwf (by first | rfl | grind) (by grind) | exact RdInv.skip hDH.out hp hf hol hgoH.out ho1 hk1 hb1 hwf (by first | rfl | grind) (by grind)
        case measure => first | exact meas_take hk hk1 hwd hp ho1 hg4 | exact meas_skip hk hk1 hwd hp
    · have hnx : ∀ ty, (Instr.next (.pointer (some ⟨w2.heap.size, 0, none⟩)) true ty).run Try.prog wr = _ := fun ty => Lib.run_next_end_at wr _ _ pos ty hk hp
      go_wp2
      go_ret
      have hout := hgo.last hp
      subst hout
      exact ⟨⟨_, rfl, Rd.own ho⟩, hb⟩
end Go.Proofs.Ytbmbjbfgphhhcaa
