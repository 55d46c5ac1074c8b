
import Derived.Test.YtfpgkfpehkelcaaPtsD
namespace Go.Proofs.Ytfpgkfpehkelcaa
open Go.RowKit

/-- Before the first sign no CR has been read. -/
def Fresh (a b : Bool) : Prop := a = true → b = false

/-- What holds at each round's head of the document's own Read. -/
def RefInv (B1 K : Nat) (w : World) (s : ByteArray) (sv fv cv : Value) (wr : World) : Prop :=
  ∃ (pos f : Nat) (first cr : Bool) (out : List Int), pos ≤ s.size ∧ s.size ≤ pos + f ∧ fv = .bool first ∧ cv = .bool cr ∧ out.length ≤ pos ∧
    wr.ownsRow B1 21 1 sv out.length (out.map (Value.int .i32)) ∧ wr.heap[K]? = some (.stringIter s pos) ∧ Below w.heap.size w wr ∧ Going s out f pos first cr ∧ Fresh first cr

theorem RefInv.skip {B1 K : Nat} {w W1 : World} {s : ByteArray} {sv : Value} {pos f : Nat} {D : Nat × Nat} {first cr : Bool} {out : List Int} (hD : Utf8.decode s pos = D) (hp : pos < s.size) (hf : s.size ≤ pos + f) (hol : out.length ≤ pos)
    (hgo : Going s out f pos first cr) (ho : W1.ownsRow B1 21 1 sv out.length (out.map (Value.int .i32))) (hk : W1.heap[K]? = some (.stringIter s (pos + D.2))) (hb : Below w.heap.size w W1)
    (hw : pos + D.2 ≤ s.size) {a b : Bool} (ha : a = false) (hbb : b = false) (hc : ((first && (D.1 : Int) == 65279) || (cr && (D.1 : Int) == 10)) = true) : RefInv B1 K w s sv (.bool a) (.bool b) W1 := by
  obtain ⟨f, rfl⟩ : ∃ g, f = g + 1 := ⟨f - 1, by omega⟩
  have h1 := width_pos s pos hp
  subst hD ha hbb
  exact ⟨pos + (Utf8.decode s pos).2, f, false, false, out, hw, by omega, rfl, rfl, by omega, ho, hk, hb, hgo.skip hp hc, by simp [Fresh]⟩

theorem RefInv.take {B1 K : Nat} {w W1 W4 : World} {s : ByteArray} {sv sv' : Value} {pos f : Nat} {D : Nat × Nat} {first cr : Bool} {r : Int} {out : List Int} (hD : Utf8.decode s pos = D) (hp : pos < s.size) (hf : s.size ≤ pos + f) (hol : out.length ≤ pos)
    (hgo : Going s out f pos first cr) (ho1 : W1.ownsRow B1 21 1 sv out.length (out.map (Value.int .i32))) (hk : W1.heap[K]? = some (.stringIter s (pos + D.2))) (hb : Below w.heap.size w W1)
    {x : Value} (ho : W4.ownsRow B1 21 1 sv' (out.length + 1) (out.map (Value.int .i32) ++ [.int .i32 r])) (hg : (W1.alloc (.cells #[x] 21)).grownBy W4 sv.ownBlock)
    (hB1 : w.heap.size ≤ B1) (hw : pos + D.2 ≤ s.size) (hr : r = sPlain D.1) {a b : Bool} (ha : a = false) (hbb : b = ((D.1 : Int) == 13)) (hc : ((first && (D.1 : Int) == 65279) || (cr && (D.1 : Int) == 10)) = false) : RefInv B1 K w s sv' (.bool a) (.bool b) W4 := by
  obtain ⟨f, rfl⟩ : ∃ g, f = g + 1 := ⟨f - 1, by omega⟩
  have h1 := width_pos s pos hp
  subst hD ha hbb hr
  have hlt : K < W1.heap.size := (Array.getElem?_eq_some_iff.1 hk).1
  have hk1 : (W1.alloc (.cells #[x] 21)).heap[K]? = some (.stringIter s (pos + (Utf8.decode s pos).2)) := by rw [Below.heap_alloc _ _ _ hlt]; exact hk
  have hk4 := iter_kept (ho1.alloc (.cells #[x] 21)) hk1 hg
  have hb4 : Below w.heap.size w W4 := (hb.alloc hb.size (.cells #[x] 21)).grown hg (by have := hb.size; simp; omega) (fun k hk => by have := (ho1.lt k hk).1; omega)
  refine ⟨pos + (Utf8.decode s pos).2, f, false, _, out ++ [sPlain (Utf8.decode s pos).1], hw, by omega, rfl, rfl, by rw [List.length_append]; simp; omega, ?_, hk4, hb4, hgo.take hp hc, by simp [Fresh]⟩
  rw [List.length_append, List.map_append]
  exact ho

set_option maxRecDepth 100000 in
set_option maxHeartbeats 1600000 in
theorem refread_any (xs : List Int) (v : Value) (w : World) (hv : Rd .u8 w v xs) (hs : xs.length ≤ 1000000000) :
    Calls Try.prog 19 #[v] w fun e w' => Signs (strOfNums xs) e w' ∧ Below w.heap.size w w' := by
  obtain ⟨i0, hi, hz0, hz1, hz2⟩ := info_parts info_i32
  have hsz : (strOfNums xs).size = xs.length := strOfNums_size xs
  have HZ := Lib.hid hsz
  clear hsz
  have hcv := hv.conv
  have hk0 : (w.iter (strOfNums xs) 0).heap[w.heap.size]? = some (.stringIter (strOfNums xs) 0) := World.iter_heap w _ 0
  have hown0 : (w.iter (strOfNums xs) 0).ownsRow w.heap.size 21 1 (.slice none 0 0) 0 [] := World.ownsRow_nil _ _ _ _
  have hb3 : Below w.heap.size w (w.iter (strOfNums xs) 0) := (Below.refl _ w).alloc (Nat.le_refl _) _
  clear hv
  go_enter Try.func19, Try.ntmps19
  go_wp2
  go_loopw [3, 4, 5, 7] (fun sv fv cv _ wr => RefInv w.heap.size w.heap.size w (strOfNums xs) sv fv cv wr)
    (fun _ _ _ _ wr => (strOfNums xs).size - wr.iterPos w.heap.size)
  case atStart => exact ⟨0, (strOfNums xs).size, true, false, [], Nat.zero_le _, by omega, rfl, rfl, Nat.le_refl _, hown0, hk0, hb3, rfl, fun _ => rfl⟩
  case round =>
    obtain ⟨pos, f, first, cr, out, hps, hf, rfl, rfl, hol, ho, hk, hb, hgo, hfc⟩ := hrel
    clear hown0 hk0 hb3 hcv
    by_cases hp : pos < (strOfNums xs).size
    · have hnx : ∀ ty, (Instr.next (.pointer (some ⟨w.heap.size, 0, none⟩)) true ty).run Try.prog wr = _ := fun ty => Lib.run_next_any_at wr _ _ pos ty hk hp
      have hwd := width_pos _ pos hp
      have hk1 := Lib.iterAt_heap wr w.heap.size _ pos (pos + (Utf8.decode (strOfNums xs) pos).2) hk
      have ho1 := own_iterAt ho hk (pos + (Utf8.decode (strOfNums xs) pos).2)
      have hb1 : Below w.heap.size w (wr.iterAt w.heap.size (strOfNums xs) (pos + (Utf8.decode (strOfNums xs) pos).2)) := Lib.below_iterAt hb (Nat.le_refl _) _ _
      generalize hW : wr.iterAt w.heap.size (strOfNums xs) (pos + (Utf8.decode (strOfNums xs) pos).2) = W1 at hnx hk1 ho1 hb1
      clear hW
      generalize hD : Utf8.decode (strOfNums xs) pos = D at *
      have hlt1 : w.heap.size < W1.heap.size := (Array.getElem?_eq_some_iff.1 hk1).1
      have hp9 : pos ≤ 1000000000 := by have := HZ.out; omega
      have hf1 : 1 ≤ f := by omega
      have hwf := width_fits _ pos hp
      rw [hD] at hwf
      have hgoH := Lib.hid hgo
      have hDH := Lib.hid hD
      clear hgo hD
      go_wp2_with (at_builtin; refine wpList_append_own _ rfl _ _ 44 rfl w.heap.size 21 i0 (.int .i32 0) 1 4 Try.underlying44 hi hz0 hz1 hz2 rfl (by decide) _ _ _ rfl (ho1.alloc _) ⟨W1.heap.size, 0, none⟩ 1 1 [.int .i32 _] rfl rfl (cell_one_new _ _ _) (fun u hu => by simp at hu; subst hu; rfl) (by unfold maxLen; omega) (by omega) (by simp; omega) ?_; intro v' w4 ho4 hg4 _)
      all_goals
        go_roundw
        case rel =>
          unfold Fresh at hfc
          first | exact RefInv.take hDH.out hp hf hol hgoH.out ho1 hk1 hb1 ho4 hg4 (Nat.le_refl _) hwf (by first | rfl | grind [sPlain]) rfl (by first | rfl | grind) (by grind) | exact RefInv.skip hDH.out hp hf hol hgoH.out ho1 hk1 hb1 hwf rfl (by first | rfl | grind) (by grind)
        case measure => first | exact meas_take hk hk1 hwd hp ho1 hg4 | exact meas_skip hk hk1 hwd hp
    · have hnx : ∀ ty, (Instr.next (.pointer (some ⟨w.heap.size, 0, none⟩)) true ty).run Try.prog wr = _ := fun ty => Lib.run_next_end_at wr _ _ pos ty hk hp
      go_wp2
      go_ret
      have hout := hgo.last hp
      subst hout
      exact ⟨⟨_, rfl, Rd.own ho⟩, hb⟩
end Go.Proofs.Ytfpgkfpehkelcaa
