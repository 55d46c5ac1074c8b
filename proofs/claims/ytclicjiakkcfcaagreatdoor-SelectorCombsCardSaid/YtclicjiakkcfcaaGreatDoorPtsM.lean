import Derived.Test.YtclicjiakkcfcaaGreatDoorPtsA
set_option maxRecDepth 100000
set_option maxHeartbeats 1600000
namespace Go.Proofs.YtclicjiakkcfcaaGreatDoor
open Go.RowKit
def runesFrom (s : ByteArray) : Nat → Nat → List Int
  | 0, _ => []
  | f + 1, pos => if pos < s.size then ((Utf8.decode s pos).1 : Int) :: runesFrom s f (pos + (Utf8.decode s pos).2) else []
def readGo : List Int → Bool → Bool → List Int
  | [], _, _ => []
  | r :: rs, first, cr => if (first && r == 65279) || (cr && r == 10) then readGo rs false false else sPlain r :: readGo rs false (r == 13)
def readS (s : ByteArray) : List Int := readGo (runesFrom s s.size 0) true false
theorem width_fits (s : ByteArray) (pos : Nat) (h : pos < s.size) : pos + (Utf8.decode s pos).2 ≤ s.size := by
 simp only [Utf8.decode]
 repeat' split
 all_goals simp_all
 all_goals omega
theorem runesFrom_end (s : ByteArray) (f pos : Nat) (h : ¬ pos < s.size) : runesFrom s f pos = [] := by
 cases f <;> simp [runesFrom, h]
theorem runesFrom_length (s : ByteArray) : ∀ f pos, (runesFrom s f pos).length ≤ s.size - pos
  | 0, _ => by simp [runesFrom]
  | f + 1, pos => by
   unfold runesFrom
   split
   · have := runesFrom_length s f (pos + (Utf8.decode s pos).2)
     have := width_pos s pos ‹_›
     rw [List.length_cons]; omega
   · simp
theorem readGo_length : ∀ (rs : List Int) (a b : Bool), (readGo rs a b).length ≤ rs.length
  | [], _, _ => by simp [readGo]
  | r :: rs, a, b => by
   unfold readGo
   split
   · have := readGo_length rs false false; rw [List.length_cons]; omega
   · have := readGo_length rs false (r == 13); simp only [List.length_cons]; omega
theorem readS_length (s : ByteArray) : (readS s).length ≤ s.size :=
 Nat.le_trans (readGo_length _ _ _) (Nat.le_trans (runesFrom_length _ _ _) (Nat.sub_le _ _))
def Going (s : ByteArray) (out : List Int) (f pos : Nat) (first cr : Bool) : Prop :=
 out ++ readGo (runesFrom s f pos) first cr = readS s
theorem Going.skip {s : ByteArray} {out : List Int} {f pos : Nat} {first cr : Bool} (h : Going s out (f + 1) pos first cr) (hp : pos < s.size)
    (hs : ((first && ((Utf8.decode s pos).1 : Int) == 65279) || (cr && ((Utf8.decode s pos).1 : Int) == 10)) = true) :
    Going s out f (pos + (Utf8.decode s pos).2) false false := by
  unfold Going at h ⊢
  rw [runesFrom, if_pos hp, readGo, if_pos hs] at h
  exact h
theorem Going.take {s : ByteArray} {out : List Int} {f pos : Nat} {first cr : Bool} (h : Going s out (f + 1) pos first cr) (hp : pos < s.size)
    (hs : ((first && ((Utf8.decode s pos).1 : Int) == 65279) || (cr && ((Utf8.decode s pos).1 : Int) == 10)) = false) :
    Going s (out ++ [sPlain (Utf8.decode s pos).1]) f (pos + (Utf8.decode s pos).2) false (((Utf8.decode s pos).1 : Int) == 13) := by
  unfold Going at h ⊢
  rw [runesFrom, if_pos hp, readGo, if_neg (by rw [hs]; simp)] at h
  rw [List.append_assoc]
  exact h
theorem Going.last {s : ByteArray} {out : List Int} {f pos : Nat} {first cr : Bool} (h : Going s out f pos first cr) (hp : ¬ pos < s.size) : out = readS s := by
 unfold Going at h
 rw [runesFrom_end s f pos hp, readGo, List.append_nil] at h
 exact h
theorem cell_one_new (w : World) (x : Value) (t : TypeId) : ∀ j u, [x][j]? = some u → (w.alloc (.cells #[x] t)).cell? ((⟨w.heap.size, 0, none⟩ : Addr).add j) = some u := by
 intro j u hj
 match j, hj with
 | 0, hj => simp at hj; subst hj; simp [Addr.add]
 | j + 1, hj => simp at hj
theorem own_iterAt {w : World} {B e size n : Nat} {v : Value} {xs : List Value} {k : Nat} {s : ByteArray} {pos : Nat} (h : w.ownsRow B e size v n xs) (hk : w.heap[k]? = some (.stringIter s pos)) (pos' : Nat) : (w.iterAt k s pos').ownsRow B e size v n xs := by
 obtain ⟨h1, h2⟩ := h
 refine ⟨h1, ?_⟩
 rcases h2 with h2 | ⟨g, cap, cur, a, b, c, d⟩
 · exact .inl h2
 · refine .inr ⟨g, cap, cur, a, b, ?_, d⟩
   rw [Lib.iterAt_other _ _ _ _ _ (fun e => by subst e; rw [hk] at c; cases c)]
   exact c
theorem iter_kept {w w' : World} {B e size n : Nat} {v : Value} {xs : List Value} {k : Nat} {s : ByteArray} {pos : Nat} (h : w.ownsRow B e size v n xs) (hk : w.heap[k]? = some (.stringIter s pos)) (hg : w.grownBy w' v.ownBlock) : w'.heap[k]? = some (.stringIter s pos) := by
 rw [hg.block k (Array.getElem?_eq_some_iff.1 hk).1 ?_]
 · exact hk
 · intro e
   rcases h.2 with ⟨rfl, _⟩ | ⟨g, cap, cur, rfl, b, c, d⟩
   · simp [Value.ownBlock] at e
   · simp [Value.ownBlock] at e
     subst e
     rw [hk] at c
     cases c
theorem Rd.own {k : IntKind} {w : World} {B e : Nat} {v : Value} {xs : List Int} (h : w.ownsRow B e 1 v xs.length (xs.map (Value.int k))) : Rd k w v xs := by
 have hl := h.lt
 have hc := fun g hg => h.cells (g := g) hg
 rcases h.2 with ⟨rfl, h0⟩ | ⟨g, cap, cur, rfl, b, c, d, _⟩
 · exact ⟨none, 0, by rw [h0], by omega, fun hp => by omega⟩
 · refine ⟨_, cap, rfl, d, fun _ => ⟨g, 0, rfl, (hl g rfl).2, fun j hj => ?_⟩⟩
   have := hc g rfl j (.int k (nth xs j)) (by rw [List.getElem?_map, List.getElem?_eq_getElem hj]; simp [nth, List.getD_eq_getElem?_getD, List.getElem?_eq_getElem hj])
   have hadd : (⟨g, 0, none⟩ : Addr).add j = ⟨g, 0 + j, none⟩ := by unfold Addr.add; split <;> simp_all
   rw [hadd] at this
   exact this
theorem info_i32 : (Tryz.prog.info? 21).map (fun i => (i.zero, i.size, i.bytes)) = some (some (.int .i32 0), 1, 4) := by kernel_rfl
def Signs (s : ByteArray) (e : Ending) (w : World) : Prop := ∃ v, e = .returned v ∧ Rd .i32 w v (readS s)
theorem meas_skip {K pos d : Nat} {s : ByteArray} {wr W1 : World} (hk : wr.heap[K]? = some (.stringIter s pos)) (hk1 : W1.heap[K]? = some (.stringIter s (pos + d))) (hd : 1 ≤ d) (hp : pos < s.size) :
    s.size - W1.iterPos K < s.size - wr.iterPos K := by
  rw [iterPos_of hk, iterPos_of hk1]
  omega
theorem meas_take {K pos d : Nat} {s : ByteArray} {wr W1 W4 : World} {B1 e n : Nat} {sv x : Value} {l : List Value} {t : TypeId} (hk : wr.heap[K]? = some (.stringIter s pos)) (hk1 : W1.heap[K]? = some (.stringIter s (pos + d))) (hd : 1 ≤ d) (hp : pos < s.size)
    (ho1 : W1.ownsRow B1 e 1 sv n l) (hg : (W1.alloc (.cells #[x] t)).grownBy W4 sv.ownBlock) :
    s.size - W4.iterPos K < s.size - wr.iterPos K := by
  have hlt : K < W1.heap.size := (Array.getElem?_eq_some_iff.1 hk1).1
  have hk2 : (W1.alloc (.cells #[x] t)).heap[K]? = some (.stringIter s (pos + d)) := by rw [Below.heap_alloc _ _ _ hlt]; exact hk1
  exact meas_skip hk (iter_kept (ho1.alloc (.cells #[x] t)) hk2 hg) hd hp
def Fresh (a b : Bool) : Prop := a = true → b = false
def RefInv (B1 K : Nat) (w : World) (s : ByteArray) (sv fv cv : Value) (wr : World) : Prop :=
 ∃ (pos f : Nat) (first cr : Bool) (out : List Int), pos ≤ s.size ∧ s.size ≤ pos + f ∧ fv = .bool first ∧ cv = .bool cr ∧ out.length ≤ pos ∧
   wr.ownsRow B1 21 1 sv out.length (out.map (Value.int .i32)) ∧ wr.heap[K]? = some (.stringIter s pos) ∧ Below w.heap.size w wr ∧ Going s out f pos first cr ∧ Fresh first cr
theorem RefInv.skip {B1 K : Nat} {w W1 : World} {s : ByteArray} {sv : Value} {pos f : Nat} {D : Nat × Nat} {first cr : Bool} {out : List Int} (hD : Utf8.decode s pos = D) (hp : pos < s.size) (hf : s.size ≤ pos + f) (hol : out.length ≤ pos)
    (hgo : Going s out f pos first cr) (ho : W1.ownsRow B1 21 1 sv out.length (out.map (Value.int .i32))) (hk : W1.heap[K]? = some (.stringIter s (pos + D.2))) (hb : Below w.heap.size w W1)
    (hw : pos + D.2 ≤ s.size) {a b : Bool} (ha : a = false) (hbb : b = false) (hc : ((first && (D.1 : Int) == 65279) || (cr && (D.1 : Int) == 10)) = true) : RefInv B1 K w s sv (.bool a) (.bool b) W1 := by
  obtain ⟨f, rfl⟩ : ∃ g, f = g + 1 := ⟨f - 1, by omega⟩
  have h1 := width_pos s pos hp
  subst hD ha hbb
  exact ⟨pos + (Utf8.decode s pos).2, f, false, false, out, hw, by omega, rfl, rfl, by omega, ho, hk, hb, hgo.skip hp hc, by simp [Fresh]⟩
theorem RefInv.take {B1 K : Nat} {w W1 W4 : World} {s : ByteArray} {sv sv' : Value} {pos f : Nat} {D : Nat × Nat} {first cr : Bool} {r : Int} {out : List Int} (hD : Utf8.decode s pos = D) (hp : pos < s.size) (hf : s.size ≤ pos + f) (hol : out.length ≤ pos)
    (hgo : Going s out f pos first cr) (ho1 : W1.ownsRow B1 21 1 sv out.length (out.map (Value.int .i32))) (hk : W1.heap[K]? = some (.stringIter s (pos + D.2))) (hb : Below w.heap.size w W1)
    {x : Value} (ho : W4.ownsRow B1 21 1 sv' (out.length + 1) (out.map (Value.int .i32) ++ [.int .i32 r])) (hg : (W1.alloc (.cells #[x] 21)).grownBy W4 sv.ownBlock)
    (hB1 : w.heap.size ≤ B1) (hw : pos + D.2 ≤ s.size) (hr : r = sPlain D.1) {a b : Bool} (ha : a = false) (hbb : b = ((D.1 : Int) == 13)) (hc : ((first && (D.1 : Int) == 65279) || (cr && (D.1 : Int) == 10)) = false) : RefInv B1 K w s sv' (.bool a) (.bool b) W4 := by
  obtain ⟨f, rfl⟩ : ∃ g, f = g + 1 := ⟨f - 1, by omega⟩
  have h1 := width_pos s pos hp
  subst hD ha hbb hr
  have hlt : K < W1.heap.size := (Array.getElem?_eq_some_iff.1 hk).1
  have hk1 : (W1.alloc (.cells #[x] 21)).heap[K]? = some (.stringIter s (pos + (Utf8.decode s pos).2)) := by rw [Below.heap_alloc _ _ _ hlt]; exact hk
  have hk4 := iter_kept (ho1.alloc (.cells #[x] 21)) hk1 hg
  have hb4 : Below w.heap.size w W4 := (hb.alloc hb.size (.cells #[x] 21)).grown hg (by have := hb.size; simp; omega) (fun k hk => by have := (ho1.lt k hk).1; omega)
  refine ⟨pos + (Utf8.decode s pos).2, f, false, _, out ++ [sPlain (Utf8.decode s pos).1], hw, by omega, rfl, rfl, by rw [List.length_append]; simp; omega, ?_, hk4, hb4, hgo.take hp hc, by simp [Fresh]⟩
  rw [List.length_append, List.map_append]
  exact ho
theorem refread_any (xs : List Int) (v : Value) (w : World) (hv : Rd .u8 w v xs) (hs : xs.length ≤ 1000000000) :
    Calls Tryz.prog 17 #[v] w fun e w' => Signs (strOfNums xs) e w' ∧ Below w.heap.size w w' := by
  obtain ⟨i0, hi, hz0, hz1, hz2⟩ := info_parts info_i32
  have hsz : (strOfNums xs).size = xs.length := strOfNums_size xs
  have HZ := Lib.hid hsz
  clear hsz
  have hcv := hv.conv
  have hk0 : (w.iter (strOfNums xs) 0).heap[w.heap.size]? = some (.stringIter (strOfNums xs) 0) := World.iter_heap w _ 0
  have hown0 : (w.iter (strOfNums xs) 0).ownsRow w.heap.size 21 1 (.slice none 0 0) 0 [] := World.ownsRow_nil _ _ _ _
  have hb3 : Below w.heap.size w (w.iter (strOfNums xs) 0) := (Below.refl _ w).alloc (Nat.le_refl _) _
  clear hv
  go_enter Tryz.func17, Tryz.ntmps17
  go_wp2
  go_loopw [3, 4, 5, 7] (fun sv fv cv _ wr => RefInv w.heap.size w.heap.size w (strOfNums xs) sv fv cv wr)
    (fun _ _ _ _ wr => (strOfNums xs).size - wr.iterPos w.heap.size)
  case atStart => exact ⟨0, (strOfNums xs).size, true, false, [], Nat.zero_le _, by omega, rfl, rfl, Nat.le_refl _, hown0, hk0, hb3, rfl, fun _ => rfl⟩
  case round =>
   obtain ⟨pos, f, first, cr, out, hps, hf, rfl, rfl, hol, ho, hk, hb, hgo, hfc⟩ := hrel
   clear hown0 hk0 hb3 hcv
   by_cases hp : pos < (strOfNums xs).size
   · have hnx : ∀ ty, (Instr.next (.pointer (some ⟨w.heap.size, 0, none⟩)) true ty).run Tryz.prog wr = _ := fun ty => Lib.run_next_any_at wr _ _ pos ty hk hp
     have hwd := width_pos _ pos hp
     have hk1 := Lib.iterAt_heap wr w.heap.size _ pos (pos + (Utf8.decode (strOfNums xs) pos).2) hk
     have ho1 := own_iterAt ho hk (pos + (Utf8.decode (strOfNums xs) pos).2)
     have hb1 : Below w.heap.size w (wr.iterAt w.heap.size (strOfNums xs) (pos + (Utf8.decode (strOfNums xs) pos).2)) := Lib.below_iterAt hb (Nat.le_refl _) _ _
     generalize hW : wr.iterAt w.heap.size (strOfNums xs) (pos + (Utf8.decode (strOfNums xs) pos).2) = W1 at hnx hk1 ho1 hb1
     clear hW
     generalize hD : Utf8.decode (strOfNums xs) pos = D at *
     have hlt1 : w.heap.size < W1.heap.size := (Array.getElem?_eq_some_iff.1 hk1).1
     have hp9 : pos ≤ 1000000000 := by have := HZ.out; omega
     have hf1 : 1 ≤ f := by omega
     have hwf := width_fits _ pos hp
     rw [hD] at hwf
     have hgoH := Lib.hid hgo
     have hDH := Lib.hid hD
     clear hgo hD
     go_wp2_with (at_builtin; refine wpList_append_own _ rfl _ _ 50 rfl w.heap.size 21 i0 (.int .i32 0) 1 4 Tryz.underlying50 hi hz0 hz1 hz2 rfl (by decide) _ _ _ rfl (ho1.alloc _) ⟨W1.heap.size, 0, none⟩ 1 1 [.int .i32 _] rfl rfl (cell_one_new _ _ _) (fun u hu => by simp at hu; subst hu; rfl) (by unfold maxLen; omega) (by omega) (by simp; omega) ?_; intro v' w4 ho4 hg4 _)
     all_goals
       go_roundw
       case rel =>
        unfold Fresh at hfc
        first | exact RefInv.take hDH.out hp hf hol hgoH.out ho1 hk1 hb1 ho4 hg4 (Nat.le_refl _) hwf (by first | rfl | grind [sPlain]) rfl (by first | rfl | grind) (by grind) | exact RefInv.skip hDH.out hp hf hol hgoH.out ho1 hk1 hb1 hwf rfl (by first | rfl | grind) (by grind)
       case measure => first | exact meas_take hk hk1 hwd hp ho1 hg4 | exact meas_skip hk hk1 hwd hp
   · have hnx : ∀ ty, (Instr.next (.pointer (some ⟨w.heap.size, 0, none⟩)) true ty).run Tryz.prog wr = _ := fun ty => Lib.run_next_end_at wr _ _ pos ty hk hp
     go_wp2
     go_ret
     have hout := hgo.last hp
     subst hout
     exact ⟨⟨_, rfl, Rd.own ho⟩, hb⟩
end Go.Proofs.YtclicjiakkcfcaaGreatDoor
