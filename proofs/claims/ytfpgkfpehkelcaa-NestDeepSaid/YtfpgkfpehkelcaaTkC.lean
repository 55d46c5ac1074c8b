
import Derived.Test.YtfpgkfpehkelcaaTkP
namespace Go.Proofs.Ytfpgkfpehkelcaa
open Go.RowKit

theorem pre_iff : ∀ (l r : List Int), (∀ x ∈ l, x ≠ -1) → (pre l r = true ↔ ∀ j, j < l.length → ah r j = nth l j)
  | [], r, _ => by simp [pre]
  | a :: l, [], h => by
    simp only [pre, List.isPrefixOf, Bool.false_eq_true, false_iff]
    intro h2
    have := h2 0 (by simp)
    simp [nth] at this
    exact h a (by simp) this.symm
  | a :: l, b :: t, h => by
    have ih := pre_iff l t (fun x hx => h x (by simp [hx]))
    unfold pre at ih
    simp only [pre, List.isPrefixOf, Bool.and_eq_true, beq_iff_eq, ih]
    constructor
    · rintro ⟨rfl, h2⟩ j hj
      cases j with
      | zero => simp [nth]
      | succ j => simpa [nth] using h2 j (by simpa using hj)
    · intro h2
      refine ⟨?_, fun j hj => ?_⟩
      · have := h2 0 (by simp)
        simpa [nth] using this.symm
      · have := h2 (j + 1) (by simpa using hj)
        simpa [nth] using this
theorem pre_len {l r : List Int} (h : pre l r = true) : l.length ≤ r.length := by
  unfold pre at h
  exact (List.isPrefixOf_iff_prefix.1 h).length_le

/-- What 'took' answers. -/
def Took (T : TypeId) (g : Nat) (v : Value) (xs r : List Int) (w0 : World) (l : List Int) (e : Ending) (w' : World) : Prop :=
  (e = .returned (.bool true) ∧ pre l r = true ∧ Now T g v xs (dp l.length r) w0 w') ∨ (e = .returned (.bool false) ∧ pre l r = false ∧ Now T g v xs r w0 w')

def TkInv (T : TypeId) (g : Nat) (v : Value) (xs r : List Int) (w0 : World) (s : ByteArray) (K : Nat) (wr : World) : Prop :=
  ∃ pos, pos ≤ s.size ∧ wr.heap[K]? = some (.stringIter s pos) ∧ Now T g v xs r w0 wr ∧ ∀ j, j < pos → ah r j = nth (nums s) j

theorem Now.iter {T : TypeId} {g : Nat} {v : Value} {xs r : List Int} {w0 w : World} (h : Now T g v xs r w0 w) {K : Nat} (hK : w0.heap.size ≤ K) (s : ByteArray) (p : Nat) : Now T g v xs r w0 (w.iterAt K s p) := by
  have ho := h.old
  have hb : ∀ i, i ≠ K → (w.iterAt K s p).heap[i]? = w.heap[i]? := fun i hi => Lib.iterAt_other _ _ _ _ _ hi
  have hsz : (w.iterAt K s p).heap.size = w.heap.size := by simp [World.iterAt]
  refine ⟨h.st.keep (hb g (by omega)) (fun h0 b hv hl => hb b (by have := h.vold b h0 hv; omega)) (by omega), ⟨h.gw.os, h.gw.tape, h.gw.output, by rw [hsz]; exact h.gw.size, fun i hi hne => ?_⟩, ho, h.vold⟩
  rw [hb i (by omega)]
  exact h.gw.block i hi hne

section
variable {g : Nat} {v : Value} {xs r : List Int} {w0 w : World}
set_option maxRecDepth 100000 in
set_option maxHeartbeats 400000 in
theorem took_any (h : Now 57 g v xs r w0 w) (s : ByteArray) (l : List Int) (hl : nums s = l) (hs : s.size ≤ 16) (ha : ∀ x ∈ l, 0 ≤ x ∧ x < 128) :
    Calls Try.prog 38 #[.pointer (some ⟨g, 0, none⟩), .string s] w fun e w' => Took 57 g v xs r w0 l e w' := by
  have hll : l.length = s.size := by rw [← hl, nums_length]
  have HPI := Lib.hid (pre_iff l r (fun x hx e => by have := ha x hx; omega))
  have hsz := h.gw.size
  have hr := h.st.rlen'
  have hpl : pre l r = true → l.length ≤ r.length := pre_len
  have HL := Lib.hid hl
  have HLL := Lib.hid hll
  have HA := Lib.hid ha
  clear hl hll ha
  have hk0 : (w.iter s 0).heap[w.heap.size]? = some (.stringIter s 0) := World.iter_heap w _ 0
  have hn0 : Now 57 g v xs r w0 (w.iter s 0) := h.alloc _
  go_enter Try.func38, Try.ntmps38
  go_wp2
  go_loopw [5, 6] (fun _ _ wr => TkInv 57 g v xs r w0 s w.heap.size wr) (fun _ _ wr => s.size - wr.iterPos w.heap.size)
  case atStart => exact ⟨0, Nat.zero_le _, hk0, hn0, fun j hj => absurd hj (by omega)⟩
  case round =>
    obtain ⟨pos, hps, hk, hn, hall⟩ := hrel
    have HALL := Lib.hid hall
    clear hk0 hn0 hall
    by_cases hp : pos < s.size
    · have hpd : pos < s.data.size := hp
      have hnth : nth (nums s) pos = ((s.data[pos]).toNat : Int) := nums_at s pos hpd
      have hlt : ((s.data[pos]).toNat : Int) < 128 := by
        rw [← hnth]
        refine (HA.out _ ?_).2
        rw [← HL.out]
        have hl2 : pos < (nums s).length := by rw [nums_length]; exact hp
        have : nth (nums s) pos = (nums s)[pos] := by simp [nth, List.getD_eq_getElem?_getD, List.getElem?_eq_getElem hl2]
        rw [this]
        exact List.getElem_mem hl2
      have hdec : Utf8.decode s pos = ((s.data[pos]).toNat, 1) := decode_ascii s pos hp (by show (s.data[pos]).toNat < 128; omega)
      have hnx : ∀ ty, (Instr.next (.pointer (some ⟨w.heap.size, 0, none⟩)) true ty).run Try.prog wr = _ := fun ty => Lib.run_next_any_at wr _ _ pos ty hk hp
      have hk1 := Lib.iterAt_heap wr w.heap.size s pos (pos + (Utf8.decode s pos).2) hk
      have hn1 := hn.iter (K := w.heap.size) hsz s (pos + (Utf8.decode s pos).2)
      rw [hdec] at hnx hk1 hn1
      simp only at hnx hk1 hn1
      generalize hW : wr.iterAt w.heap.size s (pos + 1) = W1 at hnx hk1 hn1
      clear hW hdec
      have hq : 0 ≤ ((s.data[pos]).toNat : Int) := by omega
      generalize ((s.data[pos]).toNat : Int) = q at *
      have HNTH := Lib.hid hnth
      clear hnth
      have hlt1 : w.heap.size < W1.heap.size := (Array.getElem?_eq_some_iff.1 hk1).1
      have hnb := hn1.st.now
      by_cases heq : ah r pos = q
      · have hne : (ah r pos != q) = false := by simp [heq]
        have HE := Lib.hid heq
        clear heq
        go_wp2_with (go_at_call 41; refine (ahead_any hnb pos (by omega)).mono ?_; rintro e w1 ⟨rfl, h1⟩)
        go_roundw
        case rel =>
          refine ⟨pos + 1, by omega, ?_, h1.since hn1, fun j hj => ?_⟩
          · rw [h1.gw.block _ hlt1 (by intro e; injection e; have := hn1.old; omega)]
            exact hk1
          · by_cases e : j = pos
            · rw [e, HE.out, HNTH.out]
            · exact HALL.out j (by omega)
        case measure =>
          have hk2 : w1.heap[w.heap.size]? = some (.stringIter s (pos + 1)) := by
            rw [h1.gw.block _ hlt1 (by intro e; injection e; have := hn1.old; omega)]
            exact hk1
          exact meas_skip hk hk2 (Nat.le_refl _) hp
      · have hne : (ah r pos != q) = true := by simp [heq]
        have HE := Lib.hid heq
        clear heq
        go_wp2_with (go_at_call 41; refine (ahead_any hnb pos (by omega)).mono ?_; rintro e w1 ⟨rfl, h1⟩)
        go_ret
        refine .inr ⟨rfl, ?_, h1.since hn1⟩
        have hnp : ¬ pre l r = true := fun hpre => HE.out (by rw [HPI.out.1 hpre pos (by rw [HLL.out]; exact hp), ← HL.out, HNTH.out])
        simpa using hnp
    · have hnx : ∀ ty, (Instr.next (.pointer (some ⟨w.heap.size, 0, none⟩)) true ty).run Try.prog wr = _ := fun ty => Lib.run_next_end_at wr _ _ pos ty hk hp
      have hpre : pre l r = true := HPI.out.2 (fun j hj => by rw [HALL.out j (by have := HLL.out; omega), HL.out])
      have hlen := hpl hpre
      go_wp2_with (go_at_call 39; refine (skip_any hn s.size (by have := HLL.out; omega)).mono ?_; rintro e w1 ⟨rfl, h1⟩)
      go_ret
      refine .inl ⟨rfl, hpre, ?_⟩
      rw [HLL.out]
      exact h1
end
end Go.Proofs.Ytfpgkfpehkelcaa
