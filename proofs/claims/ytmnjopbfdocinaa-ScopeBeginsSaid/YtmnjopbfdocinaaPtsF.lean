
import Derived.Test.YtmnjopbfdocinaaPtsM
import Derived.Laws.Cover4
import Derived.Laws.IdiomStrings
import Derived.Lib.SlBytesConst
namespace Go.Proofs.Ytmnjopbfdocinaa
open Go.RowKit

end Go.Proofs.Ytmnjopbfdocinaa
namespace Go.Proofs.Ytmnjopbfdocinaa
open Go.RowKit

/-- A byte made small. -/
def lowI (x : Int) : Int := if 65 ≤ x ∧ x ≤ 90 then x + 32 else x
/-- A string's bytes as numbers. -/
def nums (s : ByteArray) : List Int := s.data.toList.map fun b => (b.toNat : Int)
def lowS (s : ByteArray) : ByteArray := strOfNums ((nums s).map lowI)
/-- The first k of them made small. -/
def midL (xs : List Int) (k j : Nat) : Int := if j < k then lowI (nth xs j) else nth xs j

theorem nums_length (s : ByteArray) : (nums s).length = s.size := by unfold nums; rw [List.length_map, Array.length_toList]; rfl
theorem nums_at (s : ByteArray) (j : Nat) (h : j < s.data.size) : nth (nums s) j = ((s.data[j]).toNat : Int) := by
  unfold nth nums
  rw [List.getD_eq_getElem?_getD, List.getElem?_map, Array.getElem?_toList, Array.getElem?_eq_getElem h]
  rfl
theorem nums_bd (s : ByteArray) (j : Nat) (hj : j < s.size) : 0 ≤ nth (nums s) j ∧ nth (nums s) j ≤ 255 := by
  have h : j < s.data.size := hj
  rw [nums_at s j h]
  have := (s.data[j]).toNat_lt
  omega

/-- Bytes of the call's own: at block b, so many, as f says. -/
def OwnB (b n : Nat) (f : Nat → Int) (w : World) : Prop :=
  (∀ j, j < n → w.cell? ⟨b, j, none⟩ = some (.int .u8 (f j))) ∧ (∀ j, j < n → w.frozen? ⟨b, j, none⟩ = false) ∧ b < w.heap.size

theorem OwnB.congr {b n : Nat} {f g : Nat → Int} {w : World} (h : OwnB b n f w) (hfg : ∀ j, j < n → f j = g j) : OwnB b n g w :=
  ⟨fun j hj => by rw [← hfg j hj]; exact h.1 j hj, h.2⟩

theorem OwnB.drewN {b n : Nat} {f : Nat → Int} {w : World} (h : OwnB b n f w) (k : Nat) : OwnB b n f (w.drewN k) := h
theorem OwnB.drew {b n : Nat} {f : Nat → Int} {w : World} (h : OwnB b n f w) : OwnB b n f w.drew := h

theorem OwnB.set {b n k : Nat} {f g : Nat → Int} {x : Int} {w : World} (h : OwnB b n f w) (hk : k < n) (h1 : g k = x) (h2 : ∀ j, j < n → j ≠ k → g j = f j) : OwnB b n g (w.setCell ⟨b, k, none⟩ (.int .u8 x)) := by
  obtain ⟨hc, hf, hb⟩ := h
  refine ⟨fun j hj => ?_, fun j hj => ?_, by simpa using hb⟩
  · by_cases e : j = k
    · subst e
      rw [World.cell?_setCell_same _ _ _ (hc j hj), h1]
    · rw [World.cell?_setCell_other _ _ _ _ (by intro h; cases h; exact e rfl), hc j hj, h2 j hj e]
  · rw [World.frozen?_setCell]
    exact hf j hj

theorem OwnB.rd {b cap : Nat} {xs : List Int} {f : Nat → Int} {w : World} (h : OwnB b xs.length f w) (hle : xs.length ≤ cap) (hf : ∀ j, j < xs.length → f j = nth xs j) : Rd .u8 w (.slice (some ⟨b, 0, none⟩) xs.length cap) xs :=
  ⟨_, cap, rfl, hle, fun _ => ⟨b, 0, rfl, h.2.2, fun j hj => by rw [Nat.zero_add, h.1 j hj, hf j hj]⟩⟩

/-- What []byte(s) lays. -/
theorem OwnB.made (w : World) (s : ByteArray) (cap : Nat) (e : TypeId) (hle : s.size ≤ cap) (f : Nat → Int) (hf : ∀ j, j < s.size → f j = nth (nums s) j) :
    OwnB w.heap.size s.size f (w.drew.alloc (.cells (bytesRow s cap) e ((bytesRow s cap).size, (bytesRow s cap).size + 1))) := by
  have hd : s.data.size = s.size := rfl
  have hsz : (bytesRow s cap).size = cap := by
    unfold bytesRow
    rw [Array.size_append, Array.size_map, Array.size_replicate, hd]
    omega
  have hh : (w.drew.alloc (.cells (bytesRow s cap) e ((bytesRow s cap).size, (bytesRow s cap).size + 1))).heap[w.heap.size]? = some (.cells (bytesRow s cap) e ((bytesRow s cap).size, (bytesRow s cap).size + 1)) := heap_alloc_new w.drew _
  refine ⟨fun j hj => ?_, fun j hj => ?_, ?_⟩
  · have h : j < s.data.size := hj
    simp only [World.cell?, hh]
    rw [hf j hj, nums_at s j h]
    unfold bytesRow
    rw [Array.getElem?_append_left (by rw [Array.size_map]; exact h), Array.getElem?_map, Array.getElem?_eq_getElem h]
    simp
  · have h2 : ¬ cap ≤ j := by omega
    unfold World.frozen?
    rw [hh, hsz]
    simp [h2]
  · simp

theorem lowS_rd {w : World} {s : ByteArray} {b cap : Nat} {v : Value} {f : Nat → Int} (h : OwnB b s.size f w) (hv : v = .slice (some ⟨b, 0, none⟩) s.size cap) (hle : s.size ≤ cap) (hf : ∀ j, j < s.size → f j = lowI (nth (nums s) j)) :
    Rd .u8 w v ((nums s).map lowI) := by
  have hl : ((nums s).map lowI).length = s.size := by rw [List.length_map, nums_length]
  have h2 : OwnB b ((nums s).map lowI).length f w := by rw [hl]; exact h
  have h3 := h2.rd (cap := cap) (by omega) (fun j hj => by
    rw [hf j (by omega)]
    have hj2 : j < (nums s).length := by rw [nums_length]; omega
    unfold nth
    rw [List.getD_eq_getElem?_getD, List.getD_eq_getElem?_getD, List.getElem?_map, List.getElem?_eq_getElem hj2]
    rfl)
  rw [hv]
  rw [hl] at h3
  exact h3

theorem mid_up {xs : List Int} {b n k : Nat} {x : Int} {w : World} (h : OwnB b n (midL xs k) w) (hk : k < n) (hx : x = lowI (nth xs k)) : OwnB b n (midL xs (k + 1)) (w.setCell ⟨b, k, none⟩ (.int .u8 x)) :=
  h.set hk (by simp [midL, hx]) (fun j _ hne => by
    unfold midL
    by_cases h1 : j < k
    · rw [if_pos h1, if_pos (by omega)]
    · rw [if_neg h1, if_neg (by omega)])

theorem mid_same {xs : List Int} {b n k : Nat} {w : World} (h : OwnB b n (midL xs k) w) (hx : lowI (nth xs k) = nth xs k) : OwnB b n (midL xs (k + 1)) w :=
  h.congr (fun j _ => by
    unfold midL
    by_cases h1 : j < k
    · rw [if_pos h1, if_pos (by omega)]
    · by_cases h2 : j = k
      · subst h2
        rw [if_neg h1, if_pos (by omega), hx]
      · rw [if_neg h1, if_neg (by omega)])

end Go.Proofs.Ytmnjopbfdocinaa
namespace Go.Proofs.Ytmnjopbfdocinaa
open Go.RowKit

/-- One step behind another. -/
theorem below_seq {w a b : World} (h : Below w.heap.size w a) (k : Below a.heap.size a b) : Below w.heap.size w b := h.trans (k.mono h.size)

theorem heap_alloc_self (w : World) (o : Obj) : (w.alloc o).heap[w.heap.size]? = some o := by
  show (w.heap.push o)[w.heap.size]? = _
  simp

/-- A slice that has been written out. -/
theorem Rd.lit (w : World) (k : IntKind) (xs : List Int) (C : Array Value) (t : TypeId) (fr : Nat × Nat) (n : Nat) (hC : C = (xs.map (Value.int k)).toArray) (hn : n = xs.length) :
    Rd k (w.alloc (.cells C t fr)) (.slice (some ⟨w.heap.size, 0, none⟩) n n) xs := by
  subst hC hn
  refine ⟨_, _, rfl, Nat.le_refl _, fun _ => ⟨w.heap.size, 0, rfl, by simp, fun j hj => ?_⟩⟩
  rw [Nat.zero_add]
  unfold World.cell?
  rw [heap_alloc_self]
  simp [nth, hj]

theorem awake_read : readS (strOfNums [97, 13, 10, 98, 0, 255]) = [97, 10, 98, 65533, 65533] := by decide +kernel
theorem awake_put : Utf8.encode 8226 = ⟨#[226, 128, 162]⟩ := by decide +kernel
theorem awake_low : lowS ⟨#[65, 98, 195, 132]⟩ = ⟨#[97, 98, 195, 132]⟩ := by decide +kernel

end Go.Proofs.Ytmnjopbfdocinaa
