
import Derived.Test.YtjjkifhegfpceaaDoorTkW
namespace Go.Proofs.YtjjkifhegfpceaaDoor
open Go.RowKit

theorem encB_ascii {x : Int} (h : 0 ≤ x ∧ x < 128) : encB x = [UInt8.ofNat x.toNat] := by
  have hv : Utf8.valid x = true := (valid_iff x).2 (by omega)
  have hc : x.toNat < 128 := by omega
  unfold encB Utf8.encode
  simp [hv, hc]
theorem runes_ascii (l : List Int) (h : ∀ x ∈ l, 0 ≤ x ∧ x < 128) : runesBytes l = strOfNums l := by
  have h1 : (runesBytes l).data.toList = (strOfNums l).data.toList := by
    rw [runesBytes_list, strOfNums_data]
    induction l with
    | nil => rfl
    | cons a l ih =>
      rw [List.flatMap_cons, List.map_cons, encB_ascii (h a (by simp)), ih (fun x hx => h x (List.mem_cons_of_mem _ hx))]
      rfl
  exact ByteArray.ext (Array.ext' h1)
theorem runes_nums (s : ByteArray) (h : ∀ x ∈ nums s, 0 ≤ x ∧ x < 128) : runesBytes (nums s) = s := by rw [runes_ascii _ h, str_nums]
theorem ascii_read (t : ByteArray) (h : ∀ x ∈ nums t, 1 ≤ x ∧ x < 128 ∧ x ≠ 12 ∧ x ≠ 13) : readS t = nums t := by
  have h1 : runesBytes (nums t) = t := runes_nums t (fun x hx => by have := h x hx; omega)
  have h2 := read_back (nums t) (fun x hx => by have := h x hx; exact ⟨(valid_iff x).2 (by omega), by omega, by omega, by omega⟩)
  rw [h1] at h2
  rw [h2]
  cases hn : nums t with
  | nil => rfl
  | cons a l =>
    have := h a (by rw [hn]; simp)
    show (if a = 65279 then l else a :: l) = _
    rw [if_neg (by omega)]
theorem nums_append (a b : ByteArray) : nums (a ++ b) = nums a ++ nums b := by
  unfold nums
  rw [ByteArray.data_append]
  simp
theorem nums_byte {s : ByteArray} {x : Int} (h : x ∈ nums s) : 0 ≤ x ∧ x ≤ 255 := by
  unfold nums at h
  rw [List.mem_map] at h
  obtain ⟨b, _, rfl⟩ := h
  have := b.toNat_lt
  omega
theorem nth_mem {l : List Int} {j : Nat} (h : j < l.length) : nth l j ∈ l := by
  have : nth l j = l[j] := by simp [nth, List.getD_eq_getElem?_getD, List.getElem?_eq_getElem h]
  rw [this]
  exact List.getElem_mem h
theorem mem_nth {l : List Int} {x : Int} (h : x ∈ l) : ∃ j, j < l.length ∧ nth l j = x := by
  obtain ⟨j, hj, rfl⟩ := List.mem_iff_getElem.1 h
  exact ⟨j, hj, by simp [nth, List.getD_eq_getElem?_getD, List.getElem?_eq_getElem hj]⟩

theorem ah_left {l r : List Int} {n : Nat} (h : n < l.length) : ah (l ++ r) n = nth l n := by
  unfold ah nth
  rw [List.getD_eq_getElem?_getD, List.getD_eq_getElem?_getD, List.getElem?_append_left h, List.getElem?_eq_getElem h]
  rfl
theorem ah_right {l r : List Int} {n : Nat} (h : l.length ≤ n) : ah (l ++ r) n = ah r (n - l.length) := by
  unfold ah
  rw [List.getD_eq_getElem?_getD, List.getD_eq_getElem?_getD, List.getElem?_append_right h]
theorem ah_cons0 (a : Int) (l r : List Int) : ah (a :: l ++ r) 0 = a := rfl
theorem nm_names : ∀ (l r : List Int), (∀ x ∈ l, sName x = true) → sName (ah r 0) = false → esc r 0 = false → nm (l ++ r) = (l, r)
  | [], r, _, h1, h2 => nm_else h1 h2
  | a :: l, r, h, h1, h2 => by
    have hn : sName (ah (a :: l ++ r) 0) = true := h a (by simp)
    rw [nm_name hn]
    have hd : dp 1 (a :: l ++ r) = l ++ r := rfl
    rw [hd, nm_names l r (fun x hx => h x (List.mem_cons_of_mem _ hx)) h1 h2]
    rfl
theorem toks_cons {r : List Int} (h : pre [47, 42] r = false) (hl : 1 ≤ r.length) : toks r = (tokT r).1 :: toks (tokT r).2 := by
  rw [toks_eq, cm_no h]
  unfold toksC
  rw [if_neg (by
    have : r ≠ [] := by intro e; rw [e] at hl; simp at hl
    simpa using this)]
theorem pre_ah {a b : Int} {r : List Int} (h : ah r 0 ≠ a) (ha : a ≠ -1) (hb : b ≠ -1) : pre [a, b] r = false := by
  by_cases hp : pre [a, b] r = true
  · exfalso
    have := (pre_iff [a, b] r (by intro x hx; simp at hx; rcases hx with rfl | rfl; exact ha; exact hb)).1 hp 0 (by simp)
    exact h (by simpa [nth] using this)
  · simpa using hp
theorem pre_ah3 {a b c : Int} {r : List Int} (h : ah r 0 ≠ a) (ha : a ≠ -1) (hb : b ≠ -1) (hc : c ≠ -1) : pre [a, b, c] r = false := by
  by_cases hp : pre [a, b, c] r = true
  · exfalso
    have := (pre_iff [a, b, c] r (by intro x hx; simp at hx; rcases hx with rfl | rfl | rfl; exact ha; exact hb; exact hc)).1 hp 0 (by simp)
    exact h (by simpa [nth] using this)
  · simpa using hp

/-- A hash, and what is behind it. -/
theorem tokT_hash {l r : List Int} (hl : 1 ≤ l.length) (hn : ∀ x ∈ l, sName x = true) (h1 : sName (ah r 0) = false) (h2 : esc r 0 = false) :
    tokT (35 :: (l ++ r)) = ({ kind := 4, text := runesBytes l, id := nbg (l ++ r) 0 }, r) := by
  have ha : ah (35 :: (l ++ r)) 0 = 35 := rfl
  have hd : dp 1 (35 :: (l ++ r)) = l ++ r := rfl
  have h3 : sName (ah (35 :: (l ++ r)) 1) = true := by
    cases l with
    | nil => simp at hl
    | cons a l => exact hn a (by simp)
  unfold tokT
  rw [ha, if_neg (by decide), if_neg (by decide), if_pos rfl]
  unfold hashT
  rw [if_pos (by rw [h3]; rfl), hd, nm_names l r hn h1 h2]

theorem tokRefl_run (t : Tok) (w : World) : (binOp .eql 77 t.val t.val).run Tryd.prog w = .ok (.bool true) w := by
  rw [tokEq_run, (tokB_iff t t).2 rfl]
theorem wrap_byte {x : Int} (h : 0 ≤ x ∧ x ≤ 255) : wrap32 x = x := by unfold wrap32; omega
def LawPost (w : World) (e : Ending) (w' : World) : Prop := e = .returned (.bool true) ∧ Below w.heap.size w w'
end Go.Proofs.YtjjkifhegfpceaaDoor
