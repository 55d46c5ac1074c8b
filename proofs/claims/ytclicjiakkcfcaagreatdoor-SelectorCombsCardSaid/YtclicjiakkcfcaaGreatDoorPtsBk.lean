import Derived.Test.YtclicjiakkcfcaaGreatDoorPtsL
import Derived.Lib.DecodeN
namespace Go.Proofs.YtclicjiakkcfcaaGreatDoor
open Go.RowKit
def encB (r : Int) : List UInt8 := (Utf8.encode r).data.toList
theorem runesBytes_foldl (l : List Int) : ∀ s : ByteArray, (l.foldl (fun r n => r ++ Utf8.encode n) s).data.toList = s.data.toList ++ l.flatMap encB := by
 induction l with
 | nil => intro s; simp
 | cons a l ih =>
  intro s
  rw [List.foldl_cons, ih, List.flatMap_cons]
  simp [encB]
theorem runesBytes_list (l : List Int) : (runesBytes l).data.toList = l.flatMap encB := by
 unfold runesBytes
 rw [runesBytes_foldl]
 rfl
theorem runesBytes_snoc (l : List Int) (r : Int) : runesBytes (l ++ [r]) = runesBytes l ++ Utf8.encode r := by
 unfold runesBytes
 rw [List.foldl_append]
 rfl
theorem get_list (s : ByteArray) (i : Nat) : s.get! i = s.data.toList.getD i 0 := by
 show s.data[i]! = _
 rw [List.getD_eq_getElem?_getD, Array.getElem?_toList, getElem!_def]
 cases s.data[i]? <;> rfl
theorem u8_of (n : Nat) : (UInt8.ofNat n).toNat = n % 256 := by simp
theorem decode_enc (s : ByteArray) (pre post : List UInt8) (r : Int) (hv : Utf8.valid r = true) (hs : s.data.toList = pre ++ (encB r ++ post)) :
    Utf8.decode s pre.length = (r.toNat, (encB r).length) := by
  have hsz : s.size = pre.length + ((encB r).length + post.length) := by
   have h1 : s.size = s.data.toList.length := by rw [Array.length_toList]; rfl
   rw [h1, hs, List.length_append, List.length_append]
  have hg : ∀ j, j < (encB r).length → s.get! (pre.length + j) = (encB r).getD j 0 := fun j hj => by
   rw [get_list, hs, List.getD_eq_getElem?_getD, List.getD_eq_getElem?_getD, List.getElem?_append_right (by omega), Nat.add_sub_cancel_left, List.getElem?_append_left hj]
  have hr : (0 ≤ r ∧ r < 55296) ∨ (57343 < r ∧ r ≤ 1114111) := by
   rw [validRune_eq] at hv
   simpa [validRune] using hv
  rw [Lib.decode_at]
  have key : ∀ bs : List UInt8, encB r = bs → s.size - pre.length = bs.length + post.length ∧ ∀ j, j < bs.length → s.get! (pre.length + j) = bs.getD j 0 := fun bs hb => by
   subst hb
   exact ⟨by omega, hg⟩
  have hq : ((r.toNat : Nat) : Int) = r := by omega
  have hq2 : r.toNat < 55296 ∨ (57343 < r.toNat ∧ r.toNat ≤ 1114111) := by omega
  clear hr hq
  by_cases c1 : r.toNat < 128
  · have hb : encB r = [UInt8.ofNat r.toNat] := by
     unfold encB Utf8.encode
     simp [hv, c1]
    obtain ⟨k1, k2⟩ := key _ hb
    simp only [List.length_cons, List.length_nil] at k1
    have g0 := k2 0 (by simp)
    simp only [Nat.add_zero] at g0
    rw [g0, hb, k1]
    simp only [Lib.decodeN, List.getD_cons_zero, u8_of, List.length_cons, List.length_nil]
    generalize r.toNat = q at *
    clear hb k2 hs hsz hg key hv
    repeat' split
    all_goals first | (exfalso; omega) | (apply Prod.ext <;> simp only <;> omega)
  by_cases c2 : r.toNat < 2048
  · have hb : encB r = [UInt8.ofNat (192 + r.toNat / 64), UInt8.ofNat (128 + r.toNat % 64)] := by
     unfold encB Utf8.encode
     simp [hv, c1, c2]
    obtain ⟨k1, k2⟩ := key _ hb
    simp only [List.length_cons, List.length_nil] at k1
    have g0 := k2 0 (by simp)
    have g1 := k2 1 (by simp)
    simp only [Nat.add_zero] at g0
    rw [g0, g1, hb, k1]
    simp only [Lib.decodeN, List.getD_cons_zero, List.getD_cons_succ, u8_of, List.length_cons, List.length_nil]
    generalize r.toNat = q at *
    clear hb k2 hs hsz hg key hv
    repeat' split
    all_goals first | (exfalso; omega) | (apply Prod.ext <;> simp only <;> omega)
  by_cases c3 : r.toNat < 65536
  · have hb : encB r = [UInt8.ofNat (224 + r.toNat / 4096), UInt8.ofNat (128 + r.toNat / 64 % 64), UInt8.ofNat (128 + r.toNat % 64)] := by
     unfold encB Utf8.encode
     simp [hv, c1, c2, c3]
    obtain ⟨k1, k2⟩ := key _ hb
    simp only [List.length_cons, List.length_nil] at k1
    have g0 := k2 0 (by simp)
    have g1 := k2 1 (by simp)
    have g2 := k2 2 (by simp)
    simp only [Nat.add_zero] at g0
    rw [g0, g1, g2, hb, k1]
    simp only [Lib.decodeN, List.getD_cons_zero, List.getD_cons_succ, u8_of, List.length_cons, List.length_nil]
    generalize r.toNat = q at *
    clear hb k2 hs hsz hg key hv
    repeat' split
    all_goals first | (exfalso; omega) | (apply Prod.ext <;> simp only <;> omega)
  · have hb : encB r = [UInt8.ofNat (240 + r.toNat / 262144), UInt8.ofNat (128 + r.toNat / 4096 % 64), UInt8.ofNat (128 + r.toNat / 64 % 64), UInt8.ofNat (128 + r.toNat % 64)] := by
     unfold encB Utf8.encode
     simp [hv, c1, c2, c3]
    obtain ⟨k1, k2⟩ := key _ hb
    simp only [List.length_cons, List.length_nil] at k1
    have g0 := k2 0 (by simp)
    have g1 := k2 1 (by simp)
    have g2 := k2 2 (by simp)
    have g3 := k2 3 (by simp)
    simp only [Nat.add_zero] at g0
    rw [g0, g1, g2, g3, hb, k1]
    simp only [Lib.decodeN, List.getD_cons_zero, List.getD_cons_succ, u8_of, List.length_cons, List.length_nil]
    generalize r.toNat = q at *
    clear hb k2 hs hsz hg key hv
    repeat' split
    all_goals first | (exfalso; omega) | (apply Prod.ext <;> simp only <;> omega)
def Good (r : Int) : Prop := Utf8.valid r = true ∧ r ≠ 13 ∧ r ≠ 12 ∧ r ≠ 0
theorem valid_iff (r : Int) : Utf8.valid r = true ↔ (0 ≤ r ∧ r < 55296) ∨ (57343 < r ∧ r ≤ 1114111) := by
 rw [validRune_eq]
 simp [validRune]
theorem decode_valid (s : ByteArray) (pos : Nat) : Utf8.valid ((Utf8.decode s pos).1 : Int) = true := by
 rw [valid_iff, Lib.decode_at]
 have h0 : (s.get! pos).toNat < 256 := (s.get! pos).toNat_lt
 generalize (s.get! pos).toNat = b0 at *
 generalize (s.get! (pos + 1)).toNat = b1
 generalize (s.get! (pos + 2)).toNat = b2
 generalize (s.get! (pos + 3)).toNat = b3
 generalize s.size - pos = n
 unfold Lib.decodeN
 repeat' split
 all_goals simp only
 all_goals omega
theorem runesFrom_valid (s : ByteArray) : ∀ f pos, ∀ r ∈ runesFrom s f pos, Utf8.valid r = true
  | 0, _, r, hr => by simp [runesFrom] at hr
  | f + 1, pos, r, hr => by
   unfold runesFrom at hr
   split at hr
   · rcases List.mem_cons.1 hr with rfl | hr
     · exact decode_valid s pos
     · exact runesFrom_valid s f _ r hr
   · simp at hr
theorem sPlain_good (r : Int) (h : Utf8.valid r = true) : Good (sPlain r) := by
 unfold sPlain
 split
 · exact ⟨by decide, by decide, by decide, by decide⟩
 · split
   · exact ⟨by decide, by decide, by decide, by decide⟩
   · exact ⟨h, by grind, by grind, by grind⟩
theorem readGo_good : ∀ (rs : List Int) (a b : Bool), (∀ r ∈ rs, Utf8.valid r = true) → ∀ r ∈ readGo rs a b, Good r
  | [], _, _, _, r, hr => by simp [readGo] at hr
  | x :: rs, a, b, h, r, hr => by
   unfold readGo at hr
   have h2 : ∀ r ∈ rs, Utf8.valid r = true := fun r hr => h r (List.mem_cons_of_mem _ hr)
   split at hr
   · exact readGo_good rs _ _ h2 r hr
   · rcases List.mem_cons.1 hr with rfl | hr
     · exact sPlain_good x (h x (by simp))
     · exact readGo_good rs _ _ h2 r hr
theorem readS_good (s : ByteArray) : ∀ r ∈ readS s, Good r := readGo_good _ _ _ (runesFrom_valid s _ _)
theorem encB_pos (r : Int) : 1 ≤ (encB r).length := by
 have h : (encB r).length = (Utf8.encode r).size := by unfold encB; rw [Array.length_toList]; rfl
 rw [h]
 unfold Utf8.encode
 simp only
 generalize (if Utf8.valid r = true then r.toNat else Utf8.runeError) = c
 split
 · exact Nat.le_refl 1
 · split
   · exact (by decide : 1 ≤ 2)
   · split
     · exact (by decide : 1 ≤ 3)
     · exact (by decide : 1 ≤ 4)
theorem runes_enc (s : ByteArray) : ∀ (l : List Int) (pre : List UInt8) (f : Nat), (∀ r ∈ l, Utf8.valid r = true) → s.data.toList = pre ++ l.flatMap encB → s.size ≤ pre.length + f → runesFrom s f pre.length = l
  | [], pre, f, _, hs, _ => by
   apply runesFrom_end
   have h1 : s.size = s.data.toList.length := by rw [Array.length_toList]; rfl
   rw [h1, hs]
   simp
  | r :: l, pre, f, h, hs, hf => by
   have h1 : s.size = s.data.toList.length := by rw [Array.length_toList]; rfl
   have hp := encB_pos r
   rw [List.flatMap_cons] at hs
   have hsz : s.size = pre.length + ((encB r).length + (l.flatMap encB).length) := by rw [h1, hs, List.length_append, List.length_append]
   obtain ⟨f, rfl⟩ : ∃ g, f = g + 1 := ⟨f - 1, by omega⟩
   have hv := h r (by simp)
   have hd := decode_enc s pre (l.flatMap encB) r hv hs
   have hq : ((r.toNat : Nat) : Int) = r := by rw [valid_iff] at hv; omega
   have ih := runes_enc s l (pre ++ encB r) f (fun x hx => h x (List.mem_cons_of_mem _ hx)) (by rw [hs, List.append_assoc]) (by rw [List.length_append]; omega)
   rw [List.length_append] at ih
   rw [runesFrom, if_pos (by omega), hd, hq, ih]
theorem runes_back (l : List Int) (h : ∀ r ∈ l, Utf8.valid r = true) : runesFrom (runesBytes l) (runesBytes l).size 0 = l :=
 runes_enc (runesBytes l) l [] _ h (by rw [runesBytes_list]; rfl) (by simp)
theorem readGo_id : ∀ (l : List Int), (∀ r ∈ l, Good r) → readGo l false false = l
  | [], _ => rfl
  | r :: l, h => by
   obtain ⟨hv, h1, h2, h3⟩ := h r (by simp)
   have hp : sPlain r = r := by unfold sPlain; grind
   have h13 : (r == 13) = false := by simp [h1]
   rw [readGo, hp, h13, readGo_id l (fun x hx => h x (List.mem_cons_of_mem _ hx))]
   simp
def unmark : List Int → List Int
  | [] => []
  | r :: l => if r = 65279 then l else r :: l
theorem read_back (l : List Int) (h : ∀ r ∈ l, Good r) : readS (runesBytes l) = unmark l := by
 unfold readS
 rw [runes_back l (fun r hr => (h r hr).1)]
 cases l with
 | nil => rfl
 | cons r l =>
  obtain ⟨hv, h1, h2, h3⟩ := h r (by simp)
  have hid := readGo_id l (fun x hx => h x (List.mem_cons_of_mem _ hx))
  have hp : sPlain r = r := by unfold sPlain; grind
  have h13 : (r == 13) = false := by simp [h1]
  unfold readGo unmark
  by_cases hm : r = 65279
  · simp [hm, hid]
  · simp [hm, hp, h13, hid]
theorem str_nums (s : ByteArray) : strOfNums (nums s) = s := by
 unfold strOfNums nums
 rw [List.map_map]
 have : ∀ l : List UInt8, l.map ((fun n : Int => UInt8.ofNat n.toNat) ∘ fun b : UInt8 => (b.toNat : Int)) = l := by
  intro l
  induction l with
  | nil => rfl
  | cons b l ih => simp [ih]
 rw [this]
end Go.Proofs.YtclicjiakkcfcaaGreatDoor
