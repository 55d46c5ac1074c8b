
import Derived.Test.YtjjkifhegfpceaaDoorPtsL
import Derived.Lib.DecodeN
namespace Go.Proofs.YtjjkifhegfpceaaDoor
open Go.RowKit

/-- A sign's bytes. -/
def encB (r : Int) : List UInt8 := (Utf8.encode r).data.toList

theorem runesBytes_foldl (l : List Int) : ∀ s : ByteArray, (l.foldl (fun r n => r ++ Utf8.encode n) s).data.toList = s.data.toList ++ l.flatMap encB := by
  induction l with
  | nil => intro s; simp
  | cons a l ih =>
    intro s
    rw [List.foldl_cons, ih, List.flatMap_cons]
    simp [encB]

theorem runesBytes_list (l : List Int) : (runesBytes l).data.toList = l.flatMap encB := by
  unfold runesBytes
  rw [runesBytes_foldl]
  rfl

theorem runesBytes_snoc (l : List Int) (r : Int) : runesBytes (l ++ [r]) = runesBytes l ++ Utf8.encode r := by
  unfold runesBytes
  rw [List.foldl_append]
  rfl

theorem get_list (s : ByteArray) (i : Nat) : s.get! i = s.data.toList.getD i 0 := by
  show s.data[i]! = _
  rw [List.getD_eq_getElem?_getD, Array.getElem?_toList, getElem!_def]
  cases s.data[i]? <;> rfl

theorem u8_of (n : Nat) : (UInt8.ofNat n).toNat = n % 256 := by simp

/-- A sign's bytes, read: the sign, and how many they are. -/
theorem decode_enc (s : ByteArray) (pre post : List UInt8) (r : Int) (hv : Utf8.valid r = true) (hs : s.data.toList = pre ++ (encB r ++ post)) :
    Utf8.decode s pre.length = (r.toNat, (encB r).length) := by
  have hsz : s.size = pre.length + ((encB r).length + post.length) := by
    have h1 : s.size = s.data.toList.length := by rw [Array.length_toList]; rfl
    rw [h1, hs, List.length_append, List.length_append]
  have hg : ∀ j, j < (encB r).length → s.get! (pre.length + j) = (encB r).getD j 0 := fun j hj => by
    rw [get_list, hs, List.getD_eq_getElem?_getD, List.getD_eq_getElem?_getD, List.getElem?_append_right (by omega), Nat.add_sub_cancel_left, List.getElem?_append_left hj]
  have hr : (0 ≤ r ∧ r < 55296) ∨ (57343 < r ∧ r ≤ 1114111) := by
    rw [validRune_eq] at hv
    simpa [validRune] using hv
  rw [Lib.decode_at]
  have key : ∀ bs : List UInt8, encB r = bs → s.size - pre.length = bs.length + post.length ∧ ∀ j, j < bs.length → s.get! (pre.length + j) = bs.getD j 0 := fun bs hb => by
    subst hb
    exact ⟨by omega, hg⟩
  have hq : ((r.toNat : Nat) : Int) = r := by omega
  have hq2 : r.toNat < 55296 ∨ (57343 < r.toNat ∧ r.toNat ≤ 1114111) := by omega
  clear hr hq
  by_cases c1 : r.toNat < 128
  · have hb : encB r = [UInt8.ofNat r.toNat] := by
      unfold encB Utf8.encode
      simp [hv, c1]
    obtain ⟨k1, k2⟩ := key _ hb
    simp only [List.length_cons, List.length_nil] at k1
    have g0 := k2 0 (by simp)
    simp only [Nat.add_zero] at g0
    rw [g0, hb, k1]
    simp only [Lib.decodeN, List.getD_cons_zero, u8_of, List.length_cons, List.length_nil]
    generalize r.toNat = q at *
    clear hb k2 hs hsz hg key hv
    repeat' split
    all_goals first | (exfalso; omega) | (apply Prod.ext <;> simp only <;> omega)
  by_cases c2 : r.toNat < 2048
  · have hb : encB r = [UInt8.ofNat (192 + r.toNat / 64), UInt8.ofNat (128 + r.toNat % 64)] := by
      unfold encB Utf8.encode
      simp [hv, c1, c2]
    obtain ⟨k1, k2⟩ := key _ hb
    simp only [List.length_cons, List.length_nil] at k1
    have g0 := k2 0 (by simp)
    have g1 := k2 1 (by simp)
    simp only [Nat.add_zero] at g0
    rw [g0, g1, hb, k1]
    simp only [Lib.decodeN, List.getD_cons_zero, List.getD_cons_succ, u8_of, List.length_cons, List.length_nil]
    generalize r.toNat = q at *
    clear hb k2 hs hsz hg key hv
    repeat' split
    all_goals first | (exfalso; omega) | (apply Prod.ext <;> simp only <;> omega)
  by_cases c3 : r.toNat < 65536
  · have hb : encB r = [UInt8.ofNat (224 + r.toNat / 4096), UInt8.ofNat (128 + r.toNat / 64 % 64), UInt8.ofNat (128 + r.toNat % 64)] := by
      unfold encB Utf8.encode
      simp [hv, c1, c2, c3]
    obtain ⟨k1, k2⟩ := key _ hb
    simp only [List.length_cons, List.length_nil] at k1
    have g0 := k2 0 (by simp)
    have g1 := k2 1 (by simp)
    have g2 := k2 2 (by simp)
    simp only [Nat.add_zero] at g0
    rw [g0, g1, g2, hb, k1]
    simp only [Lib.decodeN, List.getD_cons_zero, List.getD_cons_succ, u8_of, List.length_cons, List.length_nil]
    generalize r.toNat = q at *
    clear hb k2 hs hsz hg key hv
    repeat' split
    all_goals first | (exfalso; omega) | (apply Prod.ext <;> simp only <;> omega)
  · have hb : encB r = [UInt8.ofNat (240 + r.toNat / 262144), UInt8.ofNat (128 + r.toNat / 4096 % 64), UInt8.ofNat (128 + r.toNat / 64 % 64), UInt8.ofNat (128 + r.toNat % 64)] := by
      unfold encB Utf8.encode
      simp [hv, c1, c2, c3]
    obtain ⟨k1, k2⟩ := key _ hb
    simp only [List.length_cons, List.length_nil] at k1
    have g0 := k2 0 (by simp)
    have g1 := k2 1 (by simp)
    have g2 := k2 2 (by simp)
    have g3 := k2 3 (by simp)
    simp only [Nat.add_zero] at g0
    rw [g0, g1, g2, g3, hb, k1]
    simp only [Lib.decodeN, List.getD_cons_zero, List.getD_cons_succ, u8_of, List.length_cons, List.length_nil]
    generalize r.toNat = q at *
    clear hb k2 hs hsz hg key hv
    repeat' split
    all_goals first | (exfalso; omega) | (apply Prod.ext <;> simp only <;> omega)
end Go.Proofs.YtjjkifhegfpceaaDoor
