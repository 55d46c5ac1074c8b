import Derived.Test.YtgpiedifodkegaaGreatDoorPtsL
import Derived.Lib.DecodeN
namespace Go.Proofs.YtgpiedifodkegaaGreatDoor
open Go.RowKit
def encB (r : Int) : List UInt8 := (Utf8.encode r).data.toList
theorem runesBytes_foldl (l : List Int) : ∀ s : ByteArray, (l.foldl (fun r n => r ++ Utf8.encode n) s).data.toList = s.data.toList ++ l.flatMap encB := by
 induction l with
 | nil => intro s; simp
 | cons a l ih =>
  intro s
  rw [List.foldl_cons, ih, List.flatMap_cons]
  simp [encB]
theorem runesBytes_list (l : List Int) : (runesBytes l).data.toList = l.flatMap encB := by
 unfold runesBytes
 rw [runesBytes_foldl]
 rfl
theorem runesBytes_snoc (l : List Int) (r : Int) : runesBytes (l ++ [r]) = runesBytes l ++ Utf8.encode r := by
 unfold runesBytes
 rw [List.foldl_append]
 rfl
def Good (r : Int) : Prop := Utf8.valid r = true ∧ r ≠ 13 ∧ r ≠ 12 ∧ r ≠ 0
theorem valid_iff (r : Int) : Utf8.valid r = true ↔ (0 ≤ r ∧ r < 55296) ∨ (57343 < r ∧ r ≤ 1114111) := by
 rw [validRune_eq]
 simp [validRune]
theorem decode_valid (s : ByteArray) (pos : Nat) : Utf8.valid ((Utf8.decode s pos).1 : Int) = true := by
 rw [valid_iff, Lib.decode_at]
 have h0 : (s.get! pos).toNat < 256 := (s.get! pos).toNat_lt
 generalize (s.get! pos).toNat = b0 at *
 generalize (s.get! (pos + 1)).toNat = b1
 generalize (s.get! (pos + 2)).toNat = b2
 generalize (s.get! (pos + 3)).toNat = b3
 generalize s.size - pos = n
 unfold Lib.decodeN
 repeat' split
 all_goals simp only
 all_goals omega
theorem runesFrom_valid (s : ByteArray) : ∀ f pos, ∀ r ∈ runesFrom s f pos, Utf8.valid r = true
  | 0, _, r, hr => by simp [runesFrom] at hr
  | f + 1, pos, r, hr => by
   unfold runesFrom at hr
   split at hr
   · rcases List.mem_cons.1 hr with rfl | hr
     · exact decode_valid s pos
     · exact runesFrom_valid s f _ r hr
   · simp at hr
theorem sPlain_good (r : Int) (h : Utf8.valid r = true) : Good (sPlain r) := by
 unfold sPlain
 split
 · exact ⟨by decide, by decide, by decide, by decide⟩
 · split
   · exact ⟨by decide, by decide, by decide, by decide⟩
   · exact ⟨h, by grind, by grind, by grind⟩
theorem readGo_good : ∀ (rs : List Int) (a b : Bool), (∀ r ∈ rs, Utf8.valid r = true) → ∀ r ∈ readGo rs a b, Good r
  | [], _, _, _, r, hr => by simp [readGo] at hr
  | x :: rs, a, b, h, r, hr => by
   unfold readGo at hr
   have h2 : ∀ r ∈ rs, Utf8.valid r = true := fun r hr => h r (List.mem_cons_of_mem _ hr)
   split at hr
   · exact readGo_good rs _ _ h2 r hr
   · rcases List.mem_cons.1 hr with rfl | hr
     · exact sPlain_good x (h x (by simp))
     · exact readGo_good rs _ _ h2 r hr
theorem readS_good (s : ByteArray) : ∀ r ∈ readS s, Good r := readGo_good _ _ _ (runesFrom_valid s _ _)
theorem str_nums (s : ByteArray) : strOfNums (nums s) = s := by
 unfold strOfNums nums
 rw [List.map_map]
 have : ∀ l : List UInt8, l.map ((fun n : Int => UInt8.ofNat n.toNat) ∘ fun b : UInt8 => (b.toNat : Int)) = l := by
  intro l
  induction l with
  | nil => rfl
  | cons b l ih => simp [ih]
 rw [this]
end Go.Proofs.YtgpiedifodkegaaGreatDoor
