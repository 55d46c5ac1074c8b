
import Derived.Test.YtlajkfnlkkgneaaTjE
import Derived.Lib.DecodeN
namespace Go.Proofs.Ytlajkfnlkkgneaa
open Go.RowKit
/-! What is read of two texts, one behind the other. -/
theorem app_data (A B : ByteArray) : (A ++ B).data = A.data ++ B.data := by simp
theorem app_size (A B : ByteArray) : (A ++ B).size = A.size + B.size := by simp
theorem get_l (A B : ByteArray) (i : Nat) (h : i < A.size) : (A ++ B).get! i = A.get! i := by
  show (A ++ B).data[i]! = A.data[i]!
  have h' : i < A.data.size := h
  rw [app_data]
  simp only [getElem!_def]
  rw [Array.getElem?_append_left h']
theorem get_r (A B : ByteArray) (i : Nat) : (A ++ B).get! (A.size + i) = B.get! i := by
  show (A ++ B).data[A.size + i]! = B.data[i]!
  have h' : A.data.size ≤ A.size + i := Nat.le_add_right _ _
  rw [app_data]
  simp only [getElem!_def]
  rw [Array.getElem?_append_right h']
  have : A.size + i - A.data.size = i := Nat.add_sub_cancel_left _ _
  rw [this]
theorem dec_app (A B : ByteArray) (hB : (B.get! 0).toNat < 128) (pos : Nat) (h : pos < A.size) (h0 : 0 < B.size) : Utf8.decode (A ++ B) pos = Utf8.decode A pos := by
  rw [Lib.decode_at, Lib.decode_at, app_size, get_l A B pos h]
  have e : ∀ k, pos + k = A.size → ((A ++ B).get! (pos + k)).toNat < 128 := by
    intro k hk
    rw [hk, show A.size = A.size + 0 from rfl, get_r]
    exact hB
  rcases Nat.lt_trichotomy (pos + 1) A.size with c1 | c1 | c1
  · rw [get_l A B _ c1]
    rcases Nat.lt_trichotomy (pos + 2) A.size with c2 | c2 | c2
    · rw [get_l A B _ c2]
      rcases Nat.lt_trichotomy (pos + 3) A.size with c3 | c3 | c3
      · rw [get_l A B _ c3]
        have n1 : 1 < A.size + B.size - pos := by omega
        have n2 : 2 < A.size + B.size - pos := by omega
        have n3 : 3 < A.size + B.size - pos := by omega
        have m1 : 1 < A.size - pos := by omega
        have m2 : 2 < A.size - pos := by omega
        have m3 : 3 < A.size - pos := by omega
        simp only [Lib.decodeN, n1, n2, n3, m1, m2, m3]
      · have e3 := e 3 c3
        have z3 : ¬ ((A ++ B).get! (pos + 3)).toNat / 64 = 2 := by omega
        have n1 : 1 < A.size + B.size - pos := by omega
        have n2 : 2 < A.size + B.size - pos := by omega
        have m1 : 1 < A.size - pos := by omega
        have m2 : 2 < A.size - pos := by omega
        have m3 : ¬ 3 < A.size - pos := by omega
        simp only [Lib.decodeN, n1, n2, z3, m1, m2, m3, and_false, false_and, if_false]
      · omega
    · have e2 := e 2 c2
      have z2 : ¬ ((A ++ B).get! (pos + 2)).toNat / 64 = 2 := by omega
      have n1 : 1 < A.size + B.size - pos := by omega
      have m1 : 1 < A.size - pos := by omega
      have m2 : ¬ 2 < A.size - pos := by omega
      simp only [Lib.decodeN, n1, z2, m1, m2, and_false, false_and, if_false]
    · omega
  · have e1 := e 1 c1
    have z1 : ¬ ((A ++ B).get! (pos + 1)).toNat / 64 = 2 := by omega
    have m1 : ¬ 1 < A.size - pos := by omega
    simp only [Lib.decodeN, z1, m1, and_false, false_and, if_false]
  · omega
theorem dec_r (A B : ByteArray) (pos : Nat) : Utf8.decode (A ++ B) (A.size + pos) = Utf8.decode B pos := by
  rw [Lib.decode_at, Lib.decode_at, app_size, get_r, Nat.add_assoc, get_r, Nat.add_assoc, get_r, Nat.add_assoc, get_r]
  have : A.size + B.size - (A.size + pos) = B.size - pos := by omega
  rw [this]
theorem runes_fuel (s : ByteArray) : ∀ f f' pos : Nat, s.size - pos ≤ f → s.size - pos ≤ f' → runesFrom s f pos = runesFrom s f' pos
  | 0, f', pos, h, _ => by rw [runesFrom_end s f' pos (by omega)]; rfl
  | f + 1, 0, pos, _, h' => by rw [runesFrom_end s (f + 1) pos (by omega)]; rfl
  | f + 1, f' + 1, pos, h, h' => by
    unfold runesFrom
    by_cases c : pos < s.size
    · rw [if_pos c, if_pos c]
      have := width_pos s pos c
      rw [runes_fuel s f f' _ (by omega) (by omega)]
    · rw [if_neg c, if_neg c]
theorem runes_r (A B : ByteArray) : ∀ f pos : Nat, runesFrom (A ++ B) f (A.size + pos) = runesFrom B f pos
  | 0, pos => rfl
  | f + 1, pos => by
    unfold runesFrom
    by_cases c : pos < B.size
    · rw [if_pos c, if_pos (by rw [app_size]; omega), dec_r, Nat.add_assoc, runes_r A B f]
    · rw [if_neg c, if_neg (by rw [app_size]; omega)]
theorem runes_l (A B : ByteArray) (hB : (B.get! 0).toNat < 128) (h0 : 0 < B.size) : ∀ f pos : Nat, pos ≤ A.size → A.size + B.size - pos ≤ f →
    runesFrom (A ++ B) f pos = runesFrom A A.size pos ++ runesFrom B B.size 0
  | 0, pos, hp, hf => by omega
  | f + 1, pos, hp, hf => by
    by_cases c : pos < A.size
    · have hw := width_pos A pos c
      have hf' := width_fits A pos c
      have k : runesFrom A A.size pos = ((Utf8.decode A pos).1 : Int) :: runesFrom A A.size (pos + (Utf8.decode A pos).2) := by
        rw [runes_fuel A A.size (A.size + 1) pos (by omega) (by omega), runesFrom, if_pos c]
      rw [runesFrom, if_pos (by rw [app_size]; omega), dec_app A B hB pos c h0, runes_l A B hB h0 f _ hf' (by omega), k]
      rfl
    · have : pos = A.size + 0 := by omega
      subst this
      rw [runesFrom_end A A.size _ c, runes_r, runes_fuel B (f + 1) B.size 0 (by omega) (by omega)]
      rfl
def spB : ByteArray := ⟨#[32]⟩
theorem runes_sp (B : ByteArray) : runesFrom (spB ++ B) (spB ++ B).size 0 = 32 :: runesFrom B B.size 0 := by
  have hs : (spB ++ B).size = 1 + B.size := app_size _ _
  have g : (spB ++ B).get! 0 = 32 := get_l spB B 0 (by decide)
  have d : Utf8.decode (spB ++ B) 0 = (32, 1) := by
    rw [Lib.decode_at, g]
    simp [Lib.decodeN]
  rw [hs, Nat.add_comm, runesFrom, if_pos (by omega), d]
  show (32 : Int) :: runesFrom (spB ++ B) B.size (spB.size + 0) = _
  rw [runes_r]
theorem readGo_app (y : List Int) : ∀ (x : List Int) (f c : Bool), readGo (x ++ 32 :: y) f c = readGo x f c ++ 32 :: readGo y false false
  | [], f, c => by
    show readGo (32 :: y) f c = _
    unfold readGo
    cases f <;> cases c <;> simp [sPlain] <;> cases y <;> rfl
  | a :: x, f, c => by
    show readGo (a :: (x ++ 32 :: y)) f c = _
    rw [readGo, readGo]
    split
    · exact readGo_app y x false false
    · rw [readGo_app y x]
      rfl
theorem no_bom (b : ByteArray) (hb : ¬ (2 < b.size ∧ (b.get! 0).toNat = 239)) : (Utf8.decode b 0).1 ≠ 65279 := by
  rw [Lib.decode_at]
  have h0 := (b.get! 0).toNat_lt
  simp only [Nat.sub_zero, Nat.zero_add]
  generalize (b.get! 0).toNat = b0 at *
  generalize (b.get! 1).toNat = b1 at *
  generalize (b.get! 2).toNat = b2 at *
  generalize (b.get! 3).toNat = b3 at *
  unfold Lib.decodeN
  repeat' split
  all_goals simp only
  all_goals omega
theorem readS_join (a b : ByteArray) (hb : ¬ (2 < b.size ∧ (b.get! 0).toNat = 239)) : readS (a ++ spB ++ b) = readS a ++ 32 :: readS b := by
  have ea : a ++ spB ++ b = a ++ (spB ++ b) := by apply ByteArray.ext; simp
  have g : ((spB ++ b).get! 0).toNat < 128 := by rw [get_l spB b 0 (by decide)]; decide
  have hs : (spB ++ b).size = 1 + b.size := app_size _ _
  unfold readS
  rw [ea, runes_l a (spB ++ b) g (by omega) _ 0 (Nat.zero_le _) (by simp only [app_size]; omega), runes_sp, readGo_app]
  congr 2
  cases hr : runesFrom b b.size 0 with
  | nil => rfl
  | cons x y =>
    have hx : x ≠ 65279 := by
      have hz : 0 < b.size := by
        apply Nat.pos_of_ne_zero
        intro h
        rw [runesFrom_end b _ 0 (by omega)] at hr
        cases hr
      obtain ⟨n, hn⟩ : ∃ n, b.size = n + 1 := ⟨b.size - 1, by omega⟩
      rw [hn, runesFrom, if_pos hz] at hr
      have := (List.cons.inj hr).1
      have nb := no_bom b hb
      omega
    rw [readGo, readGo]
    have : (x == 65279) = false := by simpa using hx
    simp [this]
theorem readS_sp (a : ByteArray) : readS (a ++ spB) = readS a ++ [32] := by
  have h := readS_join a ByteArray.empty (by decide)
  have e : a ++ spB ++ ByteArray.empty = a ++ spB := by apply ByteArray.ext; simp
  rw [e] at h
  rw [h]
  rfl
end Go.Proofs.Ytlajkfnlkkgneaa
