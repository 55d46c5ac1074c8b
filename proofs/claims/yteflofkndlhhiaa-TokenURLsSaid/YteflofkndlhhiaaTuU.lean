
import Derived.Test.YteflofkndlhhiaaTuB
import Derived.Test.YteflofkndlhhiaaTuC
import Derived.Test.YteflofkndlhhiaaTuD
namespace Go.Proofs.Yteflofkndlhhiaa
open Go.RowKit
set_option maxRecDepth 100000 in
set_option maxHeartbeats 1600000 in
theorem urls_many_a (w : World) (word : ByteArray) (blanks kind : Int) (h : (30 : Int) < (word.size : Int)) :
    Calls Try.prog 7 #[.string word, .int .i64 blanks, .int .i64 kind] w (LawPost w) := by
  go_enter Try.func7, Try.ntmps7
  go_wp2_with (go_at_call 14; (with_reducible refine (awake_any _).mono ?_); rintro e w1 ⟨rfl, hb1⟩)
  go_ret
  exact ⟨rfl, hb1⟩
set_option maxRecDepth 100000 in
set_option maxHeartbeats 1600000 in
theorem urls_many_b (w : World) (word : ByteArray) (blanks kind : Int) (h0 : ¬ (30 : Int) < (word.size : Int)) (h : blanks < 0) :
    Calls Try.prog 7 #[.string word, .int .i64 blanks, .int .i64 kind] w (LawPost w) := by
  go_enter Try.func7, Try.ntmps7
  go_wp2_with (go_at_call 14; (with_reducible refine (awake_any _).mono ?_); rintro e w1 ⟨rfl, hb1⟩)
  go_ret
  exact ⟨rfl, hb1⟩
set_option maxRecDepth 100000 in
set_option maxHeartbeats 1600000 in
theorem urls_many_c (w : World) (word : ByteArray) (blanks kind : Int) (h0 : ¬ (30 : Int) < (word.size : Int)) (h1 : ¬ blanks < 0) (h : 4 < blanks) :
    Calls Try.prog 7 #[.string word, .int .i64 blanks, .int .i64 kind] w (LawPost w) := by
  go_enter Try.func7, Try.ntmps7
  go_wp2_with (go_at_call 14; (with_reducible refine (awake_any _).mono ?_); rintro e w1 ⟨rfl, hb1⟩)
  go_ret
  exact ⟨rfl, hb1⟩
set_option maxRecDepth 100000 in
set_option maxHeartbeats 1600000 in
theorem urls_other (w : World) (word : ByteArray) (m : Nat) (kind : Int) (hs : word.size ≤ 30) (hm : m ≤ 4) (p : Nat) (hp : p < word.size) (hbad : (word[p].toNat : Int) < 97 ∨ 122 < (word[p].toNat : Int)) (hok : ∀ i, (h : i < p) → 97 ≤ (word[i].toNat : Int) ∧ (word[i].toNat : Int) ≤ 122) :
    Calls Try.prog 7 #[.string word, .int .i64 m, .int .i64 kind] w (LawPost w) := by
  have h1 : ¬ (30 : Int) < (word.size : Int) := by omega
  have h2 : (m : Int) ≤ 4 := by omega
  have HL := Shut.mk hok
  clear hok
  go_enter Try.func7, Try.ntmps7
  go_wp2
  go_loop [7] (fun iv => ∃ i : Nat, i ≤ p ∧ iv = .int .i64 i) (fun iv => word.size - (intOf iv).toNat)
  case atStart => exact ⟨0, Nat.zero_le _, rfl⟩
  case round =>
    obtain ⟨i, hi, rfl⟩ := hrel
    have hlt : i < word.size := by omega
    by_cases hip : i < p
    · obtain ⟨c1, c2⟩ := HL.out i hip
      clear hbad
      go_wp2
      go_round
      case rel => exact ⟨i + 1, by omega, by go_num⟩
      case measure => simp [intOf]; omega
    · obtain rfl : i = p := by omega
      clear HL hip
      rcases hbad with hbad | hbad
      · go_wp2_with (go_at_call 14; (with_reducible refine (awake_any _).mono ?_); rintro e w1 ⟨rfl, hb1⟩)
        go_ret
        exact ⟨rfl, hb1⟩
      · have hb2 : ¬ (word[i].toNat : Int) < 97 := by omega
        go_wp2_with (go_at_call 14; (with_reducible refine (awake_any _).mono ?_); rintro e w1 ⟨rfl, hb1⟩)
        go_ret
        exact ⟨rfl, hb1⟩
theorem first_bad (s : ByteArray) : ∀ n, n ≤ s.size → (∀ i, (h : i < s.size) → i < n → 97 ≤ (s[i].toNat : Int) ∧ (s[i].toNat : Int) ≤ 122) ∨ ∃ p, ∃ h : p < s.size, ((s[p].toNat : Int) < 97 ∨ 122 < (s[p].toNat : Int)) ∧ ∀ i, (h2 : i < p) → 97 ≤ (s[i].toNat : Int) ∧ (s[i].toNat : Int) ≤ 122
  | 0, _ => .inl fun i _ h => by omega
  | n + 1, h => by
    rcases first_bad s n (by omega) with h1 | h1
    · have hn : n < s.size := by omega
      by_cases c : 97 ≤ (s[n].toNat : Int) ∧ (s[n].toNat : Int) ≤ 122
      · refine .inl fun i hi hin => ?_
        by_cases e : i = n
        · subst e; exact c
        · exact h1 i hi (by omega)
      · exact .inr ⟨n, hn, by omega, fun i hi => h1 i (by omega) hi⟩
    · exact .inr h1
theorem TokenURLs_any (w : World) (word : ByteArray) (_hs : word.size ≤ 9223372036854775807) (blanks : Int) (_hb : (Lit.int .i64 blanks).wf = true) (kind : Int) (_hk : (Lit.int .i64 kind).wf = true) :
    Calls Try.prog 7 #[.string word, .int .i64 blanks, .int .i64 kind] w fun e w' => e = .returned (.bool true) ∧ Below w.heap.size w w' := by
  by_cases c1 : (30 : Int) < (word.size : Int)
  · exact urls_many_a w word blanks kind c1
  by_cases c2 : blanks < 0
  · exact urls_many_b w word blanks kind c1 c2
  by_cases c3 : 4 < blanks
  · exact urls_many_c w word blanks kind c1 c2 c3
  obtain ⟨m, rfl⟩ : ∃ m : Nat, blanks = (m : Int) := ⟨blanks.toNat, by omega⟩
  have hs : word.size ≤ 30 := by omega
  have hm : m ≤ 4 := by omega
  rcases first_bad word word.size (Nat.le_refl _) with h | ⟨p, hp, h, hok⟩
  · have hl : LetL (nums word) := fun x hx => by
      obtain ⟨j, hj, rfl⟩ := mem_nth hx
      have hj2 : j < word.size := by rw [nums_length] at hj; exact hj
      rw [nums_at word j hj2]
      exact h j hj2 hj2
    have h6 : kind % 6 = 0 ∨ kind % 6 = 1 ∨ kind % 6 = 2 ∨ kind % 6 = 3 ∨ kind % 6 = 4 ∨ kind % 6 = 5 := by omega
    rcases h6 with hk | hk | hk | hk | hk | hk
    · exact urls_0 w word m kind hs hm hl hk
    · exact urls_1 w word m kind hs hm hl hk
    · exact urls_2 w word m kind hs hm hl hk
    · exact urls_3 w word m kind hs hm hl hk
    · by_cases hm0 : 0 < m
      · exact urls_4b w word m kind hs hm hm0 hl hk
      · obtain rfl : m = 0 := by omega
        exact urls_4a w word kind hs hl hk
    · exact urls_5 w word m kind hs hm hl hk
  · exact urls_other w word m kind hs hm p hp h hok
end Go.Proofs.Yteflofkndlhhiaa
