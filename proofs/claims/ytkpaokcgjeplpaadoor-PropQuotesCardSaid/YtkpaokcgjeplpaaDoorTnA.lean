
import Derived.Test.YtkpaokcgjeplpaaDoorTkU
namespace Go.Proofs.YtkpaokcgjeplpaaDoor
open Go.RowKit
/-- A number's digits. -/
def decD (u : Nat) : List Int := if u < 10 then [48 + (u : Int)] else decD (u / 10) ++ [48 + ((u % 10 : Nat) : Int)]
theorem decD_small {u : Nat} (h : u < 10) : decD u = [48 + (u : Int)] := by unfold decD; rw [if_pos h]
theorem decD_step {u : Nat} (h : ¬ u < 10) : decD u = decD (u / 10) ++ [48 + ((u % 10 : Nat) : Int)] := by
  conv => lhs; unfold decD
  rw [if_neg h]
def preD (u : Nat) : List Int := if u = 0 then [] else decD u
theorem preD_step {u : Nat} (h : 0 < u) : preD u = preD (u / 10) ++ [48 + ((u % 10 : Nat) : Int)] := by
  unfold preD
  rw [if_neg (by omega)]
  by_cases c : u < 10
  · rw [decD_small c, if_pos (by omega), Nat.mod_eq_of_lt c]; rfl
  · rw [decD_step c, if_neg (by omega)]
theorem decD_len : ∀ (k u : Nat), u < 10 ^ (k + 1) → (decD u).length ≤ k + 1
  | 0, u, h => by rw [decD_small (by simpa using h)]; simp
  | k + 1, u, h => by
    by_cases c : u < 10
    · rw [decD_small c]; simp
    · rw [decD_step c, List.length_append]
      have := decD_len k (u / 10) (by rw [Nat.div_lt_iff_lt_mul (by decide)]; rw [Nat.pow_succ] at h; exact h)
      simp; omega
theorem decD_ok : ∀ (n u : Nat), u ≤ n → ∀ x ∈ decD u, 48 ≤ x ∧ x ≤ 57 := by
  intro n
  induction n with
  | zero => intro u h x hx; rw [decD_small (by omega)] at hx; simp at hx; omega
  | succ n ih =>
    intro u h x hx
    by_cases c : u < 10
    · rw [decD_small c] at hx; simp at hx; omega
    · rw [decD_step c, List.mem_append] at hx
      rcases hx with hx | hx
      · exact ih _ (by omega) x hx
      · simp at hx; omega
theorem decD_all (u : Nat) : ∀ x ∈ decD u, 48 ≤ x ∧ x ≤ 57 := decD_ok u u (Nat.le_refl _)
theorem decD_pos (u : Nat) : 0 < (decD u).length := by
  by_cases c : u < 10
  · rw [decD_small c]; simp
  · rw [decD_step c, List.length_append]; simp
theorem digV_snoc (l : List Int) (x : Int) : digV (l ++ [x]) = min (digV l * 10 + (x - 48)) 2147483648 := by
  unfold digV; rw [List.foldl_append]; rfl
theorem decD_val : ∀ (n u : Nat), u ≤ n → digV (decD u) = min (u : Int) 2147483648 := by
  intro n
  induction n with
  | zero => intro u h; obtain rfl : u = 0 := by omega
            rw [decD_small (by decide)]; rfl
  | succ n ih =>
    intro u h
    by_cases c : u < 10
    · rw [decD_small c]; simp [digV]; omega
    · rw [decD_step c, digV_snoc, ih _ (by omega)]
      have := Nat.div_add_mod u 10
      omega
/-- Of a loop over digits: what is still to come, and what stands there. -/
def DecInv (u0 u : Nat) (d : List Int) : Prop := (d = [] ∧ u = u0 ∨ d ≠ [] ∧ preD u ++ d = decD u0) ∧ u ≤ u0 ∧ d.length ≤ 20
theorem DecInv.round {u0 u : Nat} {d : List Int} (h : DecInv u0 u d) (hu : u0 < 10 ^ 20) (hg : 0 < u ∨ d = []) : DecInv u0 (u / 10) ((48 + ((u % 10 : Nat) : Int)) :: d) := by
  obtain ⟨h1, h2, h3⟩ := h
  have key : preD (u / 10) ++ (48 + ((u % 10 : Nat) : Int)) :: d = decD u0 := by
    rcases h1 with ⟨rfl, rfl⟩ | ⟨hd, he⟩
    · by_cases c : u = 0
      · subst c; rw [decD_small (by decide)]; rfl
      · have := preD_step (u := u) (by omega)
        rw [← this]; unfold preD; rw [if_neg c]
    · have hp : 0 < u := by rcases hg with hg | hg; exact hg; exact absurd hg hd
      rw [← he, preD_step hp, List.append_assoc]; rfl
  refine ⟨.inr ⟨by simp, key⟩, by omega, ?_⟩
  have hl := decD_len 19 u0 hu
  have := congrArg List.length key
  rw [List.length_append] at this
  omega
theorem DecInv.done {u0 u : Nat} {d : List Int} (h : DecInv u0 u d) (h1 : u = 0) (h2 : d ≠ []) : d = decD u0 := by
  obtain ⟨h1', _, _⟩ := h
  rcases h1' with ⟨e, _⟩ | ⟨_, he⟩
  · exact absurd e h2
  · rw [← he, h1]; rfl
def emptyV : Value → Nat
  | .string s => if s.size = 0 then 1 else 0
  | _ => 0
/-- A number's text. -/
def decT (n : Int) : List Int := (if n < 0 then [45] else []) ++ decD n.natAbs
theorem strOfNums_append (a b : List Int) : strOfNums (a ++ b) = strOfNums a ++ strOfNums b := by
  apply ByteArray.ext
  apply Array.ext'
  rw [strOfNums_data, ByteArray.data_append, Array.toList_append, strOfNums_data, strOfNums_data, List.map_append]
-- the walk (gendec.py)
set_option maxRecDepth 100000 in
set_option maxHeartbeats 1600000 in
theorem decimal_neg (n : Int) (w : World) (hn1 : -9223372036854775808 ≤ n) (hn2 : n ≤ 9223372036854775807) (hneg : n < 0) :
    Calls Tryd.prog 15 #[.int .i64 n] w fun e w' => e = .returned (.string (strOfNums (decT n))) ∧ Below w.heap.size w w' := by
  have HT := Lib.hid (show decT n = [45] ++ decD n.natAbs by unfold decT; rw [if_pos hneg])
  obtain ⟨u0, hu0⟩ : ∃ u0 : Nat, n.natAbs = u0 := ⟨_, rfl⟩
  have hub : u0 < 10 ^ 20 := by omega
  have hub2 : (u0 : Int) ≤ 18446744073709551615 := by omega
  have hw1 : IntKind.u64.wrap (-IntKind.u64.wrap n) = (u0 : Int) := by rw [IntKind.wrap_u64, IntKind.wrap_u64]; omega
  rw [hu0] at HT
  clear hu0 hn1 hn2
  go_enter Tryd.func15, Tryd.ntmps15
  go_wp2
  clear hw1
  go_loopw [3, 5] (fun uv dv wr => ∃ (u : Nat) (d : List Int), uv = .int .u64 u ∧ dv = .string (strOfNums d) ∧ DecInv u0 u d ∧ Below w.heap.size w wr) (fun uv dv _ => (intOf uv).toNat + emptyV dv)
  case atStart => exact ⟨u0, [], rfl, rfl, ⟨.inl ⟨rfl, rfl⟩, Nat.le_refl _, by simp⟩, Below.refl _ _⟩
  case round =>
    obtain ⟨u, d, rfl, rfl, hinv, hb⟩ := hrel
    have hsz := strOfNums_size d
    have hd20 := hinv.2.2
    have hu2 := hinv.2.1
    have HI := Lib.hid hinv
    have HSZ := Lib.hid hsz
    clear hinv hsz
    by_cases hg : 0 < u ∨ d = []
    · by_cases hp : 0 < u
      · have hnext := HI.out.round hub hg
        rw [show ((u % 10 : Nat) : Int) = (u : Int) % 10 by omega] at hnext
        have HN := Lib.hid hnext
        have hp' : (0 : Int) < (u : Int) := by omega
        have hm0 : 0 ≤ (u : Int) % 10 ∧ (u : Int) % 10 ≤ 9 := by omega
        obtain ⟨hm1, hm2⟩ := hm0
        have hwa : IntKind.u64.wrap (48 + (u : Int) % 10) = 48 + (u : Int) % 10 := by rw [IntKind.wrap_u64]; omega
        have hwb : IntKind.u8.wrap (48 + (u : Int) % 10) = 48 + (u : Int) % 10 := IntWalk.u8_in _ (by omega)
        have v1 := (Rd.lit wr .u8 [48 + (u : Int) % 10] #[.int .u8 (48 + (u : Int) % 10)] 5 (0, 0) 1 rfl rfl).conv
        have z2 : ¬ 9223372036854775807 < (strOfNums [48 + (u : Int) % 10]).size + (strOfNums d).size := by have := HSZ.out; rw [strOfNums_size]; simp; omega
        have HB := Lib.hid (below_seq hb ((Below.refl _ wr).alloc (Nat.le_refl _) (.cells #[.int .u8 (48 + (u : Int) % 10)] 5 (0, 0))))
        have HAP := Lib.hid (show strOfNums [48 + (u : Int) % 10] ++ strOfNums d = strOfNums ((48 + (u : Int) % 10) :: d) by rw [← strOfNums_append]; rfl)
        have HM := Lib.hid (show ∀ s : ByteArray, 1 ≤ s.size → u / 10 + emptyV (.string s) < u + emptyV (.string (strOfNums d)) from fun s hs => by
          simp only [emptyV]
          rw [if_neg (by omega)]
          omega)
        clear hnext hg hp
        go_wp2
        go_roundw
        case rel => exact ⟨u / 10, _, by go_num, by rw [HAP.out], HN.out, HB.out⟩
        case measure =>
          have h := HM.out (strOfNums [48 + (u : Int) % 10] ++ strOfNums d) (by rw [ByteArray.size_append, strOfNums_size]; simp)
          simp only [intOf]
          omega
      · obtain rfl : u = 0 := by omega
        obtain rfl : d = [] := by rcases hg with hg | hg; exact absurd hg hp; exact hg
        have HN := Lib.hid (HI.out.round hub (.inr rfl))
        have he : (strOfNums []).toList.isEmpty = true := by decide +kernel
        have v1 := (Rd.lit wr .u8 [48] #[.int .u8 48] 5 (0, 0) 1 rfl rfl).conv
        have z2 : ¬ 9223372036854775807 < (strOfNums [48]).size + (strOfNums []).size := by decide +kernel
        have HB := Lib.hid (below_seq hb ((Below.refl _ wr).alloc (Nat.le_refl _) (.cells #[.int .u8 48] 5 (0, 0))))
        have HAP := Lib.hid (show strOfNums [48] ++ strOfNums [] = strOfNums [48] by rw [← strOfNums_append]; rfl)
        clear hg hp
        go_wp2
        go_roundw
        case rel => exact ⟨0, [48], rfl, by rw [HAP.out], HN.out, HB.out⟩
        case measure => rw [HAP.out]; decide +kernel
    · have hu : u = 0 := by omega
      have hd : d ≠ [] := fun e => hg (.inr e)
      have hdone := HI.out.done hu hd
      have he : (strOfNums d).toList.isEmpty = false := by
        cases d with
        | nil => exact absurd rfl hd
        | cons a t => rw [ByteArray.toList_eq, strOfNums_data]; rfl
      have hp' : ¬ (0 : Int) < (u : Int) := by omega
      have z3 : ¬ 9223372036854775807 < 1 + (strOfNums d).size := by have := HSZ.out; omega
      have HD := Lib.hid hdone
      clear hg hu hd hdone
      go_wp2
      go_ret
      rw [HT.out, ← HD.out, strOfNums_append]
      exact ⟨rfl, hb⟩
set_option maxRecDepth 100000 in
set_option maxHeartbeats 1600000 in
theorem decimal_pos (n : Int) (w : World) (hn1 : -9223372036854775808 ≤ n) (hn2 : n ≤ 9223372036854775807) (hneg : ¬ n < 0) :
    Calls Tryd.prog 15 #[.int .i64 n] w fun e w' => e = .returned (.string (strOfNums (decT n))) ∧ Below w.heap.size w w' := by
  have HT := Lib.hid (show decT n = ([] : List Int) ++ decD n.natAbs by unfold decT; rw [if_neg hneg])
  obtain ⟨u0, hu0⟩ : ∃ u0 : Nat, n.natAbs = u0 := ⟨_, rfl⟩
  have hub : u0 < 10 ^ 20 := by omega
  have hub2 : (u0 : Int) ≤ 18446744073709551615 := by omega
  have hw1 : IntKind.u64.wrap n = (u0 : Int) := by rw [IntKind.wrap_u64]; omega
  rw [hu0] at HT
  clear hu0 hn1 hn2
  go_enter Tryd.func15, Tryd.ntmps15
  go_wp2
  clear hw1
  go_loopw [3, 5] (fun uv dv wr => ∃ (u : Nat) (d : List Int), uv = .int .u64 u ∧ dv = .string (strOfNums d) ∧ DecInv u0 u d ∧ Below w.heap.size w wr) (fun uv dv _ => (intOf uv).toNat + emptyV dv)
  case atStart => exact ⟨u0, [], rfl, rfl, ⟨.inl ⟨rfl, rfl⟩, Nat.le_refl _, by simp⟩, Below.refl _ _⟩
  case round =>
    obtain ⟨u, d, rfl, rfl, hinv, hb⟩ := hrel
    have hsz := strOfNums_size d
    have hd20 := hinv.2.2
    have hu2 := hinv.2.1
    have HI := Lib.hid hinv
    have HSZ := Lib.hid hsz
    clear hinv hsz
    by_cases hg : 0 < u ∨ d = []
    · by_cases hp : 0 < u
      · have hnext := HI.out.round hub hg
        rw [show ((u % 10 : Nat) : Int) = (u : Int) % 10 by omega] at hnext
        have HN := Lib.hid hnext
        have hp' : (0 : Int) < (u : Int) := by omega
        have hm0 : 0 ≤ (u : Int) % 10 ∧ (u : Int) % 10 ≤ 9 := by omega
        obtain ⟨hm1, hm2⟩ := hm0
        have hwa : IntKind.u64.wrap (48 + (u : Int) % 10) = 48 + (u : Int) % 10 := by rw [IntKind.wrap_u64]; omega
        have hwb : IntKind.u8.wrap (48 + (u : Int) % 10) = 48 + (u : Int) % 10 := IntWalk.u8_in _ (by omega)
        have v1 := (Rd.lit wr .u8 [48 + (u : Int) % 10] #[.int .u8 (48 + (u : Int) % 10)] 5 (0, 0) 1 rfl rfl).conv
        have z2 : ¬ 9223372036854775807 < (strOfNums [48 + (u : Int) % 10]).size + (strOfNums d).size := by have := HSZ.out; rw [strOfNums_size]; simp; omega
        have HB := Lib.hid (below_seq hb ((Below.refl _ wr).alloc (Nat.le_refl _) (.cells #[.int .u8 (48 + (u : Int) % 10)] 5 (0, 0))))
        have HAP := Lib.hid (show strOfNums [48 + (u : Int) % 10] ++ strOfNums d = strOfNums ((48 + (u : Int) % 10) :: d) by rw [← strOfNums_append]; rfl)
        have HM := Lib.hid (show ∀ s : ByteArray, 1 ≤ s.size → u / 10 + emptyV (.string s) < u + emptyV (.string (strOfNums d)) from fun s hs => by
          simp only [emptyV]
          rw [if_neg (by omega)]
          omega)
        clear hnext hg hp
        go_wp2
        go_roundw
        case rel => exact ⟨u / 10, _, by go_num, by rw [HAP.out], HN.out, HB.out⟩
        case measure =>
          have h := HM.out (strOfNums [48 + (u : Int) % 10] ++ strOfNums d) (by rw [ByteArray.size_append, strOfNums_size]; simp)
          simp only [intOf]
          omega
      · obtain rfl : u = 0 := by omega
        obtain rfl : d = [] := by rcases hg with hg | hg; exact absurd hg hp; exact hg
        have HN := Lib.hid (HI.out.round hub (.inr rfl))
        have he : (strOfNums []).toList.isEmpty = true := by decide +kernel
        have v1 := (Rd.lit wr .u8 [48] #[.int .u8 48] 5 (0, 0) 1 rfl rfl).conv
        have z2 : ¬ 9223372036854775807 < (strOfNums [48]).size + (strOfNums []).size := by decide +kernel
        have HB := Lib.hid (below_seq hb ((Below.refl _ wr).alloc (Nat.le_refl _) (.cells #[.int .u8 48] 5 (0, 0))))
        have HAP := Lib.hid (show strOfNums [48] ++ strOfNums [] = strOfNums [48] by rw [← strOfNums_append]; rfl)
        clear hg hp
        go_wp2
        go_roundw
        case rel => exact ⟨0, [48], rfl, by rw [HAP.out], HN.out, HB.out⟩
        case measure => rw [HAP.out]; decide +kernel
    · have hu : u = 0 := by omega
      have hd : d ≠ [] := fun e => hg (.inr e)
      have hdone := HI.out.done hu hd
      have he : (strOfNums d).toList.isEmpty = false := by
        cases d with
        | nil => exact absurd rfl hd
        | cons a t => rw [ByteArray.toList_eq, strOfNums_data]; rfl
      have hp' : ¬ (0 : Int) < (u : Int) := by omega
      have z3 : ¬ 9223372036854775807 < 1 + (strOfNums d).size := by have := HSZ.out; omega
      have HD := Lib.hid hdone
      clear hg hu hd hdone
      go_wp2
      go_ret
      rw [HT.out, ← HD.out, strOfNums_append]
      exact ⟨rfl, hb⟩
theorem decimal_any (n : Int) (w : World) (hn : -9223372036854775808 ≤ n ∧ n ≤ 9223372036854775807) :
    Calls Tryd.prog 15 #[.int .i64 n] w fun e w' => e = .returned (.string (strOfNums (decT n))) ∧ Below w.heap.size w w' := by
  by_cases h : n < 0
  · exact decimal_neg n w hn.1 hn.2 h
  · exact decimal_pos n w hn.1 hn.2 h
end Go.Proofs.YtkpaokcgjeplpaaDoor
