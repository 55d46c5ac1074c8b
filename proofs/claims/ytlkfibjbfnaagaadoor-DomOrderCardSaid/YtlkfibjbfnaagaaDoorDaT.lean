
import Derived.Test.YtlkfibjbfnaagaaDoorDaA
namespace Go.Proofs.YtlkfibjbfnaagaaDoor
open Go.RowKit Go.Maps Go.WideMaps Go.Shelf
/-! Is a table looked at? -/
def RowOk (r : RawD) : Prop := r.tag.size ≤ 50 ∧ r.text.size ≤ 3000 ∧ r.attrs.length ≤ 8 ∧ ∀ a ∈ r.attrs, a.1.size ≤ 50 ∧ a.2.size ≤ 3000
def TabOk (l : List RawD) : Prop := l.length ≤ 24 ∧ ∀ r ∈ l, RowOk r
def TabPost (w : World) (l : List RawD) (e : Ending) (w' : World) : Prop := (e = .returned (.bool false) ∨ (e = .returned (.bool true) ∧ TabOk l)) ∧ w = w'
set_option maxRecDepth 100000 in
set_option maxRecDepth 100000 in
set_option maxHeartbeats 3200000 in
theorem table_any {w : World} {v : Value} {l : List RawD} (h : RdW w v l) (hll : l.length ≤ maxLen) (hal : ∀ r ∈ l, r.attrs.length ≤ maxLen) : Calls Tryd.prog 8 #[v] w (TabPost w l) := by
  obtain ⟨a, c, rfl, hle, hc⟩ := h
  obtain ⟨N, hN⟩ : ∃ N, l.length = N := ⟨_, rfl⟩
  have HN := Lib.hid hN
  have HC := Lib.hid hc
  have HAL := Lib.hid hal
  rw [hN] at hle hll ⊢
  have hNm : (N : Int) ≤ 9223372036854775807 := by unfold maxLen at hll; omega
  clear hN hc hal
  by_cases h24 : 24 < N
  · have h24I : (24 : Int) < (N : Int) := by omega
    go_enter Tryd.func8, Tryd.ntmps8
    go_wp2
    go_ret
    exact ⟨.inl rfl, rfl⟩
  have h24I : ¬ (24 : Int) < (N : Int) := by omega
  go_enter Tryd.func8, Tryd.ntmps8
  go_wp2
  go_loop [3] (fun iv => ∃ i : Nat, i ≤ N ∧ iv = .int .i64 i ∧ ∀ j, (hj : j < l.length) → j < i → RowOk l[j]) (fun iv => N - (intOf iv).toNat)
  case atStart => exact ⟨0, Nat.zero_le _, rfl, fun j _ h => absurd h (Nat.not_lt_zero _)⟩
  case round =>
    obtain ⟨i, hiN, rfl, hok⟩ := hrel
    have HOK := Lib.hid hok
    clear hok
    by_cases hlt : i < N
    · have hltI : (i : Int) < (N : Int) := by omega
      have hil : i < l.length := by rw [HN.out]; exact hlt
      obtain ⟨b, off, rfl, hbl, hc2⟩ := HC.out (by omega)
      obtain ⟨u, hu, q0, q1, q2, q3⟩ := hc2 i hil
      obtain ⟨r, hr⟩ : ∃ r, l[i] = r := ⟨_, rfl⟩
      rw [hr] at hu q0 q1 q2
      have HR := Lib.hid hr
      have hrl : r.attrs.length ≤ maxLen := HAL.out r (hr ▸ List.getElem_mem hil)
      obtain ⟨ua, uc, rfl, hule, huc⟩ := hu
      obtain ⟨M, hM⟩ : ∃ M, r.attrs.length = M := ⟨_, rfl⟩
      have HM := Lib.hid hM
      have HUC := Lib.hid huc
      rw [hM] at q3 hule hrl
      have hMm : (M : Int) ≤ 9223372036854775807 := by unfold maxLen at hrl; omega
      clear hc2 hr hM huc q0
      by_cases t1 : 50 < r.tag.size
      · have t1I : (50 : Int) < (r.tag.size : Int) := by omega
        go_wp2
        go_ret
        exact ⟨.inl rfl, rfl⟩
      have t1I : ¬ (50 : Int) < (r.tag.size : Int) := by omega
      by_cases t2 : 3000 < r.text.size
      · have t2I : (3000 : Int) < (r.text.size : Int) := by omega
        go_wp2
        go_ret
        exact ⟨.inl rfl, rfl⟩
      have t2I : ¬ (3000 : Int) < (r.text.size : Int) := by omega
      by_cases t3 : 8 < M
      · have t3I : (8 : Int) < (M : Int) := by omega
        go_wp2
        go_ret
        exact ⟨.inl rfl, rfl⟩
      have t3I : ¬ (8 : Int) < (M : Int) := by omega
      go_wp2
      go_loop [4] (fun kv => ∃ k : Nat, k ≤ M ∧ kv = .int .i64 k ∧ ∀ j, (hj : j < r.attrs.length) → j < k → (r.attrs[j]).1.size ≤ 50 ∧ (r.attrs[j]).2.size ≤ 3000) (fun kv => M - (intOf kv).toNat)
      case atStart => exact ⟨0, Nat.zero_le _, rfl, fun j _ h => absurd h (Nat.not_lt_zero _)⟩
      case round =>
        obtain ⟨k, hkM, rfl, hok2⟩ := hrel
        have HOK2 := Lib.hid hok2
        clear hok2
        by_cases hlt2 : k < M
        · have hlt2I : (k : Int) < (M : Int) := by omega
          have hkl : k < r.attrs.length := by rw [HM.out]; exact hlt2
          obtain ⟨b2, off2, rfl, hb2, hc3⟩ := HUC.out (by omega)
          obtain ⟨p0, p1⟩ := hc3 k hkl
          obtain ⟨p, hp⟩ : ∃ p, r.attrs[k] = p := ⟨_, rfl⟩
          rw [hp] at p0 p1
          have HP := Lib.hid hp
          clear hc3 hp
          by_cases s1 : 50 < p.1.size
          · have s1I : (50 : Int) < (p.1.size : Int) := by omega
            go_wp2
            go_ret
            exact ⟨.inl rfl, rfl⟩
          have s1I : ¬ (50 : Int) < (p.1.size : Int) := by omega
          by_cases s2 : 3000 < p.2.size
          · have s2I : (3000 : Int) < (p.2.size : Int) := by omega
            go_wp2
            go_ret
            exact ⟨.inl rfl, rfl⟩
          have s2I : ¬ (3000 : Int) < (p.2.size : Int) := by omega
          go_wp2
          go_round
          case rel => exact ⟨k + 1, by omega, by go_num, fun j hj hjk => by
            rcases Nat.lt_or_eq_of_le (Nat.le_of_lt_succ hjk) with hj2 | rfl
            · exact HOK2.out j hj hj2
            · rw [HP.out]; exact ⟨by omega, by omega⟩⟩
          case measure => simp [intOf]; omega
        · have hlt2I : ¬ (k : Int) < (M : Int) := by omega
          have HRow := Lib.hid (show RowOk r from ⟨by omega, by omega, by rw [HM.out]; omega, fun x hx => by
            obtain ⟨j, hj, rfl⟩ := List.getElem_of_mem hx
            exact HOK2.out j hj (by rw [HM.out] at hj; omega)⟩)
          go_wp2
          go_round
          case rel => exact ⟨i + 1, by omega, by go_num, fun j hj hji => by
            rcases Nat.lt_or_eq_of_le (Nat.le_of_lt_succ hji) with hj2 | rfl
            · exact HOK.out j hj hj2
            · rw [HR.out]; exact HRow.out⟩
          case measure => simp [intOf]; omega
    · have hltI : ¬ (i : Int) < (N : Int) := by omega
      have HT := Lib.hid (show TabOk l from ⟨by rw [HN.out]; omega, fun x hx => by
        obtain ⟨j, hj, rfl⟩ := List.getElem_of_mem hx
        exact HOK.out j hj (by rw [HN.out] at hj; omega)⟩)
      go_wp2
      go_ret
      exact ⟨.inr ⟨rfl, HT.out⟩, rfl⟩
theorem TabOk.small {l : List RawD} (h : TabOk l) : SmallR l := fun r hr => by
  obtain ⟨h1, _, h3, h4⟩ := h.2 r hr
  exact ⟨by omega, by omega, fun a ha => by have := (h4 a ha).1; omega⟩
end Go.Proofs.YtlkfibjbfnaagaaDoor
