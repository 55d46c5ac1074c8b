
import Derived.Test.YtmepalmcfolneaaSyD
namespace Go.Proofs.Ytmepalmcfolneaa
open Go.RowKit
theorem below_al2 (w : World) (o : Obj) : Below w.heap.size w (w.alloc o) := (Below.refl _ _).alloc (Nat.le_refl _) o
theorem any_no {l : List (Int × Int)} {n : Int} (h : ∀ j, (hj : j < l.length) → ¬ ((l[j]).1 ≤ n ∧ n ≤ (l[j]).2)) : false = l.any fun p => decide (p.1 ≤ n) && decide (n ≤ p.2) := by
  symm
  rw [List.any_eq_false]
  intro p hp
  obtain ⟨j, hj, rfl⟩ := List.getElem_of_mem hp
  have := h j hj
  simp
  omega
theorem any_yes {l : List (Int × Int)} {n : Int} {j : Nat} (hj : j < l.length) (h : (l[j]).1 ≤ n ∧ n ≤ (l[j]).2) : true = l.any fun p => decide (p.1 ≤ n) && decide (n ≤ p.2) := by
  symm
  rw [List.any_eq_true]
  exact ⟨_, List.getElem_mem hj, by simp [h.1, h.2]⟩
set_option maxRecDepth 100000 in
set_option maxHeartbeats 1600000 in
theorem in_any (w : World) (d : DefD) (sv wv rv : Value) (h : RdP w rv d.rng) (lr : d.rng.length ≤ 100000) (n : Int) :
    Calls Try.prog 9 #[defV d sv wv rv, .int .i64 n] w fun e w' => e = .returned (.bool (inB d n)) ∧ Below w.heap.size w w' := by
  obtain ⟨a3, c3, rfl, hl, hc⟩ := h
  have HC := Lib.hid hc
  clear hc
  cases ha : d.auto
  · have HF : Hid (inB d n = d.rng.any fun p => decide (p.1 ≤ n) && decide (n ≤ p.2)) := by
      show _ = _
      unfold inB
      rw [if_neg (by rw [ha]; decide)]
    go_enter Try.func9, Try.ntmps9
    go_wp2
    go_loopw [6, 16] (fun _ i wr => ∃ k : Nat, k ≤ d.rng.length ∧ i = .int .i64 k ∧ Below w.heap.size w wr ∧ ∀ j, (hj : j < d.rng.length) → j < k → ¬ ((d.rng[j]).1 ≤ n ∧ n ≤ (d.rng[j]).2)) (fun _ i _ => d.rng.length - (intOf i).toNat)
    case atStart => exact ⟨0, Nat.zero_le _, rfl, below_al2 _ _, fun j _ hj => absurd hj (by omega)⟩
    case round =>
      obtain ⟨k, hk, rfl, hbw, hall⟩ := hrel
      have HA := Lib.hid hall
      clear hall
      have hws := hbw.size
      by_cases hlt : k < d.rng.length
      · obtain ⟨b, off, rfl, hb, hc⟩ := HC.out (by omega)
        have e1 := (hbw.cell (p := ⟨b, off + k * 2, none⟩) hb).trans (hc k hlt).1
        have e2 := (hbw.cell (p := ⟨b, off + k * 2 + 1, none⟩) hb).trans (hc k hlt).2
        clear hc
        have hi1 : (0:Int) ≤ (k:Int) := by omega
        generalize hP : d.rng[k] = P at *
        obtain ⟨x, y⟩ := P
        simp only at e1 e2
        have HP := Lib.hid hP
        clear hP
        by_cases hxn : x ≤ n
        · by_cases hny : n ≤ y
          · have HY := Lib.hid (any_yes (n := n) hlt (by rw [HP.out]; exact ⟨hxn, hny⟩))
            go_wp2
            go_ret
            exact ⟨ret_bool (HY.out.trans HF.out.symm), hbw.alloc hws _⟩
          · have HK : Hid (¬ ((d.rng[k]).1 ≤ n ∧ n ≤ (d.rng[k]).2)) := by rw [HP.out]; exact fun hh => hny hh.2
            have hd : decide (n ≤ y) = false := decide_eq_false hny
            go_wp2
            go_roundw
            case rel => exact ⟨k + 1, by omega, by go_num, hbw.alloc hws _, fun j hj hjk => by
              by_cases e : j = k
              · subst e; exact HK
              · exact HA.out j hj (by omega)⟩
            case measure => simp [intOf]; omega
        · have HK : Hid (¬ ((d.rng[k]).1 ≤ n ∧ n ≤ (d.rng[k]).2)) := by rw [HP.out]; exact fun hh => hxn hh.1
          have hd : decide (x ≤ n) = false := decide_eq_false hxn
          go_wp2
          go_roundw
          case rel => exact ⟨k + 1, by omega, by go_num, hbw.alloc hws _, fun j hj hjk => by
            by_cases e : j = k
            · subst e; exact HK
            · exact HA.out j hj (by omega)⟩
          case measure => simp [intOf]; omega
      · have HY := Lib.hid (any_no (l := d.rng) (n := n) (fun j hj => HA.out j hj (by omega)))
        go_wp2
        go_ret
        exact ⟨ret_bool (HY.out.trans HF.out.symm), hbw⟩
  · have HF : Hid (inB d n = autoB d.sys n) := by
      show _ = _
      unfold inB
      rw [if_pos ha]
    go_enter Try.func9, Try.ntmps9
    go_wp2_with (go_at_call 18; refine (inAuto_any _ _ _).mono ?_; rintro e w1 ⟨rfl, rfl⟩)
    go_ret
    exact ⟨ret_bool HF.out.symm, below_al2 _ _⟩
end Go.Proofs.Ytmepalmcfolneaa
