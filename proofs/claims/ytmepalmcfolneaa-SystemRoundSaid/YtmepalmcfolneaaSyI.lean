
import Derived.Test.YtmepalmcfolneaaSyH
import Derived.Deep.RegionHeld3
import Derived.Deep.DrawnRows
import Derived.Test.YtmepalmcfolneaaShelf
import Derived.Lib.LazyBuf
namespace Go.Proofs.Ytmepalmcfolneaa
open Go.RowKit
attribute [local go_sem ↓] Go.wp_at_zero Go.wp_at_succ
set_option maxRecDepth 100000 in
set_option maxHeartbeats 1600000 in
theorem again_any (w : World) (n k : Nat) (hn : n ≤ 4294967295) (hk : 1 ≤ k) (hk2 : k ≤ 64) :
    Calls Try.prog 21 #[.int .u32 n, .int .u32 k] w (PlPost w (againD n k)) := by
  have hkI : (1 : Int) ≤ (k : Int) := by omega
  by_cases h0 : n = 0
  · have HO : Hid (againD n k = none) := if_pos h0
    have h0I : ((n : Int) == 0) = true := by simpa using h0
    have h0J : (n : Int) = 0 := by omega
    have HX := Lib.hid h0
    clear h0
    go_enter Try.func21, Try.ntmps21
    go_wp2
    go_ret2
    exact pl_none _ _ _ _ HO.out (Below.refl _ _)
  · have HO : Hid (againD n k = moreD [] ((n - 1) % k : Nat) ((n - 1) / k + 1)) := if_neg h0
    obtain ⟨m, rfl⟩ : ∃ m, n = m + 1 := ⟨n - 1, by omega⟩
    have h0I : ((((m + 1 : Nat) : Int)) == 0) = false := by simp; omega
    have h0J : ¬ ((m + 1 : Nat) : Int) = 0 := by omega
    rw [Nat.add_sub_cancel] at HO
    clear h0
    have hq : m / k ≤ m := Nat.div_le_self _ _
    have hRm : m % k ≤ m := Nat.mod_le _ _
    have hk0 : ¬ k = 0 := by omega
    have hk0I : ¬ (k : Int) = 0 := by omega
    have HQ : Hid ((m : Int) / (k : Int) = ((m / k : Nat) : Int)) := (Int.natCast_ediv _ _).symm
    have HR : Hid ((m : Int) % (k : Int) = ((m % k : Nat) : Int)) := (Int.natCast_emod _ _).symm
    generalize hQQ : m / k = Q at *
    generalize hRR : m % k = R at *
    clear hQQ hRR
    have HM : Hid (∀ W : World, Calls Try.prog 29 #[.slice none 0 0, .int .i64 (R : Int), .int .u32 ((Q : Int) + 1)] W (MorePost W.heap.size W (moreD [] (R : Int) (Q + 1)))) := fun W => by
      have := more_any W.heap.size W _ [] (R : Int) (Q + 1) (OwnN.nil _ _) (Nat.le_refl _) (by simp) (by omega)
      rw [Int.natCast_add] at this
      exact this
    have f1 : (m : Int).tdiv (k : Int) = (Q : Int) := by rw [Int.tdiv_eq_ediv_of_nonneg (by omega)]; exact HQ.out
    have f2 : (m : Int).tmod (k : Int) = (R : Int) := by rw [Int.tmod_eq_emod_of_nonneg (by omega)]; exact HR.out
    have f0 : IntKind.u32.wrap (m : Int) = (m : Int) := IntWalk.u32_in _ (by omega)
    have f3 : IntKind.i64.wrap (R : Int) = (R : Int) := IntWalk.i64_in _ (by omega)
    have f4 : IntKind.u32.wrap (Q : Int) = (Q : Int) := IntWalk.u32_in _ (by omega)
    have f5 : IntKind.u32.wrap ((Q : Int) + 1) = (Q : Int) + 1 := IntWalk.u32_in _ (by omega)
    go_enter Try.func21, Try.ntmps21
    go_wp2
    go_region_held3 (fun _ => True) (trivial) ((go_at_call 29; refine (HM.out _).mono ?_; rintro e w1 ⟨v1, rfl, hb1, hl1⟩))
    all_goals go_wp2
    all_goals go_ret2
    all_goals exact ⟨v1, by rw [HO.out]; rfl, below_seq ((Below.refl _ _).drew) hb1, fun l hl => (hl1 l (by rw [← HO.out]; exact hl)).rd⟩
theorem below_drewN' {B : Nat} {a w : World} (h : Below B a w) (n : Nat) : Below B a (w.drewN n) := ⟨h.os, h.tape, h.output, h.size, h.block⟩
theorem rd_rev {B : Nat} {w : World} {v : Value} {l : List Int} (h : OwnN B w v l) (hl : l.length ≤ 100000) (hB : B ≤ w.heap.size) :
    Calls Try.prog 30 #[v] w fun e w' => e = .returned (.tuple #[]) ∧ Rd .i64 w' v l.reverse ∧ Below B w w' := by
  rcases h.2 with ⟨rfl, h0⟩ | ⟨g, cap, cur, rfl, b1, hg, hle, _⟩
  · refine (Try.slices_Reverse_int_empty none 0 w).mono ?_
    rintro e w' ⟨rfl, rfl⟩
    obtain rfl : l = [] := List.eq_nil_of_length_eq_zero h0
    exact ⟨rfl, Rd.nil' _ _ _, Below.refl _ _⟩
  · have hrd := OwnN.rd h
    obtain ⟨a, c, e1, _, hc⟩ := hrd
    injection e1 with e1 _ _
    have hcell : ∀ j, j < l.length → w.cell? ⟨g, 0 + j, none⟩ = some (.int .i64 (l.getD j 0)) := fun j hj => by
      obtain ⟨b, off, e2, _, hx⟩ := hc (by omega)
      rw [← e1] at e2
      injection e2 with e2
      injection e2 with e2 e3
      subst e2 e3
      exact hx j hj
    have hfr : ∀ j, j < l.length → w.frozen? ⟨g, 0 + j, none⟩ = false := fun j _ => by
      simp [World.frozen?, hg]
    refine (Try.slices_Reverse_int_cells g 0 l.length cap l w (Nat.le_refl _) (by omega) hcell hfr).mono ?_
    rintro e w' ⟨rfl, q, rfl⟩
    rw [List.take_length]
    have hlen : (l.reverse.map (Value.int .i64)).length = l.length := by simp
    refine ⟨rfl, ⟨_, cap, by rw [List.length_reverse], by rw [List.length_reverse]; exact hle, fun hp => ⟨g, 0, rfl, ?_, fun j hj => ?_⟩⟩, ?_⟩
    · have hlt : g < w.heap.size := (Array.getElem?_eq_some_iff.1 hg).1
      have := (Go.below_setCells (B := B) (a := w) b1 (l.reverse.map (Value.int .i64)) 0 (w.drewN q) (below_drewN' (Below.refl _ _) q)).size
      omega
    · have hj2 : j < (l.reverse.map (Value.int .i64)).length := by simpa using hj
      rw [World.cell?_setCells_in g _ 0 (w.drewN q) (fun i hi => by
        have := hcell i (by rw [hlen] at hi; exact hi)
        show (w.cell? ⟨g, 0 + i, none⟩).isSome = true
        rw [this]; rfl) j hj2]
      congr 1
      rw [List.getElem_map]
      congr 1
      unfold nth
      rw [List.getD_eq_getElem?_getD, List.getElem?_eq_getElem hj]
      rfl
    · exact Go.below_setCells (B := B) (a := w) b1 (l.reverse.map (Value.int .i64)) 0 (w.drewN q) (below_drewN' (Below.refl _ _) q)
end Go.Proofs.Ytmepalmcfolneaa
