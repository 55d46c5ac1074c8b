
import Derived.Test.YtmepalmcfolneaaSyG
namespace Go.Proofs.Ytmepalmcfolneaa
open Go.RowKit
theorem ownN_len {B : Nat} {w : World} {v : Value} {l : List Int} (h : OwnN B w v l) : ∃ a c, v = .slice a l.length c := by
  rcases h.2 with ⟨hv, h0⟩ | ⟨g, cap, cur, hv, _⟩
  · exact ⟨none, 0, by rw [hv, h0]⟩
  · exact ⟨_, _, hv⟩
/-- What more answers. -/
def MorePost (B : Nat) (w : World) (o : Option (List Int)) (e : Ending) (w' : World) : Prop :=
  ∃ v, e = .returned (.tuple #[v, .bool o.isSome]) ∧ Below B w w' ∧ ∀ l, o = some l → OwnN B w' v l
theorem rep_snoc (l : List Int) (j : Nat) (x : Int) : l ++ List.replicate j x ++ [x] = l ++ List.replicate (j + 1) x := by
  rw [List.append_assoc, List.replicate_succ']
set_option maxRecDepth 100000 in
set_option maxHeartbeats 1600000 in
theorem more_any (B : Nat) (w : World) (v : Value) (l : List Int) (x : Int) (m : Nat) (h : OwnN B w v l) (hB : B ≤ w.heap.size) (hl : l.length ≤ 60) (hm : m ≤ 4294967295) :
    Calls Try.prog 29 #[v, .int .i64 x, .int .u32 m] w (MorePost B w (moreD l x m)) := by
  obtain ⟨i0, hi, hz0, hz1, hz2⟩ := info_parts info_int
  by_cases hbig : 60 - l.length < m
  · have HO : Hid (moreD l x m = none) := if_pos hbig
    obtain ⟨a, c, rfl⟩ := ownN_len h
    generalize hN : l.length = N at *
    have hbI : (60 : Int) - (N : Int) < (m : Int) := by omega
    clear h hN
    go_enter Try.func29, Try.ntmps29
    go_wp2
    go_ret2
    exact ⟨_, by rw [HO.out]; rfl, Below.refl _ _, fun l hl => by rw [HO.out] at hl; cases hl⟩
  · have HO : Hid (moreD l x m = some (l ++ List.replicate m x)) := if_neg hbig
    have hlm : l.length + m ≤ 60 := by omega
    have HH := Lib.hid h
    obtain ⟨a, c, rfl⟩ := ownN_len h
    generalize hN : l.length = N at *
    have HN := Lib.hid hN
    have hbI : ¬ (60 : Int) - (N : Int) < (m : Int) := by omega
    clear h hN
    go_enter Try.func29, Try.ntmps29
    go_wp2
    go_loopw [0, 15] (fun q cv wr => ∃ (j : Nat) (q0 : Value), q0 = q ∧ j ≤ m ∧ cv = .int .u32 j ∧ Below B w wr ∧ OwnN B wr q0 (l ++ List.replicate j x)) (fun _ cv _ => m - (intOf cv).toNat)
    case atStart => exact ⟨0, _, rfl, Nat.zero_le _, rfl, Below.refl _ _, by simpa [HN.out] using HH.out⟩
    case round =>
      obtain ⟨j, q0, rfl, hj, rfl, hbw, hown⟩ := hrel
      have hws := hbw.size
      have hlen : (l ++ List.replicate j x).length = N + j := by rw [List.length_append, List.length_replicate, HN.out]
      obtain ⟨b, cc, rfl⟩ := ownN_len hown
      have HLE := Lib.hid hlen
      have HOW : Hid (wr.ownsRow B 3 1 (.slice b (N + j) cc) (N + j) ((l ++ List.replicate j x).map (Value.int .i64))) := by
        rw [← HLE.out]
        exact hown
      rw [hlen]
      clear hown hlen
      by_cases hlt : j < m
      · go_wp2_with (at_builtin; refine wpList_append_own_at _ rfl _ _ 24 rfl B 3 i0 (.int .i64 0) 1 8 Try.underlying24 hi hz0 hz1 hz2 rfl (by decide) _ _ _ rfl (HOW.out.alloc _) ⟨wr.heap.size, 0, none⟩ 1 1 [.int .i64 x] rfl rfl (cell_one_new _ _ _) (by simp [Value.oneCell']) (by unfold maxLen; omega) (by omega) (by simp; omega) ?_)
        intro v' w1 hown' hgrow _ hat
        have HNX : Hid (OwnN B w1 v' (l ++ List.replicate (j + 1) x)) := by
          rw [← rep_snoc]
          refine OwnN.snoc ?_
          rw [HLE.out]
          simpa [List.map_append, List.append_assoc] using hown'
        have HBW : Hid (Below B w w1) := (hbw.alloc (Nat.le_trans hB hws) _).grown hgrow (by simp; omega) (fun k hk => (HOW.out.lt k hk).1)
        clear hown' hgrow hat
        go_wp2
        go_roundw
        case rel => exact ⟨j + 1, _, rfl, by omega, by go_num, HBW.out, HNX.out⟩
        case measure => simp [intOf]; omega
      · obtain rfl : j = m := by omega
        go_wp2
        go_ret2
        exact ⟨_, by rw [HO.out]; rfl, hbw, fun l' hl => by rw [HO.out] at hl; injection hl with hl; subst hl; exact (show World.ownsRow _ _ _ _ _ _ _ from by rw [HLE.out]; exact HOW.out)⟩
end Go.Proofs.Ytmepalmcfolneaa
