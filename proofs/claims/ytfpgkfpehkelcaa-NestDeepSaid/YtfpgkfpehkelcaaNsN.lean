
import Derived.Test.YtfpgkfpehkelcaaNsJ
import Derived.Deep.RegionHeld3
import Derived.Deep.AppendLies
import Derived.Test.YtfpgkfpehkelcaaNsH
namespace Go.Proofs.Ytfpgkfpehkelcaa
open Go.RowKit
abbrev cells2 (xs : List (Value × Value)) : List Value := xs.flatMap fun x => [x.1, x.2]
/-- A row of the call's own, of structs of two cells. -/
def Row2 (T : TypeId) (B : Nat) (w : World) (ov : Value) (xs : List (Value × Value)) : Prop := w.ownsRow B T 2 ov xs.length (cells2 xs)
theorem cells2_len (xs : List (Value × Value)) : (cells2 xs).length = xs.length * 2 := by
  induction xs with
  | nil => rfl
  | cons a l ih => unfold cells2 at ih ⊢; rw [List.flatMap_cons, List.length_append, ih, List.length_cons]; simp; omega
section
variable {T : TypeId} {B : Nat} {w w1 : World} {ov : Value} {xs : List (Value × Value)} {x : Value × Value}
theorem Row2.sl (h : Row2 T B w ov xs) : ∃ a c, ov = .slice a xs.length c ∧ xs.length ≤ c ∧ (0 < xs.length → ∃ g, a = some ⟨g, 0, none⟩ ∧ B ≤ g ∧ g < w.heap.size) := by
  rcases h.2 with ⟨h1, h0⟩ | ⟨g, cap, cur, hv, hb, hc, hn, _⟩
  · exact ⟨none, 0, by rw [h1, h0], by omega, fun hp => by omega⟩
  · exact ⟨_, _, hv, hn, fun _ => ⟨g, rfl, hb, (Array.getElem?_eq_some_iff.1 hc).1⟩⟩
theorem Row2.block (h : Row2 T B w ov xs) : ∀ k, ov.ownBlock = some k → B ≤ k ∧ k < w.heap.size := World.ownsRow.lt h
theorem Row2.below (h : Row2 T B w ov xs) (hb : Below w.heap.size w w1) : Row2 T B w1 ov xs :=
  World.ownsRow.kept h (gb_below hb none) (by cases hv : ov.ownBlock with | none => exact .inl rfl | some g => exact .inr (by simp))
theorem Row2.last {g n c : Nat} (h : Row2 T B w (.slice (some ⟨g, 0, none⟩) (n + 1) c) (xs ++ [x])) (hn : xs.length = n) : w.cell? ⟨g, n * 2, none⟩ = some x.1 ∧ w.cell? ⟨g, n * 2 + 1, none⟩ = some x.2 := by
  unfold Row2 at h
  rw [show (xs ++ [x]).length = n + 1 by simp [hn]] at h
  have hl := cells2_len xs
  unfold cells2 at h hl
  constructor
  · rw [h.cellAt (n * 2) (by omega), List.flatMap_append, List.getElem?_append_right (by omega), hl, hn]; simp
  · rw [h.cellAt (n * 2 + 1) (by omega), List.flatMap_append, List.getElem?_append_right (by omega), hl, hn]; simp
theorem Row2.cut {a : Option Addr} {n c : Nat} (h : Row2 T B w (.slice a n c) (xs ++ [x])) : Row2 T B w (.slice a xs.length c) xs := by
  have hl := cells2_len xs
  unfold Row2 at h ⊢
  unfold cells2 at h hl ⊢
  refine ⟨hl, ?_⟩
  rcases h.2 with ⟨_, h0⟩ | ⟨g, cap, cur, hv, hb, hg, hn, hm, hs, ht⟩
  · simp at h0
  · injection hv with e1 _ e3
    subst e1 e3
    refine .inr ⟨g, c, cur, rfl, hb, hg, by simp at hn; omega, hm, hs, ?_⟩
    have h2 := congrArg (List.take (xs.length * 2)) ht
    rw [List.take_take, List.flatMap_append, List.take_left' hl, Nat.min_eq_left (by simp; omega)] at h2
    exact h2
theorem Row2.push {g cap n : Nat} {a b : Value} (hn : xs.length = n) (hown : w1.ownsRow B T 2 (.slice (some ⟨g, 0, none⟩) (n + 1) cap) (n + 1) (cells2 xs ++ [a, b])) : Row2 T B w1 (.slice (some ⟨g, 0, none⟩) (n + 1) cap) (xs ++ [(a, b)]) := by
  unfold cells2 at hown
  unfold Row2 cells2
  rw [List.length_append, List.flatMap_append, hn]
  exact hown
end
/-- Behind an append to a row of the call's own nothing old has turned. -/
theorem grown_below {B : Nat} {w0 w w1 : World} {v : Value} (hb : Below B w0 w) (hB : B ≤ w.heap.size) (hg : w.grownBy w1 v.ownBlock) (hv : ∀ k, v.ownBlock = some k → B ≤ k) : Below B w0 w1 :=
  hb.trans ⟨hg.os, hg.tape, hg.output, hg.size, fun i hi => hg.block i (Nat.lt_of_lt_of_le hi hB) fun e => by have := hv i e.symm; omega⟩
/-! Deep. -/
theorem info_dlist : (Try.prog.info? 52).map (fun i => (i.zero, i.size, i.bytes)) = some (some (.agg #[.slice none 0 0, .int .i64 0]), 2, 32) := by kernel_rfl
/-- Lists that wait, each with how deep it stands. -/
abbrev Ds := List (Value × List Nd × Nat)
def dEnt (x : Value × List Nd × Nat) : Value × Value := (x.1, .int .i64 (x.2.2 : Int))
def szD : Ds → Nat
  | [] => 0
  | x :: s => szL x.2.1 + 1 + szD s
def mxD : Ds → Nat
  | [] => 0
  | x :: s => max (if x.2.1.isEmpty then 0 else x.2.2 + dpL x.2.1) (mxD s)
theorem szD_append : ∀ a b : Ds, szD (a ++ b) = szD a + szD b
  | [], b => by simp [szD]
  | x :: a, b => by rw [List.cons_append, szD, szD, szD_append a b]; omega
theorem mxD_append : ∀ a b : Ds, mxD (a ++ b) = max (mxD a) (mxD b)
  | [], b => by simp [mxD]
  | x :: a, b => by rw [List.cons_append, mxD, mxD, mxD_append a b]; omega
theorem szD_len : ∀ s : Ds, s.length ≤ szD s
  | [] => Nat.le_refl _
  | x :: s => by have := szD_len s; rw [szD, List.length_cons]; omega
/-- What nodes' kids come to at depth d. -/
def mxN (d : Nat) : List Nd → Nat
  | [] => 0
  | n :: l => max (if n.kids.isEmpty then 0 else d + dpL n.kids) (mxN d l)
theorem mxN_dp (d : Nat) : ∀ l : List Nd, l ≠ [] → max (d + 1) (mxN (d + 1) l) = d + dpL l
  | [], h => absurd rfl h
  | .mk t k :: l, _ => by
    have e0 : dpL [] = 0 := by rw [dpL]
    have e1 : mxN (d + 1) [] = 0 := by rw [mxN]
    have hl : l = [] ∨ max (d + 1) (mxN (d + 1) l) = d + dpL l := by
      cases l with
      | nil => exact .inl rfl
      | cons m l => exact .inr (mxN_dp d (m :: l) (by simp))
    have hk : max (d + 1) (max (if k.isEmpty then 0 else d + 1 + dpL k) 0) = d + (1 + dpL k) := by
      cases k with
      | nil => simp only [List.isEmpty_nil, if_true, e0]; omega
      | cons a k => simp only [List.isEmpty_cons, Bool.false_eq_true, if_false]; omega
    rw [mxN, dpL, dpN]
    show max (d + 1) (max (if k.isEmpty then 0 else d + 1 + dpL k) _) = _
    generalize (if k.isEmpty then 0 else d + 1 + dpL k) = z at *
    rcases hl with rfl | hl
    · rw [e0, e1]; omega
    · omega
theorem mxN_drop (d : Nat) (l : List Nd) (i : Nat) (h : i < l.length) : mxN d (l.drop i) = max (if (l[i]).kids.isEmpty then 0 else d + dpL (l[i]).kids) (mxN d (l.drop (i + 1))) := by rw [List.drop_eq_getElem_cons h, mxN]
theorem dp_le_sz : ∀ (m : Nat) (l : List Nd), szL l ≤ m → dpL l ≤ m
  | _, [], _ => by rw [dpL]; omega
  | 0, .mk t k :: l, h => by rw [szL, szN] at h; omega
  | m + 1, .mk t k :: l, h => by
    rw [szL, szN] at h
    rw [dpL, dpN]
    have h1 := dp_le_sz m k (by omega)
    have h2 := dp_le_sz m l (by omega)
    omega
structure DeepI (w0 w : World) (ov : Value) (ks : Ds) : Prop where
  row : Row2 52 w0.heap.size w ov (ks.map dEnt)
  rd : ∀ x ∈ ks, RdN w0 (fun b => b < w0.heap.size) x.1 x.2.1
  bel : Below w0.heap.size w0 w
set_option maxRecDepth 100000 in
set_option maxHeartbeats 6400000 in
theorem deep_any {l : List Nd} {v : Value} {w : World} {P : Nat → Prop} (h : RdN w P v l) (hl : szL l ≤ 100000000) :
    Calls Try.prog 14 #[v] w fun e w' => e = .returned (.int .i64 (dpL l : Int)) ∧ Below w.heap.size w w' := by
  obtain ⟨i0, hi, hz0, hz1, hz2⟩ := info_parts info_dlist
  have hll := szL_ge l
  have hrd := h.weak (Q := fun b => b < w.heap.size) fun b hl _ => hl
  obtain ⟨va, vc, hv, _⟩ := h.shape
  obtain ⟨vn, hvn⟩ : ∃ vn, l.length = vn := ⟨_, rfl⟩
  rw [hvn] at hv
  subst hv
  have hI0 : DeepI w (w.alloc (.cells #[.slice va vn vc, .int .i64 0] 52)) (.slice (some ⟨w.heap.size, 0, none⟩) 1 1) [(.slice va vn vc, l, 0)] := by
    refine ⟨?_, fun x hx => by simp at hx; subst hx; exact hrd, (Below.refl _ _).alloc (Nat.le_refl _) _⟩
    exact World.ownsRow_lit (base := w.heap.size) (e := 52) (size := 2) w #[.slice va vn vc, .int .i64 0] 1 (Nat.le_refl _) (by unfold maxLen; omega) rfl
  have HI0 := Lib.hid hI0
  clear hI0 h hrd
  go_enter Try.func14, Try.ntmps14
  go_wp2
  go_loopg [3, 4] (szL l + 1) (fun k ov dv wr => ∃ (ks : Ds) (d : Nat), k = szD ks ∧ szD ks ≤ szL l + 1 ∧ dv = .int .i64 (d : Int) ∧ max d (mxD ks) = dpL l ∧ (∀ x ∈ ks, x.2.2 ≤ dpL l) ∧ DeepI w wr ov ks)
  case atStart => exact ⟨[(.slice va vn vc, l, 0)], 0, by simp [szD], by simp [szD], rfl, by simp only [mxD]; cases l with | nil => simp [dpL] | cons a l => simp, by intro x hx; simp at hx; subst hx; exact Nat.zero_le _, HI0.out⟩
  case round =>
    obtain ⟨ks, d, hgk, hgb, rfl, hmx, hdd, hI⟩ := hrel
    clear HI0
    have hdl := dp_le_sz _ l (Nat.le_refl _)
    have hd0 : d ≤ 100000000 := by omega
    rcases List.eq_nil_or_concat ks with rfl | ⟨ks', x, rfl⟩
    · obtain ⟨oa, oc, rfl, _, _⟩ := hI.row.sl
      have HI := Lib.hid hI.bel
      have HM := Lib.hid (show (d : Int) = (dpL l : Int) by rw [← hmx]; simp [mxD])
      clear hI hmx hgk hgb hdd
      go_wp2
      go_ret
      exact ⟨by rw [HM.out]; rfl, HI.out⟩
    · rw [List.concat_eq_append] at *
      obtain ⟨xv, xk, xd⟩ := x
      obtain ⟨n, hn⟩ : ∃ n, ks'.length = n := ⟨_, rfl⟩
      obtain ⟨oa, oc, rfl, hocap, hoa⟩ := hI.row.sl
      obtain ⟨g, rfl, hBg, hgl⟩ := hoa (by simp)
      rw [show ((ks' ++ [(xv, xk, xd)]).map dEnt).length = n + 1 by simp [hn]] at *
      have hrow := hI.row
      rw [List.map_append] at hrow
      obtain ⟨k0, k1⟩ := hrow.last (by simp [hn])
      have hcut := hrow.cut
      rw [show (ks'.map dEnt).length = n by simp [hn]] at hcut
      have hxr := hI.rd (xv, xk, xd) (by simp)
      have hxd := hdd (xv, xk, xd) (by simp)
      simp only [dEnt] at k0 k1 hxr hxd
      have hI2 : DeepI w wr (.slice (some ⟨g, 0, none⟩) n oc) ks' := ⟨hcut, fun x hx => hI.rd x (List.mem_append_left _ hx), hI.bel⟩
      rw [szD_append] at hgk hgb
      rw [mxD_append] at hmx
      simp only [szD, mxD, Nat.add_zero, Nat.max_zero] at hgk hgb hmx
      have hks := szD_len ks'
      have hnb : n ≤ 100000001 := by omega
      have hxkl := szL_ge xk
      obtain ⟨xa, xc, hxv, hxc⟩ := hxr.shape
      obtain ⟨N, hN⟩ : ∃ N, xk.length = N := ⟨_, rfl⟩
      rw [hN] at hxv hxc hxkl
      have hNb : N ≤ 100000001 := by omega
      subst hxv
      have HI2 := Lib.hid hI2
      have HXR := Lib.hid hxr
      have HN := Lib.hid hN
      have HGK := Lib.hid (And.intro hgk (And.intro hgb hmx))
      have HDD := Lib.hid (show ∀ x ∈ ks', x.2.2 ≤ dpL l from fun x hx => hdd x (List.mem_append_left _ hx))
      have hxdb : xd ≤ 100000000 := by omega
      clear hI hI2 hxr hgk hgb hmx hdd hrow hcut hoa
      by_cases hN0 : N = 0
      · subst hN0
        have hxk : xk = [] := List.eq_nil_of_length_eq_zero HN.out
        have hI3 : DeepI w (wr.alloc (.cells #[.slice xa 0 xc, .int .i64 (xd : Int)] 52)) (.slice (some ⟨g, 0, none⟩) n oc) ks' := ⟨HI2.out.row.below ((Below.refl _ _).alloc (Nat.le_refl _) _), HI2.out.rd, HI2.out.bel.alloc HI2.out.bel.size _⟩
        have HI3 := Lib.hid hI3
        have HXK := Lib.hid hxk
        clear hI3 hxk
        go_upto_region 10 with fail
        refine wp_loop_rounds 1 ?_
        rw [rounds_succ]
        go_wp2
        go_roundg (szD ks')
        case measure => have := HGK.out.1; omega
        case rel =>
          refine ⟨ks', d, rfl, by have := HGK.out.1; have := HGK.out.2.1; omega, rfl, ?_, HDD.out, HI3.out⟩
          have h1 := HGK.out.2.2
          rw [HXK.out, if_pos (by rfl)] at h1
          omega
      · have hN1 : (0 : Int) < (N : Int) := by omega
        have hxne : xk ≠ [] := fun e => hN0 (by rw [← HN.out, e]; rfl)
        have hdx := mxN_dp xd xk hxne
        have HMX := Lib.hid (show max (xd + 1) (mxN (xd + 1) xk) = (if xk.isEmpty then 0 else xd + dpL xk) by rw [hdx, if_neg (by simpa using hxne)])
        have hxd1 : xd + 1 ≤ dpL l := by have h1 := HGK.out.2.2; rw [← HMX.out] at h1; omega
        obtain ⟨b, off, c', hxe, _, _, hbl, g1⟩ := HXR.out.base (by rw [HN.out]; omega)
        rw [HN.out] at hxe
        injection hxe with e1 _ e3
        subst e1 e3
        have G1 := Lib.hid g1
        have HTB := Lib.hid (show w.heap.size ≤ wr.heap.size ∧ g < wr.heap.size from ⟨HI2.out.bel.size, hgl⟩)
        clear hdx hxne g1
        by_cases hmax : d < xd + 1
        · have hmax2 : (d : Int) < (xd : Int) + 1 := by omega
          go_upto_region 10 with fail
          have hW := heap_alloc_self wr (.cells #[.slice (some ⟨b, off, none⟩) N xc, .int .i64 ((xd : Int) + 1)] 52)
          have hI3 : DeepI w (wr.alloc (.cells #[.slice (some ⟨b, off, none⟩) N xc, .int .i64 ((xd : Int) + 1)] 52)) (.slice (some ⟨g, 0, none⟩) n oc) ks' := ⟨HI2.out.row.below ((Below.refl _ _).alloc (Nat.le_refl _) _), HI2.out.rd, HI2.out.bel.alloc HI2.out.bel.size _⟩
          generalize hTB : wr.heap.size = tb at *
          generalize wr.alloc (.cells #[.slice (some ⟨b, off, none⟩) N xc, .int .i64 ((xd : Int) + 1)] 52) = W at *
          have HI3 := Lib.hid hI3
          have HW := Lib.hid hW
          clear hI3 hW hTB
          go_loopg [3, 40] N (fun k ov cv wr => ∃ (i : Nat) (ks2 : Ds), k = N - i ∧ i ≤ N ∧ cv = .int .i64 i ∧ wr.heap[tb]? = some (.cells #[.slice (some ⟨b, off, none⟩) N xc, .int .i64 ((xd : Int) + 1)] 52 (0, 0)) ∧ szD ks2 + szL (xk.drop i) ≤ szD ks' + szL xk ∧
            max (mxD ks2) (mxN (xd + 1) (xk.drop i)) = max (mxD ks') (mxN (xd + 1) xk) ∧ (∀ x ∈ ks2, x.2.2 ≤ dpL l) ∧ DeepI w wr ov ks2 ∧ ov.ownBlock ≠ some tb)
          case atStart => exact ⟨0, ks', rfl, Nat.zero_le _, rfl, HW.out, Nat.le_refl _, rfl, HDD.out, HI3.out, fun e => Nat.ne_of_lt HTB.out.2 (by simpa [Value.ownBlock] using e)⟩
          case round =>
            obtain ⟨i, ks2, hk2, hi2, rfl, hW, hs2, hm2, hd2, hI4, htn⟩ := hrel
            obtain ⟨oa2, oc2, hov2, _, _⟩ := hI4.row.sl
            obtain ⟨n2, hn2⟩ : ∃ n2, ks2.length = n2 := ⟨_, rfl⟩
            rw [show (ks2.map dEnt).length = n2 by simp [hn2]] at hov2
            subst hov2
            clear HI3 HW
            by_cases hlt : i < N
            · obtain ⟨u, hat, hku⟩ := G1.out i (by rw [HN.out]; exact hlt)
              obtain ⟨c0, c1, c2, c3, c4, c5, c6⟩ := hat.move (w' := wr) (hI4.bel.block b hbl)
              obtain ⟨ua, uc, hus, _⟩ := hku.shape
              subst hus
              have hx0 : (0 : Int) ≤ (i : Int) := by omega
              have hx1 : (i : Int) < (N : Int) := by omega
              have HX := Lib.hid (And.intro (mxN_drop (xd + 1) xk i (by rw [HN.out]; exact hlt)) (And.intro (szL_drop xk i (by rw [HN.out]; exact hlt)) (show szN (xk[i]'(by rw [HN.out]; exact hlt)) = 1 + szL (xk[i]'(by rw [HN.out]; exact hlt)).kids by rw [Nd.eta (xk[i]'(by rw [HN.out]; exact hlt)), szN]; rfl)))
              have HKU := Lib.hid hku
              have hks2 := szD_len ks2
              have hn2b : n2 ≤ 200000000 := by have := HGK.out.1; have := HGK.out.2.1; omega
              have HI4 := Lib.hid hI4
              have HS := Lib.hid (And.intro hs2 (And.intro hm2 hd2))
              have HN2 := Lib.hid hn2
              clear hat hku hI4 hs2 hm2 hd2 hn2 hks2
              generalize (xk[i]'(by rw [HN.out]; exact hlt)).kids = q at *
              generalize (xk[i]'(by rw [HN.out]; exact hlt)).tok = ti at *
              have ql : ∃ qn, q.length = qn := ⟨_, rfl⟩
              obtain ⟨qn, hqn⟩ := ql
              rw [hqn] at c6 HKU
              have HQN := Lib.hid hqn
              have htb : tb < wr.heap.size := (Array.getElem?_eq_some_iff.1 hW).1
              have hWt : ∀ (o : Obj), (wr.alloc o).cell? ⟨tb, 1, none⟩ = some (.int .i64 ((xd : Int) + 1)) := fun o => by
                have h1 : wr.cell? ⟨tb, 1, none⟩ = some (.int .i64 ((xd : Int) + 1)) := by simp [World.cell?, hW]
                exact (((Below.refl wr.heap.size wr).alloc (Nat.le_refl _) o).cell (p := ⟨tb, 1, none⟩) htb).trans h1
              have hwt := hWt (.cells #[.int .i64 ti.kind, .string ti.text, .int .i64 ti.int, .bool ti.whole, .bool ti.sign, .bool ti.id, .slice ua qn uc] 35)
              have hbA := ((Below.refl wr.heap.size wr).alloc (Nat.le_refl _) (.cells #[.int .i64 ti.kind, .string ti.text, .int .i64 ti.int, .bool ti.whole, .bool ti.sign, .bool ti.id, .slice ua qn uc] 35)).alloc (by simp) (.cells #[.slice ua qn uc, .int .i64 ((xd : Int) + 1)] 52)
              have HNB := Lib.hid (show ((wr.alloc (.cells #[.int .i64 ti.kind, .string ti.text, .int .i64 ti.int, .bool ti.whole, .bool ti.sign, .bool ti.id, .slice ua qn uc] 35)).alloc (.cells #[.slice ua qn uc, .int .i64 ((xd : Int) + 1)] 52)).heap[wr.heap.size + 1]? = some (.cells #[.slice ua qn uc, .int .i64 ((xd : Int) + 1)] 52) by have := heap_alloc_self (wr.alloc (.cells #[.int .i64 ti.kind, .string ti.text, .int .i64 ti.int, .bool ti.whole, .bool ti.sign, .bool ti.id, .slice ua qn uc] 35)) (.cells #[.slice ua qn uc, .int .i64 ((xd : Int) + 1)] 52); simpa using this)
              have hownA := HI4.out.row.below hbA
              have HOA := Lib.hid hownA
              unfold Row2 at hownA
              rw [show (ks2.map dEnt).length = n2 by simp [HN2.out]] at hownA
              have HW := Lib.hid hW
              have HBA := Lib.hid hbA
              have hwb := HI4.out.bel.size
              clear hWt hqn hW hbA
              go_wp2_with (at_builtin; refine wpList_append_lies _ rfl _ _ 53 rfl w.heap.size 52 i0 (.agg #[.slice none 0 0, .int .i64 0]) 2 32 Try.underlying53 hi hz0 hz1 hz2 rfl (by decide) (.slice oa2 n2 oc2) n2 (cells2 (ks2.map dEnt)) rfl hownA ⟨_, 0, none⟩ 1 1 [.slice ua qn uc, .int .i64 ((xd : Int) + 1)] rfl rfl (World.news_of_block HNB.out) (by intro u hu; simp at hu; rcases hu with rfl | rfl <;> rfl) (by decide) (by unfold maxLen; omega) (by omega) (by simp; omega) _ rfl ?_; intro g5 cap5 w5 hown5 hgrow5 hat5 hlt5)
              go_roundg (N - (i + 1))
              case measure => omega
              case rel =>
                have hob := HOA.out.block
                have hb5 := grown_below (HI4.out.bel.trans (HBA.out.mono hwb)) (by simp; omega) hgrow5 (fun k hk => (hob k hk).1)
                have hP := Row2.push (xs := ks2.map dEnt) (by simp [HN2.out]) hown5
                refine ⟨i + 1, ks2 ++ [(.slice ua qn uc, q, xd + 1)], rfl, by omega, by go_num, ?_, ?_, ?_, ?_, ?_, fun e => ?_⟩
                · have h1 : w5.heap[tb]? = wr.heap[tb]? := by
                    rw [hgrow5.block tb (by simp; omega) fun e => htn e.symm]
                    exact HBA.out.block tb htb
                  rw [h1]; exact HW.out
                · rw [szD_append]; simp only [szD]; have := HS.out.1; have := HX.out.2.1; have := HX.out.2.2; omega
                · rw [mxD_append]; simp only [mxD]; have h1 := HS.out.2.1; have h2 := HX.out.1; rw [h2] at h1; rw [← h1]; omega
                · intro x hx
                  rw [List.mem_append] at hx
                  rcases hx with hx | hx
                  · exact HS.out.2.2 x hx
                  · simp at hx; subst hx; exact hxd1
                · refine ⟨?_, fun x hx => ?_, hb5⟩
                  · rw [List.map_append]
                    exact hP
                  · rw [List.mem_append] at hx
                    rcases hx with hx | hx
                    · exact HI4.out.rd x hx
                    · simp at hx; subst hx; exact HKU.out
                · have e2 : g5 = tb := by simpa [Value.ownBlock] using e
                  subst e2
                  rcases hat5 with h5 | h5
                  · exact htn h5
                  · simp at h5; omega
            · have hd3 : xk.drop i = [] := List.drop_eq_nil_of_le (by rw [HN.out]; omega)
              rw [hd3] at hs2 hm2
              have e0 : szL [] = 0 := by rw [szL]
              have e1 : mxN (xd + 1) [] = 0 := by rw [mxN]
              rw [e0] at hs2
              rw [e1] at hm2
              have HI4 := Lib.hid hI4
              have HS := Lib.hid (And.intro hs2 (And.intro hm2 hd2))
              clear hI4 hs2 hm2 hd2 hd3
              go_wp2
              go_roundg (szD ks2)
              case measure => have := HS.out.1; have := HGK.out.1; omega
              case rel =>
                refine ⟨ks2, xd + 1, rfl, by have := HS.out.1; have := HGK.out.1; have := HGK.out.2.1; omega, by go_num, ?_, HS.out.2.2, HI4.out⟩
                have h1 := HGK.out.2.2
                have h2 := HS.out.2.1
                have h3 := HMX.out
                omega
        · have hmax2 : ¬ (d : Int) < (xd : Int) + 1 := by omega
          go_upto_region 10 with fail
          have hW := heap_alloc_self wr (.cells #[.slice (some ⟨b, off, none⟩) N xc, .int .i64 ((xd : Int) + 1)] 52)
          have hI3 : DeepI w (wr.alloc (.cells #[.slice (some ⟨b, off, none⟩) N xc, .int .i64 ((xd : Int) + 1)] 52)) (.slice (some ⟨g, 0, none⟩) n oc) ks' := ⟨HI2.out.row.below ((Below.refl _ _).alloc (Nat.le_refl _) _), HI2.out.rd, HI2.out.bel.alloc HI2.out.bel.size _⟩
          generalize hTB : wr.heap.size = tb at *
          generalize wr.alloc (.cells #[.slice (some ⟨b, off, none⟩) N xc, .int .i64 ((xd : Int) + 1)] 52) = W at *
          have HI3 := Lib.hid hI3
          have HW := Lib.hid hW
          clear hI3 hW hTB
          go_loopg [3, 40] N (fun k ov cv wr => ∃ (i : Nat) (ks2 : Ds), k = N - i ∧ i ≤ N ∧ cv = .int .i64 i ∧ wr.heap[tb]? = some (.cells #[.slice (some ⟨b, off, none⟩) N xc, .int .i64 ((xd : Int) + 1)] 52 (0, 0)) ∧ szD ks2 + szL (xk.drop i) ≤ szD ks' + szL xk ∧
            max (mxD ks2) (mxN (xd + 1) (xk.drop i)) = max (mxD ks') (mxN (xd + 1) xk) ∧ (∀ x ∈ ks2, x.2.2 ≤ dpL l) ∧ DeepI w wr ov ks2 ∧ ov.ownBlock ≠ some tb)
          case atStart => exact ⟨0, ks', rfl, Nat.zero_le _, rfl, HW.out, Nat.le_refl _, rfl, HDD.out, HI3.out, fun e => Nat.ne_of_lt HTB.out.2 (by simpa [Value.ownBlock] using e)⟩
          case round =>
            obtain ⟨i, ks2, hk2, hi2, rfl, hW, hs2, hm2, hd2, hI4, htn⟩ := hrel
            obtain ⟨oa2, oc2, hov2, _, _⟩ := hI4.row.sl
            obtain ⟨n2, hn2⟩ : ∃ n2, ks2.length = n2 := ⟨_, rfl⟩
            rw [show (ks2.map dEnt).length = n2 by simp [hn2]] at hov2
            subst hov2
            clear HI3 HW
            by_cases hlt : i < N
            · obtain ⟨u, hat, hku⟩ := G1.out i (by rw [HN.out]; exact hlt)
              obtain ⟨c0, c1, c2, c3, c4, c5, c6⟩ := hat.move (w' := wr) (hI4.bel.block b hbl)
              obtain ⟨ua, uc, hus, _⟩ := hku.shape
              subst hus
              have hx0 : (0 : Int) ≤ (i : Int) := by omega
              have hx1 : (i : Int) < (N : Int) := by omega
              have HX := Lib.hid (And.intro (mxN_drop (xd + 1) xk i (by rw [HN.out]; exact hlt)) (And.intro (szL_drop xk i (by rw [HN.out]; exact hlt)) (show szN (xk[i]'(by rw [HN.out]; exact hlt)) = 1 + szL (xk[i]'(by rw [HN.out]; exact hlt)).kids by rw [Nd.eta (xk[i]'(by rw [HN.out]; exact hlt)), szN]; rfl)))
              have HKU := Lib.hid hku
              have hks2 := szD_len ks2
              have hn2b : n2 ≤ 200000000 := by have := HGK.out.1; have := HGK.out.2.1; omega
              have HI4 := Lib.hid hI4
              have HS := Lib.hid (And.intro hs2 (And.intro hm2 hd2))
              have HN2 := Lib.hid hn2
              clear hat hku hI4 hs2 hm2 hd2 hn2 hks2
              generalize (xk[i]'(by rw [HN.out]; exact hlt)).kids = q at *
              generalize (xk[i]'(by rw [HN.out]; exact hlt)).tok = ti at *
              have ql : ∃ qn, q.length = qn := ⟨_, rfl⟩
              obtain ⟨qn, hqn⟩ := ql
              rw [hqn] at c6 HKU
              have HQN := Lib.hid hqn
              have htb : tb < wr.heap.size := (Array.getElem?_eq_some_iff.1 hW).1
              have hWt : ∀ (o : Obj), (wr.alloc o).cell? ⟨tb, 1, none⟩ = some (.int .i64 ((xd : Int) + 1)) := fun o => by
                have h1 : wr.cell? ⟨tb, 1, none⟩ = some (.int .i64 ((xd : Int) + 1)) := by simp [World.cell?, hW]
                exact (((Below.refl wr.heap.size wr).alloc (Nat.le_refl _) o).cell (p := ⟨tb, 1, none⟩) htb).trans h1
              have hwt := hWt (.cells #[.int .i64 ti.kind, .string ti.text, .int .i64 ti.int, .bool ti.whole, .bool ti.sign, .bool ti.id, .slice ua qn uc] 35)
              have hbA := ((Below.refl wr.heap.size wr).alloc (Nat.le_refl _) (.cells #[.int .i64 ti.kind, .string ti.text, .int .i64 ti.int, .bool ti.whole, .bool ti.sign, .bool ti.id, .slice ua qn uc] 35)).alloc (by simp) (.cells #[.slice ua qn uc, .int .i64 ((xd : Int) + 1)] 52)
              have HNB := Lib.hid (show ((wr.alloc (.cells #[.int .i64 ti.kind, .string ti.text, .int .i64 ti.int, .bool ti.whole, .bool ti.sign, .bool ti.id, .slice ua qn uc] 35)).alloc (.cells #[.slice ua qn uc, .int .i64 ((xd : Int) + 1)] 52)).heap[wr.heap.size + 1]? = some (.cells #[.slice ua qn uc, .int .i64 ((xd : Int) + 1)] 52) by have := heap_alloc_self (wr.alloc (.cells #[.int .i64 ti.kind, .string ti.text, .int .i64 ti.int, .bool ti.whole, .bool ti.sign, .bool ti.id, .slice ua qn uc] 35)) (.cells #[.slice ua qn uc, .int .i64 ((xd : Int) + 1)] 52); simpa using this)
              have hownA := HI4.out.row.below hbA
              have HOA := Lib.hid hownA
              unfold Row2 at hownA
              rw [show (ks2.map dEnt).length = n2 by simp [HN2.out]] at hownA
              have HW := Lib.hid hW
              have HBA := Lib.hid hbA
              have hwb := HI4.out.bel.size
              clear hWt hqn hW hbA
              go_wp2_with (at_builtin; refine wpList_append_lies _ rfl _ _ 53 rfl w.heap.size 52 i0 (.agg #[.slice none 0 0, .int .i64 0]) 2 32 Try.underlying53 hi hz0 hz1 hz2 rfl (by decide) (.slice oa2 n2 oc2) n2 (cells2 (ks2.map dEnt)) rfl hownA ⟨_, 0, none⟩ 1 1 [.slice ua qn uc, .int .i64 ((xd : Int) + 1)] rfl rfl (World.news_of_block HNB.out) (by intro u hu; simp at hu; rcases hu with rfl | rfl <;> rfl) (by decide) (by unfold maxLen; omega) (by omega) (by simp; omega) _ rfl ?_; intro g5 cap5 w5 hown5 hgrow5 hat5 hlt5)
              go_roundg (N - (i + 1))
              case measure => omega
              case rel =>
                have hob := HOA.out.block
                have hb5 := grown_below (HI4.out.bel.trans (HBA.out.mono hwb)) (by simp; omega) hgrow5 (fun k hk => (hob k hk).1)
                have hP := Row2.push (xs := ks2.map dEnt) (by simp [HN2.out]) hown5
                refine ⟨i + 1, ks2 ++ [(.slice ua qn uc, q, xd + 1)], rfl, by omega, by go_num, ?_, ?_, ?_, ?_, ?_, fun e => ?_⟩
                · have h1 : w5.heap[tb]? = wr.heap[tb]? := by
                    rw [hgrow5.block tb (by simp; omega) fun e => htn e.symm]
                    exact HBA.out.block tb htb
                  rw [h1]; exact HW.out
                · rw [szD_append]; simp only [szD]; have := HS.out.1; have := HX.out.2.1; have := HX.out.2.2; omega
                · rw [mxD_append]; simp only [mxD]; have h1 := HS.out.2.1; have h2 := HX.out.1; rw [h2] at h1; rw [← h1]; omega
                · intro x hx
                  rw [List.mem_append] at hx
                  rcases hx with hx | hx
                  · exact HS.out.2.2 x hx
                  · simp at hx; subst hx; exact hxd1
                · refine ⟨?_, fun x hx => ?_, hb5⟩
                  · rw [List.map_append]
                    exact hP
                  · rw [List.mem_append] at hx
                    rcases hx with hx | hx
                    · exact HI4.out.rd x hx
                    · simp at hx; subst hx; exact HKU.out
                · have e2 : g5 = tb := by simpa [Value.ownBlock] using e
                  subst e2
                  rcases hat5 with h5 | h5
                  · exact htn h5
                  · simp at h5; omega
            · have hd3 : xk.drop i = [] := List.drop_eq_nil_of_le (by rw [HN.out]; omega)
              rw [hd3] at hs2 hm2
              have e0 : szL [] = 0 := by rw [szL]
              have e1 : mxN (xd + 1) [] = 0 := by rw [mxN]
              rw [e0] at hs2
              rw [e1] at hm2
              have HI4 := Lib.hid hI4
              have HS := Lib.hid (And.intro hs2 (And.intro hm2 hd2))
              clear hI4 hs2 hm2 hd2 hd3
              go_wp2
              go_roundg (szD ks2)
              case measure => have := HS.out.1; have := HGK.out.1; omega
              case rel =>
                refine ⟨ks2, d, rfl, by have := HS.out.1; have := HGK.out.1; have := HGK.out.2.1; omega, by go_num, ?_, HS.out.2.2, HI4.out⟩
                have h1 := HGK.out.2.2
                have h2 := HS.out.2.1
                have h3 := HMX.out
                omega
end Go.Proofs.Ytfpgkfpehkelcaa
namespace Go.Proofs.Ytfpgkfpehkelcaa
open Go.RowKit
/-! Same, of lists that are the same. -/
theorem info_pair : (Try.prog.info? 69).map (fun i => (i.zero, i.size, i.bytes)) = some (some (.agg #[.slice none 0 0, .slice none 0 0]), 2, 48) := by kernel_rfl
abbrev Ps := List (Value × Value × List Nd)
def pEnt (x : Value × Value × List Nd) : Value × Value := (x.1, x.2.1)
def szP : Ps → Nat
  | [] => 0
  | x :: s => szL x.2.2 + 1 + szP s
theorem szP_append : ∀ a b : Ps, szP (a ++ b) = szP a + szP b
  | [], b => by simp [szP]
  | x :: a, b => by rw [List.cons_append, szP, szP, szP_append a b]; omega
theorem szP_len : ∀ s : Ps, s.length ≤ szP s
  | [] => Nat.le_refl _
  | x :: s => by have := szP_len s; rw [szP, List.length_cons]; omega
structure SameI (w0 w : World) (ov : Value) (ks : Ps) : Prop where
  row : Row2 69 w0.heap.size w ov (ks.map pEnt)
  rd : ∀ x ∈ ks, RdN w0 (fun b => b < w0.heap.size) x.1 x.2.2 ∧ RdN w0 (fun b => b < w0.heap.size) x.2.1 x.2.2
  bel : Below w0.heap.size w0 w
set_option maxRecDepth 100000 in
set_option maxHeartbeats 6400000 in
theorem same_any {l : List Nd} {v1 v2 : Value} {w : World} {P Q : Nat → Prop} (h1 : RdN w P v1 l) (h2 : RdN w Q v2 l) (hl : szL l ≤ 100000000) :
    Calls Try.prog 23 #[v1, v2] w fun e w' => e = .returned (.bool true) ∧ Below w.heap.size w w' := by
  obtain ⟨i0, hi, hz0, hz1, hz2⟩ := info_parts info_pair
  have hll := szL_ge l
  have hr1 := h1.weak (Q := fun b => b < w.heap.size) fun b hl _ => hl
  have hr2 := h2.weak (Q := fun b => b < w.heap.size) fun b hl _ => hl
  obtain ⟨va, vn, vc, hv⟩ := h1.sl
  subst hv
  obtain ⟨va2, vn2, vc2, hv2⟩ := h2.sl
  subst hv2
  have hI0 : SameI w (w.alloc (.cells #[.slice va vn vc, .slice va2 vn2 vc2] 69)) (.slice (some ⟨w.heap.size, 0, none⟩) 1 1) [(.slice va vn vc, .slice va2 vn2 vc2, l)] := by
    refine ⟨?_, fun x hx => by simp at hx; subst hx; exact ⟨hr1, hr2⟩, (Below.refl _ _).alloc (Nat.le_refl _) _⟩
    exact World.ownsRow_lit (base := w.heap.size) (e := 69) (size := 2) w #[.slice va vn vc, .slice va2 vn2 vc2] 1 (Nat.le_refl _) (by unfold maxLen; omega) rfl
  have HI0 := Lib.hid hI0
  clear hI0 h1 h2 hr1 hr2
  go_enter Try.func23, Try.ntmps23
  go_wp2
  go_loopg [5] (szL l + 1) (fun k ov wr => ∃ ks : Ps, k = szP ks ∧ szP ks ≤ szL l + 1 ∧ SameI w wr ov ks)
  case atStart => exact ⟨[(.slice va vn vc, .slice va2 vn2 vc2, l)], by simp [szP], by simp [szP], HI0.out⟩
  case round =>
    obtain ⟨ks, hgk, hgb, hI⟩ := hrel
    clear HI0
    rcases List.eq_nil_or_concat ks with rfl | ⟨ks', x, rfl⟩
    · obtain ⟨oa, oc, rfl, _, _⟩ := hI.row.sl
      have HI := Lib.hid hI.bel
      clear hI hgk hgb
      go_wp2
      go_ret
      exact ⟨rfl, HI.out⟩
    · rw [List.concat_eq_append] at *
      obtain ⟨xv, yv, xk⟩ := x
      obtain ⟨n, hn⟩ : ∃ n, ks'.length = n := ⟨_, rfl⟩
      obtain ⟨oa, oc, rfl, hocap, hoa⟩ := hI.row.sl
      obtain ⟨g, rfl, hBg, hgl⟩ := hoa (by simp)
      rw [show ((ks' ++ [(xv, yv, xk)]).map pEnt).length = n + 1 by simp [hn]] at *
      have hrow := hI.row
      rw [List.map_append] at hrow
      obtain ⟨k0, k1⟩ := hrow.last (by simp [hn])
      have hcut := hrow.cut
      rw [show (ks'.map pEnt).length = n by simp [hn]] at hcut
      obtain ⟨hxr, hyr⟩ := hI.rd (xv, yv, xk) (by simp)
      simp only [pEnt] at k0 k1 hxr hyr
      have hI2 : SameI w wr (.slice (some ⟨g, 0, none⟩) n oc) ks' := ⟨hcut, fun x hx => hI.rd x (List.mem_append_left _ hx), hI.bel⟩
      rw [szP_append] at hgk hgb
      simp only [szP, Nat.add_zero] at hgk hgb
      have hks := szP_len ks'
      have hnb : n ≤ 100000001 := by omega
      have hxkl := szL_ge xk
      obtain ⟨xa, xc, hxv, hxc⟩ := hxr.shape
      obtain ⟨ya, yc, hyv, hyc⟩ := hyr.shape
      obtain ⟨N, hN⟩ : ∃ N, xk.length = N := ⟨_, rfl⟩
      rw [hN] at hxv hxc hxkl hyv hyc
      have hNb : N ≤ 100000001 := by omega
      subst hxv hyv
      have HI2 := Lib.hid hI2
      have HXR := Lib.hid hxr
      have HYR := Lib.hid hyr
      have HN := Lib.hid hN
      have HGK := Lib.hid (And.intro hgk hgb)
      clear hI hI2 hxr hyr hgk hgb hrow hcut hoa
      by_cases hN0 : N = 0
      · subst hN0
        have hI3 : SameI w (wr.alloc (.cells #[.slice xa 0 xc, .slice ya 0 yc] 69)) (.slice (some ⟨g, 0, none⟩) n oc) ks' := ⟨HI2.out.row.below ((Below.refl _ _).alloc (Nat.le_refl _) _), HI2.out.rd, HI2.out.bel.alloc HI2.out.bel.size _⟩
        have HI3 := Lib.hid hI3
        clear hI3
        go_upto_region 8 with fail
        refine wp_loop_rounds 1 ?_
        rw [rounds_succ]
        go_wp2
        go_roundg (szP ks')
        case measure => have := HGK.out.1; omega
        case rel => exact ⟨ks', rfl, by have := HGK.out.1; have := HGK.out.2; omega, HI3.out⟩
      · have hN1 : (0 : Int) < (N : Int) := by omega
        obtain ⟨b, off, c', hxe, _, _, hbl, g1⟩ := HXR.out.base (by rw [HN.out]; omega)
        rw [HN.out] at hxe
        injection hxe with e1 _ e3
        subst e1 e3
        obtain ⟨b2, off2, c2', hye, _, _, hbl2, g2⟩ := HYR.out.base (by rw [HN.out]; omega)
        rw [HN.out] at hye
        injection hye with e1 _ e3
        subst e1 e3
        have G1 := Lib.hid g1
        have G2 := Lib.hid g2
        have HTB := Lib.hid (show w.heap.size ≤ wr.heap.size ∧ g < wr.heap.size from ⟨HI2.out.bel.size, hgl⟩)
        clear g1 g2
        go_upto_region 8 with fail
        have hW := heap_alloc_self wr (.cells #[.slice (some ⟨b, off, none⟩) N xc, .slice (some ⟨b2, off2, none⟩) N yc] 69)
        have hI3 : SameI w (wr.alloc (.cells #[.slice (some ⟨b, off, none⟩) N xc, .slice (some ⟨b2, off2, none⟩) N yc] 69)) (.slice (some ⟨g, 0, none⟩) n oc) ks' := ⟨HI2.out.row.below ((Below.refl _ _).alloc (Nat.le_refl _) _), HI2.out.rd, HI2.out.bel.alloc HI2.out.bel.size _⟩
        generalize hTB : wr.heap.size = tb at *
        generalize wr.alloc (.cells #[.slice (some ⟨b, off, none⟩) N xc, .slice (some ⟨b2, off2, none⟩) N yc] 69) = W at *
        have HI3 := Lib.hid hI3
        have HW := Lib.hid hW
        clear hI3 hW hTB
        go_loopg [5, 36] N (fun k ov cv wr => ∃ (i : Nat) (ks2 : Ps), k = N - i ∧ i ≤ N ∧ cv = .int .i64 i ∧ wr.heap[tb]? = some (.cells #[.slice (some ⟨b, off, none⟩) N xc, .slice (some ⟨b2, off2, none⟩) N yc] 69 (0, 0)) ∧ szP ks2 + szL (xk.drop i) ≤ szP ks' + szL xk ∧ SameI w wr ov ks2 ∧ ov.ownBlock ≠ some tb)
        case atStart => exact ⟨0, ks', rfl, Nat.zero_le _, rfl, HW.out, Nat.le_refl _, HI3.out, fun e => Nat.ne_of_lt HTB.out.2 (by simpa [Value.ownBlock] using e)⟩
        case round =>
          obtain ⟨i, ks2, hk2, hi2, rfl, hW, hs2, hI4, htn⟩ := hrel
          obtain ⟨oa2, oc2, hov2, _, _⟩ := hI4.row.sl
          obtain ⟨n2, hn2⟩ : ∃ n2, ks2.length = n2 := ⟨_, rfl⟩
          rw [show (ks2.map pEnt).length = n2 by simp [hn2]] at hov2
          subst hov2
          clear HI3 HW
          by_cases hlt : i < N
          · obtain ⟨u, hat, hku⟩ := G1.out i (by rw [HN.out]; exact hlt)
            obtain ⟨c0, c1, c2, c3, c4, c5, c6⟩ := hat.move (w' := wr) (hI4.bel.block b hbl)
            obtain ⟨u2, hat2, hku2⟩ := G2.out i (by rw [HN.out]; exact hlt)
            obtain ⟨d0, d1, d2, d3, d4, d5, d6⟩ := hat2.move (w' := wr) (hI4.bel.block b2 hbl2)
            obtain ⟨ua, un, uc, hus⟩ := hku.sl
            subst hus
            obtain ⟨ua2, un2, uc2, hus2⟩ := hku2.sl
            subst hus2
            have hx0 : (0 : Int) ≤ (i : Int) := by omega
            have hx1 : (i : Int) < (N : Int) := by omega
            have HX := Lib.hid (And.intro (szL_drop xk i (by rw [HN.out]; exact hlt)) (show szN (xk[i]'(by rw [HN.out]; exact hlt)) = 1 + szL (xk[i]'(by rw [HN.out]; exact hlt)).kids by rw [Nd.eta (xk[i]'(by rw [HN.out]; exact hlt)), szN]; rfl))
            have HKU := Lib.hid (And.intro hku hku2)
            have hks2 := szP_len ks2
            have hn2b : n2 ≤ 200000000 := by have := HGK.out.1; have := HGK.out.2; omega
            have HI4 := Lib.hid hI4
            have HS := Lib.hid hs2
            have HN2 := Lib.hid hn2
            clear hat hku hat2 hku2 hI4 hs2 hn2 hks2
            generalize (xk[i]'(by rw [HN.out]; exact hlt)).kids = q at *
            generalize (xk[i]'(by rw [HN.out]; exact hlt)).tok = t at *
            have htb : tb < wr.heap.size := (Array.getElem?_eq_some_iff.1 hW).1
            have tb0 : wr.cell? ⟨tb, 0, none⟩ = some (.slice (some ⟨b, off, none⟩) N xc) := by simp [World.cell?, hW]
            have tb1 : wr.cell? ⟨tb, 1, none⟩ = some (.slice (some ⟨b2, off2, none⟩) N yc) := by simp [World.cell?, hW]
            have HW := Lib.hid hW
            clear hW
            have hne : ∀ W : World, (binOp .neq 26 (.agg #[.int .i64 t.kind, .string t.text, .int .i64 t.int, .bool t.whole, .bool t.sign, .bool t.id]) (.agg #[.int .i64 t.kind, .string t.text, .int .i64 t.int, .bool t.whole, .bool t.sign, .bool t.id])).run Try.prog W = .ok (.bool false) W := fun W => by
              have h := tokNe_run t t W
              rw [(tokB_iff _ _).2 rfl] at h
              exact h
            go_upto_region 10 with fail
            go_quiet (fail)
            go_upto_region 12 with fail
            have hbd : Below wr.heap.size wr (wr.drewN nq) := ⟨rfl, rfl, rfl, Nat.le_refl _, fun _ _ => rfl⟩
            have f0 : (wr.drewN nq).cell? ⟨tb, 0, none⟩ = some (.slice (some ⟨b, off, none⟩) N xc) := tb0
            have f1 : (wr.drewN nq).cell? ⟨tb, 1, none⟩ = some (.slice (some ⟨b2, off2, none⟩) N yc) := tb1
            have f2 : (wr.drewN nq).cell? ⟨b, off + i * 7 + 6, none⟩ = some (.slice ua un uc) := c6
            have f3 : (wr.drewN nq).cell? ⟨b2, off2 + i * 7 + 6, none⟩ = some (.slice ua2 un2 uc2) := d6
            have hW5 : (wr.drewN nq).heap[tb]? = some (.cells #[.slice (some ⟨b, off, none⟩) N xc, .slice (some ⟨b2, off2, none⟩) N yc] 69 (0, 0)) := HW.out
            have hI5 : SameI w (wr.drewN nq) (.slice oa2 n2 oc2) ks2 := ⟨HI4.out.row.below hbd, HI4.out.rd, HI4.out.bel.trans (hbd.mono HI4.out.bel.size)⟩
            clear c0 c1 c2 c3 c4 c5 c6 d0 d1 d2 d3 d4 d5 d6 tb0 tb1 hbd HW HI4 hne htb
            generalize wr.drewN nq = W at *
            have htb : tb < W.heap.size := (Array.getElem?_eq_some_iff.1 hW5).1
            have HW := Lib.hid hW5
            have HI5 := Lib.hid hI5
            clear hW5 hI5
            have hownW := HI5.out.row
            have hobW := HI5.out.row.block
            unfold Row2 at hownW
            rw [show (ks2.map pEnt).length = n2 by simp [HN2.out]] at hownW
            have hwb := HI5.out.bel.size
            have hnb1 : (Value.slice oa2 n2 oc2).ownBlock ≠ some b := fun e => by have := (hobW _ e).1; omega
            have hnb2 : (Value.slice oa2 n2 oc2).ownBlock ≠ some b2 := fun e => by have := (hobW _ e).1; omega
            have hbx := ((Below.refl W.heap.size W).alloc (Nat.le_refl _) (.cells #[.slice ua un uc, .slice ua2 un2 uc2] 69)).drew
            go_region_held3 (fun w' => w'.cell? ⟨tb, 0, none⟩ = some (.slice (some ⟨b, off, none⟩) N xc) ∧ w'.cell? ⟨tb, 1, none⟩ = some (.slice (some ⟨b2, off2, none⟩) N yc) ∧ w'.cell? ⟨b, off + i * 7 + 6, none⟩ = some (.slice ua un uc) ∧ w'.cell? ⟨b2, off2 + i * 7 + 6, none⟩ = some (.slice ua2 un2 uc2)) (first | go_keep | exact ⟨q0, q1, q2, q3⟩)
              ((refine step_append_lies _ (by rfl) _ _ _ (by rfl) w.heap.size 69 i0 _ 2 48 Try.underlying70 hi hz0 hz1 hz2 rfl (by decide) (.slice oa2 n2 oc2) n2 (cells2 (ks2.map pEnt)) (by rfl) ((hownW.alloc _).drew) ⟨W.heap.size, 0, none⟩ 1 1 [.slice ua un uc, .slice ua2 un2 uc2] (by rfl) (by rfl) (World.news_of_block (cs := #[.slice ua un uc, .slice ua2 un2 uc2]) (t := 69) (fr := (0, 0)) (heap_alloc_new W _)) (by intro u hu; simp at hu; rcases hu with rfl | rfl <;> rfl) (by decide) (by unfold maxLen; omega) (by omega) (by simp; omega) (W.heap.size + 1) (by simp) ?_; intro g5 cap5 w5 hown5 hgrow5 hat5 hlt5; have q0 : w5.cell? ⟨tb, 0, none⟩ = some (.slice (some ⟨b, off, none⟩) N xc) := (hgrow5.cell_far ⟨tb, 0, none⟩ (by simp; omega) (Ne.symm htn)).trans ((hbx.cell (p := ⟨tb, 0, none⟩) htb).trans f0); have q1 : w5.cell? ⟨tb, 1, none⟩ = some (.slice (some ⟨b2, off2, none⟩) N yc) := (hgrow5.cell_far ⟨tb, 1, none⟩ (by simp; omega) (Ne.symm htn)).trans ((hbx.cell (p := ⟨tb, 1, none⟩) htb).trans f1); have q2 : w5.cell? ⟨b, off + i * 7 + 6, none⟩ = some (.slice ua un uc) := (hgrow5.cell_far ⟨b, off + i * 7 + 6, none⟩ (by simp; omega) (Ne.symm hnb1)).trans ((hbx.cell (p := ⟨b, off + i * 7 + 6, none⟩) (by show b < W.heap.size; omega)).trans f2); have q3 : w5.cell? ⟨b2, off2 + i * 7 + 6, none⟩ = some (.slice ua2 un2 uc2) := (hgrow5.cell_far ⟨b2, off2 + i * 7 + 6, none⟩ (by simp; omega) (Ne.symm hnb2)).trans ((hbx.cell (p := ⟨b2, off2 + i * 7 + 6, none⟩) (by show b2 < W.heap.size; omega)).trans f3)))
            go_wp2
            go_roundg (N - (i + 1))
            case measure => omega
            case rel =>
              have hob := hobW
              have hb5 := grown_below (HI5.out.bel.trans (hbx.mono hwb)) (by simp; omega) hgrow5 (fun k hk => (hob k hk).1)
              have hP := Row2.push (xs := ks2.map pEnt) (by simp [HN2.out]) hown5
              refine ⟨i + 1, ks2 ++ [(.slice ua un uc, .slice ua2 un2 uc2, q)], rfl, by omega, by go_num, ?_, ?_, ?_, fun e => ?_⟩
              · have h1 : w5.heap[tb]? = W.heap[tb]? := by
                  rw [hgrow5.block tb (by simp; omega) fun e => htn e.symm]
                  exact hbx.block tb htb
                rw [h1]; exact HW.out
              · rw [szP_append]; simp only [szP]; have := HS.out; have := HX.out.1; have := HX.out.2; omega
              · refine ⟨?_, fun x hx => ?_, hb5⟩
                · rw [List.map_append]
                  exact hP
                · rw [List.mem_append] at hx
                  rcases hx with hx | hx
                  · exact HI5.out.rd x hx
                  · simp at hx; subst hx; exact HKU.out
              · have e2 : g5 = tb := by simpa [Value.ownBlock] using e
                subst e2
                rcases hat5 with h5 | h5
                · exact htn h5
                · omega
          · have hd3 : xk.drop i = [] := List.drop_eq_nil_of_le (by rw [HN.out]; omega)
            rw [hd3] at hs2
            have e0 : szL [] = 0 := by rw [szL]
            rw [e0] at hs2
            have HI4 := Lib.hid hI4
            have HS := Lib.hid hs2
            clear hI4 hs2 hd3
            go_wp2
            go_roundg (szP ks2)
            case measure => have := HS.out; have := HGK.out.1; omega
            case rel => exact ⟨ks2, rfl, by have := HS.out; have := HGK.out.1; have := HGK.out.2; omega, HI4.out⟩
end Go.Proofs.Ytfpgkfpehkelcaa
namespace Go.Proofs.Ytfpgkfpehkelcaa
open Go.RowKit
/-! Flat. -/
theorem info_flist : (Try.prog.info? 65).map (fun i => (i.zero, i.size, i.bytes)) = some (some (.agg #[.slice none 0 0, .string ⟨#[]⟩]), 2, 40) := by kernel_rfl
abbrev Fs := List (Value × List Nd × ByteArray)
def fEnt (x : Value × List Nd × ByteArray) : Value × Value := (x.1, .string x.2.2)
def endS (e : ByteArray) : List Tok := if e.toList.isEmpty then [] else [{ kind := 20, text := e }]
/-- What is still to come, the innermost first. -/
def KF : Fs → List Tok
  | [] => []
  | x :: s => flL x.2.1 ++ endS x.2.2 ++ KF s
def szF : Fs → Nat
  | [] => 0
  | x :: s => 2 * szL x.2.1 + 1 + szF s
theorem szF_append : ∀ a b : Fs, szF (a ++ b) = szF a + szF b
  | [], b => by simp [szF]
  | x :: a, b => by rw [List.cons_append, szF, szF, szF_append a b]; omega
theorem szF_len : ∀ s : Fs, s.length ≤ szF s
  | [] => Nat.le_refl _
  | x :: s => by have := szF_len s; rw [szF, List.length_cons]; omega
theorem KF_snoc (ks : Fs) (x : Value × List Nd × ByteArray) : KF (ks ++ [x]).reverse = flL x.2.1 ++ endS x.2.2 ++ KF ks.reverse := by rw [List.reverse_append]; rfl
theorem fl_len : ∀ (m : Nat) (l : List Nd), szL l ≤ m → (flL l).length ≤ 2 * szL l
  | _, [], _ => by rw [flL]; simp
  | 0, .mk t k :: l, h => by rw [szL, szN] at h; omega
  | m + 1, .mk t k :: l, h => by
    rw [szL, szN] at h
    have h1 := fl_len m k (by omega)
    have h2 := fl_len m l (by omega)
    rw [flL, flN, szL, szN, List.length_append]
    split <;> simp <;> omega
structure FlatI (l : List Nd) (w0 w : World) (av ov : Value) (out : List Tok) (ks : Fs) : Prop where
  tok : TokL w0.heap.size w av out
  row : Row2 65 w0.heap.size w ov (ks.map fEnt)
  rd : ∀ x ∈ ks, RdN w0 (fun b => b < w0.heap.size) x.1 x.2.1
  run : out ++ KF ks.reverse = flL l
  far : ∀ k, av.ownBlock = some k → ov.ownBlock ≠ some k
  bel : Below w0.heap.size w0 w
theorem TokL.below {B : Nat} {w w1 : World} {v : Value} {out : List Tok} (h : TokL B w v out) (hb : Below w.heap.size w w1) : TokL B w1 v out :=
  World.ownsRow.kept h (gb_below hb none) (by cases hv : v.ownBlock with | none => exact .inl rfl | some g => exact .inr (by simp))
theorem TokL.slen {B : Nat} {w : World} {a : Option Addr} {n c : Nat} {out : List Tok} (h : TokL B w (.slice a n c) out) : n = out.length := by
  unfold TokL at h
  rcases h.2 with ⟨h1, h0⟩ | ⟨g, cap, cur, hv, _⟩
  · injection h1 with _ h2 _; omega
  · injection hv
theorem TokL.sl {B : Nat} {w : World} {v : Value} {out : List Tok} (h : TokL B w v out) : ∃ a c, v = .slice a out.length c := by
  unfold TokL at h
  rcases h.2 with ⟨h1, h0⟩ | ⟨g, cap, cur, hv, _⟩
  · exact ⟨none, 0, by rw [h1, h0]⟩
  · exact ⟨_, _, hv⟩
/-- Both rows, behind an append to the tokens. -/
theorem flat_push {B : Nat} {w0 w w1 : World} {av ov : Value} {out : List Tok} {xs : List (Value × Value)} {t : Tok} {g cap n : Nat} (htok : TokL B w av out) (hrow : Row2 65 B w ov xs) (hfar : ∀ k, av.ownBlock = some k → ov.ownBlock ≠ some k) (hbel : Below B w0 w) (hB : B ≤ w.heap.size) (hn : out.length = n)
    (hown : w1.ownsRow B 26 6 (.slice (some ⟨g, 0, none⟩) (n + 1) cap) (n + 1) (out.flatMap tcells ++ tcells t)) (hg : w.grownBy w1 av.ownBlock) (hat : av.ownBlock = some g ∨ g = w.heap.size) :
    TokL B w1 (.slice (some ⟨g, 0, none⟩) (n + 1) cap) (out ++ [t]) ∧ Row2 65 B w1 ov xs ∧ (∀ k, (Value.slice (some ⟨g, 0, none⟩) (n + 1) cap).ownBlock = some k → ov.ownBlock ≠ some k) ∧ Below B w0 w1 := by
  refine ⟨?_, ?_, fun k hv e => ?_, grown_below hbel hB hg fun k hk => (World.ownsRow.lt htok k hk).1⟩
  · unfold TokL
    rw [List.length_append, List.flatMap_append, hn]
    simpa using hown
  · refine World.ownsRow.kept hrow hg ?_
    cases hv : ov.ownBlock with
    | none => exact .inl rfl
    | some k => exact .inr fun e => hfar k e.symm hv
  · have e2 : g = k := by simpa [Value.ownBlock] using hv
    subst e2
    rcases hat with hat | hat
    · exact hfar g hat e
    · have := (hrow.block g e).2; omega
/-- .. and to what is open. -/
theorem flat_open {B : Nat} {w0 w w1 : World} {av ov : Value} {out : List Tok} {xs : List (Value × Value)} {a b : Value} {g cap n : Nat} (htok : TokL B w av out) (hrow : Row2 65 B w ov xs) (hfar : ∀ k, av.ownBlock = some k → ov.ownBlock ≠ some k) (hbel : Below B w0 w) (hB : B ≤ w.heap.size) (hn : xs.length = n)
    (hown : w1.ownsRow B 65 2 (.slice (some ⟨g, 0, none⟩) (n + 1) cap) (n + 1) (cells2 xs ++ [a, b])) (hg : w.grownBy w1 ov.ownBlock) (hat : ov.ownBlock = some g ∨ g = w.heap.size) :
    TokL B w1 av out ∧ Row2 65 B w1 (.slice (some ⟨g, 0, none⟩) (n + 1) cap) (xs ++ [(a, b)]) ∧ (∀ k, av.ownBlock = some k → (Value.slice (some ⟨g, 0, none⟩) (n + 1) cap).ownBlock ≠ some k) ∧ Below B w0 w1 := by
  refine ⟨?_, Row2.push hn hown, fun k hv e => ?_, grown_below hbel hB hg fun k hk => (hrow.block k hk).1⟩
  · refine World.ownsRow.kept htok hg ?_
    cases hv : av.ownBlock with
    | none => exact .inl rfl
    | some k => exact .inr fun e => hfar k hv e.symm
  · have e2 : g = k := by simpa [Value.ownBlock] using e
    subst e2
    rcases hat with hat | hat
    · exact hfar g hv hat
    · have := (World.ownsRow.lt htok g hv).2; omega
theorem Row2.set {T : TypeId} {B g n c : Nat} {w : World} {xs : List (Value × Value)} {x : Value × Value} (h : Row2 T B w (.slice (some ⟨g, 0, none⟩) (n + 1) c) (xs ++ [x])) (hn : xs.length = n) (a : Value) :
    Row2 T B (w.setCell ⟨g, n * 2, none⟩ a) (.slice (some ⟨g, 0, none⟩) (n + 1) c) (xs ++ [(a, x.2)]) ∧ w.grownBy (w.setCell ⟨g, n * 2, none⟩ a) (some g) := by
  unfold Row2 at h ⊢
  rw [show (xs ++ [x]).length = n + 1 by simp [hn]] at h
  rw [show (xs ++ [(a, x.2)]).length = n + 1 by simp [hn]]
  have hst := World.ownsRow.stored h (n * 2) a
  refine ⟨?_, hst.2⟩
  have e : (cells2 (xs ++ [x])).set (n * 2) a = cells2 (xs ++ [(a, x.2)]) := by
    have hl := cells2_len xs
    unfold cells2 at hl ⊢
    rw [List.flatMap_append, List.flatMap_append, List.set_append_right _ _ (by omega), hl, hn, Nat.sub_self]
    rfl
  rw [← e]
  exact hst.1
theorem FlatI.below {l : List Nd} {w0 w w1 : World} {av ov : Value} {out : List Tok} {ks : Fs} (h : FlatI l w0 w av ov out ks) (hb : Below w.heap.size w w1) : FlatI l w0 w1 av ov out ks :=
  ⟨h.tok.below hb, h.row.below hb, h.rd, h.run, h.far, h.bel.trans (hb.mono h.bel.size)⟩
set_option maxRecDepth 100000 in
set_option maxHeartbeats 6400000 in
theorem flat_any {l : List Nd} {v : Value} {w : World} {P : Nat → Prop} (h : RdN w P v l) (hl : szL l ≤ 100000000) :
    Calls Try.prog 22 #[v] w fun e w' => (∃ v', e = .returned v' ∧ RdT w' v' (flL l)) ∧ Below w.heap.size w w' := by
  obtain ⟨i0, hi, hz0, hz1, hz2⟩ := info_parts info_flist
  obtain ⟨j0, hj, hy0, hy1, hy2⟩ := info_parts info_tok
  have hll := szL_ge l
  have hfl := fl_len _ l (Nat.le_refl _)
  have hrd := h.weak (Q := fun b => b < w.heap.size) fun b hl _ => hl
  obtain ⟨va, vn, vc, hv⟩ := h.sl
  subst hv
  have hI0 : FlatI l w (w.alloc (.cells #[.slice va vn vc, .string ⟨#[]⟩] 65)) (.slice none 0 0) (.slice (some ⟨w.heap.size, 0, none⟩) 1 1) [] [(.slice va vn vc, l, ⟨#[]⟩)] := by
    refine ⟨TokL.nil _ _, ?_, fun x hx => by simp at hx; subst hx; exact hrd, ?_, fun k hk => by simp [Value.ownBlock] at hk, (Below.refl _ _).alloc (Nat.le_refl _) _⟩
    · exact World.ownsRow_lit (base := w.heap.size) (e := 65) (size := 2) w #[.slice va vn vc, .string ⟨#[]⟩] 1 (Nat.le_refl _) (by unfold maxLen; omega) rfl
    · show [] ++ (flL l ++ endS ⟨#[]⟩ ++ []) = flL l
      have : endS ⟨#[]⟩ = [] := by unfold endS; rw [if_pos (by decide +kernel)]
      rw [this]; simp
  have HI0 := Lib.hid hI0
  clear hI0 h hrd
  go_enter Try.func22, Try.ntmps22
  go_wp2
  go_loopg [3, 4] (2 * szL l + 1) (fun k av ov wr => ∃ (out : List Tok) (ks : Fs), k = szF ks ∧ szF ks ≤ 2 * szL l + 1 ∧ FlatI l w wr av ov out ks)
  case atStart => exact ⟨[], [(.slice va vn vc, l, ⟨#[]⟩)], by simp [szF], by simp [szF], HI0.out⟩
  case round =>
    obtain ⟨out, ks, hgk, hgb, hI⟩ := hrel
    clear HI0
    have hol : out.length ≤ 2 * szL l := by have := congrArg List.length hI.run; rw [List.length_append] at this; omega
    obtain ⟨aa, ac, hav⟩ := hI.tok.sl
    obtain ⟨on, hon⟩ : ∃ on, out.length = on := ⟨_, rfl⟩
    rw [hon] at hav hol
    subst hav
    rcases List.eq_nil_or_concat ks with rfl | ⟨ks', x, rfl⟩
    · obtain ⟨oa, oc, rfl, _, _⟩ := hI.row.sl
      have HI := Lib.hid hI
      clear hI hgk hgb
      go_wp2
      go_ret
      refine ⟨⟨_, rfl, ?_⟩, HI.out.bel⟩
      have hr := HI.out.run
      have e0 : KF [].reverse = [] := rfl
      rw [e0, List.append_nil] at hr
      rw [← hr]
      exact HI.out.tok.rd
    · rw [List.concat_eq_append] at *
      obtain ⟨xv, xk, xe⟩ := x
      obtain ⟨n, hn⟩ : ∃ n, ks'.length = n := ⟨_, rfl⟩
      obtain ⟨oa, oc, rfl, hocap, hoa⟩ := hI.row.sl
      obtain ⟨g, rfl, hBg, hgl⟩ := hoa (by simp)
      rw [show ((ks' ++ [(xv, xk, xe)]).map fEnt).length = n + 1 by simp [hn]] at *
      have hrow := hI.row
      rw [List.map_append] at hrow
      obtain ⟨k0, k1⟩ := hrow.last (by simp [hn])
      have hcut := hrow.cut
      rw [show (ks'.map fEnt).length = n by simp [hn]] at hcut
      have hxr := hI.rd (xv, xk, xe) (by simp)
      simp only [fEnt] at k0 k1 hxr
      have hkf : wr.frozen? ⟨g, n * 2, none⟩ = false := by
        unfold Row2 at hrow
        rw [show (ks'.map fEnt ++ [(xv, xk, xe)].map fEnt).length = n + 1 by simp [hn]] at hrow
        exact hrow.frozenAt _
      rw [szF_append] at hgk hgb
      simp only [szF, Nat.add_zero] at hgk hgb
      have hks := szF_len ks'
      have hnb : n ≤ 200000001 := by omega
      have hnb1 : (n : Int) < (n : Int) + 1 := by omega
      have hnb2 : (0 : Int) ≤ (n : Int) := by omega
      have hrun := hI.run
      rw [KF_snoc] at hrun
      simp only at hrun
      have HCUT := Lib.hid hcut
      have HROW := Lib.hid hrow
      have HI := Lib.hid hI
      have HGK := Lib.hid (And.intro hgk hgb)
      have HNN := Lib.hid hn
      have HON := Lib.hid hon
      have HRUN := Lib.hid hrun
      clear hcut hrow hI hgk hgb hoa hrun hn hon
      cases hxr with
      | nil xa xc =>
        have e0 : flL [] = [] := by rw [flL]
        by_cases hxe : xe = ⟨#[]⟩
        · subst hxe
          have hI2 : FlatI l w wr (.slice aa on ac) (.slice (some ⟨g, 0, none⟩) n oc) out ks' := ⟨HI.out.tok, HCUT.out, fun x hx => HI.out.rd x (List.mem_append_left _ hx), by have := HRUN.out; rw [e0, show endS ⟨#[]⟩ = [] by unfold endS; rw [if_pos (by decide +kernel)]] at this; exact this, fun k hk => HI.out.far k hk, HI.out.bel⟩
          have HI2 := Lib.hid hI2
          clear hI2
          go_wp2
          go_roundg (szF ks')
          case measure => have := HGK.out.1; omega
          case rel => exact ⟨out, ks', rfl, by have := HGK.out.1; have := HGK.out.2; omega, HI2.out⟩
        · have hq : (xe.toList == []) = false := by
            cases hx : xe.toList with
            | nil =>
              rw [ByteArray.toList_eq] at hx
              exact absurd (show xe = ⟨#[]⟩ by cases xe with | mk d => simp at hx; rw [hx]) hxe
            | cons => rfl
          have HQ := Lib.hid (show endS xe = [{ kind := 20, text := xe }] by unfold endS; rw [if_neg (by simpa using hq)])
          have hI2 : FlatI l w wr (.slice aa on ac) (.slice (some ⟨g, 0, none⟩) (n + 1) oc) out (ks' ++ [(.slice xa 0 xc, [], xe)]) := HI.out
          have hIA := hI2.below ((Below.refl wr.heap.size wr).alloc (Nat.le_refl _) (.cells #[.int .i64 20, .string xe, .int .i64 0, .bool false, .bool false, .bool false] 26))
          have hownA := hIA.tok
          unfold TokL at hownA
          rw [HON.out] at hownA
          have HIA := Lib.hid hIA
          have hwb := HI.out.bel.size
          clear hI2 hIA
          go_wp2_with (at_builtin; refine wpList_append_lies _ rfl _ _ 23 rfl w.heap.size 26 j0 (.agg #[.int .i64 0, .string ⟨#[]⟩, .int .i64 0, .bool false, .bool false, .bool false]) 6 40 Try.underlying23 hj hy0 hy1 hy2 rfl (by decide) (.slice aa on ac) on (out.flatMap tcells) rfl hownA ⟨_, 0, none⟩ 1 1 (tcells { kind := 20, text := xe }) rfl rfl (cell_six_new _ _ _) (tcells_one _) (by decide) (by unfold maxLen; omega) (by omega) (by simp; omega) _ rfl ?_; intro g5 cap5 w5 hown5 hgrow5 hat5 hlt5)
          go_roundg (szF ks')
          case measure => have := HGK.out.1; omega
          case rel =>
            have hal := (Below.refl wr.heap.size wr).alloc (Nat.le_refl _) (.cells #[.int .i64 20, .string xe, .int .i64 0, .bool false, .bool false, .bool false] 26)
            have hP := flat_push (t := { kind := 20, text := xe }) HIA.out.tok (HCUT.out.below hal) (fun k hk => HI.out.far k hk) HIA.out.bel HIA.out.bel.size HON.out hown5 hgrow5 hat5
            have hr := HRUN.out
            rw [e0, HQ.out, List.nil_append] at hr
            exact ⟨out ++ [{ kind := 20, text := xe }], ks', rfl, by have := HGK.out.1; have := HGK.out.2; omega, hP.1, hP.2.1, fun x hx => HI.out.rd x (List.mem_append_left _ hx), by rw [List.append_assoc]; exact hr, hP.2.2.1, hP.2.2.2⟩
      | cons b off m c t u q l' hP hb hat hku htl =>
        obtain ⟨c0, c1, c2, c3, c4, c5, c6⟩ := hat.move (w' := wr) (HI.out.bel.block b hb)
        obtain ⟨ua, un, uc, hus⟩ := hku.sl
        subst hus
        have hml : m ≤ 100000000 := by obtain ⟨_, _, he, _⟩ := htl.shape; injection he with _ e2 _; have := HGK.out.1; have := HGK.out.2; rw [szL] at this; have := szL_ge l'; omega
        have HTL := Lib.hid htl
        have HKU := Lib.hid hku
        have HSZ := Lib.hid (show szL (.mk t q :: l') = 1 + szL q + szL l' by rw [szL, szN])
        clear hat hku htl
        go_upto_region 11 with fail
        have hset := HROW.out.set (by simp [HNN.out]) (.slice (if c = 0 then some ⟨b, off, none⟩ else some ⟨b, off + 7, none⟩) m c)
        have htl2 := HTL.out.tail (A := if c = 0 then some ⟨b, off, none⟩ else some ⟨b, off + 7, none⟩) (by by_cases h : c = 0; exact .inl h; exact .inr (if_neg h))
        have hrow1 := hset.1.below ((Below.refl _ _).alloc (Nat.le_refl _) (.cells #[.int .i64 t.kind, .string t.text, .int .i64 t.int, .bool t.whole, .bool t.sign, .bool t.id, .slice ua un uc] 35))
        have htok0 := World.ownsRow.kept HI.out.tok hset.2 (by cases hv : (Value.slice aa on ac).ownBlock with | none => exact .inl rfl | some k => exact .inr fun e => HI.out.far k hv e.symm)
        have htok1 := TokL.below (show TokL w.heap.size _ (.slice aa on ac) out from htok0) ((Below.refl _ _).alloc (Nat.le_refl _) (.cells #[.int .i64 t.kind, .string t.text, .int .i64 t.int, .bool t.whole, .bool t.sign, .bool t.id, .slice ua un uc] 35))
        have hbel1 := (HI.out.bel.setCell (p := ⟨g, n * 2, none⟩) hBg (.slice (if c = 0 then some ⟨b, off, none⟩ else some ⟨b, off + 7, none⟩) m c)).alloc (by have := HI.out.bel.size; simpa [World.setCell] using this) (.cells #[.int .i64 t.kind, .string t.text, .int .i64 t.int, .bool t.whole, .bool t.sign, .bool t.id, .slice ua un uc] 35)
        have hN1 := NB.new (wr.setCell ⟨g, n * 2, none⟩ (.slice (if c = 0 then some ⟨b, off, none⟩ else some ⟨b, off + 7, none⟩) m c)) t (.slice ua un uc)
        rw [show (wr.setCell ⟨g, n * 2, none⟩ (.slice (if c = 0 then some ⟨b, off, none⟩ else some ⟨b, off + 7, none⟩) m c)).heap.size = wr.heap.size by simp [World.setCell]] at hN1
        have hobk : ∀ k, (Value.slice aa on ac).ownBlock = some k → k < wr.heap.size := fun k hk => (World.ownsRow.lt HI.out.tok k hk).2
        generalize (wr.setCell ⟨g, n * 2, none⟩ (.slice (if c = 0 then some ⟨b, off, none⟩ else some ⟨b, off + 7, none⟩) m c)).alloc (.cells #[.int .i64 t.kind, .string t.text, .int .i64 t.int, .bool t.whole, .bool t.sign, .bool t.id, .slice ua un uc] 35) = W at *
        generalize (if c = 0 then some (⟨b, off, none⟩ : Addr) else some ⟨b, off + 7, none⟩) = ta at *
        obtain ⟨m0, m1, m2, m3, m4, m5, m6⟩ := hN1.at
        have hWA := (Below.refl W.heap.size W).alloc (Nat.le_refl _) (.cells #[.int .i64 t.kind, .string t.text, .int .i64 t.int, .bool t.whole, .bool t.sign, .bool t.id] 26)
        have hownA := htok1.below hWA
        have HTA := Lib.hid hownA
        unfold TokL at hownA
        rw [HON.out] at hownA
        have HN1 := Lib.hid hN1
        have HROW1 := Lib.hid hrow1
        have HBEL1 := Lib.hid hbel1
        have HWA := Lib.hid hWA
        have HTL2 := Lib.hid htl2
        have hwb := hbel1.size
        have HOBK := Lib.hid hobk
        clear hset htl2 hrow1 htok0 htok1 hbel1 hN1 hWA hobk k0 k1 hkf c0 c1 c2 c3 c4 c5 c6
        by_cases hclo : cloB t = ⟨#[]⟩
        · have HFL := Lib.hid (show flL (.mk t q :: l') = t :: flL l' by rw [flL, flN, if_pos (by rw [hclo]; decide +kernel)]; rfl)
          go_wp2_with (first | (at_builtin; refine wpList_append_lies _ rfl _ _ 23 rfl w.heap.size 26 j0 (.agg #[.int .i64 0, .string ⟨#[]⟩, .int .i64 0, .bool false, .bool false, .bool false]) 6 40 Try.underlying23 hj hy0 hy1 hy2 rfl (by decide) (.slice aa on ac) on (out.flatMap tcells) rfl hownA ⟨_, 0, none⟩ 1 1 (tcells t) rfl rfl (cell_six_new _ _ _) (tcells_one _) (by decide) (by unfold maxLen; omega) (by omega) (by simp; omega) _ rfl ?_; intro g5 cap5 w5 hown5 hgrow5 hat5 hlt5; have hN5 := NB.far (HN1.out.below HWA.out HN1.out.lt) hgrow5 (fun e => by have := HOBK.out _ e; omega); obtain ⟨p0, p1, p2, p3, p4, p5, p6⟩ := hN5.at; have hlN5 := hN5.lt) | (go_at_call 32; refine (closer_is hclo _).mono ?_; rintro e w6 ⟨rfl, hb6⟩; have r6 : w6.cell? ⟨wr.heap.size, 6, none⟩ = some (.slice ua un uc) := (hb6.cell (p := ⟨wr.heap.size, 6, none⟩) hlN5).trans p6))
          go_roundg (szF (ks' ++ [(.slice ta m c, l', xe)]))
          case measure => rw [szF_append]; simp only [szF]; have := HGK.out.1; have := HSZ.out; omega
          case rel =>
            have hP := flat_push (t := t) HTA.out (HROW1.out.below HWA.out) (fun k hk => HI.out.far k hk) (HBEL1.out.trans (HWA.out.mono hwb)) (by simp; omega) HON.out hown5 hgrow5 hat5
            have hr := HRUN.out
            rw [HFL.out] at hr
            refine ⟨out ++ [t], ks' ++ [(.slice ta m c, l', xe)], rfl, by rw [szF_append]; simp only [szF]; have := HGK.out.1; have := HGK.out.2; have := HSZ.out; omega, hP.1.below (hb6.mono (Nat.le_refl _)), ?_, fun x hx => by
              rw [List.mem_append] at hx
              rcases hx with hx | hx
              · exact HI.out.rd x (List.mem_append_left _ hx)
              · simp at hx; subst hx; exact HTL2.out, ?_, hP.2.2.1, hP.2.2.2.trans (hb6.mono (by have := hP.2.2.2.size; omega))⟩
            · rw [List.map_append]; exact hP.2.1.below hb6
            · rw [KF_snoc, List.append_assoc]; simpa using hr
        · have hq : ((cloB t).toList == []) = false := by
            cases hx : (cloB t).toList with
            | nil =>
              rw [ByteArray.toList_eq] at hx
              exact absurd (show cloB t = ⟨#[]⟩ by cases hb : cloB t with | mk d => rw [hb] at hx; simp at hx; rw [hx]) hclo
            | cons => rfl
          have HFL := Lib.hid (show flL (.mk t q :: l') = t :: (flL q ++ endS (cloB t) ++ flL l') by rw [flL, flN, if_neg (by simpa using hq)]; unfold endS; rw [if_neg (by simpa using hq)]; simp)
          go_upto_region 14 with (first | (at_builtin; refine wpList_append_lies _ rfl _ _ 23 rfl w.heap.size 26 j0 (.agg #[.int .i64 0, .string ⟨#[]⟩, .int .i64 0, .bool false, .bool false, .bool false]) 6 40 Try.underlying23 hj hy0 hy1 hy2 rfl (by decide) (.slice aa on ac) on (out.flatMap tcells) rfl hownA ⟨_, 0, none⟩ 1 1 (tcells t) rfl rfl (cell_six_new _ _ _) (tcells_one _) (by decide) (by unfold maxLen; omega) (by omega) (by simp; omega) _ rfl ?_; intro g5 cap5 w5 hown5 hgrow5 hat5 hlt5; have hN5 := NB.far (HN1.out.below HWA.out HN1.out.lt) hgrow5 (fun e => by have := HOBK.out _ e; omega); obtain ⟨p0, p1, p2, p3, p4, p5, p6⟩ := hN5.at; have hlN5 := hN5.lt) | (go_at_call 32; refine (closer_is rfl _).mono ?_; rintro e w6 ⟨rfl, hb6⟩; have r6 : w6.cell? ⟨wr.heap.size, 6, none⟩ = some (.slice ua un uc) := (hb6.cell (p := ⟨wr.heap.size, 6, none⟩) hlN5).trans p6))
          have hP := flat_push (t := t) HTA.out (HROW1.out.below HWA.out) (fun k hk => HI.out.far k hk) (HBEL1.out.trans (HWA.out.mono hwb)) (by simp; omega) HON.out hown5 hgrow5 hat5
          have hb5s := hP.2.2.2.size
          have htok6 := hP.1.below hb6
          have hrow6 := hP.2.1.below hb6
          have hbel6 := hP.2.2.2.trans (hb6.mono hb5s)
          have hfar6 := hP.2.2.1
          have h6s := hb6.size
          have hbA6 := (Below.refl w6.heap.size w6).alloc (Nat.le_refl _) (.cells #[.slice ua un uc, .string (cloB t)] 65)
          have hrowA := hrow6.below hbA6
          have htokA := htok6.below hbA6
          have hkx : (List.map fEnt ks' ++ [(Value.slice ta m c, Value.string xe)]) = List.map fEnt (ks' ++ [(.slice ta m c, l', xe)]) := by rw [List.map_append]; rfl
          have hrowB : Row2 65 w.heap.size (w6.alloc (.cells #[.slice ua un uc, .string (cloB t)] 65)) (.slice (some ⟨g, 0, none⟩) (n + 1) oc) (List.map fEnt (ks' ++ [(.slice ta m c, l', xe)])) := by rw [← hkx]; exact hrowA
          have hownO := hrowB
          unfold Row2 at hownO
          rw [show (List.map fEnt (ks' ++ [(Value.slice ta m c, l', xe)])).length = n + 1 by simp [HNN.out]] at hownO
          have HRB := Lib.hid hrowB
          have HTB := Lib.hid htokA
          have HP := Lib.hid hP
          have HB6 := Lib.hid hbel6
          have HF6 := Lib.hid hfar6
          have HA6 := Lib.hid hbA6
          clear hrowB hrowA htokA hP hbel6 hfar6 hbA6 hkx htok6 hrow6
          go_wp2_with (at_builtin; refine wpList_append_lies _ rfl _ _ 66 rfl w.heap.size 65 i0 (.agg #[.slice none 0 0, .string ⟨#[]⟩]) 2 40 Try.underlying66 hi hz0 hz1 hz2 rfl (by decide) (.slice (some ⟨g, 0, none⟩) (n + 1) oc) (n + 1) (cells2 (List.map fEnt (ks' ++ [(.slice ta m c, l', xe)]))) rfl hownO ⟨_, 0, none⟩ 1 1 [.slice ua un uc, .string (cloB t)] rfl rfl (World.news_of_block (cs := #[.slice ua un uc, .string (cloB t)]) (heap_alloc_self _ _)) (by intro u hu; simp at hu; rcases hu with rfl | rfl <;> rfl) (by decide) (by unfold maxLen; omega) (by omega) (by simp; omega) _ rfl ?_; intro g7 cap7 w7 hown7 hgrow7 hat7 hlt7)
          have hO := flat_open HTB.out HRB.out HF6.out (HB6.out.trans (HA6.out.mono (by omega))) (by simp; omega) (by simp [HNN.out]) hown7 hgrow7 hat7
          go_roundg (szF (ks' ++ [(.slice ta m c, l', xe)] ++ [(.slice ua un uc, q, cloB t)]))
          case measure => rw [szF_append, szF_append]; simp only [szF]; have := HGK.out.1; have := HSZ.out; omega
          case rel =>
            have hr := HRUN.out
            rw [HFL.out] at hr
            refine ⟨out ++ [t], ks' ++ [(.slice ta m c, l', xe)] ++ [(.slice ua un uc, q, cloB t)], rfl, by rw [szF_append, szF_append]; simp only [szF]; have := HGK.out.1; have := HGK.out.2; have := HSZ.out; omega, hO.1, ?_, fun x hx => ?_, ?_, hO.2.2.1, hO.2.2.2⟩
            · rw [List.map_append (l₁ := ks' ++ [(Value.slice ta m c, l', xe)])]; exact hO.2.1
            · rw [List.mem_append, List.mem_append] at hx
              rcases hx with (hx | hx) | hx
              · exact HI.out.rd x (List.mem_append_left _ hx)
              · simp at hx; subst hx; exact HTL2.out
              · simp at hx; subst hx; exact HKU.out
            · rw [KF_snoc, KF_snoc, List.append_assoc]; simpa using hr
end Go.Proofs.Ytfpgkfpehkelcaa
