
import Derived.Deep.RegionLaw
import Derived.Test.YtjjlnmjapfcmaaaDoorDeI
import Derived.Test.YtjjlnmjapfcmaaaDoorSyE2
namespace Go.Proofs.YtjjlnmjapfcmaaaDoor
open Go.RowKit
abbrev defC (d : DefD) (sv wv rv : Value) : Array Value := #[.string d.name, .string d.sys, .int .i64 d.first, sv, wv, .string d.neg0, .string d.neg1, .string d.pre, .string d.suf, .bool d.auto, rv, .int .i64 d.pad, .string d.psign, .string d.fall, .string d.ext, .int .i64 d.said]
abbrev zeroC : Array Value := #[.string ⟨#[]⟩, .string ⟨#[]⟩, .int .i64 0, .slice none 0 0, .slice none 0 0, .string ⟨#[]⟩, .string ⟨#[]⟩, .string ⟨#[]⟩, .string ⟨#[]⟩, .bool false, .slice none 0 0, .int .i64 0, .string ⟨#[]⟩, .string ⟨#[]⟩, .string ⟨#[]⟩, .int .i64 0]
/-- The style that is said, its symbols with it. -/
def wholeD (st : StD) : DefD := if isB st.d.sys exB = true then { st.d with syms := [], wts := [] } else { st.d with syms := st.syms, wts := [] }
def WholePost (B : Nat) (w : World) (d : DefD) (e : Ending) (w' : World) : Prop :=
  (∃ sv rv, e = .returned (.tuple #[defV d sv (.slice none 0 0) rv, .bool (mayB d)]) ∧ OwnT B w' sv d.syms ∧ OwnP B w' rv d.rng) ∧ Below w.heap.size w w'
theorem OwnP.rd {B : Nat} {w : World} {v : Value} {l : List (Int × Int)} (h : OwnP B w v l) : RdP w v l := by
  have hl := h.lt
  have hc := fun g hg => h.cells (g := g) hg
  obtain ⟨a, c, hv, hle⟩ := row_sl h
  refine ⟨a, c, hv, hle, fun hp => ?_⟩
  rcases h.2 with ⟨h1, h0⟩ | ⟨g, cap, cur, hg, _⟩
  · omega
  · rw [hv] at hg
    injection hg with hg _ _
    subst hg
    have ho : v.ownBlock = some g := by rw [hv]; rfl
    have q : ∀ j i x, (hj : j < l.length) → i < 2 → (pcells l[j])[i]? = some x → w.cell? ⟨g, 0 + j * 2 + i, none⟩ = some x := fun j i x hj hi hx => by
      have := hc g ho (j * 2 + i) x ((flat_at pcells 2 (fun _ => rfl) l j hj i hi).trans hx)
      rw [add0] at this
      rw [Nat.zero_add]
      exact this
    exact ⟨g, 0, rfl, (hl g ho).2, fun j hj => ⟨q j 0 _ hj (by omega) rfl, q j 1 _ hj (by omega) rfl⟩⟩
theorem row_setCells {B : Nat} {e : TypeId} {size n : Nat} {v : Value} {xs : List Value} {g : Nat} (hne : v.ownBlock ≠ some g) : ∀ (vs : List Value) (o : Nat) {w : World}, w.ownsRow B e size v n xs → (w.setCells g o vs).ownsRow B e size v n xs
  | [], _, _, h => h
  | x :: r, o, _, h => row_setCells hne r (o + 1) (row_far h hne x)
theorem def_size2 : (Tryd.prog.info? 30).map (·.size) = some 16 := by kernel_rfl
theorem csets16 (zs : Array Value) (hz : zs.size = 16) (d : DefD) (sv wv rv : Value) : csets zs 0 (defC d sv wv rv).toList = defC d sv wv rv := by
  obtain ⟨l⟩ := zs
  match l, hz with
  | [a0, a1, a2, a3, a4, a5, a6, a7, a8, a9, a10, a11, a12, a13, a14, a15], _ =>
    show _ = _
    kernel_rfl
theorem cb_all16 {w : World} {b : Nat} {zs : Array Value} {d : DefD} {sv wv rv : Value} (h : CB 30 w b zs) (hz : zs.size = 16 := by rfl) : CB 30 (w.setCells b 0 (defC d sv wv rv).toList) b (defC d sv wv rv) := by
  have h1 := CB.sets (defC d sv wv rv).toList 0 w _ h
  rw [csets16 zs hz] at h1
  exact h1
theorem def_one (d : DefD) (a : Option Addr) (n c : Nat) (a2 : Option Addr) (n2 c2 : Nat) : (defC d (.slice a n c) (.slice none 0 0) (.slice a2 n2 c2)).all (·.oneCell') = true := by kernel_rfl
/-- One style known whole, another one that may be written. -/
def HeldW (g z : Nat) (cs : List Value) (w : World) : Prop := CB 30 w g cs.toArray ∧ ∃ zs, zs.size = 16 ∧ CB 30 w z zs
theorem HeldW.range {g z : Nat} {cs : List Value} {w : World} (h : HeldW g z cs w) : w.rangeAt g 0 cs := fun j v hv => by
  rw [Nat.zero_add, h.1.cell, ← hv]
  simp
theorem HeldW.there {g z : Nat} {cs : List Value} {w : World} (h : HeldW g z cs w) : w.there z 0 16 := fun j hj => by
  obtain ⟨zs, h1, h2⟩ := h.2
  rw [Nat.zero_add, h2.cell, h2.frozen]
  refine ⟨?_, rfl⟩
  rw [Array.getElem?_eq_getElem (by rw [h1]; exact hj)]
  rfl
set_option maxRecDepth 100000 in
set_option maxHeartbeats 6400000 in
theorem whole_any {w : World} {B b : Nat} {st : StD} {sv av wv rv : Value} (hI : StI B w b st sv av wv rv) (hna : isB st.d.sys adB = false) (hex : isB st.d.sys exB = true → st.syms = [] ∧ st.adds = []) (_hBw : B ≤ w.heap.size) (hl1 : st.syms.length ≤ 100000) (hl2 : st.d.rng.length ≤ 100000) :
    Calls Tryd.prog 30 #[.pointer (some ⟨b, 0, none⟩)] w (WholePost B w (wholeD st)) := by
  have HI := Lib.hid hI
  obtain ⟨sa, sc, rfl, _⟩ := row_sl hI.sy
  obtain ⟨aa, ac, rfl, _⟩ := row_sl hI.ad
  obtain ⟨wa, wc, rfl, _⟩ := row_sl hI.we
  obtain ⟨ra, rc, rfl, _⟩ := row_sl hI.rn
  have HBZ := Lib.hid (show Below w.heap.size w (w.alloc (.cells #[.string ⟨#[]⟩, .string ⟨#[]⟩, .int .i64 0, .slice none 0 0, .slice none 0 0, .string ⟨#[]⟩, .string ⟨#[]⟩, .string ⟨#[]⟩, .string ⟨#[]⟩, .bool false, .slice none 0 0, .int .i64 0, .string ⟨#[]⟩, .string ⟨#[]⟩, .string ⟨#[]⟩, .int .i64 0] 30)) from (Below.refl _ _).alloc (Nat.le_refl _) _)
  have HZ := Lib.hid (show CB 30 (w.alloc (.cells #[.string ⟨#[]⟩, .string ⟨#[]⟩, .int .i64 0, .slice none 0 0, .slice none 0 0, .string ⟨#[]⟩, .string ⟨#[]⟩, .string ⟨#[]⟩, .string ⟨#[]⟩, .bool false, .slice none 0 0, .int .i64 0, .string ⟨#[]⟩, .string ⟨#[]⟩, .string ⟨#[]⟩, .int .i64 0] 30)) w.heap.size zeroC from CB.new _ _)
  have HI0 := Lib.hid (HI.out.below HBZ.out)
  have hs0 : (w.alloc (.cells #[.string ⟨#[]⟩, .string ⟨#[]⟩, .int .i64 0, .slice none 0 0, .slice none 0 0, .string ⟨#[]⟩, .string ⟨#[]⟩, .string ⟨#[]⟩, .string ⟨#[]⟩, .bool false, .slice none 0 0, .int .i64 0, .string ⟨#[]⟩, .string ⟨#[]⟩, .string ⟨#[]⟩, .int .i64 0] 30)).heap.size = w.heap.size + 1 := by simp
  clear hI
  go_enter Tryd.func30, Tryd.ntmps30
  go_upto_region 1 with fail
  generalize w.alloc (.cells #[.string ⟨#[]⟩, .string ⟨#[]⟩, .int .i64 0, .slice none 0 0, .slice none 0 0, .string ⟨#[]⟩, .string ⟨#[]⟩, .string ⟨#[]⟩, .string ⟨#[]⟩, .bool false, .slice none 0 0, .int .i64 0, .string ⟨#[]⟩, .string ⟨#[]⟩, .string ⟨#[]⟩, .int .i64 0] 30) = W0 at *
  have d0 : W0.cell? ⟨b, 0, none⟩ = some (.string st.d.name) := HI0.out.box.cell 0
  have d1 : W0.cell? ⟨b, 1, none⟩ = some (.string st.d.sys) := HI0.out.box.cell 1
  have d2 : W0.cell? ⟨b, 2, none⟩ = some (.int .i64 st.d.first) := HI0.out.box.cell 2
  have d3 : W0.cell? ⟨b, 3, none⟩ = some (.slice none 0 0) := HI0.out.box.cell 3
  have d4 : W0.cell? ⟨b, 4, none⟩ = some (.slice none 0 0) := HI0.out.box.cell 4
  have d5 : W0.cell? ⟨b, 5, none⟩ = some (.string st.d.neg0) := HI0.out.box.cell 5
  have d6 : W0.cell? ⟨b, 6, none⟩ = some (.string st.d.neg1) := HI0.out.box.cell 6
  have d7 : W0.cell? ⟨b, 7, none⟩ = some (.string st.d.pre) := HI0.out.box.cell 7
  have d8 : W0.cell? ⟨b, 8, none⟩ = some (.string st.d.suf) := HI0.out.box.cell 8
  have d9 : W0.cell? ⟨b, 9, none⟩ = some (.bool st.d.auto) := HI0.out.box.cell 9
  have d10 : W0.cell? ⟨b, 10, none⟩ = some (.slice ra st.d.rng.length rc) := HI0.out.box.cell 10
  have d11 : W0.cell? ⟨b, 11, none⟩ = some (.int .i64 st.d.pad) := HI0.out.box.cell 11
  have d12 : W0.cell? ⟨b, 12, none⟩ = some (.string st.d.psign) := HI0.out.box.cell 12
  have d13 : W0.cell? ⟨b, 13, none⟩ = some (.string st.d.fall) := HI0.out.box.cell 13
  have d14 : W0.cell? ⟨b, 14, none⟩ = some (.string st.d.ext) := HI0.out.box.cell 14
  have d15 : W0.cell? ⟨b, 15, none⟩ = some (.int .i64 st.d.said) := HI0.out.box.cell 15
  have HD4 := Lib.hid (show CB 30 (W0.alloc (.cells (defC st.d (.slice none 0 0) (.slice none 0 0) (.slice ra st.d.rng.length rc)) 30)) W0.heap.size (defC st.d (.slice none 0 0) (.slice none 0 0) (.slice ra st.d.rng.length rc)) from CB.new _ _)
  have HBA := Lib.hid (show Below W0.heap.size W0 (W0.alloc (.cells (defC st.d (.slice none 0 0) (.slice none 0 0) (.slice ra st.d.rng.length rc)) 30)) from (Below.refl _ _).alloc (Nat.le_refl _) _)
  have HI1 := Lib.hid (HI0.out.below HBA.out)
  have HZ1 := Lib.hid (HZ.out.below HBA.out (by omega))
  have HB1 := Lib.hid (below_seq HBZ.out HBA.out)
  go_upto_region 2 with fail
  clear d0 d1 d2 d3 d4 d5 d6 d7 d8 d9 d10 d11 d12 d13 d14 d15
  obtain ⟨W1, hW1⟩ : ∃ W1, W1 = W0.alloc (.cells #[.string st.d.name, .string st.d.sys, .int .i64 st.d.first, .slice none 0 0, .slice none 0 0, .string st.d.neg0, .string st.d.neg1, .string st.d.pre, .string st.d.suf, .bool st.d.auto, .slice ra st.d.rng.length rc, .int .i64 st.d.pad, .string st.d.psign, .string st.d.fall, .string st.d.ext, .int .i64 st.d.said] 30) := ⟨_, rfl⟩
  rw [← hW1]
  have HD4' : Hid (CB 30 W1 (w.heap.size + 1) (defC st.d (.slice none 0 0) (.slice none 0 0) (.slice ra st.d.rng.length rc))) := by
    rw [hW1, ← hs0]
    exact HD4.out
  have HI1' : Hid (StI B W1 b st (.slice sa st.syms.length sc) (.slice aa st.adds.length ac) (.slice wa st.wts.length wc) (.slice ra st.d.rng.length rc)) := by
    rw [hW1]
    exact HI1.out
  have HZ1' : Hid (CB 30 W1 w.heap.size zeroC) := by
    rw [hW1]
    exact HZ1.out
  have HB1' : Hid (Below w.heap.size w W1) := by
    rw [hW1]
    exact HB1.out
  clear hW1 HD4 HI1 HZ1 HB1 HBA HI0 HZ HBZ hs0
  have dd1 : W1.cell? ⟨w.heap.size + 1, 1, none⟩ = some (.string st.d.sys) := HD4'.out.cell 1
  have dd3 : W1.cell? ⟨w.heap.size + 1, 3, none⟩ = some (.slice none 0 0) := HD4'.out.cell 3
  have ff3 : W1.frozen? ⟨w.heap.size + 1, 3, none⟩ = false := HD4'.out.frozen 3
  have s16 : W1.cell? ⟨b, 16, none⟩ = some (.slice sa st.syms.length sc) := HI1'.out.box.cell 16
  have s17 : W1.cell? ⟨b, 17, none⟩ = some (.slice aa st.adds.length ac) := HI1'.out.box.cell 17
  have hna2 : (st.d.sys.toList == [97, 100, 100, 105, 116, 105, 118, 101]) = false := hna
  cases he : (st.d.sys.toList == [101, 120, 116, 101, 110, 100, 115])
  · have HW : Hid (wholeD st = { st.d with syms := st.syms, wts := [] }) := if_neg (by show ¬ (st.d.sys.toList == [101, 120, 116, 101, 110, 100, 115]) = true; rw [he]; decide)
    have HD5 := Lib.hid (HD4'.out.set 3 (.slice sa st.syms.length sc))
    have HZ2 := Lib.hid (HZ1'.out.far (p := ⟨w.heap.size + 1, 3, none⟩) (by show w.heap.size ≠ w.heap.size + 1; omega) (.slice sa st.syms.length sc))
    have hsy := row_far HI1'.out.sy (row_neC HI1'.out.sy HD4'.out (by decide)) (o := 3) (.slice sa st.syms.length sc)
    have hrn := row_far HI1'.out.rn (row_neC HI1'.out.rn HD4'.out (by decide)) (o := 3) (.slice sa st.syms.length sc)
    have HSY := Lib.hid hsy
    have HRN := Lib.hid hrn
    have HB2 := Lib.hid (HB1'.out.setCell (p := ⟨w.heap.size + 1, 3, none⟩) (by show w.heap.size ≤ w.heap.size + 1; omega) (.slice sa st.syms.length sc))
    go_upto_region 9 with fail
    generalize W1.setCell ⟨w.heap.size + 1, 3, none⟩ (.slice sa st.syms.length sc) = W2 at *
    have HDL := Lib.hid HD5.out.lt
    have HQ : Hid (DefR W2 { st.d with syms := st.syms, wts := [] } (.slice sa st.syms.length sc) (.slice none 0 0) (.slice ra st.d.rng.length rc)) :=
      ⟨OwnT.rd HSY.out, Rd.nil' _ _ _, OwnP.rd HRN.out, hl1, by simp, hl2⟩
    have HQD := Lib.hid (HQ.out.below ((Below.refl W2.heap.size W2).drew))
    clear dd1 dd3 ff3 s16 s17 hsy hrn
    go_upto_region 9 with fail
    have hS0 : HeldW (w.heap.size + 1) w.heap.size [.string st.d.name, .string st.d.sys, .int .i64 st.d.first, .slice sa st.syms.length sc, .slice none 0 0, .string st.d.neg0, .string st.d.neg1, .string st.d.pre, .string st.d.suf, .bool st.d.auto, .slice ra st.d.rng.length rc, .int .i64 st.d.pad, .string st.d.psign, .string st.d.fall, .string st.d.ext, .int .i64 st.d.said] W2 := ⟨HD5.out, _, rfl, HZ2.out⟩
    refine wp_region_held_drew (S := HeldW (w.heap.size + 1) w.heap.size [.string st.d.name, .string st.d.sys, .int .i64 st.d.first, .slice sa st.syms.length sc, .slice none 0 0, .string st.d.neg0, .string st.d.neg1, .string st.d.pre, .string st.d.suf, .bool st.d.auto, .slice ra st.d.rng.length rc, .int .i64 st.d.pad, .string st.d.psign, .string st.d.fall, .string st.d.ext, .int .i64 st.d.said]) (by kernel_rfl) hS0 (fun hHeld => ?_)
    refine wpAnyH_take (i := 0) (oi := ({ dst := some 45, op := .load 30 (.tmp 4), type := 30, pos := "style.go:181", after := #[], guard := none } : Oper)) (v := _) rfl (by kernel_rfl) (by kernel_rfl) (by kernel_rfl) (fun _ _ _ h => h) (yieldsIf_load_mid (by rfl) 30 (.tmp 4) rfl (w.heap.size + 1) 0 rfl [.string st.d.name, .string st.d.sys, .int .i64 st.d.first, .slice sa st.syms.length sc, .slice none 0 0, .string st.d.neg0, .string st.d.neg1, .string st.d.pre, .string st.d.suf, .bool st.d.auto, .slice ra st.d.rng.length rc, .int .i64 st.d.pad, .string st.d.psign, .string st.d.fall, .string st.d.ext, .int .i64 st.d.said] _ (fun w' h => h.range) Tryd.underlying30 (by rfl) def_size2) hHeld ?_
    try simp only [Act.put, List.setIfInBounds_toArray, List.set_cons_zero, List.set_cons_succ]
    refine wpAnyH_take (i := 1) (oi := ({ dst := some 46, op := .load 30 (.tmp 4), type := 30, pos := "style.go:181", after := #[], guard := none } : Oper)) (v := _) rfl (by kernel_rfl) (by kernel_rfl) (by kernel_rfl) (fun _ _ _ h => h) (yieldsIf_load_mid (by rfl) 30 (.tmp 4) rfl (w.heap.size + 1) 0 rfl [.string st.d.name, .string st.d.sys, .int .i64 st.d.first, .slice sa st.syms.length sc, .slice none 0 0, .string st.d.neg0, .string st.d.neg1, .string st.d.pre, .string st.d.suf, .bool st.d.auto, .slice ra st.d.rng.length rc, .int .i64 st.d.pad, .string st.d.psign, .string st.d.fall, .string st.d.ext, .int .i64 st.d.said] _ (fun w' h => h.range) Tryd.underlying30 (by rfl) def_size2) hHeld ?_
    try simp only [Act.put, List.setIfInBounds_toArray, List.set_cons_zero, List.set_cons_succ]
    refine wpAnyH_ready (rs := [2]) (by kernel_rfl) (by simp) ?_
    refine AllReadyH.cons (o := ({ dst := some 47, op := .call { callee := .value (.func 22), args := #[.tmp 46], argTypes := #[ 30 ] }, type := 4, pos := "style.go:181", after := #[{ on := 1, ground := .data }], guard := none } : Oper)) rfl (fun K hK => ?_) AllReadyH.nil
    rw [if_pos (by rfl)]
    go_simp
    go_at_call 22
    refine (may_any _ { st.d with syms := st.syms, wts := [] } _ _ _ HQD.out).mono ?_
    rintro e w5 ⟨rfl, hb5⟩
    have hS5 : HeldW (w.heap.size + 1) w.heap.size [.string st.d.name, .string st.d.sys, .int .i64 st.d.first, .slice sa st.syms.length sc, .slice none 0 0, .string st.d.neg0, .string st.d.neg1, .string st.d.pre, .string st.d.suf, .bool st.d.auto, .slice ra st.d.rng.length rc, .int .i64 st.d.pad, .string st.d.psign, .string st.d.fall, .string st.d.ext, .int .i64 st.d.said] w5 := ⟨CB.below (w := W2.drew) HD5.out hb5 HDL.out, _, rfl, CB.below (w := W2.drew) HZ2.out hb5 HZ2.out.lt⟩
    refine hK.out _ _ hS5 (fun hHeld2 => ?_)
    clear hK K
    refine wpAnyH_ready (rs := [3]) (by kernel_rfl) (by simp) ?_
    refine AllReadyH.cons (o := ({ dst := none, op := .store 30 (.tmp 2) (.tmp 45), type := 0, pos := "style.go:181", after := #[{ on := 0, ground := .data }, { on := 2, ground := .chain }, { on := 0, ground := .phase }, { on := 1, ground := .textOnly .lateStores }, { on := 2, ground := .textOnly .lateStoresUnsure }], guard := none } : Oper)) rfl (fun K hK => ?_) AllReadyH.nil
    rw [if_pos (by rfl)]
    refine wp_store_mid 30 (.tmp 2) (.tmp 45) rfl w.heap.size 0 (defC { st.d with syms := st.syms, wts := [] } (.slice sa st.syms.length sc) (.slice none 0 0) (.slice ra st.d.rng.length rc)) rfl rfl hHeld2.there def_size2 (def_one _ _ _ _ _ _ _) ?_
    have HF := Lib.hid (cb_all16 (d := { st.d with syms := st.syms, wts := [] }) (sv := .slice sa st.syms.length sc) (wv := .slice none 0 0) (rv := .slice ra st.d.rng.length rc) (CB.below (w := W2.drew) HZ2.out hb5 HZ2.out.lt))
    have hS6 : HeldW (w.heap.size + 1) w.heap.size [.string st.d.name, .string st.d.sys, .int .i64 st.d.first, .slice sa st.syms.length sc, .slice none 0 0, .string st.d.neg0, .string st.d.neg1, .string st.d.pre, .string st.d.suf, .bool st.d.auto, .slice ra st.d.rng.length rc, .int .i64 st.d.pad, .string st.d.psign, .string st.d.fall, .string st.d.ext, .int .i64 st.d.said] (w5.setCells w.heap.size 0 (defC { st.d with syms := st.syms, wts := [] } (.slice sa st.syms.length sc) (.slice none 0 0) (.slice ra st.d.rng.length rc)).toList) := ⟨CB.farS (by omega) _ 0 _ hS5.1, _, rfl, HF.out⟩
    have HBF := Lib.hid (setsS_below (Nat.le_refl w.heap.size) (defC { st.d with syms := st.syms, wts := [] } (.slice sa st.syms.length sc) (.slice none 0 0) (.slice ra st.d.rng.length rc)).toList 0 _ (below_seq (HB2.out.drew) hb5))
    have HSY5 := row_below (w := W2.drew) HSY.out hb5
    have HRN5 := row_below (w := W2.drew) HRN.out hb5
    have HSY6 := Lib.hid (row_setCells (row_neC HSY5 hS5.2.choose_spec.2 (by decide)) (defC { st.d with syms := st.syms, wts := [] } (.slice sa st.syms.length sc) (.slice none 0 0) (.slice ra st.d.rng.length rc)).toList 0 HSY5)
    have HRN6 := Lib.hid (row_setCells (row_neC HRN5 hS5.2.choose_spec.2 (by decide)) (defC { st.d with syms := st.syms, wts := [] } (.slice sa st.syms.length sc) (.slice none 0 0) (.slice ra st.d.rng.length rc)).toList 0 HRN5)
    clear HSY5 HRN5
    refine hK.out _ _ hS6 (fun hHeld3 => ?_)
    clear hK K
    generalize w5.setCells w.heap.size 0 (defC { st.d with syms := st.syms, wts := [] } (.slice sa st.syms.length sc) (.slice none 0 0) (.slice ra st.d.rng.length rc)).toList = W6 at *
    try simp only [Act.put]
    refine wpAnyH_ready (rs := [4]) (by kernel_rfl) (by simp) ?_
    refine AllReadyH.cons (o := ({ dst := some 3, op := .assign (.tmp 47), type := 4, pos := "style.go:181", after := #[{ on := 2, ground := .data }, { on := 3, ground := .chain }, { on := 0, ground := .phase }, { on := 1, ground := .phase }, { on := 2, ground := .phase }, { on := 3, ground := .phase }], guard := none } : Oper)) rfl (fun K hK => ?_) AllReadyH.nil
    rw [if_pos (by rfl)]
    go_simp
    refine hK.out _ _ hHeld3 (fun _ => ?_)
    clear hK K
    refine wpAnyH_done (by kernel_rfl) ?_ _
    generalize hmb : mayB { st.d with syms := st.syms, wts := [] } = MB at *
    have HMB := Lib.hid hmb
    clear hmb
    have q0 : W6.cell? ⟨w.heap.size, 0, none⟩ = some (.string st.d.name) := HF.out.cell 0
    have q1 : W6.cell? ⟨w.heap.size, 1, none⟩ = some (.string st.d.sys) := HF.out.cell 1
    have q2 : W6.cell? ⟨w.heap.size, 2, none⟩ = some (.int .i64 st.d.first) := HF.out.cell 2
    have q3 : W6.cell? ⟨w.heap.size, 3, none⟩ = some (.slice sa st.syms.length sc) := HF.out.cell 3
    have q4 : W6.cell? ⟨w.heap.size, 4, none⟩ = some (.slice none 0 0) := HF.out.cell 4
    have q5 : W6.cell? ⟨w.heap.size, 5, none⟩ = some (.string st.d.neg0) := HF.out.cell 5
    have q6 : W6.cell? ⟨w.heap.size, 6, none⟩ = some (.string st.d.neg1) := HF.out.cell 6
    have q7 : W6.cell? ⟨w.heap.size, 7, none⟩ = some (.string st.d.pre) := HF.out.cell 7
    have q8 : W6.cell? ⟨w.heap.size, 8, none⟩ = some (.string st.d.suf) := HF.out.cell 8
    have q9 : W6.cell? ⟨w.heap.size, 9, none⟩ = some (.bool st.d.auto) := HF.out.cell 9
    have q10 : W6.cell? ⟨w.heap.size, 10, none⟩ = some (.slice ra st.d.rng.length rc) := HF.out.cell 10
    have q11 : W6.cell? ⟨w.heap.size, 11, none⟩ = some (.int .i64 st.d.pad) := HF.out.cell 11
    have q12 : W6.cell? ⟨w.heap.size, 12, none⟩ = some (.string st.d.psign) := HF.out.cell 12
    have q13 : W6.cell? ⟨w.heap.size, 13, none⟩ = some (.string st.d.fall) := HF.out.cell 13
    have q14 : W6.cell? ⟨w.heap.size, 14, none⟩ = some (.string st.d.ext) := HF.out.cell 14
    have q15 : W6.cell? ⟨w.heap.size, 15, none⟩ = some (.int .i64 st.d.said) := HF.out.cell 15
    go_wp2
    refine bodyPost_ret (v := .tuple #[defV { st.d with syms := st.syms, wts := [] } (.slice sa st.syms.length sc) (.slice none 0 0) (.slice ra st.d.rng.length rc), .bool MB]) (by simp [results, Tryd.results30, go_sem, q0, q1, q2, q3, q4, q5, q6, q7, q8, q9, q10, q11, q12, q13, q14, q15]) rfl ?_
    rw [HW.out]
    exact ⟨⟨_, _, by rw [← HMB.out], HSY6.out, HRN6.out⟩, HBF.out⟩
  · obtain ⟨hs1, hs2⟩ := hex he
    have HW : Hid (wholeD st = { st.d with syms := [], wts := [] }) := if_pos he
    have hs1l : st.syms.length = 0 := by rw [hs1]; rfl
    have hs2l : st.adds.length = 0 := by rw [hs2]; rfl
    rw [hs1l] at s16
    rw [hs2l] at s17
    have HRN := Lib.hid HI1'.out.rn
    have HB2 := HB1'
    have HD5 := HD4'
    have HZ2 := HZ1'
    obtain ⟨W2, hW2⟩ : ∃ W2 : World, W2 = W1 := ⟨_, rfl⟩
    subst hW2
    have HDL := Lib.hid HD5.out.lt
    have HQ : Hid (DefR W2 { st.d with syms := [], wts := [] } (.slice none 0 0) (.slice none 0 0) (.slice ra st.d.rng.length rc)) :=
      ⟨RdTx.nil _ _ _, Rd.nil' _ _ _, OwnP.rd HRN.out, by simp, by simp, hl2⟩
    have HQD := Lib.hid (HQ.out.below ((Below.refl W2.heap.size W2).drew))
    go_upto_region 9 with fail
    have hS0 : HeldW (w.heap.size + 1) w.heap.size [.string st.d.name, .string st.d.sys, .int .i64 st.d.first, .slice none 0 0, .slice none 0 0, .string st.d.neg0, .string st.d.neg1, .string st.d.pre, .string st.d.suf, .bool st.d.auto, .slice ra st.d.rng.length rc, .int .i64 st.d.pad, .string st.d.psign, .string st.d.fall, .string st.d.ext, .int .i64 st.d.said] W2 := ⟨HD5.out, _, rfl, HZ2.out⟩
    refine wp_region_held_drew (S := HeldW (w.heap.size + 1) w.heap.size [.string st.d.name, .string st.d.sys, .int .i64 st.d.first, .slice none 0 0, .slice none 0 0, .string st.d.neg0, .string st.d.neg1, .string st.d.pre, .string st.d.suf, .bool st.d.auto, .slice ra st.d.rng.length rc, .int .i64 st.d.pad, .string st.d.psign, .string st.d.fall, .string st.d.ext, .int .i64 st.d.said]) (by kernel_rfl) hS0 (fun hHeld => ?_)
    refine wpAnyH_take (i := 0) (oi := ({ dst := some 45, op := .load 30 (.tmp 4), type := 30, pos := "style.go:181", after := #[], guard := none } : Oper)) (v := _) rfl (by kernel_rfl) (by kernel_rfl) (by kernel_rfl) (fun _ _ _ h => h) (yieldsIf_load_mid (by rfl) 30 (.tmp 4) rfl (w.heap.size + 1) 0 rfl [.string st.d.name, .string st.d.sys, .int .i64 st.d.first, .slice none 0 0, .slice none 0 0, .string st.d.neg0, .string st.d.neg1, .string st.d.pre, .string st.d.suf, .bool st.d.auto, .slice ra st.d.rng.length rc, .int .i64 st.d.pad, .string st.d.psign, .string st.d.fall, .string st.d.ext, .int .i64 st.d.said] _ (fun w' h => h.range) Tryd.underlying30 (by rfl) def_size2) hHeld ?_
    try simp only [Act.put, List.setIfInBounds_toArray, List.set_cons_zero, List.set_cons_succ]
    refine wpAnyH_take (i := 1) (oi := ({ dst := some 46, op := .load 30 (.tmp 4), type := 30, pos := "style.go:181", after := #[], guard := none } : Oper)) (v := _) rfl (by kernel_rfl) (by kernel_rfl) (by kernel_rfl) (fun _ _ _ h => h) (yieldsIf_load_mid (by rfl) 30 (.tmp 4) rfl (w.heap.size + 1) 0 rfl [.string st.d.name, .string st.d.sys, .int .i64 st.d.first, .slice none 0 0, .slice none 0 0, .string st.d.neg0, .string st.d.neg1, .string st.d.pre, .string st.d.suf, .bool st.d.auto, .slice ra st.d.rng.length rc, .int .i64 st.d.pad, .string st.d.psign, .string st.d.fall, .string st.d.ext, .int .i64 st.d.said] _ (fun w' h => h.range) Tryd.underlying30 (by rfl) def_size2) hHeld ?_
    try simp only [Act.put, List.setIfInBounds_toArray, List.set_cons_zero, List.set_cons_succ]
    refine wpAnyH_ready (rs := [2]) (by kernel_rfl) (by simp) ?_
    refine AllReadyH.cons (o := ({ dst := some 47, op := .call { callee := .value (.func 22), args := #[.tmp 46], argTypes := #[ 30 ] }, type := 4, pos := "style.go:181", after := #[{ on := 1, ground := .data }], guard := none } : Oper)) rfl (fun K hK => ?_) AllReadyH.nil
    rw [if_pos (by rfl)]
    go_simp
    go_at_call 22
    refine (may_any _ { st.d with syms := [], wts := [] } _ _ _ HQD.out).mono ?_
    rintro e w5 ⟨rfl, hb5⟩
    have hS5 : HeldW (w.heap.size + 1) w.heap.size [.string st.d.name, .string st.d.sys, .int .i64 st.d.first, .slice none 0 0, .slice none 0 0, .string st.d.neg0, .string st.d.neg1, .string st.d.pre, .string st.d.suf, .bool st.d.auto, .slice ra st.d.rng.length rc, .int .i64 st.d.pad, .string st.d.psign, .string st.d.fall, .string st.d.ext, .int .i64 st.d.said] w5 := ⟨CB.below (w := W2.drew) HD5.out hb5 HDL.out, _, rfl, CB.below (w := W2.drew) HZ2.out hb5 HZ2.out.lt⟩
    refine hK.out _ _ hS5 (fun hHeld2 => ?_)
    clear hK K
    refine wpAnyH_ready (rs := [3]) (by kernel_rfl) (by simp) ?_
    refine AllReadyH.cons (o := ({ dst := none, op := .store 30 (.tmp 2) (.tmp 45), type := 0, pos := "style.go:181", after := #[{ on := 0, ground := .data }, { on := 2, ground := .chain }, { on := 0, ground := .phase }, { on := 1, ground := .textOnly .lateStores }, { on := 2, ground := .textOnly .lateStoresUnsure }], guard := none } : Oper)) rfl (fun K hK => ?_) AllReadyH.nil
    rw [if_pos (by rfl)]
    refine wp_store_mid 30 (.tmp 2) (.tmp 45) rfl w.heap.size 0 (defC { st.d with syms := [], wts := [] } (.slice none 0 0) (.slice none 0 0) (.slice ra st.d.rng.length rc)) rfl rfl hHeld2.there def_size2 (def_one _ _ _ _ _ _ _) ?_
    have HF := Lib.hid (cb_all16 (d := { st.d with syms := [], wts := [] }) (sv := .slice none 0 0) (wv := .slice none 0 0) (rv := .slice ra st.d.rng.length rc) (CB.below (w := W2.drew) HZ2.out hb5 HZ2.out.lt))
    have hS6 : HeldW (w.heap.size + 1) w.heap.size [.string st.d.name, .string st.d.sys, .int .i64 st.d.first, .slice none 0 0, .slice none 0 0, .string st.d.neg0, .string st.d.neg1, .string st.d.pre, .string st.d.suf, .bool st.d.auto, .slice ra st.d.rng.length rc, .int .i64 st.d.pad, .string st.d.psign, .string st.d.fall, .string st.d.ext, .int .i64 st.d.said] (w5.setCells w.heap.size 0 (defC { st.d with syms := [], wts := [] } (.slice none 0 0) (.slice none 0 0) (.slice ra st.d.rng.length rc)).toList) := ⟨CB.farS (by omega) _ 0 _ hS5.1, _, rfl, HF.out⟩
    have HBF := Lib.hid (setsS_below (Nat.le_refl w.heap.size) (defC { st.d with syms := [], wts := [] } (.slice none 0 0) (.slice none 0 0) (.slice ra st.d.rng.length rc)).toList 0 _ (below_seq (HB2.out.drew) hb5))
    have HRN5 := row_below (w := W2.drew) HRN.out hb5
    have HRN6 := Lib.hid (row_setCells (row_neC HRN5 hS5.2.choose_spec.2 (by decide)) (defC { st.d with syms := [], wts := [] } (.slice none 0 0) (.slice none 0 0) (.slice ra st.d.rng.length rc)).toList 0 HRN5)
    clear HRN5

    refine hK.out _ _ hS6 (fun hHeld3 => ?_)
    clear hK K
    generalize w5.setCells w.heap.size 0 (defC { st.d with syms := [], wts := [] } (.slice none 0 0) (.slice none 0 0) (.slice ra st.d.rng.length rc)).toList = W6 at *
    try simp only [Act.put]
    refine wpAnyH_ready (rs := [4]) (by kernel_rfl) (by simp) ?_
    refine AllReadyH.cons (o := ({ dst := some 3, op := .assign (.tmp 47), type := 4, pos := "style.go:181", after := #[{ on := 2, ground := .data }, { on := 3, ground := .chain }, { on := 0, ground := .phase }, { on := 1, ground := .phase }, { on := 2, ground := .phase }, { on := 3, ground := .phase }], guard := none } : Oper)) rfl (fun K hK => ?_) AllReadyH.nil
    rw [if_pos (by rfl)]
    go_simp
    refine hK.out _ _ hHeld3 (fun _ => ?_)
    clear hK K
    refine wpAnyH_done (by kernel_rfl) ?_ _
    generalize hmb : mayB { st.d with syms := [], wts := [] } = MB at *
    have HMB := Lib.hid hmb
    clear hmb
    have q0 : W6.cell? ⟨w.heap.size, 0, none⟩ = some (.string st.d.name) := HF.out.cell 0
    have q1 : W6.cell? ⟨w.heap.size, 1, none⟩ = some (.string st.d.sys) := HF.out.cell 1
    have q2 : W6.cell? ⟨w.heap.size, 2, none⟩ = some (.int .i64 st.d.first) := HF.out.cell 2
    have q3 : W6.cell? ⟨w.heap.size, 3, none⟩ = some (.slice none 0 0) := HF.out.cell 3
    have q4 : W6.cell? ⟨w.heap.size, 4, none⟩ = some (.slice none 0 0) := HF.out.cell 4
    have q5 : W6.cell? ⟨w.heap.size, 5, none⟩ = some (.string st.d.neg0) := HF.out.cell 5
    have q6 : W6.cell? ⟨w.heap.size, 6, none⟩ = some (.string st.d.neg1) := HF.out.cell 6
    have q7 : W6.cell? ⟨w.heap.size, 7, none⟩ = some (.string st.d.pre) := HF.out.cell 7
    have q8 : W6.cell? ⟨w.heap.size, 8, none⟩ = some (.string st.d.suf) := HF.out.cell 8
    have q9 : W6.cell? ⟨w.heap.size, 9, none⟩ = some (.bool st.d.auto) := HF.out.cell 9
    have q10 : W6.cell? ⟨w.heap.size, 10, none⟩ = some (.slice ra st.d.rng.length rc) := HF.out.cell 10
    have q11 : W6.cell? ⟨w.heap.size, 11, none⟩ = some (.int .i64 st.d.pad) := HF.out.cell 11
    have q12 : W6.cell? ⟨w.heap.size, 12, none⟩ = some (.string st.d.psign) := HF.out.cell 12
    have q13 : W6.cell? ⟨w.heap.size, 13, none⟩ = some (.string st.d.fall) := HF.out.cell 13
    have q14 : W6.cell? ⟨w.heap.size, 14, none⟩ = some (.string st.d.ext) := HF.out.cell 14
    have q15 : W6.cell? ⟨w.heap.size, 15, none⟩ = some (.int .i64 st.d.said) := HF.out.cell 15
    go_wp2
    refine bodyPost_ret (v := .tuple #[defV { st.d with syms := [], wts := [] } (.slice none 0 0) (.slice none 0 0) (.slice ra st.d.rng.length rc), .bool MB]) (by simp [results, Tryd.results30, go_sem, q0, q1, q2, q3, q4, q5, q6, q7, q8, q9, q10, q11, q12, q13, q14, q15]) rfl ?_
    rw [HW.out]
    exact ⟨⟨_, _, by rw [← HMB.out], OwnT.nil _ _, HRN6.out⟩, HBF.out⟩
end Go.Proofs.YtjjlnmjapfcmaaaDoor
