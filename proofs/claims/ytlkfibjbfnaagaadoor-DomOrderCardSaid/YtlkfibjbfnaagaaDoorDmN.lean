
import Derived.Test.YtlkfibjbfnaagaaDoorDmE
import Derived.Test.YtlkfibjbfnaagaaDoorDmM
import Derived.Lib.LazyBuf
namespace Go.Proofs.YtlkfibjbfnaagaaDoor
open Go.RowKit Go.Maps Go.WideMaps Go.Shelf
def CloneAPost (w : World) (l : List (ByteArray × ByteArray)) (e : Ending) (w' : World) : Prop := ∃ v, e = .returned v ∧ OwnA w.heap.size w' v l ∧ Below w.heap.size w w'
theorem own_empty (w : World) : (w.alloc (.cells #[] 57)).ownsRow w.heap.size 57 2 (.slice (some ⟨w.heap.size, 0, none⟩) 0 0) 0 [] :=
  World.ownsRow_made w #[] 0 (Nat.le_refl _) (Nat.zero_le _) rfl
set_option maxRecDepth 100000 in
set_option maxHeartbeats 1600000 in
theorem cloneA_any {w : World} {v : Value} {l : List (ByteArray × ByteArray)} (h : RdA w v l) (hl : l.length ≤ 100000000) : Calls Tryd.prog 38 #[v] w (CloneAPost w l) := by
  obtain ⟨i0, hi, hz0, hz1, hz2⟩ := info_parts info_attr
  obtain ⟨a, c, rfl, hle, hc⟩ := h
  cases a with
  | none =>
    have h0 : l = [] := by
      cases l with
      | nil => rfl
      | cons x l => obtain ⟨b, off, h1, _⟩ := hc (by simp); cases h1
    subst h0
    have heq := fun wx => Lib.run_eql_slice_nil (P := Tryd.prog) wx 35 57 none 0 c 0 0 Tryd.underlying35
    rw [show ([] : List (ByteArray × ByteArray)).length = 0 from rfl]
    clear hc hle
    go_enter Tryd.func38, Tryd.ntmps38
    go_wp2
    go_ret
    exact ⟨_, rfl, World.ownsRow_nil _ _ _ _, Below.refl _ _⟩
  | some ad =>
    have heq := fun wx => Lib.run_eql_slice_nil (P := Tryd.prog) wx 35 57 (some ad) l.length c 0 0 Tryd.underlying35
    have hnews : ∀ j u, (l.flatMap acells)[j]? = some u → w.cell? (ad.add j) = some u := fun j u hj => by
      have hjl := (List.getElem?_eq_some_iff.1 hj).1
      rw [acells_len] at hjl
      obtain ⟨b, off, h1, _, h3⟩ := hc (by omega)
      injection h1 with h1
      subst h1
      have hadd : (⟨b, off, none⟩ : Addr).add j = ⟨b, off + j, none⟩ := by unfold Addr.add; split <;> simp_all
      rw [hadd]
      obtain ⟨q, hq⟩ : ∃ q, q = j / 2 := ⟨_, rfl⟩
      have hql : q < l.length := by omega
      obtain ⟨s0, s1⟩ := h3 q hql
      obtain ⟨t0, t1⟩ := acells_at hql
      rcases (show j = q * 2 ∨ j = q * 2 + 1 by omega) with e | e
      · subst e
        rw [t0] at hj
        rw [← hj]; exact s0
      · subst e
        rw [t1] at hj
        rw [← hj]; exact s1
    have hlt : 0 < l.length → ad.block < w.heap.size := fun hp => by
      obtain ⟨b, off, h1, h2, _⟩ := hc hp
      injection h1 with h1
      subst h1
      exact h2
    have h1c : ∀ u ∈ l.flatMap acells, u.oneCell' = true := fun u hu => by
      obtain ⟨x, _, hx⟩ := List.mem_flatMap.1 hu
      simp only [acells, List.mem_cons, List.not_mem_nil, or_false] at hx
      rcases hx with rfl | rfl <;> rfl
    have HNW := Lib.hid hnews
    have HLT := Lib.hid hlt
    have hal := acells_len l
    have HAL := Lib.hid hal
    have h1cH := Lib.hid h1c
    obtain ⟨N, hN⟩ : ∃ N, l.length = N := ⟨_, rfl⟩
    have HN := Lib.hid hN
    rw [hN] at hl hle heq ⊢
    clear hc hnews hlt hal hN h1c
    have hnews2 : Hid (∀ j u, (l.flatMap acells)[j]? = some u → (w.alloc (.cells #[] 57)).cell? (ad.add j) = some u) := Lib.hid fun j u hj => by
      have hjl := (List.getElem?_eq_some_iff.1 hj).1
      rw [HAL.out] at hjl
      have hb : (ad.add j).block < w.heap.size := by
        have := HLT.out (by omega)
        unfold Addr.add; split <;> exact this
      exact ((below_al' w _).cell hb).trans (HNW.out j u hj)
    go_enter Tryd.func38, Tryd.ntmps38
    go_wp2_with (at_builtin; refine wpList_append_own _ rfl _ _ 35 rfl w.heap.size 57 i0 (.agg #[.string ⟨#[]⟩, .string ⟨#[]⟩]) 2 32 Tryd.underlying35 hi hz0 hz1 hz2 rfl (by decide) _ _ _ rfl (own_empty w) ad N c (l.flatMap acells) rfl (by rw [HAL.out, HN.out]) hnews2.out h1cH.out (by unfold maxLen; omega) (by omega) (by simp) ?_; intro v' w4 ho4 hg4 _)
    go_ret
    refine ⟨_, rfl, ?_, ?_⟩
    · unfold OwnA
      rw [HN.out]
      simpa using ho4
    · exact (below_al' w _).grown hg4 (by simp) (fun j hj => by injection hj with hj; simp at hj; omega)
def zeroR : RawD := ⟨0, ⟨#[]⟩, ⟨#[]⟩, []⟩
def rawS (es : List NdD) (i : Int) : RawD := if 0 ≤ i then (match es[i.toNat]? with
  | some e => e.raw
  | none => zeroR) else zeroR
theorem raw_at {es : List NdD} {k : Nat} (h : k < es.length) : rawS es k = (es[k]).raw := by
  unfold rawS
  rw [if_pos (by omega), Int.toNat_natCast, List.getElem?_eq_getElem h]
theorem raw_no {es : List NdD} {i : Int} (h : thereS es i = false) : rawS es i = zeroR := by
  unfold rawS
  split
  · have := of_decide_eq_false h
    rw [List.getElem?_eq_none (by omega)]
  · rfl
def NodePost (w : World) (es : List NdD) (i : Int) (e : Ending) (w' : World) : Prop := ∃ v, e = .returned (.tuple #[rawV (rawS es i) v, .bool (thereS es i)]) ∧ OwnA w.heap.size w' v (rawS es i).attrs ∧ Below w.heap.size w w'
abbrev zeroRo : Obj := .cells #[.int .i64 0, .string ⟨#[]⟩, .string ⟨#[]⟩, .slice none 0 0] 37
set_option maxRecDepth 100000 in
set_option maxHeartbeats 1600000 in
theorem node_any {w : World} {tb g c : Nat} {es : List NdD} (h : TreeR w tb g c es) (i : Int) (hl : (rawS es i).attrs.length ≤ 100000000) : Calls Tryd.prog 16 #[tp tb, .int .i64 i] w (NodePost w es i) := by
  have hA := below_al' w zeroRo
  have x0 : (w.alloc zeroRo).heap[w.heap.size]? = some (.cells #[.int .i64 0, .string ⟨#[]⟩, .string ⟨#[]⟩, .slice none 0 0] 37 (0, 0)) := heap_alloc_self w _
  have hT := h.below hA
  have HT := Lib.hid (there_any hT i)
  have hz0 : (w.alloc zeroRo).heap.size = w.heap.size + 1 := by simp
  cases ht : thereS es i with
  | false =>
    have HN := Lib.hid (show thereS es i = false from ht)
    have HR := Lib.hid (raw_no ht)
    rw [ht] at HT
    obtain ⟨r0, r1, r2, r3⟩ := cells_four x0
    have g0 := froz_four (o := 0) x0
    have g1 := froz_four (o := 1) x0
    have g2 := froz_four (o := 2) x0
    have g3 := froz_four (o := 3) x0
    clear h hT ht hl
    go_enter Tryd.func16, Tryd.ntmps16
    go_wp2_with (go_at_call 37; (with_reducible refine HT.out.mono ?_); rintro e w1 ⟨rfl, rfl⟩)
    refine bodyPost_ret (v := .tuple #[rawV zeroR (.slice none 0 0), .bool false]) ?_ rfl ?_
    · simp [results, Tryd.results16, go_sem, zeroR, r0, r1, r2, r3]
    · refine ⟨_, by rw [HN.out, HR.out], by rw [HR.out]; exact World.ownsRow_nil _ _ _ _, ?_⟩
      first | exact hA | exact below_al' w _ | exact ((((hA.setCell (p := ⟨w.heap.size, 0, none⟩) (Nat.le_refl _) _).setCell (p := ⟨w.heap.size, 1, none⟩) (Nat.le_refl _) _).setCell (p := ⟨w.heap.size, 2, none⟩) (Nat.le_refl _) _).setCell (p := ⟨w.heap.size, 3, none⟩) (Nat.le_refl _) _)
  | true =>
    rw [ht] at HT
    obtain ⟨k, rfl, hk⟩ := there_yes ht
    have HN := Lib.hid (show thereS es k = true from ht)
    rw [raw_at hk] at hl
    have HR := Lib.hid (raw_at hk)
    obtain ⟨av, kv, ha, hav, _⟩ := hT.nodes k hk
    have hr := hT.root
    have q0 := ha.c0
    have q1 := ha.c1
    have q2 := ha.c2
    have q3 := ha.c3
    have hlen := h.len
    have hgl := hT.gl
    have hkI : (k : Int) < (es.length : Int) := by omega
    obtain ⟨r, hrr⟩ : ∃ r, (es[k]).raw = r := ⟨_, rfl⟩
    rw [hrr] at q0 q1 q2 hav hl HR
    obtain ⟨a4, n4, c4, hsv⟩ : ∃ a n c, av = .slice a n c := by
      obtain ⟨a, c, h, _⟩ := hav
      exact ⟨_, _, _, h⟩
    subst hsv
    have hB := below_al' (w.alloc zeroRo) (.cells #[.int .i64 r.par, .string r.tag, .string r.text, .slice a4 n4 c4] 37)
    have x1 := heap_alloc_self (w.alloc zeroRo) (.cells #[.int .i64 r.par, .string r.tag, .string r.text, .slice a4 n4 c4] 37)
    rw [hz0] at x1
    have x0' := (hB.block w.heap.size (by simp)).trans x0
    have HC := Lib.hid (cloneA_any (hav.below hB) hl)
    have hsz : ((w.alloc zeroRo).alloc (.cells #[.int .i64 r.par, .string r.tag, .string r.text, .slice a4 n4 c4] 37)).heap.size = w.heap.size + 2 := by simp
    have hAB := dm_seq hA hB
    obtain ⟨s0, s1, s2, s3⟩ := cells_four x1
    clear h hT ht ha hrr hav x0
    go_enter Tryd.func16, Tryd.ntmps16
    go_wp2_with fail
    (with_reducible refine HT.out.mono ?_)
    rintro e w1 ⟨rfl, rfl⟩
    go_upto_region 4 with fail
    generalize (w.alloc zeroRo).alloc (.cells #[.int .i64 r.par, .string r.tag, .string r.text, .slice a4 n4 c4] 37) = W2 at *
    have hW2 : w.heap.size + 2 ≤ W2.heap.size := by omega
    clear hsz hA hB hz0 hgl q0 q1 q2 q3 hr
    go_wp2_with fail
    (with_reducible refine HC.out.mono ?_)
    rintro e w3 ⟨v3, rfl, ho3, hb3⟩
    obtain ⟨a5, n5, c5, rfl⟩ := ho3.sl
    have y1 := (hb3.block _ (Array.getElem?_eq_some_iff.1 x1).1).trans x1
    have y0 := (hb3.block _ (Array.getElem?_eq_some_iff.1 x0').1).trans x0'
    obtain ⟨t0, t1, t2, t3⟩ := cells_four y1
    have f3 := froz_four (o := 3) y1
    obtain ⟨r0, r1, r2, r3⟩ := cells_four y0
    have g0 := froz_four (o := 0) y0
    have g1 := froz_four (o := 1) y0
    have g2 := froz_four (o := 2) y0
    have g3 := froz_four (o := 3) y0
    have hl0 : w.heap.size < w3.heap.size := (Array.getElem?_eq_some_iff.1 y0).1
    have hl1 : w.heap.size + 1 < w3.heap.size := (Array.getElem?_eq_some_iff.1 y1).1
    have h01 : ¬ w.heap.size = w.heap.size + 1 := by omega
    clear x1 x0' y1 y0 s0 s1 s2 s3
    go_wp2
    refine bodyPost_ret (v := .tuple #[rawV r (.slice a5 n5 c5), .bool true]) ?_ rfl ?_
    · simp [results, Tryd.results16, go_sem, r0, r1, r2, r3]
    · refine ⟨_, by rw [HN.out, HR.out], ?_, ?_⟩
      · rw [HR.out]
        refine own_mono (B := W2.heap.size) ?_ (by omega)
        unfold OwnA at ho3 ⊢
        have k1 : w.heap.size + 1 < W2.heap.size := by omega
        have k0 : w.heap.size < W2.heap.size := by omega
        exact ownsRow_setCell_below (ownsRow_setCell_below (ownsRow_setCell_below (ownsRow_setCell_below (ownsRow_setCell_below ho3 (a := ⟨w.heap.size + 1, 3, none⟩) k1 _) (a := ⟨w.heap.size, 0, none⟩) k0 _) (a := ⟨w.heap.size, 1, none⟩) k0 _) (a := ⟨w.heap.size, 2, none⟩) k0 _) (a := ⟨w.heap.size, 3, none⟩) k0 _
      · exact ((((((dm_seq hAB hb3).setCell (Nat.le_succ _) _).setCell (Nat.le_refl _) _).setCell (Nat.le_refl _) _).setCell (Nat.le_refl _) _).setCell (Nat.le_refl _) _)
end Go.Proofs.YtlkfibjbfnaagaaDoor
