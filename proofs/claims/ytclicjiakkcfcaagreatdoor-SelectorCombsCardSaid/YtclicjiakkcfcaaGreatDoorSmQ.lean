import Derived.Test.YtclicjiakkcfcaaGreatDoorSmO
import Derived.Test.YtclicjiakkcfcaaGreatDoorSmI
namespace Go.Proofs.YtclicjiakkcfcaaGreatDoor
open Go.RowKit
def in64 (a : Int) : Prop := -9223372036854775808 ≤ a ∧ a ≤ 9223372036854775807
mutual
def vSm : SmD → Prop
  | .mk _ n o x _ a b l => n.size ≤ 100000000 ∧ o.size ≤ 100000000 ∧ x.size ≤ 100000000 ∧ in64 a ∧ in64 b ∧ vLs l
def vSms : List SmD → Prop
  | [] => True
  | s :: l => vSm s ∧ vSms l
def vCm : CmD → Prop
  | .mk t s => t.size ≤ 100000000 ∧ vSms s
def vCms : List CmD → Prop
  | [] => True
  | c :: l => vCm c ∧ vCms l
def vCx : CxD → Prop
  | .mk p cb _ => vCms p ∧ ∀ x ∈ cb, x.size ≤ 100000000
def vLs : List CxD → Prop
  | [] => True
  | c :: l => vCx c ∧ vLs l
end
theorem vSms_mem : ∀ {l : List SmD}, vSms l → ∀ s ∈ l, vSm s
  | a :: l, h, s, hs => by
   rw [vSms] at h
   simp at hs
   rcases hs with rfl | hs
   · exact h.1
   · exact vSms_mem h.2 s hs
theorem vCms_mem : ∀ {l : List CmD}, vCms l → ∀ s ∈ l, vCm s
  | a :: l, h, s, hs => by
   rw [vCms] at h
   simp at hs
   rcases hs with rfl | hs
   · exact h.1
   · exact vCms_mem h.2 s hs
theorem vLs_mem : ∀ {l : List CxD}, vLs l → ∀ s ∈ l, vCx s
  | a :: l, h, s, hs => by
   rw [vLs] at h
   simp at hs
   rcases hs with rfl | hs
   · exact h.1
   · exact vLs_mem h.2 s hs
def pcDt (p : Pc) : List Dt := [.lf (.string p.1), .sl 3 (cxsDt p.2)]
theorem LsG.pushL {Q : Nat → Prop} {B k : Nat} {T : TypeId} {w w1 : World} {v : Value} {ks es : List (List Value × List Dt)} {g cap n m : Nat} (h : LsG Q B T k w v ks) (hn : ks.length = n) (hm : es.length = m)
    (hown : w1.ownsRow B T k (.slice (some ⟨g, 0, none⟩) (n + m) cap) (n + m) (ks.flatMap Prod.fst ++ es.flatMap Prod.fst))
    (hg : w.grownBy w1 v.ownBlock) (hat : v.ownBlock = some g ∨ g = w.heap.size) (hx : ∀ e ∈ es, CellsOk w (fun b => Q b ∧ v.ownBlock ≠ some b) k e) :
    LsG Q B T k w1 (.slice (some ⟨g, 0, none⟩) (n + m) cap) (ks ++ es) := by
  refine ⟨by rw [List.length_append, List.flatMap_append, hn, hm]; exact hown, fun y hy => ?_⟩
  rw [List.mem_append] at hy
  rcases hy with hy | hy
  · exact ⟨(h.ok y hy).1, (h.ok y hy).2.1, fun i h1 h2 => rdG_push ((h.ok y hy).2.2 i h1 h2) hg hat⟩
  · exact ⟨(hx y hy).1, (hx y hy).2.1, fun i h1 h2 => rdG_push ((hx y hy).2.2 i h1 h2) hg hat⟩
def PcW (B : Nat) (w : World) (v : Value) (ps : List Pc) : Prop := ∃ ks, LsG (fun b => b < B) B 80 2 w v ks ∧ ks.map Prod.snd = ps.map pcDt
theorem info_pc : (Tryz.prog.info? 80).map (fun i => (i.zero, i.size, i.bytes)) = some (some (.agg #[.string ⟨#[]⟩, .slice none 0 0]), 2, 40) := by kernel_rfl
abbrev pcZ : Value := .agg #[.string ⟨#[]⟩, .slice none 0 0]
structure TxOk (g0 : Nat) (K : World → Prop) (tx : Int → Int → ByteArray) : Prop where
  call : ∀ a b w, in64 a → in64 b → K w → Calls Tryz.prog 57 #[.int .i64 a, .int .i64 b] w fun e w' => e = .returned (.string (tx a b)) ∧ Below w.heap.size w w'
  sz : ∀ a b, in64 a → in64 b → (tx a b).size ≤ 100
  keep : ∀ {w w' : World}, K w → (∀ g, g < g0 → w'.heap[g]? = w.heap[g]?) → K w'
  wd : 1 < g0
  el : 0 < g0
structure TabK (g0 : Nat) (K : World → Prop) (w : World) : Prop where
  tab : TabL w
  k : K w
  lt : g0 ≤ w.heap.size
section
variable {g0 B : Nat} {K : World → Prop} {tx : Int → Int → ByteArray} {w w' : World} {v : Value} {ps : List Pc}
theorem TabK.keep (hx : TxOk g0 K tx) (h : TabK g0 K w) (hs : w.heap.size ≤ w'.heap.size) (hk : ∀ g, g < g0 → w'.heap[g]? = w.heap[g]?) : TabK g0 K w' := by
 have hr : ∀ {g : Nat} {cs : List Value}, w.rangeAt g 0 cs → g < g0 → w'.rangeAt g 0 cs := fun {g cs} h hg j u hj => (World.cell?_of_block (w := w) (w' := w') (a := ⟨g, 0 + j, none⟩) (hk g hg)).trans (h j u hj)
 exact ⟨⟨hr h.tab.wd hx.wd, hr h.tab.el hx.el⟩, hx.keep h.k hk, Nat.le_trans h.lt hs⟩
theorem TabK.below (hx : TxOk g0 K tx) (h : TabK g0 K w) (hb : Below w.heap.size w w') : TabK g0 K w' := h.keep hx hb.size fun g hg => hb.block g (Nat.lt_of_lt_of_le hg h.lt)
theorem TabK.grown (hx : TxOk g0 K tx) (h : TabK g0 K w) {row : Option Nat} (hg : w.grownBy w' row) (hr : ∀ q, row = some q → g0 ≤ q) : TabK g0 K w' :=
 h.keep hx hg.size fun g hl => hg.block g (Nat.lt_of_lt_of_le hl h.lt) fun e => by have := hr g e.symm; omega
theorem TabK.word (h : TabK g0 K w) (j : Nat) (hj : j < 14) : w.cell? ⟨1, j, none⟩ = some (.string (klW j)) := by
 have h1 := range_word h.tab.wd j (by exact hj)
 rw [h1]
 unfold klW
 have h2 : klL.getD ((j : Int).toNat) eB = klL[j]'(by exact hj) := by
  rw [Int.toNat_natCast]
  simp [List.getD, List.getElem?_eq_getElem (show j < klL.length from hj)]
 rw [h2]
theorem PcW.nil (B : Nat) (w : World) : PcW B w (.slice none 0 0) [] := ⟨[], LsG.nil _ _ _ _ _, rfl⟩
theorem PcW.len {ks : List (List Value × List Dt)} (h : ks.map Prod.snd = ps.map pcDt) : ks.length = ps.length := by
 have := congrArg List.length h
 rw [List.length_map, List.length_map] at this
 exact this
theorem PcW.below (h : PcW B w v ps) (hb : Below w.heap.size w w') : PcW B w' v ps := by
 obtain ⟨ks, h1, h2⟩ := h
 exact ⟨ks, h1.below hb, h2⟩
theorem PcW.lt (h : PcW B w v ps) : ∀ q, v.ownBlock = some q → B ≤ q ∧ q < w.heap.size := by
 obtain ⟨ks, h1, h2⟩ := h
 exact fun q hq => World.ownsRow.lt h1.row q hq
theorem PcW.shape (h : PcW B w v ps) : ∃ a c, v = .slice a ps.length c ∧ ps.length ≤ c := by
 obtain ⟨ks, h1, h2⟩ := h
 have := row_sl h1.row
 rw [PcW.len h2] at this
 exact this
def PcPost (B : Nat) (w : World) (v : Value) (ps : List Pc) (e : Ending) (w' : World) : Prop := ∃ v', e = .returned v' ∧ PcW B w' v' ps ∧ w.grownBy w' v.ownBlock ∧ (v'.ownBlock = v.ownBlock ∨ ∀ q, v'.ownBlock = some q → w.heap.size ≤ q)
theorem pc_cells {P : Nat → Prop} {t : ByteArray} {lv : Value} {l : List CxD} (h : rdG w P (.sl 3 (cxsDt l)) lv) : CellsOk w P 2 ([Value.string t, lv], pcDt (t, l)) := by
 refine ⟨rfl, rfl, ?_⟩
 intro i h1 h2
 have h2 : i < 2 := h2
 match i, h2 with
 | 0, _ => exact (by rw [rdG] : rdG w P (.lf (.string t)) (.string t))
 | 1, _ => exact h
end
end Go.Proofs.YtclicjiakkcfcaaGreatDoor
