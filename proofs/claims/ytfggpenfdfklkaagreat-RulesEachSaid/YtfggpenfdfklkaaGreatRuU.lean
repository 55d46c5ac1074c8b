
import Derived.Test.YtfggpenfdfklkaaGreatRuM
import Derived.Test.YtfggpenfdfklkaaGreatRuS
import Derived.Test.YtfggpenfdfklkaaGreatTxZ
import Derived.Test.YtfggpenfdfklkaaGreatNsJ
import Derived.Test.YtfggpenfdfklkaaGreatTkU
namespace Go.Proofs.YtfggpenfdfklkaaGreat
open Go.RowKit
/-! Package rules: a sheet. -/
theorem LsRu.gw {Q : Nat → Prop} {B b : Nat} {w w' : World} {v : Value} {ks : List (Rc × RuleD)} (h : LsRu Q B w v ks) (hg : Gw b w w') (hQ : ∀ k, Q k → k ≠ b) (hB : b < B) : LsRu Q B w' v ks := by
  have hlt := h.row.lt
  refine ⟨h.row.kept hg (by
    cases hv : v.ownBlock with
    | none => exact .inl rfl
    | some g =>
      refine .inr ?_
      have := (hlt g hv).1
      simp
      omega), fun x hx => ⟨(h.ok x hx).atw, (h.ok x hx).pre.move (fun k hk hl => hg.block k hl (fun e => hQ k hk.1 (Option.some.inj e))) hg.size, (h.ok x hx).block, (h.ok x hx).decls.move (fun k hk hl => hg.block k hl (fun e => hQ k hk.1 (Option.some.inj e))) hg.size⟩⟩
/-- What holds at the head of Sheet's loop: the walk's box is the block behind the world wn. -/
structure ShW (w4 w0 : World) (v : Value) (l : List Nd) (i : Nat) (wr : World) (ov : Value) (ks : List (Rc × RuleD)) : Prop where
  wn : WN (fun b => b < w4.heap.size) w0 w4.heap.size v l i wr
  row : LsRu (fun b => b < w4.heap.size ∨ w4.heap.size + 1 ≤ b) (w4.heap.size + 1) wr ov ks
  len : ks.length ≤ i
  few : ks.length ≤ 500
  run : ks.map Prod.snd ++ rulesS (l.drop i) = rulesS l
  stop : atP prT l i = false
theorem sheet_box {w : World} {v : Value} {l : List Nd} (h : RdN w (fun b => b < w.heap.size) v l) : WN (fun b => b < w.heap.size) (w.alloc (.cells #[v, .int .i64 0] 62)) w.heap.size v l 0 (w.alloc (.cells #[v, .int .i64 0] 62)) :=
  ⟨box_wk w v, Gw.refl _ _, (by show _ < (w.heap.push _).size; rw [Array.size_push]; omega), h.under ((Below.refl w.heap.size w).alloc (Nat.le_refl _) _) (Nat.le_refl _), fun k hk => by omega, Nat.zero_le _⟩
theorem next_gt {l : List Nd} {i : Nat} (hi : i < l.length) (_h1 : atP prT l i = false) : i < nextP l i := by
  have h2 := passP_ge (p := notT (endP l i)) (l := l) (i := begP l i)
  have h3 : i ≤ begP l i := by unfold begP; split <;> omega
  unfold nextP
  by_cases ha : atP awT l i = true
  · have h4 : begP l i = i + 1 := by unfold begP; rw [if_pos ha]
    have h5 : i + 1 ≤ stopP l i := by unfold stopP; omega
    split <;> omega
  · have h4 : begP l i = i := by unfold begP; rw [if_neg ha]
    have h5 : endP l i = blkT := by unfold endP; rw [if_neg ha]
    by_cases hb : atP blkT l i = true
    · have h6 : stopP l i = i := by
        unfold stopP
        rw [h4, h5]
        exact passP_no (by rw [atP_not hi, hb]; rfl)
      rw [h6, if_pos hb]
      omega
    · have h6 : i + 1 ≤ stopP l i := by
        unfold stopP
        rw [h4, h5, ← passP_yes (by rw [atP_not hi, show atP blkT l i = false by simpa using hb]; rfl)]
        exact passP_ge
      split <;> omega
/-- What a sheet's rules come to. -/
def shR (rs : List RuleD) : List RuleD := if rs.length ≤ 500 then rs else []
def shE (rs : List RuleD) : Int := if rs.length ≤ 500 then 0 else 3
def SheetP (w : World) (rs : List RuleD) (e : Ending) (w' : World) : Prop := (∃ v', e = .returned (.tuple #[v', .int .i64 (shE rs)]) ∧ RdRu w' AllB v' (shR rs)) ∧ Below w.heap.size w w'
theorem lowS_len (s : ByteArray) : (lowS s).size = s.size := by
  unfold lowS
  rw [strOfNums_size, List.length_map, nums_length]
theorem toList_len (s : ByteArray) : s.toList.length = s.size := by
  rw [toList_dataZ, Array.length_toList]
  rfl
theorem low_empty (s : ByteArray) : (lowS s).toList.isEmpty = s.toList.isEmpty := by
  have h1 := toList_len s
  have h2 := toList_len (lowS s)
  rw [lowS_len] at h2
  cases hs : s.toList with
  | nil =>
    rw [hs] at h1
    rw [← h1] at h2
    rw [List.length_nil] at h2
    rw [List.eq_nil_of_length_eq_zero h2]
  | cons a t =>
    rw [hs] at h1
    rw [← h1] at h2
    cases hl : (lowS s).toList with
    | nil => rw [hl] at h2; simp at h2
    | cons b u => rfl
theorem ok_is {l : List Nd} {i : Nat} (hi : i < l.length) (hn : ∀ n ∈ l, namB n.tok = true) : okP l i = (atP awT l i || atP blkT l (stopP l i)) := by
  unfold okP ruleP
  simp only
  by_cases ha : atP awT l i = true
  · rw [if_pos ha, ha, Bool.true_or, low_empty, tokAt_lt hi]
    have h := hn _ (List.getElem_mem hi)
    rw [atP_lt hi] at ha
    unfold namB at h
    unfold awT at ha
    rw [ha] at h
    rw [show (!l[i].tok.text.toList.isEmpty) = true by simpa using h, Bool.or_true]
  · rw [if_neg ha, show atP awT l i = false by simpa using ha, Bool.false_or]
    show (_ || !(List.isEmpty _)) = _
    rw [show (⟨#[]⟩ : ByteArray).toList = [] by decide +kernel]
    simp
end Go.Proofs.YtfggpenfdfklkaaGreat
