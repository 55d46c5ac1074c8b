
import Derived.Test.YtkpaokcgjeplpaaDoorTkD
import Derived.Test.YtkpaokcgjeplpaaDoorTkU
import Derived.Laws.OwnMore
import Derived.Test.YtkpaokcgjeplpaaDoorTkR
namespace Go.Proofs.YtkpaokcgjeplpaaDoor
open Go.RowKit

/-- A node: a token, with what is in it. -/
inductive Nd where
  | mk (t : Tok) (k : List Nd) : Nd
def Nd.tok : Nd → Tok | .mk t _ => t
def Nd.kids : Nd → List Nd | .mk _ k => k
theorem Nd.eta (n : Nd) : n = .mk n.tok n.kids := by cases n; rfl

/-- The sign that closes what a token opens; 0: it opens nothing. -/
def cloN (t : Tok) : Nat :=
  if t.kind = 2 then 41 else if t.kind ≠ 19 then 0 else
  if (t.text.toList == [40]) = true then 41 else if (t.text.toList == [91]) = true then 93 else if (t.text.toList == [123]) = true then 125 else 0
def cloB (t : Tok) : ByteArray := if t.kind = 2 then ⟨#[41]⟩ else if t.kind ≠ 19 then ⟨#[]⟩ else
  if (t.text.toList == [40]) = true then ⟨#[41]⟩ else if (t.text.toList == [91]) = true then ⟨#[93]⟩ else if (t.text.toList == [123]) = true then ⟨#[125]⟩ else ⟨#[]⟩

/-- What is open: each block's token, with what was found in it; the innermost first. -/
abbrev Stk := List (Tok × List Nd)
def closesS (s : Stk) (t : Tok) : Bool := match s with
  | [] => false
  | (o, _) :: _ => decide (t.kind = 20) && (t.text.toList == (cloB o).toList)
def addS (s : Stk) (n : Nd) : Stk := match s with
  | [] => []
  | (o, k) :: s' => if s'.length + 1 < 32 then (o, k ++ [n]) :: s' else (o, k) :: s'
/-- At the end all that is open is closed. -/
def shutS : Stk → Nd
  | [] => .mk { kind := 0 } []
  | [(o, k)] => .mk o k
  | (o, k) :: (o2, k2) :: s => shutS (if s.length + 1 < 32 then (o2, k2 ++ [.mk o k]) :: s else (o2, k2) :: s)
termination_by s => s.length
decreasing_by all_goals (split <;> simp)
/-- One node, and the tokens behind it. -/
def oneS : Stk → List Tok → Nd × List Tok
  | s, [] => (shutS s, [])
  | s, t :: ts =>
    if closesS s t then (match s with
      | [] => (.mk t [], ts)
      | (o, k) :: s' => if s'.isEmpty then (.mk o k, ts) else oneS (addS s' (.mk o k)) ts)
    else if (cloB t).toList.isEmpty then (if s.isEmpty then (.mk t [], ts) else oneS (addS s (.mk t [])) ts)
    else oneS ((t, []) :: s) ts
termination_by _ ts => ts.length

theorem addS_len (s : Stk) (n : Nd) : (addS s n).length = s.length := by
  unfold addS
  split
  · rfl
  · split <;> rfl
theorem oneS_nil (s : Stk) : oneS s [] = (shutS s, []) := by unfold oneS; rfl
theorem oneS_cons (s : Stk) (t : Tok) (ts : List Tok) : oneS s (t :: ts) =
    if closesS s t then (match s with
      | [] => (.mk t [], ts)
      | (o, k) :: s' => if s'.isEmpty then (.mk o k, ts) else oneS (addS s' (.mk o k)) ts)
    else if (cloB t).toList.isEmpty then (if s.isEmpty then (.mk t [], ts) else oneS (addS s (.mk t [])) ts)
    else oneS ((t, []) :: s) ts := by
  conv => lhs; unfold oneS
theorem oneS_shuts {o : Tok} {k : List Nd} {s : Stk} {t : Tok} {ts : List Tok} (h : closesS ((o, k) :: s) t = true) :
    oneS ((o, k) :: s) (t :: ts) = if s.isEmpty then (.mk o k, ts) else oneS (addS s (.mk o k)) ts := by rw [oneS_cons, if_pos h]
theorem oneS_leaf {s : Stk} {t : Tok} {ts : List Tok} (h : closesS s t = false) (h2 : (cloB t).toList.isEmpty = true) :
    oneS s (t :: ts) = if s.isEmpty then (.mk t [], ts) else oneS (addS s (.mk t [])) ts := by rw [oneS_cons, if_neg (by rw [h]; decide), if_pos h2]
theorem oneS_opens {s : Stk} {t : Tok} {ts : List Tok} (h : closesS s t = false) (h2 : (cloB t).toList.isEmpty = false) :
    oneS s (t :: ts) = oneS ((t, []) :: s) ts := by rw [oneS_cons, if_neg (by rw [h]; decide), if_neg (by rw [h2]; decide)]
theorem oneS_behind : ∀ (ts : List Tok) (t : Tok) (s : Stk), (oneS s (t :: ts)).2 <:+ ts := by
  suffices H : ∀ (ts : List Tok) (s : Stk), (oneS s ts).2 <:+ ts ∧ ∀ t, (oneS s (t :: ts)).2 <:+ ts from fun ts t s => (H ts s).2 t
  intro ts
  induction ts with
  | nil =>
    intro s
    refine ⟨by rw [oneS_nil]; exact List.suffix_refl _, fun t => ?_⟩
    rw [oneS_cons]
    split
    · split
      · exact List.suffix_refl _
      · split
        · exact List.suffix_refl _
        · rw [oneS_nil]; exact List.suffix_refl _
    · split
      · split
        · exact List.suffix_refl _
        · rw [oneS_nil]; exact List.suffix_refl _
      · rw [oneS_nil]; exact List.suffix_refl _
  | cons u ts ih =>
    intro s
    refine ⟨((ih s).2 u).trans (List.suffix_cons _ _), fun t => ?_⟩
    have hc : ∀ s', (oneS s' (u :: ts)).2 <:+ u :: ts := fun s' => ((ih s').2 u).trans (List.suffix_cons _ _)
    rw [oneS_cons]
    split
    · split
      · exact List.suffix_refl _
      · split
        · exact List.suffix_refl _
        · exact hc _
    · split
      · split
        · exact List.suffix_refl _
        · exact hc _
      · exact hc _
theorem oneS_lt (t : Tok) (ts : List Tok) (s : Stk) : (oneS s (t :: ts)).2.length < (t :: ts).length := by
  have := (oneS_behind ts t s).length_le
  simp
  omega
/-- All nodes of tokens. -/
def ndsS (ts : List Tok) : List Nd :=
  match ts with
  | [] => []
  | t :: r => (oneS [] (t :: r)).1 :: ndsS (oneS [] (t :: r)).2
termination_by ts.length
decreasing_by exact oneS_lt _ _ _
theorem ndsS_cons (t : Tok) (r : List Tok) : ndsS (t :: r) = (oneS [] (t :: r)).1 :: ndsS (oneS [] (t :: r)).2 := by
  conv => lhs; unfold ndsS

mutual
/-- How many nodes. -/
def szN : Nd → Nat
  | .mk _ k => 1 + szL k
def szL : List Nd → Nat
  | [] => 0
  | n :: l => szN n + szL l
end
mutual
def dpN : Nd → Nat
  | .mk _ k => 1 + dpL k
/-- How deep. -/
def dpL : List Nd → Nat
  | [] => 0
  | n :: l => max (dpN n) (dpL l)
end
def endT (t : Tok) : List Tok := if (cloB t).toList.isEmpty then [] else [{ kind := 20, text := cloB t }]
mutual
def flN : Nd → List Tok
  | .mk t k => t :: (if (cloB t).toList.isEmpty then [] else flL k ++ [{ kind := 20, text := cloB t }])
/-- Their tokens. -/
def flL : List Nd → List Tok
  | [] => []
  | n :: l => flN n ++ flL l
end
theorem szL_append : ∀ (a b : List Nd), szL (a ++ b) = szL a + szL b
  | [], b => by simp [szL]
  | n :: a, b => by rw [List.cons_append, szL, szL, szL_append a b]; omega
theorem dpL_append : ∀ (a b : List Nd), dpL (a ++ b) = max (dpL a) (dpL b)
  | [], b => by simp [dpL]
  | n :: a, b => by rw [List.cons_append, dpL, dpL, dpL_append a b]; omega
theorem flL_append : ∀ (a b : List Nd), flL (a ++ b) = flL a ++ flL b
  | [], b => by simp [flL]
  | n :: a, b => by rw [List.cons_append, flL, flL, flL_append a b, List.append_assoc]
theorem szL_ge : ∀ l : List Nd, l.length ≤ szL l
  | [] => by simp [szL]
  | .mk t k :: l => by rw [szL, szN]; have := szL_ge l; simp; omega
theorem dpL_ge : ∀ l : List Nd, 0 < l.length → 1 ≤ dpL l
  | [], h => by simp at h
  | .mk t k :: l, _ => by rw [dpL, dpN]; omega
end Go.Proofs.YtkpaokcgjeplpaaDoor
namespace Go.Proofs.YtkpaokcgjeplpaaDoor
open Go.RowKit
/-- A node's seven cells. -/
structure NAt (w : World) (b off : Nat) (t : Tok) (u : Value) : Prop where
  c0 : w.cell? ⟨b, off, none⟩ = some (.int .i64 t.kind)
  c1 : w.cell? ⟨b, off + 1, none⟩ = some (.string t.text)
  c2 : w.cell? ⟨b, off + 2, none⟩ = some (.int .i64 t.int)
  c3 : w.cell? ⟨b, off + 3, none⟩ = some (.bool t.whole)
  c4 : w.cell? ⟨b, off + 4, none⟩ = some (.bool t.sign)
  c5 : w.cell? ⟨b, off + 5, none⟩ = some (.bool t.id)
  c6 : w.cell? ⟨b, off + 6, none⟩ = some u
theorem NAt.move {w w' : World} {b off : Nat} {t : Tok} {u : Value} (h : NAt w b off t u) (hw : w'.heap[b]? = w.heap[b]?) : NAt w' b off t u :=
  ⟨(World.cell?_of_block hw).trans h.c0, (World.cell?_of_block hw).trans h.c1, (World.cell?_of_block hw).trans h.c2, (World.cell?_of_block hw).trans h.c3, (World.cell?_of_block hw).trans h.c4, (World.cell?_of_block hw).trans h.c5, (World.cell?_of_block hw).trans h.c6⟩
/-- A slice of nodes that reads as a list, through blocks for which P holds. -/
inductive RdN (w : World) (P : Nat → Prop) : Value → List Nd → Prop
  | nil (a : Option Addr) (c : Nat) : RdN w P (.slice a 0 c) []
  | cons (b off n c : Nat) (t : Tok) (u : Value) (k l : List Nd) : P b → b < w.heap.size → NAt w b off t u → RdN w P u k → RdN w P (.slice (some ⟨b, off + 7, none⟩) n c) l →
      RdN w P (.slice (some ⟨b, off, none⟩) (n + 1) (c + 1)) (.mk t k :: l)
section
variable {w w' : World} {P Q : Nat → Prop} {v : Value} {l : List Nd}
theorem RdN.move (h : RdN w P v l) (hw : ∀ b, P b → b < w.heap.size → w'.heap[b]? = w.heap[b]?) (hs : w.heap.size ≤ w'.heap.size) : RdN w' P v l := by
  induction h with
  | nil a c => exact .nil a c
  | cons b off n c t u k l hP hb hc _ _ ih1 ih2 => exact .cons b off n c t u k l hP (Nat.lt_of_lt_of_le hb hs) (hc.move (hw b hP hb)) ih1 ih2
theorem RdN.weak (h : RdN w P v l) (hQ : ∀ b, b < w.heap.size → P b → Q b) : RdN w Q v l := by
  induction h with
  | nil a c => exact .nil a c
  | cons b off n c t u k l hP hb hc _ _ ih1 ih2 => exact .cons b off n c t u k l (hQ b hb hP) hb hc ih1 ih2
theorem RdN.drewN (h : RdN w P v l) (n : Nat) : RdN (w.drewN n) P v l := h.move (fun _ _ _ => rfl) (Nat.le_refl _)
theorem RdN.under {B : Nat} (h : RdN w P v l) (hb : Below B w w') (hB : w.heap.size ≤ B) : RdN w' P v l := h.move (fun b _ hl => hb.block b (by omega)) hb.size
theorem RdN.shape (h : RdN w P v l) : ∃ a c, v = .slice a l.length c ∧ l.length ≤ c := by
  induction h with
  | nil a c => exact ⟨a, c, rfl, Nat.zero_le _⟩
  | cons b off n c t u k l _ _ _ _ _ _ ih2 =>
    obtain ⟨a, c', he, hle⟩ := ih2
    injection he with _ h2 h3
    subst h2 h3
    exact ⟨_, _, rfl, by simpa using hle⟩
/-- The j-th node, in memory. -/
theorem RdN.at (h : RdN w P v l) : ∀ j, (hj : j < l.length) → ∃ b off c u, v = .slice (some ⟨b, off, none⟩) l.length c ∧ l.length ≤ c ∧ P b ∧ b < w.heap.size ∧ NAt w b (off + j * 7) (l[j]).tok u ∧ RdN w P u (l[j]).kids := by
  induction h with
  | nil a c => intro j hj; simp at hj
  | cons b off n c t u k l hP hb hc h1 h2 ih1 ih2 =>
    obtain ⟨a, c', he, hle⟩ := h2.shape
    injection he with he1 he2 he3
    subst he2 he3
    intro j hj
    cases j with
    | zero => exact ⟨b, off, c + 1, u, rfl, by simpa using hle, hP, hb, by simpa [Nd.tok] using hc, by simpa [Nd.kids] using h1⟩
    | succ j =>
      obtain ⟨b', off', c'', u', he', hle', hP', hb', hc', hr'⟩ := ih2 j (by simpa using hj)
      injection he' with e1 e2 e3
      injection e1 with e1
      injection e1 with e4 e5
      subst e4 e5
      refine ⟨b, off, c + 1, u', rfl, by simpa using hle, hP, hb, ?_, by simpa using hr'⟩
      rw [show off + (j + 1) * 7 = off + 7 + j * 7 by omega]
      simpa using hc'
/-- Where it begins, for one that is not empty. -/
theorem RdN.base (h : RdN w P v l) (hp : 0 < l.length) : ∃ b off c, v = .slice (some ⟨b, off, none⟩) l.length c ∧ l.length ≤ c ∧ P b ∧ b < w.heap.size ∧ ∀ j, (hj : j < l.length) → ∃ u, NAt w b (off + j * 7) (l[j]).tok u ∧ RdN w P u (l[j]).kids := by
  obtain ⟨b, off, c, u, rfl, hle, hP, hb, _, _⟩ := h.at 0 hp
  refine ⟨b, off, c, rfl, hle, hP, hb, fun j hj => ?_⟩
  obtain ⟨b', off', c', u', he, _, _, _, hn, hr⟩ := h.at j hj
  injection he with e1 _ _
  injection e1 with e1
  injection e1 with e4 e5
  subst e4 e5
  exact ⟨u', hn, hr⟩
theorem RdN.take {a : Option Addr} {n c : Nat} (h : RdN w P (.slice a n c) l) : ∀ k, k ≤ l.length → RdN w P (.slice a k c) (l.take k) := by
  generalize hv : Value.slice a n c = v at h
  induction h generalizing a n c with
  | nil a' c' => intro k hk; simp at hk; subst hk; injection hv with h1 _ h3; subst h1 h3; exact .nil _ _
  | cons b off n' c' t u k' l hP hb hc h1 h2 _ ih2 =>
    injection hv with e1 e2 e3
    subst e1 e3
    intro k hk
    cases k with
    | zero => exact .nil _ _
    | succ k => exact .cons b off k c' t u k' _ hP hb hc h1 (ih2 rfl k (by simpa using hk))
theorem RdN.drop {b off n c : Nat} (h : RdN w P (.slice (some ⟨b, off, none⟩) n c) l) : ∀ k, k ≤ l.length → RdN w P (.slice (some ⟨b, off + k * 7, none⟩) (n - k) (c - k)) (l.drop k) := by
  generalize hv : Value.slice (some ⟨b, off, none⟩) n c = v at h
  induction h generalizing off n c with
  | nil a' c' => intro k hk; simp at hk; subst hk; injection hv with h1 h2 h3; subst h2 h3; simpa using RdN.nil (w := w) (P := P) _ _
  | cons b' off' n' c' t u k' l hP hb hc h1 h2 _ ih2 =>
    injection hv with e1 e2 e3
    injection e1 with e1
    injection e1 with e4 e5
    subst e4 e5 e2 e3
    intro k hk
    cases k with
    | zero => simpa using RdN.cons b off n' c' t u k' l hP hb hc h1 h2
    | succ k =>
      have := ih2 rfl k (by simpa using hk)
      rw [show off + (k + 1) * 7 = off + 7 + k * 7 by omega, Nat.add_sub_add_right, Nat.add_sub_add_right]
      exact this
end
/-- A node as it lies in a row: its token, and where its kids are. -/
abbrev Fl := Tok × Value
def ncells (x : Fl) : List Value := tcells x.1 ++ [x.2]
theorem ncells_len (x : Fl) : (ncells x).length = 7 := rfl
theorem ncellsL_len (l : List Fl) : (l.flatMap ncells).length = l.length * 7 := by
  induction l with
  | nil => rfl
  | cons a l ih => rw [List.flatMap_cons, List.length_append, ih, ncells_len, List.length_cons]; omega
/-- What lies in a row reads as nodes. -/
inductive FlN (w : World) (P : Nat → Prop) : List Fl → List Nd → Prop
  | nil : FlN w P [] []
  | cons (t : Tok) (u : Value) (k : List Nd) (fs : List Fl) (l : List Nd) : RdN w P u k → FlN w P fs l → FlN w P ((t, u) :: fs) (.mk t k :: l)
section
variable {w w' : World} {P Q : Nat → Prop} {fs : List Fl} {l : List Nd}
theorem FlN.len (h : FlN w P fs l) : fs.length = l.length := by
  induction h with
  | nil => rfl
  | cons t u k fs l _ _ ih => simp [ih]
theorem FlN.move (h : FlN w P fs l) (hw : ∀ b, P b → b < w.heap.size → w'.heap[b]? = w.heap[b]?) (hs : w.heap.size ≤ w'.heap.size) : FlN w' P fs l := by
  induction h with
  | nil => exact .nil
  | cons t u k fs l h1 _ ih => exact .cons t u k fs l (h1.move hw hs) ih
theorem FlN.weak (h : FlN w P fs l) (hQ : ∀ b, b < w.heap.size → P b → Q b) : FlN w Q fs l := by
  induction h with
  | nil => exact .nil
  | cons t u k fs l h1 _ ih => exact .cons t u k fs l (h1.weak hQ) ih
theorem FlN.snoc (h : FlN w P fs l) {t : Tok} {u : Value} {k : List Nd} (hk : RdN w P u k) : FlN w P (fs ++ [(t, u)]) (l ++ [.mk t k]) := by
  induction h with
  | nil => exact .cons t u k [] [] hk .nil
  | cons t' u' k' fs l h1 _ ih => exact .cons t' u' k' _ _ h1 ih
/-- Cells in a row, read as nodes. -/
theorem FlN.rd {b c : Nat} (hP : P b) (hb : b < w.heap.size) (h : FlN w P fs l) : ∀ off, l.length ≤ c → (∀ j u, (fs.flatMap ncells)[j]? = some u → w.cell? ⟨b, off + j, none⟩ = some u) → RdN w P (.slice (some ⟨b, off, none⟩) l.length c) l := by
  induction h generalizing c with
  | nil => intro off _ _; exact .nil _ _
  | cons t u k fs l h1 h2 ih =>
    intro off hc hcell
    obtain ⟨c, rfl⟩ : ∃ c', c = c' + 1 := ⟨c - 1, by simp at hc; omega⟩
    refine .cons b off l.length c t u k l hP hb ?_ h1 (ih (off + 7) (by simpa using hc) fun j x hx => ?_)
    · have g : ∀ j x, (ncells (t, u))[j]? = some x → w.cell? ⟨b, off + j, none⟩ = some x := fun j x hx => hcell j x (by
        rw [List.flatMap_cons, List.getElem?_append_left (List.getElem?_eq_some_iff.1 hx).1]; exact hx)
      exact ⟨g 0 _ rfl, g 1 _ rfl, g 2 _ rfl, g 3 _ rfl, g 4 _ rfl, g 5 _ rfl, g 6 _ rfl⟩
    · rw [show off + 7 + j = off + (7 + j) by omega]
      refine hcell _ _ ?_
      rw [List.flatMap_cons, List.getElem?_append_right (by rw [ncells_len]; omega), ncells_len, Nat.add_sub_cancel_left]
      exact hx
/-- .. and back. -/
theorem RdN.flat {v : Value} (h : RdN w P v l) : ∃ fs, FlN w P fs l ∧ ∀ b off n c, v = .slice (some ⟨b, off, none⟩) n c → ∀ j u, (fs.flatMap ncells)[j]? = some u → w.cell? ⟨b, off + j, none⟩ = some u := by
  induction h with
  | nil a c => exact ⟨[], .nil, fun b off n c' _ j u hu => by simp at hu⟩
  | cons b off n c t u k l hP hb hc h1 h2 _ ih2 =>
    obtain ⟨fs, hf, hcell⟩ := ih2
    refine ⟨(t, u) :: fs, .cons t u k fs l h1 hf, ?_⟩
    intro b' off' n' c' he j x hx
    injection he with e1 _ _
    injection e1 with e1
    injection e1 with e4 e5
    subst e4 e5
    rw [List.flatMap_cons] at hx
    by_cases hj : j < 7
    · rw [List.getElem?_append_left (by rw [ncells_len]; exact hj)] at hx
      match j, hj, hx with
      | 0, _, hx => simp [ncells, tcells] at hx; subst hx; exact hc.c0
      | 1, _, hx => simp [ncells, tcells] at hx; subst hx; exact hc.c1
      | 2, _, hx => simp [ncells, tcells] at hx; subst hx; exact hc.c2
      | 3, _, hx => simp [ncells, tcells] at hx; subst hx; exact hc.c3
      | 4, _, hx => simp [ncells, tcells] at hx; subst hx; exact hc.c4
      | 5, _, hx => simp [ncells, tcells] at hx; subst hx; exact hc.c5
      | 6, _, hx => simp [ncells, tcells] at hx; subst hx; exact hc.c6
    · rw [List.getElem?_append_right (by rw [ncells_len]; omega), ncells_len] at hx
      have := hcell b (off + 7) n c rfl (j - 7) x hx
      rw [show off + 7 + (j - 7) = off + j by omega] at this
      exact this
end
/-- A node as a value. -/
abbrev nval (t : Tok) (u : Value) : Value := .agg #[.int .i64 t.kind, .string t.text, .int .i64 t.int, .bool t.whole, .bool t.sign, .bool t.id, u]
theorem info_node : (Tryd.prog.info? 86).map (fun i => (i.zero, i.size, i.bytes)) = some (some (.agg #[.int .i64 0, .string ⟨#[]⟩, .int .i64 0, .bool false, .bool false, .bool false, .slice none 0 0]), 7, 64) := by kernel_rfl
theorem ncells_one (x : Fl) (hx : x.2.oneCell' = true) : ∀ u ∈ ncells x, u.oneCell' = true := by
  intro u hu
  simp only [ncells, List.mem_append, List.mem_singleton] at hu
  rcases hu with hu | rfl
  · exact tcells_one x.1 u hu
  · exact hx
end Go.Proofs.YtkpaokcgjeplpaaDoor
namespace Go.Proofs.YtkpaokcgjeplpaaDoor
open Go.RowKit
theorem ret_str {a b : ByteArray} (h : a = b) : Ending.returned (.string a) = .returned (.string b) := by rw [h]
theorem szL_at : ∀ (l : List Nd) (k : Nat) (h : k < l.length), szL (l[k]).kids + 1 ≤ szL l
  | .mk t q :: l, 0, _ => by show szL q + 1 ≤ _; rw [szL, szN]; omega
  | .mk t q :: l, k + 1, h => by
    have := szL_at l k (by simpa using h)
    rw [szL]
    show szL (l[k]'(by simpa using h)).kids + 1 ≤ _
    omega
end Go.Proofs.YtkpaokcgjeplpaaDoor
namespace Go.Proofs.YtkpaokcgjeplpaaDoor
open Go.RowKit
/-- A row of nodes of the call's own, newer than block number B. -/
def RowF (B : Nat) (w : World) (v : Value) (fs : List Fl) : Prop := w.ownsRow B 86 7 v fs.length (fs.flatMap ncells)
theorem RowF.nil (B : Nat) (w : World) : RowF B w (.slice none 0 0) [] := World.ownsRow_nil _ _ _ _
theorem RowF.block {B : Nat} {w : World} {v : Value} {fs : List Fl} (h : RowF B w v fs) : ∀ k, v.ownBlock = some k → B ≤ k ∧ k < w.heap.size := fun k hk => World.ownsRow.lt h k hk
theorem slice_one {a : Option Addr} {n c : Nat} : (Value.slice a n c).oneCell' = true := rfl
theorem RdN.one {w : World} {P : Nat → Prop} {v : Value} {l : List Nd} (h : RdN w P v l) : v.oneCell' = true := by
  obtain ⟨a, c, rfl, _⟩ := h.shape
  rfl
theorem FlN.one {w : World} {P : Nat → Prop} {fs : List Fl} {l : List Nd} (h : FlN w P fs l) : ∀ u ∈ fs.flatMap ncells, u.oneCell' = true := by
  induction h with
  | nil => intro u hu; simp at hu
  | cons t u k fs l h1 _ ih =>
    intro x hx
    rw [List.flatMap_cons, List.mem_append] at hx
    rcases hx with hx | hx
    · exact ncells_one (t, u) h1.one x hx
    · exact ih x hx
/-- A row reads as nodes. -/
theorem RowF.rd {B : Nat} {w : World} {P : Nat → Prop} {v : Value} {fs : List Fl} {l : List Nd} (h : RowF B w v fs) (hf : FlN w P fs l) (hP : ∀ b, v.ownBlock = some b → P b) : RdN w P v l := by
  have hl := World.ownsRow.lt h
  have hc := fun g hg => World.ownsRow.cells h (g := g) hg
  have hlen := hf.len
  unfold RowF at h
  rcases h.2 with ⟨rfl, h0⟩ | ⟨g, cap, cur, rfl, b, c, d, _⟩
  · have : l = [] := List.eq_nil_of_length_eq_zero (by omega)
    subst this
    exact .nil _ _
  · rw [hlen] at d ⊢
    refine FlN.rd (hP g rfl) (hl g rfl).2 hf 0 d (fun j u hu => ?_)
    have := hc g rfl j u hu
    have hadd : (⟨g, 0, none⟩ : Addr).add j = ⟨g, 0 + j, none⟩ := by unfold Addr.add; split <;> simp_all
    rw [hadd] at this
    exact this
theorem below_grown_none {w w' : World} (h : w.grownBy w' none) : Below w.heap.size w w' := ⟨h.os, h.tape, h.output, h.size, fun k hk => h.block k hk (by simp)⟩
/-- What own answers: a row of its own, of the same nodes. -/
def OwnPost (w : World) (P : Nat → Prop) (l : List Nd) (e : Ending) (w' : World) : Prop := (∃ v' fs, e = .returned v' ∧ FlN w P fs l ∧ RowF w.heap.size w' v' fs) ∧ Below w.heap.size w w'
set_option maxRecDepth 100000 in
set_option maxHeartbeats 1600000 in
theorem own_any {l : List Nd} {v : Value} {w : World} {P : Nat → Prop} (h : RdN w P v l) (hl : l.length ≤ 1000000000) :
    Calls Tryd.prog 101 #[v] w (OwnPost w P l) := by
  obtain ⟨i0, hi, hz0, hz1, hz2⟩ := info_parts info_node
  obtain ⟨fs, hf, hcell⟩ := h.flat
  have hlen := hf.len
  have hone := hf.one
  have ho : w.ownsRow w.heap.size 86 7 (.slice none 0 0) 0 [] := World.ownsRow_nil _ _ _ _
  by_cases hp : 0 < l.length
  · obtain ⟨b, off, c, rfl, hle, _, hb, _⟩ := h.base hp
    have hc2 : ∀ j u, (fs.flatMap ncells)[j]? = some u → w.cell? ((⟨b, off, none⟩ : Addr).add j) = some u := fun j u hu => by
      have hadd : (⟨b, off, none⟩ : Addr).add j = ⟨b, off + j, none⟩ := by unfold Addr.add; split <;> simp_all
      rw [hadd]
      exact hcell b off _ _ rfl j u hu
    clear hcell h
    go_enter Tryd.func101, Tryd.ntmps101
    go_wp2_with (at_builtin; refine wpList_append_own _ rfl _ _ 66 rfl w.heap.size 86 i0 (.agg #[.int .i64 0, .string ⟨#[]⟩, .int .i64 0, .bool false, .bool false, .bool false, .slice none 0 0]) 7 64 Tryd.underlying66 hi hz0 hz1 hz2 rfl (by decide) _ _ _ rfl ho ⟨b, off, none⟩ l.length c (fs.flatMap ncells) rfl (by rw [ncellsL_len, hlen]) hc2 hone (by unfold maxLen; omega) (by omega) (Nat.le_refl _) ?_; intro v' w4 ho4 hg4 _)
    go_ret
    refine ⟨⟨v', fs, rfl, hf, ?_⟩, below_grown_none hg4⟩
    unfold RowF
    rw [hlen]
    simpa using ho4
  · obtain ⟨a, c, rfl, _⟩ := h.shape
    have hl0 : l = [] := List.eq_nil_of_length_eq_zero (by omega)
    subst hl0
    have hfs : fs = [] := List.eq_nil_of_length_eq_zero (by simpa using hlen)
    subst hfs
    clear hcell h hone hp
    cases a with
    | none =>
      go_enter Tryd.func101, Tryd.ntmps101
      go_wp2
      go_ret
      exact ⟨⟨.slice none 0 0, [], rfl, .nil, ho⟩, Below.refl _ _⟩
    | some ad =>
      go_enter Tryd.func101, Tryd.ntmps101
      go_wp2_with (at_builtin; refine wpList_append_own _ rfl _ _ 66 rfl w.heap.size 86 i0 (.agg #[.int .i64 0, .string ⟨#[]⟩, .int .i64 0, .bool false, .bool false, .bool false, .slice none 0 0]) 7 64 Tryd.underlying66 hi hz0 hz1 hz2 rfl (by decide) _ _ _ rfl ho ad 0 c [] rfl rfl (by intro j u hu; simp at hu) (by intro u hu; simp at hu) (by decide) (by decide) (Nat.le_refl _) ?_; intro v' w4 ho4 hg4 _)
      go_ret
      exact ⟨⟨v', [], rfl, .nil, ho4⟩, below_grown_none hg4⟩
end Go.Proofs.YtkpaokcgjeplpaaDoor
namespace Go.Proofs.YtkpaokcgjeplpaaDoor
open Go.RowKit
/-- A block that is open: its token, its kids so far; their row, and what lies in it. -/
structure Ent where
  t : Tok
  k : List Nd
  u : Value
  fs : List Fl
def Ent.fl (e : Ent) : Fl := (e.t, e.u)
/-- A block that nothing open writes into. -/
def Free (B : Nat) (v : Value) (es : List Ent) (b : Nat) : Prop := B ≤ b ∧ v.ownBlock ≠ some b ∧ ∀ e ∈ es, e.u.ownBlock ≠ some b
/-- The stack of what is open, in memory; the outermost first. -/
structure StkM (B : Nat) (w : World) (v : Value) (es : List Ent) : Prop where
  row : RowF B w v (es.map Ent.fl)
  kids : ∀ e ∈ es, RowF B w e.u e.fs ∧ FlN w (Free B v es) e.fs e.k
  dis : es.Pairwise fun a b => ∀ g, a.u.ownBlock = some g → b.u.ownBlock ≠ some g
  top : ∀ e ∈ es, ∀ g, v.ownBlock = some g → e.u.ownBlock ≠ some g
theorem StkM.nil (B : Nat) (w : World) : StkM B w (.slice none 0 0) [] := ⟨RowF.nil B w, fun e he => by simp at he, List.Pairwise.nil, fun e he => by simp at he⟩
theorem RowF.kept {B : Nat} {w w' : World} {v : Value} {fs : List Fl} {row : Option Nat} (h : RowF B w v fs) (hg : w.grownBy w' row) (hne : ∀ g, v.ownBlock = some g → row ≠ some g) : RowF B w' v fs := by
  unfold RowF at h ⊢
  refine h.kept hg ?_
  cases hv : v.ownBlock with
  | none => exact .inl rfl
  | some g => exact .inr fun e => hne g hv e.symm
/-- What lies elsewhere doesn't matter. -/
theorem StkM.keep {B : Nat} {w w' : World} {v : Value} {es : List Ent} {row : Option Nat} (h : StkM B w v es) (hg : w.grownBy w' row) (hr : ∀ k, row = some k → k < B) : StkM B w' v es := by
  have hb : ∀ b, Free B v es b → b < w.heap.size → w'.heap[b]? = w.heap[b]? := fun b hf hl => hg.block b hl fun e => by have := hr b e.symm; have := hf.1; omega
  refine ⟨h.row.kept hg fun g hv e => ?_, fun e he => ⟨(h.kids e he).1.kept hg fun g hv e2 => ?_, (h.kids e he).2.move hb hg.size⟩, h.dis, h.top⟩
  · have := (h.row.block g hv).1; have := hr g e; omega
  · have := ((h.kids e he).1.block g hv).1; have := hr g e2; omega
/-- The nodes that are done already lie where nothing is open. -/
theorem StkM.free_kids {B : Nat} {w : World} {v : Value} {es : List Ent} (h : StkM B w v es) {e : Ent} (he : e ∈ es) : FlN w (fun b => Free B v es b ∧ b < w.heap.size) e.fs e.k := (h.kids e he).2.weak fun _ hl hf => ⟨hf, hl⟩
theorem StkM.push {B : Nat} {w w1 : World} {v v' : Value} {es : List Ent} {t : Tok} (h : StkM B w v es) (ho : RowF B w1 v' (es.map Ent.fl ++ [(t, .slice none 0 0)])) (hg : w.grownBy w1 v.ownBlock)
    (hat : v'.ownBlock = v.ownBlock ∨ ∃ H, v'.ownBlock = some H ∧ w.heap.size ≤ H) : StkM B w1 v' (es ++ [⟨t, [], .slice none 0 0, []⟩]) := by
  have hnew : ∀ b, Free B v es b → b < w.heap.size → v'.ownBlock ≠ some b := fun b hf hl e => by
    rcases hat with hat | ⟨H, hat, hH⟩
    · exact hf.2.1 (hat ▸ e)
    · rw [hat] at e; injection e with e; omega
  refine ⟨by rw [List.map_append]; exact ho, fun e he => ?_, ?_, fun e he g hv => ?_⟩
  · rw [List.mem_append] at he
    rcases he with he | he
    · refine ⟨(h.kids e he).1.kept hg fun g hv e2 => h.top e he g e2 hv, ?_⟩
      have h1 := (h.free_kids he).move (w' := w1) (fun b hb hl => hg.block b hl fun e => hb.1.2.1 e.symm) hg.size
      refine h1.weak fun b _ hb => ⟨hb.1.1, hnew b hb.1 hb.2, fun e2 he2 => ?_⟩
      rw [List.mem_append] at he2
      rcases he2 with he2 | he2
      · exact hb.1.2.2 e2 he2
      · simp at he2; subst he2; simp [Value.ownBlock]
    · simp at he; subst he
      exact ⟨RowF.nil B w1, .nil⟩
  · rw [List.pairwise_append]
    exact ⟨h.dis, List.pairwise_singleton _ _, fun a _ b hb g _ => by simp at hb; subst hb; simp [Value.ownBlock]⟩
  · rw [List.mem_append] at he
    rcases he with he | he
    · intro e2
      have hl := (h.kids e he).1.block g e2
      rcases hat with hat | ⟨H, hat, hH⟩
      · exact h.top e he g (hat ▸ hv) e2
      · rw [hat] at hv; injection hv with hv; omega
    · simp at he; subst he; simp [Value.ownBlock]
/-- A row, cut at its end. -/
theorem RowF.cut {B : Nat} {w : World} {a : Option Addr} {n c : Nat} {fs : List Fl} {x : Fl} (h : RowF B w (.slice a n c) (fs ++ [x])) : RowF B w (.slice a fs.length c) fs := by
  unfold RowF at h ⊢
  refine ⟨ncellsL_len fs, ?_⟩
  rcases h.2 with ⟨_, h0⟩ | ⟨g, cap, cur, hv, hb, hg, hn, hm, hs, ht⟩
  · simp at h0
  · injection hv with e1 _ e3
    subst e1 e3
    refine .inr ⟨g, c, cur, rfl, hb, hg, by simp at hn; omega, hm, hs, ?_⟩
    have h2 := congrArg (List.take (fs.length * 7)) ht
    rw [List.take_take, List.flatMap_append, List.take_left' (ncellsL_len fs), Nat.min_eq_left (by simp; omega)] at h2
    exact h2
theorem StkM.pop {B : Nat} {w : World} {a : Option Addr} {n c : Nat} {es : List Ent} {e : Ent} (h : StkM B w (.slice a n c) (es ++ [e])) :
    StkM B w (.slice a es.length c) es ∧ RdN w (Free B (.slice a es.length c) es) e.u e.k := by
  have hob : (Value.slice a es.length c).ownBlock = (Value.slice a n c).ownBlock := by cases a <;> rfl
  have hrow := h.row
  rw [List.map_append] at hrow
  have hcut := RowF.cut (x := e.fl) hrow
  rw [List.length_map] at hcut
  have hd := List.pairwise_append.1 h.dis
  have hfree : ∀ b, Free B (.slice a n c) (es ++ [e]) b → Free B (.slice a es.length c) es b := fun b hf => ⟨hf.1, hob ▸ hf.2.1, fun e2 he2 => hf.2.2 e2 (List.mem_append_left _ he2)⟩
  have hmem : e ∈ es ++ [e] := by simp
  refine ⟨⟨hcut, fun e2 he2 => ?_, hd.1, fun e2 he2 g hg => h.top e2 (List.mem_append_left _ he2) g (hob ▸ hg)⟩, ?_⟩
  · have := h.kids e2 (List.mem_append_left _ he2)
    exact ⟨this.1, this.2.weak fun b _ hf => hfree b hf⟩
  · refine (h.kids e hmem).1.rd ((h.kids e hmem).2.weak fun b _ hf => hfree b hf) fun b hb => ⟨((h.kids e hmem).1.block b hb).1, ?_, fun e2 he2 => ?_⟩
    · rw [hob]
      intro e2
      exact h.top e hmem b e2 hb
    · intro e3
      exact hd.2.2 e2 he2 e (by simp) b e3 hb
/-- The cells of a stack whose last one's kids have turned. -/
theorem cells_set (fs : List Fl) (t : Tok) (u u' : Value) : ((fs ++ [(t, u)]).flatMap ncells).set (fs.length * 7 + 6) u' = (fs ++ [(t, u')]).flatMap ncells := by
  rw [List.flatMap_append, List.flatMap_append, List.set_append_right _ _ (by rw [ncellsL_len]; omega), ncellsL_len, Nat.add_sub_cancel_left]
  rfl
theorem StkM.add {B g c : Nat} {w w1 : World} {v'' x : Value} {es : List Ent} {e : Ent} {t : Tok} {k : List Nd} (h : StkM B w (.slice (some ⟨g, 0, none⟩) (es.length + 1) c) (es ++ [e]))
    (hn : RdN w (Free B (.slice (some ⟨g, 0, none⟩) (es.length + 1) c) (es ++ [e])) x k) (ho : RowF B w1 v'' (e.fs ++ [(t, x)])) (hg : w.grownBy w1 e.u.ownBlock)
    (hat : v''.ownBlock = e.u.ownBlock ∨ ∃ H, v''.ownBlock = some H ∧ w.heap.size ≤ H) :
    StkM B (w1.setCell ⟨g, es.length * 7 + 6, none⟩ v'') (.slice (some ⟨g, 0, none⟩) (es.length + 1) c) (es ++ [⟨e.t, e.k ++ [.mk t k], v'', e.fs ++ [(t, x)]⟩]) := by
  have hmem : e ∈ es ++ [e] := by simp
  have hd := List.pairwise_append.1 h.dis
  have hgl : g < w.heap.size := (h.row.block g rfl).2
  have hne : e.u.ownBlock ≠ some g := h.top e hmem g rfl
  have hng : v''.ownBlock ≠ some g := fun e2 => by
    rcases hat with hat | ⟨H, hat, hH⟩
    · exact hne (hat ▸ e2)
    · rw [hat] at e2; injection e2 with e2; omega
  have hrow1 : RowF B w1 (.slice (some ⟨g, 0, none⟩) (es.length + 1) c) ((es ++ [e]).map Ent.fl) := h.row.kept hg fun g' hg' e2 => by
    have : g = g' := by simpa [Value.ownBlock] using hg'
    subst this
    exact hne e2
  unfold RowF at hrow1
  rw [List.map_append, List.length_append, List.length_map] at hrow1
  have hst := World.ownsRow.stored hrow1 (es.length * 7 + 6) v''
  have hset := cells_set (es.map Ent.fl) e.t e.u v''
  rw [List.length_map] at hset
  have hkept : ∀ {v : Value} {fs : List Fl}, RowF B w1 v fs → v.ownBlock ≠ some g → RowF B (w1.setCell ⟨g, es.length * 7 + 6, none⟩ v'') v fs := fun hr hv => hr.kept hst.2 fun g' hg' e2 => by
    injection e2 with e2
    subst e2
    exact hv hg'
  -- blocks that nothing writes into, now and then
  have hfree : ∀ b, b < w.heap.size → Free B (.slice (some ⟨g, 0, none⟩) (es.length + 1) c) (es ++ [e]) b → Free B (.slice (some ⟨g, 0, none⟩) (es.length + 1) c) (es ++ [⟨e.t, e.k ++ [.mk t k], v'', e.fs ++ [(t, x)]⟩]) b := fun b hl hf => by
    refine ⟨hf.1, hf.2.1, fun e2 he2 => ?_⟩
    rw [List.mem_append] at he2
    rcases he2 with he2 | he2
    · exact hf.2.2 e2 (List.mem_append_left _ he2)
    · simp at he2
      subst he2
      intro e3
      rcases hat with hat | ⟨H, hat, hH⟩
      · exact hf.2.2 e hmem (hat ▸ e3)
      · have e4 : some H = some b := hat.symm.trans e3
        injection e4 with e4; omega
  have hmove : ∀ b, (Free B (.slice (some ⟨g, 0, none⟩) (es.length + 1) c) (es ++ [e]) b ∧ b < w.heap.size) → (w1.setCell ⟨g, es.length * 7 + 6, none⟩ v'').heap[b]? = w.heap[b]? := fun b hb => by
    rw [hst.2.block b (Nat.lt_of_lt_of_le hb.2 hg.size) fun e2 => hb.1.2.1 (by rw [e2]; rfl)]
    exact hg.block b hb.2 fun e2 => hb.1.2.2 e hmem e2.symm
  have hsz : w.heap.size ≤ (w1.setCell ⟨g, es.length * 7 + 6, none⟩ v'').heap.size := Nat.le_trans hg.size hst.2.size
  have hnew : RdN (w1.setCell ⟨g, es.length * 7 + 6, none⟩ v'') (Free B (.slice (some ⟨g, 0, none⟩) (es.length + 1) c) (es ++ [⟨e.t, e.k ++ [.mk t k], v'', e.fs ++ [(t, x)]⟩])) x k :=
    ((hn.weak (Q := fun b => Free B (.slice (some ⟨g, 0, none⟩) (es.length + 1) c) (es ++ [e]) b ∧ b < w.heap.size) fun b hl hf => ⟨hf, hl⟩).move (fun b hb _ => hmove b hb) hsz).weak fun b _ hb => hfree b hb.2 hb.1
  have hold : ∀ e2 ∈ es ++ [e], FlN (w1.setCell ⟨g, es.length * 7 + 6, none⟩ v'') (Free B (.slice (some ⟨g, 0, none⟩) (es.length + 1) c) (es ++ [⟨e.t, e.k ++ [.mk t k], v'', e.fs ++ [(t, x)]⟩])) e2.fs e2.k := fun e2 he2 =>
    ((h.free_kids he2).move (fun b hb _ => hmove b hb) hsz).weak fun b _ hb => hfree b hb.2 hb.1
  refine ⟨?_, fun e2 he2 => ?_, ?_, fun e2 he2 g' hg' => ?_⟩
  · unfold RowF
    rw [List.map_append, List.length_append, List.length_map]
    have h1 := hst.1
    rw [show [e].map Ent.fl = [(e.t, e.u)] from rfl, hset] at h1
    exact h1
  · rw [List.mem_append] at he2
    rcases he2 with he2 | he2
    · have hm := List.mem_append_left [e] he2
      refine ⟨hkept ((h.kids e2 hm).1.kept hg fun g' hg' e3 => hd.2.2 e2 he2 e (by simp) g' hg' e3) (h.top e2 hm g rfl), hold e2 hm⟩
    · simp at he2
      subst he2
      exact ⟨hkept ho hng, (hold e hmem).snoc hnew⟩
  · rw [List.pairwise_append]
    refine ⟨hd.1, List.pairwise_singleton _ _, fun a ha b hb g' hg' => ?_⟩
    simp at hb
    subst hb
    intro e3
    rcases hat with hat | ⟨H, hat, hH⟩
    · exact hd.2.2 a ha e (by simp) g' hg' (hat ▸ e3)
    · have e4 : some H = some g' := hat.symm.trans e3
      injection e4 with e4
      have := ((h.kids a (List.mem_append_left _ ha)).1.block g' hg').2
      omega
  · have : g = g' := by simpa [Value.ownBlock] using hg'
    subst this
    rw [List.mem_append] at he2
    rcases he2 with he2 | he2
    · exact h.top e2 (List.mem_append_left _ he2) g rfl
    · simp at he2
      subst he2
      exact hng
end Go.Proofs.YtkpaokcgjeplpaaDoor
namespace Go.Proofs.YtkpaokcgjeplpaaDoor
open Go.RowKit
/-! A cell replaced by one that reads alike: nothing that reads through it turns. -/
section
variable {w : World} {P Q : Nat → Prop}
theorem NAt.uniq {b off : Nat} {t t' : Tok} {u u' : Value} (h : NAt w b off t u) (h' : NAt w b off t' u') : t = t' ∧ u = u' := by
  obtain ⟨k, x, n, a, s, i⟩ := t
  obtain ⟨k', x', n', a', s', i'⟩ := t'
  have e0 := h.c0.symm.trans h'.c0
  have e1 := h.c1.symm.trans h'.c1
  have e2 := h.c2.symm.trans h'.c2
  have e3 := h.c3.symm.trans h'.c3
  have e4 := h.c4.symm.trans h'.c4
  have e5 := h.c5.symm.trans h'.c5
  have e6 := h.c6.symm.trans h'.c6
  simp at e0 e1 e2 e3 e4 e5 e6
  subst e0 e1 e2 e3 e4 e5 e6
  exact ⟨rfl, rfl⟩
theorem RdN.uniq {v : Value} {l l' : List Nd} (h : RdN w P v l) (h' : RdN w Q v l') : l = l' := by
  induction h generalizing l' with
  | nil a c =>
    obtain ⟨a', c', he, _⟩ := h'.shape
    injection he with _ e2 _
    exact (List.eq_nil_of_length_eq_zero e2.symm).symm
  | cons b off n c t u k l hP hb hc h1 h2 ih1 ih2 =>
    cases h' with
    | cons _ _ _ _ t' u' k' l' _ _ hc' h1' h2' =>
      obtain ⟨rfl, rfl⟩ := hc.uniq hc'
      rw [ih1 h1', ih2 h2']
theorem cell_other {p q : Addr} {v : Value} (h : p ≠ q) : (w.setCell p v).cell? q = w.cell? q := World.cell?_setCell_other _ _ _ _ h
theorem RdN.alike {p : Addr} {v v' : Value} {k : List Nd} (hc : w.cell? p = some v) (hk : RdN w Q v k) (hk' : RdN w P v' k) :
    ∀ (m : Nat) (l : List Nd) (X : Value), szL l ≤ m → RdN w P X l → RdN (w.setCell p v') P X l := by
  obtain ⟨sa, sc, hsl, _⟩ := hk.shape
  have far : ∀ {q : Addr} {x : Value}, w.cell? q = some x → (∀ a n c, x ≠ .slice a n c) → (w.setCell p v').cell? q = some x := fun {q x} hx hne => by
    by_cases e : p = q
    · subst e
      rw [hc, hsl] at hx
      injection hx with hx
      exact absurd hx.symm (hne _ _ _)
    · rw [cell_other e]; exact hx
  intro m
  induction m with
  | zero =>
    intro l X hl h
    have := szL_ge l
    obtain rfl : l = [] := List.eq_nil_of_length_eq_zero (by omega)
    obtain ⟨a, c, rfl, _⟩ := h.shape
    exact .nil a c
  | succ m ih =>
    intro l X hl h
    induction h with
    | nil a c => exact .nil a c
    | cons b off n c t u q l hP hb hat h1 h2 _ ih2 =>
      rw [szL, szN] at hl
      have hs : (w.setCell p v').heap.size = w.heap.size := by simp [World.setCell]
      have r2 := ih2 (by omega)
      by_cases e : p = ⟨b, off + 6, none⟩
      · have hu : v = u := by
          have := hat.c6
          rw [← e, hc] at this
          injection this
        subst hu
        have hq : q = k := h1.uniq hk
        subst hq
        refine .cons b off n c t v' q l hP (by rw [hs]; exact hb) ⟨far hat.c0 (by simp), far hat.c1 (by simp), far hat.c2 (by simp), far hat.c3 (by simp), far hat.c4 (by simp), far hat.c5 (by simp), ?_⟩ (ih q v' (by omega) hk') r2
        rw [← e]
        exact World.cell?_setCell_same _ _ _ hc
      · refine .cons b off n c t u q l hP (by rw [hs]; exact hb) ⟨far hat.c0 (by simp), far hat.c1 (by simp), far hat.c2 (by simp), far hat.c3 (by simp), far hat.c4 (by simp), far hat.c5 (by simp), ?_⟩ (ih q u (by omega) h1) r2
        rw [cell_other e]
        exact hat.c6
end
end Go.Proofs.YtkpaokcgjeplpaaDoor
namespace Go.Proofs.YtkpaokcgjeplpaaDoor
open Go.RowKit
/-- Does a token close a block that another one opened? -/
def clsB (o t : Tok) : Bool := decide (t.kind = 20) && (t.text.toList == (cloB o).toList)
theorem closesS_cons (o : Tok) (k : List Nd) (s : Stk) (t : Tok) : closesS ((o, k) :: s) t = clsB o t := rfl
theorem clo_kind {t : Tok} (h : (cloB t).toList.isEmpty = false) : t.kind ≠ 20 := by
  intro e
  unfold cloB at h
  rw [if_neg (by omega), if_pos (by omega)] at h
  exact absurd h (by decide +kernel)
/-- What All makes: a block has no end of its own among its nodes; what opens nothing has none. -/
inductive OkN : Nd → Prop
  | leaf (t : Tok) : (cloB t).toList.isEmpty = true → OkN (.mk t [])
  | block (t : Tok) (k : List Nd) : (cloB t).toList.isEmpty = false → (∀ n ∈ k, OkN n) → (∀ n ∈ k, clsB t n.tok = false) → OkN (.mk t k)
def endB (t : Tok) : Tok := { kind := 20, text := cloB t }
theorem cls_end (t : Tok) : clsB t (endB t) = true := by unfold clsB endB; simp
theorem flN_leaf {t : Tok} (h : (cloB t).toList.isEmpty = true) (k : List Nd) : flN (.mk t k) = [t] := by rw [flN, if_pos h]
theorem flN_block {t : Tok} (h : (cloB t).toList.isEmpty = false) (k : List Nd) : flN (.mk t k) = t :: (flL k ++ [endB t]) := by rw [flN, if_neg (by rw [h]; decide)]; rfl
theorem addS_room {o : Tok} {k : List Nd} {s : Stk} (h : s.length + 1 < 32) (n : Nd) : addS ((o, k) :: s) n = (o, k ++ [n]) :: s := by
  show (if s.length + 1 < 32 then (o, k ++ [n]) :: s else (o, k) :: s) = _
  rw [if_pos h]
theorem addS_full {o : Tok} {k : List Nd} {s : Stk} (h : ¬ s.length + 1 < 32) (n : Nd) : addS ((o, k) :: s) n = (o, k) :: s := by
  show (if s.length + 1 < 32 then (o, k ++ [n]) :: s else (o, k) :: s) = _
  rw [if_neg h]
/-- Nodes' tokens, read within a block, are these nodes. -/
theorem run_l : ∀ (m : Nat) (l : List Nd), szL l ≤ m → (∀ x ∈ l, OkN x) → ∀ (o : Tok) (k : List Nd) (s : Stk) (rest : List Tok), (∀ x ∈ l, clsB o x.tok = false) → s.length + 1 + dpL l ≤ 32 →
    oneS ((o, k) :: s) (flL l ++ rest) = oneS ((o, k ++ l) :: s) rest := by
  intro m
  induction m with
  | zero =>
    intro l hl _ o k s rest _ _
    have := szL_ge l
    obtain rfl : l = [] := List.eq_nil_of_length_eq_zero (by omega)
    rw [flL, List.nil_append, List.append_nil]
  | succ m ih =>
    intro l
    induction l with
    | nil => intro _ _ o k s rest _ _; rw [flL, List.nil_append, List.append_nil]
    | cons n l ih2 =>
      intro hl hok o k s rest hc hd
      rw [szL] at hl
      rw [dpL] at hd
      have h1 := hok n (by simp)
      have hc1 := hc n (by simp)
      have hn1 : 1 ≤ szN n := by cases n; rw [szN]; omega
      have step : oneS ((o, k) :: s) (flN n ++ (flL l ++ rest)) = oneS ((o, k ++ [n]) :: s) (flL l ++ rest) := by
        cases h1 with
        | leaf t ht =>
          have hroom : s.length + 1 < 32 := by rw [dpN] at hd; omega
          rw [flN_leaf ht, List.singleton_append, oneS_leaf (by rw [closesS_cons]; exact hc1) ht, if_neg (by simp), addS_room hroom]
        | block t q ht hq1 hq2 =>
          have hdq : dpN (.mk t q) = 1 + dpL q := by rw [dpN]
          rw [szN] at hl
          rw [flN_block ht, List.cons_append, oneS_opens (by rw [closesS_cons]; exact hc1) ht, List.append_assoc, ih q (by omega) hq1 t [] ((o, k) :: s) _ hq2 (by simp; omega), List.nil_append, List.singleton_append]
          rw [oneS_shuts (by rw [closesS_cons]; exact cls_end t), if_neg (by simp), addS_room (by omega)]
      rw [flL, List.append_assoc, step, ih2 (by omega) (fun x hx => hok x (by simp [hx])) o (k ++ [n]) s rest (fun x hx => hc x (by simp [hx])) (by omega), List.append_assoc]
      rfl
theorem one_back (n : Nd) (hok : OkN n) (hd : dpN n ≤ 32) (rest : List Tok) : oneS [] (flN n ++ rest) = (n, rest) := by
  cases hok with
  | leaf t ht => rw [flN_leaf ht, List.singleton_append, oneS_leaf rfl ht, if_pos (by rfl)]
  | block t q ht hq1 hq2 =>
    rw [dpN] at hd
    rw [flN_block ht, List.cons_append, oneS_opens rfl ht, List.append_assoc, run_l (szL q) q (Nat.le_refl _) hq1 t [] [] _ hq2 (by simp; omega), List.nil_append, List.singleton_append, oneS_shuts (by rw [closesS_cons]; exact cls_end t), if_pos (by rfl)]
theorem flN_cons (n : Nd) : ∃ t ts, flN n = t :: ts := by
  obtain ⟨t, k⟩ := n
  exact ⟨t, _, by rw [flN]⟩
theorem nds_back : ∀ l : List Nd, (∀ x ∈ l, OkN x) → dpL l ≤ 32 → ndsS (flL l) = l
  | [], _, _ => by rw [flL]; unfold ndsS; rfl
  | n :: l, hok, hd => by
    rw [dpL] at hd
    obtain ⟨t, ts, ht⟩ := flN_cons n
    have h1 := one_back n (hok n (by simp)) (by omega) (flL l)
    rw [flL]
    rw [ht, List.cons_append] at h1 ⊢
    rw [ndsS_cons, h1, nds_back l (fun x hx => hok x (by simp [hx])) (by omega)]
/-- What is open, as All leaves it. -/
def OkS : Stk → Prop
  | [] => True
  | (o, k) :: s => ((cloB o).toList.isEmpty = false ∧ (∀ n ∈ k, OkN n) ∧ (∀ n ∈ k, clsB o n.tok = false) ∧ (k = [] ∨ s.length + 1 + dpL k ≤ 32)) ∧ OkS s
theorem OkS.node {o : Tok} {k : List Nd} {s : Stk} (h : OkS ((o, k) :: s)) : OkN (.mk o k) ∧ (s.length < 32 → s.length + dpN (.mk o k) ≤ 32) := by
  obtain ⟨⟨h1, h2, h3, h4⟩, _⟩ := h
  refine ⟨.block o k h1 h2 h3, fun hs => ?_⟩
  rw [dpN]
  rcases h4 with rfl | h4
  · rw [dpL]; omega
  · omega
theorem OkS.add {s : Stk} (h : OkS s) {n : Nd} (hn : OkN n) (hc : ∀ o k s', s = (o, k) :: s' → clsB o n.tok = false) (hd : s.length < 32 → s.length + dpN n ≤ 32) : OkS (addS s n) := by
  cases s with
  | nil => exact h
  | cons p s =>
    obtain ⟨o, k⟩ := p
    obtain ⟨⟨h1, h2, h3, h4⟩, h5⟩ := h
    by_cases hl : s.length + 1 < 32
    · rw [addS_room hl]
      refine ⟨⟨h1, fun x hx => ?_, fun x hx => ?_, .inr ?_⟩, h5⟩
      · rw [List.mem_append] at hx
        rcases hx with hx | hx
        · exact h2 x hx
        · simp at hx; subst hx; exact hn
      · rw [List.mem_append] at hx
        rcases hx with hx | hx
        · exact h3 x hx
        · simp at hx; subst hx; exact hc o k s rfl
      · have hd2 := hd (by simp; omega)
        rw [dpL_append]
        simp only [dpL, List.length_cons] at hd2 ⊢
        rcases h4 with rfl | h4
        · simp only [dpL]; omega
        · omega
    · rw [addS_full hl]
      exact ⟨⟨h1, h2, h3, h4⟩, h5⟩
theorem blockN {t : Tok} {k : List Nd} (hb : (cloB t).toList.isEmpty = false) (o : Tok) : clsB o (Nd.mk t k).tok = false := by
  have := clo_kind hb
  unfold clsB Nd.tok
  simp [this]
theorem shut_ok : ∀ (m : Nat) (s : Stk), s.length = m → 0 < m → OkS s → OkN (shutS s) ∧ dpN (shutS s) ≤ 32
  | 0, _, _, h, _ => absurd h (by decide)
  | 1, s, hs, _, hok => by
    obtain ⟨p, rfl⟩ := List.length_eq_one_iff.1 hs
    obtain ⟨o, k⟩ := p
    unfold shutS
    have := hok.node
    exact ⟨this.1, by have := this.2 (by simp); simpa using this⟩
  | m + 2, s, hs, _, hok => by
    cases s with
    | nil => simp at hs
    | cons p s =>
      cases s with
      | nil => simp at hs
      | cons q s =>
        obtain ⟨o, k⟩ := p
        obtain ⟨o2, k2⟩ := q
        have e : shutS ((o, k) :: (o2, k2) :: s) = shutS (addS ((o2, k2) :: s) (.mk o k)) := by
          conv => lhs; unfold shutS
          unfold addS
          rfl
        rw [e]
        have hn := hok.node
        refine shut_ok (m + 1) _ (by rw [addS_len]; simpa using hs) (by omega) ?_
        exact hok.2.add hn.1 (fun o' _ _ _ => blockN hok.1.1 o') (fun hl => hn.2 hl)
theorem one_ok : ∀ (ts : List Tok) (s : Stk), OkS s → (0 < s.length ∨ 0 < ts.length) → OkN (oneS s ts).1 ∧ dpN (oneS s ts).1 ≤ 32
  | [], s, h, hp => by
    rw [oneS_nil]
    exact shut_ok s.length s rfl (by simpa using hp) h
  | t :: ts, s, h, _ => by
    by_cases hc : closesS s t = true
    · cases s with
      | nil => exact absurd hc (by simp [closesS])
      | cons p s =>
        obtain ⟨o, k⟩ := p
        rw [oneS_shuts hc]
        have hn := h.node
        split
        · rename_i he
          obtain rfl : s = [] := by simpa using he
          exact ⟨hn.1, by have := hn.2 (by simp); simpa using this⟩
        · rename_i he
          refine one_ok ts _ (h.2.add hn.1 (fun o' _ _ _ => blockN h.1.1 o') (fun hl => hn.2 hl)) (.inl ?_)
          rw [addS_len]
          exact List.length_pos_iff.2 (by simpa using he)
    · have hc : closesS s t = false := by simpa using hc
      by_cases hb : (cloB t).toList.isEmpty = true
      · rw [oneS_leaf hc hb]
        split
        · exact ⟨.leaf t hb, by rw [dpN, dpL]; omega⟩
        · rename_i he
          refine one_ok ts _ (h.add (.leaf t hb) (fun o k s' e => by subst e; exact hc) (fun hl => by rw [dpN, dpL]; omega)) (.inl ?_)
          rw [addS_len]
          exact List.length_pos_iff.2 (by simpa using he)
      · have hb : (cloB t).toList.isEmpty = false := by simpa using hb
        rw [oneS_opens hc hb]
        exact one_ok ts _ ⟨⟨hb, by intro n hn; simp at hn, by intro n hn; simp at hn, .inl rfl⟩, h⟩ (.inl (by simp))
theorem nds_ok : ∀ (m : Nat) (ts : List Tok), ts.length ≤ m → (∀ x ∈ ndsS ts, OkN x) ∧ dpL (ndsS ts) ≤ 32
  | _, [], _ => by
    have e : ndsS [] = [] := by unfold ndsS; rfl
    rw [e]
    exact ⟨by intro x hx; simp at hx, by rw [dpL]; omega⟩
  | 0, t :: ts, h => by simp at h
  | m + 1, t :: ts, h => by
    rw [ndsS_cons]
    have h1 := one_ok (t :: ts) [] trivial (.inr (by simp))
    have hlt := oneS_lt t ts []
    have h2 := nds_ok m (oneS [] (t :: ts)).2 (by simp at hlt h; omega)
    refine ⟨fun x hx => ?_, by rw [dpL]; omega⟩
    rw [List.mem_cons] at hx
    rcases hx with rfl | hx
    · exact h1.1
    · exact h2.1 x hx
/-- There and back. -/
theorem nds_flat (ts : List Tok) : ndsS (flL (ndsS ts)) = ndsS ts := by
  have h := nds_ok ts.length ts (Nat.le_refl _)
  exact nds_back _ h.1 h.2
end Go.Proofs.YtkpaokcgjeplpaaDoor
namespace Go.Proofs.YtkpaokcgjeplpaaDoor
open Go.RowKit
/-! Trim and Split, as plain lists. -/
def isWh (n : Nd) : Bool := decide (n.tok.kind = 13)
def isCm (n : Nd) : Bool := decide (n.tok.kind = 18)
theorem snocInd {α : Type} {P : List α → Prop} (h0 : P []) (h1 : ∀ l n, P l → P (l ++ [n])) (l : List α) : P l := by
  suffices ∀ (m : Nat) (l : List α), l.length = m → P l from this _ l rfl
  intro m
  induction m with
  | zero => intro l hl; obtain rfl := List.eq_nil_of_length_eq_zero hl; exact h0
  | succ m ih =>
    intro l hl
    rcases List.eq_nil_or_concat l with rfl | ⟨l', n, rfl⟩
    · simp at hl
    · rw [List.concat_eq_append] at hl ⊢
      exact h1 _ _ (ih _ (by simpa using hl))
/-- Without white at the front. -/
def trA : List Nd → List Nd
  | [] => []
  | n :: l => if isWh n then trA l else n :: l
/-- How many are left when the white at the end is away. -/
def trN : List Nd → Nat
  | [] => 0
  | n :: l => if trN l = 0 then (if isWh n then 0 else 1) else trN l + 1
theorem trN_le : ∀ l : List Nd, trN l ≤ l.length
  | [] => by simp [trN]
  | n :: l => by
    have := trN_le l
    rw [trN]
    split
    · split <;> simp
    · simp; omega
def trZ (l : List Nd) : List Nd := l.take (trN l)
def trimS (l : List Nd) : List Nd := trZ (trA l)
theorem trN_snoc_wh : ∀ (l : List Nd) (n : Nd), isWh n = true → trN (l ++ [n]) = trN l
  | [], n, h => by simp [trN, h]
  | m :: l, n, h => by rw [List.cons_append, trN, trN, trN_snoc_wh l n h]
theorem trN_snoc_not : ∀ (l : List Nd) (n : Nd), isWh n = false → trN (l ++ [n]) = l.length + 1
  | [], n, h => by simp [trN, h]
  | m :: l, n, h => by rw [List.cons_append, trN, trN_snoc_not l n h]; simp
theorem trZ_snoc_wh (l : List Nd) (n : Nd) (h : isWh n = true) : trZ (l ++ [n]) = trZ l := by
  unfold trZ
  rw [trN_snoc_wh l n h, List.take_append_of_le_length (trN_le l)]
theorem trZ_snoc_not (l : List Nd) (n : Nd) (h : isWh n = false) : trZ (l ++ [n]) = l ++ [n] := by
  unfold trZ
  rw [trN_snoc_not l n h]
  exact List.take_of_length_le (by simp)
theorem trA_drop : ∀ l : List Nd, ∃ k, k ≤ l.length ∧ trA l = l.drop k
  | [] => ⟨0, by simp, rfl⟩
  | n :: l => by
    rw [trA]
    split
    · obtain ⟨k, h1, h2⟩ := trA_drop l
      exact ⟨k + 1, by simp; omega, by rw [h2]; rfl⟩
    · exact ⟨0, by simp, rfl⟩
/-- What is trimmed has no white in front, nor at the end. -/
theorem trA_head (l : List Nd) : ∀ n m, trA l = n :: m → isWh n = false := by
  induction l with
  | nil => intro n m h; simp [trA] at h
  | cons a l ih =>
    intro n m h
    rw [trA] at h
    split at h
    · exact ih n m h
    · rename_i hw
      injection h with h1 _
      subst h1
      simpa using hw
theorem trA_id : ∀ l : List Nd, (∀ n m, l = n :: m → isWh n = false) → trA l = l
  | [], _ => rfl
  | n :: m, h => by rw [trA, if_neg (by rw [h n m rfl]; decide)]
theorem trZ_id_of (l : List Nd) : trZ (trZ l) = trZ l := by
  induction l using snocInd with
  | h0 => rfl
  | h1 l n ih =>
    by_cases h : isWh n = true
    · rw [trZ_snoc_wh l n h, ih]
    · have h : isWh n = false := by simpa using h
      rw [trZ_snoc_not l n h, trZ_snoc_not l n h]
theorem trZ_head (l : List Nd) (h : ∀ n m, l = n :: m → isWh n = false) : ∀ n m, trZ l = n :: m → isWh n = false := by
  intro n m e
  cases l with
  | nil => simp [trZ, trN] at e
  | cons a l =>
    unfold trZ at e
    cases hk : trN (a :: l) with
    | zero => rw [hk] at e; simp at e
    | succ k =>
      rw [hk, List.take_succ_cons] at e
      injection e with e1 _
      subst e1
      exact h a l rfl
/-- Trimmed again, it is the same. -/
theorem trim_trim (l : List Nd) : trimS (trimS l) = trimS l := by
  unfold trimS
  rw [trA_id (trZ (trA l)) (trZ_head _ (trA_head l)), trZ_id_of]
theorem dp_white {n : Nd} (h : OkN n) (hw : isWh n = true) : dpN n = 1 := by
  cases h with
  | leaf t _ => rw [dpN, dpL]
  | block t k hb _ _ =>
    have hk : t.kind = 13 := of_decide_eq_true hw
    unfold cloB at hb
    rw [if_neg (by omega), if_pos (by omega)] at hb
    exact absurd hb (by decide +kernel)
theorem dp_trA : ∀ l : List Nd, (∀ n ∈ l, OkN n) → trA l ≠ [] → dpL (trA l) = dpL l
  | [], _, h => absurd rfl h
  | n :: l, hok, h => by
    rw [trA] at h ⊢
    split at h
    · rename_i hw
      rw [if_pos hw, dp_trA l (fun x hx => hok x (by simp [hx])) h, dpL, dp_white (hok n (by simp)) hw]
      have : 1 ≤ dpL l := dpL_ge l (by cases l with | nil => exact absurd rfl h | cons => simp)
      omega
    · rename_i hw
      rw [if_neg hw]
theorem dp_trZ (l : List Nd) : (∀ n ∈ l, OkN n) → trZ l ≠ [] → dpL (trZ l) = dpL l := by
  induction l using snocInd with
  | h0 => intro _ _; rfl
  | h1 l n ih =>
    intro hok h
    by_cases hw : isWh n = true
    · rw [trZ_snoc_wh l n hw] at h ⊢
      rw [ih (fun x hx => hok x (by simp [hx])) h, dpL_append, dpL, dpL, dp_white (hok n (by simp)) hw]
      have : 1 ≤ dpL l := dpL_ge l (by cases l with | nil => exact absurd rfl h | cons => simp)
      omega
    · have hw : isWh n = false := by simpa using hw
      rw [trZ_snoc_not l n hw]
/-- How deep it is does not hang on it. -/
theorem dp_trim (l : List Nd) (hok : ∀ n ∈ l, OkN n) (h : trimS l ≠ []) : dpL (trimS l) = dpL l := by
  have hA : trA l ≠ [] := fun e => h (by unfold trimS; rw [e]; rfl)
  unfold trimS at h ⊢
  obtain ⟨k, _, hk⟩ := trA_drop l
  rw [dp_trZ _ (fun x hx => hok x (by rw [hk] at hx; exact List.mem_of_mem_drop hx)) h, dp_trA l hok hA]
/-- Parts between commas; `now` is the part under way. -/
def splA : List Nd → List Nd → List (List Nd)
  | now, [] => [now]
  | now, n :: l => if isCm n then now :: splA [] l else splA (now ++ [n]) l
def splS (l : List Nd) : List (List Nd) := splA [] l
def cmN (l : List Nd) : Nat := (l.filter isCm).length
theorem splA_len : ∀ (l now : List Nd), (splA now l).length = cmN l + 1
  | [], now => rfl
  | n :: l, now => by
    rw [splA]
    by_cases h : isCm n = true
    · rw [if_pos h, List.length_cons, splA_len l []]; unfold cmN; rw [List.filter_cons, if_pos h, List.length_cons]
    · rw [if_neg h, splA_len l]; unfold cmN; rw [List.filter_cons, if_neg h]
theorem splS_len (l : List Nd) : (splS l).length = cmN l + 1 := splA_len l []
/-- Put together again with commas. -/
def joinC (c : Nd) : List (List Nd) → List Nd
  | [] => []
  | [p] => p
  | p :: q :: ps => p ++ c :: joinC c (q :: ps)
theorem splA_ne (l now : List Nd) : ∃ p ps, splA now l = p :: ps := by
  have := splA_len l now
  cases h : splA now l with
  | nil => rw [h] at this; simp at this
  | cons p ps => exact ⟨p, ps, rfl⟩
theorem join_splA (c : Nd) : ∀ (l now : List Nd), (∀ n ∈ l, isCm n = true → n = c) → joinC c (splA now l) = now ++ l
  | [], now, _ => by rw [splA, joinC, List.append_nil]
  | n :: l, now, h => by
    have hl : ∀ m ∈ l, isCm m = true → m = c := fun m hm => h m (by simp [hm])
    rw [splA]
    by_cases hc : isCm n = true
    · rw [if_pos hc]
      obtain ⟨p, ps, e⟩ := splA_ne l []
      have hj := join_splA c l [] hl
      rw [e] at hj ⊢
      rw [joinC, hj, h n (by simp) hc, List.nil_append]
    · rw [if_neg hc, join_splA c l _ hl, List.append_assoc]
      rfl
theorem join_split (c : Nd) (l : List Nd) (h : ∀ n ∈ l, isCm n = true → n = c) : joinC c (splS l) = l := join_splA c l [] h
end Go.Proofs.YtkpaokcgjeplpaaDoor
namespace Go.Proofs.YtkpaokcgjeplpaaDoor
open Go.RowKit
/-! Which tokens Tokens makes, and where All's nodes have theirs from. -/
/-- What reads as a token may be: a comma has nothing else to it. -/
def FineT (t : Tok) : Prop := t.kind = 18 → t = { kind := 18 }
theorem fine_mark (a : Int) : FineT (markT a) := by
  unfold FineT markT
  split
  · intro _; rfl
  repeat' split
  all_goals (intro h; exact absurd h (by simp))
theorem fine_q {k1 k2 : Int} (h1 : k1 ≠ 18) (h2 : k2 ≠ 18) (X : Bool × List Int × List Int) : FineT (tokQ k1 k2 X) := by
  unfold FineT tokQ
  split
  · intro h; exact absurd h h1
  · intro h; exact absurd h h2
theorem fine_url (n : ByteArray) (r : List Int) : FineT (urlT n r).1 := by
  unfold urlT
  split
  · intro h; exact absurd h (by simp)
  · exact fine_q (by decide) (by decide) _
theorem fine_ident (r : List Int) : FineT (identT r).1 := by
  unfold identT
  split
  · intro h; exact absurd h (by simp)
  split
  · exact fine_url _ _
  · intro h; exact absurd h (by simp)
theorem fine_hash (r : List Int) : FineT (hashT r).1 := by
  unfold hashT
  split
  · intro h; exact absurd h (by simp)
  · exact fine_mark _
theorem fine_at (r : List Int) : FineT (atT r).1 := by
  unfold atT
  split
  · intro h; exact absurd h (by simp)
  · exact fine_mark _
theorem fine_number (r : List Int) : FineT (numberT r).1 := by
  unfold numberT
  repeat' split
  all_goals (intro h; exact absurd h (by simp))
theorem fine_tok (r : List Int) : FineT (tokT r).1 := by
  unfold tokT
  split
  · intro h; exact absurd h (by simp)
  split
  · exact fine_q (by decide) (by decide) _
  split
  · exact fine_hash _
  split
  · exact fine_at _
  split
  · exact fine_number _
  split
  · intro h; exact absurd h (by simp)
  split
  · intro h; exact absurd h (by simp)
  split
  · exact fine_ident _
  · exact fine_mark _
theorem fine_toks (r : List Int) : ∀ t ∈ toks r, FineT t := by
  induction r using toks.induct with
  | case1 r h => intro t ht; rw [toks, dif_pos h] at ht; simp at ht
  | case2 r h ih =>
    intro t ht
    rw [toks, dif_neg h, List.mem_cons] at ht
    rcases ht with rfl | ht
    · exact fine_tok _
    · exact ih t ht
/-- The outermost block's token. -/
def outT : Stk → Tok
  | [] => { kind := 0 }
  | [(o, _)] => o
  | _ :: p :: s => outT (p :: s)
theorem outT_cons (p : Tok × List Nd) {s : Stk} (h : s ≠ []) : outT (p :: s) = outT s := by
  cases s with
  | nil => exact absurd rfl h
  | cons q s => rw [outT]
theorem outT_add (s : Stk) (n : Nd) : outT (addS s n) = outT s := by
  cases s with
  | nil => rfl
  | cons p s =>
    obtain ⟨o, k⟩ := p
    by_cases hl : s.length + 1 < 32
    · rw [addS_room hl]
      cases s with
      | nil => rfl
      | cons q s => rw [outT, outT]
    · rw [addS_full hl]
theorem outT_shut : ∀ (m : Nat) (s : Stk), s.length = m → 0 < m → (shutS s).tok = outT s
  | 0, _, _, h => absurd h (by decide)
  | 1, s, hs, _ => by
    obtain ⟨p, rfl⟩ := List.length_eq_one_iff.1 hs
    obtain ⟨o, k⟩ := p
    unfold shutS
    rfl
  | m + 2, s, hs, _ => by
    cases s with
    | nil => simp at hs
    | cons p s =>
      cases s with
      | nil => simp at hs
      | cons q s =>
        obtain ⟨o, k⟩ := p
        obtain ⟨o2, k2⟩ := q
        have e : shutS ((o, k) :: (o2, k2) :: s) = shutS (addS ((o2, k2) :: s) (.mk o k)) := by
          conv => lhs; unfold shutS
          unfold addS
          rfl
        rw [e, outT_shut (m + 1) _ (by rw [addS_len]; simpa using hs) (by omega), outT_add, outT]
theorem one_out : ∀ (ts : List Tok) (s : Stk), s ≠ [] → (oneS s ts).1.tok = outT s
  | [], s, h => by
    rw [oneS_nil]
    exact outT_shut s.length s rfl (List.length_pos_iff.2 h)
  | t :: ts, s, h => by
    have ha : ∀ (s' : Stk) (n : Nd), s' ≠ [] → addS s' n ≠ [] := fun s' n h' => by
      have := List.length_pos_iff.2 h'
      exact List.length_pos_iff.1 (by rw [addS_len]; exact this)
    by_cases hc : closesS s t = true
    · cases s with
      | nil => exact absurd rfl h
      | cons p s =>
        obtain ⟨o, k⟩ := p
        rw [oneS_shuts hc]
        split
        · rename_i he
          obtain rfl : s = [] := by simpa using he
          rfl
        · rename_i he
          have he : s ≠ [] := by simpa using he
          rw [one_out ts _ (ha s _ he), outT_add, outT_cons _ he]
    · have hc : closesS s t = false := by simpa using hc
      by_cases hb : (cloB t).toList.isEmpty = true
      · rw [oneS_leaf hc hb, if_neg (by simpa using h), one_out ts _ (ha s _ h), outT_add]
      · have hb : (cloB t).toList.isEmpty = false := by simpa using hb
        rw [oneS_opens hc hb, one_out ts _ (by simp), outT_cons _ h]
theorem one_tok (t : Tok) (ts : List Tok) : (oneS [] (t :: ts)).1.tok = t := by
  have hc : closesS [] t = false := rfl
  by_cases hb : (cloB t).toList.isEmpty = true
  · rw [oneS_leaf hc hb, if_pos (by rfl)]; rfl
  · have hb : (cloB t).toList.isEmpty = false := by simpa using hb
    rw [oneS_opens hc hb, one_out ts _ (by simp)]; rfl
theorem one_rest : ∀ (ts : List Tok) (s : Stk), (oneS s ts).2 <:+ ts
  | [], s => by rw [oneS_nil]; exact List.suffix_refl _
  | t :: ts, s => by
    by_cases hc : closesS s t = true
    · cases s with
      | nil => exact absurd hc (by simp [closesS])
      | cons p s =>
        obtain ⟨o, k⟩ := p
        rw [oneS_shuts hc]
        split
        · exact List.suffix_cons t ts
        · exact (one_rest ts _).trans (List.suffix_cons t ts)
    · have hc : closesS s t = false := by simpa using hc
      by_cases hb : (cloB t).toList.isEmpty = true
      · rw [oneS_leaf hc hb]
        split
        · exact List.suffix_cons t ts
        · exact (one_rest ts _).trans (List.suffix_cons t ts)
      · have hb : (cloB t).toList.isEmpty = false := by simpa using hb
        rw [oneS_opens hc hb]
        exact (one_rest ts _).trans (List.suffix_cons t ts)
/-- A node's token is one of those read. -/
theorem nds_tok : ∀ (m : Nat) (ts : List Tok), ts.length ≤ m → ∀ n ∈ ndsS ts, n.tok ∈ ts
  | _, [], _ => by
    have e : ndsS [] = [] := by unfold ndsS; rfl
    rw [e]
    intro n hn; simp at hn
  | 0, t :: ts, h => by simp at h
  | m + 1, t :: ts, h => by
    intro n hn
    rw [ndsS_cons, List.mem_cons] at hn
    rcases hn with rfl | hn
    · rw [one_tok]; simp
    · have hlt := oneS_lt t ts []
      exact (one_rest (t :: ts) []).subset (nds_tok m _ (by simp at hlt h; omega) n hn)
/-- A comma among a text's nodes is no more than that. -/
theorem nds_comma (r : List Int) : ∀ n ∈ ndsS (toks r), isCm n = true → n = .mk { kind := 18 } [] := by
  intro n hn hc
  have hk : n.tok.kind = 18 := of_decide_eq_true hc
  have ht := fine_toks r n.tok (nds_tok _ _ (Nat.le_refl _) n hn) hk
  have hok := (nds_ok _ (toks r) (Nat.le_refl _)).1 n hn
  cases hok with
  | leaf t hl => rw [← ht]; rfl
  | block t k hb _ _ =>
    have hk : t.kind = 18 := hk
    unfold cloB at hb
    rw [if_neg (by omega), if_pos (by omega)] at hb
    exact absurd hb (by decide +kernel)
/-- Split and put together again: what it was. -/
theorem nds_join (r : List Int) : joinC (.mk { kind := 18 } []) (splS (ndsS (toks r))) = ndsS (toks r) := join_split _ _ (nds_comma r)
end Go.Proofs.YtkpaokcgjeplpaaDoor
namespace Go.Proofs.YtkpaokcgjeplpaaDoor
open Go.RowKit
/-! So many blocks within each other, and no more: the machine on openings, one token, closings. -/
section
variable {o x : Tok}
/-- What stands in the block of level j with d more within it. -/
def kd (o x : Tok) : Nat → Nat → List Nd
  | 0, j => if j < 32 then [.mk x []] else []
  | d + 1, j => if j < 32 then [.mk o (kd o x d (j + 1))] else []
theorem kd_dp (o x : Tok) : ∀ d j : Nat, dpL (kd o x d j) = min (d + 1) (32 - j)
  | 0, j => by
    rw [kd]
    split
    · rw [dpL, dpN, dpL]; omega
    · rw [dpL]; omega
  | d + 1, j => by
    rw [kd]
    split
    · rw [dpL, dpN, kd_dp o x d (j + 1)]; simp only [dpL]; omega
    · rw [dpL]; omega
abbrev opn (o : Tok) (j : Nat) : Stk := List.replicate j (o, [])
theorem open_run (ho : (cloB o).toList.isEmpty = false) : ∀ (m i : Nat) (rest : List Tok), oneS (opn o i) (List.replicate m o ++ rest) = oneS (opn o (i + m)) rest
  | 0, i, rest => by simp
  | m + 1, i, rest => by
    have hc : closesS (opn o i) o = false := by
      have := clo_kind ho
      cases i with
      | zero => rfl
      | succ i => rw [opn, List.replicate_succ, closesS_cons]; unfold clsB; simp [this]
    have e : (o, []) :: opn o i = opn o (i + 1) := by rw [opn, opn, List.replicate_succ]
    rw [List.replicate_succ, List.cons_append, oneS_opens hc ho, e, open_run ho m (i + 1) rest]
    congr 2
    omega
theorem add_opn (j : Nat) (n : Nd) : addS (opn o (j + 1)) n = (o, if j + 1 < 32 then [n] else []) :: opn o j := by
  rw [opn, List.replicate_succ]
  by_cases h : j + 1 < 32
  · rw [addS_room (by simpa using h), if_pos h]; rfl
  · rw [addS_full (by simpa using h), if_neg h]
theorem close_run : ∀ (j d : Nat) (rest : List Tok), oneS ((o, kd o x d (j + 1)) :: opn o j) (List.replicate (j + 1) (endB o) ++ rest) = (.mk o (kd o x (d + j) 1), rest)
  | 0, d, rest => by
    rw [List.replicate_succ, List.cons_append, oneS_shuts (by rw [closesS_cons]; exact cls_end o), if_pos (by rfl)]
    rfl
  | j + 1, d, rest => by
    rw [List.replicate_succ, List.cons_append, oneS_shuts (by rw [closesS_cons]; exact cls_end o), if_neg (by rw [opn, List.replicate_succ]; simp), add_opn]
    have e : (if j + 1 < 32 then [Nd.mk o (kd o x d (j + 1 + 1))] else []) = kd o x (d + 1) (j + 1) := by rw [kd]
    rw [e, close_run j (d + 1) rest]
    congr 3
    omega
/-- The whole of it, one block at least. -/
theorem deep_run (ho : (cloB o).toList.isEmpty = false) (hx : (cloB x).toList.isEmpty = true) (hk : x.kind ≠ 20) (n : Nat) (rest : List Tok) :
    oneS [] (List.replicate (n + 1) o ++ (x :: (List.replicate (n + 1) (endB o) ++ rest))) = (.mk o (kd o x n 1), rest) := by
  have h0 := open_run ho (n + 1) 0 (x :: (List.replicate (n + 1) (endB o) ++ rest))
  have e0 : opn o 0 = [] := rfl
  rw [e0] at h0
  rw [h0, Nat.zero_add]
  have hc : closesS (opn o (n + 1)) x = false := by rw [opn, List.replicate_succ, closesS_cons]; unfold clsB; simp [hk]
  rw [oneS_leaf hc hx, if_neg (by rw [opn, List.replicate_succ]; simp), add_opn]
  have e : (if n + 1 < 32 then [Nd.mk x []] else []) = kd o x 0 (n + 1) := by rw [kd]
  rw [e, close_run n 0 rest, Nat.zero_add]
theorem deep_nds (ho : (cloB o).toList.isEmpty = false) (hx : (cloB x).toList.isEmpty = true) (hk : x.kind ≠ 20) (n : Nat) (rest : List Tok) :
    ndsS (List.replicate n o ++ (x :: (List.replicate n (endB o) ++ rest))) = (match n with | 0 => .mk x [] | n + 1 => .mk o (kd o x n 1)) :: ndsS rest := by
  cases n with
  | zero =>
    show ndsS (x :: rest) = _
    rw [ndsS_cons, oneS_leaf (s := []) rfl hx, if_pos (by rfl)]
  | succ n =>
    have h := deep_run ho hx hk n rest
    rw [List.replicate_succ, List.cons_append] at h ⊢
    rw [ndsS_cons, h]
theorem deep_dp (n : Nat) : dpN (match n with | 0 => Nd.mk x [] | n + 1 => .mk o (kd o x n 1)) = min (n + 1) 32 := by
  cases n with
  | zero => rw [dpN, dpL]; omega
  | succ n => show dpN (.mk o (kd o x n 1)) = _; rw [dpN, kd_dp]; omega
/-- Down through the blocks: one node each, down to the last that is kept. -/
theorem kd_down (d j : Nat) (h : j < 32) : ∃ t k, kd o x d j = [.mk t k] ∧ (d = 0 → t = x ∧ k = []) ∧ (∀ e, d = e + 1 → t = o ∧ k = kd o x e (j + 1)) := by
  cases d with
  | zero => exact ⟨x, [], by rw [kd, if_pos h], fun _ => ⟨rfl, rfl⟩, fun e h => by omega⟩
  | succ d => exact ⟨o, kd o x d (j + 1), by rw [kd, if_pos h], fun h => by omega, fun e h => (by injection h with h; subst h; exact ⟨rfl, rfl⟩)⟩
theorem kd_last (d j : Nat) (h : 32 ≤ j) : kd o x d j = [] := by
  cases d with
  | zero => rw [kd, if_neg (by omega)]
  | succ d => rw [kd, if_neg (by omega)]
end
end Go.Proofs.YtkpaokcgjeplpaaDoor
namespace Go.Proofs.YtkpaokcgjeplpaaDoor
open Go.RowKit
/-! No more nodes than tokens. -/
def szK : Stk → Nat
  | [] => 0
  | (_, k) :: s => 1 + szL k + szK s
theorem szK_add (s : Stk) (n : Nd) : szK (addS s n) ≤ szK s + szN n := by
  cases s with
  | nil => simp [addS, szK]
  | cons p s =>
    obtain ⟨o, k⟩ := p
    by_cases h : s.length + 1 < 32
    · rw [addS_room h, szK, szK, szL_append]
      have e : szL [n] = szN n := by rw [szL, szL]; omega
      omega
    · rw [addS_full h]; omega
theorem szK_shut : ∀ (m : Nat) (s : Stk), s.length = m → 0 < m → szN (shutS s) ≤ szK s
  | 0, _, _, h => absurd h (by decide)
  | 1, s, hs, _ => by
    obtain ⟨p, rfl⟩ := List.length_eq_one_iff.1 hs
    obtain ⟨o, k⟩ := p
    unfold shutS
    rw [szN, szK, szK]
    omega
  | m + 2, s, hs, _ => by
    cases s with
    | nil => simp at hs
    | cons p s =>
      cases s with
      | nil => simp at hs
      | cons q s =>
        obtain ⟨o, k⟩ := p
        obtain ⟨o2, k2⟩ := q
        have e : shutS ((o, k) :: (o2, k2) :: s) = shutS (addS ((o2, k2) :: s) (.mk o k)) := by
          conv => lhs; unfold shutS
          unfold addS
          rfl
        rw [e]
        have h1 := szK_shut (m + 1) (addS ((o2, k2) :: s) (.mk o k)) (by rw [addS_len]; simpa using hs) (by omega)
        have h2 := szK_add ((o2, k2) :: s) (.mk o k)
        have h3 : szN (.mk o k) = 1 + szL k := by rw [szN]
        have h4 : szK ((o, k) :: (o2, k2) :: s) = 1 + szL k + szK ((o2, k2) :: s) := by rw [szK]
        omega
theorem szK_one : ∀ (ts : List Tok) (s : Stk), (0 < s.length ∨ 0 < ts.length) → szN (oneS s ts).1 + (oneS s ts).2.length ≤ szK s + ts.length
  | [], s, h => by
    rw [oneS_nil]
    have := szK_shut s.length s rfl (by simpa using h)
    simpa using this
  | t :: ts, s, _ => by
    have e0 : szN (.mk t []) = 1 := by rw [szN, szL]
    by_cases hc : closesS s t = true
    · cases s with
      | nil => exact absurd hc (by simp [closesS])
      | cons p s =>
        obtain ⟨o, k⟩ := p
        have h3 : szN (.mk o k) = 1 + szL k := by rw [szN]
        rw [oneS_shuts hc, szK]
        split
        · simp only [List.length_cons]; omega
        · rename_i he
          have h1 := szK_one ts (addS s (.mk o k)) (.inl (by rw [addS_len]; exact List.length_pos_iff.2 (by simpa using he)))
          have h2 := szK_add s (.mk o k)
          simp only [List.length_cons]
          omega
    · have hc : closesS s t = false := by simpa using hc
      by_cases hb : (cloB t).toList.isEmpty = true
      · rw [oneS_leaf hc hb]
        split
        · simp only [List.length_cons]; omega
        · rename_i he
          have h1 := szK_one ts (addS s (.mk t [])) (.inl (by rw [addS_len]; exact List.length_pos_iff.2 (by simpa using he)))
          have h2 := szK_add s (.mk t [])
          simp only [List.length_cons]
          omega
      · have hb : (cloB t).toList.isEmpty = false := by simpa using hb
        rw [oneS_opens hc hb]
        have h1 := szK_one ts ((t, []) :: s) (.inl (by simp))
        have e1 : szK ((t, []) :: s) = 1 + szK s := by rw [szK, szL]
        simp only [List.length_cons]
        omega
theorem szL_nds : ∀ (m : Nat) (ts : List Tok), ts.length ≤ m → szL (ndsS ts) ≤ ts.length
  | _, [], _ => by
    have e : ndsS [] = [] := by unfold ndsS; rfl
    rw [e, szL]; simp
  | 0, t :: ts, h => by simp at h
  | m + 1, t :: ts, h => by
    have hlt := oneS_lt t ts []
    have h1 := szK_one (t :: ts) [] (.inr (by simp))
    have h2 := szL_nds m (oneS [] (t :: ts)).2 (by simp at hlt h; omega)
    rw [ndsS_cons, szL]
    have e0 : szK [] = 0 := rfl
    omega
end Go.Proofs.YtkpaokcgjeplpaaDoor
