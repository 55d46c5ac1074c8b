import Derived.Test.YtclicjiakkcfcaaGreatDoorTkD
import Derived.Test.YtclicjiakkcfcaaGreatDoorTkU
import Derived.Laws.OwnMore
import Derived.Test.YtclicjiakkcfcaaGreatDoorTkR
set_option maxRecDepth 100000
set_option maxHeartbeats 1600000
namespace Go.Proofs.YtclicjiakkcfcaaGreatDoor
open Go.RowKit
inductive Nd where
  | mk (t : Tok) (k : List Nd) : Nd
def Nd.tok : Nd → Tok | .mk t _ => t
def Nd.kids : Nd → List Nd | .mk _ k => k
theorem Nd.eta (n : Nd) : n = .mk n.tok n.kids := by cases n; rfl
def cloB (t : Tok) : ByteArray := if t.kind = 2 then ⟨#[41]⟩ else if t.kind ≠ 19 then ⟨#[]⟩ else
 if (t.text.toList == [40]) = true then ⟨#[41]⟩ else if (t.text.toList == [91]) = true then ⟨#[93]⟩ else if (t.text.toList == [123]) = true then ⟨#[125]⟩ else ⟨#[]⟩
abbrev Stk := List (Tok × List Nd)
def closesS (s : Stk) (t : Tok) : Bool := match s with
 | [] => false
 | (o, _) :: _ => decide (t.kind = 20) && (t.text.toList == (cloB o).toList)
def addS (s : Stk) (n : Nd) : Stk := match s with
 | [] => []
 | (o, k) :: s' => if s'.length + 1 < 32 then (o, k ++ [n]) :: s' else (o, k) :: s'
def shutS : Stk → Nd
  | [] => .mk { kind := 0 } []
  | [(o, k)] => .mk o k
  | (o, k) :: (o2, k2) :: s => shutS (if s.length + 1 < 32 then (o2, k2 ++ [.mk o k]) :: s else (o2, k2) :: s)
termination_by s => s.length
decreasing_by all_goals (split <;> simp)
def oneS : Stk → List Tok → Nd × List Tok
  | s, [] => (shutS s, [])
  | s, t :: ts =>
   if closesS s t then (match s with
    | [] => (.mk t [], ts)
    | (o, k) :: s' => if s'.isEmpty then (.mk o k, ts) else oneS (addS s' (.mk o k)) ts)
   else if (cloB t).toList.isEmpty then (if s.isEmpty then (.mk t [], ts) else oneS (addS s (.mk t [])) ts)
   else oneS ((t, []) :: s) ts
termination_by _ ts => ts.length
theorem addS_len (s : Stk) (n : Nd) : (addS s n).length = s.length := by
 unfold addS
 split
 · rfl
 · split <;> rfl
theorem oneS_nil (s : Stk) : oneS s [] = (shutS s, []) := by unfold oneS; rfl
theorem oneS_cons (s : Stk) (t : Tok) (ts : List Tok) : oneS s (t :: ts) =
    if closesS s t then (match s with
     | [] => (.mk t [], ts)
     | (o, k) :: s' => if s'.isEmpty then (.mk o k, ts) else oneS (addS s' (.mk o k)) ts)
    else if (cloB t).toList.isEmpty then (if s.isEmpty then (.mk t [], ts) else oneS (addS s (.mk t [])) ts)
    else oneS ((t, []) :: s) ts := by
  conv => lhs; unfold oneS
theorem oneS_shuts {o : Tok} {k : List Nd} {s : Stk} {t : Tok} {ts : List Tok} (h : closesS ((o, k) :: s) t = true) :
    oneS ((o, k) :: s) (t :: ts) = if s.isEmpty then (.mk o k, ts) else oneS (addS s (.mk o k)) ts := by rw [oneS_cons, if_pos h]
theorem oneS_leaf {s : Stk} {t : Tok} {ts : List Tok} (h : closesS s t = false) (h2 : (cloB t).toList.isEmpty = true) :
    oneS s (t :: ts) = if s.isEmpty then (.mk t [], ts) else oneS (addS s (.mk t [])) ts := by rw [oneS_cons, if_neg (by rw [h]; decide), if_pos h2]
theorem oneS_opens {s : Stk} {t : Tok} {ts : List Tok} (h : closesS s t = false) (h2 : (cloB t).toList.isEmpty = false) :
    oneS s (t :: ts) = oneS ((t, []) :: s) ts := by rw [oneS_cons, if_neg (by rw [h]; decide), if_neg (by rw [h2]; decide)]
theorem oneS_behind : ∀ (ts : List Tok) (t : Tok) (s : Stk), (oneS s (t :: ts)).2 <:+ ts := by
 suffices H : ∀ (ts : List Tok) (s : Stk), (oneS s ts).2 <:+ ts ∧ ∀ t, (oneS s (t :: ts)).2 <:+ ts from fun ts t s => (H ts s).2 t
 intro ts
 induction ts with
 | nil =>
  intro s
  refine ⟨by rw [oneS_nil]; exact List.suffix_refl _, fun t => ?_⟩
  rw [oneS_cons]
  split
  · split
    · exact List.suffix_refl _
    · split
      · exact List.suffix_refl _
      · rw [oneS_nil]; exact List.suffix_refl _
  · split
    · split
      · exact List.suffix_refl _
      · rw [oneS_nil]; exact List.suffix_refl _
    · rw [oneS_nil]; exact List.suffix_refl _
 | cons u ts ih =>
  intro s
  refine ⟨((ih s).2 u).trans (List.suffix_cons _ _), fun t => ?_⟩
  have hc : ∀ s', (oneS s' (u :: ts)).2 <:+ u :: ts := fun s' => ((ih s').2 u).trans (List.suffix_cons _ _)
  rw [oneS_cons]
  split
  · split
    · exact List.suffix_refl _
    · split
      · exact List.suffix_refl _
      · exact hc _
  · split
    · split
      · exact List.suffix_refl _
      · exact hc _
    · exact hc _
theorem oneS_lt (t : Tok) (ts : List Tok) (s : Stk) : (oneS s (t :: ts)).2.length < (t :: ts).length := by
 have := (oneS_behind ts t s).length_le
 simp
 omega
def ndsS (ts : List Tok) : List Nd :=
 match ts with
 | [] => []
 | t :: r => (oneS [] (t :: r)).1 :: ndsS (oneS [] (t :: r)).2
termination_by ts.length
decreasing_by exact oneS_lt _ _ _
theorem ndsS_cons (t : Tok) (r : List Tok) : ndsS (t :: r) = (oneS [] (t :: r)).1 :: ndsS (oneS [] (t :: r)).2 := by
 conv => lhs; unfold ndsS
mutual
def szN : Nd → Nat
  | .mk _ k => 1 + szL k
def szL : List Nd → Nat
  | [] => 0
  | n :: l => szN n + szL l
end
mutual
def dpN : Nd → Nat
  | .mk _ k => 1 + dpL k
def dpL : List Nd → Nat
  | [] => 0
  | n :: l => max (dpN n) (dpL l)
end
mutual
def flN : Nd → List Tok
  | .mk t k => t :: (if (cloB t).toList.isEmpty then [] else flL k ++ [{ kind := 20, text := cloB t }])
def flL : List Nd → List Tok
  | [] => []
  | n :: l => flN n ++ flL l
end
theorem szL_append : ∀ (a b : List Nd), szL (a ++ b) = szL a + szL b
  | [], b => by simp [szL]
  | n :: a, b => by rw [List.cons_append, szL, szL, szL_append a b]; omega
theorem szL_ge : ∀ l : List Nd, l.length ≤ szL l
  | [] => by simp [szL]
  | .mk t k :: l => by rw [szL, szN]; have := szL_ge l; simp; omega
structure NAt (w : World) (b off : Nat) (t : Tok) (u : Value) : Prop where
  c0 : w.cell? ⟨b, off, none⟩ = some (.int .i64 t.kind)
  c1 : w.cell? ⟨b, off + 1, none⟩ = some (.string t.text)
  c2 : w.cell? ⟨b, off + 2, none⟩ = some (.int .i64 t.int)
  c3 : w.cell? ⟨b, off + 3, none⟩ = some (.bool t.whole)
  c4 : w.cell? ⟨b, off + 4, none⟩ = some (.bool t.sign)
  c5 : w.cell? ⟨b, off + 5, none⟩ = some (.bool t.id)
  c6 : w.cell? ⟨b, off + 6, none⟩ = some u
theorem NAt.move {w w' : World} {b off : Nat} {t : Tok} {u : Value} (h : NAt w b off t u) (hw : w'.heap[b]? = w.heap[b]?) : NAt w' b off t u :=
 ⟨(World.cell?_of_block hw).trans h.c0, (World.cell?_of_block hw).trans h.c1, (World.cell?_of_block hw).trans h.c2, (World.cell?_of_block hw).trans h.c3, (World.cell?_of_block hw).trans h.c4, (World.cell?_of_block hw).trans h.c5, (World.cell?_of_block hw).trans h.c6⟩
inductive RdN (w : World) (P : Nat → Prop) : Value → List Nd → Prop
  | nil (a : Option Addr) (c : Nat) : RdN w P (.slice a 0 c) []
  | cons (b off n c : Nat) (t : Tok) (u : Value) (k l : List Nd) : P b → b < w.heap.size → NAt w b off t u → RdN w P u k → RdN w P (.slice (some ⟨b, off + 7, none⟩) n c) l →
      RdN w P (.slice (some ⟨b, off, none⟩) (n + 1) (c + 1)) (.mk t k :: l)
section
variable {w w' : World} {P Q : Nat → Prop} {v : Value} {l : List Nd}
theorem RdN.move (h : RdN w P v l) (hw : ∀ b, P b → b < w.heap.size → w'.heap[b]? = w.heap[b]?) (hs : w.heap.size ≤ w'.heap.size) : RdN w' P v l := by
 induction h with
 | nil a c => exact .nil a c
 | cons b off n c t u k l hP hb hc _ _ ih1 ih2 => exact .cons b off n c t u k l hP (Nat.lt_of_lt_of_le hb hs) (hc.move (hw b hP hb)) ih1 ih2
theorem RdN.weak (h : RdN w P v l) (hQ : ∀ b, b < w.heap.size → P b → Q b) : RdN w Q v l := by
 induction h with
 | nil a c => exact .nil a c
 | cons b off n c t u k l hP hb hc _ _ ih1 ih2 => exact .cons b off n c t u k l (hQ b hb hP) hb hc ih1 ih2
theorem RdN.drewN (h : RdN w P v l) (n : Nat) : RdN (w.drewN n) P v l := h.move (fun _ _ _ => rfl) (Nat.le_refl _)
theorem RdN.under {B : Nat} (h : RdN w P v l) (hb : Below B w w') (hB : w.heap.size ≤ B) : RdN w' P v l := h.move (fun b _ hl => hb.block b (by omega)) hb.size
theorem RdN.shape (h : RdN w P v l) : ∃ a c, v = .slice a l.length c ∧ l.length ≤ c := by
 induction h with
 | nil a c => exact ⟨a, c, rfl, Nat.zero_le _⟩
 | cons b off n c t u k l _ _ _ _ _ _ ih2 =>
  obtain ⟨a, c', he, hle⟩ := ih2
  injection he with _ h2 h3
  subst h2 h3
  exact ⟨_, _, rfl, by simpa using hle⟩
theorem RdN.at (h : RdN w P v l) : ∀ j, (hj : j < l.length) → ∃ b off c u, v = .slice (some ⟨b, off, none⟩) l.length c ∧ l.length ≤ c ∧ P b ∧ b < w.heap.size ∧ NAt w b (off + j * 7) (l[j]).tok u ∧ RdN w P u (l[j]).kids := by
 induction h with
 | nil a c => intro j hj; simp at hj
 | cons b off n c t u k l hP hb hc h1 h2 ih1 ih2 =>
  obtain ⟨a, c', he, hle⟩ := h2.shape
  injection he with he1 he2 he3
  subst he2 he3
  intro j hj
  cases j with
  | zero => exact ⟨b, off, c + 1, u, rfl, by simpa using hle, hP, hb, by simpa [Nd.tok] using hc, by simpa [Nd.kids] using h1⟩
  | succ j =>
   obtain ⟨b', off', c'', u', he', hle', hP', hb', hc', hr'⟩ := ih2 j (by simpa using hj)
   injection he' with e1 e2 e3
   injection e1 with e1
   injection e1 with e4 e5
   subst e4 e5
   refine ⟨b, off, c + 1, u', rfl, by simpa using hle, hP, hb, ?_, by simpa using hr'⟩
   rw [show off + (j + 1) * 7 = off + 7 + j * 7 by omega]
   simpa using hc'
theorem RdN.base (h : RdN w P v l) (hp : 0 < l.length) : ∃ b off c, v = .slice (some ⟨b, off, none⟩) l.length c ∧ l.length ≤ c ∧ P b ∧ b < w.heap.size ∧ ∀ j, (hj : j < l.length) → ∃ u, NAt w b (off + j * 7) (l[j]).tok u ∧ RdN w P u (l[j]).kids := by
 obtain ⟨b, off, c, u, rfl, hle, hP, hb, _, _⟩ := h.at 0 hp
 refine ⟨b, off, c, rfl, hle, hP, hb, fun j hj => ?_⟩
 obtain ⟨b', off', c', u', he, _, _, _, hn, hr⟩ := h.at j hj
 injection he with e1 _ _
 injection e1 with e1
 injection e1 with e4 e5
 subst e4 e5
 exact ⟨u', hn, hr⟩
theorem RdN.take {a : Option Addr} {n c : Nat} (h : RdN w P (.slice a n c) l) : ∀ k, k ≤ l.length → RdN w P (.slice a k c) (l.take k) := by
 generalize hv : Value.slice a n c = v at h
 induction h generalizing a n c with
 | nil a' c' => intro k hk; simp at hk; subst hk; injection hv with h1 _ h3; subst h1 h3; exact .nil _ _
 | cons b off n' c' t u k' l hP hb hc h1 h2 _ ih2 =>
  injection hv with e1 e2 e3
  subst e1 e3
  intro k hk
  cases k with
  | zero => exact .nil _ _
  | succ k => exact .cons b off k c' t u k' _ hP hb hc h1 (ih2 rfl k (by simpa using hk))
theorem RdN.drop {b off n c : Nat} (h : RdN w P (.slice (some ⟨b, off, none⟩) n c) l) : ∀ k, k ≤ l.length → RdN w P (.slice (some ⟨b, off + k * 7, none⟩) (n - k) (c - k)) (l.drop k) := by
 generalize hv : Value.slice (some ⟨b, off, none⟩) n c = v at h
 induction h generalizing off n c with
 | nil a' c' => intro k hk; simp at hk; subst hk; injection hv with h1 h2 h3; subst h2 h3; simpa using RdN.nil (w := w) (P := P) _ _
 | cons b' off' n' c' t u k' l hP hb hc h1 h2 _ ih2 =>
  injection hv with e1 e2 e3
  injection e1 with e1
  injection e1 with e4 e5
  subst e4 e5 e2 e3
  intro k hk
  cases k with
  | zero => simpa using RdN.cons b off n' c' t u k' l hP hb hc h1 h2
  | succ k =>
   have := ih2 rfl k (by simpa using hk)
   rw [show off + (k + 1) * 7 = off + 7 + k * 7 by omega, Nat.add_sub_add_right, Nat.add_sub_add_right]
   exact this
end
abbrev Fl := Tok × Value
def ncells (x : Fl) : List Value := tcells x.1 ++ [x.2]
theorem ncells_len (x : Fl) : (ncells x).length = 7 := rfl
theorem ncellsL_len (l : List Fl) : (l.flatMap ncells).length = l.length * 7 := by
 induction l with
 | nil => rfl
 | cons a l ih => rw [List.flatMap_cons, List.length_append, ih, ncells_len, List.length_cons]; omega
inductive FlN (w : World) (P : Nat → Prop) : List Fl → List Nd → Prop
  | nil : FlN w P [] []
  | cons (t : Tok) (u : Value) (k : List Nd) (fs : List Fl) (l : List Nd) : RdN w P u k → FlN w P fs l → FlN w P ((t, u) :: fs) (.mk t k :: l)
section
variable {w w' : World} {P Q : Nat → Prop} {fs : List Fl} {l : List Nd}
theorem FlN.len (h : FlN w P fs l) : fs.length = l.length := by
 induction h with
 | nil => rfl
 | cons t u k fs l _ _ ih => simp [ih]
theorem FlN.move (h : FlN w P fs l) (hw : ∀ b, P b → b < w.heap.size → w'.heap[b]? = w.heap[b]?) (hs : w.heap.size ≤ w'.heap.size) : FlN w' P fs l := by
 induction h with
 | nil => exact .nil
 | cons t u k fs l h1 _ ih => exact .cons t u k fs l (h1.move hw hs) ih
theorem FlN.weak (h : FlN w P fs l) (hQ : ∀ b, b < w.heap.size → P b → Q b) : FlN w Q fs l := by
 induction h with
 | nil => exact .nil
 | cons t u k fs l h1 _ ih => exact .cons t u k fs l (h1.weak hQ) ih
theorem FlN.snoc (h : FlN w P fs l) {t : Tok} {u : Value} {k : List Nd} (hk : RdN w P u k) : FlN w P (fs ++ [(t, u)]) (l ++ [.mk t k]) := by
 induction h with
 | nil => exact .cons t u k [] [] hk .nil
 | cons t' u' k' fs l h1 _ ih => exact .cons t' u' k' _ _ h1 ih
theorem FlN.rd {b c : Nat} (hP : P b) (hb : b < w.heap.size) (h : FlN w P fs l) : ∀ off, l.length ≤ c → (∀ j u, (fs.flatMap ncells)[j]? = some u → w.cell? ⟨b, off + j, none⟩ = some u) → RdN w P (.slice (some ⟨b, off, none⟩) l.length c) l := by
 induction h generalizing c with
 | nil => intro off _ _; exact .nil _ _
 | cons t u k fs l h1 h2 ih =>
  intro off hc hcell
  obtain ⟨c, rfl⟩ : ∃ c', c = c' + 1 := ⟨c - 1, by simp at hc; omega⟩
  refine .cons b off l.length c t u k l hP hb ?_ h1 (ih (off + 7) (by simpa using hc) fun j x hx => ?_)
  · have g : ∀ j x, (ncells (t, u))[j]? = some x → w.cell? ⟨b, off + j, none⟩ = some x := fun j x hx => hcell j x (by
     rw [List.flatMap_cons, List.getElem?_append_left (List.getElem?_eq_some_iff.1 hx).1]; exact hx)
    exact ⟨g 0 _ rfl, g 1 _ rfl, g 2 _ rfl, g 3 _ rfl, g 4 _ rfl, g 5 _ rfl, g 6 _ rfl⟩
  · rw [show off + 7 + j = off + (7 + j) by omega]
    refine hcell _ _ ?_
    rw [List.flatMap_cons, List.getElem?_append_right (by rw [ncells_len]; omega), ncells_len, Nat.add_sub_cancel_left]
    exact hx
theorem RdN.flat {v : Value} (h : RdN w P v l) : ∃ fs, FlN w P fs l ∧ ∀ b off n c, v = .slice (some ⟨b, off, none⟩) n c → ∀ j u, (fs.flatMap ncells)[j]? = some u → w.cell? ⟨b, off + j, none⟩ = some u := by
 induction h with
 | nil a c => exact ⟨[], .nil, fun b off n c' _ j u hu => by simp at hu⟩
 | cons b off n c t u k l hP hb hc h1 h2 _ ih2 =>
  obtain ⟨fs, hf, hcell⟩ := ih2
  refine ⟨(t, u) :: fs, .cons t u k fs l h1 hf, ?_⟩
  intro b' off' n' c' he j x hx
  injection he with e1 _ _
  injection e1 with e1
  injection e1 with e4 e5
  subst e4 e5
  rw [List.flatMap_cons] at hx
  by_cases hj : j < 7
  · rw [List.getElem?_append_left (by rw [ncells_len]; exact hj)] at hx
    match j, hj, hx with
    | 0, _, hx => simp [ncells, tcells] at hx; subst hx; exact hc.c0
    | 1, _, hx => simp [ncells, tcells] at hx; subst hx; exact hc.c1
    | 2, _, hx => simp [ncells, tcells] at hx; subst hx; exact hc.c2
    | 3, _, hx => simp [ncells, tcells] at hx; subst hx; exact hc.c3
    | 4, _, hx => simp [ncells, tcells] at hx; subst hx; exact hc.c4
    | 5, _, hx => simp [ncells, tcells] at hx; subst hx; exact hc.c5
    | 6, _, hx => simp [ncells, tcells] at hx; subst hx; exact hc.c6
  · rw [List.getElem?_append_right (by rw [ncells_len]; omega), ncells_len] at hx
    have := hcell b (off + 7) n c rfl (j - 7) x hx
    rw [show off + 7 + (j - 7) = off + j by omega] at this
    exact this
end
abbrev nval (t : Tok) (u : Value) : Value := .agg #[.int .i64 t.kind, .string t.text, .int .i64 t.int, .bool t.whole, .bool t.sign, .bool t.id, u]
theorem info_node : (Tryz.prog.info? 96).map (fun i => (i.zero, i.size, i.bytes)) = some (some (.agg #[.int .i64 0, .string ⟨#[]⟩, .int .i64 0, .bool false, .bool false, .bool false, .slice none 0 0]), 7, 64) := by kernel_rfl
theorem ncells_one (x : Fl) (hx : x.2.oneCell' = true) : ∀ u ∈ ncells x, u.oneCell' = true := by
 intro u hu
 simp only [ncells, List.mem_append, List.mem_singleton] at hu
 rcases hu with hu | rfl
 · exact tcells_one x.1 u hu
 · exact hx
theorem ret_str {a b : ByteArray} (h : a = b) : Ending.returned (.string a) = .returned (.string b) := by rw [h]
theorem szL_at : ∀ (l : List Nd) (k : Nat) (h : k < l.length), szL (l[k]).kids + 1 ≤ szL l
  | .mk t q :: l, 0, _ => by show szL q + 1 ≤ _; rw [szL, szN]; omega
  | .mk t q :: l, k + 1, h => by
   have := szL_at l k (by simpa using h)
   rw [szL]
   show szL (l[k]'(by simpa using h)).kids + 1 ≤ _
   omega
def RowF (B : Nat) (w : World) (v : Value) (fs : List Fl) : Prop := w.ownsRow B 96 7 v fs.length (fs.flatMap ncells)
theorem RowF.nil (B : Nat) (w : World) : RowF B w (.slice none 0 0) [] := World.ownsRow_nil _ _ _ _
theorem RowF.block {B : Nat} {w : World} {v : Value} {fs : List Fl} (h : RowF B w v fs) : ∀ k, v.ownBlock = some k → B ≤ k ∧ k < w.heap.size := fun k hk => World.ownsRow.lt h k hk
theorem RdN.one {w : World} {P : Nat → Prop} {v : Value} {l : List Nd} (h : RdN w P v l) : v.oneCell' = true := by
 obtain ⟨a, c, rfl, _⟩ := h.shape
 rfl
theorem FlN.one {w : World} {P : Nat → Prop} {fs : List Fl} {l : List Nd} (h : FlN w P fs l) : ∀ u ∈ fs.flatMap ncells, u.oneCell' = true := by
 induction h with
 | nil => intro u hu; simp at hu
 | cons t u k fs l h1 _ ih =>
  intro x hx
  rw [List.flatMap_cons, List.mem_append] at hx
  rcases hx with hx | hx
  · exact ncells_one (t, u) h1.one x hx
  · exact ih x hx
theorem RowF.rd {B : Nat} {w : World} {P : Nat → Prop} {v : Value} {fs : List Fl} {l : List Nd} (h : RowF B w v fs) (hf : FlN w P fs l) (hP : ∀ b, v.ownBlock = some b → P b) : RdN w P v l := by
 have hl := World.ownsRow.lt h
 have hc := fun g hg => World.ownsRow.cells h (g := g) hg
 have hlen := hf.len
 unfold RowF at h
 rcases h.2 with ⟨rfl, h0⟩ | ⟨g, cap, cur, rfl, b, c, d, _⟩
 · have : l = [] := List.eq_nil_of_length_eq_zero (by omega)
   subst this
   exact .nil _ _
 · rw [hlen] at d ⊢
   refine FlN.rd (hP g rfl) (hl g rfl).2 hf 0 d (fun j u hu => ?_)
   have := hc g rfl j u hu
   have hadd : (⟨g, 0, none⟩ : Addr).add j = ⟨g, 0 + j, none⟩ := by unfold Addr.add; split <;> simp_all
   rw [hadd] at this
   exact this
theorem below_grown_none {w w' : World} (h : w.grownBy w' none) : Below w.heap.size w w' := ⟨h.os, h.tape, h.output, h.size, fun k hk => h.block k hk (by simp)⟩
def OwnPost (w : World) (P : Nat → Prop) (l : List Nd) (e : Ending) (w' : World) : Prop := (∃ v' fs, e = .returned v' ∧ FlN w P fs l ∧ RowF w.heap.size w' v' fs) ∧ Below w.heap.size w w'
theorem own_any {l : List Nd} {v : Value} {w : World} {P : Nat → Prop} (h : RdN w P v l) (hl : l.length ≤ 1000000000) :
    Calls Tryz.prog 59 #[v] w (OwnPost w P l) := by
  obtain ⟨i0, hi, hz0, hz1, hz2⟩ := info_parts info_node
  obtain ⟨fs, hf, hcell⟩ := h.flat
  have hlen := hf.len
  have hone := hf.one
  have ho : w.ownsRow w.heap.size 96 7 (.slice none 0 0) 0 [] := World.ownsRow_nil _ _ _ _
  by_cases hp : 0 < l.length
  · obtain ⟨b, off, c, rfl, hle, _, hb, _⟩ := h.base hp
    have hc2 : ∀ j u, (fs.flatMap ncells)[j]? = some u → w.cell? ((⟨b, off, none⟩ : Addr).add j) = some u := fun j u hu => by
     have hadd : (⟨b, off, none⟩ : Addr).add j = ⟨b, off + j, none⟩ := by unfold Addr.add; split <;> simp_all
     rw [hadd]
     exact hcell b off _ _ rfl j u hu
    clear hcell h
    go_enter Tryz.func59, Tryz.ntmps59
    go_wp2_with (at_builtin; refine wpList_append_own _ rfl _ _ 30 rfl w.heap.size 96 i0 (.agg #[.int .i64 0, .string ⟨#[]⟩, .int .i64 0, .bool false, .bool false, .bool false, .slice none 0 0]) 7 64 Tryz.underlying30 hi hz0 hz1 hz2 rfl (by decide) _ _ _ rfl ho ⟨b, off, none⟩ l.length c (fs.flatMap ncells) rfl (by rw [ncellsL_len, hlen]) hc2 hone (by unfold maxLen; omega) (by omega) (Nat.le_refl _) ?_; intro v' w4 ho4 hg4 _)
    go_ret
    refine ⟨⟨v', fs, rfl, hf, ?_⟩, below_grown_none hg4⟩
    unfold RowF
    rw [hlen]
    simpa using ho4
  · obtain ⟨a, c, rfl, _⟩ := h.shape
    have hl0 : l = [] := List.eq_nil_of_length_eq_zero (by omega)
    subst hl0
    have hfs : fs = [] := List.eq_nil_of_length_eq_zero (by simpa using hlen)
    subst hfs
    clear hcell h hone hp
    cases a with
    | none =>
     go_enter Tryz.func59, Tryz.ntmps59
     go_wp2
     go_ret
     exact ⟨⟨.slice none 0 0, [], rfl, .nil, ho⟩, Below.refl _ _⟩
    | some ad =>
     go_enter Tryz.func59, Tryz.ntmps59
     go_wp2_with (at_builtin; refine wpList_append_own _ rfl _ _ 30 rfl w.heap.size 96 i0 (.agg #[.int .i64 0, .string ⟨#[]⟩, .int .i64 0, .bool false, .bool false, .bool false, .slice none 0 0]) 7 64 Tryz.underlying30 hi hz0 hz1 hz2 rfl (by decide) _ _ _ rfl ho ad 0 c [] rfl rfl (by intro j u hu; simp at hu) (by intro u hu; simp at hu) (by decide) (by decide) (Nat.le_refl _) ?_; intro v' w4 ho4 hg4 _)
     go_ret
     exact ⟨⟨v', [], rfl, .nil, ho4⟩, below_grown_none hg4⟩
structure Ent where
  t : Tok
  k : List Nd
  u : Value
  fs : List Fl
def Free (B : Nat) (v : Value) (es : List Ent) (b : Nat) : Prop := B ≤ b ∧ v.ownBlock ≠ some b ∧ ∀ e ∈ es, e.u.ownBlock ≠ some b
theorem RowF.kept {B : Nat} {w w' : World} {v : Value} {fs : List Fl} {row : Option Nat} (h : RowF B w v fs) (hg : w.grownBy w' row) (hne : ∀ g, v.ownBlock = some g → row ≠ some g) : RowF B w' v fs := by
 unfold RowF at h ⊢
 refine h.kept hg ?_
 cases hv : v.ownBlock with
 | none => exact .inl rfl
 | some g => exact .inr fun e => hne g hv e.symm
theorem RowF.cut {B : Nat} {w : World} {a : Option Addr} {n c : Nat} {fs : List Fl} {x : Fl} (h : RowF B w (.slice a n c) (fs ++ [x])) : RowF B w (.slice a fs.length c) fs := by
 unfold RowF at h ⊢
 refine ⟨ncellsL_len fs, ?_⟩
 rcases h.2 with ⟨_, h0⟩ | ⟨g, cap, cur, hv, hb, hg, hn, hm, hs, ht⟩
 · simp at h0
 · injection hv with e1 _ e3
   subst e1 e3
   refine .inr ⟨g, c, cur, rfl, hb, hg, by simp at hn; omega, hm, hs, ?_⟩
   have h2 := congrArg (List.take (fs.length * 7)) ht
   rw [List.take_take, List.flatMap_append, List.take_left' (ncellsL_len fs), Nat.min_eq_left (by simp; omega)] at h2
   exact h2
section
variable {w : World} {P Q : Nat → Prop}
theorem NAt.uniq {b off : Nat} {t t' : Tok} {u u' : Value} (h : NAt w b off t u) (h' : NAt w b off t' u') : t = t' ∧ u = u' := by
 obtain ⟨k, x, n, a, s, i⟩ := t
 obtain ⟨k', x', n', a', s', i'⟩ := t'
 have e0 := h.c0.symm.trans h'.c0
 have e1 := h.c1.symm.trans h'.c1
 have e2 := h.c2.symm.trans h'.c2
 have e3 := h.c3.symm.trans h'.c3
 have e4 := h.c4.symm.trans h'.c4
 have e5 := h.c5.symm.trans h'.c5
 have e6 := h.c6.symm.trans h'.c6
 simp at e0 e1 e2 e3 e4 e5 e6
 subst e0 e1 e2 e3 e4 e5 e6
 exact ⟨rfl, rfl⟩
theorem RdN.uniq {v : Value} {l l' : List Nd} (h : RdN w P v l) (h' : RdN w Q v l') : l = l' := by
 induction h generalizing l' with
 | nil a c =>
  obtain ⟨a', c', he, _⟩ := h'.shape
  injection he with _ e2 _
  exact (List.eq_nil_of_length_eq_zero e2.symm).symm
 | cons b off n c t u k l hP hb hc h1 h2 ih1 ih2 =>
  cases h' with
  | cons _ _ _ _ t' u' k' l' _ _ hc' h1' h2' =>
   obtain ⟨rfl, rfl⟩ := hc.uniq hc'
   rw [ih1 h1', ih2 h2']
theorem cell_other {p q : Addr} {v : Value} (h : p ≠ q) : (w.setCell p v).cell? q = w.cell? q := World.cell?_setCell_other _ _ _ _ h
theorem RdN.alike {p : Addr} {v v' : Value} {k : List Nd} (hc : w.cell? p = some v) (hk : RdN w Q v k) (hk' : RdN w P v' k) :
    ∀ (m : Nat) (l : List Nd) (X : Value), szL l ≤ m → RdN w P X l → RdN (w.setCell p v') P X l := by
  obtain ⟨sa, sc, hsl, _⟩ := hk.shape
  have far : ∀ {q : Addr} {x : Value}, w.cell? q = some x → (∀ a n c, x ≠ .slice a n c) → (w.setCell p v').cell? q = some x := fun {q x} hx hne => by
   by_cases e : p = q
   · subst e
     rw [hc, hsl] at hx
     injection hx with hx
     exact absurd hx.symm (hne _ _ _)
   · rw [cell_other e]; exact hx
  intro m
  induction m with
  | zero =>
   intro l X hl h
   have := szL_ge l
   obtain rfl : l = [] := List.eq_nil_of_length_eq_zero (by omega)
   obtain ⟨a, c, rfl, _⟩ := h.shape
   exact .nil a c
  | succ m ih =>
   intro l X hl h
   induction h with
   | nil a c => exact .nil a c
   | cons b off n c t u q l hP hb hat h1 h2 _ ih2 =>
    rw [szL, szN] at hl
    have hs : (w.setCell p v').heap.size = w.heap.size := by simp [World.setCell]
    have r2 := ih2 (by omega)
    by_cases e : p = ⟨b, off + 6, none⟩
    · have hu : v = u := by
       have := hat.c6
       rw [← e, hc] at this
       injection this
      subst hu
      have hq : q = k := h1.uniq hk
      subst hq
      refine .cons b off n c t v' q l hP (by rw [hs]; exact hb) ⟨far hat.c0 (by simp), far hat.c1 (by simp), far hat.c2 (by simp), far hat.c3 (by simp), far hat.c4 (by simp), far hat.c5 (by simp), ?_⟩ (ih q v' (by omega) hk') r2
      rw [← e]
      exact World.cell?_setCell_same _ _ _ hc
    · refine .cons b off n c t u q l hP (by rw [hs]; exact hb) ⟨far hat.c0 (by simp), far hat.c1 (by simp), far hat.c2 (by simp), far hat.c3 (by simp), far hat.c4 (by simp), far hat.c5 (by simp), ?_⟩ (ih q u (by omega) h1) r2
      rw [cell_other e]
      exact hat.c6
end
def clsB (o t : Tok) : Bool := decide (t.kind = 20) && (t.text.toList == (cloB o).toList)
theorem closesS_cons (o : Tok) (k : List Nd) (s : Stk) (t : Tok) : closesS ((o, k) :: s) t = clsB o t := rfl
inductive OkN : Nd → Prop
  | leaf (t : Tok) : (cloB t).toList.isEmpty = true → OkN (.mk t [])
  | block (t : Tok) (k : List Nd) : (cloB t).toList.isEmpty = false → (∀ n ∈ k, OkN n) → (∀ n ∈ k, clsB t n.tok = false) → OkN (.mk t k)
def endB (t : Tok) : Tok := { kind := 20, text := cloB t }
theorem cls_end (t : Tok) : clsB t (endB t) = true := by unfold clsB endB; simp
theorem flN_leaf {t : Tok} (h : (cloB t).toList.isEmpty = true) (k : List Nd) : flN (.mk t k) = [t] := by rw [flN, if_pos h]
theorem flN_block {t : Tok} (h : (cloB t).toList.isEmpty = false) (k : List Nd) : flN (.mk t k) = t :: (flL k ++ [endB t]) := by rw [flN, if_neg (by rw [h]; decide)]; rfl
theorem addS_room {o : Tok} {k : List Nd} {s : Stk} (h : s.length + 1 < 32) (n : Nd) : addS ((o, k) :: s) n = (o, k ++ [n]) :: s := by
 show (if s.length + 1 < 32 then (o, k ++ [n]) :: s else (o, k) :: s) = _
 rw [if_pos h]
theorem addS_full {o : Tok} {k : List Nd} {s : Stk} (h : ¬ s.length + 1 < 32) (n : Nd) : addS ((o, k) :: s) n = (o, k) :: s := by
 show (if s.length + 1 < 32 then (o, k ++ [n]) :: s else (o, k) :: s) = _
 rw [if_neg h]
theorem run_l : ∀ (m : Nat) (l : List Nd), szL l ≤ m → (∀ x ∈ l, OkN x) → ∀ (o : Tok) (k : List Nd) (s : Stk) (rest : List Tok), (∀ x ∈ l, clsB o x.tok = false) → s.length + 1 + dpL l ≤ 32 →
    oneS ((o, k) :: s) (flL l ++ rest) = oneS ((o, k ++ l) :: s) rest := by
  intro m
  induction m with
  | zero =>
   intro l hl _ o k s rest _ _
   have := szL_ge l
   obtain rfl : l = [] := List.eq_nil_of_length_eq_zero (by omega)
   rw [flL, List.nil_append, List.append_nil]
  | succ m ih =>
   intro l
   induction l with
   | nil => intro _ _ o k s rest _ _; rw [flL, List.nil_append, List.append_nil]
   | cons n l ih2 =>
    intro hl hok o k s rest hc hd
    rw [szL] at hl
    rw [dpL] at hd
    have h1 := hok n (by simp)
    have hc1 := hc n (by simp)
    have hn1 : 1 ≤ szN n := by cases n; rw [szN]; omega
    have step : oneS ((o, k) :: s) (flN n ++ (flL l ++ rest)) = oneS ((o, k ++ [n]) :: s) (flL l ++ rest) := by
     cases h1 with
     | leaf t ht =>
      have hroom : s.length + 1 < 32 := by rw [dpN] at hd; omega
      rw [flN_leaf ht, List.singleton_append, oneS_leaf (by rw [closesS_cons]; exact hc1) ht, if_neg (by simp), addS_room hroom]
     | block t q ht hq1 hq2 =>
      have hdq : dpN (.mk t q) = 1 + dpL q := by rw [dpN]
      rw [szN] at hl
      rw [flN_block ht, List.cons_append, oneS_opens (by rw [closesS_cons]; exact hc1) ht, List.append_assoc, ih q (by omega) hq1 t [] ((o, k) :: s) _ hq2 (by simp; omega), List.nil_append, List.singleton_append]
      rw [oneS_shuts (by rw [closesS_cons]; exact cls_end t), if_neg (by simp), addS_room (by omega)]
    rw [flL, List.append_assoc, step, ih2 (by omega) (fun x hx => hok x (by simp [hx])) o (k ++ [n]) s rest (fun x hx => hc x (by simp [hx])) (by omega), List.append_assoc]
    rfl
theorem one_back (n : Nd) (hok : OkN n) (hd : dpN n ≤ 32) (rest : List Tok) : oneS [] (flN n ++ rest) = (n, rest) := by
 cases hok with
 | leaf t ht => rw [flN_leaf ht, List.singleton_append, oneS_leaf rfl ht, if_pos (by rfl)]
 | block t q ht hq1 hq2 =>
  rw [dpN] at hd
  rw [flN_block ht, List.cons_append, oneS_opens rfl ht, List.append_assoc, run_l (szL q) q (Nat.le_refl _) hq1 t [] [] _ hq2 (by simp; omega), List.nil_append, List.singleton_append, oneS_shuts (by rw [closesS_cons]; exact cls_end t), if_pos (by rfl)]
theorem flN_cons (n : Nd) : ∃ t ts, flN n = t :: ts := by
 obtain ⟨t, k⟩ := n
 exact ⟨t, _, by rw [flN]⟩
theorem nds_back : ∀ l : List Nd, (∀ x ∈ l, OkN x) → dpL l ≤ 32 → ndsS (flL l) = l
  | [], _, _ => by rw [flL]; unfold ndsS; rfl
  | n :: l, hok, hd => by
   rw [dpL] at hd
   obtain ⟨t, ts, ht⟩ := flN_cons n
   have h1 := one_back n (hok n (by simp)) (by omega) (flL l)
   rw [flL]
   rw [ht, List.cons_append] at h1 ⊢
   rw [ndsS_cons, h1, nds_back l (fun x hx => hok x (by simp [hx])) (by omega)]
def isWh (n : Nd) : Bool := decide (n.tok.kind = 13)
def isCm (n : Nd) : Bool := decide (n.tok.kind = 18)
def trA : List Nd → List Nd
  | [] => []
  | n :: l => if isWh n then trA l else n :: l
def trN : List Nd → Nat
  | [] => 0
  | n :: l => if trN l = 0 then (if isWh n then 0 else 1) else trN l + 1
theorem trN_le : ∀ l : List Nd, trN l ≤ l.length
  | [] => by simp [trN]
  | n :: l => by
   have := trN_le l
   rw [trN]
   split
   · split <;> simp
   · simp; omega
def trZ (l : List Nd) : List Nd := l.take (trN l)
def trimS (l : List Nd) : List Nd := trZ (trA l)
theorem trN_snoc_wh : ∀ (l : List Nd) (n : Nd), isWh n = true → trN (l ++ [n]) = trN l
  | [], n, h => by simp [trN, h]
  | m :: l, n, h => by rw [List.cons_append, trN, trN, trN_snoc_wh l n h]
theorem trN_snoc_not : ∀ (l : List Nd) (n : Nd), isWh n = false → trN (l ++ [n]) = l.length + 1
  | [], n, h => by simp [trN, h]
  | m :: l, n, h => by rw [List.cons_append, trN, trN_snoc_not l n h]; simp
theorem trZ_snoc_wh (l : List Nd) (n : Nd) (h : isWh n = true) : trZ (l ++ [n]) = trZ l := by
 unfold trZ
 rw [trN_snoc_wh l n h, List.take_append_of_le_length (trN_le l)]
theorem trZ_snoc_not (l : List Nd) (n : Nd) (h : isWh n = false) : trZ (l ++ [n]) = l ++ [n] := by
 unfold trZ
 rw [trN_snoc_not l n h]
 exact List.take_of_length_le (by simp)
theorem trA_drop : ∀ l : List Nd, ∃ k, k ≤ l.length ∧ trA l = l.drop k
  | [] => ⟨0, by simp, rfl⟩
  | n :: l => by
   rw [trA]
   split
   · obtain ⟨k, h1, h2⟩ := trA_drop l
     exact ⟨k + 1, by simp; omega, by rw [h2]; rfl⟩
   · exact ⟨0, by simp, rfl⟩
def splA : List Nd → List Nd → List (List Nd)
  | now, [] => [now]
  | now, n :: l => if isCm n then now :: splA [] l else splA (now ++ [n]) l
def splS (l : List Nd) : List (List Nd) := splA [] l
def cmN (l : List Nd) : Nat := (l.filter isCm).length
theorem splA_len : ∀ (l now : List Nd), (splA now l).length = cmN l + 1
  | [], now => rfl
  | n :: l, now => by
   rw [splA]
   by_cases h : isCm n = true
   · rw [if_pos h, List.length_cons, splA_len l []]; unfold cmN; rw [List.filter_cons, if_pos h, List.length_cons]
   · rw [if_neg h, splA_len l]; unfold cmN; rw [List.filter_cons, if_neg h]
theorem splS_len (l : List Nd) : (splS l).length = cmN l + 1 := splA_len l []
theorem one_rest : ∀ (ts : List Tok) (s : Stk), (oneS s ts).2 <:+ ts
  | [], s => by rw [oneS_nil]; exact List.suffix_refl _
  | t :: ts, s => by
   by_cases hc : closesS s t = true
   · cases s with
     | nil => exact absurd hc (by simp [closesS])
     | cons p s =>
      obtain ⟨o, k⟩ := p
      rw [oneS_shuts hc]
      split
      · exact List.suffix_cons t ts
      · exact (one_rest ts _).trans (List.suffix_cons t ts)
   · have hc : closesS s t = false := by simpa using hc
     by_cases hb : (cloB t).toList.isEmpty = true
     · rw [oneS_leaf hc hb]
       split
       · exact List.suffix_cons t ts
       · exact (one_rest ts _).trans (List.suffix_cons t ts)
     · have hb : (cloB t).toList.isEmpty = false := by simpa using hb
       rw [oneS_opens hc hb]
       exact (one_rest ts _).trans (List.suffix_cons t ts)
def szK : Stk → Nat
  | [] => 0
  | (_, k) :: s => 1 + szL k + szK s
theorem szK_add (s : Stk) (n : Nd) : szK (addS s n) ≤ szK s + szN n := by
 cases s with
 | nil => simp [addS, szK]
 | cons p s =>
  obtain ⟨o, k⟩ := p
  by_cases h : s.length + 1 < 32
  · rw [addS_room h, szK, szK, szL_append]
    have e : szL [n] = szN n := by rw [szL, szL]; omega
    omega
  · rw [addS_full h]; omega
theorem szK_shut : ∀ (m : Nat) (s : Stk), s.length = m → 0 < m → szN (shutS s) ≤ szK s
  | 0, _, _, h => absurd h (by decide)
  | 1, s, hs, _ => by
   obtain ⟨p, rfl⟩ := List.length_eq_one_iff.1 hs
   obtain ⟨o, k⟩ := p
   unfold shutS
   rw [szN, szK, szK]
   omega
  | m + 2, s, hs, _ => by
   cases s with
   | nil => simp at hs
   | cons p s =>
    cases s with
    | nil => simp at hs
    | cons q s =>
     obtain ⟨o, k⟩ := p
     obtain ⟨o2, k2⟩ := q
     have e : shutS ((o, k) :: (o2, k2) :: s) = shutS (addS ((o2, k2) :: s) (.mk o k)) := by
      conv => lhs; unfold shutS
      unfold addS
      rfl
     rw [e]
     have h1 := szK_shut (m + 1) (addS ((o2, k2) :: s) (.mk o k)) (by rw [addS_len]; simpa using hs) (by omega)
     have h2 := szK_add ((o2, k2) :: s) (.mk o k)
     have h3 : szN (.mk o k) = 1 + szL k := by rw [szN]
     have h4 : szK ((o, k) :: (o2, k2) :: s) = 1 + szL k + szK ((o2, k2) :: s) := by rw [szK]
     omega
theorem szK_one : ∀ (ts : List Tok) (s : Stk), (0 < s.length ∨ 0 < ts.length) → szN (oneS s ts).1 + (oneS s ts).2.length ≤ szK s + ts.length
  | [], s, h => by
   rw [oneS_nil]
   have := szK_shut s.length s rfl (by simpa using h)
   simpa using this
  | t :: ts, s, _ => by
   have e0 : szN (.mk t []) = 1 := by rw [szN, szL]
   by_cases hc : closesS s t = true
   · cases s with
     | nil => exact absurd hc (by simp [closesS])
     | cons p s =>
      obtain ⟨o, k⟩ := p
      have h3 : szN (.mk o k) = 1 + szL k := by rw [szN]
      rw [oneS_shuts hc, szK]
      split
      · simp only [List.length_cons]; omega
      · rename_i he
        have h1 := szK_one ts (addS s (.mk o k)) (.inl (by rw [addS_len]; exact List.length_pos_iff.2 (by simpa using he)))
        have h2 := szK_add s (.mk o k)
        simp only [List.length_cons]
        omega
   · have hc : closesS s t = false := by simpa using hc
     by_cases hb : (cloB t).toList.isEmpty = true
     · rw [oneS_leaf hc hb]
       split
       · simp only [List.length_cons]; omega
       · rename_i he
         have h1 := szK_one ts (addS s (.mk t [])) (.inl (by rw [addS_len]; exact List.length_pos_iff.2 (by simpa using he)))
         have h2 := szK_add s (.mk t [])
         simp only [List.length_cons]
         omega
     · have hb : (cloB t).toList.isEmpty = false := by simpa using hb
       rw [oneS_opens hc hb]
       have h1 := szK_one ts ((t, []) :: s) (.inl (by simp))
       have e1 : szK ((t, []) :: s) = 1 + szK s := by rw [szK, szL]
       simp only [List.length_cons]
       omega
theorem szL_nds : ∀ (m : Nat) (ts : List Tok), ts.length ≤ m → szL (ndsS ts) ≤ ts.length
  | _, [], _ => by
   have e : ndsS [] = [] := by unfold ndsS; rfl
   rw [e, szL]; simp
  | 0, t :: ts, h => by simp at h
  | m + 1, t :: ts, h => by
   have hlt := oneS_lt t ts []
   have h1 := szK_one (t :: ts) [] (.inr (by simp))
   have h2 := szL_nds m (oneS [] (t :: ts)).2 (by simp at hlt h; omega)
   rw [ndsS_cons, szL]
   have e0 : szK [] = 0 := rfl
   omega
end Go.Proofs.YtclicjiakkcfcaaGreatDoor
