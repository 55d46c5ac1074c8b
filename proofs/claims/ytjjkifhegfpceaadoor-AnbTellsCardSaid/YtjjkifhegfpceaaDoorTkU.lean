
import Derived.Test.YtjjkifhegfpceaaDoorTkS
import Derived.Test.YtjjkifhegfpceaaDoorPtsBl
import Derived.Laws.StructEq
namespace Go.Proofs.YtjjkifhegfpceaaDoor
open Go.RowKit

def tcells (t : Tok) : List Value := [.int .i64 t.kind, .string t.text, .int .i64 t.int, .bool t.whole, .bool t.sign, .bool t.id]
theorem tcells_len (t : Tok) : (tcells t).length = 6 := rfl
theorem cells_len (l : List Tok) : (l.flatMap tcells).length = l.length * 6 := by
  induction l with
  | nil => rfl
  | cons a l ih => rw [List.flatMap_cons, List.length_append, ih, tcells_len, List.length_cons]; omega

/-- A slice of tokens that reads as a list. -/
def RdT (w : World) (v : Value) (l : List Tok) : Prop :=
  ∃ a c, v = .slice a l.length c ∧ l.length ≤ c ∧ (0 < l.length → ∃ b, a = some ⟨b, 0, none⟩ ∧ b < w.heap.size ∧ ∀ j u, (l.flatMap tcells)[j]? = some u → w.cell? ⟨b, j, none⟩ = some u)
theorem RdT.below {w w' : World} {v : Value} {l : List Tok} (h : RdT w v l) (hb : Below w.heap.size w w') : RdT w' v l := by
  obtain ⟨a, c, rfl, hle, h⟩ := h
  refine ⟨a, c, rfl, hle, fun hp => ?_⟩
  obtain ⟨b, rfl, hlt, hc⟩ := h hp
  exact ⟨b, rfl, Nat.lt_of_lt_of_le hlt hb.size, fun j u hu => by rw [hb.cell (p := ⟨b, j, none⟩) hlt]; exact hc j u hu⟩
/-- Tokens so far: a row that is newer than block number B. -/
def TokL (B : Nat) (w : World) (lv : Value) (out : List Tok) : Prop := w.ownsRow B 77 6 lv out.length (out.flatMap tcells)
theorem TokL.nil (B : Nat) (w : World) : TokL B w (.slice none 0 0) [] := World.ownsRow_nil _ _ _ _
theorem TokL.keeps {B g : Nat} {w w' : World} {T : TypeId} {v : Value} {xs r : List Int} {lv : Value} {out : List Tok} (h : TokL B w lv out) (hn : Now T g v xs r w w') (hB : g < B) : TokL B w' lv out := by
  unfold TokL at h ⊢
  refine h.kept hn.gw ?_
  by_cases e : lv.ownBlock = none
  · exact .inl e
  · refine .inr fun e2 => ?_
    have := (h.lt g e2).1
    omega
theorem TokL.row {B : Nat} {w : World} {lv : Value} {out : List Tok} (h : TokL B w lv out) : ∀ k, lv.ownBlock = some k → B ≤ k := fun k hk => (World.ownsRow.lt h k hk).1
theorem TokL.rd {B : Nat} {w : World} {lv : Value} {out : List Tok} (h : TokL B w lv out) : RdT w lv out := by
  have hl := World.ownsRow.lt h
  have hc := fun g hg => World.ownsRow.cells h (g := g) hg
  unfold TokL at h
  rcases h.2 with ⟨rfl, h0⟩ | ⟨g, cap, cur, rfl, b, c, d, _⟩
  · exact ⟨none, 0, by rw [h0], by omega, fun hp => by omega⟩
  · refine ⟨_, cap, rfl, d, fun _ => ⟨g, rfl, (hl g rfl).2, fun j u hu => ?_⟩⟩
    have := hc g rfl j u hu
    have hadd : (⟨g, 0, none⟩ : Addr).add j = ⟨g, j, none⟩ := by unfold Addr.add; split <;> simp_all
    rw [hadd] at this
    exact this
theorem info_tok : (Tryd.prog.info? 77).map (fun i => (i.zero, i.size, i.bytes)) = some (some (.agg #[.int .i64 0, .string ⟨#[]⟩, .int .i64 0, .bool false, .bool false, .bool false]), 6, 40) := by kernel_rfl
theorem cell_six_new (w : World) (t : Tok) (T : TypeId) : ∀ j u, (tcells t)[j]? = some u → (w.alloc (.cells #[.int .i64 t.kind, .string t.text, .int .i64 t.int, .bool t.whole, .bool t.sign, .bool t.id] T)).cell? ((⟨w.heap.size, 0, none⟩ : Addr).add j) = some u := by
  intro j u hj
  have hadd : (⟨w.heap.size, 0, none⟩ : Addr).add j = ⟨w.heap.size, j, none⟩ := by unfold Addr.add; split <;> simp_all
  rw [hadd]
  unfold World.cell?
  rw [heap_alloc_self]
  match j, hj with
  | 0, hj => simpa [tcells] using hj
  | 1, hj => simpa [tcells] using hj
  | 2, hj => simpa [tcells] using hj
  | 3, hj => simpa [tcells] using hj
  | 4, hj => simpa [tcells] using hj
  | 5, hj => simpa [tcells] using hj
  | j + 6, hj => simp [tcells] at hj

theorem tcells_one (t : Tok) : ∀ u ∈ tcells t, u.oneCell' = true := by
  intro u hu
  simp only [tcells, List.mem_cons, List.not_mem_nil, or_false] at hu
  rcases hu with rfl | rfl | rfl | rfl | rfl | rfl <;> rfl

def SignsOk (xs : List Int) : Prop := ∀ x ∈ xs, 0 ≤ x ∧ x ≤ 1114111
/-- What All answers. -/
def AllOf (w : World) (l : List Tok) (e : Ending) (w' : World) : Prop := ∃ v, e = .returned v ∧ RdT w' v l ∧ Below w.heap.size w w'

end Go.Proofs.YtjjkifhegfpceaaDoor
namespace Go.Proofs.YtjjkifhegfpceaaDoor
open Go.RowKit

theorem readS_ok (s : ByteArray) : SignsOk (readS s) := fun x hx => by
  have := (valid_iff x).1 (readS_good s x hx).1
  omega

def tokB (t u : Tok) : Bool := t.kind == u.kind && (t.text.toList == u.text.toList && (t.int == u.int && (t.whole == u.whole && (t.sign == u.sign && t.id == u.id))))
theorem tokB_iff (t u : Tok) : tokB t u = true ↔ t = u := by
  constructor
  · intro h
    unfold tokB at h
    simp only [Bool.and_eq_true, beq_iff_eq] at h
    obtain ⟨h1, h2, h3, h4, h5, h6⟩ := h
    rw [ByteArray.toList_eq, ByteArray.toList_eq] at h2
    obtain ⟨k, ⟨⟨x⟩⟩, n, a, b, c⟩ := t
    obtain ⟨k', ⟨⟨x'⟩⟩, n', a', b', c'⟩ := u
    simp only at h1 h2 h3 h4 h5 h6
    subst h1 h2 h3 h4 h5 h6
    rfl
  · rintro rfl
    simp [tokB]
set_option maxRecDepth 100000 in
set_option maxHeartbeats 400000 in
theorem tokEq_run (t u : Tok) (w : World) : (binOp .eql 77 t.val u.val).run Tryd.prog w = .ok (.bool (tokB t u)) w := by
  have ht : Tryd.prog.underlying 77 = some (.struct (Tryd.prog.fieldsOf 77)) := by kernel_rfl
  have hp : Tryd.prog.stoodInHeld 77 = false := by kernel_rfl
  simp only [Tok.val, run_eql_struct]
  rw [run_equalIn_agg _ _ _ _ _ ht hp]
  have hf := ht
  rw [Tryd.underlying77] at hf
  injection hf with hf
  injection hf with hf
  rw [← hf]
  simp [go_sem, Op.eqFields, Tryd.underlying3, Tryd.underlying9, Tryd.underlying4]
  unfold tokB
  repeat' split
  all_goals simp_all
set_option maxRecDepth 100000 in
set_option maxHeartbeats 400000 in
theorem tokNe_run (t u : Tok) (w : World) : (binOp .neq 77 t.val u.val).run Tryd.prog w = .ok (.bool (!tokB t u)) w := by
  have h := tokEq_run t u w
  simp only [Tok.val, run_eql_struct, run_neq_struct] at h ⊢
  generalize (Op.equalIn 10000 77 _ _).run Tryd.prog w = R at *
  cases R with
  | ok b w1 => simp [Result.andThen] at h ⊢; rw [h.1]; exact ⟨rfl, h.2⟩
  | halt x w1 => simp [Result.andThen] at h

/-- []byte(s), as a slice that reads as s's bytes. -/
theorem rd_bytes (w : World) (s : ByteArray) : Rd .u8 (w.drew.alloc (.cells (bytesRow s (grownCap w s.size 0 5)) 5 ((bytesRow s (grownCap w s.size 0 5)).size, (bytesRow s (grownCap w s.size 0 5)).size + 1))) (.slice (some ⟨w.heap.size, 0, none⟩) s.size (grownCap w s.size 0 5)) (nums s) := by
  have hle : s.size ≤ grownCap w s.size 0 5 := grownCap_ge w s.size 0 5
  have ho := OwnB.made w s (grownCap w s.size 0 5) 5 hle (nth (nums s)) (fun j _ => rfl)
  have hl := nums_length s
  rw [← hl] at ho
  rw [← hl] at hle ⊢
  exact ho.rd (cap := _) hle (fun j _ => rfl)

theorem AllOf.since {w0 w w' : World} {l : List Tok} {e : Ending} (h : AllOf w l e w') (hb : Below w0.heap.size w0 w) : AllOf w0 l e w' := by
  obtain ⟨v, he, hr, hb2⟩ := h
  exact ⟨v, he, hr, below_seq hb hb2⟩

end Go.Proofs.YtjjkifhegfpceaaDoor
