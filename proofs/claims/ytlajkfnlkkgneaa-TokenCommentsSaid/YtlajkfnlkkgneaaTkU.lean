
import Derived.Test.YtlajkfnlkkgneaaTkS
import Derived.Test.YtlajkfnlkkgneaaPtsBl
import Derived.Laws.StructEq
namespace Go.Proofs.Ytlajkfnlkkgneaa
open Go.RowKit

def tcells (t : Tok) : List Value := [.int .i64 t.kind, .string t.text, .int .i64 t.int, .bool t.whole, .bool t.sign, .bool t.id]
theorem tcells_len (t : Tok) : (tcells t).length = 6 := rfl
theorem cells_len (l : List Tok) : (l.flatMap tcells).length = l.length * 6 := by
  induction l with
  | nil => rfl
  | cons a l ih => rw [List.flatMap_cons, List.length_append, ih, tcells_len, List.length_cons]; omega

/-- A slice of tokens that reads as a list. -/
def RdT (w : World) (v : Value) (l : List Tok) : Prop :=
  ∃ a c, v = .slice a l.length c ∧ l.length ≤ c ∧ (0 < l.length → ∃ b, a = some ⟨b, 0, none⟩ ∧ b < w.heap.size ∧ ∀ j u, (l.flatMap tcells)[j]? = some u → w.cell? ⟨b, j, none⟩ = some u)
theorem RdT.below {w w' : World} {v : Value} {l : List Tok} (h : RdT w v l) (hb : Below w.heap.size w w') : RdT w' v l := by
  obtain ⟨a, c, rfl, hle, h⟩ := h
  refine ⟨a, c, rfl, hle, fun hp => ?_⟩
  obtain ⟨b, rfl, hlt, hc⟩ := h hp
  exact ⟨b, rfl, Nat.lt_of_lt_of_le hlt hb.size, fun j u hu => by rw [hb.cell (p := ⟨b, j, none⟩) hlt]; exact hc j u hu⟩
/-- Tokens so far: a row that is newer than block number B. -/
def TokL (B : Nat) (w : World) (lv : Value) (out : List Tok) : Prop := w.ownsRow B 26 6 lv out.length (out.flatMap tcells)
theorem TokL.nil (B : Nat) (w : World) : TokL B w (.slice none 0 0) [] := World.ownsRow_nil _ _ _ _
theorem TokL.keeps {B g : Nat} {w w' : World} {T : TypeId} {v : Value} {xs r : List Int} {lv : Value} {out : List Tok} (h : TokL B w lv out) (hn : Now T g v xs r w w') (hB : g < B) : TokL B w' lv out := by
  unfold TokL at h ⊢
  refine h.kept hn.gw ?_
  by_cases e : lv.ownBlock = none
  · exact .inl e
  · refine .inr fun e2 => ?_
    have := (h.lt g e2).1
    omega
theorem TokL.row {B : Nat} {w : World} {lv : Value} {out : List Tok} (h : TokL B w lv out) : ∀ k, lv.ownBlock = some k → B ≤ k := fun k hk => (World.ownsRow.lt h k hk).1
theorem TokL.rd {B : Nat} {w : World} {lv : Value} {out : List Tok} (h : TokL B w lv out) : RdT w lv out := by
  have hl := World.ownsRow.lt h
  have hc := fun g hg => World.ownsRow.cells h (g := g) hg
  unfold TokL at h
  rcases h.2 with ⟨rfl, h0⟩ | ⟨g, cap, cur, rfl, b, c, d, _⟩
  · exact ⟨none, 0, by rw [h0], by omega, fun hp => by omega⟩
  · refine ⟨_, cap, rfl, d, fun _ => ⟨g, rfl, (hl g rfl).2, fun j u hu => ?_⟩⟩
    have := hc g rfl j u hu
    have hadd : (⟨g, 0, none⟩ : Addr).add j = ⟨g, j, none⟩ := by unfold Addr.add; split <;> simp_all
    rw [hadd] at this
    exact this
theorem info_tok : (Try.prog.info? 26).map (fun i => (i.zero, i.size, i.bytes)) = some (some (.agg #[.int .i64 0, .string ⟨#[]⟩, .int .i64 0, .bool false, .bool false, .bool false]), 6, 40) := by kernel_rfl
theorem cell_six_new (w : World) (t : Tok) (T : TypeId) : ∀ j u, (tcells t)[j]? = some u → (w.alloc (.cells #[.int .i64 t.kind, .string t.text, .int .i64 t.int, .bool t.whole, .bool t.sign, .bool t.id] T)).cell? ((⟨w.heap.size, 0, none⟩ : Addr).add j) = some u := by
  intro j u hj
  have hadd : (⟨w.heap.size, 0, none⟩ : Addr).add j = ⟨w.heap.size, j, none⟩ := by unfold Addr.add; split <;> simp_all
  rw [hadd]
  unfold World.cell?
  rw [heap_alloc_self]
  match j, hj with
  | 0, hj => simpa [tcells] using hj
  | 1, hj => simpa [tcells] using hj
  | 2, hj => simpa [tcells] using hj
  | 3, hj => simpa [tcells] using hj
  | 4, hj => simpa [tcells] using hj
  | 5, hj => simpa [tcells] using hj
  | j + 6, hj => simp [tcells] at hj

theorem tcells_one (t : Tok) : ∀ u ∈ tcells t, u.oneCell' = true := by
  intro u hu
  simp only [tcells, List.mem_cons, List.not_mem_nil, or_false] at hu
  rcases hu with rfl | rfl | rfl | rfl | rfl | rfl <;> rfl

def SignsOk (xs : List Int) : Prop := ∀ x ∈ xs, 0 ≤ x ∧ x ≤ 1114111
/-- What All answers. -/
def AllOf (w : World) (l : List Tok) (e : Ending) (w' : World) : Prop := ∃ v, e = .returned v ∧ RdT w' v l ∧ Below w.heap.size w w'

set_option maxRecDepth 100000 in
set_option maxHeartbeats 1600000 in
theorem all_any (xs : List Int) (v : Value) (w : World) (hv : Rd .i32 w v xs) (hlen : xs.length ≤ 100000000) (hok : SignsOk xs) :
    Calls Try.prog 8 #[v] w (AllOf w (toks xs)) := by
  obtain ⟨i0, hi, hz0, hz1, hz2⟩ := info_parts info_tok
  have hst : St 38 w.heap.size v xs xs (w.alloc (.cells #[v, .int .i64 0] 38)) := by
    refine ⟨?_, hv.below ((Below.refl _ _).alloc (Nat.le_refl _) _), fun hp k hk e => by have := hv.own_lt hp k hk; omega, List.suffix_refl _, hlen, hok⟩
    rw [heap_alloc_self]
    simp
  have h1 := hst.now
  have hinv : [] ++ toksC (cm xs) = toks xs := (toks_eq xs).symm
  have hcl := cm_len xs
  obtain ⟨a, c, rfl, hle, _⟩ := hv
  clear hst
  have hgB : w.heap.size < (w.alloc (.cells #[.slice a xs.length c, .int .i64 0] 38)).heap.size := by simp
  have hB0 : Below w.heap.size w (w.alloc (.cells #[.slice a xs.length c, .int .i64 0] 38)) := (Below.refl _ _).alloc (Nat.le_refl _) _
  go_enter Try.func8, Try.ntmps8
  go_wp2_with (go_at_call 11; (with_reducible refine (comments_any h1).mono ?_); rintro e w1 ⟨rfl, h1⟩)
  generalize w.alloc (.cells #[.slice a xs.length c, .int .i64 0] 38) = WA at *
  go_loopw [4] (fun lv wr => ∃ out q, out ++ toksC q = toks xs ∧ out.length + q.length ≤ xs.length ∧ TokL WA.heap.size wr lv out ∧ Now 38 w.heap.size (.slice a xs.length c) xs q WA wr) (fun _ wr => left w.heap.size xs.length wr)
  case atStart => exact ⟨[], cm xs, hinv, by simpa using hcl, TokL.nil _ _, h1⟩
  case round =>
    obtain ⟨out, q, hq, hol, ho, hn⟩ := hrel
    clear hinv h1 hcl
    have HQ := Lib.hid hq
    clear hq
    have hws := hn.gw.size
    have hnr := hn.st.now
    have HN := Lib.hid hn
    clear hn
    by_cases c0 : q.isEmpty = true
    · have HX := Lib.hid (show toks xs = out by rw [← HQ.out]; unfold toksC; rw [if_pos c0, List.append_nil])
      go_wp2_with (go_at_call 12; (with_reducible refine (ended_any hnr).mono ?_); rintro e w1 ⟨rfl, h1⟩)
      go_ret
      refine ⟨_, rfl, ?_, hB0.trans ((h1.since HN.out).gw.below (Nat.le_refl _) (Nat.le_of_lt hgB))⟩
      rw [HX.out]
      exact (ho.keeps h1 hgB).rd
    · have c0' : q.isEmpty = false := by simpa using c0
      have hlq := ne_len c0
      have hlt := tokT_lt hlq
      have hcm := cm_len (tokT q).2
      have HX := Lib.hid (show out ++ [(tokT q).1] ++ toksC (cm (tokT q).2) = toks xs by
        rw [← HQ.out, List.append_assoc, ← toks_eq]
        conv => rhs; unfold toksC
        rw [if_neg c0]; rfl)
      have hol2 : (out ++ [(tokT q).1]).length + (cm (tokT q).2).length ≤ xs.length := by rw [List.length_append]; simp; omega
      clear c0
      go_wp2_with (first | (go_at_call 12; (with_reducible refine (ended_any hnr).mono ?_); rintro e w1 ⟨rfl, h1⟩) | (go_at_call 13; (with_reducible refine (token_any h1 hlq).mono ?_); rintro e w1 ⟨rfl, h1⟩; have hs1 := h1.gw.size; simp only [Tok.val]) | (go_at_call 11; (with_reducible refine (comments_any h4).mono ?_); rintro e w1 ⟨rfl, h5⟩) | (at_builtin; refine wpList_append_own _ rfl _ _ 24 rfl WA.heap.size 26 i0 (.agg #[.int .i64 0, .string ⟨#[]⟩, .int .i64 0, .bool false, .bool false, .bool false]) 6 40 Try.underlying24 hi hz0 hz1 hz2 rfl (by decide) _ _ _ rfl ((ho.keeps h1 hgB).alloc _) ⟨_, 0, none⟩ 1 1 (tcells (tokT q).1) rfl rfl (cell_six_new _ _ _) (tcells_one _) (by unfold maxLen; omega) (by omega) (by simp; omega) ?_; intro v' w4 ho4 hg4 _; have h4 := (((h1.since HN.out).alloc _).grown hg4 ho.row).st.now))
      have hT : TokL WA.heap.size w4 v' (out ++ [(tokT q).1]) := by
        unfold TokL
        rw [List.length_append, List.flatMap_append]
        simpa using ho4
      have h6 := ((h1.since HN.out).alloc (.cells #[.int .i64 (tokT q).1.kind, .string (tokT q).1.text, .int .i64 (tokT q).1.int, .bool (tokT q).1.whole, .bool (tokT q).1.sign, .bool (tokT q).1.id] 26)).grown hg4 ho.row
      have h7 := h5.since h6
      go_roundw
      case rel => exact ⟨_, _, HX.out, hol2, hT.keeps h5 hgB, h7⟩
      case measure => rw [h7.left, HN.out.left]; omega
end Go.Proofs.Ytlajkfnlkkgneaa
namespace Go.Proofs.Ytlajkfnlkkgneaa
open Go.RowKit

theorem readS_ok (s : ByteArray) : SignsOk (readS s) := fun x hx => by
  have := (valid_iff x).1 (readS_good s x hx).1
  omega

def tokB (t u : Tok) : Bool := t.kind == u.kind && (t.text.toList == u.text.toList && (t.int == u.int && (t.whole == u.whole && (t.sign == u.sign && t.id == u.id))))
theorem tokB_iff (t u : Tok) : tokB t u = true ↔ t = u := by
  constructor
  · intro h
    unfold tokB at h
    simp only [Bool.and_eq_true, beq_iff_eq] at h
    obtain ⟨h1, h2, h3, h4, h5, h6⟩ := h
    rw [ByteArray.toList_eq, ByteArray.toList_eq] at h2
    obtain ⟨k, ⟨⟨x⟩⟩, n, a, b, c⟩ := t
    obtain ⟨k', ⟨⟨x'⟩⟩, n', a', b', c'⟩ := u
    simp only at h1 h2 h3 h4 h5 h6
    subst h1 h2 h3 h4 h5 h6
    rfl
  · rintro rfl
    simp [tokB]
set_option maxRecDepth 100000 in
set_option maxHeartbeats 400000 in
theorem tokEq_run (t u : Tok) (w : World) : (binOp .eql 26 t.val u.val).run Try.prog w = .ok (.bool (tokB t u)) w := by
  have ht : Try.prog.underlying 26 = some (.struct (Try.prog.fieldsOf 26)) := by kernel_rfl
  have hp : Try.prog.stoodInHeld 26 = false := by kernel_rfl
  simp only [Tok.val, run_eql_struct]
  rw [run_equalIn_agg _ _ _ _ _ ht hp]
  have hf := ht
  rw [Try.underlying26] at hf
  injection hf with hf
  injection hf with hf
  rw [← hf]
  simp [go_sem, Op.eqFields, Try.underlying3, Try.underlying9, Try.underlying4]
  unfold tokB
  repeat' split
  all_goals simp_all
set_option maxRecDepth 100000 in
set_option maxHeartbeats 400000 in
theorem tokNe_run (t u : Tok) (w : World) : (binOp .neq 26 t.val u.val).run Try.prog w = .ok (.bool (!tokB t u)) w := by
  have h := tokEq_run t u w
  simp only [Tok.val, run_eql_struct, run_neq_struct] at h ⊢
  generalize (Op.equalIn 10000 26 _ _).run Try.prog w = R at *
  cases R with
  | ok b w1 => simp [Result.andThen] at h ⊢; rw [h.1]; exact ⟨rfl, h.2⟩
  | halt x w1 => simp [Result.andThen] at h

/-- []byte(s), as a slice that reads as s's bytes. -/
theorem rd_bytes (w : World) (s : ByteArray) : Rd .u8 (w.drew.alloc (.cells (bytesRow s (grownCap w s.size 0 5)) 5 ((bytesRow s (grownCap w s.size 0 5)).size, (bytesRow s (grownCap w s.size 0 5)).size + 1))) (.slice (some ⟨w.heap.size, 0, none⟩) s.size (grownCap w s.size 0 5)) (nums s) := by
  have hle : s.size ≤ grownCap w s.size 0 5 := grownCap_ge w s.size 0 5
  have ho := OwnB.made w s (grownCap w s.size 0 5) 5 hle (nth (nums s)) (fun j _ => rfl)
  have hl := nums_length s
  rw [← hl] at ho
  rw [← hl] at hle ⊢
  exact ho.rd (cap := _) hle (fun j _ => rfl)

theorem AllOf.since {w0 w w' : World} {l : List Tok} {e : Ending} (h : AllOf w l e w') (hb : Below w0.heap.size w0 w) : AllOf w0 l e w' := by
  obtain ⟨v, he, hr, hb2⟩ := h
  exact ⟨v, he, hr, below_seq hb hb2⟩

set_option maxRecDepth 100000 in
set_option maxHeartbeats 800000 in
theorem allT_any (s : ByteArray) (w : World) (hs : s.size ≤ 100000000) :
    Calls Try.prog 6 #[.string s] w (AllOf w (toks (readS s))) := by
  have hcv := run_bytes_of_string (P := Try.prog) w 9 34 5 s Try.underlying9 Try.underlying34 Try.underlying5
  have hrd := rd_bytes w s
  have hb : Below w.heap.size w (w.drew.alloc (.cells (bytesRow s (grownCap w s.size 0 5)) 5 ((bytesRow s (grownCap w s.size 0 5)).size, (bytesRow s (grownCap w s.size 0 5)).size + 1))) := ((Below.refl _ w).drew).alloc (Nat.le_refl _) _
  generalize grownCap w s.size 0 5 = cap at *
  generalize w.drew.alloc (.cells (bytesRow s cap) 5 ((bytesRow s cap).size, (bytesRow s cap).size + 1)) = wb at *
  have hnl : (nums s).length ≤ 1000000000 := by rw [nums_length]; omega
  have hrl := readS_length s
  go_enter Try.func6, Try.ntmps6
  go_wp2_with fail
  refine (refread_any _ _ _ hrd hnl).mono ?_
  rintro e w2 ⟨⟨v2, rfl, hr2⟩, hb2⟩
  rw [str_nums] at hr2
  go_wp2_with fail
  refine (all_any _ _ _ hr2 (by omega) (readS_ok s)).mono ?_
  rintro e w3 ⟨v3, rfl, hr3, hb3⟩
  go_wp2
  go_ret
  exact ⟨_, rfl, hr3, below_seq (below_seq hb hb2) hb3⟩
end Go.Proofs.Ytlajkfnlkkgneaa
