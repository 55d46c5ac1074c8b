
import Derived.Test.YtlajkfnlkkgneaaTkW
import Derived.Test.YtlajkfnlkkgneaaTkTk
import Derived.Test.YtlajkfnlkkgneaaTjF
import Derived.Maps.AppendAt
import Derived.Laws.AppendOwnNone
namespace Go.Proofs.Ytlajkfnlkkgneaa
open Go.RowKit
theorem TokL.base {B B' : Nat} {w : World} {v : Value} {l : List Tok} (h : TokL B w v l) (hb : B' ≤ B) : TokL B' w v l :=
  ⟨h.1, h.2.imp id fun ⟨g, cap, cur, h1, h2, h3⟩ => ⟨g, cap, cur, h1, Nat.le_trans hb h2, h3⟩⟩
theorem TokL.val {B : Nat} {w : World} {v : Value} {l : List Tok} (h : TokL B w v l) : (v = .slice none 0 0 ∧ l = []) ∨ ∃ g c, v = .slice (some ⟨g, 0, none⟩) l.length c ∧ B ≤ g ∧ g < w.heap.size := by
  rcases h.2 with ⟨rfl, hn⟩ | ⟨g, cap, cur, rfl, hb, hg, _⟩
  · exact .inl ⟨rfl, List.eq_nil_of_length_eq_zero hn⟩
  · exact .inr ⟨g, cap, rfl, hb, (Array.getElem?_eq_some_iff.1 hg).1⟩
/-- A row that is kept by what leaves all old blocks as they were. -/
theorem TokL.below {B : Nat} {w w' : World} {v : Value} {l : List Tok} (h : TokL B w v l) (hb : Below w.heap.size w w') : TokL B w' v l := by
  refine ⟨h.1, ?_⟩
  rcases h.2 with hn | ⟨g, cap, cur, rfl, hB, hg, rest⟩
  · exact .inl hn
  · exact .inr ⟨g, cap, cur, rfl, hB, by rw [hb.block g (Array.getElem?_eq_some_iff.1 hg).1]; exact hg, rest⟩
/-- What All answers, as a row of its own. -/
def AllO (w : World) (l : List Tok) (e : Ending) (w' : World) : Prop := ∃ v, e = .returned v ∧ TokL w.heap.size w' v l ∧ Below w.heap.size w w'
set_option maxRecDepth 100000 in
set_option maxHeartbeats 1600000 in
theorem allO_any (xs : List Int) (v : Value) (w : World) (hv : Rd .i32 w v xs) (hlen : xs.length ≤ 100000000) (hok : SignsOk xs) :
    Calls Try.prog 8 #[v] w (AllO w (toks xs)) := by
  obtain ⟨i0, hi, hz0, hz1, hz2⟩ := info_parts info_tok
  have hst : St 38 w.heap.size v xs xs (w.alloc (.cells #[v, .int .i64 0] 38)) := by
    refine ⟨?_, hv.below ((Below.refl _ _).alloc (Nat.le_refl _) _), fun hp k hk e => by have := hv.own_lt hp k hk; omega, List.suffix_refl _, hlen, hok⟩
    rw [heap_alloc_self]
    simp
  have h1 := hst.now
  have hinv : [] ++ toksC (cm xs) = toks xs := (toks_eq xs).symm
  have hcl := cm_len xs
  obtain ⟨a, c, rfl, hle, _⟩ := hv
  clear hst
  have hgB : w.heap.size < (w.alloc (.cells #[.slice a xs.length c, .int .i64 0] 38)).heap.size := by simp
  have hB0 : Below w.heap.size w (w.alloc (.cells #[.slice a xs.length c, .int .i64 0] 38)) := (Below.refl _ _).alloc (Nat.le_refl _) _
  go_enter Try.func8, Try.ntmps8
  go_wp2_with (go_at_call 11; (with_reducible refine (comments_any h1).mono ?_); rintro e w1 ⟨rfl, h1⟩)
  generalize w.alloc (.cells #[.slice a xs.length c, .int .i64 0] 38) = WA at *
  go_loopw [4] (fun lv wr => ∃ out q, out ++ toksC q = toks xs ∧ out.length + q.length ≤ xs.length ∧ TokL WA.heap.size wr lv out ∧ Now 38 w.heap.size (.slice a xs.length c) xs q WA wr) (fun _ wr => left w.heap.size xs.length wr)
  case atStart => exact ⟨[], cm xs, hinv, by simpa using hcl, TokL.nil _ _, h1⟩
  case round =>
    obtain ⟨out, q, hq, hol, ho, hn⟩ := hrel
    clear hinv h1 hcl
    have HQ := Lib.hid hq
    clear hq
    have hws := hn.gw.size
    have hnr := hn.st.now
    have HN := Lib.hid hn
    clear hn
    by_cases c0 : q.isEmpty = true
    · have HX := Lib.hid (show toks xs = out by rw [← HQ.out]; unfold toksC; rw [if_pos c0, List.append_nil])
      go_wp2_with (go_at_call 12; (with_reducible refine (ended_any hnr).mono ?_); rintro e w1 ⟨rfl, h1⟩)
      go_ret
      refine ⟨_, rfl, ?_, hB0.trans ((h1.since HN.out).gw.below (Nat.le_refl _) (Nat.le_of_lt hgB))⟩
      rw [HX.out]
      exact (ho.keeps h1 hgB).base (Nat.le_of_lt hgB)
    · have c0' : q.isEmpty = false := by simpa using c0
      have hlq := ne_len c0
      have hlt := tokT_lt hlq
      have hcm := cm_len (tokT q).2
      have HX := Lib.hid (show out ++ [(tokT q).1] ++ toksC (cm (tokT q).2) = toks xs by
        rw [← HQ.out, List.append_assoc, ← toks_eq]
        conv => rhs; unfold toksC
        rw [if_neg c0]; rfl)
      have hol2 : (out ++ [(tokT q).1]).length + (cm (tokT q).2).length ≤ xs.length := by rw [List.length_append]; simp; omega
      clear c0
      go_wp2_with (first | (go_at_call 12; (with_reducible refine (ended_any hnr).mono ?_); rintro e w1 ⟨rfl, h1⟩) | (go_at_call 13; (with_reducible refine (token_any h1 hlq).mono ?_); rintro e w1 ⟨rfl, h1⟩; have hs1 := h1.gw.size; simp only [Tok.val]) | (go_at_call 11; (with_reducible refine (comments_any h4).mono ?_); rintro e w1 ⟨rfl, h5⟩) | (at_builtin; refine wpList_append_own _ rfl _ _ 24 rfl WA.heap.size 26 i0 (.agg #[.int .i64 0, .string ⟨#[]⟩, .int .i64 0, .bool false, .bool false, .bool false]) 6 40 Try.underlying24 hi hz0 hz1 hz2 rfl (by decide) _ _ _ rfl ((ho.keeps h1 hgB).alloc _) ⟨_, 0, none⟩ 1 1 (tcells (tokT q).1) rfl rfl (cell_six_new _ _ _) (tcells_one _) (by unfold maxLen; omega) (by omega) (by simp; omega) ?_; intro v' w4 ho4 hg4 _; have h4 := (((h1.since HN.out).alloc _).grown hg4 ho.row).st.now))
      have hT : TokL WA.heap.size w4 v' (out ++ [(tokT q).1]) := by
        unfold TokL
        rw [List.length_append, List.flatMap_append]
        simpa using ho4
      have h6 := ((h1.since HN.out).alloc (.cells #[.int .i64 (tokT q).1.kind, .string (tokT q).1.text, .int .i64 (tokT q).1.int, .bool (tokT q).1.whole, .bool (tokT q).1.sign, .bool (tokT q).1.id] 26)).grown hg4 ho.row
      have h7 := h5.since h6
      go_roundw
      case rel => exact ⟨_, _, HX.out, hol2, hT.keeps h5 hgB, h7⟩
      case measure => rw [h7.left, HN.out.left]; omega
set_option maxRecDepth 100000 in
set_option maxHeartbeats 800000 in
theorem allTO_any (s : ByteArray) (w : World) (hs : s.size ≤ 100000000) :
    Calls Try.prog 6 #[.string s] w (AllO w (toks (readS s))) := by
  have hcv := run_bytes_of_string (P := Try.prog) w 9 34 5 s Try.underlying9 Try.underlying34 Try.underlying5
  have hrd := rd_bytes w s
  have hb : Below w.heap.size w (w.drew.alloc (.cells (bytesRow s (grownCap w s.size 0 5)) 5 ((bytesRow s (grownCap w s.size 0 5)).size, (bytesRow s (grownCap w s.size 0 5)).size + 1))) := ((Below.refl _ w).drew).alloc (Nat.le_refl _) _
  generalize grownCap w s.size 0 5 = cap at *
  generalize w.drew.alloc (.cells (bytesRow s cap) 5 ((bytesRow s cap).size, (bytesRow s cap).size + 1)) = wb at *
  have hnl : (nums s).length ≤ 1000000000 := by rw [nums_length]; omega
  have hrl := readS_length s
  go_enter Try.func6, Try.ntmps6
  go_wp2_with fail
  refine (refread_any _ _ _ hrd hnl).mono ?_
  rintro e w2 ⟨⟨v2, rfl, hr2⟩, hb2⟩
  rw [str_nums] at hr2
  go_wp2_with fail
  refine (allO_any _ _ _ hr2 (by omega) (readS_ok s)).mono ?_
  rintro e w3 ⟨v3, rfl, hr3, hb3⟩
  go_wp2
  go_ret
  exact ⟨_, rfl, hr3.base (Nat.le_trans hb.size hb2.size), below_seq (below_seq hb hb2) hb3⟩
end Go.Proofs.Ytlajkfnlkkgneaa
