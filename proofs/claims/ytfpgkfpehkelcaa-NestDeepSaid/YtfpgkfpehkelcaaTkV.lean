
import Derived.Test.YtfpgkfpehkelcaaTkU
import Derived.Test.YtfpgkfpehkelcaaPtsBl
import Derived.Laws.StructEq
namespace Go.Proofs.Ytfpgkfpehkelcaa
open Go.RowKit

theorem readS_ok (s : ByteArray) : SignsOk (readS s) := fun x hx => by
  have := (valid_iff x).1 (readS_good s x hx).1
  omega

def tokB (t u : Tok) : Bool := t.kind == u.kind && (t.text.toList == u.text.toList && (t.int == u.int && (t.whole == u.whole && (t.sign == u.sign && t.id == u.id))))
theorem tokB_iff (t u : Tok) : tokB t u = true ↔ t = u := by
  constructor
  · intro h
    unfold tokB at h
    simp only [Bool.and_eq_true, beq_iff_eq] at h
    obtain ⟨h1, h2, h3, h4, h5, h6⟩ := h
    rw [ByteArray.toList_eq, ByteArray.toList_eq] at h2
    obtain ⟨k, ⟨⟨x⟩⟩, n, a, b, c⟩ := t
    obtain ⟨k', ⟨⟨x'⟩⟩, n', a', b', c'⟩ := u
    simp only at h1 h2 h3 h4 h5 h6
    subst h1 h2 h3 h4 h5 h6
    rfl
  · rintro rfl
    simp [tokB]
theorem tokEq_run (t u : Tok) (w : World) : (binOp .eql 26 t.val u.val).run Try.prog w = .ok (.bool (tokB t u)) w := by
  have ht : Try.prog.underlying 26 = some (.struct (Try.prog.fieldsOf 26)) := by kernel_rfl
  have hp : Try.prog.stoodInHeld 26 = false := by kernel_rfl
  simp only [Tok.val, run_eql_struct]
  rw [run_equalIn_agg _ _ _ _ _ ht hp]
  have hf := ht
  rw [Try.underlying26] at hf
  injection hf with hf
  injection hf with hf
  rw [← hf]
  simp [go_sem, Op.eqFields, Try.underlying3, Try.underlying9, Try.underlying4]
  unfold tokB
  repeat' split
  all_goals simp_all
theorem tokNe_run (t u : Tok) (w : World) : (binOp .neq 26 t.val u.val).run Try.prog w = .ok (.bool (!tokB t u)) w := by
  have h := tokEq_run t u w
  simp only [Tok.val, run_eql_struct, run_neq_struct] at h ⊢
  generalize (Op.equalIn 10000 26 _ _).run Try.prog w = R at *
  cases R with
  | ok b w1 => simp [Result.andThen] at h ⊢; rw [h.1]; exact ⟨rfl, h.2⟩
  | halt x w1 => simp [Result.andThen] at h

/-- []byte(s), as a slice that reads as s's bytes. -/
theorem rd_bytes (w : World) (s : ByteArray) : Rd .u8 (w.drew.alloc (.cells (bytesRow s (grownCap w s.size 0 5)) 5 ((bytesRow s (grownCap w s.size 0 5)).size, (bytesRow s (grownCap w s.size 0 5)).size + 1))) (.slice (some ⟨w.heap.size, 0, none⟩) s.size (grownCap w s.size 0 5)) (nums s) := by
  have hle : s.size ≤ grownCap w s.size 0 5 := grownCap_ge w s.size 0 5
  have ho := OwnB.made w s (grownCap w s.size 0 5) 5 hle (nth (nums s)) (fun j _ => rfl)
  have hl := nums_length s
  rw [← hl] at ho
  rw [← hl] at hle ⊢
  exact ho.rd (cap := _) hle (fun j _ => rfl)

theorem AllOf.since {w0 w w' : World} {l : List Tok} {e : Ending} (h : AllOf w l e w') (hb : Below w0.heap.size w0 w) : AllOf w0 l e w' := by
  obtain ⟨v, he, hr, hb2⟩ := h
  exact ⟨v, he, hr, below_seq hb hb2⟩

set_option maxRecDepth 100000 in
set_option maxHeartbeats 800000 in
theorem allT_any (s : ByteArray) (w : World) (hs : s.size ≤ 100000000) :
    Calls Try.prog 8 #[.string s] w (AllOf w (toks (readS s))) := by
  have hcv := run_bytes_of_string (P := Try.prog) w 9 46 5 s Try.underlying9 Try.underlying46 Try.underlying5
  have hrd := rd_bytes w s
  have hb : Below w.heap.size w (w.drew.alloc (.cells (bytesRow s (grownCap w s.size 0 5)) 5 ((bytesRow s (grownCap w s.size 0 5)).size, (bytesRow s (grownCap w s.size 0 5)).size + 1))) := ((Below.refl _ w).drew).alloc (Nat.le_refl _) _
  generalize grownCap w s.size 0 5 = cap at *
  generalize w.drew.alloc (.cells (bytesRow s cap) 5 ((bytesRow s cap).size, (bytesRow s cap).size + 1)) = wb at *
  have hnl : (nums s).length ≤ 1000000000 := by rw [nums_length]; omega
  have hrl := readS_length s
  go_enter Try.func8, Try.ntmps8
  go_wp2_with fail
  refine (refread_any _ _ _ hrd hnl).mono ?_
  rintro e w2 ⟨⟨v2, rfl, hr2⟩, hb2⟩
  rw [str_nums] at hr2
  go_wp2_with fail
  refine (all_any _ _ _ hr2 (by omega) (readS_ok s)).mono ?_
  rintro e w3 ⟨v3, rfl, hr3, hb3⟩
  go_wp2
  go_ret
  exact ⟨_, rfl, hr3, below_seq (below_seq hb hb2) hb3⟩
end Go.Proofs.Ytfpgkfpehkelcaa
