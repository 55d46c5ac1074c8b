
import Derived.Test.YtlajkfnlkkgneaaTkO3
namespace Go.Proofs.Ytlajkfnlkkgneaa
open Go.RowKit
section
variable {g b : Nat} {v : Value} {xs r : List Int} {w0 w : World} {t : Tok}
theorem TokB.kind (h : TokB b t w) (x : Int) : TokB b { t with kind := x } (w.setCell ⟨b, 0, none⟩ (.int .i64 x)) := by
  unfold TokB at h ⊢
  simp [World.setCell, Array.getElem?_modify, h]

theorem took_yes (h : Now 38 g v xs r w0 w) (s : ByteArray) (l : List Int) (hl : nums s = l) (hs : s.size ≤ 16) (ha : ∀ x ∈ l, 0 ≤ x ∧ x < 128) (hp : pre l r = true) :
    Calls Try.prog 15 #[.pointer (some ⟨g, 0, none⟩), .string s] w fun e w' => e = .returned (.bool true) ∧ Now 38 g v xs (dp l.length r) w0 w' :=
  (took_any h s l hl hs ha).mono fun _ _ hh => by
    rcases hh with ⟨he, _, hn⟩ | ⟨_, hf, _⟩
    · exact ⟨he, hn⟩
    · rw [hp] at hf; cases hf
theorem took_no (h : Now 38 g v xs r w0 w) (s : ByteArray) (l : List Int) (hl : nums s = l) (hs : s.size ≤ 16) (ha : ∀ x ∈ l, 0 ≤ x ∧ x < 128) (hp : pre l r = false) :
    Calls Try.prog 15 #[.pointer (some ⟨g, 0, none⟩), .string s] w fun e w' => e = .returned (.bool false) ∧ Now 38 g v xs r w0 w' :=
  (took_any h s l hl hs ha).mono fun _ _ hh => by
    rcases hh with ⟨_, hf, _⟩ | ⟨he, _, hn⟩
    · rw [hp] at hf; cases hf
    · exact ⟨he, hn⟩

set_option maxRecDepth 100000 in
set_option maxHeartbeats 1600000 in
theorem number_any (h : Now 38 g v xs r w0 w) (hl : 1 ≤ r.length) :
    Calls Try.prog 25 #[.pointer (some ⟨g, 0, none⟩)] w fun e w' => e = .returned (numberT r).1.val ∧ Now 38 g v xs (numberT r).2 w0 w' := by
  have hgo := h.st.lt
  have hws := h.gw.size
  have hA := (h.alloc zeroT).st.now
  have hZ := TokB.zero w
  by_cases hn : nbg (num4 r) 0 = true
  · have e : numberT r = ({ plainT r with kind := 12, text := runesBytes (nm (num4 r)).1 }, (nm (num4 r)).2) := by unfold numberT; rw [if_pos hn]
    rw [e]
    clear e
    go_enter Try.func25, Try.ntmps25
    go_wp2_with (go_at_call 37; (with_reducible refine (plain_any hA hl).mono ?_); rintro e w1 ⟨rfl, h1⟩; simp only [Tok.val])
    have hB0 : Now 38 g v xs (num4 r) w0 (w1.alloc (.cells #[.int .i64 (plainT r).kind, .string (plainT r).text, .int .i64 (plainT r).int, .bool (plainT r).whole, .bool (plainT r).sign, .bool (plainT r).id] 26)) := (h1.since (h.alloc zeroT)).alloc _
    have hZ1 := (hZ.keep h1 hgo).alloc (.cells #[.int .i64 (plainT r).kind, .string (plainT r).text, .int .i64 (plainT r).int, .bool (plainT r).whole, .bool (plainT r).sign, .bool (plainT r).id] 26)
    have hT : TokB w1.heap.size (plainT r) (w1.alloc (.cells #[.int .i64 (plainT r).kind, .string (plainT r).text, .int .i64 (plainT r).int, .bool (plainT r).whole, .bool (plainT r).sign, .bool (plainT r).id] 26)) := heap_alloc_self _ _
    have hg4 : w.heap.size < w1.heap.size := by have := h1.gw.size; simp at this; omega
    have hg5 : g < w1.heap.size := by omega
    clear h1 hA hZ
    generalize w1.alloc (.cells #[.int .i64 (plainT r).kind, .string (plainT r).text, .int .i64 (plainT r).int, .bool (plainT r).whole, .bool (plainT r).sign, .bool (plainT r).id] 26) = wB at *
    generalize w1.heap.size = b4 at *
    have h1 := hB0.st.now
    go_wp2_with (go_at_call 26; (with_reducible refine (nbg_0 h1).mono ?_); rintro e w1 ⟨rfl, h1⟩; have hc4 := (hT.keep h1 hg5).cells)
    have hS := (h1.since hB0).set (p := ⟨b4, 0, none⟩) (by show w0.heap.size ≤ b4; omega) (.int .i64 12)
    have hT2 := (hT.keep h1 hg5).kind 12
    have hZ2 := (hZ1.keep h1 hgo).other (p := ⟨b4, 0, none⟩) (by show w.heap.size ≠ b4; omega) (.int .i64 12)
    clear hc4 h1
    generalize w1.setCell ⟨b4, 0, none⟩ (.int .i64 12) = wC at *
    have h1 := hS.st.now
    go_wp2_with (go_at_call 34; (with_reducible refine (nameW_any h1).mono ?_); rintro e w1 ⟨rfl, h1⟩; have hc4 := (hT2.keep h1 hg5).cells; have hcz := (hZ2.keep h1 hgo).cells)
    refine bodyPost_ret (v := Tok.val { plainT r with kind := 12, text := runesBytes (nm (num4 r)).1 }) ?_ rfl ⟨rfl, ?_⟩
    · simp [results, Try.results25, go_sem, hcz, Tok.val]
    · exact ((h1.since hS).set (p := ⟨b4, 1, none⟩) (by show w0.heap.size ≤ b4; omega) _).put6 hws _ _ _ _ _ _
  · have hn2 : nbg (num4 r) 0 = false := by simpa using hn
    by_cases hp : pre [37] (num4 r) = true
    · have e : numberT r = ({ plainT r with kind := 11 }, dp 1 (num4 r)) := by unfold numberT; rw [if_neg hn, if_pos hp]
      rw [e]
      clear e hn
      have HP := Lib.hid hp
      clear hp
      go_enter Try.func25, Try.ntmps25
      go_wp2_with (go_at_call 37; (with_reducible refine (plain_any hA hl).mono ?_); rintro e w1 ⟨rfl, h1⟩; simp only [Tok.val])
      have hB0 : Now 38 g v xs (num4 r) w0 (w1.alloc (.cells #[.int .i64 (plainT r).kind, .string (plainT r).text, .int .i64 (plainT r).int, .bool (plainT r).whole, .bool (plainT r).sign, .bool (plainT r).id] 26)) := (h1.since (h.alloc zeroT)).alloc _
      have hZ1 := (hZ.keep h1 hgo).alloc (.cells #[.int .i64 (plainT r).kind, .string (plainT r).text, .int .i64 (plainT r).int, .bool (plainT r).whole, .bool (plainT r).sign, .bool (plainT r).id] 26)
      have hT : TokB w1.heap.size (plainT r) (w1.alloc (.cells #[.int .i64 (plainT r).kind, .string (plainT r).text, .int .i64 (plainT r).int, .bool (plainT r).whole, .bool (plainT r).sign, .bool (plainT r).id] 26)) := heap_alloc_self _ _
      have hg4 : w.heap.size < w1.heap.size := by have := h1.gw.size; simp at this; omega
      have hg5 : g < w1.heap.size := by omega
      clear h1 hA hZ
      generalize w1.alloc (.cells #[.int .i64 (plainT r).kind, .string (plainT r).text, .int .i64 (plainT r).int, .bool (plainT r).whole, .bool (plainT r).sign, .bool (plainT r).id] 26) = wB at *
      generalize w1.heap.size = b4 at *
      have h1 := hB0.st.now
      go_wp2_with (first | (go_at_call 26; (with_reducible refine (nbg_0 h1).mono ?_); rintro e w1 ⟨rfl, h1⟩) | (go_at_call 15; (with_reducible refine (took_yes h1 ⟨#[37]⟩ [37] (by decide) (by decide) (by decide) HP.out).mono ?_); rintro e w1 ⟨rfl, h1⟩; have hc4 := (hT.keep h1 hg5).cells; have hcz := (hZ1.keep h1 hgo).cells))
      refine bodyPost_ret (v := Tok.val { plainT r with kind := 11 }) ?_ rfl ⟨rfl, ?_⟩
      · simp [results, Try.results25, go_sem, hcz, Tok.val]
      · exact ((h1.since hB0).set (p := ⟨b4, 0, none⟩) (by show w0.heap.size ≤ b4; omega) _).put6 hws _ _ _ _ _ _
    · have hp2 : pre [37] (num4 r) = false := by simpa using hp
      have e : numberT r = ({ plainT r with kind := 10 }, num4 r) := by unfold numberT; rw [if_neg hn, if_neg hp]
      rw [e]
      clear e hn hp
      have HP := Lib.hid hp2
      clear hp2
      go_enter Try.func25, Try.ntmps25
      go_wp2_with (go_at_call 37; (with_reducible refine (plain_any hA hl).mono ?_); rintro e w1 ⟨rfl, h1⟩; simp only [Tok.val])
      have hB0 : Now 38 g v xs (num4 r) w0 (w1.alloc (.cells #[.int .i64 (plainT r).kind, .string (plainT r).text, .int .i64 (plainT r).int, .bool (plainT r).whole, .bool (plainT r).sign, .bool (plainT r).id] 26)) := (h1.since (h.alloc zeroT)).alloc _
      have hZ1 := (hZ.keep h1 hgo).alloc (.cells #[.int .i64 (plainT r).kind, .string (plainT r).text, .int .i64 (plainT r).int, .bool (plainT r).whole, .bool (plainT r).sign, .bool (plainT r).id] 26)
      have hT : TokB w1.heap.size (plainT r) (w1.alloc (.cells #[.int .i64 (plainT r).kind, .string (plainT r).text, .int .i64 (plainT r).int, .bool (plainT r).whole, .bool (plainT r).sign, .bool (plainT r).id] 26)) := heap_alloc_self _ _
      have hg4 : w.heap.size < w1.heap.size := by have := h1.gw.size; simp at this; omega
      have hg5 : g < w1.heap.size := by omega
      clear h1 hA hZ
      generalize w1.alloc (.cells #[.int .i64 (plainT r).kind, .string (plainT r).text, .int .i64 (plainT r).int, .bool (plainT r).whole, .bool (plainT r).sign, .bool (plainT r).id] 26) = wB at *
      generalize w1.heap.size = b4 at *
      have h1 := hB0.st.now
      go_wp2_with (first | (go_at_call 26; (with_reducible refine (nbg_0 h1).mono ?_); rintro e w1 ⟨rfl, h1⟩) | (go_at_call 15; (with_reducible refine (took_no h1 ⟨#[37]⟩ [37] (by decide) (by decide) (by decide) HP.out).mono ?_); rintro e w1 ⟨rfl, h1⟩; have hc4 := (hT.keep h1 hg5).cells; have hcz := (hZ1.keep h1 hgo).cells))
      refine bodyPost_ret (v := Tok.val { plainT r with kind := 10 }) ?_ rfl ⟨rfl, ?_⟩
      · simp [results, Try.results25, go_sem, hcz, Tok.val]
      · exact ((h1.since hB0).set (p := ⟨b4, 0, none⟩) (by show w0.heap.size ≤ b4; omega) _).put6 hws _ _ _ _ _ _
end
end Go.Proofs.Ytlajkfnlkkgneaa
