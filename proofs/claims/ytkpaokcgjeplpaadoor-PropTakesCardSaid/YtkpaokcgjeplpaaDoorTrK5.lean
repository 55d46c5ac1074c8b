
import Derived.Test.YtkpaokcgjeplpaaDoorTrH
namespace Go.Proofs.YtkpaokcgjeplpaaDoor
open Go.RowKit
section
variable {g : Nat} {v : Value} {xs r : List Int} {w0 w : World}

set_option maxRecDepth 100000 in
set_option maxHeartbeats 6400000 in
theorem rtok_de43 (h : Now 102 g v xs r w0 w) (hl : 1 ≤ r.length) (H5 : Hid (∀ j, j < 9 → ¬ nth plL j = ah r 0)) (HT : Hid (tokT r = ({ kind := 9, text := Utf8.encode (ah r 0) }, dp 1 r))) (hw : sWhite (ah r 0) = false) (b34 : (ah r 0 == 34) = false) (b39 : (ah r 0 == 39) = false) (b35 : (ah r 0 == 35) = false) (b43 : (ah r 0 == 43) = true) (hn : numB r = false) (b45 : (ah r 0 == 45) = false) (b60 : (ah r 0 == 60) = false) (b64 : (ah r 0 == 64) = false) (hg : nbg r 0 = false) :
    Calls Tryd.prog 61 #[.pointer (some ⟨g, 0, none⟩)] w fun e w' => e = .returned (tokT r).1.val ∧ Now 102 g v xs (tokT r).2 w0 w' := by
  have hgo := h.st.lt
  have hws := h.gw.size
  have hxl := h.st.len
  have hrl := h.st.rlen
  have hA := (h.alloc zeroT).st.now
  have hZ := TokB.zero w
  go_enter Tryd.func61, Tryd.ntmps61
  go_wp2_with (go_at_call 60; (with_reducible refine (sign_0 hA).mono ?_); rintro e w1 ⟨rfl, h1⟩)
  have hW : Now 102 g v xs r (w.alloc zeroT) ((w1.alloc (.cells #[.int .i32 40, .int .i32 91, .int .i32 123, .int .i32 41, .int .i32 93, .int .i32 125, .int .i32 44, .int .i32 58, .int .i32 59] 21)).alloc (.cells #[.int .i64 19, .int .i64 19, .int .i64 19, .int .i64 20, .int .i64 20, .int .i64 20, .int .i64 18, .int .i64 16, .int .i64 17] 3)) := (h1.alloc _).alloc _
  have hpl : ∀ j, j < 9 → ((w1.alloc (.cells #[.int .i32 40, .int .i32 91, .int .i32 123, .int .i32 41, .int .i32 93, .int .i32 125, .int .i32 44, .int .i32 58, .int .i32 59] 21)).alloc (.cells #[.int .i64 19, .int .i64 19, .int .i64 19, .int .i64 20, .int .i64 20, .int .i64 20, .int .i64 18, .int .i64 16, .int .i64 17] 3)).cell? ⟨w1.heap.size, j, none⟩ = some (.int .i32 (nth plL j)) := by
    have hb : ((w1.alloc (.cells #[.int .i32 40, .int .i32 91, .int .i32 123, .int .i32 41, .int .i32 93, .int .i32 125, .int .i32 44, .int .i32 58, .int .i32 59] 21)).alloc (.cells #[.int .i64 19, .int .i64 19, .int .i64 19, .int .i64 20, .int .i64 20, .int .i64 20, .int .i64 18, .int .i64 16, .int .i64 17] 3)).heap[w1.heap.size]? = some (.cells #[.int .i32 40, .int .i32 91, .int .i32 123, .int .i32 41, .int .i32 93, .int .i32 125, .int .i32 44, .int .i32 58, .int .i32 59] 21) := by
      rw [Below.heap_alloc _ _ _ (by simp)]; exact heap_alloc_self _ _
    intro j hj
    simp only [World.cell?, hb]
    have : j = 0 ∨ j = 1 ∨ j = 2 ∨ j = 3 ∨ j = 4 ∨ j = 5 ∨ j = 6 ∨ j = 7 ∨ j = 8 := by omega
    rcases this with rfl | rfl | rfl | rfl | rfl | rfl | rfl | rfl | rfl <;> rfl
  have hkd : ∀ j, j < 9 → ((w1.alloc (.cells #[.int .i32 40, .int .i32 91, .int .i32 123, .int .i32 41, .int .i32 93, .int .i32 125, .int .i32 44, .int .i32 58, .int .i32 59] 21)).alloc (.cells #[.int .i64 19, .int .i64 19, .int .i64 19, .int .i64 20, .int .i64 20, .int .i64 20, .int .i64 18, .int .i64 16, .int .i64 17] 3)).cell? ⟨w1.heap.size + 1, j, none⟩ = some (.int .i64 (nth kdL j)) := by
    have hb := heap_alloc_self (w1.alloc (.cells #[.int .i32 40, .int .i32 91, .int .i32 123, .int .i32 41, .int .i32 93, .int .i32 125, .int .i32 44, .int .i32 58, .int .i32 59] 21)) (.cells #[.int .i64 19, .int .i64 19, .int .i64 19, .int .i64 20, .int .i64 20, .int .i64 20, .int .i64 18, .int .i64 16, .int .i64 17] 3)
    have hsz : (w1.alloc (.cells #[.int .i32 40, .int .i32 91, .int .i32 123, .int .i32 41, .int .i32 93, .int .i32 125, .int .i32 44, .int .i32 58, .int .i32 59] 21)).heap.size = w1.heap.size + 1 := by simp
    rw [hsz] at hb
    intro j hj
    simp only [World.cell?, hb]
    have : j = 0 ∨ j = 1 ∨ j = 2 ∨ j = 3 ∨ j = 4 ∨ j = 5 ∨ j = 6 ∨ j = 7 ∨ j = 8 := by omega
    rcases this with rfl | rfl | rfl | rfl | rfl | rfl | rfl | rfl | rfl <;> rfl
  have hgk : g < w1.heap.size + 1 := by have := h1.gw.size; simp at this; omega
  clear h1 hA
  generalize (w1.alloc (.cells #[.int .i32 40, .int .i32 91, .int .i32 123, .int .i32 41, .int .i32 93, .int .i32 125, .int .i32 44, .int .i32 58, .int .i32 59] 21)).alloc (.cells #[.int .i64 19, .int .i64 19, .int .i64 19, .int .i64 20, .int .i64 20, .int .i64 20, .int .i64 18, .int .i64 16, .int .i64 17] 3) = W at *
  generalize w1.heap.size + 1 = bk at *
  generalize w1.heap.size = bp at *
  have HPL := Lib.hid hpl
  have HKD := Lib.hid hkd
  clear hpl hkd
  go_loop [6] (fun iv => ∃ k : Nat, k ≤ 9 ∧ iv = .int .i64 k) (fun iv => 9 - (intOf iv).toNat)
  case atStart => exact ⟨0, by omega, rfl⟩
  case round =>
    obtain ⟨k, hk, rfl⟩ := hrel
    by_cases hlt : k < 9
    · have c1 := HPL.out k hlt
      have hb : (nth plL k == ah r 0) = false := by simp [H5.out k hlt]
      go_wp2
      go_round
      case rel => exact ⟨k + 1, by omega, by go_num⟩
      case measure => simp [intOf]; omega
    · obtain rfl : k = 9 := by omega
      clear HPL HKD H5
      go_wp2_with (first | (first | (go_at_call 72; refine (refwhite_any _ _).mono ?_; rintro e w1 ⟨rfl, rfl⟩)) | (first | (go_at_call 78; refine (refdigit_any _ _).mono ?_; rintro e w1 ⟨rfl, rfl⟩)) | (go_at_call 79; (with_reducible refine (rnumbers_any (by assumption)).mono ?_); rintro e w1 ⟨rfl, h1⟩) | (go_at_call 76; (with_reducible refine (rnames_0 (by assumption)).mono ?_); rintro e w1 ⟨rfl, h1⟩) | (go_at_call 82; (with_reducible refine (rdelim_any (by assumption) hl).mono ?_); rintro e w1 ⟨rfl, h1⟩; have hc := h1.res hgo; simp only [Tok.val]))
      all_goals refine bodyPost_ret (v := Tok.val ({ kind := 9, text := Utf8.encode (ah r 0) })) ?_ rfl ⟨by rw [HT.out], by rw [HT.out]; exact h1.wrote h _ _ _ _ _ _⟩
      all_goals simp [results, Tryd.results61, go_sem, hc, Tok.val]

set_option maxRecDepth 100000 in
set_option maxHeartbeats 6400000 in
theorem rtok_de45 (h : Now 102 g v xs r w0 w) (hl : 1 ≤ r.length) (H5 : Hid (∀ j, j < 9 → ¬ nth plL j = ah r 0)) (HT : Hid (tokT r = ({ kind := 9, text := Utf8.encode (ah r 0) }, dp 1 r))) (hw : sWhite (ah r 0) = false) (b34 : (ah r 0 == 34) = false) (b39 : (ah r 0 == 39) = false) (b35 : (ah r 0 == 35) = false) (b43 : (ah r 0 == 43) = false) (b45 : (ah r 0 == 45) = true) (hn : numB r = false) (b1 : (ah r 1 == 45) = false) (b60 : (ah r 0 == 60) = false) (b64 : (ah r 0 == 64) = false) (hg : nbg r 0 = false) :
    Calls Tryd.prog 61 #[.pointer (some ⟨g, 0, none⟩)] w fun e w' => e = .returned (tokT r).1.val ∧ Now 102 g v xs (tokT r).2 w0 w' := by
  have hgo := h.st.lt
  have hws := h.gw.size
  have hxl := h.st.len
  have hrl := h.st.rlen
  have hA := (h.alloc zeroT).st.now
  have hZ := TokB.zero w
  go_enter Tryd.func61, Tryd.ntmps61
  go_wp2_with (go_at_call 60; (with_reducible refine (sign_0 hA).mono ?_); rintro e w1 ⟨rfl, h1⟩)
  have hW : Now 102 g v xs r (w.alloc zeroT) ((w1.alloc (.cells #[.int .i32 40, .int .i32 91, .int .i32 123, .int .i32 41, .int .i32 93, .int .i32 125, .int .i32 44, .int .i32 58, .int .i32 59] 21)).alloc (.cells #[.int .i64 19, .int .i64 19, .int .i64 19, .int .i64 20, .int .i64 20, .int .i64 20, .int .i64 18, .int .i64 16, .int .i64 17] 3)) := (h1.alloc _).alloc _
  have hpl : ∀ j, j < 9 → ((w1.alloc (.cells #[.int .i32 40, .int .i32 91, .int .i32 123, .int .i32 41, .int .i32 93, .int .i32 125, .int .i32 44, .int .i32 58, .int .i32 59] 21)).alloc (.cells #[.int .i64 19, .int .i64 19, .int .i64 19, .int .i64 20, .int .i64 20, .int .i64 20, .int .i64 18, .int .i64 16, .int .i64 17] 3)).cell? ⟨w1.heap.size, j, none⟩ = some (.int .i32 (nth plL j)) := by
    have hb : ((w1.alloc (.cells #[.int .i32 40, .int .i32 91, .int .i32 123, .int .i32 41, .int .i32 93, .int .i32 125, .int .i32 44, .int .i32 58, .int .i32 59] 21)).alloc (.cells #[.int .i64 19, .int .i64 19, .int .i64 19, .int .i64 20, .int .i64 20, .int .i64 20, .int .i64 18, .int .i64 16, .int .i64 17] 3)).heap[w1.heap.size]? = some (.cells #[.int .i32 40, .int .i32 91, .int .i32 123, .int .i32 41, .int .i32 93, .int .i32 125, .int .i32 44, .int .i32 58, .int .i32 59] 21) := by
      rw [Below.heap_alloc _ _ _ (by simp)]; exact heap_alloc_self _ _
    intro j hj
    simp only [World.cell?, hb]
    have : j = 0 ∨ j = 1 ∨ j = 2 ∨ j = 3 ∨ j = 4 ∨ j = 5 ∨ j = 6 ∨ j = 7 ∨ j = 8 := by omega
    rcases this with rfl | rfl | rfl | rfl | rfl | rfl | rfl | rfl | rfl <;> rfl
  have hkd : ∀ j, j < 9 → ((w1.alloc (.cells #[.int .i32 40, .int .i32 91, .int .i32 123, .int .i32 41, .int .i32 93, .int .i32 125, .int .i32 44, .int .i32 58, .int .i32 59] 21)).alloc (.cells #[.int .i64 19, .int .i64 19, .int .i64 19, .int .i64 20, .int .i64 20, .int .i64 20, .int .i64 18, .int .i64 16, .int .i64 17] 3)).cell? ⟨w1.heap.size + 1, j, none⟩ = some (.int .i64 (nth kdL j)) := by
    have hb := heap_alloc_self (w1.alloc (.cells #[.int .i32 40, .int .i32 91, .int .i32 123, .int .i32 41, .int .i32 93, .int .i32 125, .int .i32 44, .int .i32 58, .int .i32 59] 21)) (.cells #[.int .i64 19, .int .i64 19, .int .i64 19, .int .i64 20, .int .i64 20, .int .i64 20, .int .i64 18, .int .i64 16, .int .i64 17] 3)
    have hsz : (w1.alloc (.cells #[.int .i32 40, .int .i32 91, .int .i32 123, .int .i32 41, .int .i32 93, .int .i32 125, .int .i32 44, .int .i32 58, .int .i32 59] 21)).heap.size = w1.heap.size + 1 := by simp
    rw [hsz] at hb
    intro j hj
    simp only [World.cell?, hb]
    have : j = 0 ∨ j = 1 ∨ j = 2 ∨ j = 3 ∨ j = 4 ∨ j = 5 ∨ j = 6 ∨ j = 7 ∨ j = 8 := by omega
    rcases this with rfl | rfl | rfl | rfl | rfl | rfl | rfl | rfl | rfl <;> rfl
  have hgk : g < w1.heap.size + 1 := by have := h1.gw.size; simp at this; omega
  clear h1 hA
  generalize (w1.alloc (.cells #[.int .i32 40, .int .i32 91, .int .i32 123, .int .i32 41, .int .i32 93, .int .i32 125, .int .i32 44, .int .i32 58, .int .i32 59] 21)).alloc (.cells #[.int .i64 19, .int .i64 19, .int .i64 19, .int .i64 20, .int .i64 20, .int .i64 20, .int .i64 18, .int .i64 16, .int .i64 17] 3) = W at *
  generalize w1.heap.size + 1 = bk at *
  generalize w1.heap.size = bp at *
  have HPL := Lib.hid hpl
  have HKD := Lib.hid hkd
  clear hpl hkd
  go_loop [6] (fun iv => ∃ k : Nat, k ≤ 9 ∧ iv = .int .i64 k) (fun iv => 9 - (intOf iv).toNat)
  case atStart => exact ⟨0, by omega, rfl⟩
  case round =>
    obtain ⟨k, hk, rfl⟩ := hrel
    by_cases hlt : k < 9
    · have c1 := HPL.out k hlt
      have hb : (nth plL k == ah r 0) = false := by simp [H5.out k hlt]
      go_wp2
      go_round
      case rel => exact ⟨k + 1, by omega, by go_num⟩
      case measure => simp [intOf]; omega
    · obtain rfl : k = 9 := by omega
      clear HPL HKD H5
      go_wp2_with (first | (first | (go_at_call 72; refine (refwhite_any _ _).mono ?_; rintro e w1 ⟨rfl, rfl⟩)) | (first | (go_at_call 78; refine (refdigit_any _ _).mono ?_; rintro e w1 ⟨rfl, rfl⟩)) | (go_at_call 79; (with_reducible refine (rnumbers_any (by assumption)).mono ?_); rintro e w1 ⟨rfl, h1⟩) | (go_at_call 60; (with_reducible refine (sign_1 (by assumption)).mono ?_); rintro e w1 ⟨rfl, h1⟩) | (go_at_call 76; (with_reducible refine (rnames_0 (by assumption)).mono ?_); rintro e w1 ⟨rfl, h1⟩) | (go_at_call 82; (with_reducible refine (rdelim_any (by assumption) hl).mono ?_); rintro e w1 ⟨rfl, h1⟩; have hc := h1.res hgo; simp only [Tok.val]))
      all_goals refine bodyPost_ret (v := Tok.val ({ kind := 9, text := Utf8.encode (ah r 0) })) ?_ rfl ⟨by rw [HT.out], by rw [HT.out]; exact h1.wrote h _ _ _ _ _ _⟩
      all_goals simp [results, Tryd.results61, go_sem, hc, Tok.val]

set_option maxRecDepth 100000 in
set_option maxHeartbeats 6400000 in
theorem rtok_de46 (h : Now 102 g v xs r w0 w) (hl : 1 ≤ r.length) (H5 : Hid (∀ j, j < 9 → ¬ nth plL j = ah r 0)) (HT : Hid (tokT r = ({ kind := 9, text := Utf8.encode (ah r 0) }, dp 1 r))) (hw : sWhite (ah r 0) = false) (b34 : (ah r 0 == 34) = false) (b39 : (ah r 0 == 39) = false) (b35 : (ah r 0 == 35) = false) (b43 : (ah r 0 == 43) = false) (b45 : (ah r 0 == 45) = false) (b46 : (ah r 0 == 46) = true) (hn : numB r = false) (b60 : (ah r 0 == 60) = false) (b64 : (ah r 0 == 64) = false) (hg : nbg r 0 = false) :
    Calls Tryd.prog 61 #[.pointer (some ⟨g, 0, none⟩)] w fun e w' => e = .returned (tokT r).1.val ∧ Now 102 g v xs (tokT r).2 w0 w' := by
  have hgo := h.st.lt
  have hws := h.gw.size
  have hxl := h.st.len
  have hrl := h.st.rlen
  have hA := (h.alloc zeroT).st.now
  have hZ := TokB.zero w
  go_enter Tryd.func61, Tryd.ntmps61
  go_wp2_with (go_at_call 60; (with_reducible refine (sign_0 hA).mono ?_); rintro e w1 ⟨rfl, h1⟩)
  have hW : Now 102 g v xs r (w.alloc zeroT) ((w1.alloc (.cells #[.int .i32 40, .int .i32 91, .int .i32 123, .int .i32 41, .int .i32 93, .int .i32 125, .int .i32 44, .int .i32 58, .int .i32 59] 21)).alloc (.cells #[.int .i64 19, .int .i64 19, .int .i64 19, .int .i64 20, .int .i64 20, .int .i64 20, .int .i64 18, .int .i64 16, .int .i64 17] 3)) := (h1.alloc _).alloc _
  have hpl : ∀ j, j < 9 → ((w1.alloc (.cells #[.int .i32 40, .int .i32 91, .int .i32 123, .int .i32 41, .int .i32 93, .int .i32 125, .int .i32 44, .int .i32 58, .int .i32 59] 21)).alloc (.cells #[.int .i64 19, .int .i64 19, .int .i64 19, .int .i64 20, .int .i64 20, .int .i64 20, .int .i64 18, .int .i64 16, .int .i64 17] 3)).cell? ⟨w1.heap.size, j, none⟩ = some (.int .i32 (nth plL j)) := by
    have hb : ((w1.alloc (.cells #[.int .i32 40, .int .i32 91, .int .i32 123, .int .i32 41, .int .i32 93, .int .i32 125, .int .i32 44, .int .i32 58, .int .i32 59] 21)).alloc (.cells #[.int .i64 19, .int .i64 19, .int .i64 19, .int .i64 20, .int .i64 20, .int .i64 20, .int .i64 18, .int .i64 16, .int .i64 17] 3)).heap[w1.heap.size]? = some (.cells #[.int .i32 40, .int .i32 91, .int .i32 123, .int .i32 41, .int .i32 93, .int .i32 125, .int .i32 44, .int .i32 58, .int .i32 59] 21) := by
      rw [Below.heap_alloc _ _ _ (by simp)]; exact heap_alloc_self _ _
    intro j hj
    simp only [World.cell?, hb]
    have : j = 0 ∨ j = 1 ∨ j = 2 ∨ j = 3 ∨ j = 4 ∨ j = 5 ∨ j = 6 ∨ j = 7 ∨ j = 8 := by omega
    rcases this with rfl | rfl | rfl | rfl | rfl | rfl | rfl | rfl | rfl <;> rfl
  have hkd : ∀ j, j < 9 → ((w1.alloc (.cells #[.int .i32 40, .int .i32 91, .int .i32 123, .int .i32 41, .int .i32 93, .int .i32 125, .int .i32 44, .int .i32 58, .int .i32 59] 21)).alloc (.cells #[.int .i64 19, .int .i64 19, .int .i64 19, .int .i64 20, .int .i64 20, .int .i64 20, .int .i64 18, .int .i64 16, .int .i64 17] 3)).cell? ⟨w1.heap.size + 1, j, none⟩ = some (.int .i64 (nth kdL j)) := by
    have hb := heap_alloc_self (w1.alloc (.cells #[.int .i32 40, .int .i32 91, .int .i32 123, .int .i32 41, .int .i32 93, .int .i32 125, .int .i32 44, .int .i32 58, .int .i32 59] 21)) (.cells #[.int .i64 19, .int .i64 19, .int .i64 19, .int .i64 20, .int .i64 20, .int .i64 20, .int .i64 18, .int .i64 16, .int .i64 17] 3)
    have hsz : (w1.alloc (.cells #[.int .i32 40, .int .i32 91, .int .i32 123, .int .i32 41, .int .i32 93, .int .i32 125, .int .i32 44, .int .i32 58, .int .i32 59] 21)).heap.size = w1.heap.size + 1 := by simp
    rw [hsz] at hb
    intro j hj
    simp only [World.cell?, hb]
    have : j = 0 ∨ j = 1 ∨ j = 2 ∨ j = 3 ∨ j = 4 ∨ j = 5 ∨ j = 6 ∨ j = 7 ∨ j = 8 := by omega
    rcases this with rfl | rfl | rfl | rfl | rfl | rfl | rfl | rfl | rfl <;> rfl
  have hgk : g < w1.heap.size + 1 := by have := h1.gw.size; simp at this; omega
  clear h1 hA
  generalize (w1.alloc (.cells #[.int .i32 40, .int .i32 91, .int .i32 123, .int .i32 41, .int .i32 93, .int .i32 125, .int .i32 44, .int .i32 58, .int .i32 59] 21)).alloc (.cells #[.int .i64 19, .int .i64 19, .int .i64 19, .int .i64 20, .int .i64 20, .int .i64 20, .int .i64 18, .int .i64 16, .int .i64 17] 3) = W at *
  generalize w1.heap.size + 1 = bk at *
  generalize w1.heap.size = bp at *
  have HPL := Lib.hid hpl
  have HKD := Lib.hid hkd
  clear hpl hkd
  go_loop [6] (fun iv => ∃ k : Nat, k ≤ 9 ∧ iv = .int .i64 k) (fun iv => 9 - (intOf iv).toNat)
  case atStart => exact ⟨0, by omega, rfl⟩
  case round =>
    obtain ⟨k, hk, rfl⟩ := hrel
    by_cases hlt : k < 9
    · have c1 := HPL.out k hlt
      have hb : (nth plL k == ah r 0) = false := by simp [H5.out k hlt]
      go_wp2
      go_round
      case rel => exact ⟨k + 1, by omega, by go_num⟩
      case measure => simp [intOf]; omega
    · obtain rfl : k = 9 := by omega
      clear HPL HKD H5
      go_wp2_with (first | (first | (go_at_call 72; refine (refwhite_any _ _).mono ?_; rintro e w1 ⟨rfl, rfl⟩)) | (first | (go_at_call 78; refine (refdigit_any _ _).mono ?_; rintro e w1 ⟨rfl, rfl⟩)) | (go_at_call 79; (with_reducible refine (rnumbers_any (by assumption)).mono ?_); rintro e w1 ⟨rfl, h1⟩) | (go_at_call 76; (with_reducible refine (rnames_0 (by assumption)).mono ?_); rintro e w1 ⟨rfl, h1⟩) | (go_at_call 82; (with_reducible refine (rdelim_any (by assumption) hl).mono ?_); rintro e w1 ⟨rfl, h1⟩; have hc := h1.res hgo; simp only [Tok.val]))
      all_goals refine bodyPost_ret (v := Tok.val ({ kind := 9, text := Utf8.encode (ah r 0) })) ?_ rfl ⟨by rw [HT.out], by rw [HT.out]; exact h1.wrote h _ _ _ _ _ _⟩
      all_goals simp [results, Tryd.results61, go_sem, hc, Tok.val]

set_option maxRecDepth 100000 in
set_option maxHeartbeats 6400000 in
theorem rtok_de60a (h : Now 102 g v xs r w0 w) (hl : 1 ≤ r.length) (H5 : Hid (∀ j, j < 9 → ¬ nth plL j = ah r 0)) (HT : Hid (tokT r = ({ kind := 9, text := Utf8.encode (ah r 0) }, dp 1 r))) (hw : sWhite (ah r 0) = false) (b34 : (ah r 0 == 34) = false) (b39 : (ah r 0 == 39) = false) (b35 : (ah r 0 == 35) = false) (b43 : (ah r 0 == 43) = false) (b45 : (ah r 0 == 45) = false) (b46 : (ah r 0 == 46) = false) (hd : sDigit (ah r 0) = false) (b60 : (ah r 0 == 60) = true) (b1 : (ah r 1 == 33) = false) (b64 : (ah r 0 == 64) = false) (hg : nbg r 0 = false) :
    Calls Tryd.prog 61 #[.pointer (some ⟨g, 0, none⟩)] w fun e w' => e = .returned (tokT r).1.val ∧ Now 102 g v xs (tokT r).2 w0 w' := by
  have hgo := h.st.lt
  have hws := h.gw.size
  have hxl := h.st.len
  have hrl := h.st.rlen
  have hA := (h.alloc zeroT).st.now
  have hZ := TokB.zero w
  go_enter Tryd.func61, Tryd.ntmps61
  go_wp2_with (go_at_call 60; (with_reducible refine (sign_0 hA).mono ?_); rintro e w1 ⟨rfl, h1⟩)
  have hW : Now 102 g v xs r (w.alloc zeroT) ((w1.alloc (.cells #[.int .i32 40, .int .i32 91, .int .i32 123, .int .i32 41, .int .i32 93, .int .i32 125, .int .i32 44, .int .i32 58, .int .i32 59] 21)).alloc (.cells #[.int .i64 19, .int .i64 19, .int .i64 19, .int .i64 20, .int .i64 20, .int .i64 20, .int .i64 18, .int .i64 16, .int .i64 17] 3)) := (h1.alloc _).alloc _
  have hpl : ∀ j, j < 9 → ((w1.alloc (.cells #[.int .i32 40, .int .i32 91, .int .i32 123, .int .i32 41, .int .i32 93, .int .i32 125, .int .i32 44, .int .i32 58, .int .i32 59] 21)).alloc (.cells #[.int .i64 19, .int .i64 19, .int .i64 19, .int .i64 20, .int .i64 20, .int .i64 20, .int .i64 18, .int .i64 16, .int .i64 17] 3)).cell? ⟨w1.heap.size, j, none⟩ = some (.int .i32 (nth plL j)) := by
    have hb : ((w1.alloc (.cells #[.int .i32 40, .int .i32 91, .int .i32 123, .int .i32 41, .int .i32 93, .int .i32 125, .int .i32 44, .int .i32 58, .int .i32 59] 21)).alloc (.cells #[.int .i64 19, .int .i64 19, .int .i64 19, .int .i64 20, .int .i64 20, .int .i64 20, .int .i64 18, .int .i64 16, .int .i64 17] 3)).heap[w1.heap.size]? = some (.cells #[.int .i32 40, .int .i32 91, .int .i32 123, .int .i32 41, .int .i32 93, .int .i32 125, .int .i32 44, .int .i32 58, .int .i32 59] 21) := by
      rw [Below.heap_alloc _ _ _ (by simp)]; exact heap_alloc_self _ _
    intro j hj
    simp only [World.cell?, hb]
    have : j = 0 ∨ j = 1 ∨ j = 2 ∨ j = 3 ∨ j = 4 ∨ j = 5 ∨ j = 6 ∨ j = 7 ∨ j = 8 := by omega
    rcases this with rfl | rfl | rfl | rfl | rfl | rfl | rfl | rfl | rfl <;> rfl
  have hkd : ∀ j, j < 9 → ((w1.alloc (.cells #[.int .i32 40, .int .i32 91, .int .i32 123, .int .i32 41, .int .i32 93, .int .i32 125, .int .i32 44, .int .i32 58, .int .i32 59] 21)).alloc (.cells #[.int .i64 19, .int .i64 19, .int .i64 19, .int .i64 20, .int .i64 20, .int .i64 20, .int .i64 18, .int .i64 16, .int .i64 17] 3)).cell? ⟨w1.heap.size + 1, j, none⟩ = some (.int .i64 (nth kdL j)) := by
    have hb := heap_alloc_self (w1.alloc (.cells #[.int .i32 40, .int .i32 91, .int .i32 123, .int .i32 41, .int .i32 93, .int .i32 125, .int .i32 44, .int .i32 58, .int .i32 59] 21)) (.cells #[.int .i64 19, .int .i64 19, .int .i64 19, .int .i64 20, .int .i64 20, .int .i64 20, .int .i64 18, .int .i64 16, .int .i64 17] 3)
    have hsz : (w1.alloc (.cells #[.int .i32 40, .int .i32 91, .int .i32 123, .int .i32 41, .int .i32 93, .int .i32 125, .int .i32 44, .int .i32 58, .int .i32 59] 21)).heap.size = w1.heap.size + 1 := by simp
    rw [hsz] at hb
    intro j hj
    simp only [World.cell?, hb]
    have : j = 0 ∨ j = 1 ∨ j = 2 ∨ j = 3 ∨ j = 4 ∨ j = 5 ∨ j = 6 ∨ j = 7 ∨ j = 8 := by omega
    rcases this with rfl | rfl | rfl | rfl | rfl | rfl | rfl | rfl | rfl <;> rfl
  have hgk : g < w1.heap.size + 1 := by have := h1.gw.size; simp at this; omega
  clear h1 hA
  generalize (w1.alloc (.cells #[.int .i32 40, .int .i32 91, .int .i32 123, .int .i32 41, .int .i32 93, .int .i32 125, .int .i32 44, .int .i32 58, .int .i32 59] 21)).alloc (.cells #[.int .i64 19, .int .i64 19, .int .i64 19, .int .i64 20, .int .i64 20, .int .i64 20, .int .i64 18, .int .i64 16, .int .i64 17] 3) = W at *
  generalize w1.heap.size + 1 = bk at *
  generalize w1.heap.size = bp at *
  have HPL := Lib.hid hpl
  have HKD := Lib.hid hkd
  clear hpl hkd
  go_loop [6] (fun iv => ∃ k : Nat, k ≤ 9 ∧ iv = .int .i64 k) (fun iv => 9 - (intOf iv).toNat)
  case atStart => exact ⟨0, by omega, rfl⟩
  case round =>
    obtain ⟨k, hk, rfl⟩ := hrel
    by_cases hlt : k < 9
    · have c1 := HPL.out k hlt
      have hb : (nth plL k == ah r 0) = false := by simp [H5.out k hlt]
      go_wp2
      go_round
      case rel => exact ⟨k + 1, by omega, by go_num⟩
      case measure => simp [intOf]; omega
    · obtain rfl : k = 9 := by omega
      clear HPL HKD H5
      go_wp2_with (first | (first | (go_at_call 72; refine (refwhite_any _ _).mono ?_; rintro e w1 ⟨rfl, rfl⟩)) | (first | (go_at_call 78; refine (refdigit_any _ _).mono ?_; rintro e w1 ⟨rfl, rfl⟩)) | (go_at_call 60; (with_reducible refine (sign_1 (by assumption)).mono ?_); rintro e w1 ⟨rfl, h1⟩) | (go_at_call 76; (with_reducible refine (rnames_0 (by assumption)).mono ?_); rintro e w1 ⟨rfl, h1⟩) | (go_at_call 82; (with_reducible refine (rdelim_any (by assumption) hl).mono ?_); rintro e w1 ⟨rfl, h1⟩; have hc := h1.res hgo; simp only [Tok.val]))
      all_goals refine bodyPost_ret (v := Tok.val ({ kind := 9, text := Utf8.encode (ah r 0) })) ?_ rfl ⟨by rw [HT.out], by rw [HT.out]; exact h1.wrote h _ _ _ _ _ _⟩
      all_goals simp [results, Tryd.results61, go_sem, hc, Tok.val]

set_option maxRecDepth 100000 in
set_option maxHeartbeats 6400000 in
theorem rtok_de60b (h : Now 102 g v xs r w0 w) (hl : 1 ≤ r.length) (H5 : Hid (∀ j, j < 9 → ¬ nth plL j = ah r 0)) (HT : Hid (tokT r = ({ kind := 9, text := Utf8.encode (ah r 0) }, dp 1 r))) (hw : sWhite (ah r 0) = false) (b34 : (ah r 0 == 34) = false) (b39 : (ah r 0 == 39) = false) (b35 : (ah r 0 == 35) = false) (b43 : (ah r 0 == 43) = false) (b45 : (ah r 0 == 45) = false) (b46 : (ah r 0 == 46) = false) (hd : sDigit (ah r 0) = false) (b60 : (ah r 0 == 60) = true) (b1 : (ah r 1 == 33) = true) (b2 : (ah r 2 == 45) = false) (b64 : (ah r 0 == 64) = false) (hg : nbg r 0 = false) :
    Calls Tryd.prog 61 #[.pointer (some ⟨g, 0, none⟩)] w fun e w' => e = .returned (tokT r).1.val ∧ Now 102 g v xs (tokT r).2 w0 w' := by
  have hgo := h.st.lt
  have hws := h.gw.size
  have hxl := h.st.len
  have hrl := h.st.rlen
  have hA := (h.alloc zeroT).st.now
  have hZ := TokB.zero w
  go_enter Tryd.func61, Tryd.ntmps61
  go_wp2_with (go_at_call 60; (with_reducible refine (sign_0 hA).mono ?_); rintro e w1 ⟨rfl, h1⟩)
  have hW : Now 102 g v xs r (w.alloc zeroT) ((w1.alloc (.cells #[.int .i32 40, .int .i32 91, .int .i32 123, .int .i32 41, .int .i32 93, .int .i32 125, .int .i32 44, .int .i32 58, .int .i32 59] 21)).alloc (.cells #[.int .i64 19, .int .i64 19, .int .i64 19, .int .i64 20, .int .i64 20, .int .i64 20, .int .i64 18, .int .i64 16, .int .i64 17] 3)) := (h1.alloc _).alloc _
  have hpl : ∀ j, j < 9 → ((w1.alloc (.cells #[.int .i32 40, .int .i32 91, .int .i32 123, .int .i32 41, .int .i32 93, .int .i32 125, .int .i32 44, .int .i32 58, .int .i32 59] 21)).alloc (.cells #[.int .i64 19, .int .i64 19, .int .i64 19, .int .i64 20, .int .i64 20, .int .i64 20, .int .i64 18, .int .i64 16, .int .i64 17] 3)).cell? ⟨w1.heap.size, j, none⟩ = some (.int .i32 (nth plL j)) := by
    have hb : ((w1.alloc (.cells #[.int .i32 40, .int .i32 91, .int .i32 123, .int .i32 41, .int .i32 93, .int .i32 125, .int .i32 44, .int .i32 58, .int .i32 59] 21)).alloc (.cells #[.int .i64 19, .int .i64 19, .int .i64 19, .int .i64 20, .int .i64 20, .int .i64 20, .int .i64 18, .int .i64 16, .int .i64 17] 3)).heap[w1.heap.size]? = some (.cells #[.int .i32 40, .int .i32 91, .int .i32 123, .int .i32 41, .int .i32 93, .int .i32 125, .int .i32 44, .int .i32 58, .int .i32 59] 21) := by
      rw [Below.heap_alloc _ _ _ (by simp)]; exact heap_alloc_self _ _
    intro j hj
    simp only [World.cell?, hb]
    have : j = 0 ∨ j = 1 ∨ j = 2 ∨ j = 3 ∨ j = 4 ∨ j = 5 ∨ j = 6 ∨ j = 7 ∨ j = 8 := by omega
    rcases this with rfl | rfl | rfl | rfl | rfl | rfl | rfl | rfl | rfl <;> rfl
  have hkd : ∀ j, j < 9 → ((w1.alloc (.cells #[.int .i32 40, .int .i32 91, .int .i32 123, .int .i32 41, .int .i32 93, .int .i32 125, .int .i32 44, .int .i32 58, .int .i32 59] 21)).alloc (.cells #[.int .i64 19, .int .i64 19, .int .i64 19, .int .i64 20, .int .i64 20, .int .i64 20, .int .i64 18, .int .i64 16, .int .i64 17] 3)).cell? ⟨w1.heap.size + 1, j, none⟩ = some (.int .i64 (nth kdL j)) := by
    have hb := heap_alloc_self (w1.alloc (.cells #[.int .i32 40, .int .i32 91, .int .i32 123, .int .i32 41, .int .i32 93, .int .i32 125, .int .i32 44, .int .i32 58, .int .i32 59] 21)) (.cells #[.int .i64 19, .int .i64 19, .int .i64 19, .int .i64 20, .int .i64 20, .int .i64 20, .int .i64 18, .int .i64 16, .int .i64 17] 3)
    have hsz : (w1.alloc (.cells #[.int .i32 40, .int .i32 91, .int .i32 123, .int .i32 41, .int .i32 93, .int .i32 125, .int .i32 44, .int .i32 58, .int .i32 59] 21)).heap.size = w1.heap.size + 1 := by simp
    rw [hsz] at hb
    intro j hj
    simp only [World.cell?, hb]
    have : j = 0 ∨ j = 1 ∨ j = 2 ∨ j = 3 ∨ j = 4 ∨ j = 5 ∨ j = 6 ∨ j = 7 ∨ j = 8 := by omega
    rcases this with rfl | rfl | rfl | rfl | rfl | rfl | rfl | rfl | rfl <;> rfl
  have hgk : g < w1.heap.size + 1 := by have := h1.gw.size; simp at this; omega
  clear h1 hA
  generalize (w1.alloc (.cells #[.int .i32 40, .int .i32 91, .int .i32 123, .int .i32 41, .int .i32 93, .int .i32 125, .int .i32 44, .int .i32 58, .int .i32 59] 21)).alloc (.cells #[.int .i64 19, .int .i64 19, .int .i64 19, .int .i64 20, .int .i64 20, .int .i64 20, .int .i64 18, .int .i64 16, .int .i64 17] 3) = W at *
  generalize w1.heap.size + 1 = bk at *
  generalize w1.heap.size = bp at *
  have HPL := Lib.hid hpl
  have HKD := Lib.hid hkd
  clear hpl hkd
  go_loop [6] (fun iv => ∃ k : Nat, k ≤ 9 ∧ iv = .int .i64 k) (fun iv => 9 - (intOf iv).toNat)
  case atStart => exact ⟨0, by omega, rfl⟩
  case round =>
    obtain ⟨k, hk, rfl⟩ := hrel
    by_cases hlt : k < 9
    · have c1 := HPL.out k hlt
      have hb : (nth plL k == ah r 0) = false := by simp [H5.out k hlt]
      go_wp2
      go_round
      case rel => exact ⟨k + 1, by omega, by go_num⟩
      case measure => simp [intOf]; omega
    · obtain rfl : k = 9 := by omega
      clear HPL HKD H5
      go_wp2_with (first | (first | (go_at_call 72; refine (refwhite_any _ _).mono ?_; rintro e w1 ⟨rfl, rfl⟩)) | (first | (go_at_call 78; refine (refdigit_any _ _).mono ?_; rintro e w1 ⟨rfl, rfl⟩)) | (go_at_call 60; (with_reducible refine (sign_1 (by assumption)).mono ?_); rintro e w1 ⟨rfl, h1⟩) | (go_at_call 60; (with_reducible refine (sign_2 (by assumption)).mono ?_); rintro e w1 ⟨rfl, h1⟩) | (go_at_call 76; (with_reducible refine (rnames_0 (by assumption)).mono ?_); rintro e w1 ⟨rfl, h1⟩) | (go_at_call 82; (with_reducible refine (rdelim_any (by assumption) hl).mono ?_); rintro e w1 ⟨rfl, h1⟩; have hc := h1.res hgo; simp only [Tok.val]))
      all_goals refine bodyPost_ret (v := Tok.val ({ kind := 9, text := Utf8.encode (ah r 0) })) ?_ rfl ⟨by rw [HT.out], by rw [HT.out]; exact h1.wrote h _ _ _ _ _ _⟩
      all_goals simp [results, Tryd.results61, go_sem, hc, Tok.val]

set_option maxRecDepth 100000 in
set_option maxHeartbeats 6400000 in
theorem rtok_de60c (h : Now 102 g v xs r w0 w) (hl : 1 ≤ r.length) (H5 : Hid (∀ j, j < 9 → ¬ nth plL j = ah r 0)) (HT : Hid (tokT r = ({ kind := 9, text := Utf8.encode (ah r 0) }, dp 1 r))) (hw : sWhite (ah r 0) = false) (b34 : (ah r 0 == 34) = false) (b39 : (ah r 0 == 39) = false) (b35 : (ah r 0 == 35) = false) (b43 : (ah r 0 == 43) = false) (b45 : (ah r 0 == 45) = false) (b46 : (ah r 0 == 46) = false) (hd : sDigit (ah r 0) = false) (b60 : (ah r 0 == 60) = true) (b1 : (ah r 1 == 33) = true) (b2 : (ah r 2 == 45) = true) (b3 : (ah r 3 == 45) = false) (b64 : (ah r 0 == 64) = false) (hg : nbg r 0 = false) :
    Calls Tryd.prog 61 #[.pointer (some ⟨g, 0, none⟩)] w fun e w' => e = .returned (tokT r).1.val ∧ Now 102 g v xs (tokT r).2 w0 w' := by
  have hgo := h.st.lt
  have hws := h.gw.size
  have hxl := h.st.len
  have hrl := h.st.rlen
  have hA := (h.alloc zeroT).st.now
  have hZ := TokB.zero w
  go_enter Tryd.func61, Tryd.ntmps61
  go_wp2_with (go_at_call 60; (with_reducible refine (sign_0 hA).mono ?_); rintro e w1 ⟨rfl, h1⟩)
  have hW : Now 102 g v xs r (w.alloc zeroT) ((w1.alloc (.cells #[.int .i32 40, .int .i32 91, .int .i32 123, .int .i32 41, .int .i32 93, .int .i32 125, .int .i32 44, .int .i32 58, .int .i32 59] 21)).alloc (.cells #[.int .i64 19, .int .i64 19, .int .i64 19, .int .i64 20, .int .i64 20, .int .i64 20, .int .i64 18, .int .i64 16, .int .i64 17] 3)) := (h1.alloc _).alloc _
  have hpl : ∀ j, j < 9 → ((w1.alloc (.cells #[.int .i32 40, .int .i32 91, .int .i32 123, .int .i32 41, .int .i32 93, .int .i32 125, .int .i32 44, .int .i32 58, .int .i32 59] 21)).alloc (.cells #[.int .i64 19, .int .i64 19, .int .i64 19, .int .i64 20, .int .i64 20, .int .i64 20, .int .i64 18, .int .i64 16, .int .i64 17] 3)).cell? ⟨w1.heap.size, j, none⟩ = some (.int .i32 (nth plL j)) := by
    have hb : ((w1.alloc (.cells #[.int .i32 40, .int .i32 91, .int .i32 123, .int .i32 41, .int .i32 93, .int .i32 125, .int .i32 44, .int .i32 58, .int .i32 59] 21)).alloc (.cells #[.int .i64 19, .int .i64 19, .int .i64 19, .int .i64 20, .int .i64 20, .int .i64 20, .int .i64 18, .int .i64 16, .int .i64 17] 3)).heap[w1.heap.size]? = some (.cells #[.int .i32 40, .int .i32 91, .int .i32 123, .int .i32 41, .int .i32 93, .int .i32 125, .int .i32 44, .int .i32 58, .int .i32 59] 21) := by
      rw [Below.heap_alloc _ _ _ (by simp)]; exact heap_alloc_self _ _
    intro j hj
    simp only [World.cell?, hb]
    have : j = 0 ∨ j = 1 ∨ j = 2 ∨ j = 3 ∨ j = 4 ∨ j = 5 ∨ j = 6 ∨ j = 7 ∨ j = 8 := by omega
    rcases this with rfl | rfl | rfl | rfl | rfl | rfl | rfl | rfl | rfl <;> rfl
  have hkd : ∀ j, j < 9 → ((w1.alloc (.cells #[.int .i32 40, .int .i32 91, .int .i32 123, .int .i32 41, .int .i32 93, .int .i32 125, .int .i32 44, .int .i32 58, .int .i32 59] 21)).alloc (.cells #[.int .i64 19, .int .i64 19, .int .i64 19, .int .i64 20, .int .i64 20, .int .i64 20, .int .i64 18, .int .i64 16, .int .i64 17] 3)).cell? ⟨w1.heap.size + 1, j, none⟩ = some (.int .i64 (nth kdL j)) := by
    have hb := heap_alloc_self (w1.alloc (.cells #[.int .i32 40, .int .i32 91, .int .i32 123, .int .i32 41, .int .i32 93, .int .i32 125, .int .i32 44, .int .i32 58, .int .i32 59] 21)) (.cells #[.int .i64 19, .int .i64 19, .int .i64 19, .int .i64 20, .int .i64 20, .int .i64 20, .int .i64 18, .int .i64 16, .int .i64 17] 3)
    have hsz : (w1.alloc (.cells #[.int .i32 40, .int .i32 91, .int .i32 123, .int .i32 41, .int .i32 93, .int .i32 125, .int .i32 44, .int .i32 58, .int .i32 59] 21)).heap.size = w1.heap.size + 1 := by simp
    rw [hsz] at hb
    intro j hj
    simp only [World.cell?, hb]
    have : j = 0 ∨ j = 1 ∨ j = 2 ∨ j = 3 ∨ j = 4 ∨ j = 5 ∨ j = 6 ∨ j = 7 ∨ j = 8 := by omega
    rcases this with rfl | rfl | rfl | rfl | rfl | rfl | rfl | rfl | rfl <;> rfl
  have hgk : g < w1.heap.size + 1 := by have := h1.gw.size; simp at this; omega
  clear h1 hA
  generalize (w1.alloc (.cells #[.int .i32 40, .int .i32 91, .int .i32 123, .int .i32 41, .int .i32 93, .int .i32 125, .int .i32 44, .int .i32 58, .int .i32 59] 21)).alloc (.cells #[.int .i64 19, .int .i64 19, .int .i64 19, .int .i64 20, .int .i64 20, .int .i64 20, .int .i64 18, .int .i64 16, .int .i64 17] 3) = W at *
  generalize w1.heap.size + 1 = bk at *
  generalize w1.heap.size = bp at *
  have HPL := Lib.hid hpl
  have HKD := Lib.hid hkd
  clear hpl hkd
  go_loop [6] (fun iv => ∃ k : Nat, k ≤ 9 ∧ iv = .int .i64 k) (fun iv => 9 - (intOf iv).toNat)
  case atStart => exact ⟨0, by omega, rfl⟩
  case round =>
    obtain ⟨k, hk, rfl⟩ := hrel
    by_cases hlt : k < 9
    · have c1 := HPL.out k hlt
      have hb : (nth plL k == ah r 0) = false := by simp [H5.out k hlt]
      go_wp2
      go_round
      case rel => exact ⟨k + 1, by omega, by go_num⟩
      case measure => simp [intOf]; omega
    · obtain rfl : k = 9 := by omega
      clear HPL HKD H5
      go_wp2_with (first | (first | (go_at_call 72; refine (refwhite_any _ _).mono ?_; rintro e w1 ⟨rfl, rfl⟩)) | (first | (go_at_call 78; refine (refdigit_any _ _).mono ?_; rintro e w1 ⟨rfl, rfl⟩)) | (go_at_call 60; (with_reducible refine (sign_1 (by assumption)).mono ?_); rintro e w1 ⟨rfl, h1⟩) | (go_at_call 60; (with_reducible refine (sign_2 (by assumption)).mono ?_); rintro e w1 ⟨rfl, h1⟩) | (go_at_call 60; (with_reducible refine (sign_3 (by assumption)).mono ?_); rintro e w1 ⟨rfl, h1⟩) | (go_at_call 76; (with_reducible refine (rnames_0 (by assumption)).mono ?_); rintro e w1 ⟨rfl, h1⟩) | (go_at_call 82; (with_reducible refine (rdelim_any (by assumption) hl).mono ?_); rintro e w1 ⟨rfl, h1⟩; have hc := h1.res hgo; simp only [Tok.val]))
      all_goals refine bodyPost_ret (v := Tok.val ({ kind := 9, text := Utf8.encode (ah r 0) })) ?_ rfl ⟨by rw [HT.out], by rw [HT.out]; exact h1.wrote h _ _ _ _ _ _⟩
      all_goals simp [results, Tryd.results61, go_sem, hc, Tok.val]
end
end Go.Proofs.YtkpaokcgjeplpaaDoor
