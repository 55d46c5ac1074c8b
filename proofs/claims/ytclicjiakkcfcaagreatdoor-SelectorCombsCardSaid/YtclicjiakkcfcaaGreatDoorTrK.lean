import Derived.Test.YtclicjiakkcfcaaGreatDoorTrK0
import Derived.Test.YtclicjiakkcfcaaGreatDoorTrK2
import Derived.Test.YtclicjiakkcfcaaGreatDoorTkU
import Derived.Deep.DeepCutAuto
set_option maxRecDepth 100000
set_option maxHeartbeats 6400000
namespace Go.Proofs.YtclicjiakkcfcaaGreatDoor
open Go.RowKit
section
variable {g : Nat} {v : Value} {xs r : List Int} {w0 w : World}
theorem first_pl (a : Int) : ∀ n : Nat, n ≤ 9 → (∀ j, j < n → ¬ nth plL j = a) ∨ ∃ k, k < n ∧ nth plL k = a ∧ ∀ j, j < k → ¬ nth plL j = a
  | 0, _ => .inl fun j hj => by omega
  | n + 1, h => by
   rcases first_pl a n (by omega) with h1 | ⟨k, h1, h2, h3⟩
   · by_cases e : nth plL n = a
     · exact .inr ⟨n, by omega, e, h1⟩
     · refine .inl fun j hj => ?_
       by_cases hjn : j = n
       · rw [hjn]; exact e
       · exact h1 j (by omega)
   · exact .inr ⟨k, by omega, h2, h3⟩
theorem rtoken_any (h : Now 101 g v xs r w0 w) (hl : 1 ≤ r.length) :
    Calls Tryz.prog 29 #[.pointer (some ⟨g, 0, none⟩)] w fun e w' => e = .returned (tokT r).1.val ∧ Now 101 g v xs (tokT r).2 w0 w' := by
  rcases first_pl (ah r 0) 9 (Nat.le_refl _) with h5 | ⟨k, hk, he, hne⟩
  case inr => exact rtok_plain h hl k hk hne he
  have H5 := Lib.hid h5
  by_cases hw : sWhite (ah r 0) = true
  · exact rtok_white h hl H5 hw
  have hw : sWhite (ah r 0) = false := by simpa using hw
  by_cases c34 : ah r 0 = 34
  · exact rtok_q34 h hl H5 (Lib.hid (tok_quote hw (.inl c34))) hl hw (by simp [c34])
  by_cases c39 : ah r 0 = 39
  · exact rtok_q39 h hl H5 (Lib.hid (tok_quote hw (.inr c39))) hl hw (by simp [c34]) (by simp [c39])
  have b34 : (ah r 0 == 34) = false := by simp [c34]
  have b39 : (ah r 0 == 39) = false := by simp [c39]
  have hq : ¬ (ah r 0 = 34 ∨ ah r 0 = 39) := by rintro (e | e); exact c34 e; exact c39 e
  by_cases c35 : ah r 0 = 35
  · have b35 : (ah r 0 == 35) = true := by simp [c35]
    by_cases hs : sName (ah r 1) = true
    · exact rtok_hash1 h hl H5 (Lib.hid (tok_hash c35 (by rw [hs]; rfl))) hl hw b34 b39 b35 hs
    have hs : sName (ah r 1) = false := by simpa using hs
    by_cases he : esc r 1 = true
    · exact rtok_hash2 h hl H5 (Lib.hid (tok_hash c35 (by rw [he]; simp))) hl hw b34 b39 b35 hs he
    have he : esc r 1 = false := by simpa using he
    have hg : nbg r 0 = false := by simp [nbg, esc, c35, sLetter]
    have hn : numB r = false := by simp [numB, sgn, frac, c35, sDigit]
    have ht := tok_rest hw hq (by rw [hs, he]; rintro ⟨_, e⟩; exact absurd e (by decide)) (by rw [c35]; rintro ⟨e, _⟩; exact absurd e (by decide)) hn h5
    have n2 : pre [45, 45, 62] r = false := pre_ah3 (by rw [c35]; decide) (by decide) (by decide) (by decide)
    have n3 : pre [60, 33, 45, 45] r = false := pre_ah4 (by rw [c35]; decide) (by decide) (by decide) (by decide) (by decide)
    rw [n2, n3, hg] at ht
    exact rtok_de35 h hl H5 (Lib.hid ht) hw b34 b39 b35 hs he (by simp [c35]) (by simp [c35]) (by simp [c35]) (by simp [c35, sDigit]) (by simp [c35]) (by simp [c35]) hg
  have b35 : (ah r 0 == 35) = false := by simp [c35]
  by_cases hn : numB r = true
  · have HT := Lib.hid (tok_num hn)
    by_cases c43 : ah r 0 = 43
    · exact rtok_num_n43 h hl H5 HT hw b34 b39 b35 (by simp [c43]) hn
    by_cases c45 : ah r 0 = 45
    · exact rtok_num_n45 h hl H5 HT hw b34 b39 b35 (by simp [c43]) (by simp [c45]) hn
    by_cases c46 : ah r 0 = 46
    · exact rtok_num_n46 h hl H5 HT hw b34 b39 b35 (by simp [c43]) (by simp [c45]) (by simp [c46]) hn
    · rcases numB_signs hn with e | e | e | e
      · exact absurd e c43
      · exact absurd e c45
      · exact absurd e c46
      · exact rtok_num_nd h hl H5 HT hw b34 b39 b35 (by simp [c43]) (by simp [c45]) (by simp [c46]) e hn
  have hn : numB r = false := by simpa using hn
  have hh : ¬ (ah r 0 = 35 ∧ (sName (ah r 1) || esc r 1) = true) := fun e => c35 e.1
  by_cases c43 : ah r 0 = 43
  · have hg : nbg r 0 = false := by simp [nbg, esc, c43, sLetter]
    have ht := tok_rest hw hq hh (by rw [c43]; rintro ⟨e, _⟩; exact absurd e (by decide)) hn h5
    have n2 : pre [45, 45, 62] r = false := pre_ah3 (by rw [c43]; decide) (by decide) (by decide) (by decide)
    have n3 : pre [60, 33, 45, 45] r = false := pre_ah4 (by rw [c43]; decide) (by decide) (by decide) (by decide) (by decide)
    rw [n2, n3, hg] at ht
    exact rtok_de43 h hl H5 (Lib.hid ht) hw b34 b39 b35 (by simp [c43]) hn (by simp [c43]) (by simp [c43]) (by simp [c43]) hg
  have b43 : (ah r 0 == 43) = false := by simp [c43]
  by_cases c45 : ah r 0 = 45
  · have b45 : (ah r 0 == 45) = true := by simp [c45]
    have b60 : (ah r 0 == 60) = false := by simp [c45]
    have b64 : (ah r 0 == 64) = false := by simp [c45]
    have ht := tok_rest hw hq hh (by rw [c45]; rintro ⟨e, _⟩; exact absurd e (by decide)) hn h5
    have n3 : pre [60, 33, 45, 45] r = false := pre_ah4 (by rw [c45]; decide) (by decide) (by decide) (by decide) (by decide)
    rw [n3, pre_three] at ht
    by_cases d1 : ah r 1 = 45
    · have e1 : (ah r 1 == 45) = true := by simp [d1]
      by_cases d2 : ah r 2 = 62
      · have e2 : (ah r 2 == 62) = true := by simp [d2]
        rw [b45, e1, e2] at ht
        exact rtok_cdc h hl H5 (Lib.hid ht) (len_of_ah (n := 2) (by rw [d2]; decide)) hw b34 b39 b35 b43 b45 hn e1 e2
      · have e2 : (ah r 2 == 62) = false := by simp [d2]
        have hg : nbg r 0 = true := by unfold nbg; rw [if_pos c45, d1]; simp
        rw [b45, e1, e2, hg] at ht
        exact rtok_id45b h hl H5 (Lib.hid ht) hw b34 b39 b35 b43 b45 hn e1 e2 b60 b64 hg
    · have e1 : (ah r 1 == 45) = false := by simp [d1]
      rw [b45, e1] at ht
      by_cases hg : nbg r 0 = true
      · rw [hg] at ht
        exact rtok_id45a h hl H5 (Lib.hid ht) hw b34 b39 b35 b43 b45 hn e1 b60 b64 hg
      · have hg : nbg r 0 = false := by simpa using hg
        rw [hg] at ht
        exact rtok_de45 h hl H5 (Lib.hid ht) hw b34 b39 b35 b43 b45 hn e1 b60 b64 hg
  have b45 : (ah r 0 == 45) = false := by simp [c45]
  have n2 : pre [45, 45, 62] r = false := pre_ah3 c45 (by decide) (by decide) (by decide)
  by_cases c46 : ah r 0 = 46
  · have hg : nbg r 0 = false := by simp [nbg, esc, c46, sLetter]
    have ht := tok_rest hw hq hh (by rw [c46]; rintro ⟨e, _⟩; exact absurd e (by decide)) hn h5
    have n3 : pre [60, 33, 45, 45] r = false := pre_ah4 (by rw [c46]; decide) (by decide) (by decide) (by decide) (by decide)
    rw [n2, n3, hg] at ht
    exact rtok_de46 h hl H5 (Lib.hid ht) hw b34 b39 b35 b43 b45 (by simp [c46]) hn (by simp [c46]) (by simp [c46]) hg
  have b46 : (ah r 0 == 46) = false := by simp [c46]
  have hd : sDigit (ah r 0) = false := by
   by_cases e : sDigit (ah r 0) = true
   · exfalso
     have : numB r = true := by unfold numB; rw [if_neg (by simp [sgn, c43, c45]), e]; rfl
     rw [this] at hn; cases hn
   · simpa using e
  by_cases c60 : ah r 0 = 60
  · have b60 : (ah r 0 == 60) = true := by simp [c60]
    have b64 : (ah r 0 == 64) = false := by simp [c60]
    have hg : nbg r 0 = false := by simp [nbg, esc, c60, sLetter]
    have ht := tok_rest hw hq hh (by rw [c60]; rintro ⟨e, _⟩; exact absurd e (by decide)) hn h5
    rw [n2, pre_four, hg, b60] at ht
    by_cases d1 : ah r 1 = 33
    · have e1 : (ah r 1 == 33) = true := by simp [d1]
      by_cases d2 : ah r 2 = 45
      · have e2 : (ah r 2 == 45) = true := by simp [d2]
        by_cases d3 : ah r 3 = 45
        · have e3 : (ah r 3 == 45) = true := by simp [d3]
          rw [e1, e2, e3] at ht
          exact rtok_cdo h hl H5 (Lib.hid ht) (len_of_ah (n := 3) (by rw [d3]; decide)) hw b34 b39 b35 b43 b45 b46 hd b60 e1 e2 e3
        · have e3 : (ah r 3 == 45) = false := by simp [d3]
          rw [e1, e2, e3] at ht
          exact rtok_de60c h hl H5 (Lib.hid ht) hw b34 b39 b35 b43 b45 b46 hd b60 e1 e2 e3 b64 hg
      · have e2 : (ah r 2 == 45) = false := by simp [d2]
        rw [e1, e2] at ht
        exact rtok_de60b h hl H5 (Lib.hid ht) hw b34 b39 b35 b43 b45 b46 hd b60 e1 e2 b64 hg
    · have e1 : (ah r 1 == 33) = false := by simp [d1]
      rw [e1] at ht
      exact rtok_de60a h hl H5 (Lib.hid ht) hw b34 b39 b35 b43 b45 b46 hd b60 e1 b64 hg
  have b60 : (ah r 0 == 60) = false := by simp [c60]
  have n3 : pre [60, 33, 45, 45] r = false := pre_ah4 c60 (by decide) (by decide) (by decide) (by decide)
  by_cases c64 : ah r 0 = 64
  · have b64 : (ah r 0 == 64) = true := by simp [c64]
    by_cases hb : nbg r 1 = true
    · exact rtok_at h hl H5 (Lib.hid (tok_at c64 hb)) hl hw b34 b39 b35 b43 b45 b46 hd b60 b64 hb
    · have hb : nbg r 1 = false := by simpa using hb
      have hg : nbg r 0 = false := by simp [nbg, esc, c64, sLetter]
      have ht := tok_rest hw hq hh (by rw [hb]; rintro ⟨_, e⟩; exact absurd e (by decide)) hn h5
      rw [n2, n3, hg] at ht
      exact rtok_de64 h hl H5 (Lib.hid ht) hw b34 b39 b35 b43 b45 b46 hd b60 b64 hb hg
  have b64 : (ah r 0 == 64) = false := by simp [c64]
  have ht := tok_rest hw hq hh (fun e => c64 e.1) hn h5
  rw [n2, n3] at ht
  by_cases hg : nbg r 0 = true
  · rw [hg] at ht
    exact rtok_id h hl H5 (Lib.hid ht) hw b34 b39 b35 b43 b45 b46 hd b60 b64 hg
  · have hg : nbg r 0 = false := by simpa using hg
    rw [hg] at ht
    exact rtok_de h hl H5 (Lib.hid ht) hw b34 b39 b35 b43 b45 b46 hd b60 b64 hg
end
theorem pre_two (a b : Int) (r : List Int) (ha : a ≠ -1) (hb : b ≠ -1) : pre [a, b] r = (ah r 0 == a && ah r 1 == b) := by
 have h := pre_iff [a, b] r (by intro x hx; simp at hx; rcases hx with rfl | rfl; exact ha; exact hb)
 rw [Bool.eq_iff_iff, h]
 constructor
 · intro hh; have h0 := hh 0 (by simp); have h1 := hh 1 (by simp)
   simp [nth] at h0 h1
   simp [h0, h1]
 · intro hh j hj
   simp at hh
   have : j = 0 ∨ j = 1 := by simp at hj; omega
   rcases this with rfl | rfl <;> simp [nth, hh]
theorem Now.to {T : TypeId} {g : Nat} {v : Value} {xs r r' : List Int} {w0 w : World} (h : Now T g v xs r w0 w) (hr : r' <:+ r) {u : Int} (hu : u = ((xs.length - r'.length : Nat) : Int)) : Now T g v xs r' w0 (w.setCell ⟨g, 1, none⟩ (.int .i64 u)) :=
 h.go (hr.trans h.st.suf) (by rw [hu])
section
variable {g : Nat} {v : Value} {xs r : List Int} {w0 w : World}
theorem rtokens_any (xs : List Int) (v : Value) (w : World) (hv : Rd .i32 w v xs) (hlen : xs.length ≤ 100000000) (hok : SignsOk xs) :
    Calls Tryz.prog 16 #[v] w (AllOf w (toks xs)) := by
  obtain ⟨i0, hi, hz0, hz1, hz2⟩ := info_parts info_tok
  have hst : St 101 w.heap.size v xs xs (w.alloc (.cells #[v, .int .i64 0] 101)) := by
   refine ⟨?_, hv.below ((Below.refl _ _).alloc (Nat.le_refl _) _), fun hp k hk e => by have := hv.own_lt hp k hk; omega, List.suffix_refl _, hlen, hok⟩
   rw [heap_alloc_self]
   simp
  have h1 := hst.now
  obtain ⟨a, c, rfl, hle, _⟩ := hv
  clear hst
  have hgB : w.heap.size < (w.alloc (.cells #[.slice a xs.length c, .int .i64 0] 101)).heap.size := by simp
  have hB0 : Below w.heap.size w (w.alloc (.cells #[.slice a xs.length c, .int .i64 0] 101)) := (Below.refl _ _).alloc (Nat.le_refl _) _
  go_enter Tryz.func16, Tryz.ntmps16
  go_wp2
  generalize w.alloc (.cells #[.slice a xs.length c, .int .i64 0] 101) = WA at *
  go_loopw [4] (fun lv wr => ∃ out q, out ++ toks q = toks xs ∧ out.length + q.length ≤ xs.length ∧ TokL WA.heap.size wr lv out ∧ Now 101 w.heap.size (.slice a xs.length c) xs q WA wr) (fun _ wr => left w.heap.size xs.length wr)
  case atStart => exact ⟨[], xs, rfl, by simp, TokL.nil _ _, h1⟩
  case round =>
   obtain ⟨out, q, hq, hol, ho, hn⟩ := hrel
   clear h1
   have HQ := Lib.hid hq
   clear hq
   have hws := hn.gw.size
   have hnr := hn.st.now
   have HN := Lib.hid hn
   clear hn
   obtain ⟨wo, rfl⟩ : ∃ wo : World, wo = wr := ⟨_, rfl⟩
   go_wp2
   go_loopw [] (fun wr2 => ∃ q2, cm q2 = cm q ∧ q2.length ≤ q.length ∧ Now 101 w.heap.size (.slice a xs.length c) xs q2 wo wr2) (fun wr2 => left w.heap.size xs.length wr2)
   case atStart => exact ⟨q, rfl, Nat.le_refl _, hnr⟩
   case round =>
    obtain ⟨q2, hq2, hq2l, hn⟩ := hrel
    clear hnr
    have HQ2 := Lib.hid hq2
    clear hq2
    obtain ⟨wi, rfl⟩ : ∃ wi : World, wi = wr := ⟨_, rfl⟩
    by_cases c1 : pre [47, 42] q2 = true
    · have hl2 : 2 ≤ q2.length := pre_len c1
      have CY := Lib.hid (cm_yes c1)
      rw [pre_two _ _ _ (by decide) (by decide)] at c1
      simp only [Bool.and_eq_true] at c1
      obtain ⟨b1, b2⟩ := c1
      go_wp2_with (first | (go_at_call 28; (with_reducible refine (sign_0 hn).mono ?_); rintro e w1 ⟨rfl, h1⟩) | (go_at_call 28; (with_reducible refine (sign_1 h1).mono ?_); rintro e w1 ⟨rfl, h1⟩; have k1 := h1.st.cell1; have k2 := h1.st.free1; have h2 := h1.advN 2 hl2 (u := ((xs.length - q2.length : Nat) : Int) + 2) (by have := h1.st.rlen; omega)))
      clear k1 k2 h1
      go_loopw [] (fun wr3 => ∃ q3, cmEnd q3 = cmEnd (dp 2 q2) ∧ q3.length < q2.length ∧ Now 101 w.heap.size (.slice a xs.length c) xs q3 wo wr3) (fun wr3 => left w.heap.size xs.length wr3)
      case atStart => exact ⟨dp 2 q2, rfl, by rw [dp_len]; omega, h2⟩
      case round =>
       obtain ⟨q3, hq3, hq3l, hn3⟩ := hrel
       clear h2
       have HQ3 := Lib.hid hq3
       clear hq3
       have hq3r := hn3.st.rlen
       have hgo := hn3.st.lt
       by_cases e : q3.isEmpty = true
       · obtain rfl : q3 = [] := by simpa using e
         have HX := Lib.hid (show cmEnd (dp 2 q2) = [] by rw [← HQ3.out]; rfl)
         clear e
         go_wp2_with (go_at_call 28; (with_reducible refine (sign_0 hn3).mono ?_); rintro e w1 ⟨rfl, h1⟩)
         have d0 := h1.st.cell0
         have d1 := h1.st.cell1
         have k2 := h1.st.free1
         have d2 : ({ heap := w1.heap, tape := w1.tape, drawn := w1.drawn + 1, os := w1.os, output := w1.output } : World).cell? ⟨w.heap.size, 0, none⟩ = some (Value.slice a xs.length c) := d0
         have d3 : ({ heap := w1.heap, tape := w1.tape, drawn := w1.drawn + 1, os := w1.os, output := w1.output } : World).cell? ⟨w.heap.size, 1, none⟩ = some (Value.int .i64 ((xs.length - ([] : List Int).length : Nat) : Int)) := d1
         have hwr : IntKind.i64.wrap ((xs.length : Int) + 2) = (xs.length : Int) + 2 := IntWalk.i64_in _ (by omega)
         go_still_tail 14, (by kernel_rfl)
         have hN := h1.drew
         change wpList _ _ _ _ _ w1.drew
         clear d0 d1 d2 d3 k2 h1 hwr
         generalize w1.drew = w2 at *
         have k1 := hN.st.cell1
         have k2 := hN.st.free1
         go_wp2
         have hE := hN.to (r' := []) (List.suffix_refl _) (u := (xs.length : Int)) (by simp)
         all_goals go_roundw
         case rel => exact ⟨[], by rw [← HQ2.out, CY.out, HX.out], Nat.zero_le _, hE⟩
         case measure => rw [hE.left, hn.left]; simp; omega
       · have hlq3 := ne_len e
         have hok3 := (hn3.st.ah_ok (n := 0) (by omega)).1
         by_cases c2 : pre [42, 47] q3 = true
         · have hl3 : 2 ≤ q3.length := pre_len c2
           have HX := Lib.hid (show cmEnd (dp 2 q2) = dp 2 q3 by rw [← HQ3.out, cmEnd_yes c2])
           rw [pre_two _ _ _ (by decide) (by decide)] at c2
           simp only [Bool.and_eq_true] at c2
           obtain ⟨b3, b4⟩ := c2
           have b5 : (ah q3 0 != 42) = false := by simpa using b3
           have b6 : (ah q3 1 != 47) = false := by simpa using b4
           clear b3 b4 e
           go_wp2_with (first | (go_at_call 28; (with_reducible refine (sign_0 hn3).mono ?_); rintro e w1 ⟨rfl, h1⟩) | (go_at_call 28; (with_reducible refine (sign_0 h1).mono ?_); rintro e w1 ⟨rfl, h1⟩) | (go_at_call 28; (with_reducible refine (sign_1 h1).mono ?_); rintro e w1 ⟨rfl, h1⟩))
           have d0 := h1.st.cell0
           have d1 := h1.st.cell1
           have k2 := h1.st.free1
           have d2 : ({ heap := w1.heap, tape := w1.tape, drawn := w1.drawn + 1, os := w1.os, output := w1.output } : World).cell? ⟨w.heap.size, 0, none⟩ = some (Value.slice a xs.length c) := d0
           have d3 : ({ heap := w1.heap, tape := w1.tape, drawn := w1.drawn + 1, os := w1.os, output := w1.output } : World).cell? ⟨w.heap.size, 1, none⟩ = some (Value.int .i64 ((xs.length - q3.length : Nat) : Int)) := d1
           have hwr : IntKind.i64.wrap (((xs.length - q3.length : Nat) : Int) + 2) = ((xs.length - q3.length : Nat) : Int) + 2 := IntWalk.i64_in _ (by omega)
           have hwl : ((xs.length - q3.length : Nat) : Int) + 2 ≤ (xs.length : Int) := by omega
           go_still_tail 14, (by kernel_rfl)
           have hN := h1.drew
           change wpList _ _ _ _ _ w1.drew
           clear d0 d1 d2 d3 k2 h1 hwr
           generalize w1.drew = w2 at *
           have k1 := hN.st.cell1
           have k2 := hN.st.free1
           go_wp2
           have hE := hN.advN 2 hl3 (u := ((xs.length - q3.length : Nat) : Int) + 2) (by omega)
           all_goals go_roundw
           case rel => exact ⟨dp 2 q3, by rw [← HQ2.out, CY.out, HX.out], by rw [dp_len]; omega, hE⟩
           case measure => rw [hE.left, hn.left, dp_len]; omega
         · have c2' : pre [42, 47] q3 = false := by simpa using c2
           have HX := Lib.hid (show cmEnd (dp 1 q3) = cmEnd (dp 2 q2) by rw [← HQ3.out, ← cmEnd_no c2'])
           rw [pre_two _ _ _ (by decide) (by decide)] at c2'
           have k1 := hn3.st.cell1
           clear c2 e
           by_cases b : ah q3 0 = 42
           · have b5 : (ah q3 0 != 42) = false := by simp [b]
             have b6 : (ah q3 1 != 47) = true := by simpa [b] using c2'
             clear b c2'
             go_wp2_with (first | (go_at_call 28; (with_reducible refine (sign_0 hn3).mono ?_); rintro e w1 ⟨rfl, h1⟩) | (go_at_call 28; (with_reducible refine (sign_0 h1).mono ?_); rintro e w1 ⟨rfl, h1⟩) | (go_at_call 28; (with_reducible refine (sign_1 h1).mono ?_); rintro e w1 ⟨rfl, h1⟩; have k1 := h1.st.cell1; have k2 := h1.st.free1; have h2 := h1.adv1 hlq3))
             go_roundw
             case rel => exact ⟨dp 1 q3, HX.out, by rw [dp_len]; omega, h2⟩
             case measure => rw [h2.left, hn3.left, dp_len]; omega
           · have b5 : (ah q3 0 != 42) = true := by simp [b]
             clear b c2'
             go_wp2_with (first | (go_at_call 28; (with_reducible refine (sign_0 hn3).mono ?_); rintro e w1 ⟨rfl, h1⟩) | (go_at_call 28; (with_reducible refine (sign_0 h1).mono ?_); rintro e w1 ⟨rfl, h1⟩; have k1 := h1.st.cell1; have k2 := h1.st.free1; have h2 := h1.adv1 hlq3))
             go_roundw
             case rel => exact ⟨dp 1 q3, HX.out, by rw [dp_len]; omega, h2⟩
             case measure => rw [h2.left, hn3.left, dp_len]; omega
    · have c1' : pre [47, 42] q2 = false := by simpa using c1
      have HC := Lib.hid (show cm q = q2 by rw [← HQ2.out, cm_no c1'])
      have ht := toks_eq q
      rw [HC.out] at ht
      have HT := Lib.hid ht
      rw [pre_two _ _ _ (by decide) (by decide)] at c1'
      clear c1 ht
      have hq2r := hn.st.rlen
      by_cases e : q2.isEmpty = true
      · obtain rfl : q2 = [] := by simpa using e
        have HX := Lib.hid (show toks xs = out by rw [← HQ.out, HT.out]; unfold toksC; simp)
        clear e c1'
        go_wp2_with (first | (go_at_call 28; (with_reducible refine (sign_0 hn).mono ?_); rintro e w1 ⟨rfl, h1⟩) | (go_at_call 28; (with_reducible refine (sign_0 h1).mono ?_); rintro e w1 ⟨rfl, h1⟩))
        go_ret
        refine ⟨_, rfl, ?_, hB0.trans ((h1.since HN.out).gw.below (Nat.le_refl _) (Nat.le_of_lt hgB))⟩
        rw [HX.out]
        exact (ho.keeps h1 hgB).rd
      · have hlq2 := ne_len e
        have hok2 := (hn.st.ah_ok (n := 0) (by omega)).1
        have hlt := tokT_lt hlq2
        have HX := Lib.hid (show out ++ [(tokT q2).1] ++ toks (tokT q2).2 = toks xs by
         rw [← HQ.out, List.append_assoc, HT.out]
         conv => rhs; unfold toksC
         rw [if_neg e]; rfl)
        have hol2 : (out ++ [(tokT q2).1]).length + (tokT q2).2.length ≤ xs.length := by rw [List.length_append]; simp; omega
        clear e
        by_cases b : ah q2 0 = 47
        · have b1 : (ah q2 0 == 47) = true := by simp [b]
          have b2 : (ah q2 1 == 42) = false := by simpa [b] using c1'
          clear b c1'
          go_wp2_with (first | (go_at_call 28; (with_reducible refine (sign_0 hn).mono ?_); rintro e w1 ⟨rfl, h1⟩) | (go_at_call 28; (with_reducible refine (sign_1 h1).mono ?_); rintro e w1 ⟨rfl, h1⟩) | (go_at_call 28; (with_reducible refine (sign_0 h1).mono ?_); rintro e w1 ⟨rfl, h1⟩) | (go_at_call 29; (with_reducible refine (rtoken_any h1 hlq2).mono ?_); rintro e w1 ⟨rfl, h1⟩; have hs1 := h1.gw.size; simp only [Tok.val]) | (at_builtin; refine wpList_append_own _ rfl _ _ 48 rfl WA.heap.size 94 i0 (.agg #[.int .i64 0, .string ⟨#[]⟩, .int .i64 0, .bool false, .bool false, .bool false]) 6 40 Tryz.underlying48 hi hz0 hz1 hz2 rfl (by decide) _ _ _ rfl ((ho.keeps h1 hgB).alloc _) ⟨_, 0, none⟩ 1 1 (tcells (tokT q2).1) rfl rfl (cell_six_new _ _ _) (tcells_one _) (by unfold maxLen; omega) (by omega) (by simp; omega) ?_; intro v' w4 ho4 hg4 _))
          have hT : TokL WA.heap.size w4 v' (out ++ [(tokT q2).1]) := by
           unfold TokL
           rw [List.length_append, List.flatMap_append]
           simpa using ho4
          have h6 := ((h1.since HN.out).alloc (.cells #[.int .i64 (tokT q2).1.kind, .string (tokT q2).1.text, .int .i64 (tokT q2).1.int, .bool (tokT q2).1.whole, .bool (tokT q2).1.sign, .bool (tokT q2).1.id] 94)).grown hg4 ho.row
          go_roundw
          case rel => exact ⟨_, _, HX.out, hol2, hT, h6⟩
          case measure => rw [h6.left, HN.out.left]; omega
        · have b1 : (ah q2 0 == 47) = false := by simp [b]
          clear b c1'
          go_wp2_with (first | (go_at_call 28; (with_reducible refine (sign_0 hn).mono ?_); rintro e w1 ⟨rfl, h1⟩) | (go_at_call 28; (with_reducible refine (sign_0 h1).mono ?_); rintro e w1 ⟨rfl, h1⟩) | (go_at_call 29; (with_reducible refine (rtoken_any h1 hlq2).mono ?_); rintro e w1 ⟨rfl, h1⟩; have hs1 := h1.gw.size; simp only [Tok.val]) | (at_builtin; refine wpList_append_own _ rfl _ _ 48 rfl WA.heap.size 94 i0 (.agg #[.int .i64 0, .string ⟨#[]⟩, .int .i64 0, .bool false, .bool false, .bool false]) 6 40 Tryz.underlying48 hi hz0 hz1 hz2 rfl (by decide) _ _ _ rfl ((ho.keeps h1 hgB).alloc _) ⟨_, 0, none⟩ 1 1 (tcells (tokT q2).1) rfl rfl (cell_six_new _ _ _) (tcells_one _) (by unfold maxLen; omega) (by omega) (by simp; omega) ?_; intro v' w4 ho4 hg4 _))
          have hT : TokL WA.heap.size w4 v' (out ++ [(tokT q2).1]) := by
           unfold TokL
           rw [List.length_append, List.flatMap_append]
           simpa using ho4
          have h6 := ((h1.since HN.out).alloc (.cells #[.int .i64 (tokT q2).1.kind, .string (tokT q2).1.text, .int .i64 (tokT q2).1.int, .bool (tokT q2).1.whole, .bool (tokT q2).1.sign, .bool (tokT q2).1.id] 94)).grown hg4 ho.row
          go_roundw
          case rel => exact ⟨_, _, HX.out, hol2, hT, h6⟩
          case measure => rw [h6.left, HN.out.left]; omega
end
end Go.Proofs.YtclicjiakkcfcaaGreatDoor
