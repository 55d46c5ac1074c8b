
import Derived.Test.YtjjkifhegfpceaaDoorAnR
import Derived.Deep.CutBlock
import Derived.Deep.DeepCutAuto
import Derived.BigQuiet
import Derived.Deep.QuietTactic
namespace Go.Proofs.YtjjkifhegfpceaaDoor
open Go.RowKit Go.Shelf
def AnbPost (w : World) (R : Int × Int × Bool) (e : Ending) (w' : World) : Prop := e = .returned (.tuple #[.int .i64 R.1, .int .i64 R.2.1, .bool R.2.2]) ∧ Below w.heap.size w w'
theorem anyK_no {m : List Nd} (h : ∀ j, (hj : j < m.length) → (m[j]).kids.length = 0) : anyK m = false := by
  unfold anyK
  rw [List.any_eq_false]
  intro n hn
  obtain ⟨j, hj, rfl⟩ := List.mem_iff_getElem.1 hn
  have := h j hj
  simp; exact List.eq_nil_of_length_eq_zero this
theorem anyK_yes {m : List Nd} {j : Nat} (hj : j < m.length) (h : 0 < (m[j]).kids.length) : anyK m = true := by
  unfold anyK
  exact List.any_eq_true.2 ⟨m[j], List.getElem_mem hj, decide_eq_true h⟩
theorem below_drewNj2 (w : World) (n : Nat) {B : Nat} : Below B w (w.drewN n) := ⟨rfl, rfl, rfl, Nat.le_refl _, fun _ _ => rfl⟩
set_option maxRecDepth 100000 in
set_option maxHeartbeats 3200000 in
theorem anb_kids {l : List Nd} {v : Value} {w : World} {P : Nat → Prop} (h : RdN w P v l) (hl : szL l ≤ 100000000) (hts : ∀ n ∈ l, n.tok.text.size ≤ 500000000) (hKm : anyK (trimS l) = true) :
    Calls Tryd.prog 12 #[v] w (AnbPost w (parseS l)) := by
  have HT := Lib.hid (reftrim_any h hl)
  have hE := trim_EndOk l
  have hz := trim_szL l
  have htx : ∀ n ∈ trimS l, n.tok.text.size ≤ 500000000 := fun n hn => hts n (trim_mem hn)
  rw [parse_ref]
  clear h
  generalize trimS l = m at *
  have hm8 : szL m ≤ 100000000 := by omega
  have hml := szL_ge m
  obtain ⟨R, hR⟩ : ∃ R, (if anyK m = true then noneA else refS m) = R := ⟨_, rfl⟩
  rw [hR]
  clear hts hz hl
  go_enter Tryd.func12, Tryd.ntmps12
  go_wp2_with (go_at_call 49; (with_reducible refine HT.out.mono ?_); rintro e w1 ⟨⟨v1, rfl, hv1⟩, rfl⟩)
  obtain ⟨N, hN⟩ : ∃ N, m.length = N := ⟨_, rfl⟩
  obtain ⟨a1, c1, rfl, hc1⟩ := hv1.shape
  rw [hN] at hc1
  have hv1' := hv1
  rw [hN] at hv1' ⊢
  have hN8 : N ≤ 100000000 := by omega
  clear HT
  go_loop [5] (fun iv => ∃ i : Nat, iv = .int .i64 i ∧ i ≤ N ∧ ∀ j, (hj : j < m.length) → j < i → (m[j]).kids.length = 0) (fun iv => N - (intOf iv).toNat)
  case atStart => exact ⟨0, rfl, Nat.zero_le _, fun j hj h => absurd h (Nat.not_lt_zero _)⟩
  case round =>
    obtain ⟨i, rfl, hi, hall⟩ := hrel
    have HALL := Lib.hid hall
    clear hall
    by_cases hlt : i < N
    · have hltI : (i : Int) < (N : Int) := by omega
      obtain ⟨b, off, c, u, hv, hlc, _, hbl, hat, hk⟩ := hv1.at i (by omega)
      injection hv with e1 e2 e3
      subst e1
      obtain ⟨ka, kc, rfl, _⟩ := hk.shape
      have q6 := hat.c6
      have hi0 : (0 : Int) ≤ (i : Int) := by omega
      obtain ⟨K, hK⟩ : ∃ K, (m[i]'(by omega)).kids.length = K := ⟨_, rfl⟩
      rw [hK] at q6
      clear hat hk
      by_cases hk0 : 0 < K
      · have HR := Lib.hid (show noneA = R by rw [← hR, if_pos (anyK_yes (j := i) (by omega) (by omega))])
        have hkI : (0 : Int) < (K : Int) := by omega
        clear hR
        go_wp2
        go_ret3
        exact ⟨by rw [← HR.out]; rfl, Below.refl _ _⟩
      · have hkI : ¬ (0 : Int) < (K : Int) := by omega
        have HX := Lib.hid (show ∀ j, (hj : j < m.length) → j < i + 1 → (m[j]).kids.length = 0 from fun j hj h => by
          by_cases e : j = i
          · subst e; omega
          · exact HALL.out j hj (by omega))
        go_wp2
        go_round
        case rel => exact ⟨i + 1, by go_num, by omega, HX.out⟩
        case measure => simp [intOf]; omega
    · have hltI : ¬ (i : Int) < (N : Int) := by omega
      exact absurd (anyK_no (fun j hj => HALL.out j hj (by omega))) (by rw [hKm]; decide)
set_option maxRecDepth 100000 in
set_option maxHeartbeats 3200000 in
theorem anb_nil {l : List Nd} {v : Value} {w : World} {P : Nat → Prop} (h : RdN w P v l) (hl : szL l ≤ 100000000) (hts : ∀ n ∈ l, n.tok.text.size ≤ 500000000) (hm : trimS l = []) :
    Calls Tryd.prog 12 #[v] w (AnbPost w (parseS l)) := by
  have HT := Lib.hid (reftrim_any h hl)
  have hE := trim_EndOk l
  have hz := trim_szL l
  have htx : ∀ n ∈ trimS l, n.tok.text.size ≤ 500000000 := fun n hn => hts n (trim_mem hn)
  rw [parse_ref]
  clear h
  rw [hm] at HT hE hz htx ⊢
  obtain ⟨m, hmm⟩ : ∃ m, ([] : List Nd) = m := ⟨_, rfl⟩
  rw [hmm] at HT hE hz htx ⊢
  have hKm : anyK m = false := by rw [← hmm]; rfl
  clear hm
  have hm8 : szL m ≤ 100000000 := by omega
  have hml := szL_ge m
  obtain ⟨R, hR⟩ : ∃ R, (if anyK m = true then noneA else refS m) = R := ⟨_, rfl⟩
  rw [hR]
  clear hts hz hl
  go_enter Tryd.func12, Tryd.ntmps12
  go_wp2_with (go_at_call 49; (with_reducible refine HT.out.mono ?_); rintro e w1 ⟨⟨v1, rfl, hv1⟩, rfl⟩)
  obtain ⟨N, hN⟩ : ∃ N, m.length = N := ⟨_, rfl⟩
  obtain ⟨a1, c1, rfl, hc1⟩ := hv1.shape
  rw [hN] at hc1
  have hv1' := hv1
  rw [hN] at hv1' ⊢
  have hN8 : N ≤ 100000000 := by omega
  clear HT
  go_loop [5] (fun iv => ∃ i : Nat, iv = .int .i64 i ∧ i ≤ N ∧ ∀ j, (hj : j < m.length) → j < i → (m[j]).kids.length = 0) (fun iv => N - (intOf iv).toNat)
  case atStart => exact ⟨0, rfl, Nat.zero_le _, fun j hj h => absurd h (Nat.not_lt_zero _)⟩
  case round =>
    obtain ⟨i, rfl, hi, hall⟩ := hrel
    have HALL := Lib.hid hall
    clear hall
    by_cases hlt : i < N
    · have hltI : (i : Int) < (N : Int) := by omega
      obtain ⟨b, off, c, u, hv, hlc, _, hbl, hat, hk⟩ := hv1.at i (by omega)
      injection hv with e1 e2 e3
      subst e1
      obtain ⟨ka, kc, rfl, _⟩ := hk.shape
      have q6 := hat.c6
      have hi0 : (0 : Int) ≤ (i : Int) := by omega
      obtain ⟨K, hK⟩ : ∃ K, (m[i]'(by omega)).kids.length = K := ⟨_, rfl⟩
      rw [hK] at q6
      clear hat hk
      by_cases hk0 : 0 < K
      · exact absurd (anyK_yes (m := m) (j := i) (by omega) (by omega)) (by rw [hKm]; decide)
      · have hkI : ¬ (0 : Int) < (K : Int) := by omega
        have HX := Lib.hid (show ∀ j, (hj : j < m.length) → j < i + 1 → (m[j]).kids.length = 0 from fun j hj h => by
          by_cases e : j = i
          · subst e; omega
          · exact HALL.out j hj (by omega))
        go_wp2
        go_round
        case rel => exact ⟨i + 1, by go_num, by omega, HX.out⟩
        case measure => simp [intOf]; omega
    · have hltI : ¬ (i : Int) < (N : Int) := by omega
      have HR := Lib.hid (show refS m = R by rw [← hR, if_neg (by rw [hKm]; decide)])
      clear hR HALL hKm
      subst hmm
      have hN0 : N = 0 := hN.symm
      subst hN0
      go_wp2
      go_ret3
      exact ⟨by rw [← HR.out]; rfl, Below.refl _ _⟩
set_option maxRecDepth 100000 in
set_option maxHeartbeats 3200000 in
theorem anb_odd {l : List Nd} {v : Value} {w : World} {P : Nat → Prop} (h : RdN w P v l) (hl : szL l ≤ 100000000) (hts : ∀ n ∈ l, n.tok.text.size ≤ 500000000) {t : Tok} {k r : List Nd} (hm : trimS l = .mk t k :: r) (hKl : anyK (trimS l) = false) (kk : t.kind = 1) (hr0 : r = []) (o : ((lowS t.text).toList == [111, 100, 100]) = true) :
    Calls Tryd.prog 12 #[v] w (AnbPost w (parseS l)) := by
  have HT := Lib.hid (reftrim_any h hl)
  have hE := trim_EndOk l
  have hz := trim_szL l
  have htx : ∀ n ∈ trimS l, n.tok.text.size ≤ 500000000 := fun n hn => hts n (trim_mem hn)
  rw [parse_ref]
  clear h
  have H_kk := Lib.hid kk
  clear kk
  have H_hr0 := Lib.hid hr0
  clear hr0
  have H_o := Lib.hid o
  clear o
  rw [hm] at hKl HT hE hz htx ⊢
  obtain ⟨m, hmm⟩ : ∃ m, (.mk t k :: r : List Nd) = m := ⟨_, rfl⟩
  rw [hmm] at hKl HT hE hz htx ⊢
  have hKm := hKl
  clear hKl hm
  have hm8 : szL m ≤ 100000000 := by omega
  have hml := szL_ge m
  obtain ⟨R, hR⟩ : ∃ R, (if anyK m = true then noneA else refS m) = R := ⟨_, rfl⟩
  rw [hR]
  clear hts hz hl
  go_enter Tryd.func12, Tryd.ntmps12
  go_wp2_with (go_at_call 49; (with_reducible refine HT.out.mono ?_); rintro e w1 ⟨⟨v1, rfl, hv1⟩, rfl⟩)
  obtain ⟨N, hN⟩ : ∃ N, m.length = N := ⟨_, rfl⟩
  obtain ⟨a1, c1, rfl, hc1⟩ := hv1.shape
  rw [hN] at hc1
  have hv1' := hv1
  rw [hN] at hv1' ⊢
  have hN8 : N ≤ 100000000 := by omega
  clear HT
  go_loop [5] (fun iv => ∃ i : Nat, iv = .int .i64 i ∧ i ≤ N ∧ ∀ j, (hj : j < m.length) → j < i → (m[j]).kids.length = 0) (fun iv => N - (intOf iv).toNat)
  case atStart => exact ⟨0, rfl, Nat.zero_le _, fun j hj h => absurd h (Nat.not_lt_zero _)⟩
  case round =>
    obtain ⟨i, rfl, hi, hall⟩ := hrel
    have HALL := Lib.hid hall
    clear hall
    by_cases hlt : i < N
    · have hltI : (i : Int) < (N : Int) := by omega
      obtain ⟨b, off, c, u, hv, hlc, _, hbl, hat, hk⟩ := hv1.at i (by omega)
      injection hv with e1 e2 e3
      subst e1
      obtain ⟨ka, kc, rfl, _⟩ := hk.shape
      have q6 := hat.c6
      have hi0 : (0 : Int) ≤ (i : Int) := by omega
      obtain ⟨K, hK⟩ : ∃ K, (m[i]'(by omega)).kids.length = K := ⟨_, rfl⟩
      rw [hK] at q6
      clear hat hk
      by_cases hk0 : 0 < K
      · exact absurd (anyK_yes (m := m) (j := i) (by omega) (by omega)) (by rw [hKm]; decide)
      · have hkI : ¬ (0 : Int) < (K : Int) := by omega
        have HX := Lib.hid (show ∀ j, (hj : j < m.length) → j < i + 1 → (m[j]).kids.length = 0 from fun j hj h => by
          by_cases e : j = i
          · subst e; omega
          · exact HALL.out j hj (by omega))
        go_wp2
        go_round
        case rel => exact ⟨i + 1, by go_num, by omega, HX.out⟩
        case measure => simp [intOf]; omega
    · have hltI : ¬ (i : Int) < (N : Int) := by omega
      have HR := Lib.hid (show refS m = R by rw [← hR, if_neg (by rw [hKm]; decide)])
      clear hR HALL hKm
      subst hmm
      obtain ⟨b, off, c, u, hv, hlc, _, hbl, hat, hk⟩ := hv1.at 0 (by simp)
      injection hv with e1 e2 e3
      subst e1
      subst e3
      have q0 := hat.c0
      have q1 := hat.c1
      have q2 := hat.c2
      have q3 := hat.c3
      have q4 := hat.c4
      have q5 := hat.c5
      simp only [List.getElem_cons_zero, Nd.tok, Nat.zero_mul, Nat.add_zero] at q0 q1 q2 q3 q4 q5
      have htz5 : t.text.size ≤ 500000000 := by have := htx (.mk t k) (by simp); simpa only [Nd.tok] using this
      have htz : t.text.size ≤ 1000000000 := by omega
      have hN1 : N = r.length + 1 := by rw [← hN]; rfl
      have hN0 : ¬ (N : Int) = 0 := by omega
      have hN0' : ((N : Int) == 0) = false := by simpa using hN0
      have hNp : (0 : Int) < (N : Int) := by omega
      clear hat hk
      have hE2 := hE.tail
      have hr1 : RdN w P (.slice (some ⟨b, off + 1 * 7, none⟩) (N - 1) (c1 - 1)) ((.mk t k :: r : List Nd).drop 1) := hv1'.drop 1 (by simp)
      have hr1 : RdN w P (.slice (some ⟨b, off + 7, none⟩) r.length (c1 - 1)) r := by
        have e1 : (.mk t k :: r : List Nd).drop 1 = r := rfl
        have e2 : N - 1 = r.length := by omega
        rw [e1, e2, Nat.one_mul] at hr1
        exact hr1
      go_wp2_with fail
      refine (reflower_any t.text _ htz).mono ?_
      rintro e w2 ⟨rfl, hb2⟩
      have hB2 := below_seq (below_al w (.cells #[.int .i64 t.kind, .string t.text, .int .i64 t.int, .bool t.whole, .bool t.sign, .bool t.id] 77)) hb2
      have hblk : w2.heap[w.heap.size]? = some (.cells #[.int .i64 t.kind, .string t.text, .int .i64 t.int, .bool t.whole, .bool t.sign, .bool t.id] 77 (0, 0)) := by
        rw [hb2.block w.heap.size (by simp)]
        exact heap_alloc_self _ _
      have hr2 := hr1.under hB2 (Nat.le_refl _)
      have hv2 := hv1.under hB2 (Nat.le_refl _)
      obtain ⟨f0, f1, f2, f3, _⟩ := TokB.cells (b := w.heap.size) (t := t) (w := w2) hblk
      clear hb2 q0 q1 q2 q3 q4 q5 hblk
      go_upto_region 12 with fail
      go_cut [9] (fun rv wx => RdN w2 P rv r ∧ wx = w2)
      case first =>
        by_cases hcc : c1 = 1
        · subst hcc
          have hr0 : r = [] := List.eq_nil_of_length_eq_zero (by omega)
          subst hr0
          go_wp2
          go_meet
          case rel => exact ⟨.nil _ _, rfl⟩
        · have hcc' : ¬ 1 = c1 := fun e => hcc e.symm
          go_wp2
          go_meet
          case rel => exact ⟨hr2, rfl⟩
      case rest =>
      clear hr2 hr1
      obtain ⟨hr2, rfl⟩ := hcut
      obtain ⟨ra, rc, rfl, _⟩ := hr2.shape
      go_upto_block 2 with fail
      have kk := H_kk.out
      have hr0 := H_hr0.out
      have o := H_o.out
      subst hr0
      have b1 : (t.kind == 1) = true := by rw [kk]; rfl
      have b9 : (t.kind == 9) = false := by rw [kk]; rfl
      have b10 : (t.kind == 10) = false := by rw [kk]; rfl
      have b12 : (t.kind == 12) = false := by rw [kk]; rfl
      have HX := Lib.hid (show (2, 1, true) = R by rw [← HR.out]; simp [refS, Nd.tok, kk, o])
      clear HR
      go_wp2
      go_ret3
      exact ⟨by rw [← HX.out]; rfl, hB2⟩
set_option maxRecDepth 100000 in
set_option maxHeartbeats 3200000 in
theorem anb_even {l : List Nd} {v : Value} {w : World} {P : Nat → Prop} (h : RdN w P v l) (hl : szL l ≤ 100000000) (hts : ∀ n ∈ l, n.tok.text.size ≤ 500000000) {t : Tok} {k r : List Nd} (hm : trimS l = .mk t k :: r) (hKl : anyK (trimS l) = false) (kk : t.kind = 1) (hr0 : r = []) (o : ((lowS t.text).toList == [111, 100, 100]) = false) (e : ((lowS t.text).toList == [101, 118, 101, 110]) = true) :
    Calls Tryd.prog 12 #[v] w (AnbPost w (parseS l)) := by
  have HT := Lib.hid (reftrim_any h hl)
  have hE := trim_EndOk l
  have hz := trim_szL l
  have htx : ∀ n ∈ trimS l, n.tok.text.size ≤ 500000000 := fun n hn => hts n (trim_mem hn)
  rw [parse_ref]
  clear h
  have H_kk := Lib.hid kk
  clear kk
  have H_hr0 := Lib.hid hr0
  clear hr0
  have H_o := Lib.hid o
  clear o
  have H_e := Lib.hid e
  clear e
  rw [hm] at hKl HT hE hz htx ⊢
  obtain ⟨m, hmm⟩ : ∃ m, (.mk t k :: r : List Nd) = m := ⟨_, rfl⟩
  rw [hmm] at hKl HT hE hz htx ⊢
  have hKm := hKl
  clear hKl hm
  have hm8 : szL m ≤ 100000000 := by omega
  have hml := szL_ge m
  obtain ⟨R, hR⟩ : ∃ R, (if anyK m = true then noneA else refS m) = R := ⟨_, rfl⟩
  rw [hR]
  clear hts hz hl
  go_enter Tryd.func12, Tryd.ntmps12
  go_wp2_with (go_at_call 49; (with_reducible refine HT.out.mono ?_); rintro e w1 ⟨⟨v1, rfl, hv1⟩, rfl⟩)
  obtain ⟨N, hN⟩ : ∃ N, m.length = N := ⟨_, rfl⟩
  obtain ⟨a1, c1, rfl, hc1⟩ := hv1.shape
  rw [hN] at hc1
  have hv1' := hv1
  rw [hN] at hv1' ⊢
  have hN8 : N ≤ 100000000 := by omega
  clear HT
  go_loop [5] (fun iv => ∃ i : Nat, iv = .int .i64 i ∧ i ≤ N ∧ ∀ j, (hj : j < m.length) → j < i → (m[j]).kids.length = 0) (fun iv => N - (intOf iv).toNat)
  case atStart => exact ⟨0, rfl, Nat.zero_le _, fun j hj h => absurd h (Nat.not_lt_zero _)⟩
  case round =>
    obtain ⟨i, rfl, hi, hall⟩ := hrel
    have HALL := Lib.hid hall
    clear hall
    by_cases hlt : i < N
    · have hltI : (i : Int) < (N : Int) := by omega
      obtain ⟨b, off, c, u, hv, hlc, _, hbl, hat, hk⟩ := hv1.at i (by omega)
      injection hv with e1 e2 e3
      subst e1
      obtain ⟨ka, kc, rfl, _⟩ := hk.shape
      have q6 := hat.c6
      have hi0 : (0 : Int) ≤ (i : Int) := by omega
      obtain ⟨K, hK⟩ : ∃ K, (m[i]'(by omega)).kids.length = K := ⟨_, rfl⟩
      rw [hK] at q6
      clear hat hk
      by_cases hk0 : 0 < K
      · exact absurd (anyK_yes (m := m) (j := i) (by omega) (by omega)) (by rw [hKm]; decide)
      · have hkI : ¬ (0 : Int) < (K : Int) := by omega
        have HX := Lib.hid (show ∀ j, (hj : j < m.length) → j < i + 1 → (m[j]).kids.length = 0 from fun j hj h => by
          by_cases e : j = i
          · subst e; omega
          · exact HALL.out j hj (by omega))
        go_wp2
        go_round
        case rel => exact ⟨i + 1, by go_num, by omega, HX.out⟩
        case measure => simp [intOf]; omega
    · have hltI : ¬ (i : Int) < (N : Int) := by omega
      have HR := Lib.hid (show refS m = R by rw [← hR, if_neg (by rw [hKm]; decide)])
      clear hR HALL hKm
      subst hmm
      obtain ⟨b, off, c, u, hv, hlc, _, hbl, hat, hk⟩ := hv1.at 0 (by simp)
      injection hv with e1 e2 e3
      subst e1
      subst e3
      have q0 := hat.c0
      have q1 := hat.c1
      have q2 := hat.c2
      have q3 := hat.c3
      have q4 := hat.c4
      have q5 := hat.c5
      simp only [List.getElem_cons_zero, Nd.tok, Nat.zero_mul, Nat.add_zero] at q0 q1 q2 q3 q4 q5
      have htz5 : t.text.size ≤ 500000000 := by have := htx (.mk t k) (by simp); simpa only [Nd.tok] using this
      have htz : t.text.size ≤ 1000000000 := by omega
      have hN1 : N = r.length + 1 := by rw [← hN]; rfl
      have hN0 : ¬ (N : Int) = 0 := by omega
      have hN0' : ((N : Int) == 0) = false := by simpa using hN0
      have hNp : (0 : Int) < (N : Int) := by omega
      clear hat hk
      have hE2 := hE.tail
      have hr1 : RdN w P (.slice (some ⟨b, off + 1 * 7, none⟩) (N - 1) (c1 - 1)) ((.mk t k :: r : List Nd).drop 1) := hv1'.drop 1 (by simp)
      have hr1 : RdN w P (.slice (some ⟨b, off + 7, none⟩) r.length (c1 - 1)) r := by
        have e1 : (.mk t k :: r : List Nd).drop 1 = r := rfl
        have e2 : N - 1 = r.length := by omega
        rw [e1, e2, Nat.one_mul] at hr1
        exact hr1
      go_wp2_with fail
      refine (reflower_any t.text _ htz).mono ?_
      rintro e w2 ⟨rfl, hb2⟩
      have hB2 := below_seq (below_al w (.cells #[.int .i64 t.kind, .string t.text, .int .i64 t.int, .bool t.whole, .bool t.sign, .bool t.id] 77)) hb2
      have hblk : w2.heap[w.heap.size]? = some (.cells #[.int .i64 t.kind, .string t.text, .int .i64 t.int, .bool t.whole, .bool t.sign, .bool t.id] 77 (0, 0)) := by
        rw [hb2.block w.heap.size (by simp)]
        exact heap_alloc_self _ _
      have hr2 := hr1.under hB2 (Nat.le_refl _)
      have hv2 := hv1.under hB2 (Nat.le_refl _)
      obtain ⟨f0, f1, f2, f3, _⟩ := TokB.cells (b := w.heap.size) (t := t) (w := w2) hblk
      clear hb2 q0 q1 q2 q3 q4 q5 hblk
      go_upto_region 12 with fail
      go_cut [9] (fun rv wx => RdN w2 P rv r ∧ wx = w2)
      case first =>
        by_cases hcc : c1 = 1
        · subst hcc
          have hr0 : r = [] := List.eq_nil_of_length_eq_zero (by omega)
          subst hr0
          go_wp2
          go_meet
          case rel => exact ⟨.nil _ _, rfl⟩
        · have hcc' : ¬ 1 = c1 := fun e => hcc e.symm
          go_wp2
          go_meet
          case rel => exact ⟨hr2, rfl⟩
      case rest =>
      clear hr2 hr1
      obtain ⟨hr2, rfl⟩ := hcut
      obtain ⟨ra, rc, rfl, _⟩ := hr2.shape
      go_upto_block 2 with fail
      have kk := H_kk.out
      have hr0 := H_hr0.out
      have o := H_o.out
      have e := H_e.out
      subst hr0
      have b1 : (t.kind == 1) = true := by rw [kk]; rfl
      have b9 : (t.kind == 9) = false := by rw [kk]; rfl
      have b10 : (t.kind == 10) = false := by rw [kk]; rfl
      have b12 : (t.kind == 12) = false := by rw [kk]; rfl
      have HX := Lib.hid (show (2, 0, true) = R by rw [← HR.out]; simp [refS, Nd.tok, kk, o, e])
      clear HR
      go_wp2
      go_ret3
      exact ⟨by rw [← HX.out]; rfl, hB2⟩
set_option maxRecDepth 100000 in
set_option maxHeartbeats 3200000 in
theorem anb_num {l : List Nd} {v : Value} {w : World} {P : Nat → Prop} (h : RdN w P v l) (hl : szL l ≤ 100000000) (hts : ∀ n ∈ l, n.tok.text.size ≤ 500000000) {t : Tok} {k r : List Nd} (hm : trimS l = .mk t k :: r) (hKl : anyK (trimS l) = false) (kk : t.kind = 10) (hr0 : r = []) (hw : t.whole = true) :
    Calls Tryd.prog 12 #[v] w (AnbPost w (parseS l)) := by
  have HT := Lib.hid (reftrim_any h hl)
  have hE := trim_EndOk l
  have hz := trim_szL l
  have htx : ∀ n ∈ trimS l, n.tok.text.size ≤ 500000000 := fun n hn => hts n (trim_mem hn)
  rw [parse_ref]
  clear h
  have H_kk := Lib.hid kk
  clear kk
  have H_hr0 := Lib.hid hr0
  clear hr0
  have H_hw := Lib.hid hw
  clear hw
  rw [hm] at hKl HT hE hz htx ⊢
  obtain ⟨m, hmm⟩ : ∃ m, (.mk t k :: r : List Nd) = m := ⟨_, rfl⟩
  rw [hmm] at hKl HT hE hz htx ⊢
  have hKm := hKl
  clear hKl hm
  have hm8 : szL m ≤ 100000000 := by omega
  have hml := szL_ge m
  obtain ⟨R, hR⟩ : ∃ R, (if anyK m = true then noneA else refS m) = R := ⟨_, rfl⟩
  rw [hR]
  clear hts hz hl
  go_enter Tryd.func12, Tryd.ntmps12
  go_wp2_with (go_at_call 49; (with_reducible refine HT.out.mono ?_); rintro e w1 ⟨⟨v1, rfl, hv1⟩, rfl⟩)
  obtain ⟨N, hN⟩ : ∃ N, m.length = N := ⟨_, rfl⟩
  obtain ⟨a1, c1, rfl, hc1⟩ := hv1.shape
  rw [hN] at hc1
  have hv1' := hv1
  rw [hN] at hv1' ⊢
  have hN8 : N ≤ 100000000 := by omega
  clear HT
  go_loop [5] (fun iv => ∃ i : Nat, iv = .int .i64 i ∧ i ≤ N ∧ ∀ j, (hj : j < m.length) → j < i → (m[j]).kids.length = 0) (fun iv => N - (intOf iv).toNat)
  case atStart => exact ⟨0, rfl, Nat.zero_le _, fun j hj h => absurd h (Nat.not_lt_zero _)⟩
  case round =>
    obtain ⟨i, rfl, hi, hall⟩ := hrel
    have HALL := Lib.hid hall
    clear hall
    by_cases hlt : i < N
    · have hltI : (i : Int) < (N : Int) := by omega
      obtain ⟨b, off, c, u, hv, hlc, _, hbl, hat, hk⟩ := hv1.at i (by omega)
      injection hv with e1 e2 e3
      subst e1
      obtain ⟨ka, kc, rfl, _⟩ := hk.shape
      have q6 := hat.c6
      have hi0 : (0 : Int) ≤ (i : Int) := by omega
      obtain ⟨K, hK⟩ : ∃ K, (m[i]'(by omega)).kids.length = K := ⟨_, rfl⟩
      rw [hK] at q6
      clear hat hk
      by_cases hk0 : 0 < K
      · exact absurd (anyK_yes (m := m) (j := i) (by omega) (by omega)) (by rw [hKm]; decide)
      · have hkI : ¬ (0 : Int) < (K : Int) := by omega
        have HX := Lib.hid (show ∀ j, (hj : j < m.length) → j < i + 1 → (m[j]).kids.length = 0 from fun j hj h => by
          by_cases e : j = i
          · subst e; omega
          · exact HALL.out j hj (by omega))
        go_wp2
        go_round
        case rel => exact ⟨i + 1, by go_num, by omega, HX.out⟩
        case measure => simp [intOf]; omega
    · have hltI : ¬ (i : Int) < (N : Int) := by omega
      have HR := Lib.hid (show refS m = R by rw [← hR, if_neg (by rw [hKm]; decide)])
      clear hR HALL hKm
      subst hmm
      obtain ⟨b, off, c, u, hv, hlc, _, hbl, hat, hk⟩ := hv1.at 0 (by simp)
      injection hv with e1 e2 e3
      subst e1
      subst e3
      have q0 := hat.c0
      have q1 := hat.c1
      have q2 := hat.c2
      have q3 := hat.c3
      have q4 := hat.c4
      have q5 := hat.c5
      simp only [List.getElem_cons_zero, Nd.tok, Nat.zero_mul, Nat.add_zero] at q0 q1 q2 q3 q4 q5
      have htz5 : t.text.size ≤ 500000000 := by have := htx (.mk t k) (by simp); simpa only [Nd.tok] using this
      have htz : t.text.size ≤ 1000000000 := by omega
      have hN1 : N = r.length + 1 := by rw [← hN]; rfl
      have hN0 : ¬ (N : Int) = 0 := by omega
      have hN0' : ((N : Int) == 0) = false := by simpa using hN0
      have hNp : (0 : Int) < (N : Int) := by omega
      clear hat hk
      have hE2 := hE.tail
      have hr1 : RdN w P (.slice (some ⟨b, off + 1 * 7, none⟩) (N - 1) (c1 - 1)) ((.mk t k :: r : List Nd).drop 1) := hv1'.drop 1 (by simp)
      have hr1 : RdN w P (.slice (some ⟨b, off + 7, none⟩) r.length (c1 - 1)) r := by
        have e1 : (.mk t k :: r : List Nd).drop 1 = r := rfl
        have e2 : N - 1 = r.length := by omega
        rw [e1, e2, Nat.one_mul] at hr1
        exact hr1
      go_wp2_with fail
      refine (reflower_any t.text _ htz).mono ?_
      rintro e w2 ⟨rfl, hb2⟩
      have hB2 := below_seq (below_al w (.cells #[.int .i64 t.kind, .string t.text, .int .i64 t.int, .bool t.whole, .bool t.sign, .bool t.id] 77)) hb2
      have hblk : w2.heap[w.heap.size]? = some (.cells #[.int .i64 t.kind, .string t.text, .int .i64 t.int, .bool t.whole, .bool t.sign, .bool t.id] 77 (0, 0)) := by
        rw [hb2.block w.heap.size (by simp)]
        exact heap_alloc_self _ _
      have hr2 := hr1.under hB2 (Nat.le_refl _)
      have hv2 := hv1.under hB2 (Nat.le_refl _)
      obtain ⟨f0, f1, f2, f3, _⟩ := TokB.cells (b := w.heap.size) (t := t) (w := w2) hblk
      clear hb2 q0 q1 q2 q3 q4 q5 hblk
      go_upto_region 12 with fail
      go_cut [9] (fun rv wx => RdN w2 P rv r ∧ wx = w2)
      case first =>
        by_cases hcc : c1 = 1
        · subst hcc
          have hr0 : r = [] := List.eq_nil_of_length_eq_zero (by omega)
          subst hr0
          go_wp2
          go_meet
          case rel => exact ⟨.nil _ _, rfl⟩
        · have hcc' : ¬ 1 = c1 := fun e => hcc e.symm
          go_wp2
          go_meet
          case rel => exact ⟨hr2, rfl⟩
      case rest =>
      clear hr2 hr1
      obtain ⟨hr2, rfl⟩ := hcut
      obtain ⟨ra, rc, rfl, _⟩ := hr2.shape
      go_upto_block 2 with fail
      have kk := H_kk.out
      have hr0 := H_hr0.out
      have hw := H_hw.out
      subst hr0
      have b1 : (t.kind == 1) = false := by rw [kk]; rfl
      have b9 : (t.kind == 9) = false := by rw [kk]; rfl
      have b10 : (t.kind == 10) = true := by rw [kk]; rfl
      have b12 : (t.kind == 12) = false := by rw [kk]; rfl
      have HX := Lib.hid (show (0, t.int, true) = R by rw [← HR.out]; simp [refS, Nd.tok, kk, hw])
      clear HR
      rw [hw] at f3
      go_wp2_with fail
      go_quiet (fail)
      go_wp2
      go_ret3
      exact ⟨by rw [← HX.out]; rfl, hB2.trans (below_drewNj2 _ _)⟩
set_option maxRecDepth 100000 in
set_option maxHeartbeats 3200000 in
theorem anb_n12 {l : List Nd} {v : Value} {w : World} {P : Nat → Prop} (h : RdN w P v l) (hl : szL l ≤ 100000000) (hts : ∀ n ∈ l, n.tok.text.size ≤ 500000000) {t : Tok} {k r : List Nd} (hm : trimS l = .mk t k :: r) (hKl : anyK (trimS l) = false) (kk : t.kind = 12) (hw : t.whole = false) :
    Calls Tryd.prog 12 #[v] w (AnbPost w (parseS l)) := by
  have HT := Lib.hid (reftrim_any h hl)
  have hE := trim_EndOk l
  have hz := trim_szL l
  have htx : ∀ n ∈ trimS l, n.tok.text.size ≤ 500000000 := fun n hn => hts n (trim_mem hn)
  rw [parse_ref]
  clear h
  have H_kk := Lib.hid kk
  clear kk
  have H_hw := Lib.hid hw
  clear hw
  rw [hm] at hKl HT hE hz htx ⊢
  obtain ⟨m, hmm⟩ : ∃ m, (.mk t k :: r : List Nd) = m := ⟨_, rfl⟩
  rw [hmm] at hKl HT hE hz htx ⊢
  have hKm := hKl
  clear hKl hm
  have hm8 : szL m ≤ 100000000 := by omega
  have hml := szL_ge m
  obtain ⟨R, hR⟩ : ∃ R, (if anyK m = true then noneA else refS m) = R := ⟨_, rfl⟩
  rw [hR]
  clear hts hz hl
  go_enter Tryd.func12, Tryd.ntmps12
  go_wp2_with (go_at_call 49; (with_reducible refine HT.out.mono ?_); rintro e w1 ⟨⟨v1, rfl, hv1⟩, rfl⟩)
  obtain ⟨N, hN⟩ : ∃ N, m.length = N := ⟨_, rfl⟩
  obtain ⟨a1, c1, rfl, hc1⟩ := hv1.shape
  rw [hN] at hc1
  have hv1' := hv1
  rw [hN] at hv1' ⊢
  have hN8 : N ≤ 100000000 := by omega
  clear HT
  go_loop [5] (fun iv => ∃ i : Nat, iv = .int .i64 i ∧ i ≤ N ∧ ∀ j, (hj : j < m.length) → j < i → (m[j]).kids.length = 0) (fun iv => N - (intOf iv).toNat)
  case atStart => exact ⟨0, rfl, Nat.zero_le _, fun j hj h => absurd h (Nat.not_lt_zero _)⟩
  case round =>
    obtain ⟨i, rfl, hi, hall⟩ := hrel
    have HALL := Lib.hid hall
    clear hall
    by_cases hlt : i < N
    · have hltI : (i : Int) < (N : Int) := by omega
      obtain ⟨b, off, c, u, hv, hlc, _, hbl, hat, hk⟩ := hv1.at i (by omega)
      injection hv with e1 e2 e3
      subst e1
      obtain ⟨ka, kc, rfl, _⟩ := hk.shape
      have q6 := hat.c6
      have hi0 : (0 : Int) ≤ (i : Int) := by omega
      obtain ⟨K, hK⟩ : ∃ K, (m[i]'(by omega)).kids.length = K := ⟨_, rfl⟩
      rw [hK] at q6
      clear hat hk
      by_cases hk0 : 0 < K
      · exact absurd (anyK_yes (m := m) (j := i) (by omega) (by omega)) (by rw [hKm]; decide)
      · have hkI : ¬ (0 : Int) < (K : Int) := by omega
        have HX := Lib.hid (show ∀ j, (hj : j < m.length) → j < i + 1 → (m[j]).kids.length = 0 from fun j hj h => by
          by_cases e : j = i
          · subst e; omega
          · exact HALL.out j hj (by omega))
        go_wp2
        go_round
        case rel => exact ⟨i + 1, by go_num, by omega, HX.out⟩
        case measure => simp [intOf]; omega
    · have hltI : ¬ (i : Int) < (N : Int) := by omega
      have HR := Lib.hid (show refS m = R by rw [← hR, if_neg (by rw [hKm]; decide)])
      clear hR HALL hKm
      subst hmm
      obtain ⟨b, off, c, u, hv, hlc, _, hbl, hat, hk⟩ := hv1.at 0 (by simp)
      injection hv with e1 e2 e3
      subst e1
      subst e3
      have q0 := hat.c0
      have q1 := hat.c1
      have q2 := hat.c2
      have q3 := hat.c3
      have q4 := hat.c4
      have q5 := hat.c5
      simp only [List.getElem_cons_zero, Nd.tok, Nat.zero_mul, Nat.add_zero] at q0 q1 q2 q3 q4 q5
      have htz5 : t.text.size ≤ 500000000 := by have := htx (.mk t k) (by simp); simpa only [Nd.tok] using this
      have htz : t.text.size ≤ 1000000000 := by omega
      have hN1 : N = r.length + 1 := by rw [← hN]; rfl
      have hN0 : ¬ (N : Int) = 0 := by omega
      have hN0' : ((N : Int) == 0) = false := by simpa using hN0
      have hNp : (0 : Int) < (N : Int) := by omega
      clear hat hk
      have hE2 := hE.tail
      have hr1 : RdN w P (.slice (some ⟨b, off + 1 * 7, none⟩) (N - 1) (c1 - 1)) ((.mk t k :: r : List Nd).drop 1) := hv1'.drop 1 (by simp)
      have hr1 : RdN w P (.slice (some ⟨b, off + 7, none⟩) r.length (c1 - 1)) r := by
        have e1 : (.mk t k :: r : List Nd).drop 1 = r := rfl
        have e2 : N - 1 = r.length := by omega
        rw [e1, e2, Nat.one_mul] at hr1
        exact hr1
      go_wp2_with fail
      refine (reflower_any t.text _ htz).mono ?_
      rintro e w2 ⟨rfl, hb2⟩
      have hB2 := below_seq (below_al w (.cells #[.int .i64 t.kind, .string t.text, .int .i64 t.int, .bool t.whole, .bool t.sign, .bool t.id] 77)) hb2
      have hblk : w2.heap[w.heap.size]? = some (.cells #[.int .i64 t.kind, .string t.text, .int .i64 t.int, .bool t.whole, .bool t.sign, .bool t.id] 77 (0, 0)) := by
        rw [hb2.block w.heap.size (by simp)]
        exact heap_alloc_self _ _
      have hr2 := hr1.under hB2 (Nat.le_refl _)
      have hv2 := hv1.under hB2 (Nat.le_refl _)
      obtain ⟨f0, f1, f2, f3, _⟩ := TokB.cells (b := w.heap.size) (t := t) (w := w2) hblk
      clear hb2 q0 q1 q2 q3 q4 q5 hblk
      go_upto_region 12 with fail
      go_cut [9] (fun rv wx => RdN w2 P rv r ∧ wx = w2)
      case first =>
        by_cases hcc : c1 = 1
        · subst hcc
          have hr0 : r = [] := List.eq_nil_of_length_eq_zero (by omega)
          subst hr0
          go_wp2
          go_meet
          case rel => exact ⟨.nil _ _, rfl⟩
        · have hcc' : ¬ 1 = c1 := fun e => hcc e.symm
          go_wp2
          go_meet
          case rel => exact ⟨hr2, rfl⟩
      case rest =>
      clear hr2 hr1
      obtain ⟨hr2, rfl⟩ := hcut
      obtain ⟨ra, rc, rfl, _⟩ := hr2.shape
      go_upto_block 2 with fail
      have kk := H_kk.out
      have hw := H_hw.out
      rw [hw] at f3
      have b1 : (t.kind == 1) = false := by rw [kk]; rfl
      have b9 : (t.kind == 9) = false := by rw [kk]; rfl
      have b10 : (t.kind == 10) = false := by rw [kk]; rfl
      have b12 : (t.kind == 12) = true := by rw [kk]; rfl
      have bd : isD (.mk t k) ⟨#[43]⟩ = false := by unfold isD; simp only [Nd.tok]; rw [b9, Bool.false_and]
      cases r with
      | nil =>
        have HX := Lib.hid (show noneA = R by rw [← HR.out]; simp [refS, Nd.tok, b1, b10, b12, bd, hw])
        clear HR
        go_wp2
        go_ret3
        exact ⟨by rw [← HX.out]; rfl, hB2⟩
      | cons m1 r2 =>
        have hne : ¬ ((m1 :: r2).length : Int) + 1 = 1 := by rw [List.length_cons]; omega
        have hne' : ((((m1 :: r2).length : Nat) : Int) + 1 == 1) = false := by simpa using hne
        have hgt : (1 : Int) < (((m1 :: r2).length : Nat) : Int) + 1 := by rw [List.length_cons]; omega
        have HX := Lib.hid (show noneA = R by rw [← HR.out]; simp [refS, Nd.tok, b1, b10, b12, bd, hw])
        clear HR
        go_wp2
        go_ret3
        exact ⟨by rw [← HX.out]; rfl, hB2⟩
set_option maxRecDepth 100000 in
set_option maxHeartbeats 3200000 in
theorem anb_n10 {l : List Nd} {v : Value} {w : World} {P : Nat → Prop} (h : RdN w P v l) (hl : szL l ≤ 100000000) (hts : ∀ n ∈ l, n.tok.text.size ≤ 500000000) {t : Tok} {k r : List Nd} (hm : trimS l = .mk t k :: r) (hKl : anyK (trimS l) = false) (kk : t.kind = 10) (hw : t.whole = false) :
    Calls Tryd.prog 12 #[v] w (AnbPost w (parseS l)) := by
  have HT := Lib.hid (reftrim_any h hl)
  have hE := trim_EndOk l
  have hz := trim_szL l
  have htx : ∀ n ∈ trimS l, n.tok.text.size ≤ 500000000 := fun n hn => hts n (trim_mem hn)
  rw [parse_ref]
  clear h
  have H_kk := Lib.hid kk
  clear kk
  have H_hw := Lib.hid hw
  clear hw
  rw [hm] at hKl HT hE hz htx ⊢
  obtain ⟨m, hmm⟩ : ∃ m, (.mk t k :: r : List Nd) = m := ⟨_, rfl⟩
  rw [hmm] at hKl HT hE hz htx ⊢
  have hKm := hKl
  clear hKl hm
  have hm8 : szL m ≤ 100000000 := by omega
  have hml := szL_ge m
  obtain ⟨R, hR⟩ : ∃ R, (if anyK m = true then noneA else refS m) = R := ⟨_, rfl⟩
  rw [hR]
  clear hts hz hl
  go_enter Tryd.func12, Tryd.ntmps12
  go_wp2_with (go_at_call 49; (with_reducible refine HT.out.mono ?_); rintro e w1 ⟨⟨v1, rfl, hv1⟩, rfl⟩)
  obtain ⟨N, hN⟩ : ∃ N, m.length = N := ⟨_, rfl⟩
  obtain ⟨a1, c1, rfl, hc1⟩ := hv1.shape
  rw [hN] at hc1
  have hv1' := hv1
  rw [hN] at hv1' ⊢
  have hN8 : N ≤ 100000000 := by omega
  clear HT
  go_loop [5] (fun iv => ∃ i : Nat, iv = .int .i64 i ∧ i ≤ N ∧ ∀ j, (hj : j < m.length) → j < i → (m[j]).kids.length = 0) (fun iv => N - (intOf iv).toNat)
  case atStart => exact ⟨0, rfl, Nat.zero_le _, fun j hj h => absurd h (Nat.not_lt_zero _)⟩
  case round =>
    obtain ⟨i, rfl, hi, hall⟩ := hrel
    have HALL := Lib.hid hall
    clear hall
    by_cases hlt : i < N
    · have hltI : (i : Int) < (N : Int) := by omega
      obtain ⟨b, off, c, u, hv, hlc, _, hbl, hat, hk⟩ := hv1.at i (by omega)
      injection hv with e1 e2 e3
      subst e1
      obtain ⟨ka, kc, rfl, _⟩ := hk.shape
      have q6 := hat.c6
      have hi0 : (0 : Int) ≤ (i : Int) := by omega
      obtain ⟨K, hK⟩ : ∃ K, (m[i]'(by omega)).kids.length = K := ⟨_, rfl⟩
      rw [hK] at q6
      clear hat hk
      by_cases hk0 : 0 < K
      · exact absurd (anyK_yes (m := m) (j := i) (by omega) (by omega)) (by rw [hKm]; decide)
      · have hkI : ¬ (0 : Int) < (K : Int) := by omega
        have HX := Lib.hid (show ∀ j, (hj : j < m.length) → j < i + 1 → (m[j]).kids.length = 0 from fun j hj h => by
          by_cases e : j = i
          · subst e; omega
          · exact HALL.out j hj (by omega))
        go_wp2
        go_round
        case rel => exact ⟨i + 1, by go_num, by omega, HX.out⟩
        case measure => simp [intOf]; omega
    · have hltI : ¬ (i : Int) < (N : Int) := by omega
      have HR := Lib.hid (show refS m = R by rw [← hR, if_neg (by rw [hKm]; decide)])
      clear hR HALL hKm
      subst hmm
      obtain ⟨b, off, c, u, hv, hlc, _, hbl, hat, hk⟩ := hv1.at 0 (by simp)
      injection hv with e1 e2 e3
      subst e1
      subst e3
      have q0 := hat.c0
      have q1 := hat.c1
      have q2 := hat.c2
      have q3 := hat.c3
      have q4 := hat.c4
      have q5 := hat.c5
      simp only [List.getElem_cons_zero, Nd.tok, Nat.zero_mul, Nat.add_zero] at q0 q1 q2 q3 q4 q5
      have htz5 : t.text.size ≤ 500000000 := by have := htx (.mk t k) (by simp); simpa only [Nd.tok] using this
      have htz : t.text.size ≤ 1000000000 := by omega
      have hN1 : N = r.length + 1 := by rw [← hN]; rfl
      have hN0 : ¬ (N : Int) = 0 := by omega
      have hN0' : ((N : Int) == 0) = false := by simpa using hN0
      have hNp : (0 : Int) < (N : Int) := by omega
      clear hat hk
      have hE2 := hE.tail
      have hr1 : RdN w P (.slice (some ⟨b, off + 1 * 7, none⟩) (N - 1) (c1 - 1)) ((.mk t k :: r : List Nd).drop 1) := hv1'.drop 1 (by simp)
      have hr1 : RdN w P (.slice (some ⟨b, off + 7, none⟩) r.length (c1 - 1)) r := by
        have e1 : (.mk t k :: r : List Nd).drop 1 = r := rfl
        have e2 : N - 1 = r.length := by omega
        rw [e1, e2, Nat.one_mul] at hr1
        exact hr1
      go_wp2_with fail
      refine (reflower_any t.text _ htz).mono ?_
      rintro e w2 ⟨rfl, hb2⟩
      have hB2 := below_seq (below_al w (.cells #[.int .i64 t.kind, .string t.text, .int .i64 t.int, .bool t.whole, .bool t.sign, .bool t.id] 77)) hb2
      have hblk : w2.heap[w.heap.size]? = some (.cells #[.int .i64 t.kind, .string t.text, .int .i64 t.int, .bool t.whole, .bool t.sign, .bool t.id] 77 (0, 0)) := by
        rw [hb2.block w.heap.size (by simp)]
        exact heap_alloc_self _ _
      have hr2 := hr1.under hB2 (Nat.le_refl _)
      have hv2 := hv1.under hB2 (Nat.le_refl _)
      obtain ⟨f0, f1, f2, f3, _⟩ := TokB.cells (b := w.heap.size) (t := t) (w := w2) hblk
      clear hb2 q0 q1 q2 q3 q4 q5 hblk
      go_upto_region 12 with fail
      go_cut [9] (fun rv wx => RdN w2 P rv r ∧ wx = w2)
      case first =>
        by_cases hcc : c1 = 1
        · subst hcc
          have hr0 : r = [] := List.eq_nil_of_length_eq_zero (by omega)
          subst hr0
          go_wp2
          go_meet
          case rel => exact ⟨.nil _ _, rfl⟩
        · have hcc' : ¬ 1 = c1 := fun e => hcc e.symm
          go_wp2
          go_meet
          case rel => exact ⟨hr2, rfl⟩
      case rest =>
      clear hr2 hr1
      obtain ⟨hr2, rfl⟩ := hcut
      obtain ⟨ra, rc, rfl, _⟩ := hr2.shape
      go_upto_block 2 with fail
      have kk := H_kk.out
      have hw := H_hw.out
      rw [hw] at f3
      have b1 : (t.kind == 1) = false := by rw [kk]; rfl
      have b9 : (t.kind == 9) = false := by rw [kk]; rfl
      have b10 : (t.kind == 10) = true := by rw [kk]; rfl
      have b12 : (t.kind == 12) = false := by rw [kk]; rfl
      have bd : isD (.mk t k) ⟨#[43]⟩ = false := by unfold isD; simp only [Nd.tok]; rw [b9, Bool.false_and]
      cases r with
      | nil =>
        have HX := Lib.hid (show noneA = R by rw [← HR.out]; simp [refS, Nd.tok, b1, b10, b12, bd, hw])
        clear HR
        go_wp2
        go_ret3
        exact ⟨by rw [← HX.out]; rfl, hB2⟩
      | cons m1 r2 =>
        have hne : ¬ ((m1 :: r2).length : Int) + 1 = 1 := by rw [List.length_cons]; omega
        have hne' : ((((m1 :: r2).length : Nat) : Int) + 1 == 1) = false := by simpa using hne
        have hgt : (1 : Int) < (((m1 :: r2).length : Nat) : Int) + 1 := by rw [List.length_cons]; omega
        have HX := Lib.hid (show noneA = R by rw [← HR.out]; simp [refS, Nd.tok, b1, b10, b12, bd, hw])
        clear HR
        go_wp2
        go_ret3
        exact ⟨by rw [← HX.out]; rfl, hB2⟩
set_option maxRecDepth 100000 in
set_option maxHeartbeats 3200000 in
theorem anb_n10b {l : List Nd} {v : Value} {w : World} {P : Nat → Prop} (h : RdN w P v l) (hl : szL l ≤ 100000000) (hts : ∀ n ∈ l, n.tok.text.size ≤ 500000000) {t : Tok} {k r : List Nd} (hm : trimS l = .mk t k :: r) (hKl : anyK (trimS l) = false) (kk : t.kind = 10) (hr0 : r ≠ []) :
    Calls Tryd.prog 12 #[v] w (AnbPost w (parseS l)) := by
  have HT := Lib.hid (reftrim_any h hl)
  have hE := trim_EndOk l
  have hz := trim_szL l
  have htx : ∀ n ∈ trimS l, n.tok.text.size ≤ 500000000 := fun n hn => hts n (trim_mem hn)
  rw [parse_ref]
  clear h
  have H_kk := Lib.hid kk
  clear kk
  have H_hr0 := Lib.hid hr0
  clear hr0
  rw [hm] at hKl HT hE hz htx ⊢
  obtain ⟨m, hmm⟩ : ∃ m, (.mk t k :: r : List Nd) = m := ⟨_, rfl⟩
  rw [hmm] at hKl HT hE hz htx ⊢
  have hKm := hKl
  clear hKl hm
  have hm8 : szL m ≤ 100000000 := by omega
  have hml := szL_ge m
  obtain ⟨R, hR⟩ : ∃ R, (if anyK m = true then noneA else refS m) = R := ⟨_, rfl⟩
  rw [hR]
  clear hts hz hl
  go_enter Tryd.func12, Tryd.ntmps12
  go_wp2_with (go_at_call 49; (with_reducible refine HT.out.mono ?_); rintro e w1 ⟨⟨v1, rfl, hv1⟩, rfl⟩)
  obtain ⟨N, hN⟩ : ∃ N, m.length = N := ⟨_, rfl⟩
  obtain ⟨a1, c1, rfl, hc1⟩ := hv1.shape
  rw [hN] at hc1
  have hv1' := hv1
  rw [hN] at hv1' ⊢
  have hN8 : N ≤ 100000000 := by omega
  clear HT
  go_loop [5] (fun iv => ∃ i : Nat, iv = .int .i64 i ∧ i ≤ N ∧ ∀ j, (hj : j < m.length) → j < i → (m[j]).kids.length = 0) (fun iv => N - (intOf iv).toNat)
  case atStart => exact ⟨0, rfl, Nat.zero_le _, fun j hj h => absurd h (Nat.not_lt_zero _)⟩
  case round =>
    obtain ⟨i, rfl, hi, hall⟩ := hrel
    have HALL := Lib.hid hall
    clear hall
    by_cases hlt : i < N
    · have hltI : (i : Int) < (N : Int) := by omega
      obtain ⟨b, off, c, u, hv, hlc, _, hbl, hat, hk⟩ := hv1.at i (by omega)
      injection hv with e1 e2 e3
      subst e1
      obtain ⟨ka, kc, rfl, _⟩ := hk.shape
      have q6 := hat.c6
      have hi0 : (0 : Int) ≤ (i : Int) := by omega
      obtain ⟨K, hK⟩ : ∃ K, (m[i]'(by omega)).kids.length = K := ⟨_, rfl⟩
      rw [hK] at q6
      clear hat hk
      by_cases hk0 : 0 < K
      · exact absurd (anyK_yes (m := m) (j := i) (by omega) (by omega)) (by rw [hKm]; decide)
      · have hkI : ¬ (0 : Int) < (K : Int) := by omega
        have HX := Lib.hid (show ∀ j, (hj : j < m.length) → j < i + 1 → (m[j]).kids.length = 0 from fun j hj h => by
          by_cases e : j = i
          · subst e; omega
          · exact HALL.out j hj (by omega))
        go_wp2
        go_round
        case rel => exact ⟨i + 1, by go_num, by omega, HX.out⟩
        case measure => simp [intOf]; omega
    · have hltI : ¬ (i : Int) < (N : Int) := by omega
      have HR := Lib.hid (show refS m = R by rw [← hR, if_neg (by rw [hKm]; decide)])
      clear hR HALL hKm
      subst hmm
      obtain ⟨b, off, c, u, hv, hlc, _, hbl, hat, hk⟩ := hv1.at 0 (by simp)
      injection hv with e1 e2 e3
      subst e1
      subst e3
      have q0 := hat.c0
      have q1 := hat.c1
      have q2 := hat.c2
      have q3 := hat.c3
      have q4 := hat.c4
      have q5 := hat.c5
      simp only [List.getElem_cons_zero, Nd.tok, Nat.zero_mul, Nat.add_zero] at q0 q1 q2 q3 q4 q5
      have htz5 : t.text.size ≤ 500000000 := by have := htx (.mk t k) (by simp); simpa only [Nd.tok] using this
      have htz : t.text.size ≤ 1000000000 := by omega
      have hN1 : N = r.length + 1 := by rw [← hN]; rfl
      have hN0 : ¬ (N : Int) = 0 := by omega
      have hN0' : ((N : Int) == 0) = false := by simpa using hN0
      have hNp : (0 : Int) < (N : Int) := by omega
      clear hat hk
      have hE2 := hE.tail
      have hr1 : RdN w P (.slice (some ⟨b, off + 1 * 7, none⟩) (N - 1) (c1 - 1)) ((.mk t k :: r : List Nd).drop 1) := hv1'.drop 1 (by simp)
      have hr1 : RdN w P (.slice (some ⟨b, off + 7, none⟩) r.length (c1 - 1)) r := by
        have e1 : (.mk t k :: r : List Nd).drop 1 = r := rfl
        have e2 : N - 1 = r.length := by omega
        rw [e1, e2, Nat.one_mul] at hr1
        exact hr1
      go_wp2_with fail
      refine (reflower_any t.text _ htz).mono ?_
      rintro e w2 ⟨rfl, hb2⟩
      have hB2 := below_seq (below_al w (.cells #[.int .i64 t.kind, .string t.text, .int .i64 t.int, .bool t.whole, .bool t.sign, .bool t.id] 77)) hb2
      have hblk : w2.heap[w.heap.size]? = some (.cells #[.int .i64 t.kind, .string t.text, .int .i64 t.int, .bool t.whole, .bool t.sign, .bool t.id] 77 (0, 0)) := by
        rw [hb2.block w.heap.size (by simp)]
        exact heap_alloc_self _ _
      have hr2 := hr1.under hB2 (Nat.le_refl _)
      have hv2 := hv1.under hB2 (Nat.le_refl _)
      obtain ⟨f0, f1, f2, f3, _⟩ := TokB.cells (b := w.heap.size) (t := t) (w := w2) hblk
      clear hb2 q0 q1 q2 q3 q4 q5 hblk
      go_upto_region 12 with fail
      go_cut [9] (fun rv wx => RdN w2 P rv r ∧ wx = w2)
      case first =>
        by_cases hcc : c1 = 1
        · subst hcc
          have hr0 : r = [] := List.eq_nil_of_length_eq_zero (by omega)
          subst hr0
          go_wp2
          go_meet
          case rel => exact ⟨.nil _ _, rfl⟩
        · have hcc' : ¬ 1 = c1 := fun e => hcc e.symm
          go_wp2
          go_meet
          case rel => exact ⟨hr2, rfl⟩
      case rest =>
      clear hr2 hr1
      obtain ⟨hr2, rfl⟩ := hcut
      obtain ⟨ra, rc, rfl, _⟩ := hr2.shape
      go_upto_block 2 with fail
      have kk := H_kk.out
      have hr0 := H_hr0.out
      have b1 : (t.kind == 1) = false := by rw [kk]; rfl
      have b9 : (t.kind == 9) = false := by rw [kk]; rfl
      have b10 : (t.kind == 10) = true := by rw [kk]; rfl
      have b12 : (t.kind == 12) = false := by rw [kk]; rfl
      have bd : isD (.mk t k) ⟨#[43]⟩ = false := by unfold isD; simp only [Nd.tok]; rw [b9, Bool.false_and]
      cases r with
      | nil =>
        exact absurd rfl hr0
      | cons m1 r2 =>
        have hne : ¬ ((m1 :: r2).length : Int) + 1 = 1 := by rw [List.length_cons]; omega
        have hne' : ((((m1 :: r2).length : Nat) : Int) + 1 == 1) = false := by simpa using hne
        have hgt : (1 : Int) < (((m1 :: r2).length : Nat) : Int) + 1 := by rw [List.length_cons]; omega
        have HX := Lib.hid (show noneA = R by rw [← HR.out]; simp [refS, Nd.tok, b1, b10, b12, bd])
        clear HR
        go_wp2
        go_ret3
        exact ⟨by rw [← HX.out]; rfl, hB2⟩
set_option maxRecDepth 100000 in
set_option maxHeartbeats 3200000 in
theorem anb_n9 {l : List Nd} {v : Value} {w : World} {P : Nat → Prop} (h : RdN w P v l) (hl : szL l ≤ 100000000) (hts : ∀ n ∈ l, n.tok.text.size ≤ 500000000) {t : Tok} {k r : List Nd} (hm : trimS l = .mk t k :: r) (hKl : anyK (trimS l) = false) (kk : t.kind = 9) (p : (t.text.toList == [43]) = false) :
    Calls Tryd.prog 12 #[v] w (AnbPost w (parseS l)) := by
  have HT := Lib.hid (reftrim_any h hl)
  have hE := trim_EndOk l
  have hz := trim_szL l
  have htx : ∀ n ∈ trimS l, n.tok.text.size ≤ 500000000 := fun n hn => hts n (trim_mem hn)
  rw [parse_ref]
  clear h
  have H_kk := Lib.hid kk
  clear kk
  have H_p := Lib.hid p
  clear p
  rw [hm] at hKl HT hE hz htx ⊢
  obtain ⟨m, hmm⟩ : ∃ m, (.mk t k :: r : List Nd) = m := ⟨_, rfl⟩
  rw [hmm] at hKl HT hE hz htx ⊢
  have hKm := hKl
  clear hKl hm
  have hm8 : szL m ≤ 100000000 := by omega
  have hml := szL_ge m
  obtain ⟨R, hR⟩ : ∃ R, (if anyK m = true then noneA else refS m) = R := ⟨_, rfl⟩
  rw [hR]
  clear hts hz hl
  go_enter Tryd.func12, Tryd.ntmps12
  go_wp2_with (go_at_call 49; (with_reducible refine HT.out.mono ?_); rintro e w1 ⟨⟨v1, rfl, hv1⟩, rfl⟩)
  obtain ⟨N, hN⟩ : ∃ N, m.length = N := ⟨_, rfl⟩
  obtain ⟨a1, c1, rfl, hc1⟩ := hv1.shape
  rw [hN] at hc1
  have hv1' := hv1
  rw [hN] at hv1' ⊢
  have hN8 : N ≤ 100000000 := by omega
  clear HT
  go_loop [5] (fun iv => ∃ i : Nat, iv = .int .i64 i ∧ i ≤ N ∧ ∀ j, (hj : j < m.length) → j < i → (m[j]).kids.length = 0) (fun iv => N - (intOf iv).toNat)
  case atStart => exact ⟨0, rfl, Nat.zero_le _, fun j hj h => absurd h (Nat.not_lt_zero _)⟩
  case round =>
    obtain ⟨i, rfl, hi, hall⟩ := hrel
    have HALL := Lib.hid hall
    clear hall
    by_cases hlt : i < N
    · have hltI : (i : Int) < (N : Int) := by omega
      obtain ⟨b, off, c, u, hv, hlc, _, hbl, hat, hk⟩ := hv1.at i (by omega)
      injection hv with e1 e2 e3
      subst e1
      obtain ⟨ka, kc, rfl, _⟩ := hk.shape
      have q6 := hat.c6
      have hi0 : (0 : Int) ≤ (i : Int) := by omega
      obtain ⟨K, hK⟩ : ∃ K, (m[i]'(by omega)).kids.length = K := ⟨_, rfl⟩
      rw [hK] at q6
      clear hat hk
      by_cases hk0 : 0 < K
      · exact absurd (anyK_yes (m := m) (j := i) (by omega) (by omega)) (by rw [hKm]; decide)
      · have hkI : ¬ (0 : Int) < (K : Int) := by omega
        have HX := Lib.hid (show ∀ j, (hj : j < m.length) → j < i + 1 → (m[j]).kids.length = 0 from fun j hj h => by
          by_cases e : j = i
          · subst e; omega
          · exact HALL.out j hj (by omega))
        go_wp2
        go_round
        case rel => exact ⟨i + 1, by go_num, by omega, HX.out⟩
        case measure => simp [intOf]; omega
    · have hltI : ¬ (i : Int) < (N : Int) := by omega
      have HR := Lib.hid (show refS m = R by rw [← hR, if_neg (by rw [hKm]; decide)])
      clear hR HALL hKm
      subst hmm
      obtain ⟨b, off, c, u, hv, hlc, _, hbl, hat, hk⟩ := hv1.at 0 (by simp)
      injection hv with e1 e2 e3
      subst e1
      subst e3
      have q0 := hat.c0
      have q1 := hat.c1
      have q2 := hat.c2
      have q3 := hat.c3
      have q4 := hat.c4
      have q5 := hat.c5
      simp only [List.getElem_cons_zero, Nd.tok, Nat.zero_mul, Nat.add_zero] at q0 q1 q2 q3 q4 q5
      have htz5 : t.text.size ≤ 500000000 := by have := htx (.mk t k) (by simp); simpa only [Nd.tok] using this
      have htz : t.text.size ≤ 1000000000 := by omega
      have hN1 : N = r.length + 1 := by rw [← hN]; rfl
      have hN0 : ¬ (N : Int) = 0 := by omega
      have hN0' : ((N : Int) == 0) = false := by simpa using hN0
      have hNp : (0 : Int) < (N : Int) := by omega
      clear hat hk
      have hE2 := hE.tail
      have hr1 : RdN w P (.slice (some ⟨b, off + 1 * 7, none⟩) (N - 1) (c1 - 1)) ((.mk t k :: r : List Nd).drop 1) := hv1'.drop 1 (by simp)
      have hr1 : RdN w P (.slice (some ⟨b, off + 7, none⟩) r.length (c1 - 1)) r := by
        have e1 : (.mk t k :: r : List Nd).drop 1 = r := rfl
        have e2 : N - 1 = r.length := by omega
        rw [e1, e2, Nat.one_mul] at hr1
        exact hr1
      go_wp2_with fail
      refine (reflower_any t.text _ htz).mono ?_
      rintro e w2 ⟨rfl, hb2⟩
      have hB2 := below_seq (below_al w (.cells #[.int .i64 t.kind, .string t.text, .int .i64 t.int, .bool t.whole, .bool t.sign, .bool t.id] 77)) hb2
      have hblk : w2.heap[w.heap.size]? = some (.cells #[.int .i64 t.kind, .string t.text, .int .i64 t.int, .bool t.whole, .bool t.sign, .bool t.id] 77 (0, 0)) := by
        rw [hb2.block w.heap.size (by simp)]
        exact heap_alloc_self _ _
      have hr2 := hr1.under hB2 (Nat.le_refl _)
      have hv2 := hv1.under hB2 (Nat.le_refl _)
      obtain ⟨f0, f1, f2, f3, _⟩ := TokB.cells (b := w.heap.size) (t := t) (w := w2) hblk
      clear hb2 q0 q1 q2 q3 q4 q5 hblk
      go_upto_region 12 with fail
      go_cut [9] (fun rv wx => RdN w2 P rv r ∧ wx = w2)
      case first =>
        by_cases hcc : c1 = 1
        · subst hcc
          have hr0 : r = [] := List.eq_nil_of_length_eq_zero (by omega)
          subst hr0
          go_wp2
          go_meet
          case rel => exact ⟨.nil _ _, rfl⟩
        · have hcc' : ¬ 1 = c1 := fun e => hcc e.symm
          go_wp2
          go_meet
          case rel => exact ⟨hr2, rfl⟩
      case rest =>
      clear hr2 hr1
      obtain ⟨hr2, rfl⟩ := hcut
      obtain ⟨ra, rc, rfl, _⟩ := hr2.shape
      go_upto_block 2 with fail
      have kk := H_kk.out
      have p := H_p.out
      have b1 : (t.kind == 1) = false := by rw [kk]; rfl
      have b9 : (t.kind == 9) = true := by rw [kk]; rfl
      have b10 : (t.kind == 10) = false := by rw [kk]; rfl
      have b12 : (t.kind == 12) = false := by rw [kk]; rfl
      have e43 : (⟨#[43]⟩ : ByteArray).toList = [43] := by kernel_rfl
      have bd : isD (.mk t k) ⟨#[43]⟩ = false := by unfold isD; simp only [Nd.tok]; rw [b9, Bool.true_and, e43]; exact p
      clear e43
      cases r with
      | nil =>
        have HX := Lib.hid (show noneA = R by rw [← HR.out]; simp [refS, Nd.tok, b1, b10, b12, bd])
        clear HR
        go_wp2
        go_ret3
        exact ⟨by rw [← HX.out]; rfl, hB2⟩
      | cons m1 r2 =>
        have hne : ¬ ((m1 :: r2).length : Int) + 1 = 1 := by rw [List.length_cons]; omega
        have hne' : ((((m1 :: r2).length : Nat) : Int) + 1 == 1) = false := by simpa using hne
        have hgt : (1 : Int) < (((m1 :: r2).length : Nat) : Int) + 1 := by rw [List.length_cons]; omega
        have HX := Lib.hid (show noneA = R by rw [← HR.out]; simp [refS, Nd.tok, b1, b10, b12, bd])
        clear HR
        go_wp2
        go_ret3
        exact ⟨by rw [← HX.out]; rfl, hB2⟩
set_option maxRecDepth 100000 in
set_option maxHeartbeats 3200000 in
theorem anb_n9e {l : List Nd} {v : Value} {w : World} {P : Nat → Prop} (h : RdN w P v l) (hl : szL l ≤ 100000000) (hts : ∀ n ∈ l, n.tok.text.size ≤ 500000000) {t : Tok} {k r : List Nd} (hm : trimS l = .mk t k :: r) (hKl : anyK (trimS l) = false) (kk : t.kind = 9) (hr0 : r = []) (p : (t.text.toList == [43]) = true) :
    Calls Tryd.prog 12 #[v] w (AnbPost w (parseS l)) := by
  have HT := Lib.hid (reftrim_any h hl)
  have hE := trim_EndOk l
  have hz := trim_szL l
  have htx : ∀ n ∈ trimS l, n.tok.text.size ≤ 500000000 := fun n hn => hts n (trim_mem hn)
  rw [parse_ref]
  clear h
  have H_kk := Lib.hid kk
  clear kk
  have H_hr0 := Lib.hid hr0
  clear hr0
  have H_p := Lib.hid p
  clear p
  rw [hm] at hKl HT hE hz htx ⊢
  obtain ⟨m, hmm⟩ : ∃ m, (.mk t k :: r : List Nd) = m := ⟨_, rfl⟩
  rw [hmm] at hKl HT hE hz htx ⊢
  have hKm := hKl
  clear hKl hm
  have hm8 : szL m ≤ 100000000 := by omega
  have hml := szL_ge m
  obtain ⟨R, hR⟩ : ∃ R, (if anyK m = true then noneA else refS m) = R := ⟨_, rfl⟩
  rw [hR]
  clear hts hz hl
  go_enter Tryd.func12, Tryd.ntmps12
  go_wp2_with (go_at_call 49; (with_reducible refine HT.out.mono ?_); rintro e w1 ⟨⟨v1, rfl, hv1⟩, rfl⟩)
  obtain ⟨N, hN⟩ : ∃ N, m.length = N := ⟨_, rfl⟩
  obtain ⟨a1, c1, rfl, hc1⟩ := hv1.shape
  rw [hN] at hc1
  have hv1' := hv1
  rw [hN] at hv1' ⊢
  have hN8 : N ≤ 100000000 := by omega
  clear HT
  go_loop [5] (fun iv => ∃ i : Nat, iv = .int .i64 i ∧ i ≤ N ∧ ∀ j, (hj : j < m.length) → j < i → (m[j]).kids.length = 0) (fun iv => N - (intOf iv).toNat)
  case atStart => exact ⟨0, rfl, Nat.zero_le _, fun j hj h => absurd h (Nat.not_lt_zero _)⟩
  case round =>
    obtain ⟨i, rfl, hi, hall⟩ := hrel
    have HALL := Lib.hid hall
    clear hall
    by_cases hlt : i < N
    · have hltI : (i : Int) < (N : Int) := by omega
      obtain ⟨b, off, c, u, hv, hlc, _, hbl, hat, hk⟩ := hv1.at i (by omega)
      injection hv with e1 e2 e3
      subst e1
      obtain ⟨ka, kc, rfl, _⟩ := hk.shape
      have q6 := hat.c6
      have hi0 : (0 : Int) ≤ (i : Int) := by omega
      obtain ⟨K, hK⟩ : ∃ K, (m[i]'(by omega)).kids.length = K := ⟨_, rfl⟩
      rw [hK] at q6
      clear hat hk
      by_cases hk0 : 0 < K
      · exact absurd (anyK_yes (m := m) (j := i) (by omega) (by omega)) (by rw [hKm]; decide)
      · have hkI : ¬ (0 : Int) < (K : Int) := by omega
        have HX := Lib.hid (show ∀ j, (hj : j < m.length) → j < i + 1 → (m[j]).kids.length = 0 from fun j hj h => by
          by_cases e : j = i
          · subst e; omega
          · exact HALL.out j hj (by omega))
        go_wp2
        go_round
        case rel => exact ⟨i + 1, by go_num, by omega, HX.out⟩
        case measure => simp [intOf]; omega
    · have hltI : ¬ (i : Int) < (N : Int) := by omega
      have HR := Lib.hid (show refS m = R by rw [← hR, if_neg (by rw [hKm]; decide)])
      clear hR HALL hKm
      subst hmm
      obtain ⟨b, off, c, u, hv, hlc, _, hbl, hat, hk⟩ := hv1.at 0 (by simp)
      injection hv with e1 e2 e3
      subst e1
      subst e3
      have q0 := hat.c0
      have q1 := hat.c1
      have q2 := hat.c2
      have q3 := hat.c3
      have q4 := hat.c4
      have q5 := hat.c5
      simp only [List.getElem_cons_zero, Nd.tok, Nat.zero_mul, Nat.add_zero] at q0 q1 q2 q3 q4 q5
      have htz5 : t.text.size ≤ 500000000 := by have := htx (.mk t k) (by simp); simpa only [Nd.tok] using this
      have htz : t.text.size ≤ 1000000000 := by omega
      have hN1 : N = r.length + 1 := by rw [← hN]; rfl
      have hN0 : ¬ (N : Int) = 0 := by omega
      have hN0' : ((N : Int) == 0) = false := by simpa using hN0
      have hNp : (0 : Int) < (N : Int) := by omega
      clear hat hk
      have hE2 := hE.tail
      have hr1 : RdN w P (.slice (some ⟨b, off + 1 * 7, none⟩) (N - 1) (c1 - 1)) ((.mk t k :: r : List Nd).drop 1) := hv1'.drop 1 (by simp)
      have hr1 : RdN w P (.slice (some ⟨b, off + 7, none⟩) r.length (c1 - 1)) r := by
        have e1 : (.mk t k :: r : List Nd).drop 1 = r := rfl
        have e2 : N - 1 = r.length := by omega
        rw [e1, e2, Nat.one_mul] at hr1
        exact hr1
      go_wp2_with fail
      refine (reflower_any t.text _ htz).mono ?_
      rintro e w2 ⟨rfl, hb2⟩
      have hB2 := below_seq (below_al w (.cells #[.int .i64 t.kind, .string t.text, .int .i64 t.int, .bool t.whole, .bool t.sign, .bool t.id] 77)) hb2
      have hblk : w2.heap[w.heap.size]? = some (.cells #[.int .i64 t.kind, .string t.text, .int .i64 t.int, .bool t.whole, .bool t.sign, .bool t.id] 77 (0, 0)) := by
        rw [hb2.block w.heap.size (by simp)]
        exact heap_alloc_self _ _
      have hr2 := hr1.under hB2 (Nat.le_refl _)
      have hv2 := hv1.under hB2 (Nat.le_refl _)
      obtain ⟨f0, f1, f2, f3, _⟩ := TokB.cells (b := w.heap.size) (t := t) (w := w2) hblk
      clear hb2 q0 q1 q2 q3 q4 q5 hblk
      go_upto_region 12 with fail
      go_cut [9] (fun rv wx => RdN w2 P rv r ∧ wx = w2)
      case first =>
        by_cases hcc : c1 = 1
        · subst hcc
          have hr0 : r = [] := List.eq_nil_of_length_eq_zero (by omega)
          subst hr0
          go_wp2
          go_meet
          case rel => exact ⟨.nil _ _, rfl⟩
        · have hcc' : ¬ 1 = c1 := fun e => hcc e.symm
          go_wp2
          go_meet
          case rel => exact ⟨hr2, rfl⟩
      case rest =>
      clear hr2 hr1
      obtain ⟨hr2, rfl⟩ := hcut
      obtain ⟨ra, rc, rfl, _⟩ := hr2.shape
      go_upto_block 2 with fail
      have kk := H_kk.out
      have hr0 := H_hr0.out
      have p := H_p.out
      subst hr0
      have b1 : (t.kind == 1) = false := by rw [kk]; rfl
      have b9 : (t.kind == 9) = true := by rw [kk]; rfl
      have b10 : (t.kind == 10) = false := by rw [kk]; rfl
      have b12 : (t.kind == 12) = false := by rw [kk]; rfl
      have e43 : (⟨#[43]⟩ : ByteArray).toList = [43] := by kernel_rfl
      have bd : isD (.mk t k) ⟨#[43]⟩ = true := by unfold isD; simp only [Nd.tok]; rw [b9, Bool.true_and, e43]; exact p
      clear e43
      have HX := Lib.hid (show noneA = R by rw [← HR.out]; simp [refS, Nd.tok, b1, b10, b12, bd])
      clear HR
      go_wp2
      go_ret3
      exact ⟨by rw [← HX.out]; rfl, hB2⟩
set_option maxRecDepth 100000 in
set_option maxHeartbeats 3200000 in
theorem anb_nx {l : List Nd} {v : Value} {w : World} {P : Nat → Prop} (h : RdN w P v l) (hl : szL l ≤ 100000000) (hts : ∀ n ∈ l, n.tok.text.size ≤ 500000000) {t : Tok} {k r : List Nd} (hm : trimS l = .mk t k :: r) (hKl : anyK (trimS l) = false) (b1 : (t.kind == 1) = false) (b9 : (t.kind == 9) = false) (b10 : (t.kind == 10) = false) (b12 : (t.kind == 12) = false) :
    Calls Tryd.prog 12 #[v] w (AnbPost w (parseS l)) := by
  have HT := Lib.hid (reftrim_any h hl)
  have hE := trim_EndOk l
  have hz := trim_szL l
  have htx : ∀ n ∈ trimS l, n.tok.text.size ≤ 500000000 := fun n hn => hts n (trim_mem hn)
  rw [parse_ref]
  clear h
  have H_b1 := Lib.hid b1
  clear b1
  have H_b9 := Lib.hid b9
  clear b9
  have H_b10 := Lib.hid b10
  clear b10
  have H_b12 := Lib.hid b12
  clear b12
  rw [hm] at hKl HT hE hz htx ⊢
  obtain ⟨m, hmm⟩ : ∃ m, (.mk t k :: r : List Nd) = m := ⟨_, rfl⟩
  rw [hmm] at hKl HT hE hz htx ⊢
  have hKm := hKl
  clear hKl hm
  have hm8 : szL m ≤ 100000000 := by omega
  have hml := szL_ge m
  obtain ⟨R, hR⟩ : ∃ R, (if anyK m = true then noneA else refS m) = R := ⟨_, rfl⟩
  rw [hR]
  clear hts hz hl
  go_enter Tryd.func12, Tryd.ntmps12
  go_wp2_with (go_at_call 49; (with_reducible refine HT.out.mono ?_); rintro e w1 ⟨⟨v1, rfl, hv1⟩, rfl⟩)
  obtain ⟨N, hN⟩ : ∃ N, m.length = N := ⟨_, rfl⟩
  obtain ⟨a1, c1, rfl, hc1⟩ := hv1.shape
  rw [hN] at hc1
  have hv1' := hv1
  rw [hN] at hv1' ⊢
  have hN8 : N ≤ 100000000 := by omega
  clear HT
  go_loop [5] (fun iv => ∃ i : Nat, iv = .int .i64 i ∧ i ≤ N ∧ ∀ j, (hj : j < m.length) → j < i → (m[j]).kids.length = 0) (fun iv => N - (intOf iv).toNat)
  case atStart => exact ⟨0, rfl, Nat.zero_le _, fun j hj h => absurd h (Nat.not_lt_zero _)⟩
  case round =>
    obtain ⟨i, rfl, hi, hall⟩ := hrel
    have HALL := Lib.hid hall
    clear hall
    by_cases hlt : i < N
    · have hltI : (i : Int) < (N : Int) := by omega
      obtain ⟨b, off, c, u, hv, hlc, _, hbl, hat, hk⟩ := hv1.at i (by omega)
      injection hv with e1 e2 e3
      subst e1
      obtain ⟨ka, kc, rfl, _⟩ := hk.shape
      have q6 := hat.c6
      have hi0 : (0 : Int) ≤ (i : Int) := by omega
      obtain ⟨K, hK⟩ : ∃ K, (m[i]'(by omega)).kids.length = K := ⟨_, rfl⟩
      rw [hK] at q6
      clear hat hk
      by_cases hk0 : 0 < K
      · exact absurd (anyK_yes (m := m) (j := i) (by omega) (by omega)) (by rw [hKm]; decide)
      · have hkI : ¬ (0 : Int) < (K : Int) := by omega
        have HX := Lib.hid (show ∀ j, (hj : j < m.length) → j < i + 1 → (m[j]).kids.length = 0 from fun j hj h => by
          by_cases e : j = i
          · subst e; omega
          · exact HALL.out j hj (by omega))
        go_wp2
        go_round
        case rel => exact ⟨i + 1, by go_num, by omega, HX.out⟩
        case measure => simp [intOf]; omega
    · have hltI : ¬ (i : Int) < (N : Int) := by omega
      have HR := Lib.hid (show refS m = R by rw [← hR, if_neg (by rw [hKm]; decide)])
      clear hR HALL hKm
      subst hmm
      obtain ⟨b, off, c, u, hv, hlc, _, hbl, hat, hk⟩ := hv1.at 0 (by simp)
      injection hv with e1 e2 e3
      subst e1
      subst e3
      have q0 := hat.c0
      have q1 := hat.c1
      have q2 := hat.c2
      have q3 := hat.c3
      have q4 := hat.c4
      have q5 := hat.c5
      simp only [List.getElem_cons_zero, Nd.tok, Nat.zero_mul, Nat.add_zero] at q0 q1 q2 q3 q4 q5
      have htz5 : t.text.size ≤ 500000000 := by have := htx (.mk t k) (by simp); simpa only [Nd.tok] using this
      have htz : t.text.size ≤ 1000000000 := by omega
      have hN1 : N = r.length + 1 := by rw [← hN]; rfl
      have hN0 : ¬ (N : Int) = 0 := by omega
      have hN0' : ((N : Int) == 0) = false := by simpa using hN0
      have hNp : (0 : Int) < (N : Int) := by omega
      clear hat hk
      have hE2 := hE.tail
      have hr1 : RdN w P (.slice (some ⟨b, off + 1 * 7, none⟩) (N - 1) (c1 - 1)) ((.mk t k :: r : List Nd).drop 1) := hv1'.drop 1 (by simp)
      have hr1 : RdN w P (.slice (some ⟨b, off + 7, none⟩) r.length (c1 - 1)) r := by
        have e1 : (.mk t k :: r : List Nd).drop 1 = r := rfl
        have e2 : N - 1 = r.length := by omega
        rw [e1, e2, Nat.one_mul] at hr1
        exact hr1
      go_wp2_with fail
      refine (reflower_any t.text _ htz).mono ?_
      rintro e w2 ⟨rfl, hb2⟩
      have hB2 := below_seq (below_al w (.cells #[.int .i64 t.kind, .string t.text, .int .i64 t.int, .bool t.whole, .bool t.sign, .bool t.id] 77)) hb2
      have hblk : w2.heap[w.heap.size]? = some (.cells #[.int .i64 t.kind, .string t.text, .int .i64 t.int, .bool t.whole, .bool t.sign, .bool t.id] 77 (0, 0)) := by
        rw [hb2.block w.heap.size (by simp)]
        exact heap_alloc_self _ _
      have hr2 := hr1.under hB2 (Nat.le_refl _)
      have hv2 := hv1.under hB2 (Nat.le_refl _)
      obtain ⟨f0, f1, f2, f3, _⟩ := TokB.cells (b := w.heap.size) (t := t) (w := w2) hblk
      clear hb2 q0 q1 q2 q3 q4 q5 hblk
      go_upto_region 12 with fail
      go_cut [9] (fun rv wx => RdN w2 P rv r ∧ wx = w2)
      case first =>
        by_cases hcc : c1 = 1
        · subst hcc
          have hr0 : r = [] := List.eq_nil_of_length_eq_zero (by omega)
          subst hr0
          go_wp2
          go_meet
          case rel => exact ⟨.nil _ _, rfl⟩
        · have hcc' : ¬ 1 = c1 := fun e => hcc e.symm
          go_wp2
          go_meet
          case rel => exact ⟨hr2, rfl⟩
      case rest =>
      clear hr2 hr1
      obtain ⟨hr2, rfl⟩ := hcut
      obtain ⟨ra, rc, rfl, _⟩ := hr2.shape
      go_upto_block 2 with fail
      have b1 := H_b1.out
      have b9 := H_b9.out
      have b10 := H_b10.out
      have b12 := H_b12.out
      have bd : isD (.mk t k) ⟨#[43]⟩ = false := by unfold isD; simp only [Nd.tok]; rw [b9, Bool.false_and]
      cases r with
      | nil =>
        have HX := Lib.hid (show noneA = R by rw [← HR.out]; simp [refS, Nd.tok, b1, b10, b12, bd])
        clear HR
        go_wp2
        go_ret3
        exact ⟨by rw [← HX.out]; rfl, hB2⟩
      | cons m1 r2 =>
        have hne : ¬ ((m1 :: r2).length : Int) + 1 = 1 := by rw [List.length_cons]; omega
        have hne' : ((((m1 :: r2).length : Nat) : Int) + 1 == 1) = false := by simpa using hne
        have hgt : (1 : Int) < (((m1 :: r2).length : Nat) : Int) + 1 := by rw [List.length_cons]; omega
        have HX := Lib.hid (show noneA = R by rw [← HR.out]; simp [refS, Nd.tok, b1, b10, b12, bd])
        clear HR
        go_wp2
        go_ret3
        exact ⟨by rw [← HX.out]; rfl, hB2⟩
end Go.Proofs.YtjjkifhegfpceaaDoor
