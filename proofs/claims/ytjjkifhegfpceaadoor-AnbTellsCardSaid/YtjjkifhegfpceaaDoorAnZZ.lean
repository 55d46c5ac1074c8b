
import Derived.Test.YtjjkifhegfpceaaDoorAnZ0
namespace Go.Proofs.YtjjkifhegfpceaaDoor
open Go.RowKit Go.Shelf
set_option maxRecDepth 100000 in
set_option maxHeartbeats 6400000 in
theorem anb_D {l : List Nd} {v : Value} {w : World} {P : Nat → Prop} (h : RdN w P v l) (hl : szL l ≤ 100000000) (hts : ∀ n ∈ l, n.tok.text.size ≤ 500000000) {t : Tok} {k r : List Nd} (hm : trimS l = .mk t k :: r) (hKl : anyK (trimS l) = false) (kk : t.kind = 12) (hw : t.whole = true) :
    Calls Tryd.prog 12 #[v] w (AnbPost w (parseS l)) := by
  have HT := Lib.hid (reftrim_any h hl)
  have hE := trim_EndOk l
  have hz := trim_szL l
  have htx : ∀ n ∈ trimS l, n.tok.text.size ≤ 500000000 := fun n hn => hts n (trim_mem hn)
  rw [parse_ref]
  clear h
  have H_kk := Lib.hid kk
  clear kk
  have H_hw := Lib.hid hw
  clear hw
  rw [hm] at hKl HT hE hz htx ⊢
  obtain ⟨m, hmm⟩ : ∃ m, (.mk t k :: r : List Nd) = m := ⟨_, rfl⟩
  rw [hmm] at hKl HT hE hz htx ⊢
  have hKm := hKl
  clear hKl hm
  have hm8 : szL m ≤ 100000000 := by omega
  have hml := szL_ge m
  obtain ⟨R, hR⟩ : ∃ R, (if anyK m = true then noneA else refS m) = R := ⟨_, rfl⟩
  rw [hR]
  clear hts hz hl
  go_enter Tryd.func12, Tryd.ntmps12
  go_wp2_with (go_at_call 49; (with_reducible refine HT.out.mono ?_); rintro e w1 ⟨⟨v1, rfl, hv1⟩, rfl⟩)
  obtain ⟨N, hN⟩ : ∃ N, m.length = N := ⟨_, rfl⟩
  obtain ⟨a1, c1, rfl, hc1⟩ := hv1.shape
  rw [hN] at hc1
  have hv1' := hv1
  rw [hN] at hv1' ⊢
  have hN8 : N ≤ 100000000 := by omega
  clear HT
  go_loop [5] (fun iv => ∃ i : Nat, iv = .int .i64 i ∧ i ≤ N ∧ ∀ j, (hj : j < m.length) → j < i → (m[j]).kids.length = 0) (fun iv => N - (intOf iv).toNat)
  case atStart => exact ⟨0, rfl, Nat.zero_le _, fun j hj h => absurd h (Nat.not_lt_zero _)⟩
  case round =>
    obtain ⟨i, rfl, hi, hall⟩ := hrel
    have HALL := Lib.hid hall
    clear hall
    by_cases hlt : i < N
    · have hltI : (i : Int) < (N : Int) := by omega
      obtain ⟨b, off, c, u, hv, hlc, _, hbl, hat, hk⟩ := hv1.at i (by omega)
      injection hv with e1 e2 e3
      subst e1
      obtain ⟨ka, kc, rfl, _⟩ := hk.shape
      have q6 := hat.c6
      have hi0 : (0 : Int) ≤ (i : Int) := by omega
      obtain ⟨K, hK⟩ : ∃ K, (m[i]'(by omega)).kids.length = K := ⟨_, rfl⟩
      rw [hK] at q6
      clear hat hk
      by_cases hk0 : 0 < K
      · exact absurd (anyK_yes (m := m) (j := i) (by omega) (by omega)) (by rw [hKm]; decide)
      · have hkI : ¬ (0 : Int) < (K : Int) := by omega
        have HX := Lib.hid (show ∀ j, (hj : j < m.length) → j < i + 1 → (m[j]).kids.length = 0 from fun j hj h => by
          by_cases e : j = i
          · subst e; omega
          · exact HALL.out j hj (by omega))
        go_wp2
        go_round
        case rel => exact ⟨i + 1, by go_num, by omega, HX.out⟩
        case measure => simp [intOf]; omega
    · have hltI : ¬ (i : Int) < (N : Int) := by omega
      have HR := Lib.hid (show refS m = R by rw [← hR, if_neg (by rw [hKm]; decide)])
      clear hR HALL hKm
      subst hmm
      obtain ⟨b, off, c, u, hv, hlc, _, hbl, hat, hk⟩ := hv1.at 0 (by simp)
      injection hv with e1 e2 e3
      subst e1
      subst e3
      have q0 := hat.c0
      have q1 := hat.c1
      have q2 := hat.c2
      have q3 := hat.c3
      have q4 := hat.c4
      have q5 := hat.c5
      simp only [List.getElem_cons_zero, Nd.tok, Nat.zero_mul, Nat.add_zero] at q0 q1 q2 q3 q4 q5
      have htz5 : t.text.size ≤ 500000000 := by have := htx (.mk t k) (by simp); simpa only [Nd.tok] using this
      have htz : t.text.size ≤ 1000000000 := by omega
      have hN1 : N = r.length + 1 := by rw [← hN]; rfl
      have hN0 : ¬ (N : Int) = 0 := by omega
      have hN0' : ((N : Int) == 0) = false := by simpa using hN0
      have hNp : (0 : Int) < (N : Int) := by omega
      clear hat hk
      have hE2 := hE.tail
      have hr1 : RdN w P (.slice (some ⟨b, off + 1 * 7, none⟩) (N - 1) (c1 - 1)) ((.mk t k :: r : List Nd).drop 1) := hv1'.drop 1 (by simp)
      have hr1 : RdN w P (.slice (some ⟨b, off + 7, none⟩) r.length (c1 - 1)) r := by
        have e1 : (.mk t k :: r : List Nd).drop 1 = r := rfl
        have e2 : N - 1 = r.length := by omega
        rw [e1, e2, Nat.one_mul] at hr1
        exact hr1
      go_wp2_with fail
      refine (reflower_any t.text _ htz).mono ?_
      rintro e w2 ⟨rfl, hb2⟩
      obtain ⟨U, hUU⟩ : ∃ U, lowS t.text = U := ⟨_, rfl⟩
      rw [hUU]
      have hUs : U.size ≤ 500000000 := by rw [← hUU, lowS_sz]; exact htz5
      have HUU := Lib.hid hUU
      clear hUU
      have hB2 := below_seq (below_al w (.cells #[.int .i64 t.kind, .string t.text, .int .i64 t.int, .bool t.whole, .bool t.sign, .bool t.id] 77)) hb2
      have hblk : w2.heap[w.heap.size]? = some (.cells #[.int .i64 t.kind, .string t.text, .int .i64 t.int, .bool t.whole, .bool t.sign, .bool t.id] 77 (0, 0)) := by
        rw [hb2.block w.heap.size (by simp)]
        exact heap_alloc_self _ _
      have hr2 := hr1.under hB2 (Nat.le_refl _)
      have hv2 := hv1.under hB2 (Nat.le_refl _)
      obtain ⟨f0, f1, f2, f3, _⟩ := TokB.cells (b := w.heap.size) (t := t) (w := w2) hblk
      clear hb2 q0 q1 q2 q3 q4 q5 hblk
      go_upto_region 12 with fail
      go_cut [9] (fun rv wx => RdN w2 P rv r ∧ w2 = wx)
      case first =>
        by_cases hcc : c1 = 1
        · subst hcc
          have hr0 : r = [] := List.eq_nil_of_length_eq_zero (by omega)
          subst hr0
          go_wp2
          go_meet
          case rel => exact ⟨.nil _ _, rfl⟩
        · have hcc' : ¬ 1 = c1 := fun e => hcc e.symm
          go_wp2
          go_meet
          case rel => exact ⟨hr2, rfl⟩
      case rest =>
      clear hr2 hr1
      obtain ⟨hr2, rfl⟩ := hcut
      obtain ⟨ra, rc, rfl, _⟩ := hr2.shape
      have kk := H_kk.out
      have hw := H_hw.out
      rw [hw] at f3
      have b1 : (t.kind == 1) = false := by rw [kk]; rfl
      have b9 : (t.kind == 9) = false := by rw [kk]; rfl
      have b10 : (t.kind == 10) = false := by rw [kk]; rfl
      have b12 : (t.kind == 12) = true := by rw [kk]; rfl
      obtain ⟨A, hA⟩ : ∃ A, t.int = A := ⟨_, rfl⟩
      rw [hA] at f2
      have HX := Lib.hid (show refT A U r = R by rw [← HR.out, ← HUU.out, ← hA]; simp [refS, Nd.tok, kk, hw])
      clear HR hA

      go_upto_block 2 with fail
      go_cut [7, 8, 9] (fun uv av rv wx => uv = .string U ∧ av = .int .i64 A ∧ RdN w2 P rv r ∧ w2 = wx)
      case first =>
        cases r with
        | nil =>
          go_wp2
          go_meet
          case rel => exact ⟨rfl, rfl, hr2, rfl⟩
        | cons m1 r2 =>
          have hne : ¬ ((m1 :: r2).length : Int) + 1 = 1 := by rw [List.length_cons]; omega
          have hne' : ((((m1 :: r2).length : Nat) : Int) + 1 == 1) = false := by simpa using hne
          go_wp2
          go_meet
          case rel => exact ⟨rfl, rfl, hr2, rfl⟩
      case rest =>
      clear hr2 f0 f1 f2 f3
      obtain ⟨rfl, rfl, hrs, rfl⟩ := hcut
      have HBW := Lib.hid hB2
      have hrz : szL r ≤ 100000000 := by rw [szL] at hm8; omega
      obtain ⟨rs, hrsE⟩ : ∃ rs, rs = r := ⟨_, rfl⟩
      subst hrsE
      have HK := Lib.hid kk
      clear kk b1 b9 b10 b12 hN0 hN0' hNp hN1 hv1 hv1' hv2 htx hE hml hN hlc hr1 HUU
      refine (show ∀ a w', Code.wp Tryd.prog restCode (bodyPost Tryd.prog Tryd.f12 (AnbPost w R)) a w' → _ by assumption) _ _ ?_
      exact anbt hrs hrz hUs HX.out HBW.out
set_option maxRecDepth 100000 in
set_option maxHeartbeats 6400000 in
theorem anb_I {l : List Nd} {v : Value} {w : World} {P : Nat → Prop} (h : RdN w P v l) (hl : szL l ≤ 100000000) (hts : ∀ n ∈ l, n.tok.text.size ≤ 500000000) {t : Tok} {k r : List Nd} (hm : trimS l = .mk t k :: r) (hKl : anyK (trimS l) = false) (kk : t.kind = 1) (o : (r.isEmpty && ((lowS t.text).toList == [111, 100, 100])) = false) (e : (r.isEmpty && ((lowS t.text).toList == [101, 118, 101, 110])) = false) (hm45 : (lowS t.text).data.toList.head? ≠ some 45) :
    Calls Tryd.prog 12 #[v] w (AnbPost w (parseS l)) := by
  have HT := Lib.hid (reftrim_any h hl)
  have hE := trim_EndOk l
  have hz := trim_szL l
  have htx : ∀ n ∈ trimS l, n.tok.text.size ≤ 500000000 := fun n hn => hts n (trim_mem hn)
  rw [parse_ref]
  clear h
  have H_kk := Lib.hid kk
  clear kk
  have H_o := Lib.hid o
  clear o
  have H_e := Lib.hid e
  clear e
  have H_hm45 := Lib.hid hm45
  clear hm45
  rw [hm] at hKl HT hE hz htx ⊢
  obtain ⟨m, hmm⟩ : ∃ m, (.mk t k :: r : List Nd) = m := ⟨_, rfl⟩
  rw [hmm] at hKl HT hE hz htx ⊢
  have hKm := hKl
  clear hKl hm
  have hm8 : szL m ≤ 100000000 := by omega
  have hml := szL_ge m
  obtain ⟨R, hR⟩ : ∃ R, (if anyK m = true then noneA else refS m) = R := ⟨_, rfl⟩
  rw [hR]
  clear hts hz hl
  go_enter Tryd.func12, Tryd.ntmps12
  go_wp2_with (go_at_call 49; (with_reducible refine HT.out.mono ?_); rintro e w1 ⟨⟨v1, rfl, hv1⟩, rfl⟩)
  obtain ⟨N, hN⟩ : ∃ N, m.length = N := ⟨_, rfl⟩
  obtain ⟨a1, c1, rfl, hc1⟩ := hv1.shape
  rw [hN] at hc1
  have hv1' := hv1
  rw [hN] at hv1' ⊢
  have hN8 : N ≤ 100000000 := by omega
  clear HT
  go_loop [5] (fun iv => ∃ i : Nat, iv = .int .i64 i ∧ i ≤ N ∧ ∀ j, (hj : j < m.length) → j < i → (m[j]).kids.length = 0) (fun iv => N - (intOf iv).toNat)
  case atStart => exact ⟨0, rfl, Nat.zero_le _, fun j hj h => absurd h (Nat.not_lt_zero _)⟩
  case round =>
    obtain ⟨i, rfl, hi, hall⟩ := hrel
    have HALL := Lib.hid hall
    clear hall
    by_cases hlt : i < N
    · have hltI : (i : Int) < (N : Int) := by omega
      obtain ⟨b, off, c, u, hv, hlc, _, hbl, hat, hk⟩ := hv1.at i (by omega)
      injection hv with e1 e2 e3
      subst e1
      obtain ⟨ka, kc, rfl, _⟩ := hk.shape
      have q6 := hat.c6
      have hi0 : (0 : Int) ≤ (i : Int) := by omega
      obtain ⟨K, hK⟩ : ∃ K, (m[i]'(by omega)).kids.length = K := ⟨_, rfl⟩
      rw [hK] at q6
      clear hat hk
      by_cases hk0 : 0 < K
      · exact absurd (anyK_yes (m := m) (j := i) (by omega) (by omega)) (by rw [hKm]; decide)
      · have hkI : ¬ (0 : Int) < (K : Int) := by omega
        have HX := Lib.hid (show ∀ j, (hj : j < m.length) → j < i + 1 → (m[j]).kids.length = 0 from fun j hj h => by
          by_cases e : j = i
          · subst e; omega
          · exact HALL.out j hj (by omega))
        go_wp2
        go_round
        case rel => exact ⟨i + 1, by go_num, by omega, HX.out⟩
        case measure => simp [intOf]; omega
    · have hltI : ¬ (i : Int) < (N : Int) := by omega
      have HR := Lib.hid (show refS m = R by rw [← hR, if_neg (by rw [hKm]; decide)])
      clear hR HALL hKm
      subst hmm
      obtain ⟨b, off, c, u, hv, hlc, _, hbl, hat, hk⟩ := hv1.at 0 (by simp)
      injection hv with e1 e2 e3
      subst e1
      subst e3
      have q0 := hat.c0
      have q1 := hat.c1
      have q2 := hat.c2
      have q3 := hat.c3
      have q4 := hat.c4
      have q5 := hat.c5
      simp only [List.getElem_cons_zero, Nd.tok, Nat.zero_mul, Nat.add_zero] at q0 q1 q2 q3 q4 q5
      have htz5 : t.text.size ≤ 500000000 := by have := htx (.mk t k) (by simp); simpa only [Nd.tok] using this
      have htz : t.text.size ≤ 1000000000 := by omega
      have hN1 : N = r.length + 1 := by rw [← hN]; rfl
      have hN0 : ¬ (N : Int) = 0 := by omega
      have hN0' : ((N : Int) == 0) = false := by simpa using hN0
      have hNp : (0 : Int) < (N : Int) := by omega
      clear hat hk
      have hE2 := hE.tail
      have hr1 : RdN w P (.slice (some ⟨b, off + 1 * 7, none⟩) (N - 1) (c1 - 1)) ((.mk t k :: r : List Nd).drop 1) := hv1'.drop 1 (by simp)
      have hr1 : RdN w P (.slice (some ⟨b, off + 7, none⟩) r.length (c1 - 1)) r := by
        have e1 : (.mk t k :: r : List Nd).drop 1 = r := rfl
        have e2 : N - 1 = r.length := by omega
        rw [e1, e2, Nat.one_mul] at hr1
        exact hr1
      go_wp2_with fail
      refine (reflower_any t.text _ htz).mono ?_
      rintro e w2 ⟨rfl, hb2⟩
      obtain ⟨U, hUU⟩ : ∃ U, lowS t.text = U := ⟨_, rfl⟩
      rw [hUU]
      have hUs : U.size ≤ 500000000 := by rw [← hUU, lowS_sz]; exact htz5
      have HUU := Lib.hid hUU
      clear hUU
      have hB2 := below_seq (below_al w (.cells #[.int .i64 t.kind, .string t.text, .int .i64 t.int, .bool t.whole, .bool t.sign, .bool t.id] 77)) hb2
      have hblk : w2.heap[w.heap.size]? = some (.cells #[.int .i64 t.kind, .string t.text, .int .i64 t.int, .bool t.whole, .bool t.sign, .bool t.id] 77 (0, 0)) := by
        rw [hb2.block w.heap.size (by simp)]
        exact heap_alloc_self _ _
      have hr2 := hr1.under hB2 (Nat.le_refl _)
      have hv2 := hv1.under hB2 (Nat.le_refl _)
      obtain ⟨f0, f1, f2, f3, _⟩ := TokB.cells (b := w.heap.size) (t := t) (w := w2) hblk
      clear hb2 q0 q1 q2 q3 q4 q5 hblk
      go_upto_region 12 with fail
      go_cut [9] (fun rv wx => RdN w2 P rv r ∧ w2 = wx)
      case first =>
        by_cases hcc : c1 = 1
        · subst hcc
          have hr0 : r = [] := List.eq_nil_of_length_eq_zero (by omega)
          subst hr0
          go_wp2
          go_meet
          case rel => exact ⟨.nil _ _, rfl⟩
        · have hcc' : ¬ 1 = c1 := fun e => hcc e.symm
          go_wp2
          go_meet
          case rel => exact ⟨hr2, rfl⟩
      case rest =>
      clear hr2 hr1
      obtain ⟨hr2, rfl⟩ := hcut
      obtain ⟨ra, rc, rfl, _⟩ := hr2.shape
      have kk := H_kk.out
      have o := H_o.out
      have e := H_e.out
      have hm45 := H_hm45.out
      have b1 : (t.kind == 1) = true := by rw [kk]; rfl
      have b9 : (t.kind == 9) = false := by rw [kk]; rfl
      have b10 : (t.kind == 10) = false := by rw [kk]; rfl
      have b12 : (t.kind == 12) = false := by rw [kk]; rfl
      rw [HUU.out] at hm45
      obtain ⟨A, hA⟩ : ∃ A : Int, 1 = A := ⟨_, rfl⟩
      have HX := Lib.hid (show refT A U r = R by rw [← HR.out, ← HUU.out, ← hA, refS_id kk o e, if_neg (by rw [HUU.out]; exact hm45)])
      clear HR
      subst hA

      go_upto_block 2 with fail
      go_cut [7, 8, 9] (fun uv av rv wx => uv = .string U ∧ av = .int .i64 1 ∧ RdN w2 P rv r ∧ w2 = wx)
      case first =>
        cases hcs : U.data.toList with
        | nil =>
          have e0 : U = ⟨#[]⟩ := ba_of hcs
          subst e0
          clear hcs hm45
          cases r with
          | nil =>
            clear o e
            go_wp2
            go_meet
            case rel => exact ⟨rfl, rfl, hr2, rfl⟩
          | cons m1 r2 =>
            clear o e
            have hne : ¬ ((m1 :: r2).length : Int) + 1 = 1 := by rw [List.length_cons]; omega
            have hne' : ((((m1 :: r2).length : Nat) : Int) + 1 == 1) = false := by simpa using hne
            go_wp2
            go_meet
            case rel => exact ⟨rfl, rfl, hr2, rfl⟩
        | cons c tl =>
          have hUz : U.size = tl.length + 1 := by rw [← ba_len, hcs]; rfl
          have hp0 : 0 < U.size := by omega
          have hp0' : (0 : Int) < (U.size : Int) := by omega
          have hc0 : U[0]'hp0 = c := ba_at hcs (by rfl)
          have h0 : (((U[0]'hp0).toNat : Int) == 45) = false := by rw [hc0]; exact u8_neb (c := c) (d := 45) (fun h : c = 45 => hm45 (by rw [hcs, h]; rfl))
          clear hc0 hUz hcs hm45
          cases r with
          | nil =>
            have o2 : (U.toList == [111, 100, 100]) = false := by simpa [HUU.out] using o
            have e2 : (U.toList == [101, 118, 101, 110]) = false := by simpa [HUU.out] using e
            clear o e
            go_wp2
            go_meet
            case rel => exact ⟨rfl, rfl, hr2, rfl⟩
          | cons m1 r2 =>
            clear o e
            have hne : ¬ ((m1 :: r2).length : Int) + 1 = 1 := by rw [List.length_cons]; omega
            have hne' : ((((m1 :: r2).length : Nat) : Int) + 1 == 1) = false := by simpa using hne
            go_wp2
            go_meet
            case rel => exact ⟨rfl, rfl, hr2, rfl⟩
      case rest =>
      clear hr2 f0 f1 f2 f3
      obtain ⟨rfl, rfl, hrs, rfl⟩ := hcut
      have HBW := Lib.hid hB2
      have hrz : szL r ≤ 100000000 := by rw [szL] at hm8; omega
      obtain ⟨rs, hrsE⟩ : ∃ rs, rs = r := ⟨_, rfl⟩
      subst hrsE
      have HK := Lib.hid kk
      clear kk b1 b9 b10 b12 hN0 hN0' hNp hN1 hv1 hv1' hv2 htx hE hml hN hlc hr1 HUU o e hm45
      refine (show ∀ a w', Code.wp Tryd.prog restCode (bodyPost Tryd.prog Tryd.f12 (AnbPost w R)) a w' → _ by assumption) _ _ ?_
      exact anbt hrs hrz hUs HX.out HBW.out
set_option maxRecDepth 100000 in
set_option maxHeartbeats 6400000 in
theorem anb_M {l : List Nd} {v : Value} {w : World} {P : Nat → Prop} (h : RdN w P v l) (hl : szL l ≤ 100000000) (hts : ∀ n ∈ l, n.tok.text.size ≤ 500000000) {t : Tok} {k r : List Nd} (hm : trimS l = .mk t k :: r) (hKl : anyK (trimS l) = false) (kk : t.kind = 1) (o : (r.isEmpty && ((lowS t.text).toList == [111, 100, 100])) = false) (e : (r.isEmpty && ((lowS t.text).toList == [101, 118, 101, 110])) = false) (hm45 : (lowS t.text).data.toList.head? = some 45) :
    Calls Tryd.prog 12 #[v] w (AnbPost w (parseS l)) := by
  have HT := Lib.hid (reftrim_any h hl)
  have hE := trim_EndOk l
  have hz := trim_szL l
  have htx : ∀ n ∈ trimS l, n.tok.text.size ≤ 500000000 := fun n hn => hts n (trim_mem hn)
  rw [parse_ref]
  clear h
  have H_kk := Lib.hid kk
  clear kk
  have H_o := Lib.hid o
  clear o
  have H_e := Lib.hid e
  clear e
  have H_hm45 := Lib.hid hm45
  clear hm45
  rw [hm] at hKl HT hE hz htx ⊢
  obtain ⟨m, hmm⟩ : ∃ m, (.mk t k :: r : List Nd) = m := ⟨_, rfl⟩
  rw [hmm] at hKl HT hE hz htx ⊢
  have hKm := hKl
  clear hKl hm
  have hm8 : szL m ≤ 100000000 := by omega
  have hml := szL_ge m
  obtain ⟨R, hR⟩ : ∃ R, (if anyK m = true then noneA else refS m) = R := ⟨_, rfl⟩
  rw [hR]
  clear hts hz hl
  go_enter Tryd.func12, Tryd.ntmps12
  go_wp2_with (go_at_call 49; (with_reducible refine HT.out.mono ?_); rintro e w1 ⟨⟨v1, rfl, hv1⟩, rfl⟩)
  obtain ⟨N, hN⟩ : ∃ N, m.length = N := ⟨_, rfl⟩
  obtain ⟨a1, c1, rfl, hc1⟩ := hv1.shape
  rw [hN] at hc1
  have hv1' := hv1
  rw [hN] at hv1' ⊢
  have hN8 : N ≤ 100000000 := by omega
  clear HT
  go_loop [5] (fun iv => ∃ i : Nat, iv = .int .i64 i ∧ i ≤ N ∧ ∀ j, (hj : j < m.length) → j < i → (m[j]).kids.length = 0) (fun iv => N - (intOf iv).toNat)
  case atStart => exact ⟨0, rfl, Nat.zero_le _, fun j hj h => absurd h (Nat.not_lt_zero _)⟩
  case round =>
    obtain ⟨i, rfl, hi, hall⟩ := hrel
    have HALL := Lib.hid hall
    clear hall
    by_cases hlt : i < N
    · have hltI : (i : Int) < (N : Int) := by omega
      obtain ⟨b, off, c, u, hv, hlc, _, hbl, hat, hk⟩ := hv1.at i (by omega)
      injection hv with e1 e2 e3
      subst e1
      obtain ⟨ka, kc, rfl, _⟩ := hk.shape
      have q6 := hat.c6
      have hi0 : (0 : Int) ≤ (i : Int) := by omega
      obtain ⟨K, hK⟩ : ∃ K, (m[i]'(by omega)).kids.length = K := ⟨_, rfl⟩
      rw [hK] at q6
      clear hat hk
      by_cases hk0 : 0 < K
      · exact absurd (anyK_yes (m := m) (j := i) (by omega) (by omega)) (by rw [hKm]; decide)
      · have hkI : ¬ (0 : Int) < (K : Int) := by omega
        have HX := Lib.hid (show ∀ j, (hj : j < m.length) → j < i + 1 → (m[j]).kids.length = 0 from fun j hj h => by
          by_cases e : j = i
          · subst e; omega
          · exact HALL.out j hj (by omega))
        go_wp2
        go_round
        case rel => exact ⟨i + 1, by go_num, by omega, HX.out⟩
        case measure => simp [intOf]; omega
    · have hltI : ¬ (i : Int) < (N : Int) := by omega
      have HR := Lib.hid (show refS m = R by rw [← hR, if_neg (by rw [hKm]; decide)])
      clear hR HALL hKm
      subst hmm
      obtain ⟨b, off, c, u, hv, hlc, _, hbl, hat, hk⟩ := hv1.at 0 (by simp)
      injection hv with e1 e2 e3
      subst e1
      subst e3
      have q0 := hat.c0
      have q1 := hat.c1
      have q2 := hat.c2
      have q3 := hat.c3
      have q4 := hat.c4
      have q5 := hat.c5
      simp only [List.getElem_cons_zero, Nd.tok, Nat.zero_mul, Nat.add_zero] at q0 q1 q2 q3 q4 q5
      have htz5 : t.text.size ≤ 500000000 := by have := htx (.mk t k) (by simp); simpa only [Nd.tok] using this
      have htz : t.text.size ≤ 1000000000 := by omega
      have hN1 : N = r.length + 1 := by rw [← hN]; rfl
      have hN0 : ¬ (N : Int) = 0 := by omega
      have hN0' : ((N : Int) == 0) = false := by simpa using hN0
      have hNp : (0 : Int) < (N : Int) := by omega
      clear hat hk
      have hE2 := hE.tail
      have hr1 : RdN w P (.slice (some ⟨b, off + 1 * 7, none⟩) (N - 1) (c1 - 1)) ((.mk t k :: r : List Nd).drop 1) := hv1'.drop 1 (by simp)
      have hr1 : RdN w P (.slice (some ⟨b, off + 7, none⟩) r.length (c1 - 1)) r := by
        have e1 : (.mk t k :: r : List Nd).drop 1 = r := rfl
        have e2 : N - 1 = r.length := by omega
        rw [e1, e2, Nat.one_mul] at hr1
        exact hr1
      go_wp2_with fail
      refine (reflower_any t.text _ htz).mono ?_
      rintro e w2 ⟨rfl, hb2⟩
      obtain ⟨V, hUU⟩ : ∃ V, lowS t.text = V := ⟨_, rfl⟩
      rw [hUU]
      obtain ⟨U, hUV⟩ : ∃ U, V.extract 1 V.size = U := ⟨_, rfl⟩
      have hVs : V.size ≤ 500000000 := by rw [← hUU, lowS_sz]; exact htz5
      have hUs : U.size ≤ 500000000 := by rw [← hUV, ByteArray.size_extract]; omega
      have HUU := Lib.hid hUU
      clear hUU
      have HUV := Lib.hid hUV
      clear hUV
      have hB2 := below_seq (below_al w (.cells #[.int .i64 t.kind, .string t.text, .int .i64 t.int, .bool t.whole, .bool t.sign, .bool t.id] 77)) hb2
      have hblk : w2.heap[w.heap.size]? = some (.cells #[.int .i64 t.kind, .string t.text, .int .i64 t.int, .bool t.whole, .bool t.sign, .bool t.id] 77 (0, 0)) := by
        rw [hb2.block w.heap.size (by simp)]
        exact heap_alloc_self _ _
      have hr2 := hr1.under hB2 (Nat.le_refl _)
      have hv2 := hv1.under hB2 (Nat.le_refl _)
      obtain ⟨f0, f1, f2, f3, _⟩ := TokB.cells (b := w.heap.size) (t := t) (w := w2) hblk
      clear hb2 q0 q1 q2 q3 q4 q5 hblk
      go_upto_region 12 with fail
      go_cut [9] (fun rv wx => RdN w2 P rv r ∧ w2 = wx)
      case first =>
        by_cases hcc : c1 = 1
        · subst hcc
          have hr0 : r = [] := List.eq_nil_of_length_eq_zero (by omega)
          subst hr0
          go_wp2
          go_meet
          case rel => exact ⟨.nil _ _, rfl⟩
        · have hcc' : ¬ 1 = c1 := fun e => hcc e.symm
          go_wp2
          go_meet
          case rel => exact ⟨hr2, rfl⟩
      case rest =>
      clear hr2 hr1
      obtain ⟨hr2, rfl⟩ := hcut
      obtain ⟨ra, rc, rfl, _⟩ := hr2.shape
      have kk := H_kk.out
      have o := H_o.out
      have e := H_e.out
      have hm45 := H_hm45.out
      have b1 : (t.kind == 1) = true := by rw [kk]; rfl
      have b9 : (t.kind == 9) = false := by rw [kk]; rfl
      have b10 : (t.kind == 10) = false := by rw [kk]; rfl
      have b12 : (t.kind == 12) = false := by rw [kk]; rfl
      rw [HUU.out] at hm45
      obtain ⟨A, hA⟩ : ∃ A : Int, -1 = A := ⟨_, rfl⟩
      have HX := Lib.hid (show refT A U r = R by rw [← HR.out, ← HUV.out, ← HUU.out, ← hA, refS_id kk o e, if_pos (by rw [HUU.out]; exact hm45)])
      clear HR
      subst hA

      go_upto_block 2 with fail
      go_cut [7, 8, 9] (fun uv av rv wx => uv = .string U ∧ av = .int .i64 (-1) ∧ RdN w2 P rv r ∧ w2 = wx)
      case first =>
        cases hcs : V.data.toList with
        | nil => rw [hcs] at hm45; cases hm45
        | cons c tl =>
          have hUz : V.size = tl.length + 1 := by rw [← ba_len, hcs]; rfl
          have hp0 : 0 < V.size := by omega
          have hp0' : (0 : Int) < (V.size : Int) := by omega
          have hp1' : (1 : Int) ≤ (V.size : Int) := by omega
          have hc0 : V[0]'hp0 = c := ba_at hcs (by rfl)
          have h0 : (((V[0]'hp0).toNat : Int) == 45) = true := by rw [hc0]; rw [hcs] at hm45; injection hm45 with e; rw [e]; rfl
          clear hc0 hUz hcs hm45
          cases r with
          | nil =>
            have o2 : (V.toList == [111, 100, 100]) = false := by simpa [HUU.out] using o
            have e2 : (V.toList == [101, 118, 101, 110]) = false := by simpa [HUU.out] using e
            clear o e
            go_wp2
            go_meet
            case rel => exact ⟨by rw [HUV.out], rfl, hr2, rfl⟩
          | cons m1 r2 =>
            clear o e
            have hne : ¬ ((m1 :: r2).length : Int) + 1 = 1 := by rw [List.length_cons]; omega
            have hne' : ((((m1 :: r2).length : Nat) : Int) + 1 == 1) = false := by simpa using hne
            go_wp2
            go_meet
            case rel => exact ⟨by rw [HUV.out], rfl, hr2, rfl⟩
      case rest =>
      clear hr2 f0 f1 f2 f3
      obtain ⟨rfl, rfl, hrs, rfl⟩ := hcut
      have HBW := Lib.hid hB2
      have hrz : szL r ≤ 100000000 := by rw [szL] at hm8; omega
      obtain ⟨rs, hrsE⟩ : ∃ rs, rs = r := ⟨_, rfl⟩
      subst hrsE
      have HK := Lib.hid kk
      clear kk b1 b9 b10 b12 hN0 hN0' hNp hN1 hv1 hv1' hv2 htx hE hml hN hlc hr1 HUU HUV hVs o e hm45
      refine (show ∀ a w', Code.wp Tryd.prog restCode (bodyPost Tryd.prog Tryd.f12 (AnbPost w R)) a w' → _ by assumption) _ _ ?_
      exact anbt hrs hrz hUs HX.out HBW.out
set_option maxRecDepth 100000 in
set_option maxHeartbeats 6400000 in
theorem anb_P {l : List Nd} {v : Value} {w : World} {P : Nat → Prop} (h : RdN w P v l) (hl : szL l ≤ 100000000) (hts : ∀ n ∈ l, n.tok.text.size ≤ 500000000) {t : Tok} {k r : List Nd} (hm : trimS l = .mk t k :: r) (hKl : anyK (trimS l) = false) {m1 : Nd} {r2 : List Nd} (kk : t.kind = 9) (p : (t.text.toList == [43]) = true) (hr0 : r = m1 :: r2) (k1 : m1.tok.kind = 1) :
    Calls Tryd.prog 12 #[v] w (AnbPost w (parseS l)) := by
  have HT := Lib.hid (reftrim_any h hl)
  have hE := trim_EndOk l
  have hz := trim_szL l
  have htx : ∀ n ∈ trimS l, n.tok.text.size ≤ 500000000 := fun n hn => hts n (trim_mem hn)
  rw [parse_ref]
  clear h
  have H_kk := Lib.hid kk
  clear kk
  have H_p := Lib.hid p
  clear p
  have H_hr0 := Lib.hid hr0
  clear hr0
  have H_k1 := Lib.hid k1
  clear k1
  rw [hm] at hKl HT hE hz htx ⊢
  obtain ⟨m, hmm⟩ : ∃ m, (.mk t k :: r : List Nd) = m := ⟨_, rfl⟩
  rw [hmm] at hKl HT hE hz htx ⊢
  have hKm := hKl
  clear hKl hm
  have hm8 : szL m ≤ 100000000 := by omega
  have hml := szL_ge m
  obtain ⟨R, hR⟩ : ∃ R, (if anyK m = true then noneA else refS m) = R := ⟨_, rfl⟩
  rw [hR]
  clear hts hz hl
  go_enter Tryd.func12, Tryd.ntmps12
  go_wp2_with (go_at_call 49; (with_reducible refine HT.out.mono ?_); rintro e w1 ⟨⟨v1, rfl, hv1⟩, rfl⟩)
  obtain ⟨N, hN⟩ : ∃ N, m.length = N := ⟨_, rfl⟩
  obtain ⟨a1, c1, rfl, hc1⟩ := hv1.shape
  rw [hN] at hc1
  have hv1' := hv1
  rw [hN] at hv1' ⊢
  have hN8 : N ≤ 100000000 := by omega
  clear HT
  go_loop [5] (fun iv => ∃ i : Nat, iv = .int .i64 i ∧ i ≤ N ∧ ∀ j, (hj : j < m.length) → j < i → (m[j]).kids.length = 0) (fun iv => N - (intOf iv).toNat)
  case atStart => exact ⟨0, rfl, Nat.zero_le _, fun j hj h => absurd h (Nat.not_lt_zero _)⟩
  case round =>
    obtain ⟨i, rfl, hi, hall⟩ := hrel
    have HALL := Lib.hid hall
    clear hall
    by_cases hlt : i < N
    · have hltI : (i : Int) < (N : Int) := by omega
      obtain ⟨b, off, c, u, hv, hlc, _, hbl, hat, hk⟩ := hv1.at i (by omega)
      injection hv with e1 e2 e3
      subst e1
      obtain ⟨ka, kc, rfl, _⟩ := hk.shape
      have q6 := hat.c6
      have hi0 : (0 : Int) ≤ (i : Int) := by omega
      obtain ⟨K, hK⟩ : ∃ K, (m[i]'(by omega)).kids.length = K := ⟨_, rfl⟩
      rw [hK] at q6
      clear hat hk
      by_cases hk0 : 0 < K
      · exact absurd (anyK_yes (m := m) (j := i) (by omega) (by omega)) (by rw [hKm]; decide)
      · have hkI : ¬ (0 : Int) < (K : Int) := by omega
        have HX := Lib.hid (show ∀ j, (hj : j < m.length) → j < i + 1 → (m[j]).kids.length = 0 from fun j hj h => by
          by_cases e : j = i
          · subst e; omega
          · exact HALL.out j hj (by omega))
        go_wp2
        go_round
        case rel => exact ⟨i + 1, by go_num, by omega, HX.out⟩
        case measure => simp [intOf]; omega
    · have hltI : ¬ (i : Int) < (N : Int) := by omega
      have HR := Lib.hid (show refS m = R by rw [← hR, if_neg (by rw [hKm]; decide)])
      clear hR HALL hKm
      subst hmm
      obtain ⟨b, off, c, u, hv, hlc, _, hbl, hat, hk⟩ := hv1.at 0 (by simp)
      injection hv with e1 e2 e3
      subst e1
      subst e3
      have q0 := hat.c0
      have q1 := hat.c1
      have q2 := hat.c2
      have q3 := hat.c3
      have q4 := hat.c4
      have q5 := hat.c5
      simp only [List.getElem_cons_zero, Nd.tok, Nat.zero_mul, Nat.add_zero] at q0 q1 q2 q3 q4 q5
      have htz5 : t.text.size ≤ 500000000 := by have := htx (.mk t k) (by simp); simpa only [Nd.tok] using this
      have htz : t.text.size ≤ 1000000000 := by omega
      have hN1 : N = r.length + 1 := by rw [← hN]; rfl
      have hN0 : ¬ (N : Int) = 0 := by omega
      have hN0' : ((N : Int) == 0) = false := by simpa using hN0
      have hNp : (0 : Int) < (N : Int) := by omega
      clear hat hk
      have hE2 := hE.tail
      have hr1 : RdN w P (.slice (some ⟨b, off + 1 * 7, none⟩) (N - 1) (c1 - 1)) ((.mk t k :: r : List Nd).drop 1) := hv1'.drop 1 (by simp)
      have hr1 : RdN w P (.slice (some ⟨b, off + 7, none⟩) r.length (c1 - 1)) r := by
        have e1 : (.mk t k :: r : List Nd).drop 1 = r := rfl
        have e2 : N - 1 = r.length := by omega
        rw [e1, e2, Nat.one_mul] at hr1
        exact hr1
      go_wp2_with fail
      refine (reflower_any t.text _ htz).mono ?_
      rintro e w2 ⟨rfl, hb2⟩

      have hB2 := below_seq (below_al w (.cells #[.int .i64 t.kind, .string t.text, .int .i64 t.int, .bool t.whole, .bool t.sign, .bool t.id] 77)) hb2
      have hblk : w2.heap[w.heap.size]? = some (.cells #[.int .i64 t.kind, .string t.text, .int .i64 t.int, .bool t.whole, .bool t.sign, .bool t.id] 77 (0, 0)) := by
        rw [hb2.block w.heap.size (by simp)]
        exact heap_alloc_self _ _
      have hr2 := hr1.under hB2 (Nat.le_refl _)
      have hv2 := hv1.under hB2 (Nat.le_refl _)
      obtain ⟨f0, f1, f2, f3, _⟩ := TokB.cells (b := w.heap.size) (t := t) (w := w2) hblk
      clear hb2 q0 q1 q2 q3 q4 q5 hblk
      go_upto_region 12 with fail
      go_cut [9] (fun rv wx => RdN w2 P rv r ∧ w2 = wx)
      case first =>
        by_cases hcc : c1 = 1
        · subst hcc
          have hr0 : r = [] := List.eq_nil_of_length_eq_zero (by omega)
          subst hr0
          go_wp2
          go_meet
          case rel => exact ⟨.nil _ _, rfl⟩
        · have hcc' : ¬ 1 = c1 := fun e => hcc e.symm
          go_wp2
          go_meet
          case rel => exact ⟨hr2, rfl⟩
      case rest =>
      clear hr2 hr1
      obtain ⟨hr2, rfl⟩ := hcut
      obtain ⟨ra, rc, rfl, _⟩ := hr2.shape
      have kk := H_kk.out
      have p := H_p.out
      have hr0 := H_hr0.out
      have k1 := H_k1.out
      subst hr0
      have b1 : (t.kind == 1) = false := by rw [kk]; rfl
      have b9 : (t.kind == 9) = true := by rw [kk]; rfl
      have b10 : (t.kind == 10) = false := by rw [kk]; rfl
      have b12 : (t.kind == 12) = false := by rw [kk]; rfl
      obtain ⟨t1, k1'⟩ := m1
      have htz1 : t1.text.size ≤ 1000000000 := by have := htx (.mk t1 k1') (by simp); simp only [Nd.tok] at this; omega
      have htz15 : t1.text.size ≤ 500000000 := by have := htx (.mk t1 k1') (by simp); simpa only [Nd.tok] using this
      obtain ⟨A, hA⟩ : ∃ A : Int, 1 = A := ⟨_, rfl⟩
      obtain ⟨U, hUU⟩ : ∃ U, lowS t1.text = U := ⟨_, rfl⟩
      have hUs : U.size ≤ 500000000 := by rw [← hUU, lowS_sz]; exact htz15
      have HX := Lib.hid (show refT A U r2 = R by rw [← HR.out, ← hUU, ← hA, refS_pl kk p k1]; rfl)
      clear HR
      subst hA
      have HUU := Lib.hid hUU
      clear hUU
      simp only [Nd.tok] at k1

      obtain ⟨b7, off7, c7, u7, hq7, hlc7, _, hbl7, hat7, hk7⟩ := hv2.at 1 (by simp)
      simp only [Value.slice.injEq, Option.some.injEq, Addr.mk.injEq] at hq7
      obtain ⟨⟨rfl, rfl, _⟩, _, rfl⟩ := hq7
      have q70 := hat7.c0
      have q71 := hat7.c1
      simp only [List.getElem_cons_succ, List.getElem_cons_zero, Nd.tok, Nat.one_mul] at q70 q71
      rw [k1] at q70
      clear hat7 hk7
      have hr3 : RdN w2 P (.slice (some ⟨b, off + 2 * 7, none⟩) (N - 2) (c1 - 2)) ((.mk t k :: .mk t1 k1' :: r2 : List Nd).drop 2) := (hv1'.under hB2 (Nat.le_refl _)).drop 2 (by simp)
      have hr3 : RdN w2 P (.slice (some ⟨b, off + 14, none⟩) r2.length (c1 - 2)) r2 := by
        have e1 : (.mk t k :: .mk t1 k1' :: r2 : List Nd).drop 2 = r2 := rfl
        have e2 : N - 2 = r2.length := by rw [hN1]; rfl
        rw [e1, e2] at hr3
        exact hr3
      rw [List.length_cons] at hN1
      have hN2' : ¬ ((r2.length : Int) + 1 + 1 = 1) := by omega
      have hN2 : (((r2.length : Int) + 1 + 1) == 1) = false := by simpa using hN2'
      have hN3 : (1 : Int) < (r2.length : Int) + 1 + 1 := by omega
      have hc2 : r2.length + 2 ≤ c1 := by omega
      have HR3 := Lib.hid hr3
      have HB2 := Lib.hid hB2
      clear hr3
      go_upto_block 2 with fail
      go_cut [7, 8, 9] (fun uv av rv wx => uv = .string U ∧ av = .int .i64 1 ∧ RdN wx P rv r2 ∧ Below w.heap.size w wx)
      case first =>
        by_cases hcc : c1 = 2
        · subst hcc
          have hr0 : r2 = [] := List.eq_nil_of_length_eq_zero (by omega)
          subst hr0
          go_wp2_with fail
          refine (reflower_any t1.text _ htz1).mono ?_
          rintro e w3 ⟨rfl, hb3⟩
          rw [HUU.out]
          go_wp2
          go_meet
          case rel => exact ⟨rfl, rfl, .nil _ _, below_seq HB2.out hb3⟩
        · have hcc' : ¬ 2 = c1 := fun e => hcc e.symm
          go_wp2_with fail
          refine (reflower_any t1.text _ htz1).mono ?_
          rintro e w3 ⟨rfl, hb3⟩
          rw [HUU.out]
          go_wp2
          go_meet
          case rel => exact ⟨rfl, rfl, HR3.out.under hb3 (Nat.le_refl _), below_seq HB2.out hb3⟩
      case rest =>
      clear hr2 f0 f1 f2 f3 q70 q71
      obtain ⟨rfl, rfl, hrs, hB3⟩ := hcut
      have HBW := Lib.hid hB3
      have hrz : szL r2 ≤ 100000000 := by rw [szL, szL] at hm8; omega
      have hE3 := hE2.tail
      obtain ⟨rs, hrsE⟩ : ∃ rs, rs = r2 := ⟨_, rfl⟩
      subst hrsE
      have HK := Lib.hid kk
      clear kk k1 p b1 b9 b10 b12 hN0 hN0' hNp hN1 hv1 hv1' hv2 htx hE hml hN hlc hr1 HUU HB2 HR3 hN2' hN2 hN3 hE2
      have hE2 := hE3
      refine (show ∀ a w', Code.wp Tryd.prog restCode (bodyPost Tryd.prog Tryd.f12 (AnbPost w R)) a w' → _ by assumption) _ _ ?_
      exact anbt hrs hrz hUs HX.out HBW.out
set_option maxRecDepth 100000 in
set_option maxHeartbeats 6400000 in
theorem anb_Q {l : List Nd} {v : Value} {w : World} {P : Nat → Prop} (h : RdN w P v l) (hl : szL l ≤ 100000000) (hts : ∀ n ∈ l, n.tok.text.size ≤ 500000000) {t : Tok} {k r : List Nd} (hm : trimS l = .mk t k :: r) (hKl : anyK (trimS l) = false) {m1 : Nd} {r2 : List Nd} (kk : t.kind = 9) (p : (t.text.toList == [43]) = true) (hr0 : r = m1 :: r2) (k1 : (m1.tok.kind == 1) = false) :
    Calls Tryd.prog 12 #[v] w (AnbPost w (parseS l)) := by
  have HT := Lib.hid (reftrim_any h hl)
  have hE := trim_EndOk l
  have hz := trim_szL l
  have htx : ∀ n ∈ trimS l, n.tok.text.size ≤ 500000000 := fun n hn => hts n (trim_mem hn)
  rw [parse_ref]
  clear h
  have H_kk := Lib.hid kk
  clear kk
  have H_p := Lib.hid p
  clear p
  have H_hr0 := Lib.hid hr0
  clear hr0
  have H_k1 := Lib.hid k1
  clear k1
  rw [hm] at hKl HT hE hz htx ⊢
  obtain ⟨m, hmm⟩ : ∃ m, (.mk t k :: r : List Nd) = m := ⟨_, rfl⟩
  rw [hmm] at hKl HT hE hz htx ⊢
  have hKm := hKl
  clear hKl hm
  have hm8 : szL m ≤ 100000000 := by omega
  have hml := szL_ge m
  obtain ⟨R, hR⟩ : ∃ R, (if anyK m = true then noneA else refS m) = R := ⟨_, rfl⟩
  rw [hR]
  clear hts hz hl
  go_enter Tryd.func12, Tryd.ntmps12
  go_wp2_with (go_at_call 49; (with_reducible refine HT.out.mono ?_); rintro e w1 ⟨⟨v1, rfl, hv1⟩, rfl⟩)
  obtain ⟨N, hN⟩ : ∃ N, m.length = N := ⟨_, rfl⟩
  obtain ⟨a1, c1, rfl, hc1⟩ := hv1.shape
  rw [hN] at hc1
  have hv1' := hv1
  rw [hN] at hv1' ⊢
  have hN8 : N ≤ 100000000 := by omega
  clear HT
  go_loop [5] (fun iv => ∃ i : Nat, iv = .int .i64 i ∧ i ≤ N ∧ ∀ j, (hj : j < m.length) → j < i → (m[j]).kids.length = 0) (fun iv => N - (intOf iv).toNat)
  case atStart => exact ⟨0, rfl, Nat.zero_le _, fun j hj h => absurd h (Nat.not_lt_zero _)⟩
  case round =>
    obtain ⟨i, rfl, hi, hall⟩ := hrel
    have HALL := Lib.hid hall
    clear hall
    by_cases hlt : i < N
    · have hltI : (i : Int) < (N : Int) := by omega
      obtain ⟨b, off, c, u, hv, hlc, _, hbl, hat, hk⟩ := hv1.at i (by omega)
      injection hv with e1 e2 e3
      subst e1
      obtain ⟨ka, kc, rfl, _⟩ := hk.shape
      have q6 := hat.c6
      have hi0 : (0 : Int) ≤ (i : Int) := by omega
      obtain ⟨K, hK⟩ : ∃ K, (m[i]'(by omega)).kids.length = K := ⟨_, rfl⟩
      rw [hK] at q6
      clear hat hk
      by_cases hk0 : 0 < K
      · exact absurd (anyK_yes (m := m) (j := i) (by omega) (by omega)) (by rw [hKm]; decide)
      · have hkI : ¬ (0 : Int) < (K : Int) := by omega
        have HX := Lib.hid (show ∀ j, (hj : j < m.length) → j < i + 1 → (m[j]).kids.length = 0 from fun j hj h => by
          by_cases e : j = i
          · subst e; omega
          · exact HALL.out j hj (by omega))
        go_wp2
        go_round
        case rel => exact ⟨i + 1, by go_num, by omega, HX.out⟩
        case measure => simp [intOf]; omega
    · have hltI : ¬ (i : Int) < (N : Int) := by omega
      have HR := Lib.hid (show refS m = R by rw [← hR, if_neg (by rw [hKm]; decide)])
      clear hR HALL hKm
      subst hmm
      obtain ⟨b, off, c, u, hv, hlc, _, hbl, hat, hk⟩ := hv1.at 0 (by simp)
      injection hv with e1 e2 e3
      subst e1
      subst e3
      have q0 := hat.c0
      have q1 := hat.c1
      have q2 := hat.c2
      have q3 := hat.c3
      have q4 := hat.c4
      have q5 := hat.c5
      simp only [List.getElem_cons_zero, Nd.tok, Nat.zero_mul, Nat.add_zero] at q0 q1 q2 q3 q4 q5
      have htz5 : t.text.size ≤ 500000000 := by have := htx (.mk t k) (by simp); simpa only [Nd.tok] using this
      have htz : t.text.size ≤ 1000000000 := by omega
      have hN1 : N = r.length + 1 := by rw [← hN]; rfl
      have hN0 : ¬ (N : Int) = 0 := by omega
      have hN0' : ((N : Int) == 0) = false := by simpa using hN0
      have hNp : (0 : Int) < (N : Int) := by omega
      clear hat hk
      have hE2 := hE.tail
      have hr1 : RdN w P (.slice (some ⟨b, off + 1 * 7, none⟩) (N - 1) (c1 - 1)) ((.mk t k :: r : List Nd).drop 1) := hv1'.drop 1 (by simp)
      have hr1 : RdN w P (.slice (some ⟨b, off + 7, none⟩) r.length (c1 - 1)) r := by
        have e1 : (.mk t k :: r : List Nd).drop 1 = r := rfl
        have e2 : N - 1 = r.length := by omega
        rw [e1, e2, Nat.one_mul] at hr1
        exact hr1
      go_wp2_with fail
      refine (reflower_any t.text _ htz).mono ?_
      rintro e w2 ⟨rfl, hb2⟩

      have hB2 := below_seq (below_al w (.cells #[.int .i64 t.kind, .string t.text, .int .i64 t.int, .bool t.whole, .bool t.sign, .bool t.id] 77)) hb2
      have hblk : w2.heap[w.heap.size]? = some (.cells #[.int .i64 t.kind, .string t.text, .int .i64 t.int, .bool t.whole, .bool t.sign, .bool t.id] 77 (0, 0)) := by
        rw [hb2.block w.heap.size (by simp)]
        exact heap_alloc_self _ _
      have hr2 := hr1.under hB2 (Nat.le_refl _)
      have hv2 := hv1.under hB2 (Nat.le_refl _)
      obtain ⟨f0, f1, f2, f3, _⟩ := TokB.cells (b := w.heap.size) (t := t) (w := w2) hblk
      clear hb2 q0 q1 q2 q3 q4 q5 hblk
      go_upto_region 12 with fail
      go_cut [9] (fun rv wx => RdN w2 P rv r ∧ w2 = wx)
      case first =>
        by_cases hcc : c1 = 1
        · subst hcc
          have hr0 : r = [] := List.eq_nil_of_length_eq_zero (by omega)
          subst hr0
          go_wp2
          go_meet
          case rel => exact ⟨.nil _ _, rfl⟩
        · have hcc' : ¬ 1 = c1 := fun e => hcc e.symm
          go_wp2
          go_meet
          case rel => exact ⟨hr2, rfl⟩
      case rest =>
      clear hr2 hr1
      obtain ⟨hr2, rfl⟩ := hcut
      obtain ⟨ra, rc, rfl, _⟩ := hr2.shape
      have kk := H_kk.out
      have p := H_p.out
      have hr0 := H_hr0.out
      have k1 := H_k1.out
      subst hr0
      have b1 : (t.kind == 1) = false := by rw [kk]; rfl
      have b9 : (t.kind == 9) = true := by rw [kk]; rfl
      have b10 : (t.kind == 10) = false := by rw [kk]; rfl
      have b12 : (t.kind == 12) = false := by rw [kk]; rfl
      obtain ⟨t1, k1'⟩ := m1
      have HX := Lib.hid (show noneA = R by rw [← HR.out, refS_pn kk p k1])
      clear HR
      simp only [Nd.tok] at k1

      obtain ⟨b7, off7, c7, u7, hq7, hlc7, _, hbl7, hat7, hk7⟩ := hv2.at 1 (by simp)
      simp only [Value.slice.injEq, Option.some.injEq, Addr.mk.injEq] at hq7
      obtain ⟨⟨rfl, rfl, _⟩, _, rfl⟩ := hq7
      have q70 := hat7.c0
      simp only [List.getElem_cons_succ, List.getElem_cons_zero, Nd.tok, Nat.one_mul] at q70
      clear hat7 hk7
      rw [List.length_cons] at hN1
      have hN2' : ¬ ((r2.length : Int) + 1 + 1 = 1) := by omega
      have hN2 : (((r2.length : Int) + 1 + 1) == 1) = false := by simpa using hN2'
      have hN3 : (1 : Int) < (r2.length : Int) + 1 + 1 := by omega
      go_wp2
      go_ret3
      exact ⟨by rw [← HX.out]; rfl, hB2⟩
theorem parse_no {l : List Nd} (h : (parseS l).2.2 = false) : parseS l = (0, 0, false) := by
  unfold parseS at h ⊢
  split
  · rfl
  · rename_i h1
    rw [if_neg h1] at h
    split
    · rename_i h2; rw [if_pos h2, h2] at h; cases h
    · rename_i h2
      rw [if_neg h2] at h
      split
      · rename_i h3; rw [if_pos h3, h3] at h; cases h
      · rfl
theorem refanb_any {l : List Nd} {v : Value} {w : World} {P : Nat → Prop} (h : RdN w P v l) (hl : szL l ≤ 100000000) (hts : ∀ n ∈ l, n.tok.text.size ≤ 500000000) :
    Calls Tryd.prog 12 #[v] w (AnbPost w (parseS l)) := by
  by_cases hK : anyK (trimS l) = true
  · exact anb_kids h hl hts hK
  have hK : anyK (trimS l) = false := by simpa using hK
  cases hm : trimS l with
  | nil => exact anb_nil h hl hts hm
  | cons n r =>
    obtain ⟨t, k⟩ := n
    have c0 : (t.kind = 1 ∨ t.kind = 9 ∨ t.kind = 10 ∨ t.kind = 12) ∨ ((t.kind == 1) = false ∧ (t.kind == 9) = false ∧ (t.kind == 10) = false ∧ (t.kind == 12) = false) := by
      by_cases h1 : t.kind = 1
      · exact .inl (.inl h1)
      by_cases h9 : t.kind = 9
      · exact .inl (.inr (.inl h9))
      by_cases h10 : t.kind = 10
      · exact .inl (.inr (.inr (.inl h10)))
      by_cases h12 : t.kind = 12
      · exact .inl (.inr (.inr (.inr h12)))
      exact .inr ⟨by simpa using h1, by simpa using h9, by simpa using h10, by simpa using h12⟩
    rcases c0 with (h1 | h9 | h10 | h12) | ⟨b1, b9, b10, b12⟩
    · by_cases ho : (r.isEmpty && ((lowS t.text).toList == [111, 100, 100])) = true
      · rw [Bool.and_eq_true] at ho
        exact anb_odd h hl hts hm hK h1 (by simpa using ho.1) ho.2
      have ho : (r.isEmpty && ((lowS t.text).toList == [111, 100, 100])) = false := by simpa using ho
      by_cases he : (r.isEmpty && ((lowS t.text).toList == [101, 118, 101, 110])) = true
      · rw [Bool.and_eq_true] at he
        exact anb_even h hl hts hm hK h1 (by simpa using he.1) (by rw [he.1, Bool.true_and] at ho; exact ho) he.2
      have he : (r.isEmpty && ((lowS t.text).toList == [101, 118, 101, 110])) = false := by simpa using he
      by_cases h45 : (lowS t.text).data.toList.head? = some 45
      · exact anb_M h hl hts hm hK h1 ho he h45
      · exact anb_I h hl hts hm hK h1 ho he h45
    · by_cases hp : (t.text.toList == [43]) = true
      · cases r with
        | nil => exact anb_n9e h hl hts hm hK h9 rfl hp
        | cons m1 r2 =>
          by_cases hk1 : m1.tok.kind = 1
          · exact anb_P h hl hts hm hK h9 hp rfl hk1
          · exact anb_Q h hl hts hm hK h9 hp rfl (by simpa using hk1)
      · exact anb_n9 h hl hts hm hK h9 (by simpa using hp)
    · cases r with
      | nil =>
        cases hw : t.whole with
        | true => exact anb_num h hl hts hm hK h10 rfl hw
        | false => exact anb_n10 h hl hts hm hK h10 hw
      | cons m1 r2 => exact anb_n10b h hl hts hm hK h10 (by simp)
    · cases hw : t.whole with
      | true => exact anb_D h hl hts hm hK h12 hw
      | false => exact anb_n12 h hl hts hm hK h12 hw
    · exact anb_nx h hl hts hm hK b1 b9 b10 b12
set_option maxRecDepth 100000 in
set_option maxHeartbeats 3200000 in
theorem AnbTells_any (w : World) (ht : Tab w) (s : ByteArray) (ws : s.size ≤ maxLen) (a : Int) (wa : (Lit.int .i64 a).wf = true) (b : Int) (wb : (Lit.int .i64 b).wf = true) (n : Int) (wn : (Lit.int .i64 n).wf = true) :
    Calls Tryd.prog 3 #[.string s, .int .i64 a, .int .i64 b, .int .i64 n] w fun e w' => e = .returned (.bool true) ∧ Below w.heap.size w w' := by
  have ha := i64_bounds wa
  have hb := i64_bounds wb
  have hn := i64_bounds wn
  unfold maxLen at ws
  clear wa wb wn
  have HT := Lib.hid ht
  clear ht
  by_cases hs : 200 < s.size
  · have hsI : (200 : Int) < (s.size : Int) := by omega
    go_enter Tryd.func3, Tryd.ntmps3
    go_wp2_with fail
    refine (awake5_any _ HT.out).mono ?_
    rintro e w1 ⟨rfl, hb1⟩
    go_wp2
    go_ret
    exact ⟨rfl, hb1⟩
  have hs2 : s.size ≤ 100000000 := by omega
  have hz := nds_sz5 s hs2
  have ht5 := nds_text5 s hs2
  have HN := fun w => Lib.hid (nodes5_any s w (by omega))
  generalize ndsS (toks (readS s)) = l at *
  have hsI : ¬ (200 : Int) < (s.size : Int) := by omega
  obtain ⟨R1, R2, R3, hR⟩ : ∃ x y z, parseS l = (x, y, z) := ⟨_, _, _, rfl⟩
  have hno := parse_no (l := l)
  rw [hR] at hno
  have HP := fun {v : Value} {w : World} {P : Nat → Prop} (h : RdN w P v l) => Lib.hid (parse_any h hz ht5)
  have HQ := fun {v : Value} {w : World} {P : Nat → Prop} (h : RdN w P v l) => Lib.hid (refanb_any h hz ht5)
  have HR := Lib.hid hR
  clear hR ht5
  cases R3 with
  | true =>
    clear hno
    go_enter Tryd.func3, Tryd.ntmps3
    go_wp2_with fail
    refine (HN _).out.mono ?_
    rintro e w1 ⟨⟨v1, rfl, hv1⟩, ha1⟩
    have HV1 := Lib.hid hv1
    clear hv1
    go_wp2_with fail
    refine (HP HV1.out).out.mono ?_
    rw [HR.out]
    rintro e w2 ⟨rfl, hb2⟩
    have HV2 := Lib.hid (HV1.out.under hb2 (Nat.le_refl _))
    go_wp2_with fail
    refine (HQ HV2.out).out.mono ?_
    rw [HR.out]
    rintro e w3 ⟨rfl, hb3⟩
    have HB3 := Lib.hid (below_seq (below_seq ha1 hb2) hb3)
    have HT3 := Lib.hid (HT.out.below HB3.out)
    go_wp2_with fail
    refine (match_any a b n _ ha hb hn).mono ?_
    rintro e w4 ⟨rfl, rfl⟩
    go_wp2_with fail
    refine (refmatch_any a b n _ ha hb hn).mono ?_
    rintro e w4 ⟨rfl, rfl⟩
    go_wp2_with fail
    refine (text_any a b _ ha hb HT3.out).mono ?_
    rintro e w4 ⟨rfl, hb4⟩
    go_wp2_with fail
    refine (reftext_any a b _ ha hb).mono ?_
    rintro e w5 ⟨rfl, hb5⟩
    have HB5 := Lib.hid (below_seq (below_seq HB3.out hb4) hb5)
    have HT5 := Lib.hid (HT.out.below HB5.out)
    go_wp2_with fail
    refine (awake5_any _ HT5.out).mono ?_
    rintro e w6 ⟨rfl, hb6⟩
    go_wp2
    go_ret
    exact ⟨rfl, below_seq HB5.out hb6⟩
  | false =>
    have h0 := hno rfl
    injection h0 with h1 h2
    injection h2 with h2 _
    subst h1
    subst h2
    clear hno
    go_enter Tryd.func3, Tryd.ntmps3
    go_wp2_with fail
    refine (HN _).out.mono ?_
    rintro e w1 ⟨⟨v1, rfl, hv1⟩, ha1⟩
    have HV1 := Lib.hid hv1
    clear hv1
    go_wp2_with fail
    refine (HP HV1.out).out.mono ?_
    rw [HR.out]
    rintro e w2 ⟨rfl, hb2⟩
    have HV2 := Lib.hid (HV1.out.under hb2 (Nat.le_refl _))
    go_wp2_with fail
    refine (HQ HV2.out).out.mono ?_
    rw [HR.out]
    rintro e w3 ⟨rfl, hb3⟩
    have HB3 := Lib.hid (below_seq (below_seq ha1 hb2) hb3)
    have HT3 := Lib.hid (HT.out.below HB3.out)
    go_wp2_with fail
    refine (match_any a b n _ ha hb hn).mono ?_
    rintro e w4 ⟨rfl, rfl⟩
    go_wp2_with fail
    refine (refmatch_any a b n _ ha hb hn).mono ?_
    rintro e w4 ⟨rfl, rfl⟩
    go_wp2_with fail
    refine (text_any a b _ ha hb HT3.out).mono ?_
    rintro e w4 ⟨rfl, hb4⟩
    go_wp2_with fail
    refine (reftext_any a b _ ha hb).mono ?_
    rintro e w5 ⟨rfl, hb5⟩
    have HB5 := Lib.hid (below_seq (below_seq HB3.out hb4) hb5)
    have HT5 := Lib.hid (HT.out.below HB5.out)
    go_wp2_with fail
    refine (awake5_any _ HT5.out).mono ?_
    rintro e w6 ⟨rfl, hb6⟩
    go_wp2
    go_ret
    exact ⟨rfl, below_seq HB5.out hb6⟩
end Go.Proofs.YtjjkifhegfpceaaDoor
