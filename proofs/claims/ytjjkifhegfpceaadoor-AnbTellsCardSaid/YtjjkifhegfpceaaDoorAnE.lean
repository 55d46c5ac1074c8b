
import Derived.Test.YtjjkifhegfpceaaDoorAnD
namespace Go.Proofs.YtjjkifhegfpceaaDoor
open Go.RowKit Go.Shelf
theorem headS_cons (n : Nd) (r : List Nd) : headS (n :: r) = if isD n ⟨#[43]⟩ = true then (match r with
      | [] => (0, ⟨#[]⟩, [], false)
      | m :: r2 => headT m.tok r2 true) else headT n.tok r false := rfl
set_option maxRecDepth 100000 in
set_option maxHeartbeats 1600000 in
theorem head_nil {w : World} {P : Nat → Prop} (a : Option Addr) (c : Nat) : Calls Tryd.prog 74 #[.slice a 0 c] w (HeadPost w P (headS [])) := by
  cases a
  all_goals
    go_enter Tryd.func74, Tryd.ntmps74
    go_wp2
    refine bodyPost_ret (v := .tuple #[.int .i64 0, .string ⟨#[]⟩, .slice none 0 0, .bool false]) (by simp [results, Tryd.results74, go_sem]) rfl ⟨⟨_, rfl, .nil _ _⟩, Below.refl _ _⟩
set_option maxRecDepth 100000 in
set_option maxHeartbeats 1600000 in
theorem head_one {w : World} {P : Nat → Prop} {b off c : Nat} {t : Tok} {k : List Nd} {u : Value} (hat : NAt w b off t u) (hku : RdN w P u k) (hp : isD (.mk t k) ⟨#[43]⟩ = true) :
    Calls Tryd.prog 74 #[.slice (some ⟨b, off, none⟩) 1 (c + 1)] w (HeadPost w P (0, ⟨#[]⟩, [], false)) := by
  obtain ⟨ua, uc, hus, _⟩ := hku.shape
  subst hus
  have HP := Lib.hid hp
  clear hp hku
  obtain ⟨c0, c1, c2, c3, c4, c5, c6⟩ := hat
  by_cases hc : c = 0
  · subst hc
    go_enter Tryd.func74, Tryd.ntmps74
    go_wp2_with (go_at_call 97; refine (delim_any t ua k.length uc ⟨#[43]⟩ _ k).mono ?_; rintro e w1 ⟨rfl, hb1⟩; rw [HP.out])
    refine bodyPost_ret (v := .tuple #[.int .i64 0, .string ⟨#[]⟩, .slice none 0 0, .bool false]) (by simp [results, Tryd.results74, go_sem]) rfl ⟨⟨_, rfl, .nil _ _⟩, hb1⟩
  · go_enter Tryd.func74, Tryd.ntmps74
    go_wp2_with (go_at_call 97; refine (delim_any t ua k.length uc ⟨#[43]⟩ _ k).mono ?_; rintro e w1 ⟨rfl, hb1⟩; rw [HP.out])
    refine bodyPost_ret (v := .tuple #[.int .i64 0, .string ⟨#[]⟩, .slice none 0 0, .bool false]) (by simp [results, Tryd.results74, go_sem]) rfl ⟨⟨_, rfl, .nil _ _⟩, hb1⟩
theorem head_any {l : List Nd} {v : Value} {w : World} {P : Nat → Prop} (h : RdN w P v l) (hl : l.length ≤ 100000000) (hts : ∀ n ∈ l, n.tok.text.size ≤ 500000000) :
    Calls Tryd.prog 74 #[v] w (HeadPost w P (headS l)) := by
  cases h with
  | nil a c => exact head_nil a c
  | cons b off n c t u k r hP hbl hat hku htl =>
    rw [List.length_cons] at hl
    by_cases hp : isD (.mk t k) ⟨#[43]⟩ = true
    · cases htl with
      | nil _ _ =>
        have e : headS [.mk t k] = (0, ⟨#[]⟩, [], false) := by rw [headS_cons, if_pos hp]
        rw [e]
        exact head_one hat hku hp
      | cons _ _ n2 c2 t2 u2 k2 r2 hP2 hbl2 hat2 hku2 htl2 =>
        obtain ⟨a', c', he, hnc2⟩ := htl2.shape
        injection he with e1 e2 e3
        subst e1 e2 e3
        rw [List.length_cons] at hl
        have e : headS (.mk t k :: .mk t2 k2 :: r2) = headT t2 r2 true := by rw [headS_cons, if_pos hp]; rfl
        have htl3 : RdN w P (.slice (some ⟨b, off + 14, none⟩) r2.length c2) r2 := by rw [show off + 14 = off + 7 + 7 by omega]; exact htl2
        have hz := hts (.mk t2 k2) (by simp)
        rw [e]
        by_cases hc : c2 = 0
        · exact head_D0 hat hku hat2 hku2 hbl htl3 hp (by omega) hnc2 hz hc
        · exact head_D1 hat hku hat2 hku2 hbl htl3 hp (by omega) hnc2 hz hc
    · have hp : isD (.mk t k) ⟨#[43]⟩ = false := by simpa using hp
      obtain ⟨a', c', he, hnc⟩ := htl.shape
      injection he with e1 e2 e3
      subst e1 e2 e3
      have e : headS (.mk t k :: r) = headT t r false := by rw [headS_cons, if_neg (by rw [hp]; decide)]; rfl
      have hz := hts (.mk t k) (by simp)
      rw [e]
      by_cases hc : c = 0
      · exact head_B0 hat hku hbl htl hp (by omega) hnc hz hc
      · exact head_B1 hat hku hbl htl hp (by omega) hnc hz hc
theorem headT_bd (t : Tok) (r : List Nd) (p : Bool) : ((headT t r p).2.2.1 = r ∨ (headT t r p).2.2.1 = []) ∧ (headT t r p).2.1.size ≤ t.text.size := by
  have hz := lowS_sz t.text
  unfold headT
  split
  · exact ⟨.inl rfl, by show (lowS t.text).size ≤ _; omega⟩
  split
  · exact ⟨.inr rfl, Nat.zero_le _⟩
  split
  · exact ⟨.inl rfl, by show ((lowS t.text).extract 1 _).size ≤ _; rw [ByteArray.size_extract]; omega⟩
  split
  · exact ⟨.inl rfl, by show (lowS t.text).size ≤ _; omega⟩
  · exact ⟨.inr rfl, Nat.zero_le _⟩
theorem headS_bd (l : List Nd) (hts : ∀ n ∈ l, n.tok.text.size ≤ 500000000) : szL (headS l).2.2.1 ≤ szL l ∧ (headS l).2.1.size ≤ 500000000 := by
  cases l with
  | nil => exact ⟨Nat.le_refl _, Nat.zero_le _⟩
  | cons n r =>
    have hn := hts n (by simp)
    by_cases hp : isD n ⟨#[43]⟩ = true
    · cases r with
      | nil =>
        have e : headS [n] = (0, ⟨#[]⟩, [], false) := by rw [headS_cons, if_pos hp]
        rw [e]; exact ⟨Nat.zero_le _, Nat.zero_le _⟩
      | cons m r2 =>
        have hm := hts m (by simp)
        have e : headS (n :: m :: r2) = headT m.tok r2 true := by rw [headS_cons, if_pos hp]
        have hb := headT_bd m.tok r2 true
        rw [e]
        refine ⟨?_, by omega⟩
        rcases hb.1 with h | h
        · rw [h, szL, szL]; omega
        · rw [h, szL]; omega
    · have e : headS (n :: r) = headT n.tok r false := by rw [headS_cons, if_neg hp]
      have hb := headT_bd n.tok r false
      rw [e]
      refine ⟨?_, by omega⟩
      rcases hb.1 with h | h
      · rw [h, szL]; omega
      · rw [h, szL]; omega
def stepsS (l : List Nd) : Int × Int × Bool :=
  if (headS l).2.2.2 = false then (0, 0, false) else if (offS (headS l).2.1 (headS l).2.2.1).2 = false then (0, 0, false) else ((headS l).1, (offS (headS l).2.1 (headS l).2.2.1).1, true)
set_option maxRecDepth 100000 in
set_option maxHeartbeats 1600000 in
theorem steps_any {l : List Nd} {v : Value} {w : World} {P : Nat → Prop} (h : RdN w P v l) (hl : szL l ≤ 100000000) (hts : ∀ n ∈ l, n.tok.text.size ≤ 500000000) :
    Calls Tryd.prog 48 #[v] w fun e w' => e = .returned (.tuple #[.int .i64 (stepsS l).1, .int .i64 (stepsS l).2.1, .bool (stepsS l).2.2]) ∧ Below w.heap.size w w' := by
  have hll := szL_ge l
  have hbd := headS_bd l hts
  have HH := Lib.hid (head_any h (by omega) hts)
  unfold stepsS
  obtain ⟨va, vc, hvs, _⟩ := h.shape
  subst hvs
  clear h
  generalize headS l = H at *
  obtain ⟨ha, hu, hr, ho⟩ := H
  simp only at hbd ⊢
  obtain ⟨hb1, hb2⟩ := hbd
  have hrs : szL hr ≤ 100000000 := by omega
  cases ho with
  | false =>
    go_enter Tryd.func48, Tryd.ntmps48
    go_wp2_with (go_at_call 74; refine HH.out.mono ?_; rintro e w1 ⟨⟨v1, rfl, hv1⟩, hb1⟩)
    go_ret3
    exact ⟨rfl, hb1⟩
  | true =>
    obtain ⟨x, y, hX⟩ : ∃ x y, offS hu hr = (x, y) := ⟨_, _, rfl⟩
    rw [hX]
    have HX := Lib.hid hX
    clear hX
    cases y with
    | false =>
      go_enter Tryd.func48, Tryd.ntmps48
      go_wp2_with (first | (go_at_call 74; refine HH.out.mono ?_; rintro e w1 ⟨⟨v1, rfl, hv1⟩, hb1⟩; have HV1 := Lib.hid hv1; clear hv1) | (go_at_call 75; refine (offset_any hu HV1.out hrs hb2).mono ?_; rintro e w2 ⟨rfl, hb2'⟩; rw [HX.out]))
      go_ret3
      exact ⟨rfl, below_seq hb1 hb2'⟩
    | true =>
      go_enter Tryd.func48, Tryd.ntmps48
      go_wp2_with (first | (go_at_call 74; refine HH.out.mono ?_; rintro e w1 ⟨⟨v1, rfl, hv1⟩, hb1⟩; have HV1 := Lib.hid hv1; clear hv1) | (go_at_call 75; refine (offset_any hu HV1.out hrs hb2).mono ?_; rintro e w2 ⟨rfl, hb2'⟩; rw [HX.out]))
      go_ret3
      exact ⟨rfl, below_seq hb1 hb2'⟩
/-- What Parse answers: two numbers, and whether it is one. -/
def parseS (l : List Nd) : Int × Int × Bool :=
  if anyK (trimS l) = true then (0, 0, false) else if (aloneA (trimS l)).2.2 = true then aloneA (trimS l) else if (stepsS (trimS l)).2.2 = true then stepsS (trimS l) else (0, 0, false)
theorem trim_szL (l : List Nd) : szL (trimS l) ≤ szL l := by
  obtain ⟨k, _, hk⟩ := trA_drop l
  have h1 := szL_le_take (trN (trA l)) (trA l)
  have h2 := szL_sub k l
  rw [← hk] at h2
  unfold trimS trZ
  omega
theorem trim_mem {l : List Nd} {n : Nd} (h : n ∈ trimS l) : n ∈ l := by
  obtain ⟨k, _, hk⟩ := trA_drop l
  unfold trimS trZ at h
  have := List.mem_of_mem_take h
  rw [hk] at this
  exact List.mem_of_mem_drop this
set_option maxRecDepth 100000 in
set_option maxHeartbeats 1600000 in
theorem parse_any {l : List Nd} {v : Value} {w : World} {P : Nat → Prop} (h : RdN w P v l) (hl : szL l ≤ 100000000) (hts : ∀ n ∈ l, n.tok.text.size ≤ 500000000) :
    Calls Tryd.prog 11 #[v] w fun e w' => e = .returned (.tuple #[.int .i64 (parseS l).1, .int .i64 (parseS l).2.1, .int .i64 (if (parseS l).2.2 = true then 0 else 2)]) ∧ Below w.heap.size w w' := by
  have hz := trim_szL l
  have hts2 : ∀ n ∈ trimS l, n.tok.text.size ≤ 500000000 := fun n hn => hts n (trim_mem hn)
  have HT := Lib.hid (trim_any h hl)
  obtain ⟨va, vc, hvs, _⟩ := h.shape
  subst hvs
  unfold parseS
  clear h
  generalize trimS l = m at *
  have hml := szL_ge m
  have hm8 : szL m ≤ 100000000 := by omega
  have hts3 : ∀ n ∈ m, n.tok.text.size ≤ 1000000000 := fun n hn => by have := hts2 n hn; omega
  have HTS2 := Lib.hid hts2
  have HTS3 := Lib.hid hts3
  clear hts2 hts3 hts hz
  cases hk : anyK m with
  | true =>
    have HK := Lib.hid hk
    clear hk
    go_enter Tryd.func11, Tryd.ntmps11
    go_wp2_with (first | (go_at_call 44; refine HT.out.mono ?_; rintro e w1 ⟨⟨v1, rfl, hv1⟩, hb1⟩; obtain ⟨ma, mc, hms, _⟩ := hv1.shape; subst hms; have HV1 := Lib.hid hv1; clear hv1) | (go_at_call 45; refine (contK_any HV1.out hm8).mono ?_; rintro e w2 ⟨rfl, hb2⟩; rw [HK.out]))
    go_ret3
    exact ⟨rfl, below_seq hb1 hb2⟩
  | false =>
    have HK := Lib.hid hk
    clear hk
    simp only [Bool.false_eq_true, if_false]
    obtain ⟨x, y, z, hA⟩ : ∃ x y z, aloneA m = (x, y, z) := ⟨_, _, _, rfl⟩
    have HA := Lib.hid hA
    rw [hA]
    clear hA
    cases z with
    | true =>
      go_enter Tryd.func11, Tryd.ntmps11
      go_wp2_with (first | (go_at_call 44; refine HT.out.mono ?_; rintro e w1 ⟨⟨v1, rfl, hv1⟩, hb1⟩; obtain ⟨ma, mc, hms, _⟩ := hv1.shape; subst hms; have HV1 := Lib.hid hv1; clear hv1) | (go_at_call 45; refine (contK_any HV1.out hm8).mono ?_; rintro e w2 ⟨rfl, hb2⟩; rw [HK.out]) | (go_at_call 47; refine (alone_any (HV1.out.under hb2 (Nat.le_refl _)) (by omega) HTS3.out).mono ?_; rintro e w3 ⟨rfl, hb3⟩; rw [HA.out]))
      go_ret3
      exact ⟨rfl, below_seq (below_seq hb1 hb2) hb3⟩
    | false =>
      obtain ⟨x2, y2, z2, hS⟩ : ∃ x y z, stepsS m = (x, y, z) := ⟨_, _, _, rfl⟩
      have HS := Lib.hid hS
      simp only [Bool.false_eq_true, if_false]
      rw [hS]
      clear hS
      cases z2
      all_goals
        go_enter Tryd.func11, Tryd.ntmps11
        go_wp2_with (first | (go_at_call 44; refine HT.out.mono ?_; rintro e w1 ⟨⟨v1, rfl, hv1⟩, hb1⟩; obtain ⟨ma, mc, hms, _⟩ := hv1.shape; subst hms; have HV1 := Lib.hid hv1; clear hv1) | (go_at_call 45; refine (contK_any HV1.out hm8).mono ?_; rintro e w2 ⟨rfl, hb2⟩; rw [HK.out]) | (go_at_call 47; refine (alone_any (HV1.out.under hb2 (Nat.le_refl _)) (by omega) HTS3.out).mono ?_; rintro e w3 ⟨rfl, hb3⟩; rw [HA.out]) | (go_at_call 48; refine (steps_any (HV1.out.under (below_seq hb2 hb3) (Nat.le_refl _)) hm8 HTS2.out).mono ?_; rintro e w4 ⟨rfl, hb4⟩; rw [HS.out]))
        go_ret3
        exact ⟨rfl, below_seq (below_seq (below_seq hb1 hb2) hb3) hb4⟩
end Go.Proofs.YtjjkifhegfpceaaDoor
