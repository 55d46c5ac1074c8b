
import Derived.Test.YtfggpenfdfklkaaGreatRuW
import Derived.Test.YtfggpenfdfklkaaGreatTjE
namespace Go.Proofs.YtfggpenfdfklkaaGreat
open Go.RowKit
/-! Declarations one behind the other; the texts of RulesDecls. -/
theorem declsS_semi (s : Nd) (hs : semB s = true) : ∀ (m : Nat) (p rest : List Nd), p.length ≤ m → declsS (p ++ s :: rest) = declsS p ++ declsS rest
  | _, [], rest, _ => by
    rw [List.nil_append, declsS_cons, if_pos (by rw [hs, Bool.or_true]), declsS_nil, List.nil_append]
  | 0, n :: r, rest, h => by simp at h
  | m + 1, n :: r, rest, h => by
    have hr : r.length ≤ m := by simpa using h
    have hsk : skipB s = false := by unfold skipB; rw [hs]; rfl
    have hns : nsemB s = false := by unfold nsemB; rw [hs]; rfl
    have dwS : ∀ (q : Nd → Bool) (l : List Nd), q s = false → (l ++ s :: rest).dropWhile q = l.dropWhile q ++ s :: rest := by
      intro q l hq
      induction l with
      | nil => rw [List.nil_append, List.dropWhile_cons, if_neg (by rw [hq]; decide)]; rfl
      | cons a l ih =>
        rw [List.cons_append, List.dropWhile_cons, List.dropWhile_cons]
        split
        · exact ih
        · rfl
    have twS : ∀ (l : List Nd), (l ++ s :: rest).takeWhile nsemB = l.takeWhile nsemB := by
      intro l
      induction l with
      | nil => rw [List.nil_append, List.takeWhile_cons, if_neg (by rw [hns]; decide)]; rfl
      | cons a l ih =>
        rw [List.cons_append, List.takeWhile_cons, List.takeWhile_cons, ih]
    rw [List.cons_append, declsS_cons, declsS_cons]
    split
    · exact declsS_semi s hs m r rest hr
    split
    · rw [dwS skipB r hsk]
      have hl := dropW_len skipB r
      cases hd : r.dropWhile skipB with
      | nil =>
        rw [List.nil_append, List.tail_cons, List.tail_nil, declsS_nil, List.nil_append]
      | cons a t =>
        rw [List.cons_append, List.tail_cons, List.tail_cons]
        rw [hd] at hl
        exact declsS_semi s hs m t rest (by simp at hl; omega)
    · rw [twS, dwS nsemB r hns, List.append_assoc]
      congr 1
      exact declsS_semi s hs m _ rest (by have := dropW_len nsemB r; omega)
abbrev wdL : List ByteArray := [⟨#[67, 111, 108, 111, 114, 58, 32, 97]⟩, ⟨#[45, 45, 79, 119, 110, 58, 32, 66]⟩, ⟨#[99, 32, 100, 58, 32, 101]⟩, ⟨#[102]⟩, ⟨#[103, 58]⟩, ⟨#[123, 120, 58, 121, 125, 32, 104, 58, 32, 105]⟩, ⟨#[106, 58, 32, 40, 107, 59, 108, 41]⟩, ⟨#[109, 58, 32, 91, 125]⟩, ⟨#[64, 110, 32, 111, 59, 112, 58, 32, 113]⟩, ⟨#[114, 58, 32, 115, 32, 93]⟩]
abbrev nm4L : List ByteArray := [⟨#[99, 111, 108, 111, 114]⟩, ⟨#[45, 45, 79, 119, 110]⟩, ⟨#[]⟩, ⟨#[]⟩, ⟨#[]⟩, ⟨#[]⟩, ⟨#[106]⟩, ⟨#[]⟩, ⟨#[112]⟩, ⟨#[]⟩]
def wd (k : Nat) : ByteArray := wdL.getD k ⟨#[]⟩
def nm4 (k : Nat) : ByteArray := nm4L.getD k ⟨#[]⟩
def qd (k : Nat) : List Int := nums (wd k) ++ [32, 59]
def TKd (k : Nat) : List Tok := if k = 7 then [] else toks (qd k) ++ [{ kind := 13 }]
def NKd (k : Nat) : List Nd := ndsS (TKd k)
def vl4 (k : Nat) : List Nd := match k with
  | 0 => [lf 1 ⟨#[97]⟩]
  | 1 => [lf 1 ⟨#[66]⟩]
  | 6 => [.mk { kind := 19, text := ⟨#[40]⟩ } [lf 1 ⟨#[107]⟩, lf 17 ⟨#[]⟩, lf 1 ⟨#[108]⟩]]
  | _ => [lf 1 ⟨#[113]⟩]
def DKd (k : Nat) : List DeclD := if (nm4 k).toList.isEmpty = true then [] else [⟨nm4 k, vl4 k, false⟩]
theorem lt10 {k : Nat} (h : k < 10) : k = 0 ∨ k = 1 ∨ k = 2 ∨ k = 3 ∨ k = 4 ∨ k = 5 ∨ k = 6 ∨ k = 7 ∨ k = 8 ∨ k = 9 := by omega
theorem qd_head : ∀ k : Fin 10, sWhite (ah (qd k.val) 0) = false ∧ (qd k.val).length ≤ 20 := by decide +kernel
theorem qd_len : ∀ k : Fin 10, k.val ≠ 7 → (toks (qd k.val ++ [32])).length = (toks (qd k.val)).length + 1 := by decide +kernel
theorem fl_NKd {k : Nat} (h : k < 10) : flL (NKd k) = TKd k := by
  rcases lt10 h with rfl | rfl | rfl | rfl | rfl | rfl | rfl | rfl | rfl | rfl <;> (show flL _ = _; kernel_rfl)
theorem NKd_cut {k : Nat} (h : k < 10) : declsS (NKd k) = DKd k := by
  rcases lt10 h with rfl | rfl | rfl | rfl | rfl | rfl | rfl | rfl | rfl | rfl <;> (show declsS _ = _; kernel_rfl)
theorem NKd_semi {k : Nat} (h : k < 10) (h7 : k ≠ 7) : NKd k = (NKd k).take ((NKd k).length - 2) ++ [lf 17 ⟨#[]⟩, lf 13 ⟨#[]⟩] := by
  rcases lt10 h with rfl | rfl | rfl | rfl | rfl | rfl | rfl | rfl | rfl | rfl
  case inr.inr.inr.inr.inr.inr.inr.inl => exact absurd rfl h7
  all_goals (show NKd _ = _; kernel_rfl)
theorem white_decls (rest : List Nd) : declsS (lf 13 ⟨#[]⟩ :: rest) = declsS rest := by
  rw [declsS_cons, if_pos (by decide +kernel)]
theorem NKd_app {k : Nat} (h : k < 10) (rest : List Nd) : declsS (NKd k ++ rest) = DKd k ++ declsS rest := by
  by_cases h7 : k = 7
  · subst h7
    have e : NKd 7 = [] := by show NKd 7 = _; kernel_rfl
    have e2 : DKd 7 = [] := by show DKd 7 = _; kernel_rfl
    rw [e, e2]
    rfl
  · have hs : semB (lf 17 ⟨#[]⟩) = true := by decide +kernel
    have h1 := declsS_semi (lf 17 ⟨#[]⟩) hs _ ((NKd k).take ((NKd k).length - 2)) (lf 13 ⟨#[]⟩ :: rest) (Nat.le_refl _)
    have h2 := declsS_semi (lf 17 ⟨#[]⟩) hs _ ((NKd k).take ((NKd k).length - 2)) [lf 13 ⟨#[]⟩] (Nat.le_refl _)
    rw [← NKd_semi h h7, NKd_cut h, white_decls, declsS_nil, List.append_nil] at h2
    rw [← h2, white_decls] at h1
    rw [← h1]
    conv => lhs; rw [NKd_semi h h7]
    rw [List.append_assoc]
    rfl
theorem decls_pieces : ∀ ks : List Nat, (∀ k ∈ ks, k < 10) → declsS (ks.flatMap NKd) = ks.flatMap DKd
  | [], _ => declsS_nil
  | k :: ks, h => by
    rw [List.flatMap_cons, List.flatMap_cons, NKd_app (h k (by simp)), decls_pieces ks (fun x hx => h x (by simp [hx]))]
theorem fl_flat (f : Nat → List Nd) (g : Nat → List Tok) : ∀ ks : List Nat, (∀ k ∈ ks, flL (f k) = g k) → flL (ks.flatMap f) = ks.flatMap g
  | [], _ => rfl
  | k :: ks, h => by
    rw [List.flatMap_cons, List.flatMap_cons, flL_append, h k (by simp), fl_flat f g ks (fun x hx => h x (by simp [hx]))]
theorem ok_flat (f : Nat → List Nd) : ∀ ks : List Nat, (∀ k ∈ ks, (∀ x ∈ f k, OkN x) ∧ dpL (f k) ≤ 32) → (∀ x ∈ ks.flatMap f, OkN x) ∧ dpL (ks.flatMap f) ≤ 32
  | [], _ => ⟨fun x hx => by simp at hx, by rw [List.flatMap_nil]; decide +kernel⟩
  | k :: ks, h => by
    obtain ⟨i1, i2⟩ := ok_flat f ks (fun x hx => h x (by simp [hx]))
    obtain ⟨j1, j2⟩ := h k (by simp)
    refine ⟨fun x hx => ?_, ?_⟩
    · rw [List.flatMap_cons, List.mem_append] at hx
      exact hx.elim (j1 x) (i1 x)
    · rw [List.flatMap_cons, dpL_append]
      omega
theorem nds_pieces (ks : List Nat) (h : ∀ k ∈ ks, k < 10) : ndsS (ks.flatMap TKd) = ks.flatMap NKd := by
  obtain ⟨h1, h2⟩ := ok_flat NKd ks (fun k _ => nds_ok _ (TKd k) (Nat.le_refl _))
  rw [← fl_flat NKd TKd ks (fun k hk => fl_NKd (h k hk))]
  exact nds_back _ h1 h2
def pcd (k : Nat) : List Int := if k = 7 then [] else qd k ++ [32]
theorem toks_pieces : ∀ ks : List Nat, (∀ k ∈ ks, k < 10) → toks (ks.flatMap pcd) = ks.flatMap TKd ∧ sWhite (ah (ks.flatMap pcd) 0) = false
  | [], _ => ⟨by show toks _ = _; kernel_rfl, by decide⟩
  | k :: ks, h => by
    obtain ⟨i1, i2⟩ := toks_pieces ks (fun x hx => h x (by simp [hx]))
    have hk := h k (by simp)
    rw [List.flatMap_cons, List.flatMap_cons]
    by_cases h7 : k = 7
    · have e1 : pcd k = [] := by unfold pcd; rw [if_pos h7]
      have e2 : TKd k = [] := by unfold TKd; rw [if_pos h7]
      rw [e1, e2]
      exact ⟨i1, i2⟩
    · have e1 : pcd k = qd k ++ [32] := by unfold pcd; rw [if_neg h7]
      have e2 : TKd k = toks (qd k) ++ [{ kind := 13 }] := by unfold TKd; rw [if_neg h7]
      have hh := (qd_head ⟨k, hk⟩).1
      refine ⟨?_, ?_⟩
      · rw [e1, e2, List.append_assoc, List.append_assoc]
        have := joins i2 _ (qd k) (Nat.le_refl _) (qd_len ⟨k, hk⟩ h7)
        rw [i1] at this
        exact this
      · rw [e1, List.append_assoc]
        have e3 : ah (qd k ++ ([32] ++ ks.flatMap pcd)) 0 = ah (qd k) 0 := ah_app (by unfold qd; simp)
        rw [e3]
        exact hh
def scB : ByteArray := ⟨#[32, 59, 32]⟩
def txd (ks : List Nat) : ByteArray := ks.foldl (fun s k => if k = 7 then s else s ++ wd k ++ scB) ⟨#[]⟩
theorem txd_snoc (ks : List Nat) (k : Nat) : txd (ks ++ [k]) = if k = 7 then txd ks else txd ks ++ wd k ++ scB := by
  unfold txd
  rw [List.foldl_append]
  rfl
theorem nums_foldd : ∀ (ks : List Nat) (s : ByteArray), nums (ks.foldl (fun s k => if k = 7 then s else s ++ wd k ++ scB) s) = nums s ++ ks.flatMap pcd
  | [], s => by rw [List.foldl_nil, List.flatMap_nil, List.append_nil]
  | k :: ks, s => by
    rw [List.foldl_cons, nums_foldd ks, List.flatMap_cons]
    by_cases h7 : k = 7
    · rw [if_pos h7]
      have e1 : pcd k = [] := by unfold pcd; rw [if_pos h7]
      rw [e1, List.nil_append]
    · rw [if_neg h7, nums_append, nums_append]
      have e1 : pcd k = nums (wd k) ++ [32, 59, 32] := by unfold pcd qd; rw [if_neg h7, List.append_assoc]; rfl
      rw [e1, show nums scB = [32, 59, 32] by decide +kernel, List.append_assoc, List.append_assoc, List.append_assoc]
theorem nums_txd (ks : List Nat) : nums (txd ks) = ks.flatMap pcd := by
  unfold txd
  rw [nums_foldd]
  rw [show nums ⟨#[]⟩ = [] by decide +kernel, List.nil_append]
theorem pcd_ok : ∀ k : Fin 10, ((pcd k.val).all fun x => decide (1 ≤ x ∧ x < 128 ∧ x ≠ 12 ∧ x ≠ 13)) = true := by decide +kernel
theorem read_txd (ks : List Nat) (h : ∀ k ∈ ks, k < 10) : readS (txd ks) = ks.flatMap pcd := by
  rw [ascii_read, nums_txd]
  intro x hx
  rw [nums_txd, List.mem_flatMap] at hx
  obtain ⟨k, hk, hx⟩ := hx
  have := List.all_eq_true.1 (pcd_ok ⟨k, h k hk⟩) x hx
  simpa using this
/-- The declarations of a text of RulesDecls. -/
theorem decls_txd (ks : List Nat) (h : ∀ k ∈ ks, k < 10) : declsS (ndsS (toks (readS (txd ks)))) = ks.flatMap DKd := by
  rw [read_txd ks h, (toks_pieces ks h).1, nds_pieces ks h, decls_pieces ks h]
end Go.Proofs.YtfggpenfdfklkaaGreat
