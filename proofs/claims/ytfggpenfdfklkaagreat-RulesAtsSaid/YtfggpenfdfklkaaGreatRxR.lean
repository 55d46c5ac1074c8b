
import Derived.Test.YtfggpenfdfklkaaGreatRxT
namespace Go.Proofs.YtfggpenfdfklkaaGreat
open Go.RowKit
/-! Rules one behind the other, as plain functions. -/
theorem dw_stop {q : Nd → Bool} {s : Nd} {rest : List Nd} (hs : q s = false) : ∀ p : List Nd, (∀ n ∈ p, q n = true) → (p ++ s :: rest).dropWhile q = s :: rest ∧ (p ++ s :: rest).takeWhile q = p
  | [], _ => by
    rw [List.nil_append, List.dropWhile_cons, List.takeWhile_cons, if_neg (by rw [hs]; decide), if_neg (by rw [hs]; decide)]
    exact ⟨rfl, rfl⟩
  | n :: p, h => by
    obtain ⟨i1, i2⟩ := dw_stop hs p (fun x hx => h x (by simp [hx]))
    have hn := h n (by simp)
    rw [List.cons_append, List.dropWhile_cons, List.takeWhile_cons, if_pos hn, if_pos hn, i1, i2]
    exact ⟨rfl, rfl⟩
theorem dw_end {q : Nd → Bool} : ∀ p : List Nd, (∀ n ∈ p, q n = true) → p.dropWhile q = [] ∧ p.takeWhile q = p
  | [], _ => ⟨rfl, rfl⟩
  | n :: p, h => by
    obtain ⟨i1, i2⟩ := dw_end p (fun x hx => h x (by simp [hx]))
    have hn := h n (by simp)
    rw [List.dropWhile_cons, List.takeWhile_cons, if_pos hn, if_pos hn, i1, i2]
    exact ⟨rfl, rfl⟩
theorem rulesS_junk {n : Nd} (h : junkB n = true) (rest : List Nd) : rulesS (n :: rest) = rulesS rest := by
  rw [rulesS_cons, if_pos h]
theorem at_junk {q : Nd} (hq : (q.tok.kind == 3) = true) : junkB q = false := by
  have : q.tok.kind = 3 := by simpa using hq
  unfold junkB isWh semB
  rw [this]
  rfl
theorem rulesS_rule {q : Nd} {p : List Nd} {B : Nd} (hj : junkB q = false) (h3 : (q.tok.kind == 3) = false) (hp : ∀ n ∈ q :: p, blkB n = false) (hB : blkB B = true) (rest : List Nd) :
    rulesS (q :: p ++ B :: rest) = ⟨⟨#[]⟩, trimS (q :: p), true, declsS B.kids⟩ :: rulesS rest := by
  obtain ⟨e1, e2⟩ := dw_stop (q := preB false) (s := B) (rest := rest) (by unfold preB; rw [hB]; rfl) (q :: p) (fun n hn => by unfold preB; rw [hp n hn]; rfl)
  have eb : bodyOf q (p ++ B :: rest) = q :: p ++ B :: rest := by unfold bodyOf; rw [if_neg (by rw [h3]; decide)]; rfl
  rw [List.cons_append, rulesS_cons, if_neg (by rw [hj]; decide), h3, eb, e1, List.tail_cons]
  unfold ruleOf
  rw [e1, e2]
  have eh : headB (B :: rest) = true := hB
  have ek : kidsD (B :: rest) = declsS B.kids := by unfold kidsD; exact if_pos hB
  rw [eh, ek]
  rfl
theorem rulesS_atblk {q : Nd} {p : List Nd} {B : Nd} (h3 : (q.tok.kind == 3) = true) (hp : ∀ n ∈ p, blkB n = false ∧ semB n = false) (hB : blkB B = true) (rest : List Nd) :
    rulesS (q :: (p ++ B :: rest)) = ⟨lowS q.tok.text, trimS p, true, declsS B.kids⟩ :: rulesS rest := by
  obtain ⟨e1, e2⟩ := dw_stop (q := preB true) (s := B) (rest := rest) (by unfold preB; rw [hB]; rfl) p (fun n hn => by unfold preB; rw [(hp n hn).1, (hp n hn).2]; rfl)
  have eb : bodyOf q (p ++ B :: rest) = p ++ B :: rest := by unfold bodyOf; rw [if_pos h3]
  rw [rulesS_cons, if_neg (by rw [at_junk h3]; decide), h3, eb, e1, List.tail_cons]
  unfold ruleOf
  rw [e1, e2]
  have eh : headB (B :: rest) = true := hB
  have ek : kidsD (B :: rest) = declsS B.kids := by unfold kidsD; exact if_pos hB
  rw [eh, ek]
  rfl
theorem rulesS_atsem {q : Nd} {p : List Nd} {s : Nd} (h3 : (q.tok.kind == 3) = true) (hp : ∀ n ∈ p, blkB n = false ∧ semB n = false) (hs : semB s = true) (hs2 : blkB s = false) (rest : List Nd) :
    rulesS (q :: (p ++ s :: rest)) = ⟨lowS q.tok.text, trimS p, false, []⟩ :: rulesS rest := by
  obtain ⟨e1, e2⟩ := dw_stop (q := preB true) (s := s) (rest := rest) (by unfold preB; rw [hs, hs2]; rfl) p (fun n hn => by unfold preB; rw [(hp n hn).1, (hp n hn).2]; rfl)
  have eb : bodyOf q (p ++ s :: rest) = p ++ s :: rest := by unfold bodyOf; rw [if_pos h3]
  rw [rulesS_cons, if_neg (by rw [at_junk h3]; decide), h3, eb, e1, List.tail_cons]
  unfold ruleOf
  rw [e1, e2]
  have eh : headB (s :: rest) = false := hs2
  have ek : kidsD (s :: rest) = [] := by unfold kidsD; exact if_neg (by rw [hs2]; decide)
  rw [eh, ek]
  rfl
theorem rulesS_atend {q : Nd} {p : List Nd} (h3 : (q.tok.kind == 3) = true) (hp : ∀ n ∈ p, blkB n = false ∧ semB n = false) :
    rulesS (q :: p) = [⟨lowS q.tok.text, trimS p, false, []⟩] := by
  obtain ⟨e1, e2⟩ := dw_end (q := preB true) p (fun n hn => by unfold preB; rw [(hp n hn).1, (hp n hn).2]; rfl)
  have eb : bodyOf q p = p := by unfold bodyOf; rw [if_pos h3]
  rw [rulesS_cons, if_neg (by rw [at_junk h3]; decide), h3, eb, e1, List.tail_nil, rulesS_nil, List.append_nil]
  unfold ruleOf
  rw [e1, e2]
  rfl
end Go.Proofs.YtfggpenfdfklkaaGreat
