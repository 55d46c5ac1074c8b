
import Derived.Test.YtfggpenfdfklkaaGreatRuP
namespace Go.Proofs.YtfggpenfdfklkaaGreat
open Go.RowKit
/-! One declaration, one rule, as the program goes on over them. -/
def whT (t : Tok) : Bool := decide (t.kind = 13)
def semT (t : Tok) : Bool := t.kind == 17
def blkT (t : Tok) : Bool := (t.kind == 19) && (t.text.toList == [123])
def awT (t : Tok) : Bool := t.kind == 3
def idT (t : Tok) : Bool := t.kind == 1
def coT (t : Tok) : Bool := t.kind == 16
def pdT (t : Tok) : Bool := whT t || semT t
def prT (t : Tok) : Bool := pdT t || (t.kind == 14) || (t.kind == 15)
def eaT (t : Tok) : Bool := semT t || blkT t
def notT (p : Tok → Bool) (t : Tok) : Bool := !p t
theorem trA_dw : ∀ l : List Nd, trA l = l.dropWhile isWh
  | [] => rfl
  | n :: l => by
    rw [trA, List.dropWhile_cons, trA_dw l]
theorem dw_nsem : ∀ l : List Nd, (trA l).dropWhile nsemB = l.dropWhile nsemB
  | [] => rfl
  | n :: l => by
    rw [trA]
    split
    · rename_i hw
      have hn : nsemB n = true := by
        unfold nsemB semB
        unfold isWh at hw
        have : n.tok.kind = 13 := of_decide_eq_true hw
        rw [this]; rfl
      rw [dw_nsem l]
      conv => rhs; rw [List.dropWhile_cons, if_pos hn]
    · rfl
theorem tw_nsem : ∀ l : List Nd, trA (l.takeWhile nsemB) = (trA l).takeWhile nsemB
  | [] => rfl
  | n :: l => by
    by_cases hw : isWh n = true
    · have hn : nsemB n = true := by
        unfold nsemB semB
        unfold isWh at hw
        have : n.tok.kind = 13 := of_decide_eq_true hw
        rw [this]; rfl
      rw [List.takeWhile_cons, if_pos hn, trA, if_pos hw, tw_nsem l]
      conv => rhs; rw [trA, if_pos hw]
    · have e : trA (n :: l) = n :: l := by rw [trA, if_neg hw]
      rw [e, List.takeWhile_cons]
      split
      · rw [trA, if_neg hw]
      · rfl
theorem declsS_dw : ∀ l : List Nd, declsS (l.dropWhile fun n => pdT n.tok) = declsS l
  | [] => rfl
  | n :: l => by
    rw [List.dropWhile_cons]
    split
    · rename_i h
      rw [declsS_dw l, declsS_cons, if_pos (show (isWh n || semB n) = true from h)]
    · rfl
theorem declsS_pass (l : List Nd) (i : Nat) : declsS (l.drop (passP pdT l i)) = declsS (l.drop i) := by
  rw [drop_passP]
  exact declsS_dw _
theorem passP_stop (p : Tok → Bool) (l : List Nd) (i : Nat) : atP p l (passP p l i) = false := by
  unfold atP
  rw [drop_passP]
  generalize l.drop i = m
  induction m with
  | nil => rfl
  | cons x m ih =>
    by_cases hp : p x.tok = true
    · rw [List.dropWhile_cons, if_pos hp]
      exact ih
    · rw [List.dropWhile_cons, if_neg hp]
      simpa using hp
/-- What an at rule among declarations takes. -/
def atEnd (l : List Nd) (i : Nat) : Nat := if atP blkT l (passP (notT eaT) l (i + 1)) = true then passP (notT eaT) l (i + 1) + 1 else passP (notT eaT) l (i + 1)
theorem skip_is : (fun n : Nd => notT eaT n.tok) = skipB := by
  funext n
  unfold notT eaT skipB semB blkB semT blkT
  cases (n.tok.kind == 17) <;> rfl
theorem tail_semi (l : List Nd) (h : ∀ n r, l = n :: r → blkB n = false → semB n = true) : declsS l.tail = (match l with | [] => declsS [] | n :: r => if blkB n = true then declsS r else declsS (n :: r)) := by
  cases l with
  | nil => rfl
  | cons n r =>
    show declsS r = if blkB n = true then declsS r else declsS (n :: r)
    by_cases hb : blkB n = true
    · rw [if_pos hb]
    · rw [if_neg hb, declsS_cons, if_pos (by rw [h n r rfl (by simpa using hb), Bool.or_true])]
theorem drop_at {l : List Nd} {i : Nat} (h : i < l.length) : l.drop i = l[i] :: l.drop (i + 1) := List.drop_eq_getElem_cons h
theorem pdecls_at {l : List Nd} {i : Nat} (hi : i < l.length) (h1 : atP pdT l i = false) (h2 : atP awT l i = true) : declsS (l.drop i) = declsS (l.drop (atEnd l i)) := by
  rw [atP_lt hi] at h1 h2
  have hs := passP_stop (notT eaT) l (i + 1)
  have hd := drop_passP (notT eaT) l (i + 1)
  rw [skip_is] at hd
  rw [drop_at hi, declsS_cons, if_neg (by rw [show (isWh l[i] || semB l[i]) = pdT l[i].tok from rfl, h1]; decide), if_pos (show (l[i].tok.kind == 3) = true from h2), ← hd]
  unfold atEnd
  generalize passP (notT eaT) l (i + 1) = k at *
  rcases Nat.lt_or_ge k l.length with hk | hk
  · rw [atP_lt hk] at hs ⊢
    rw [drop_at hk, List.tail_cons]
    have hea : eaT l[k].tok = true := by unfold notT at hs; simpa using hs
    by_cases hb : blkT l[k].tok = true
    · rw [if_pos hb]
    · rw [if_neg hb, drop_at hk, declsS_cons, if_pos (by
        unfold eaT at hea
        rw [show blkT l[k].tok = false by simpa using hb, Bool.or_false] at hea
        rw [show semB l[k] = semT l[k].tok from rfl, hea, Bool.or_true])]
  · rw [atP_ge hk, List.drop_eq_nil_of_le hk]
    rw [if_neg (by decide), List.drop_eq_nil_of_le hk]
    rfl
/-- The name of a declaration, whether there is one, and the place behind it. -/
def nameP (l : List Nd) (i : Nat) : ByteArray × Bool × Nat :=
  if atP idT l i = true then
    (if atP coT l (passP whT l (i + 1)) = true then (declN (tokAt l (i : Int)).text, true, passP whT l (i + 1) + 1) else (⟨#[]⟩, false, passP whT l (i + 1)))
  else (⟨#[]⟩, false, i)
def saidP (l : List Nd) (i : Nat) : List Nd := (l.take (passP (notT semT) l (nameP l i).2.2)).drop (nameP l i).2.2
def declP (l : List Nd) (i : Nat) : List DeclD := if ((nameP l i).2.1 && mayV (valS (saidP l i)).1) = true then [⟨(nameP l i).1, (valS (saidP l i)).1, (valS (saidP l i)).2⟩] else []
theorem nsem_is : (fun n : Nd => notT semT n.tok) = nsemB := rfl
theorem wh_is : (fun n : Nd => whT n.tok) = isWh := rfl
theorem tokAt_lt {l : List Nd} {i : Nat} (h : i < l.length) : tokAt l (i : Int) = l[i].tok := by
  unfold tokAt
  rw [Int.toNat_natCast, List.getD_eq_getElem?_getD, List.getElem?_eq_getElem h]
  rfl
theorem pdecls_one {l : List Nd} {i : Nat} (hi : i < l.length) (h1 : atP pdT l i = false) (h2 : atP awT l i = false) : declsS (l.drop i) = declP l i ++ declsS (l.drop (passP (notT semT) l (nameP l i).2.2)) := by
  rw [atP_lt hi] at h1 h2
  have hns : nsemB l[i] = true := by
    unfold pdT at h1
    unfold nsemB
    rw [show semB l[i] = semT l[i].tok from rfl, (Bool.or_eq_false_iff.1 h1).2]
    rfl
  have hd2 : l.drop (passP (notT semT) l (nameP l i).2.2) = (l.drop (nameP l i).2.2).dropWhile nsemB := by rw [drop_passP, nsem_is]
  have hsd : saidP l i = (l.drop (nameP l i).2.2).takeWhile nsemB := by unfold saidP; rw [take_passP, nsem_is]
  rw [hd2, drop_at hi, declsS_cons, if_neg (by rw [show (isWh l[i] || semB l[i]) = pdT l[i].tok from rfl, h1]; decide), if_neg (by rw [show (l[i].tok.kind == 3) = awT l[i].tok from rfl, h2]; decide)]
  unfold declP
  rw [hsd]
  unfold declOf
  simp only
  rw [tw_nsem]
  by_cases hid : atP idT l i = true
  · have hid2 : (l[i].tok.kind == 1) = true := by rw [atP_lt hi] at hid; exact hid
    have hj : l.drop (passP whT l (i + 1)) = trA (l.drop (i + 1)) := by rw [drop_passP, wh_is, trA_dw]
    by_cases hco : atP coT l (passP whT l (i + 1)) = true
    · have hn : nameP l i = (declN (tokAt l (i : Int)).text, true, passP whT l (i + 1) + 1) := by unfold nameP; rw [if_pos hid, if_pos hco]
      have hjl := atP_lt_of hco
      rw [hn]
      rw [atP_lt hjl] at hco
      rw [drop_at hjl] at hj
      rw [← hj]
      have hcs : nsemB l[passP whT l (i + 1)] = true := by
        unfold nsemB semB
        unfold coT at hco
        rw [show l[passP whT l (i + 1)].tok.kind = 16 by simpa using hco]
        rfl
      rw [List.takeWhile_cons, if_pos hcs]
      simp only
      rw [if_pos (by rw [hid2, show (l[passP whT l (i + 1)].tok.kind == 16) = true from hco]; rfl)]
      rw [Bool.true_and, tokAt_lt hi, ← dw_nsem (l.drop (i + 1)), ← hj, List.dropWhile_cons, if_pos hcs]
    · have hn : nameP l i = (⟨#[]⟩, false, passP whT l (i + 1)) := by unfold nameP; rw [if_pos hid, if_neg hco]
      rw [hn, Bool.false_and, if_neg (by decide), hj, dw_nsem]
      congr 1
      rcases Nat.lt_or_ge (passP whT l (i + 1)) l.length with hjl | hjl
      · rw [atP_lt hjl] at hco
        rw [drop_at hjl] at hj
        rw [← hj, List.takeWhile_cons]
        split
        · rfl
        · rename_i c v hcv
          split at hcv
          · injection hcv with e1 _
            subst e1
            rw [if_neg (by rw [show (l[passP whT l (i + 1)].tok.kind == 16) = false by simpa [coT] using hco, Bool.and_false]; decide)]
          · cases hcv
      · rw [List.drop_eq_nil_of_le hjl] at hj
        rw [← hj]
        rfl
  · have hid2 : (l[i].tok.kind == 1) = false := by rw [atP_lt hi] at hid; simpa [idT] using hid
    have hn : nameP l i = (⟨#[]⟩, false, i) := by unfold nameP; rw [if_neg hid]
    rw [hn, Bool.false_and, if_neg (by decide)]
    simp only
    rw [drop_at hi, List.dropWhile_cons, if_pos hns]
    congr 1
    split
    · rfl
    · rw [if_neg (by rw [hid2, Bool.false_and]; decide)]
/-! A rule. -/
theorem rulesS_dw : ∀ l : List Nd, rulesS (l.dropWhile fun n => prT n.tok) = rulesS l
  | [] => rfl
  | n :: l => by
    rw [List.dropWhile_cons]
    split
    · rename_i h
      rw [rulesS_dw l, rulesS_cons, if_pos (by
        unfold junkB
        unfold prT pdT at h
        rw [show isWh n = whT n.tok from rfl, show semB n = semT n.tok from rfl]
        cases h1 : whT n.tok <;> cases h2 : semT n.tok <;> simp_all)]
    · rfl
theorem rulesS_pass (l : List Nd) (i : Nat) : rulesS (l.drop (passP prT l i)) = rulesS (l.drop i) := by
  rw [drop_passP]
  exact rulesS_dw _
def begP (l : List Nd) (i : Nat) : Nat := if atP awT l i = true then i + 1 else i
def endP (l : List Nd) (i : Nat) : Tok → Bool := if atP awT l i = true then eaT else blkT
def stopP (l : List Nd) (i : Nat) : Nat := passP (notT (endP l i)) l (begP l i)
def nextP (l : List Nd) (i : Nat) : Nat := if atP blkT l (stopP l i) = true then stopP l i + 1 else stopP l i
def kidsAt (l : List Nd) (i : Nat) : List Nd := (l.getD i (.mk { kind := 0 } [])).kids
def ruleP (l : List Nd) (i : Nat) : RuleD := ⟨if atP awT l i = true then lowS (tokAt l (i : Int)).text else ⟨#[]⟩, trimS ((l.take (stopP l i)).drop (begP l i)), atP blkT l (stopP l i), if atP blkT l (stopP l i) = true then declsS (kidsAt l (stopP l i)) else []⟩
theorem prules_one {l : List Nd} {i : Nat} (hi : i < l.length) (h1 : atP prT l i = false) : rulesS (l.drop i) = (if (atP awT l i || atP blkT l (stopP l i)) = true then [ruleP l i] else []) ++ rulesS (l.drop (nextP l i)) := by
  have hjk : junkB l[i] = false := by
    rw [atP_lt hi] at h1
    unfold prT pdT at h1
    unfold junkB
    rw [show isWh l[i] = whT l[i].tok from rfl, show semB l[i] = semT l[i].tok from rfl]
    cases h2 : whT l[i].tok <;> cases h3 : semT l[i].tok <;> simp_all
  have hat : (l[i].tok.kind == 3) = atP awT l i := (atP_lt (p := awT) hi).symm
  have hbody : bodyOf l[i] (l.drop (i + 1)) = l.drop (begP l i) := by
    unfold bodyOf begP
    rw [hat]
    split
    · rfl
    · rw [drop_at hi]
  have hpre : (fun n : Nd => notT (endP l i) n.tok) = preB (atP awT l i) := by
    funext n
    unfold notT endP preB eaT
    cases atP awT l i
    · rw [if_neg (by decide), Bool.false_and]
      show (!blkB n) = (!blkB n && !false)
      simp
    · rw [if_pos rfl, Bool.true_and]
      show (!(semB n || blkB n)) = (!blkB n && !semB n)
      cases semB n <;> cases blkB n <;> rfl
  have hdrop : (l.drop (begP l i)).dropWhile (preB (atP awT l i)) = l.drop (stopP l i) := by unfold stopP; rw [drop_passP, hpre]
  have htake : (l.drop (begP l i)).takeWhile (preB (atP awT l i)) = (l.take (stopP l i)).drop (begP l i) := by unfold stopP; rw [take_passP, hpre]
  have hhead : headB (l.drop (stopP l i)) = atP blkT l (stopP l i) := by
    unfold headB atP
    cases l.drop (stopP l i) with
    | nil => rfl
    | cons n r => rfl
  have hkids : kidsD (l.drop (stopP l i)) = if atP blkT l (stopP l i) = true then declsS (kidsAt l (stopP l i)) else [] := by
    rcases Nat.lt_or_ge (stopP l i) l.length with hk | hk
    · rw [atP_lt hk, drop_at hk]
      unfold kidsD kidsAt
      rw [List.getD_eq_getElem?_getD, List.getElem?_eq_getElem hk]
      rfl
    · rw [atP_ge hk, List.drop_eq_nil_of_le hk]; rfl
  have hstop : atP (notT (endP l i)) l (stopP l i) = false := passP_stop _ _ _
  rw [drop_at hi, rulesS_cons, if_neg (by rw [hjk]; decide), hat, hbody, hdrop]
  have htail : rulesS (l.drop (stopP l i)).tail = rulesS (l.drop (nextP l i)) := by
    unfold nextP
    rcases Nat.lt_or_ge (stopP l i) l.length with hk | hk
    · rw [atP_lt hk, drop_at hk, List.tail_cons]
      by_cases hb : blkT l[stopP l i].tok = true
      · rw [if_pos hb]
      · rw [if_neg hb, drop_at hk, rulesS_cons, if_pos]
        rw [atP_lt hk] at hstop
        unfold notT endP at hstop
        unfold junkB
        rw [show semB l[stopP l i] = semT l[stopP l i].tok from rfl]
        split at hstop
        · unfold eaT at hstop
          have hb2 : blkT l[stopP l i].tok = false := by simpa using hb
          rw [hb2, Bool.or_false] at hstop
          rw [show semT l[stopP l i].tok = true by simpa using hstop, Bool.or_true]
        · rw [show blkT l[stopP l i].tok = true by simpa using hstop] at hb
          exact absurd rfl hb
    · rw [atP_ge hk, if_neg (by decide), List.drop_eq_nil_of_le hk]
      rfl
  rw [htail]
  congr 1
  unfold ruleOf ruleP
  rw [hdrop, htake, hhead, hkids, tokAt_lt hi]
end Go.Proofs.YtfggpenfdfklkaaGreat
