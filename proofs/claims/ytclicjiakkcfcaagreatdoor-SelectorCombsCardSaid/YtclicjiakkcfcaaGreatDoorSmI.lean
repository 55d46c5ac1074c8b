import Derived.Test.YtclicjiakkcfcaaGreatDoorSmA
import Derived.Test.YtclicjiakkcfcaaGreatDoorSlA
namespace Go.Proofs.YtclicjiakkcfcaaGreatDoor
open Go.RowKit
structure Sc where
  list : List CxD
  inner : List (List CxD)
  sum : W3
  most : W3
def Sc.val (s : Sc) : W3 := wLs s.list (gr3 (s.sum.add (sumL s.inner)) s.most)
def stV : List Sc → W3
  | [] => W3.zero
  | t :: r => r.foldl (fun v s => Sc.val { s with sum := s.sum.add v }) t.val
theorem stV_cons (t : Sc) (r : List Sc) : stV (t :: r) = r.foldl (fun v s => Sc.val { s with sum := s.sum.add v }) t.val := rfl
def Sc.new (l : List CxD) : Sc := ⟨l, [], W3.zero, W3.zero⟩
theorem gr3_zero : gr3 W3.zero W3.zero = W3.zero := by
 unfold gr3
 split <;> rfl
theorem Sc.val_done {s : Sc} (h1 : s.list = []) (h2 : s.inner = []) : s.val = gr3 s.sum s.most := by
 unfold Sc.val
 rw [h1, h2, sumL, W3.add_zero, wLs]
theorem Sc.val_new (l : List CxD) : (Sc.new l).val = wLs l W3.zero := by
 unfold Sc.val Sc.new
 simp only
 rw [sumL, W3.add_zero, gr3_zero]
theorem Sc.val_next {s : Sc} {c : CxD} {l : List CxD} (h1 : s.list = c :: l) (h2 : s.inner = []) : s.val = Sc.val ⟨l, (bareCx c).2, (bareCx c).1, gr3 s.sum s.most⟩ := by
 unfold Sc.val
 rw [h1, h2, sumL, W3.add_zero, wLs, bareCx_w]
theorem Sc.val_inner {s : Sc} {x : List CxD} {r : List (List CxD)} (h : s.inner = x :: r) : s.val = Sc.val { s with inner := r, sum := s.sum.add (Sc.new x).val } := by
 rw [Sc.val_new]
 unfold Sc.val
 rw [h, sumL, W3.add_assoc]
theorem stV_next {s : Sc} {r : List Sc} {c : CxD} {l : List CxD} (h1 : s.list = c :: l) (h2 : s.inner = []) : stV (s :: r) = stV (⟨l, (bareCx c).2, (bareCx c).1, gr3 s.sum s.most⟩ :: r) := by
 rw [stV_cons, stV_cons, Sc.val_next h1 h2]
theorem stV_push {s : Sc} {r : List Sc} {x : List CxD} {q : List (List CxD)} (h : s.inner = x :: q) : stV (s :: r) = stV (Sc.new x :: { s with inner := q } :: r) := by
 rw [stV_cons, stV_cons, List.foldl_cons, Sc.val_inner h]
theorem stV_pop {t s : Sc} {r : List Sc} (h1 : t.list = []) (h2 : t.inner = []) : stV (t :: s :: r) = stV ({ s with sum := s.sum.add (gr3 t.sum t.most) } :: r) := by
 rw [stV_cons, stV_cons, List.foldl_cons, Sc.val_done h1 h2]
theorem stV_end {t : Sc} (h1 : t.list = []) (h2 : t.inner = []) : stV [t] = gr3 t.sum t.most := Sc.val_done h1 h2
mutual
def nSm : SmD → Nat
  | .mk _ _ _ _ _ _ _ l => 2 + nLs l
def nSms : List SmD → Nat
  | [] => 0
  | s :: l => nSm s + nSms l
def nCm : CmD → Nat
  | .mk _ s => nSms s
def nCms : List CmD → Nat
  | [] => 0
  | c :: l => nCm c + nCms l
def nCx : CxD → Nat
  | .mk p _ _ => nCms p
def nLs : List CxD → Nat
  | [] => 0
  | c :: l => 1 + nCx c + nLs l
end
def nIn : List (List CxD) → Nat
  | [] => 0
  | l :: r => 2 + nLs l + nIn r
theorem nIn_app : ∀ a b : List (List CxD), nIn (a ++ b) = nIn a + nIn b
  | [], b => by
   show nIn b = 0 + nIn b
   omega
  | l :: a, b => by
   show 2 + nLs l + nIn (a ++ b) = 2 + nLs l + nIn a + nIn b
   rw [nIn_app a b]
   omega
theorem nIn_sms : ∀ l : List SmD, nIn (bareSms l).2 ≤ nSms l
  | [] => by
   rw [bareSms, nIn]
   exact Nat.zero_le _
  | .mk k _ _ _ _ _ _ l :: r => by
   have h := nIn_sms r
   rw [bareSms, nSms, nSm, nIn_app]
   cases smHas k
   · rw [if_neg (by decide), nIn]
     omega
   · rw [if_pos rfl, nIn, nIn]
     omega
theorem nIn_cms : ∀ l : List CmD, nIn (bareCms l).2 ≤ nCms l
  | [] => by
   rw [bareCms, nIn]
   exact Nat.zero_le _
  | .mk t s :: r => by
   have h := nIn_cms r
   have h2 := nIn_sms s
   rw [bareCms, nCms, nCm, nIn_app]
   omega
theorem nIn_cx (c : CxD) : nIn (bareCx c).2 ≤ nCx c := by
 cases c with
 | mk p cb ps =>
  rw [bareCx, nCx]
  exact nIn_cms p
def Sc.n (s : Sc) : Nat := 1 + nLs s.list + nIn s.inner
def stN (st : List Sc) : Nat := (st.map Sc.n).sum
theorem stN_next {s : Sc} {r : List Sc} {c : CxD} {l : List CxD} (h1 : s.list = c :: l) : stN (⟨l, (bareCx c).2, (bareCx c).1, gr3 s.sum s.most⟩ :: r) < stN (s :: r) := by
 have h := nIn_cx c
 unfold stN
 rw [List.map_cons, List.map_cons, List.sum_cons, List.sum_cons]
 unfold Sc.n
 simp only
 rw [h1, nLs]
 omega
theorem stN_push {s : Sc} {r : List Sc} {x : List CxD} {q : List (List CxD)} (h : s.inner = x :: q) : stN (Sc.new x :: { s with inner := q } :: r) < stN (s :: r) := by
 unfold stN
 rw [List.map_cons, List.map_cons, List.map_cons, List.sum_cons, List.sum_cons, List.sum_cons]
 unfold Sc.n Sc.new
 simp only
 rw [h, nIn, nIn]
 omega
theorem stN_pop {t s : Sc} {r : List Sc} (w : W3) : stN ({ s with sum := w } :: r) < stN (t :: s :: r) := by
 unfold stN
 rw [List.map_cons, List.map_cons, List.map_cons, List.sum_cons, List.sum_cons, List.sum_cons]
 unfold Sc.n
 simp only
 omega
abbrev eB : ByteArray := ⟨#[]⟩
abbrev Pc := ByteArray × List CxD
def klW (k : Int) : ByteArray := klL.getD k.toNat eB
def elW (k : Int) : ByteArray := elL.getD k.toNat eB
def nthT (tx : Int → Int → ByteArray) (k a b : Int) (l : List CxD) : ByteArray := ⟨#[58]⟩ ++ klW k ++ (⟨#[40]⟩ ++ tx a b) ++ (if l.isEmpty = true then eB else ⟨#[32, 111, 102, 32]⟩)
def pcSm (tx : Int → Int → ByteArray) : SmD → List Pc
  | .mk k n o x f a b l =>
   if (k == 1) = true then [(⟨#[35]⟩ ++ n, [])]
   else if (k == 2) = true then [(⟨#[46]⟩ ++ n, [])]
   else if (k == 3) = true then [(brS n o x f, [])]
   else if (decide (4 ≤ k) && decide (k ≤ 8)) = true then [(⟨#[58]⟩ ++ klW k, [])]
   else if (k == 9 || k == 10) = true then [(nthT tx k a b l, l), (⟨#[41]⟩, [])]
   else if (k == 11 || k == 12 || k == 13) = true then [(⟨#[58]⟩ ++ klW k ++ ⟨#[40]⟩, l), (⟨#[41]⟩, [])]
   else []
def pcSms (tx : Int → Int → ByteArray) : List SmD → List Pc
  | [] => []
  | s :: l => pcSm tx s ++ pcSms tx l
def pcCm (tx : Int → Int → ByteArray) : CmD → List Pc
  | .mk t s => (t, []) :: pcSms tx s
def pcMore (tx : Int → Int → ByteArray) : List CmD → List ByteArray → List Pc
  | [], _ => []
  | c :: l, [] => pcCm tx c ++ pcMore tx l []
  | c :: l, b :: bs => (betS b, []) :: (pcCm tx c ++ pcMore tx l bs)
def pcFirst (tx : Int → Int → ByteArray) : List CmD → List ByteArray → List Pc
  | [], _ => []
  | c :: l, cb => pcCm tx c ++ pcMore tx l cb
def pcCx (tx : Int → Int → ByteArray) : CxD → List Pc
  | .mk p cb ps => pcFirst tx p cb ++ (if isElS ps = true then [(⟨#[58, 58]⟩ ++ elW ps, [])] else [])
def pcRest (tx : Int → Int → ByteArray) : List CxD → List Pc
  | [] => []
  | c :: l => (⟨#[44, 32]⟩, []) :: (pcCx tx c ++ pcRest tx l)
def pcLs (tx : Int → Int → ByteArray) : List CxD → List Pc
  | [] => []
  | c :: l => pcCx tx c ++ pcRest tx l
mutual
def txSm (tx : Int → Int → ByteArray) : SmD → ByteArray
  | .mk k n o x f a b l =>
   if (k == 1) = true then ⟨#[35]⟩ ++ n
   else if (k == 2) = true then ⟨#[46]⟩ ++ n
   else if (k == 3) = true then brS n o x f
   else if (decide (4 ≤ k) && decide (k ≤ 8)) = true then ⟨#[58]⟩ ++ klW k
   else if (k == 9 || k == 10) = true then nthT tx k a b l ++ txLs tx l ++ ⟨#[41]⟩
   else if (k == 11 || k == 12 || k == 13) = true then ⟨#[58]⟩ ++ klW k ++ ⟨#[40]⟩ ++ txLs tx l ++ ⟨#[41]⟩
   else eB
def txSms (tx : Int → Int → ByteArray) : List SmD → ByteArray
  | [] => eB
  | s :: l => txSm tx s ++ txSms tx l
def txCm (tx : Int → Int → ByteArray) : CmD → ByteArray
  | .mk t s => t ++ txSms tx s
def txMore (tx : Int → Int → ByteArray) : List CmD → List ByteArray → ByteArray
  | [], _ => eB
  | c :: l, [] => txCm tx c ++ txMore tx l []
  | c :: l, b :: bs => betS b ++ (txCm tx c ++ txMore tx l bs)
def txFirst (tx : Int → Int → ByteArray) : List CmD → List ByteArray → ByteArray
  | [], _ => eB
  | c :: l, cb => txCm tx c ++ txMore tx l cb
def txCx (tx : Int → Int → ByteArray) : CxD → ByteArray
  | .mk p cb ps => txFirst tx p cb ++ (if isElS ps = true then ⟨#[58, 58]⟩ ++ elW ps else eB)
def txRest (tx : Int → Int → ByteArray) : List CxD → ByteArray
  | [] => eB
  | c :: l => ⟨#[44, 32]⟩ ++ (txCx tx c ++ txRest tx l)
def txLs (tx : Int → Int → ByteArray) : List CxD → ByteArray
  | [] => eB
  | c :: l => txCx tx c ++ txRest tx l
end
def pv (tx : Int → Int → ByteArray) : List Pc → ByteArray
  | [] => eB
  | p :: l => p.1 ++ (txLs tx p.2 ++ pv tx l)
theorem ba_nil (x : ByteArray) : eB ++ x = x := by
 apply ByteArray.ext
 simp [ByteArray.data_append]
theorem ba_nilr (x : ByteArray) : x ++ eB = x := by
 apply ByteArray.ext
 simp [ByteArray.data_append]
theorem ba_assoc (x y z : ByteArray) : x ++ y ++ z = x ++ (y ++ z) := by
 apply ByteArray.ext
 simp [ByteArray.data_append, Array.append_assoc]
section
variable (tx : Int → Int → ByteArray)
theorem pv_app : ∀ a b : List Pc, pv tx (a ++ b) = pv tx a ++ pv tx b
  | [], b => (ba_nil _).symm
  | p :: a, b => by
   show p.1 ++ (txLs tx p.2 ++ pv tx (a ++ b)) = p.1 ++ (txLs tx p.2 ++ pv tx a) ++ pv tx b
   rw [pv_app a b, ba_assoc, ba_assoc]
theorem pv_one (t : ByteArray) : pv tx [(t, [])] = t := by
 show t ++ (txLs tx [] ++ eB) = t
 rw [txLs, ba_nil, ba_nilr]
theorem pv_cons (t : ByteArray) (l : List Pc) : pv tx ((t, []) :: l) = t ++ pv tx l := by
 show t ++ (txLs tx [] ++ pv tx l) = _
 rw [txLs, ba_nil]
theorem pv_sm (s : SmD) : pv tx (pcSm tx s) = txSm tx s := by
 cases s with
 | mk k n o x f a b l =>
  rw [pcSm, txSm]
  split
  · exact pv_one tx _
  split
  · exact pv_one tx _
  split
  · exact pv_one tx _
  split
  · exact pv_one tx _
  split
  · show nthT tx k a b l ++ (txLs tx l ++ pv tx [(⟨#[41]⟩, [])]) = _
    rw [pv_one, ba_assoc]
  split
  · show ⟨#[58]⟩ ++ klW k ++ ⟨#[40]⟩ ++ (txLs tx l ++ pv tx [(⟨#[41]⟩, [])]) = _
    rw [pv_one, ba_assoc (⟨#[58]⟩ ++ klW k ++ ⟨#[40]⟩)]
  · rfl
theorem pv_sms : ∀ l : List SmD, pv tx (pcSms tx l) = txSms tx l
  | [] => by
   rw [txSms]
   rfl
  | s :: l => by
   rw [pcSms, txSms, pv_app, pv_sm, pv_sms l]
theorem pv_cm (c : CmD) : pv tx (pcCm tx c) = txCm tx c := by
 cases c with
 | mk t s => rw [pcCm, txCm, pv_cons, pv_sms]
theorem pv_more : ∀ (l : List CmD) (bs : List ByteArray), pv tx (pcMore tx l bs) = txMore tx l bs
  | [], bs => by
   rw [pcMore, txMore]
   rfl
  | c :: l, [] => by
   rw [pcMore, txMore, pv_app, pv_cm, pv_more l []]
  | c :: l, b :: bs => by
   rw [pcMore, txMore, pv_cons, pv_app, pv_cm, pv_more l bs]
theorem pv_cx (c : CxD) : pv tx (pcCx tx c) = txCx tx c := by
 cases c with
 | mk p cb ps =>
  rw [pcCx, txCx, pv_app]
  congr 1
  · cases p with
    | nil =>
     rw [txFirst]
     rfl
    | cons c l =>
     rw [pcFirst, txFirst, pv_app, pv_cm, pv_more]
  · split
    · exact pv_one tx _
    · rfl
theorem pv_rest : ∀ l : List CxD, pv tx (pcRest tx l) = txRest tx l
  | [] => by
   rw [txRest]
   rfl
  | c :: l => by
   rw [pcRest, txRest, pv_cons, pv_app, pv_cx, pv_rest l]
theorem pv_ls (l : List CxD) : pv tx (pcLs tx l) = txLs tx l := by
 cases l with
 | nil =>
  rw [txLs]
  rfl
 | cons c l => rw [pcLs, txLs, pv_app, pv_cx, pv_rest]
end
mutual
def okSm : SmD → Prop
  | .mk _ _ _ _ _ _ _ l => l.length ≤ 16 ∧ okLs l
def okSms : List SmD → Prop
  | [] => True
  | s :: l => okSm s ∧ okSms l
def okCm : CmD → Prop
  | .mk _ s => s.length ≤ 16 ∧ okSms s
def okCms : List CmD → Prop
  | [] => True
  | c :: l => okCm c ∧ okCms l
def okCx : CxD → Prop
  | .mk p _ _ => p.length ≤ 8 ∧ okCms p
def okLs : List CxD → Prop
  | [] => True
  | c :: l => okCx c ∧ okLs l
end
theorem okSms_app : ∀ a b : List SmD, okSms a → okSms b → okSms (a ++ b)
  | [], _, _, hb => hb
  | s :: a, b, ha, hb => by
   rw [okSms] at ha
   show okSms (s :: (a ++ b))
   rw [okSms]
   exact ⟨ha.1, okSms_app a b ha.2 hb⟩
theorem okCms_app : ∀ a b : List CmD, okCms a → okCms b → okCms (a ++ b)
  | [], _, _, hb => hb
  | s :: a, b, ha, hb => by
   rw [okCms] at ha
   show okCms (s :: (a ++ b))
   rw [okCms]
   exact ⟨ha.1, okCms_app a b ha.2 hb⟩
theorem okLs_of : ∀ l : List CxD, (∀ c ∈ l, okCx c) → okLs l
  | [], _ => by rw [okLs]; trivial
  | c :: l, h => by
   rw [okLs]
   exact ⟨h c (by simp), okLs_of l fun x hx => h x (by simp [hx])⟩
theorem okLs_mem : ∀ l : List CxD, okLs l → ∀ c ∈ l, okCx c
  | c :: l, h, x, hx => by
   rw [okLs] at h
   rcases List.mem_cons.1 hx with rfl | hx
   · exact h.1
   · exact okLs_mem l h.2 x hx
theorem okCms_mem : ∀ l : List CmD, okCms l → ∀ c ∈ l, okCm c
  | c :: l, h, x, hx => by
   rw [okCms] at h
   rcases List.mem_cons.1 hx with rfl | hx
   · exact h.1
   · exact okCms_mem l h.2 x hx
theorem okSm_nil (k : Int) (n o x : ByteArray) (f : Bool) (a b : Int) : okSm (.mk k n o x f a b []) := by
 rw [okSm, okLs]
 exact ⟨Nat.zero_le _, trivial⟩
def OkF (fn : FnS) : Prop := ∀ k l s, fn k l = some s → okSm s
theorem attr_ok {l : List Nd} {s : SmD} (h : attrS l = some s) : okSm s := by
 unfold attrS at h
 split at h
 · split at h
   · cases h
     exact okSm_nil _ _ _ _ _ _ _
   · split at h
     · unfold attrVal at h
       split at h
       · split at h
         · cases h
           exact okSm_nil _ _ _ _ _ _ _
         · split at h
           · cases h
             exact okSm_nil _ _ _ _ _ _ _
           · cases h
       · cases h
     · cases h
 · cases h
theorem class_ok {fn : FnS} (hf : OkF fn) {r : List Nd} {s : SmD} (h : (classW fn r).1 = some s) : okSm s := by
 unfold classW at h
 simp only at h
 split at h
 · split at h
   · cases h
     exact okSm_nil _ _ _ _ _ _ _
   · cases h
 · split at h
   · exact hf _ _ _ h
   · cases h
theorem simple_ok {fn : FnS} (hf : OkF fn) {r : List Nd} {s : SmD} (h : (simpleW fn r).1 = some s) : okSm s := by
 unfold simpleW at h
 split at h
 · simp only at h
   split at h
   · cases h
     exact okSm_nil _ _ _ _ _ _ _
   · cases h
 · split at h
   · simp only at h
     split at h
     · cases h
       exact okSm_nil _ _ _ _ _ _ _
     · cases h
   · split at h
     · exact attr_ok h
     · exact class_ok hf h
theorem simF_ok {fn : FnS} (hf : OkF fn) : ∀ (m : Nat) (acc : List SmD) (r : List Nd) (ss : List SmD) (r' : List Nd), acc.length ≤ 16 → okSms acc → simF fn m acc r = some (ss, r') → ss.length ≤ 16 ∧ okSms ss
  | 0, acc, r, ss, r', _, _, h => by rw [simF] at h; cases h
  | m + 1, acc, r, ss, r', hl, ha, h => by
   rw [simF] at h
   split at h
   · have hs : ∀ s, (simpleW fn r).1 = some s → okSm s := fun s hh => simple_ok hf (r := r) hh
     generalize simpleW fn r = p at *
     obtain ⟨p1, p2⟩ := p
     cases p1 with
     | none => cases h
     | some s =>
      simp only at h
      split at h
      · cases h
      · rename_i h16
        refine simF_ok hf m _ _ ss r' ?_ ?_ h
        · rw [List.length_append, List.length_singleton]
          omega
        · refine okSms_app _ _ ha ?_
          rw [okSms, okSms]
          exact ⟨hs _ rfl, trivial⟩
   · cases h
     exact ⟨hl, ha⟩
theorem comp_ok {fn : FnS} (hf : OkF fn) {r r' : List Nd} {c : CmD} (h : compW fn r = some (c, r')) : okCm c := by
 unfold compW at h
 split at h
 · rename_i s q hq
   split at h
   · cases h
     rw [okCm]
     exact simF_ok hf 17 [] _ s _ (Nat.zero_le _) (by rw [okSms]; trivial) hq
   · split at h
     · cases h
       rw [okCm, okSms]
       exact ⟨Nat.zero_le _, trivial⟩
     · cases h
 · cases h
theorem chainF_ok {fn : FnS} (hf : OkF fn) (top : Bool) : ∀ (m : Nat) (parts : List CmD) (combs : List ByteArray) (r : List Nd) (c : CxD), parts.length ≤ 8 → okCms parts → chainF fn top m parts combs r = some c → okCx c
  | 0, _, _, _, _, _, _, h => by rw [chainF] at h; cases h
  | m + 1, parts, combs, r, c, hl, ha, h => by
   rw [chainF] at h
   split at h
   · cases h
   · rename_i p r1 hp
     have hc := comp_ok hf hp
     have hn : okCms (parts ++ [p]) := by
      refine okCms_app _ _ ha ?_
      rw [okCms, okCms]
      exact ⟨hc, trivial⟩
     split at h
     · cases h
     · rename_i h8
       have hl2 : (parts ++ [p]).length ≤ 8 := by rw [List.length_append, List.length_singleton]; omega
       split at h
       · split at h
         · cases h
           rw [okCx]
           exact ⟨hl2, hn⟩
         · cases h
       · split at h
         · split at h
           · cases h
             rw [okCx]
             exact ⟨hl2, hn⟩
           · cases h
         · exact chainF_ok hf top m _ _ _ c hl2 hn h
theorem list_ok {fn : FnS} (hf : OkF fn) {top forg : Bool} {l : List Nd} {all : List CxD} (h : listW fn top forg l = some all) : all.length ≤ 16 ∧ okLs all := by
 unfold listW at h
 split at h
 · cases h
 · split at h
   · cases h
   · rename_i h16
     cases h
     refine ⟨by omega, okLs_of _ fun c hc => ?_⟩
     obtain ⟨p, _, hp⟩ := List.mem_filterMap.1 hc
     exact chainF_ok hf top 9 [] [] _ c (Nat.zero_le _) (by rw [okCms]; trivial) hp
theorem nth_ok {ps : List Nd → Int × Int × Bool} {fn : FnS} (hf : OkF fn) {kind : Int} {l : List Nd} {s : SmD} (h : nthW ps fn kind l = some s) : okSm s := by
 unfold nthW at h
 split at h
 · split at h
   · split at h
     · rename_i all ha
       split at h
       · cases h
         rw [okSm]
         exact list_ok hf ha
       · cases h
     · cases h
   · cases h
 · split at h
   · cases h
     exact okSm_nil _ _ _ _ _ _ _
   · cases h
theorem fnS_ok (ps : List Nd → Int × Int × Bool) : ∀ m : Nat, OkF (fnS ps m)
  | 0 => fun k l s h => by cases h
  | m + 1 => fun k l s h => by
   rw [fnS] at h
   split at h
   · exact nth_ok (fnS_ok ps m) h
   · split at h
     · split at h
       · rename_i all ha
         cases h
         rw [okSm]
         exact list_ok (fnS_ok ps m) ha
       · cases h
     · cases h
theorem selS_ok {ps : List Nd → Int × Int × Bool} {l : List Nd} {all : List CxD} (h : selS ps l = some all) : all.length ≤ 16 ∧ okLs all := list_ok (fnS_ok ps 4) h
end Go.Proofs.YtclicjiakkcfcaaGreatDoor
