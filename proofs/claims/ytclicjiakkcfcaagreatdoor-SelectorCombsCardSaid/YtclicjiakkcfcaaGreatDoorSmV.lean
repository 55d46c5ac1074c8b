import Derived.Test.YtclicjiakkcfcaaGreatDoorSmS
import Derived.Test.YtclicjiakkcfcaaGreatDoorSyS
set_option maxRecDepth 100000
set_option maxHeartbeats 12800000
namespace Go.Proofs.YtclicjiakkcfcaaGreatDoor
open Go.RowKit
def lz : List Pc → Nat
  | [] => 0
  | p :: l => zLs p.2 + lz l
theorem lz_app : ∀ a b : List Pc, lz (a ++ b) = lz a + lz b
  | [], b => (Nat.zero_add _).symm
  | p :: a, b => by
   show zLs p.2 + lz (a ++ b) = zLs p.2 + lz a + lz b
   rw [lz_app a b]
   omega
def okP (ps : List Pc) : Prop := ∀ p ∈ ps, okLs p.2 ∧ p.2.length ≤ 16 ∧ vLs p.2
theorem okP_app {a b : List Pc} (ha : okP a) (hb : okP b) : okP (a ++ b) := fun p hp => by
 rw [List.mem_append] at hp
 rcases hp with hp | hp
 · exact ha p hp
 · exact hb p hp
theorem okP_nil : okP [] := fun p hp => by simp at hp
theorem okP_one (t : ByteArray) : okP [(t, [])] := fun p hp => by
 simp only [List.mem_cons, List.not_mem_nil, or_false] at hp
 subst hp
 exact ⟨by rw [okLs]; trivial, Nat.zero_le _, by rw [vLs]; trivial⟩
section
variable (tx : Int → Int → ByteArray)
theorem okP_sm {s : SmD} (h : okSm s) (hv : vSm s) : okP (pcSm tx s) := by
 cases s with
 | mk k n o x f a b l =>
  rw [okSm] at h
  rw [vSm] at hv
  obtain ⟨h1, h2⟩ := h
  have h3 := hv.2.2.2.2.2
  have h4 : ∀ t t2 : ByteArray, okP [(t, l), (t2, [])] := fun t t2 p hp => by
   simp only [List.mem_cons, List.not_mem_nil, or_false] at hp
   rcases hp with rfl | rfl
   · exact ⟨h2, h1, h3⟩
   · exact ⟨by rw [okLs]; trivial, Nat.zero_le _, by rw [vLs]; trivial⟩
  rw [pcSm]
  repeat' split
  all_goals first | exact okP_one _ | exact h4 _ _ | exact okP_nil
theorem okP_sms : ∀ l : List SmD, okSms l → vSms l → okP (pcSms tx l)
  | [], _, _ => okP_nil
  | s :: l, h, hv => by
   rw [okSms] at h
   rw [vSms] at hv
   exact okP_app (okP_sm tx h.1 hv.1) (okP_sms l h.2 hv.2)
theorem okP_cm {c : CmD} (h : okCm c) (hv : vCm c) : okP (pcCm tx c) := by
 cases c with
 | mk t s =>
  rw [okCm] at h
  rw [vCm] at hv
  exact okP_app (okP_one t) (okP_sms tx s h.2 hv.2)
theorem okP_more : ∀ (l : List CmD) (b : List ByteArray), okCms l → vCms l → okP (pcMore tx l b)
  | [], _, _, _ => by rw [pcMore]; exact okP_nil
  | c :: l, [], h, hv => by
   rw [okCms] at h
   rw [vCms] at hv
   rw [pcMore]
   exact okP_app (okP_cm tx h.1 hv.1) (okP_more l [] h.2 hv.2)
  | c :: l, b :: bs, h, hv => by
   rw [okCms] at h
   rw [vCms] at hv
   rw [pcMore]
   exact okP_app (okP_one (betS b)) (okP_app (okP_cm tx h.1 hv.1) (okP_more l bs h.2 hv.2))
theorem okP_cx {c : CxD} (h : okCx c) (hv : vCx c) : okP (pcCx tx c) := by
 cases c with
 | mk p cb ps =>
  rw [okCx] at h
  rw [vCx] at hv
  rw [pcCx]
  refine okP_app ?_ ?_
  · obtain ⟨_, h⟩ := h
    obtain ⟨hv, _⟩ := hv
    cases p with
    | nil => rw [pcFirst]; exact okP_nil
    | cons c l =>
     rw [okCms] at h
     rw [vCms] at hv
     rw [pcFirst]
     exact okP_app (okP_cm tx h.1 hv.1) (okP_more tx l cb h.2 hv.2)
  · split
    · exact okP_one _
    · exact okP_nil
theorem okP_rest : ∀ l : List CxD, okLs l → vLs l → okP (pcRest tx l)
  | [], _, _ => okP_nil
  | c :: l, h, hv => by
   rw [okLs] at h
   rw [vLs] at hv
   exact okP_app (okP_one _) (okP_app (okP_cx tx h.1 hv.1) (okP_rest l h.2 hv.2))
theorem okP_ls {l : List CxD} (h : okLs l) (hv : vLs l) : okP (pcLs tx l) := by
 cases l with
 | nil => exact okP_nil
 | cons c l =>
  rw [okLs] at h
  rw [vLs] at hv
  exact okP_app (okP_cx tx h.1 hv.1) (okP_rest tx l h.2 hv.2)
theorem lz_one (t : ByteArray) : lz [(t, [])] = 0 := by
 show zLs [] + 0 = 0
 rw [zLs]
theorem lz_sms : ∀ l : List SmD, lz (pcSms tx l) ≤ zSms l
  | [] => Nat.zero_le _
  | .mk k n o x f a b L :: l => by
   have h2 := lz_sms l
   have h3 : lz (pcSm tx (.mk k n o x f a b L)) ≤ zLs L := by
    have h4 : ∀ t t2 : ByteArray, lz [(t, L), (t2, [])] ≤ zLs L := fun t t2 => by
     show zLs L + (zLs [] + 0) ≤ zLs L
     rw [show zLs [] = 0 from by rw [zLs]]
     exact Nat.le_refl _
    rw [pcSm]
    repeat' split
    all_goals first | (rw [lz_one]; exact Nat.zero_le _) | exact h4 _ _ | exact Nat.zero_le _
   rw [pcSms, lz_app, zSms, zSm]
   omega
theorem lz_cm (c : CmD) : lz (pcCm tx c) ≤ zCm c := by
 cases c with
 | mk t s =>
  have := lz_sms tx s
  have e : lz (pcCm tx (.mk t s)) = lz (pcSms tx s) := by
   show zLs [] + lz (pcSms tx s) = _
   rw [show zLs [] = 0 from by rw [zLs]]
   omega
  rw [e, zCm]
  omega
theorem lz_more : ∀ (l : List CmD) (b : List ByteArray), lz (pcMore tx l b) ≤ zCms l
  | [], _ => by rw [pcMore]; exact Nat.zero_le _
  | c :: l, [] => by
   have h1 := lz_cm tx c
   have h2 := lz_more l []
   rw [pcMore, lz_app, zCms]
   omega
  | c :: l, b :: bs => by
   have h1 := lz_cm tx c
   have h2 := lz_more l bs
   rw [pcMore, zCms]
   show zLs [] + lz (pcCm tx c ++ pcMore tx l bs) ≤ _
   rw [lz_app, show zLs [] = 0 from by rw [zLs]]
   omega
theorem lz_cx (c : CxD) : lz (pcCx tx c) + 1 ≤ zCx c := by
 cases c with
 | mk p cb ps =>
  have h1 : lz (pcFirst tx p cb) ≤ zCms p := by
   cases p with
   | nil => rw [pcFirst]; exact Nat.zero_le _
   | cons c l =>
    have h1 := lz_cm tx c
    have h2 := lz_more tx l cb
    rw [pcFirst, lz_app, zCms]
    omega
  have h3 : lz (if isElS ps = true then [((⟨#[58, 58]⟩ ++ elW ps : ByteArray), ([] : List CxD))] else []) = 0 := by
   split
   · exact lz_one _
   · rfl
  rw [pcCx, lz_app, h3, zCx]
  omega
theorem lz_rest : ∀ l : List CxD, lz (pcRest tx l) + l.length ≤ zLs l
  | [] => Nat.zero_le _
  | c :: l => by
   have h1 := lz_cx tx c
   have h2 := lz_rest l
   show zLs [] + lz (pcCx tx c ++ pcRest tx l) + (l.length + 1) ≤ _
   rw [lz_app, show zLs [] = 0 from by rw [zLs], show zLs (c :: l) = zCx c + zLs l from by rw [zLs]]
   omega
theorem lz_ls (l : List CxD) : lz (pcLs tx l) + l.length ≤ zLs l := by
 cases l with
 | nil => exact Nat.zero_le _
 | cons c l =>
  have h1 := lz_cx tx c
  have h2 := lz_rest tx l
  show lz (pcCx tx c ++ pcRest tx l) + (l.length + 1) ≤ _
  rw [lz_app, show zLs (c :: l) = zCx c + zLs l from by rw [zLs]]
  omega
theorem rest_len : ∀ l : List CxD, okLs l → (pcRest tx l).length ≤ 301 * l.length
  | [], _ => Nat.zero_le _
  | c :: l, h => by
   rw [okLs] at h
   have h1 := pcCx_len tx h.1
   have h2 := rest_len l h.2
   rw [pcRest, List.length_cons, List.length_append, List.length_cons]
   omega
theorem ls_len {l : List CxD} (h : okLs l) : (pcLs tx l).length ≤ 301 * l.length := by
 cases l with
 | nil => exact Nat.zero_le _
 | cons c l =>
  rw [okLs] at h
  have h1 := pcCx_len tx h.1
  have h2 := rest_len tx l h.2
  rw [pcLs, List.length_append, List.length_cons]
  omega
def stT : List (List Pc) → ByteArray
  | [] => eB
  | ps :: r => pv tx ps ++ stT r
def stM : List (List Pc) → Nat
  | [] => 0
  | ps :: r => 1 + (ps.length + 1000 * lz ps) + stM r
theorem stT_pop (r : List (List Pc)) : stT tx ([] :: r) = stT tx r := by
 show pv tx [] ++ stT tx r = _
 rw [show pv tx [] = eB from rfl, ba_nil]
theorem stM_pop (r : List (List Pc)) : stM ([] :: r) = stM r + 1 := by
 show 1 + (0 + 1000 * 0) + stM r = _
 omega
theorem stT_none (t : ByteArray) (ps : List Pc) (r : List (List Pc)) : stT tx (((t, []) :: ps) :: r) = t ++ stT tx (ps :: r) := by
 show pv tx ((t, []) :: ps) ++ stT tx r = t ++ (pv tx ps ++ stT tx r)
 rw [pv_cons, ba_assoc]
theorem stM_none (t : ByteArray) (ps : List Pc) (r : List (List Pc)) : stM (ps :: r) < stM (((t, []) :: ps) :: r) := by
 show 1 + (ps.length + 1000 * lz ps) + stM r < 1 + (ps.length + 1 + 1000 * (zLs [] + lz ps)) + stM r
 omega
theorem stT_push (t : ByteArray) (l : List CxD) (ps : List Pc) (r : List (List Pc)) : stT tx (((t, l) :: ps) :: r) = t ++ stT tx (pcLs tx l :: ps :: r) := by
 show t ++ (txLs tx l ++ pv tx ps) ++ stT tx r = t ++ (pv tx (pcLs tx l) ++ (pv tx ps ++ stT tx r))
 rw [pv_ls, ba_assoc, ba_assoc]
theorem stM_push {l : List CxD} (h : okLs l) (hp : 0 < l.length) (t : ByteArray) (ps : List Pc) (r : List (List Pc)) : stM (pcLs tx l :: ps :: r) < stM (((t, l) :: ps) :: r) := by
 have h1 := lz_ls tx l
 have h2 := ls_len tx h
 show 1 + ((pcLs tx l).length + 1000 * lz (pcLs tx l)) + (1 + (ps.length + 1000 * lz ps) + stM r) < 1 + (ps.length + 1 + 1000 * (zLs l + lz ps)) + stM r
 omega
theorem stM_len : ∀ r : List (List Pc), r.length ≤ stM r
  | [] => Nat.le_refl _
  | ps :: r => by
   have := stM_len r
   show r.length + 1 ≤ 1 + (ps.length + 1000 * lz ps) + stM r
   omega
theorem stM_first {c : CxD} (h : okCx c) (hz : zCx c ≤ 100000000) : stM [pcCx tx c] ≤ 200000000000 := by
 have h1 := lz_cx tx c
 have h2 := pcCx_len tx h
 show 1 + ((pcCx tx c).length + 1000 * lz (pcCx tx c)) + 0 ≤ _
 omega
theorem stT_first (c : CxD) : stT tx [pcCx tx c] = txCx tx c := by
 show pv tx (pcCx tx c) ++ eB = _
 rw [pv_cx, ba_nilr]
end
def Others (w w' : World) : Prop := w.heap.size ≤ w'.heap.size ∧ ∀ i T cs, T ≠ 75 → T ≠ 5 → CB T w i cs → CB T w' i cs
theorem bd_ne {T : TypeId} {w : World} {b i : Nat} {c1 c2 : Array Value} (h : w.heap[b]? = some (.cells c1 75 (0, 0))) (hi : CB T w i c2) (hT : T ≠ 75) : i ≠ b := by
 rintro rfl
 unfold CB at hi
 rw [h] at hi
 injection hi with hi
 injection hi with _ hi _
 exact hT hi.symm
theorem bd_check2 (B b : Nat) (bs : List Value) (w : World) (h : Lib.IsBuilder 75 5 B b bs w) :
    Calls Tryz.prog 35 #[.pointer (some ⟨b, 0, none⟩)] w fun e w' => e = .returned (.tuple #[]) ∧ (Lib.BuilderAt 75 5 B b (.pointer (some ⟨b, 0, none⟩)) bs w' ∧ Below B w w' ∧ Others w w') := by
  rcases h with h | h
  · refine (bd_fresh b w h.cell0 h.shape h.frozen0).mono ?_
    rintro e w' ⟨rfl, rfl⟩
    refine ⟨rfl, h.used _, (Below.refl B w).setCell (p := ⟨b, 0, none⟩) h.1 _, by simp, fun i T cs h1 h2 hc => ?_⟩
    obtain ⟨_, v, hb, _⟩ := h
    exact hc.far (p := ⟨b, 0, none⟩) (bd_ne hb hc h1) _
  · refine (bd_used b w h.cell0).mono ?_
    rintro e w' ⟨rfl, rfl⟩
    exact ⟨rfl, h, Below.refl B _, Nat.le_refl _, fun _ _ _ _ _ hc => hc⟩
theorem bd_write2 (B b : Nat) (bs : List Value) (s : ByteArray) (w : World) (h : Lib.IsBuilder 75 5 B b bs w) (hlen : bs.length + s.size ≤ 140737488355328) (hBw : B ≤ w.heap.size) :
    Calls Tryz.prog 22 #[.pointer (some ⟨b, 0, none⟩), .string s] w fun e w' => e = .returned (.tuple #[.int .i64 s.size, .nilIface]) ∧ (Lib.IsBuilder 75 5 B b (bs ++ Lib.strCells s) w' ∧ Below B w w' ∧ Others w w') := by
  obtain ⟨i0, hi, hz0, hz1, hz2⟩ := info_parts bd_byte
  go_enter Tryz.func22, Tryz.ntmps22
  go_wp2_with (go_at_call 35; refine (bd_check2 B b bs _ h).mono ?_)
  rintro e w1 ⟨rfl, h1, hb1, ho1⟩
  obtain ⟨hB, v, hbk, hown, hne⟩ := h1
  have c0 : w1.cell? ⟨b, 0, none⟩ = some (.pointer (some ⟨b, 0, none⟩)) := by rw [Lib.cell_of_heap hbk]; rfl
  have c1 : w1.cell? ⟨b, 1, none⟩ = some v := by rw [Lib.cell_of_heap hbk]; rfl
  go_wp2_with (at_builtin; refine Lib.wpList_append_own_string _ rfl _ _ 52 9 rfl B 5 i0 Tryz.underlying52 Tryz.underlying9 hi hz0 hz1 hz2 _ _ _ rfl hown s rfl ?c3 ?c4 ?c5 ?_)
  case c3 => unfold maxLen; omega
  case c4 => omega
  case c5 => have := hb1.size; omega
  intro v' w2 hown' hgrow _
  have hlt : b < w1.heap.size := by
   rcases Nat.lt_or_ge b w1.heap.size with h' | h'
   · exact h'
   · simp [Array.getElem?_eq_none h'] at hbk
  have hb2 : w2.heap[b]? = some (.cells #[.pointer (some ⟨b, 0, none⟩), v] 75 (0, 0)) := by
   rw [hgrow.block b hlt (fun e => hne e.symm)]
   exact hbk
  have d0 : w2.cell? ⟨b, 0, none⟩ = some (.pointer (some ⟨b, 0, none⟩)) := by rw [Lib.cell_of_heap hb2]; rfl
  have d1 : w2.cell? ⟨b, 1, none⟩ = some v := by rw [Lib.cell_of_heap hb2]; rfl
  have f1 : w2.frozen? ⟨b, 1, none⟩ = false := Lib.frozen_of_heap hb2 1
  obtain ⟨ao, n', cap, rfl⟩ : ∃ ao n' cap, v' = .slice ao n' cap := by
   rcases hown'.2 with ⟨hv, _⟩ | ⟨g, cap, cur, hv, _⟩
   · exact ⟨_, _, _, hv⟩
   · exact ⟨_, _, _, hv⟩
  go_wp2
  go_ret2
  refine ⟨rfl, .inr ?_, ?_, ?_⟩
  · exact Lib.BuilderAt.put (T := 75) (e := 5) hB hb2 (bs' := bs ++ Lib.strCells s) (by simpa [Lib.strCells_length] using hown') (by decide)
  · exact (hb1.grown hgrow (by have := hb1.size; omega) (fun k hk => (hown.lt k hk).1)).setCell (p := ⟨b, 1, none⟩) hB _
  · refine ⟨by simpa using Nat.le_trans ho1.1 hgrow.size, fun i T cs t1 t2 hc => ?_⟩
    have h1 := ho1.2 i T cs t1 t2 hc
    have h2 : CB T w2 i cs := h1.grows hgrow fun e => Lib.ownBlock_ne hown h1 t2 e.symm
    exact h2.far (p := ⟨b, 1, none⟩) (bd_ne hb2 h2 t1) _
theorem bd_kept {B b : Nat} {bs : List Value} {w w' : World} (h : Lib.IsBuilder 75 5 B b bs w) (hk : ∀ i T cs, (T = 75 ∨ T = 5) → CB T w i cs → CB T w' i cs) : Lib.IsBuilder 75 5 B b bs w' := by
 have hh : ∀ p, Lib.BuilderAt 75 5 B b p bs w → Lib.BuilderAt 75 5 B b p bs w' := fun p h => by
  obtain ⟨hB, v, hbk, hown, hne⟩ := h
  refine ⟨hB, v, hk b _ _ (.inl rfl) hbk, ⟨hown.1, ?_⟩, hne⟩
  rcases hown.2 with hn | ⟨g, cap, cur, rfl, hb, hgg, rest⟩
  · exact .inl hn
  · exact .inr ⟨g, cap, cur, rfl, hb, hk g _ _ (.inr rfl) hgg, rest⟩
 exact h.imp (hh _) (hh _)
def PcR (w : World) (B : Nat) (ps : List Pc) (v : Value) : Prop :=
 ∃ a c, v = .slice a ps.length c ∧ ps.length ≤ c ∧ (0 < ps.length → ∃ b off cs, a = some ⟨b, off, none⟩ ∧ CB 80 w b cs ∧ ∀ j (hj : j < ps.length), ∃ la lc, cs[off + j * 2]? = some (.string ps[j].1) ∧ cs[off + j * 2 + 1]? = some (.slice la ps[j].2.length lc) ∧ rdG w (fun b => b < B) (.sl 3 (cxsDt ps[j].2)) (.slice la ps[j].2.length lc))
section
variable {w w' : World} {B g cap : Nat} {v : Value} {ps : List Pc}
theorem PcR.keep (h : PcR w B ps v) (hk : ∀ i cs, CB 80 w i cs → CB 80 w' i cs) (hB : ∀ b, b < B → w'.heap[b]? = w.heap[b]?) (hs : w.heap.size ≤ w'.heap.size) : PcR w' B ps v := by
 obtain ⟨a, c, hv, hle, h⟩ := h
 refine ⟨a, c, hv, hle, fun hp => ?_⟩
 obtain ⟨b, off, cs, ha, hb, hr⟩ := h hp
 refine ⟨b, off, cs, ha, hk b cs hb, fun j hj => ?_⟩
 obtain ⟨la, lc, h1, h2, h3⟩ := hr j hj
 exact ⟨la, lc, h1, h2, rdG.move (fun _ _ h => h) (fun b hb _ => hB b hb) hs _ _ h3⟩
theorem PcR.of (h : PcW B w v ps) : PcR w B ps v := by
 obtain ⟨ks, h1, h2⟩ := h
 have hkl := PcW.len h2
 obtain ⟨a, c, hv, hle⟩ := row_sl h1.row
 rw [hkl] at hv hle
 refine ⟨a, c, hv, hle, fun hp => ?_⟩
 rcases h1.row.2 with ⟨_, h0⟩ | ⟨g, cap, cur, hg, r1, r2, r3, r4, r5, r6⟩
 · omega
 · rw [hv] at hg
   injection hg with hg _ _
   refine ⟨g, 0, cur, hg, r2, fun j hj => ?_⟩
   have hjk : j < ks.length := by rw [hkl]; exact hj
   have hok := h1.ok ks[j] (List.getElem_mem hjk)
   have hsn : ks[j].2 = pcDt ps[j] := by
    have e1 : (ks.map Prod.snd)[j]? = (ps.map pcDt)[j]? := by rw [h2]
    rw [List.getElem?_map, List.getElem?_map, List.getElem?_eq_getElem hjk, List.getElem?_eq_getElem hj] at e1
    simpa using e1
   obtain ⟨l1, l2, hr⟩ := hok
   obtain ⟨x, y, hxy⟩ : ∃ x y, ks[j].1 = [x, y] := by
    generalize ks[j].1 = q at l1
    match q, l1 with
    | [x, y], _ => exact ⟨x, y, rfl⟩
   have hx := hr 0 (by rw [hxy]; simp) (by rw [hsn]; simp [pcDt])
   have hy := hr 1 (by rw [hxy]; simp) (by rw [hsn]; simp [pcDt])
   simp only [hxy, hsn, pcDt, List.getElem_cons_zero, List.getElem_cons_succ] at hx hy
   obtain rfl := hx.leaf
   obtain ⟨la, lc, rfl, _⟩ := hy.shape
   rw [cxsDt_len] at hy
   have hfl : ∀ i, i < 2 → cur[j * 2 + i]? = ks[j].1[i]? := fun i hi => by
    have e1 := flat_atM Prod.fst 2 ks (fun x hx => (h1.ok x hx).1) j hjk i hi
    rw [← r6, List.getElem?_take, if_pos (by omega)] at e1
    simpa using e1
   have f0 := hfl 0 (by omega)
   have f1 := hfl 1 (by omega)
   rw [hxy] at f0 f1
   refine ⟨la, lc, by rw [Nat.zero_add]; simpa using f0, by rw [Nat.zero_add]; simpa [cxsDt_len] using f1, hy.weak fun b _ hb => hb.1⟩
theorem PcR.nil (a : Option Addr) (c : Nat) : PcR w B [] (.slice a 0 c) := ⟨a, c, rfl, Nat.zero_le _, fun h => absurd h (Nat.lt_irrefl 0)⟩
theorem PcR.head {p : Pc} (h : PcR w B (p :: ps) v) : ∃ b off c la lc, v = .slice (some ⟨b, off, none⟩) (ps.length + 1) c ∧ ps.length + 1 ≤ c ∧ b < w.heap.size ∧ w.cell? ⟨b, off, none⟩ = some (.string p.1) ∧ w.cell? ⟨b, off + 1, none⟩ = some (.slice la p.2.length lc) ∧ rdG w (fun b => b < B) (.sl 3 (cxsDt p.2)) (.slice la p.2.length lc) ∧ PcR w B ps (.slice (some ⟨b, off + 2, none⟩) ps.length (c - 1)) := by
 obtain ⟨a, c, hv, hle, h⟩ := h
 obtain ⟨b, off, cs, rfl, hb, hr⟩ := h (by simp)
 obtain ⟨la, lc, h1, h2, h3⟩ := hr 0 (by simp)
 simp only [Nat.zero_mul, Nat.add_zero, List.getElem_cons_zero] at h1 h2 h3
 rw [List.length_cons] at hv hle
 refine ⟨b, off, c, la, lc, hv, hle, hb.lt, (hb.cell off).trans h1, (hb.cell (off + 1)).trans h2, h3, _, _, rfl, by omega, fun hp => ⟨b, off + 2, cs, rfl, hb, fun j hj => ?_⟩⟩
 obtain ⟨la, lc, h1, h2, h3⟩ := hr (j + 1) (by simpa using hj)
 simp only [List.getElem_cons_succ] at h1 h2 h3
 rw [show off + (j + 1) * 2 = off + 2 + j * 2 by omega] at h1 h2
 exact ⟨la, lc, h1, h2, h3⟩
abbrev TE := Value × List Pc
structure TsW (w : World) (B g cap : Nat) (ks : List TE) : Prop where
  own : ∃ cur, CB 76 w g cur ∧ cur.size = cap ∧ ks.length ≤ cap ∧ cur.toList.take ks.length = ks.map Prod.fst
  base : B ≤ g
  cap : cap ≤ maxLen
  rd : ∀ e ∈ ks, PcR w B e.2 e.1
theorem TsW.lt {ks : List TE} (h : TsW w B g cap ks) : g < w.heap.size := by
 obtain ⟨cur, hcb, _⟩ := h.own
 exact hcb.lt
theorem TsW.keep {ks : List TE} (h : TsW w B g cap ks) (hk : ∀ i T cs, (T = 80 ∨ T = 76) → CB T w i cs → CB T w' i cs) (hB : ∀ b, b < B → w'.heap[b]? = w.heap[b]?) (hs : w.heap.size ≤ w'.heap.size) : TsW w' B g cap ks := by
 obtain ⟨⟨cur, hcb, h2⟩, h3, h4, h5⟩ := h
 exact ⟨⟨cur, hk g _ _ (.inr rfl) hcb, h2⟩, h3, h4, fun e he => (h5 e he).keep (fun i cs hc => hk i _ _ (.inl rfl) hc) hB hs⟩
theorem TsW.pop {ks : List TE} {t : TE} (h : TsW w B g cap (ks ++ [t])) : TsW w B g cap ks := by
 obtain ⟨⟨cur, hcb, h1, h2, h3⟩, h4, h5, h6⟩ := h
 rw [List.length_append, List.length_singleton] at h2 h3
 refine ⟨⟨cur, hcb, h1, by omega, ?_⟩, h4, h5, fun e he => h6 e (List.mem_append_left _ he)⟩
 have h7 : (cur.toList.take (ks.length + 1)).take ks.length = ((ks ++ [t]).map Prod.fst).take ks.length := by rw [h3]
 rw [List.take_take, Nat.min_eq_left (by omega), List.map_append, List.take_append_of_le_length (by rw [List.length_map]; exact Nat.le_refl _), List.take_of_length_le (l := ks.map Prod.fst) (by rw [List.length_map]; exact Nat.le_refl _)] at h7
 exact h7
theorem TsW.turn {ks : List TE} {t : TE} (h : TsW w B g cap (ks ++ [t])) : w.cell? ⟨g, ks.length, none⟩ = some t.1 ∧ w.frozen? ⟨g, ks.length, none⟩ = false ∧ ∀ t', PcR w B t'.2 t'.1 → TsW (w.setCell ⟨g, ks.length, none⟩ t'.1) B g cap (ks ++ [t']) := by
 obtain ⟨⟨cur, hcb, h1, h2, h3⟩, h4, h5, h6⟩ := h
 rw [List.length_append, List.length_singleton] at h2 h3
 have hat : ∀ j, j < ks.length + 1 → cur[j]? = ((ks ++ [t]).map Prod.fst)[j]? := fun j hj => by
  rw [← h3, List.getElem?_take, if_pos hj]
  simp
 refine ⟨?_, hcb.frozen _, fun t' ht' => ?_⟩
 · rw [hcb.cell, hat _ (Nat.lt_succ_self _), List.map_append, List.getElem?_append_right (by rw [List.length_map]; exact Nat.le_refl _)]
   simp
 · have hk : ∀ i cs, CB 80 w i cs → CB 80 (w.setCell ⟨g, ks.length, none⟩ t'.1) i cs := fun i cs hc => hc.far (p := ⟨g, ks.length, none⟩) (by
    rintro rfl
    unfold CB at hc hcb
    rw [hcb] at hc
    injection hc with hc
    injection hc with _ hc _
    exact absurd hc (by decide)) _
   have hB : ∀ b, b < B → (w.setCell ⟨g, ks.length, none⟩ t'.1).heap[b]? = w.heap[b]? := fun b hb => heap_setCell_other w ⟨g, ks.length, none⟩ b t'.1 (by show b ≠ g; omega)
   have hs : w.heap.size ≤ (w.setCell ⟨g, ks.length, none⟩ t'.1).heap.size := by simp
   refine ⟨⟨_, hcb.set ks.length t'.1, by simp [h1], by simpa using h2, ?_⟩, h4, h5, fun e he => ?_⟩
   · apply List.ext_getElem?
     intro j
     rw [List.length_append, List.length_singleton, List.getElem?_take]
     by_cases hj : j < ks.length + 1
     · rw [if_pos hj]
       have e0 : (cur.setIfInBounds ks.length t'.1).toList[j]? = (cur.setIfInBounds ks.length t'.1)[j]? := by rw [Array.getElem?_toList]
       rw [e0, Array.getElem?_setIfInBounds, List.map_append]
       by_cases hj2 : ks.length = j
       · subst hj2
         rw [if_pos rfl, if_pos (by omega), List.getElem?_append_right (by rw [List.length_map]; exact Nat.le_refl _)]
         simp
       · rw [if_neg hj2, hat j hj, List.map_append, List.getElem?_append_left (by rw [List.length_map]; omega), List.getElem?_append_left (by rw [List.length_map]; omega)]
     · rw [if_neg hj, List.getElem?_eq_none]
       simp
       omega
   · rw [List.mem_append] at he
     rcases he with he | he
     · exact (h6 e (List.mem_append_left _ he)).keep hk hB hs
     · simp only [List.mem_cons, List.not_mem_nil, or_false] at he
       subst he
       exact ht'.keep hk hB hs
theorem TsW.row {ks : List TE} (h : TsW w B g cap ks) : w.ownsRow B 76 1 (.slice (some ⟨g, 0, none⟩) ks.length cap) ks.length (ks.map Prod.fst) := by
 obtain ⟨⟨cur, hcb, h1, h2, h3⟩, h4, h5, h6⟩ := h
 exact ⟨by simp, .inr ⟨g, cap, cur, rfl, h4, hcb, h2, h5, by simpa using h1, by simpa using h3⟩⟩
theorem TsW.push {ks : List TE} {t : TE} {v' : Value} (h : TsW w B g cap ks) (hr : PcR w B t.2 t.1) (ho : w'.ownsRow B 76 1 v' (ks.length + 1) (ks.map Prod.fst ++ [t.1])) (hg : w.grownBy w' (some g)) :
    ∃ g' cap', v' = .slice (some ⟨g', 0, none⟩) (ks.length + 1) cap' ∧ TsW w' B g' cap' (ks ++ [t]) := by
  obtain ⟨⟨cur0, hcb0, _⟩, hB0, _⟩ := h.own, h.base, h.cap
  rcases ho.2 with ⟨_, h0⟩ | ⟨g', cap', cur, rfl, h1, h2, h3, h4, h5, h6⟩
  · omega
  · refine ⟨g', cap', rfl, ⟨⟨cur, h2, by simpa using h5, by simpa using h3, by rw [List.length_append, List.map_append]; simpa using h6⟩, h1, h4, fun e he => ?_⟩⟩
    have hre : PcR w B e.2 e.1 := by
     rw [List.mem_append] at he
     rcases he with he | he
     · exact h.rd e he
     · simp only [List.mem_cons, List.not_mem_nil, or_false] at he
       subst he
       exact hr
    refine hre.keep (fun i cs hc => hc.grows hg ?_) (fun b hb => hg.block b (Nat.lt_of_lt_of_le hb (Nat.le_trans hB0 (Nat.le_of_lt hcb0.lt))) (fun e => by injection e with e; omega)) hg.size
    intro e
    injection e with e
    subst e
    unfold CB at hc hcb0
    rw [hcb0] at hc
    injection hc with hc
    injection hc with _ hc _
    exact absurd hc (by decide)
end
theorem info_prow : (Tryz.prog.info? 76).map (fun i => (i.zero, i.size, i.bytes)) = some (some (.slice none 0 0), 1, 24) := by kernel_rfl
theorem snoc_or {α : Type} : ∀ l : List α, l = [] ∨ ∃ a t, l = a ++ [t]
  | [] => .inl rfl
  | x :: l => by
   rcases snoc_or l with rfl | ⟨a, t, rfl⟩
   · exact .inr ⟨[], x, rfl⟩
   · exact .inr ⟨x :: a, t, rfl⟩
theorem strCells_app (a b : ByteArray) : Lib.strCells a ++ Lib.strCells b = Lib.strCells (a ++ b) := by
 unfold Lib.strCells
 rw [ByteArray.data_append, Array.toList_append, List.map_append]
abbrev sts (ks : List TE) : List (List Pc) := (ks.map Prod.snd).reverse
theorem sts_snoc (ks : List TE) (t : TE) : sts (ks ++ [t]) = t.2 :: sts ks := by
 unfold sts
 rw [List.map_append, List.reverse_append]
 rfl
theorem gb_bel {w w' : World} (h : w.grownBy w' none) : Below w.heap.size w w' := ⟨h.os, h.tape, h.output, h.size, fun i hi => h.block i hi (by simp)⟩
structure TxI (g0 B : Nat) (K : World → Prop) (w : World) (bb g cap : Nat) (ks : List TE) (out : ByteArray) (wr : World) : Prop where
  ts : TsW wr B g cap ks
  tab : TabK g0 K wr
  bd : Lib.IsBuilder 75 5 B bb (Lib.strCells out) wr
  bel : Below B w wr
  base : g0 ≤ B ∧ B ≤ wr.heap.size
section
variable {g0 B : Nat} {K : World → Prop} {tx : Int → Int → ByteArray} {w wr w' : World} {bb g cap : Nat} {ks : List TE} {t : TE} {out : ByteArray}
theorem TxI.below (hx : TxOk g0 K tx) (h : TxI g0 B K w bb g cap ks out wr) (hb : Below wr.heap.size wr w') : TxI g0 B K w bb g cap ks out w' := by
 have hbl := h.base
 refine ⟨h.ts.keep (fun i T cs _ hc => hc.below hb hc.lt) (fun b hbB => hb.block b (by omega)) hb.size, h.tab.below hx hb, bd_kept h.bd fun i T cs _ hc => hc.below hb hc.lt, h.bel.trans ⟨hb.os, hb.tape, hb.output, hb.size, fun i hi => hb.block i (by omega)⟩, hbl.1, Nat.le_trans hbl.2 hb.size⟩
theorem TxI.pop (h : TxI g0 B K w bb g cap (ks ++ [t]) out wr) : TxI g0 B K w bb g cap ks out wr := ⟨h.ts.pop, h.tab, h.bd, h.bel, h.base⟩
theorem TxI.turn (hx : TxOk g0 K tx) (h : TxI g0 B K w bb g cap (ks ++ [t]) out wr) {t' : TE} (ht : PcR wr B t'.2 t'.1) : TxI g0 B K w bb g cap (ks ++ [t']) out (wr.setCell ⟨g, ks.length, none⟩ t'.1) := by
 have hg := h.ts.base
 have hbl := h.base
 obtain ⟨_, _, hturn⟩ := h.ts.turn
 obtain ⟨cur, hcb, _⟩ := h.ts.own
 refine ⟨hturn t' ht, h.tab.keep hx (by simp) (fun i hi => heap_setCell_other wr ⟨g, ks.length, none⟩ i t'.1 (by show i ≠ g; omega)), bd_kept h.bd fun i T cs hT hc => hc.far (p := ⟨g, ks.length, none⟩) ?_ _, h.bel.setCell (p := ⟨g, ks.length, none⟩) hg _, hbl.1, by simpa using hbl.2⟩
 rintro rfl
 unfold CB at hc hcb
 rw [hcb] at hc
 injection hc with hc
 injection hc with _ hc _
 rcases hT with rfl | rfl
 · exact absurd hc (by decide)
 · exact absurd hc (by decide)
theorem TxI.wrote (hx : TxOk g0 K tx) (h : TxI g0 B K w bb g cap ks out wr) {s : ByteArray} (h1 : Lib.IsBuilder 75 5 B bb (Lib.strCells out ++ Lib.strCells s) w') (h2 : Below B wr w') (h3 : Others wr w') : TxI g0 B K w bb g cap ks (out ++ s) w' := by
 have hbl := h.base
 refine ⟨h.ts.keep (fun i T cs hT hc => h3.2 i T cs ?_ ?_ hc) (fun b hbB => h2.block b hbB) h3.1, h.tab.keep hx h3.1 (fun i hi => h2.block i (by omega)), by rw [← strCells_app]; exact h1, h.bel.trans h2, hbl.1, Nat.le_trans hbl.2 h3.1⟩
 · rcases hT with rfl | rfl
   · decide
   · decide
 · rcases hT with rfl | rfl
   · decide
   · decide
theorem TxI.push (hx : TxOk g0 K tx) (h : TxI g0 B K w bb g cap ks out wr) {v' : Value} (hr : PcR wr B t.2 t.1) (ho : w'.ownsRow B 76 1 v' (ks.length + 1) (ks.map Prod.fst ++ [t.1])) (hg : wr.grownBy w' (some g)) :
    ∃ g' cap', v' = .slice (some ⟨g', 0, none⟩) (ks.length + 1) cap' ∧ TxI g0 B K w bb g' cap' (ks ++ [t]) out w' := by
  have hgB := h.ts.base
  have hbl := h.base
  obtain ⟨cur, hcb, _⟩ := h.ts.own
  obtain ⟨g', cap', hv, hts⟩ := h.ts.push hr ho hg
  refine ⟨g', cap', hv, hts, h.tab.grown hx hg (fun q hq => by injection hq; omega), bd_kept h.bd fun i T cs hT hc => hc.grows hg ?_, h.bel.grown hg hbl.2 (fun q hq => by injection hq; omega), hbl.1, Nat.le_trans hbl.2 hg.size⟩
  intro e
  injection e with e
  subst e
  unfold CB at hc hcb
  rw [hcb] at hc
  injection hc with hc
  injection hc with _ hc _
  rcases hT with rfl | rfl
  · exact absurd hc (by decide)
  · exact absurd hc (by decide)
theorem TxI.start (hx : TxOk g0 K tx) {w2 w3 : World} {v : Value} {ps : List Pc} (hw2 : Below B w w2) (hB : B ≤ w2.heap.size) (hg0 : g0 ≤ B) (ht : TabK g0 K w2) (hbb : B ≤ bb) (hbd : CB 75 w2 bb #[.pointer none, .slice none 0 0]) (hp : PcPost B w2 (.slice none 0 0) ps (.returned v) w3) :
    TxI g0 B K w bb w3.heap.size 1 [(v, ps)] eB (w3.alloc (.cells #[v] 76)) := by
  obtain ⟨v2, he, h1, h2, h3⟩ := hp
  injection he with he
  subst he
  have hb3 := gb_bel h2
  have hs3 := hb3.size
  have hb4 := bel_newS w3 (.cells #[v] 76)
  have hb24 := hb3.trans (⟨hb4.os, hb4.tape, hb4.output, hb4.size, fun i hi => hb4.block i (by omega)⟩ : Below w2.heap.size w3 _)
  have hs4 := hb24.size
  refine ⟨⟨⟨#[v], CB.new _ _, rfl, Nat.le_refl _, rfl⟩, by omega, by unfold maxLen; omega, fun e he => ?_⟩, ht.below hx hb24, .inl ⟨hbb, .slice none 0 0, hbd.below hb24 hbd.lt, World.ownsRow_nil _ _ _ _, by simp [Value.ownBlock]⟩, hw2.trans ⟨hb24.os, hb24.tape, hb24.output, hb24.size, fun i hi => hb24.block i (by omega)⟩, hg0, by omega⟩
  simp only [List.mem_cons, List.not_mem_nil, or_false] at he
  subst he
  exact (PcR.of h1).keep (fun i cs hc => hc.below hb4 hc.lt) (fun b hb => hb4.block b (by omega)) hb4.size
end
theorem tx_bnd {n : Nat} (h : n ≤ 200000000000) : n + 1 ≤ maxLen ∧ (n + 1) * 24 ≤ 140737488355328 := by unfold maxLen; omega
theorem tx_size {out s r T : ByteArray} (h : out ++ (s ++ r) = T) (hT : T.size ≤ 1000000000) : (Lib.strCells out).length + s.size ≤ 140737488355328 := by
 rw [Lib.strCells_length]
 have := congrArg ByteArray.size h
 rw [sz_app, sz_app] at this
 omega
theorem row_news (w : World) (u : Value) (T : TypeId) : ∀ j y, ([u])[j]? = some y → (w.alloc (.cells #[u] T)).cell? ((⟨w.heap.size, 0, none⟩ : Addr).add j) = some y :=
 World.news_of_block (cs := #[u]) (heap_alloc_self _ _)
theorem row_oneL (p : Option Addr) (m c : Nat) : ∀ u ∈ [Value.slice p m c], u.oneCell' = true := by
 intro u hu
 simp only [List.mem_cons, List.not_mem_nil, or_false] at hu
 rcases hu with rfl
 rfl
theorem idx_back (n : Nat) (h : n ≤ 200000000000) : wrap64 (((n + 1 : Nat) : Int) - 1) = (n : Int) := by unfold wrap64; omega
theorem pc_shape {B : Nat} {w w' : World} {v v' : Value} {ps : List Pc} (h : PcPost B w v ps (.returned v') w') : ∃ a c, v' = .slice a ps.length c := by
 obtain ⟨v2, he, h1, _⟩ := h
 injection he with he
 subst he
 obtain ⟨a, c, h, _⟩ := h1.shape
 exact ⟨a, c, h⟩
def TextPost (w : World) (T : ByteArray) (e : Ending) (w' : World) : Prop := e = .returned (.string T) ∧ Below w.heap.size w w'
theorem selText_any {g0 : Nat} {K : World → Prop} {tx : Int → Int → ByteArray} {w : World} {Q : Nat → Prop} {u1 u2 : Value} {Pt : List CmD} {cb : List ByteArray} {pe : Int} (hx : TxOk g0 K tx) (ht : TabK g0 K w) (h1 : rdG w Q (.sl 2 (cmsDt Pt)) u1) (h2 : rdG w Q (.sl 1 (cbDt cb)) u2) (hok : okCx (.mk Pt cb pe)) (hv : vCx (.mk Pt cb pe)) (hz : zCx (.mk Pt cb pe) ≤ 100000000) (hts : (txCx tx (.mk Pt cb pe)).size ≤ 1000000000) :
    Calls Tryz.prog 13 #[.agg (cxC u1 u2 pe)] w (TextPost w (txCx tx (.mk Pt cb pe))) := by
  obtain ⟨i0, hi0, hz0, hz1, hz2⟩ := info_parts info_prow
  have h1 := h1.weak (Q := fun b => b < w.heap.size) fun b hl _ => hl
  have h2 := h2.weak (Q := fun b => b < w.heap.size) fun b hl _ => hl
  obtain ⟨ua1, uc1, rfl, _⟩ := h1.shape
  obtain ⟨ua2, uc2, rfl, _⟩ := h2.shape
  obtain ⟨N, hN⟩ : ∃ N, (cmsDt Pt).length = N := ⟨_, rfl⟩
  obtain ⟨C, hC⟩ : ∃ C, (cbDt cb).length = C := ⟨_, rfl⟩
  rw [hN] at h1 ⊢
  rw [hC] at h2 ⊢
  obtain ⟨cx, hcx⟩ : ∃ x, CxD.mk Pt cb pe = x := ⟨_, rfl⟩
  rw [hcx] at hz hts ⊢
  have hokx := hok
  have hvx := hv
  rw [hcx] at hokx hvx
  obtain ⟨T, hT⟩ : ∃ T, txCx tx cx = T := ⟨_, rfl⟩
  rw [hT] at hts ⊢
  obtain ⟨M0, hM0⟩ : ∃ M, stM [pcCx tx cx] = M := ⟨_, rfl⟩
  have hM := stM_first tx hokx hz
  rw [hM0] at hM
  have HM0 := Lib.hid hM0
  have HST0 : Hid (eB ++ stT tx [pcCx tx cx] = T) := by show _ = _; rw [ba_nil, stT_first, hT]
  have HOP0 := Lib.hid (okP_cx tx hokx hvx)
  have HX := Lib.hid hx
  have HG0 := Lib.hid ht.lt
  have hb2 := below_seq (bel_newS w (.cells (cxC (.slice ua1 N uc1) (.slice ua2 C uc2) pe) 35)) (bel_newS (w.alloc (.cells (cxC (.slice ua1 N uc1) (.slice ua2 C uc2) pe) 35)) (.cells #[.pointer none, .slice none 0 0] 75))
  have HB2 := Lib.hid hb2
  have HT2 := Lib.hid (ht.below hx hb2)
  have HZ := Lib.hid ((CB.new (T := 35) w (cxC (.slice ua1 N uc1) (.slice ua2 C uc2) pe)).alloc (.cells #[.pointer none, .slice none 0 0] 75))
  have HBD := Lib.hid (CB.new (T := 75) (w.alloc (.cells (cxC (.slice ua1 N uc1) (.slice ua2 C uc2) pe) 35)) #[.pointer none, .slice none 0 0])
  have HAC := Lib.hid (addChain_any (g0 := g0) (B := w.heap.size) (K := K) (tx := tx) (pcs := []) (Pt := Pt) (cb := cb) (pe := pe) hx (ht.below hx hb2) (PcW.nil _ _) hb2.size ht.lt (h1.under hb2 (Nat.le_refl _)) (h2.under hb2 (Nat.le_refl _)) hok hv (Nat.zero_le _))
  rw [hcx] at HAC
  have hbb : (w.alloc (.cells (cxC (.slice ua1 N uc1) (.slice ua2 C uc2) pe) 35)).heap.size = w.heap.size + 1 := by simp
  rw [hbb] at HBD
  clear h1 h2 hok hv hz hokx hvx hT hM0 hx ht hb2 hcx hN hC hbb
  go_enter Tryz.func13, Tryz.ntmps13
  go_upto_region 2 with fail
  generalize World.alloc (World.alloc _ _) _ = W2 at *
  have HBB : Hid (w.heap.size ≤ w.heap.size + 1) := Nat.le_succ _
  generalize w.heap.size + 1 = bb at *
  have z0 : W2.cell? ⟨w.heap.size, 0, none⟩ = some (.slice ua1 N uc1) := HZ.out.cell 0
  have z1 : W2.cell? ⟨w.heap.size, 1, none⟩ = some (.slice ua2 C uc2) := HZ.out.cell 1
  have z2 : W2.cell? ⟨w.heap.size, 2, none⟩ = some (.int .i64 pe) := HZ.out.cell 2
  go_wp2_with (go_at_call 21; refine HAC.out.mono ?_; intro e w3 hpp; obtain ⟨a3, rfl, hpp⟩ := pc_swap hpp; obtain ⟨xa, xc, hxa⟩ := pc_shape hpp; subst hxa; have HI := Lib.hid (TxI.start HX.out HB2.out HB2.out.size HG0.out HT2.out HBB.out HBD.out hpp); clear hpp; obtain ⟨xn, hxn⟩ : ∃ x, (([] : List Pc) ++ pcCx tx cx).length = x := ⟨_, rfl⟩; rw [hxn] at HI ⊢; clear hxn)
  generalize World.alloc w3 _ = W4 at *
  generalize w3.heap.size = gs at *
  clear z0 z1 z2 HAC HZ HBD HT2 HB2
  go_loopg [4] M0 (fun k ov wr => ∃ (ks : List TE) (g cap : Nat) (out : ByteArray), k = stM (sts ks) ∧ k ≤ M0 ∧ ov = .slice (some ⟨g, 0, none⟩) ks.length cap ∧ TxI g0 w.heap.size K w bb g cap ks out wr ∧ out ++ stT tx (sts ks) = T ∧ ∀ e ∈ ks, okP e.2)
  case atStart => exact ⟨[(.slice xa xn xc, pcCx tx cx)], gs, 1, eB, HM0.out.symm, Nat.le_refl _, rfl, HI.out, HST0.out, fun e he => by simp only [List.mem_cons, List.not_mem_nil, or_false] at he; subst he; exact HOP0.out⟩
  case round =>
   obtain ⟨ks0, g, cap, out, hgk, hgb, rfl, hI, hst, hop⟩ := hrel
   clear HI HM0 HST0 HOP0
   rcases snoc_or ks0 with rfl | ⟨ks, ⟨tv, ps⟩, rfl⟩
   · have HB := Lib.hid hI.bd
     have HBL := Lib.hid hI.base.2
     have HBE := Lib.hid hI.bel
     have HE : Hid (out = T) := by
      show _ = _
      rw [← hst]
      exact (ba_nilr out).symm
     have HSC : Hid (Lib.IsBuilder 75 5 w.heap.size bb (Lib.byteCells out.data.toList) wr) := HB.out
     clear hI hst hop hgk hgb
     go_wp2_with (go_at_call 24; (with_reducible refine (Tryz.Builder_String_any w.heap.size bb _ _ HSC.out HBL.out).mono ?_); rintro e w3 ⟨rfl, hb3⟩)
     go_ret
     exact ⟨by rw [← HE.out]; rfl, HBE.out.trans hb3⟩
   · obtain ⟨hc, hf, _⟩ := hI.ts.turn
     have hre := hI.ts.rd (tv, ps) (by simp)
     have hncap : ks.length ≤ cap := by
      obtain ⟨cur, _, _, h2, _⟩ := hI.ts.own
      rw [List.length_append, List.length_singleton] at h2
      omega
     have HI := Lib.hid hI
     have HOP := Lib.hid hop
     obtain ⟨n, hn⟩ : ∃ n, ks.length = n := ⟨_, rfl⟩
     have HNK := Lib.hid hn
     rw [sts_snoc] at hgk hst
     have hnM : n + 1 ≤ M0 := by
      have h1 := stM_len (ps :: sts ks)
      rw [← hgk, List.length_cons, List.length_reverse, List.length_map, hn] at h1
      omega
     have HGK := Lib.hid hgk
     have HST := Lib.hid hst
     rw [List.length_append, List.length_singleton]
     rw [hn] at hc hf hncap ⊢
     have hn2 : n ≤ 200000000000 := by omega
     have hnI0 : (0 : Int) < (n : Int) + 1 := by omega
     have hnI : (n : Int) < (n : Int) + 1 := by omega
     have hnI2 : (0 : Int) ≤ (n : Int) := by omega
     have hwn := idx_back n hn2
     clear hI hop hn hgk hst
     cases ps with
     | nil =>
      obtain ⟨a0, c0, hv0, _⟩ := hre
      have hv0 : tv = .slice a0 0 c0 := hv0
      subst hv0
      go_wp2
      go_roundg (stM (sts ks))
      case measure => rw [HGK.out, stM_pop]; exact Nat.lt_succ_self _
      case rel => exact ⟨ks, g, cap, out, rfl, by have h := HGK.out; rw [stM_pop] at h; omega, by rw [HNK.out], HI.out.pop, by rw [← stT_pop]; exact HST.out, fun e he => HOP.out e (List.mem_append_left _ he)⟩
     | cons p ps =>
      obtain ⟨pt, pl⟩ := p
      obtain ⟨b, off, c, la, lc, hv0, hle, hbl, c0, c1, hrl, hrt⟩ := hre.head
      have hv0 : tv = .slice (some ⟨b, off, none⟩) (ps.length + 1) c := hv0
      subst hv0
      have hop2 := HOP.out (.slice (some ⟨b, off, none⟩) (ps.length + 1) c, (pt, pl) :: ps) (by simp)
      have HPL := Lib.hid (hop2 (pt, pl) (by simp))
      have HPS : Hid (okP ps) := fun q hq => hop2 q (List.mem_cons_of_mem _ hq)
      have HOR : Hid (∀ e ∈ ks, okP e.2) := fun e he => HOP.out e (List.mem_append_left _ he)
      have hsz := tx_size (s := pt) (r := stT tx (pcLs tx pl :: ps :: sts ks)) (by rw [← stT_push]; exact HST.out) hts
      have HSZ := Lib.hid hsz
      have hb7 := bel_newS wr (.cells #[.string pt, .slice la pl.length lc] 80)
      have HI7 := Lib.hid (HI.out.below HX.out hb7)
      have HP7 := Lib.hid (CB.new (T := 80) wr #[.string pt, .slice la pl.length lc])
      have hk7 : ∀ q, PcR wr w.heap.size ps q → PcR (wr.alloc (.cells #[.string pt, .slice la pl.length lc] 80)) w.heap.size ps q := fun q hq => hq.keep (fun i cs hc => hc.below hb7 hc.lt) (fun i hi => hb7.block i (Nat.lt_of_lt_of_le hi HI.out.base.2)) hb7.size
      have HRT := Lib.hid (hk7 _ hrt)
      have HR7 := Lib.hid (hrl.under hb7 (Nat.le_refl _))
      have hc7 : (wr.alloc (.cells #[.string pt, .slice la pl.length lc] 80)).cell? ⟨g, n, none⟩ = some (.slice (some ⟨b, off, none⟩) (ps.length + 1) c) := cell_newS hc _
      have HF7 := Lib.hid (HI7.out.ts.turn.2.1)
      rw [HNK.out] at HF7
      have HGP : Hid (wr.heap.size ≠ g) := fun e => by have := HI.out.ts.lt; omega
      obtain ⟨L, hL⟩ : ∃ L, pl.length = L := ⟨_, rfl⟩
      have HLL := Lib.hid hL
      rw [hL] at c1 HI7 HP7 HRT HR7 hc7 HF7
      obtain ⟨m, hm⟩ : ∃ m, ps.length = m := ⟨_, rfl⟩
      have HMM := Lib.hid hm
      rw [hm] at hc hc7 hle HRT HI HI7
      have hm0 : (m : Int) + 1 ≠ 0 := by omega
      have hm1 : ((m : Int) + 1 == 0) = false := beq_false_of_ne hm0
      have hm2 : (0 : Int) < (m : Int) + 1 := by omega
      clear hv0 hrl hrt hop2 hsz hk7 hb7 hL hm HOP hbl
      go_upto_region 8 with fail
      generalize wr.alloc (.cells _ 80) = W7 at *
      generalize wr.heap.size = gp at *
      have hf7 := HF7.out
      clear hc hf c0 c1
      go_cut [] from 16 to 38 (fun wx => ∃ tvt, PcR W7 w.heap.size ps tvt ∧ wx = W7.setCell ⟨g, n, none⟩ tvt)
      case first =>
       by_cases hc1 : c = 1
       · have hm0 : m = 0 := by omega
         subst hc1
         subst hm0
         go_wp2
         go_meet
         exact ⟨_, by rw [List.eq_nil_of_length_eq_zero HMM.out]; exact PcR.nil _ _, rfl⟩
       · have hc2 : ¬ 1 = c := fun e => hc1 e.symm
         go_wp2
         go_meet
         exact ⟨_, HRT.out, rfl⟩
      case rest =>
       obtain ⟨tvt, hpt, hwc⟩ := hcut
       have HI8 := Lib.hid (HI7.out.turn HX.out (t' := (tvt, ps)) hpt)
       rw [HNK.out, ← hwc] at HI8
       have HP8 := Lib.hid (HP7.out.far (p := ⟨g, n, none⟩) HGP.out tvt)
       rw [← hwc] at HP8
       have HR8 : Hid (rdG wc (fun b => b < w.heap.size) (.sl 3 (cxsDt pl)) (.slice la L lc)) := by
        rw [hwc]
        exact rdG.move (fun _ _ h => h) (fun i hi _ => heap_setCell_other W7 ⟨g, n, none⟩ i tvt (by show i ≠ g; have := HI7.out.ts.base; omega)) (by simp) _ _ HR7.out
       clear HI7 HP7 HRT HR7 hc7 HF7 hf7 hpt hwc HI
       have y0 : wc.cell? ⟨gp, 0, none⟩ = some (.string pt) := HP8.out.cell 0
       go_upto_region 10 with (go_at_call 22; refine (bd_write2 w.heap.size bb _ pt _ HI8.out.bd HSZ.out HI8.out.base.2).mono ?_; rintro e w9 ⟨rfl, hw1, hw2, hw3⟩; have HI9 := Lib.hid (HI8.out.wrote HX.out hw1 hw2 hw3); have HP9 := Lib.hid (hw3.2 _ _ _ (by decide) (by decide) HP8.out); have HR9 := Lib.hid (rdG.move (fun _ _ h => h) (fun i hi _ => hw2.block i hi) hw3.1 _ _ HR8.out); clear hw1 hw2 hw3)
       clear y0
       have y1 : w9.cell? ⟨gp, 1, none⟩ = some (.slice la L lc) := HP9.out.cell 1
       by_cases hL0 : 0 < L
       · have hL1 : (0 : Int) < (L : Int) := by omega
         have HLI := Lib.hid (listed_any HX.out HI9.out.tab HI9.out.base.2 HI9.out.base.1 HR9.out HPL.out.1 HPL.out.2.1 HPL.out.2.2)
         have HB := Lib.hid (tx_bnd (Nat.le_trans hnM hM))
         go_upto_region 11 with fail
         go_wp2_with (first | (go_at_call 23; refine HLI.out.mono ?_; intro e w10 hpp; obtain ⟨a10, rfl, hpp⟩ := pc_swap hpp; obtain ⟨v2, he, hq1, hq2, hq3⟩ := hpp; obtain ⟨xa, xc, hxa, _⟩ := hq1.shape; have hbb := gb_bel hq2; have HS10 := Lib.hid hq2.size; have HI10 := Lib.hid ((HI9.out.below HX.out hbb).below HX.out (bel_newS w10 (.cells #[a10] 76))); have HPR := Lib.hid (PcR.of hq1); injection he with he; subst he; subst hxa; clear hq1 hq2 hq3 hbb; obtain ⟨xn, hxn⟩ : ∃ x, (pcLs tx pl).length = x := ⟨_, rfl⟩; rw [hxn] at HI10 HPR ⊢; have HRW := Lib.hid HI10.out.ts.row; have HNW := Lib.hid (row_news w10 (.slice xa xn xc) 76)) | (at_builtin; refine wpList_append_lies _ rfl _ _ 78 rfl w.heap.size 76 i0 (.slice none 0 0) 1 24 Tryz.underlying78 hi0 hz0 hz1 hz2 rfl (by decide) (.slice (some ⟨g, 0, none⟩) (n + 1) cap) (n + 1) ((ks ++ [(tvt, ps)]).map Prod.fst) rfl (by have h := HRW.out; rw [List.length_append, HNK.out] at h; exact h) ⟨_, 0, none⟩ 1 1 [.slice xa xn xc] rfl rfl HNW.out (row_oneL _ _ _) (by decide) HB.out.1 HB.out.2 HI10.out.base.2 _ rfl ?_; intro g2 cap2 w12 hown hgrow hat hlt))
         have hb11 := bel_newS w10 (.cells #[.slice xa xn xc] 76)
         obtain ⟨g3, cap3, hv3, hI12⟩ := HI10.out.push (t := (.slice xa xn xc, pcLs tx pl)) HX.out (HPR.out.keep (fun i cs hc => hc.below hb11 hc.lt) (fun i hi => hb11.block i (by have h1 := HI9.out.base.2; have h2 := HS10.out; omega)) hb11.size) (by rw [List.length_append, HNK.out]; exact hown) hgrow
         rw [List.length_append, HNK.out] at hv3
         injection hv3 with e1 _ e3
         injection e1 with e1
         injection e1 with e1 _
         subst e1 e3
         have HI12 := Lib.hid hI12
         clear hown hgrow hat hlt hI12 hb11
         go_roundg (stM (pcLs tx pl :: ps :: sts ks))
         case measure => rw [HGK.out]; exact stM_push tx HPL.out.1 (by rw [HLL.out]; exact hL0) pt ps (sts ks)
         case rel =>
          refine ⟨ks ++ [(tvt, ps)] ++ [(.slice xa xn xc, pcLs tx pl)], g2, cap2, out ++ pt, by rw [sts_snoc, sts_snoc], ?_, by rw [List.length_append, List.length_append, HNK.out]; rfl, HI12.out, ?_, ?_⟩
          · exact Nat.le_trans (Nat.le_of_lt (stM_push tx HPL.out.1 (by rw [HLL.out]; exact hL0) pt ps (sts ks))) (by rw [← HGK.out]; exact hgb)
          · rw [sts_snoc, sts_snoc, ba_assoc, ← stT_push]
            exact HST.out
          · intro e he
            simp only [List.mem_append, List.mem_cons, List.not_mem_nil, or_false] at he
            rcases he with (he | rfl) | rfl
            · exact HOR.out e he
            · exact HPS.out
            · exact okP_ls tx HPL.out.1 HPL.out.2.2
       · obtain rfl : L = 0 := by omega
         have HN0 := Lib.hid (List.eq_nil_of_length_eq_zero HLL.out)
         clear hL0
         go_wp2
         go_roundg (stM (ps :: sts ks))
         case measure => rw [HGK.out, HN0.out]; exact stM_none pt ps (sts ks)
         case rel =>
          refine ⟨ks ++ [(tvt, ps)], g, cap, out ++ pt, by rw [sts_snoc], ?_, by rw [List.length_append, HNK.out]; rfl, HI9.out, ?_, ?_⟩
          · exact Nat.le_trans (Nat.le_of_lt (stM_none pt ps (sts ks))) (by have h := HGK.out; rw [HN0.out] at h; rw [← h]; exact hgb)
          · have h := HST.out
            rw [HN0.out, stT_none] at h
            rw [sts_snoc, ba_assoc]
            exact h
          · intro e he
            simp only [List.mem_append, List.mem_cons, List.not_mem_nil, or_false] at he
            rcases he with he | rfl
            · exact HOR.out e he
            · exact HPS.out
end Go.Proofs.YtclicjiakkcfcaaGreatDoor
