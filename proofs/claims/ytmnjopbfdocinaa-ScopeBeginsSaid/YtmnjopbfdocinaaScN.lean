
import Derived.Test.YtmnjopbfdocinaaScM
import Derived.Maps.AppendAt
namespace Go.Proofs.Ytmnjopbfdocinaa
open Go.RowKit
/-! ScopeBegins: what its lists come to. -/
theorem lastN_any (nm : ByteArray) (of : Int) : ∀ (l : List CoD) (r : Option Int), (l.foldl (fun r x => if idB nm of x = true then some x.n else r) r).isSome = (r.isSome || l.any (idB nm of))
  | [], r => by simp
  | x :: l, r => by
    rw [List.foldl_cons, lastN_any nm of l, List.any_cons]
    cases h : idB nm of x with
    | true => simp
    | false => simp
theorem hasB_last (l : List CoD) (c : CoD) : hasB l c = (lastN l c.nm c.of).isSome := by
  unfold lastN
  rw [lastN_any]
  rfl
structure CoOk (l : List CoD) (n : Nat) : Prop where
  len : l.length ≤ n
  ok : ∀ c ∈ l, OkC c
theorem CoOk.nil (n : Nat) : CoOk [] n := ⟨Nat.zero_le _, fun c hc => by simp at hc⟩
theorem CoOk.snoc {l : List CoD} {n : Nat} {c : CoD} (h : CoOk l n) (hc : OkC c) : CoOk (l ++ [c]) (n + 1) := ⟨by rw [List.length_append]; have := h.len; simp; omega, fun x hx => by
  rw [List.mem_append] at hx
  rcases hx with hx | hx
  · exact h.ok x hx
  · simp at hx
    subst hx
    exact hc⟩
theorem CoOk.mono {l : List CoD} {n m : Nat} (h : CoOk l n) (hm : n ≤ m) : CoOk l m := ⟨Nat.le_trans h.len hm, h.ok⟩
/-- One counter's number, laid where it is asked. -/
def updC (c x : CoD) : CoD := if idB c.nm c.of x = true then { x with n := c.n } else x
theorem lastD_snoc (l : List CoD) (c x : CoD) : lastD (l ++ [c]) x = updC c (lastD l x) := by
  unfold lastD
  rw [lastN_snoc]
  have e : ∀ y : CoD, y.nm = x.nm → y.of = x.of → idB c.nm c.of y = idB x.nm x.of c := fun y h1 h2 => by
    unfold idB isN
    rw [h1, h2]
    congr 1
    · rw [Bool.eq_iff_iff, beq_iff_eq, beq_iff_eq]
      exact ⟨fun h => h.symm, fun h => h.symm⟩
    · rw [Bool.eq_iff_iff, beq_iff_eq, beq_iff_eq]
      exact ⟨fun h => h.symm, fun h => h.symm⟩
  cases h : lastN l x.nm x.of with
  | none =>
    simp only
    unfold updC
    rw [e x rfl rfl]
    cases idB x.nm x.of c <;> rfl
  | some n =>
    simp only
    unfold updC
    rw [e { x with n := n } rfl rfl]
    cases idB x.nm x.of c <;> rfl
def halfU (c : CoD) (J : List CoD) (k : Nat) : List CoD := (J.take k).map (updC c) ++ J.drop k
theorem halfU_len (c : CoD) (J : List CoD) (k : Nat) : (halfU c J k).length = J.length := by
  unfold halfU
  rw [List.length_append, List.length_map, List.length_take, List.length_drop]
  omega
theorem halfU_at {c : CoD} {J : List CoD} {k : Nat} (hk : k < J.length) : (halfU c J k)[k]'(by rw [halfU_len]; exact hk) = J[k] := by
  unfold halfU
  rw [List.getElem_append_right (by simp; omega)]
  simp [Nat.min_eq_left (Nat.le_of_lt hk)]
theorem halfU_next {c : CoD} {J : List CoD} {k : Nat} (hk : k < J.length) : halfU c J (k + 1) = (halfU c J k).set k (updC c J[k]) := by
  unfold halfU
  rw [take_succK hk, List.map_append, List.set_append_right _ _ (by simp; omega)]
  have e : k - ((J.take k).map (updC c)).length = 0 := by simp; omega
  rw [e, List.drop_eq_getElem_cons hk, List.set_cons_zero, List.append_assoc]
  rfl
theorem halfU_end (c : CoD) (J : List CoD) : halfU c J J.length = J.map (updC c) := by
  unfold halfU
  simp
/-- Two rows that do not share a block. -/
def Apart (u v : Value) : Prop := ∀ b, u.ownBlock = some b → v.ownBlock ≠ some b
theorem Apart.symm {u v : Value} (h : Apart u v) : Apart v u := fun b hv hu => h b hu hv
theorem Apart.keep {u v : Value} (h : Apart u v) : u.ownBlock = none ∨ u.ownBlock ≠ v.ownBlock := by
  cases hu : u.ownBlock with
  | none => exact .inl rfl
  | some b => exact .inr (fun e => h b hu e.symm)
theorem Apart.push {u v u' : Value} {w : World} {B n : Nat} {T : TypeId} {xs : List Value} (h : Apart u v) (hv : w.ownsRow B T 4 v n xs) (hat : u'.ownBlock = u.ownBlock ∨ u'.ownBlock = some w.heap.size) : Apart u' v := fun b hb hvb => by
  rcases hat with hat | hat
  · exact h b (hat ▸ hb) hvb
  · rw [hat] at hb
    injection hb with hb
    have := (hv.lt b hvb).2
    omega
theorem Apart.nil (c n : Nat) (v : Value) : Apart (.slice none n c) v := fun b hb => by simp [Value.ownBlock] at hb
theorem row_below {w w' : World} {B k n : Nat} {T : TypeId} {v : Value} {xs : List Value} (h : w.ownsRow B T k v n xs) (hb : Below w.heap.size w w') : w'.ownsRow B T k v n xs := h.kept (below_grown hb none) (by cases hv : v.ownBlock with | none => exact .inl rfl | some g => exact .inr (by simp))
theorem row_set {w : World} {B : Nat} {v : Value} {l : List CoD} (h : w.ownsRow B 38 4 v l.length (l.flatMap ccs)) : SetAt w v l := by
  rcases h.2 with ⟨h1, h0⟩ | ⟨g, cap, cur, hv, _⟩
  · exact .inl ⟨h1, List.eq_nil_of_length_eq_zero h0⟩
  · subst hv
    exact .inr ⟨g, cap, rfl, OwnC.of h rfl⟩
theorem SetAt.far {w w' : World} {v : Value} {l : List CoD} {row : Option Nat} (h : SetAt w v l) (hg : w.grownBy w' row) (hn : ∀ b, v.ownBlock = some b → some b ≠ row) : SetAt w' v l := by
  rcases h with h | ⟨g, cap, hv, ho⟩
  · exact .inl h
  · subst hv
    exact .inr ⟨g, cap, rfl, ho.grown hg (hn g rfl)⟩
theorem append_any {P : Program} (w : World) {ops : Array Oper} {rest : List Oper} {o : Oper} {a : Act} {Q : Exit → Act → World → Prop} (hgd : o.guard = none) (s x : Operand) (t : TypeId)
    (ho : o.op = .call { callee := .builtin .append, args := #[s, x], argTypes := #[t, t] })
    (base : Nat) (e : TypeId) (i : TypeInfo) (z : Value) (size bytes : Nat) (ht : P.underlying t = some (.slice e)) (hi : P.info? e = some i) (hz : i.zero = some z)
    (hsize : i.size = size) (hby : i.bytes = bytes) (hzs : z.cells.size = size) (hsz : 0 < size)
    (v : Value) (n : Nat) (xs : List Value) (hs : a.eval s = v) (hown : w.ownsRow base e size v n xs)
    (ao : Option Addr) (m c : Nat) (news : List Value) (hx : a.eval x = .slice ao m c) (hl : news.length = m * size) (hnone : ao = none → m = 0 ∧ c = 0) (hnews : ∀ ad, ao = some ad → ∀ j u, news[j]? = some u → w.cell? (ad.add j) = some u) (h1 : ∀ u ∈ news, u.oneCell' = true)
    (h63 : n + m ≤ maxLen) (hbytes : (n + m) * bytes ≤ 140737488355328) (hbase : base ≤ w.heap.size)
    (h : ∀ v' w', w'.ownsRow base e size v' (n + m) (xs ++ news) → w.grownBy w' v.ownBlock → (v' = .slice none 0 0 → v = .slice none 0 0) → (v'.ownBlock = v.ownBlock ∨ v'.ownBlock = some w.heap.size) → wpList P ops Q rest (a.put o.dst v') w') :
    wpList P ops Q (o :: rest) a w := by
  cases ao with
  | some ad => exact wpList_append_own_at w hgd s x t ho base e i z size bytes ht hi hz hsize hby hzs hsz v n xs hs hown ad m c news hx hl (hnews ad rfl) h1 h63 hbytes hbase fun v' w' h2 h3 h4 h5 => h v' w' h2 h3 (fun hv => (h4.1 hv).1) h5
  | none =>
    obtain ⟨rfl, rfl⟩ := hnone rfl
    have hnews2 : news = [] := List.eq_nil_of_length_eq_zero (by simpa using hl)
    subst hnews2
    refine wpList_plain hgd fun K' hK' => ?_
    have hrun := run_append_owned_none (P := P) w base t o.type e i size ht hi v n xs hown
    unfold Oper.wp
    simp [execOp, ho, resolve, invoke, builtin, hs, hx, hrun, Result.andThen]
    exact hK' _ _ (by simpa using h v w (by simpa using hown) (World.grownBy.refl _ _) (fun hv => hv) (.inl rfl))
theorem name_ok (y : Int) : ∃ nm of, OkId nm of ∧ ∀ W, Calls Try.prog 14 #[.int .i64 y] W fun e w' => e = .returned (.agg #[.string nm, .int .i64 of, .int .i64 0, .bool false]) ∧ Below W.heap.size W w' := by
  refine ⟨(keyC (keyR y)).nm, (keyC (keyR y)).of, ?_, fun W => name_row (keyR y) (keyR_lt y) W y (by unfold keyR; omega)⟩
  have h := keyR_lt y
  generalize keyR y = r at *
  have h1 : r = 0 ∨ r = 1 ∨ r = 2 ∨ r = 3 ∨ r = 4 ∨ r = 5 := by omega
  rcases h1 with rfl | rfl | rfl | rfl | rfl | rfl <;> exact ⟨by decide, by decide⟩
theorem has_ok {W : World} {v : Value} {l : List CoD} (h : RdSt W v l) (hl : l.length ≤ 100000000) (nm : ByteArray) (of : Int) (b : Bool) (hb : hasB l ⟨nm, of, 0, false⟩ = b) :
    Calls Try.prog 15 #[v, .agg #[.string nm, .int .i64 of, .int .i64 0, .bool false]] W fun e w' => e = .returned (.bool b) ∧ Below W.heap.size W w' := by
  subst hb
  exact has_any h hl ⟨nm, of, 0, false⟩
set_option maxRecDepth 100000 in
set_option maxHeartbeats 12800000 in
theorem begins_yes (w : World) (xs ys zs : List Int) (v1 v2 v3 : Value) (hra : Rd .i64 w v1 xs) (hrb : Rd .i64 w v2 ys) (hrc : Rd .i64 w v3 zs) (g1 : xs.length ≤ 8) (g2 : ys.length ≤ 8) (g3 : zs.length ≤ 8) :
    Calls Try.prog 5 #[v1, v2, v3] w fun e w' => e = .returned (.bool true) ∧ Below w.heap.size w w' := by
  obtain ⟨i0, hi0, hz0, hz1, hz2⟩ := info_parts info_cnt
  have HRA := Lib.hid hra
  have HRB := Lib.hid hrb
  have HRC := Lib.hid hrc
  obtain ⟨a1, c1, rfl, hla, hca⟩ := hra
  obtain ⟨a2, c2, rfl, hlb, hcb⟩ := hrb
  obtain ⟨a3, c3, rfl, hlc, hcc⟩ := hrc
  obtain ⟨L1, hL1⟩ : ∃ L, xs.length = L := ⟨_, rfl⟩
  obtain ⟨L2, hL2⟩ : ∃ L, ys.length = L := ⟨_, rfl⟩
  obtain ⟨L3, hL3⟩ : ∃ L, zs.length = L := ⟨_, rfl⟩
  have HC1 := Lib.hid hca
  have HC2 := Lib.hid hcb
  have HC3 := Lib.hid hcc
  have HL1 := Lib.hid hL1
  have HL2 := Lib.hid hL2
  have HL3 := Lib.hid hL3
  rw [hL1] at hla g1 ⊢
  rw [hL2] at hlb g2 ⊢
  rw [hL3] at hlc g3 ⊢
  clear HRA HRB HRC hca hcb hcc hL1 hL2 hL3
  have n1 : ¬ (8 : Int) < (L1 : Int) := by omega
  have n2 : ¬ (8 : Int) < (L2 : Int) := by omega
  have n3 : ¬ (8 : Int) < (L3 : Int) := by omega
  have m1 : ¬ 8 < L1 := by omega
  have m2 : ¬ 8 < L2 := by omega
  have m3 : ¬ 8 < L3 := by omega
  go_enter Try.func5, Try.ntmps5
  go_upto_region 6 with fail
  clear n1 n2 n3 m1 m2 m3
  go_wp2
  go_loopw [7, 12] (fun pv iv wr => ∃ (k : Nat) (P : List CoD) (q : Value), q = pv ∧ k ≤ L1 ∧ iv = .int .i64 k ∧ wr.ownsRow w.heap.size 38 4 pv P.length (P.flatMap ccs) ∧ CoOk P k ∧ Below w.heap.size w wr) (fun _ iv _ => L1 - (intOf iv).toNat)
  case atStart => exact ⟨0, [], _, rfl, Nat.zero_le _, rfl, World.ownsRow_nil _ _ _ _, CoOk.nil _, Below.refl _ _⟩
  case round =>
    obtain ⟨k, P, pv, rfl, hk, rfl, hrow, hok, hbw⟩ := hrel
    have HBW := Lib.hid hbw
    have HROW := Lib.hid hrow
    have HOK := Lib.hid hok
    have hPl : P.length ≤ 8 := by have := hok.len; omega
    clear hbw hrow hok
    by_cases hlt : k < L1
    · have hltI : (k : Int) < (L1 : Int) := by omega
      obtain ⟨b, off, rfl, hb, hcc⟩ := HC1.out (by rw [HL1.out]; omega)
      have hc0 : wr.cell? ⟨b, off + k, none⟩ = some (.int .i64 (nth xs k)) := (HBW.out.cell (p := ⟨b, off + k, none⟩) hb).trans (hcc k (by rw [HL1.out]; exact hlt))
      obtain ⟨y, hy⟩ : ∃ y, nth xs k = y := ⟨_, rfl⟩
      rw [hy] at hc0
      obtain ⟨nm, of, hid, hnm⟩ := name_ok y
      have HID := Lib.hid hid
      have HNM := Lib.hid hnm
      clear hcc hy hid hnm
      cases hh : hasB P ⟨nm, of, 0, false⟩ with
      | true =>
        have HH := Lib.hid hh
        clear hh
        go_wp2_with (first | (go_at_call 14; go_must (refine (HNM.out _).mono ?_); intro e wa hq; obtain ⟨he, hba⟩ := hq; subst he; have hra := row_below HROW.out hba) | (go_at_call 15; go_must (refine (has_ok (row_rdst hra) (by omega) nm of true HH.out).mono ?_); intro e wb hq; obtain ⟨he, hbb⟩ := hq; subst he))
        have HR2 := Lib.hid (row_below hra hbb)
        have HB2 := Lib.hid (HBW.out.trans ((hba.trans (hbb.mono hba.size)).mono HBW.out.size))
        clear hra hba hbb
        go_roundw
        case rel => exact ⟨k + 1, P, _, rfl, by omega, by go_num, HR2.out, HOK.out.mono (Nat.le_succ _), HB2.out⟩
        case measure => simp [intOf]; omega
      | false =>
        have HH := Lib.hid hh
        clear hh
        go_upto_region 10 with (first | (go_at_call 14; go_must (refine (HNM.out _).mono ?_); intro e wa hq; obtain ⟨he, hba⟩ := hq; subst he; have hra := row_below HROW.out hba) | (go_at_call 15; go_must (refine (has_ok (row_rdst hra) (by omega) nm of false HH.out).mono ?_); intro e wb hq; obtain ⟨he, hbb⟩ := hq; subst he))
        have HR2 := Lib.hid (row_below hra hbb)
        have HB2 := Lib.hid (HBW.out.trans ((hba.trans (hbb.mono hba.size)).mono HBW.out.size))
        have hc1 := below_keep (hba.trans (hbb.mono hba.size)) hc0
        clear hra hba hbb hc0
        go_wp2_with (first | (go_at_call 14; go_must (refine (HNM.out _).mono ?_); intro e wd hq; obtain ⟨he, hbd⟩ := hq; subst he; have hrd := row_below HR2.out hbd; have HZ := Lib.hid (cells_row (CB.new (T := 38) wd #[.string nm, .int .i64 of, .int .i64 0, .bool false])); have HBD := Lib.hid (HB2.out.trans (hbd.mono HB2.out.size))) | (at_builtin; go_must (refine wpList_append_own_at _ rfl (.tmp 48) (.tmp 55) 25 rfl w.heap.size 38 i0 (.agg #[.string ⟨#[]⟩, .int .i64 0, .int .i64 0, .bool false]) 4 40 Try.underlying25 hi0 hz0 hz1 hz2 rfl (by decide) _ _ _ rfl (hrd.alloc _) ⟨_, 0, none⟩ 1 1 [.string nm, .int .i64 of, .int .i64 0, .bool false] rfl rfl HZ.out (by simp [Value.oneCell']) (by unfold maxLen; omega) (by omega) (by have := HBD.out.size; simp; omega) ?_); intro v' we hoe hge _ hat))
        have hlt5 := hrd.lt
        have hb5 := (HBD.out.alloc HBD.out.size (.cells #[.string nm, .int .i64 of, .int .i64 0, .bool false] 38)).grown hge (by have := HBD.out.size; simp; omega) (fun j hj => (hlt5 j hj).1)
        have HR5 := Lib.hid (show we.ownsRow w.heap.size 38 4 v' (P ++ [(⟨nm, of, 0, false⟩ : CoD)]).length ((P ++ [(⟨nm, of, 0, false⟩ : CoD)]).flatMap ccs) by
          rw [List.flatMap_append, List.length_append]
          simpa using hoe)
        have HOK5 := Lib.hid (HOK.out.snoc (c := ⟨nm, of, 0, false⟩) ⟨HID.out, wf_small (x := 0) (by decide)⟩)
        clear hoe hge hat hrd hlt5 hbd
        go_roundw
        case rel => exact ⟨k + 1, _, _, rfl, by omega, by go_num, HR5.out, HOK5.out, hb5⟩
        case measure => simp [intOf]; omega
    · have hltI : ¬ (k : Int) < (L1 : Int) := by omega
      clear hlt hk
      obtain ⟨wo, hwo⟩ : ∃ wo : World, wo = wr := ⟨_, rfl⟩
      subst hwo
      have HBW0 := Lib.hid HBW.out
      have HSP := Lib.hid (row_set HROW.out)
      obtain ⟨ap, cp, hpv, hpc⟩ := rowK_sl HROW.out
      subst hpv
      have HCL := Lib.hid HSP.out.rd.cells
      have HNN := Lib.hid (fun (e : ap = none) => (show P.length = 0 ∧ cp = 0 by
        rcases HSP.out with ⟨h1, h2⟩ | ⟨g, cap, h1, _⟩
        · subst h2; injection h1 with _ _ h1; exact ⟨rfl, h1⟩
        · subst e; injection h1 with h1; cases h1))
      have HPL := Lib.hid (flat_lenK ccs 4 ccs_len P)
      have HE0 := Lib.hid (own_emptyC wo)
      go_upto_region 12 with (at_builtin; go_must (refine append_any _ rfl (.tmp 57) (.tmp 58) 25 rfl wo.heap.size 38 i0 (.agg #[.string ⟨#[]⟩, .int .i64 0, .int .i64 0, .bool false]) 4 40 Try.underlying25 hi0 hz0 hz1 hz2 rfl (by decide) _ _ _ rfl HE0.out ap P.length cp (P.flatMap ccs) rfl HPL.out HNN.out (fun ad ha j u hu => below_keep (bel_new wo _) (HCL.out ad ha j u hu)) ccs_one (by unfold maxLen; omega) (by omega) (by simp) ?_); intro wv0 W2 how hgw hnil _)
      have hbw2 : Below wo.heap.size wo W2 := (bel_new wo _).grown hgw (by simp) (fun j hj => by injection hj with hj; simp at hj; omega)
      have HW2 := Lib.hid (show W2.ownsRow wo.heap.size 38 4 wv0 P.length (P.flatMap ccs) by simpa using how)
      have HNIL := Lib.hid (show wv0 ≠ .slice none 0 0 from fun e => by have := hnil e; cases this)
      have HB2 := Lib.hid hbw2
      have HSP2 := Lib.hid (HSP.out.below hbw2)
      clear how hgw hnil hbw2
      go_wp2
      go_loopw [8, 13, 14] (fun sv wv iv wr => ∃ (k : Nat) (S Wt : List CoD) (q1 q2 : Value), q1 = sv ∧ q2 = wv ∧ k ≤ L2 ∧ iv = .int .i64 k ∧ wr.ownsRow wo.heap.size 38 4 sv S.length (S.flatMap ccs) ∧ CoOk S k ∧ wr.ownsRow wo.heap.size 38 4 wv Wt.length (Wt.flatMap ccs) ∧ Wt = joinD P S ∧ Wt.length ≤ P.length + k ∧ Apart sv wv ∧ wv ≠ .slice none 0 0 ∧ Below wo.heap.size wo wr) (fun _ _ iv _ => L2 - (intOf iv).toNat)
      case atStart => exact ⟨0, [], P, _, _, rfl, rfl, Nat.zero_le _, rfl, World.ownsRow_nil _ _ _ _, CoOk.nil _, HW2.out, rfl, by omega, Apart.nil _ _ _, HNIL.out, HB2.out⟩
      case round =>
        clear HB2 HW2 HNIL HSP2
        obtain ⟨k, S, Wt, sv, wv, rfl, rfl, hk, rfl, hrs, hoks, hrw, hj, hwl, hap, hnn, hbw⟩ := hrel
        have HBW := Lib.hid hbw
        have HRS := Lib.hid hrs
        have HRW := Lib.hid hrw
        have HOKS := Lib.hid hoks
        have HJ := Lib.hid hj
        have HAP := Lib.hid hap
        have HNIL := Lib.hid hnn
        have hSl : S.length ≤ 8 := by have := hoks.len; omega
        clear hbw hrs hrw hoks hj hap hnn
        by_cases hlt : k < L2
        · have hltI : (k : Int) < (L2 : Int) := by omega
          obtain ⟨b, off, rfl, hb, hcc⟩ := HC2.out (by rw [HL2.out]; omega)
          have hc0 : wr.cell? ⟨b, off + k, none⟩ = some (.int .i64 (nth ys k)) := ((HBW0.out.trans (HBW.out.mono HBW0.out.size)).cell (p := ⟨b, off + k, none⟩) hb).trans (hcc k (by rw [HL2.out]; exact hlt))
          obtain ⟨y, hy⟩ : ∃ y, nth ys k = y := ⟨_, rfl⟩
          rw [hy] at hc0
          obtain ⟨nm, of, hid, hnm⟩ := name_ok y
          have HID := Lib.hid hid
          have HNM := Lib.hid hnm
          clear hcc hy hid hnm
          cases hh : hasB S ⟨nm, of, 0, false⟩ with
          | true =>
            have HH := Lib.hid hh
            clear hh
            go_wp2_with (first | (go_at_call 14; go_must (refine (HNM.out _).mono ?_); intro e wa hq; obtain ⟨he, hba⟩ := hq; subst he; have hra := row_below HRS.out hba) | (go_at_call 15; go_must (refine (has_ok (row_rdst hra) (by omega) nm of true HH.out).mono ?_); intro e wb hq; obtain ⟨he, hbb⟩ := hq; subst he))
            have HR2 := Lib.hid (row_below hra hbb)
            have HRW2 := Lib.hid (row_below HRW.out (hba.trans (hbb.mono hba.size)))
            have HB2 := Lib.hid (HBW.out.trans ((hba.trans (hbb.mono hba.size)).mono HBW.out.size))
            clear hra hba hbb
            go_roundw
            case rel => exact ⟨k + 1, S, Wt, _, _, rfl, rfl, by omega, by go_num, HR2.out, HOKS.out.mono (Nat.le_succ _), HRW2.out, HJ.out, by omega, HAP.out, HNIL.out, HB2.out⟩
            case measure => simp [intOf]; omega
          | false =>
            have HH := Lib.hid hh
            clear hh
            go_upto_region 16 with (first | (go_at_call 14; go_must (refine (HNM.out _).mono ?_); intro e wa hq; obtain ⟨he, hba⟩ := hq; subst he; have hra := row_below HRS.out hba) | (go_at_call 15; go_must (refine (has_ok (row_rdst hra) (by omega) nm of false HH.out).mono ?_); intro e wb hq; obtain ⟨he, hbb⟩ := hq; subst he))
            have HR2 := Lib.hid (row_below hra hbb)
            have HRW2 := Lib.hid (row_below HRW.out (hba.trans (hbb.mono hba.size)))
            have HB2 := Lib.hid (HBW.out.trans ((hba.trans (hbb.mono hba.size)).mono HBW.out.size))
            have hc1 := below_keep (hba.trans (hbb.mono hba.size)) hc0
            clear hra hba hbb hc0
            go_upto_region 17 with (first | (go_at_call 14; go_must (refine (HNM.out _).mono ?_); intro e wd hq; obtain ⟨he, hbd⟩ := hq; subst he; have hrd := row_below HR2.out hbd; have HZ := Lib.hid (cells_row (CB.new (T := 38) wd #[.string nm, .int .i64 of, .int .i64 0, .bool false])); have HBD := Lib.hid (HB2.out.trans (hbd.mono HB2.out.size))) | (at_builtin; go_must (refine wpList_append_own_at _ rfl (.tmp 76) (.tmp 83) 25 rfl wo.heap.size 38 i0 (.agg #[.string ⟨#[]⟩, .int .i64 0, .int .i64 0, .bool false]) 4 40 Try.underlying25 hi0 hz0 hz1 hz2 rfl (by decide) _ _ _ rfl (hrd.alloc _) ⟨_, 0, none⟩ 1 1 [.string nm, .int .i64 of, .int .i64 0, .bool false] rfl rfl HZ.out (by simp [Value.oneCell']) (by unfold maxLen; omega) (by omega) (by have := HBD.out.size; simp; omega) ?_); intro sv' we hoe hge _ hat))
            have hrwd := row_below HRW2.out hbd
            have hlt5 := hrd.lt
            have hb5 := (HBD.out.alloc HBD.out.size (.cells #[.string nm, .int .i64 of, .int .i64 0, .bool false] 38)).grown hge (by have := HBD.out.size; simp; omega) (fun j hj => (hlt5 j hj).1)
            have HR5 := Lib.hid (show we.ownsRow wo.heap.size 38 4 sv' (S ++ [(⟨nm, of, 0, false⟩ : CoD)]).length ((S ++ [(⟨nm, of, 0, false⟩ : CoD)]).flatMap ccs) by
              rw [List.flatMap_append, List.length_append]
              simpa using hoe)
            have HRW5 := Lib.hid ((hrwd.alloc (.cells #[.string nm, .int .i64 of, .int .i64 0, .bool false] 38)).kept hge HAP.out.symm.keep)
            have HAP5 := Lib.hid (HAP.out.push (hrwd.alloc (.cells #[.string nm, .int .i64 of, .int .i64 0, .bool false] 38)) hat)
            have HOK5 := Lib.hid (HOKS.out.snoc (c := ⟨nm, of, 0, false⟩) ⟨HID.out, wf_small (x := 0) (by decide)⟩)
            have hc2 := hge.cell (below_keep (bel_new wd (.cells #[.string nm, .int .i64 of, .int .i64 0, .bool false] 38)) (below_keep hbd hc1)) (fun e => by have h1 := (hlt5 b e.symm).1; have h2 := HBW0.out.size; omega)
            have HB5 := Lib.hid hb5
            have hjs := joinD_snoc P S ⟨nm, of, 0, false⟩
            rw [← HJ.out, ← hasB_last Wt ⟨nm, of, 0, false⟩] at hjs
            have HJS := Lib.hid hjs
            clear hoe hge hat hrd hlt5 hbd hb5 hc1 hjs hrwd
            cases hw : hasB Wt ⟨nm, of, 0, false⟩ with
            | true =>
              have HH2 := Lib.hid hw
              clear hw
              go_wp2_with (first | (go_at_call 14; go_must (refine (HNM.out _).mono ?_); intro e wf hq; obtain ⟨he, hbf⟩ := hq; subst he; have hrf := row_below HRW5.out hbf) | (go_at_call 15; go_must (refine (has_ok (row_rdst hrf) (by omega) nm of true HH2.out).mono ?_); intro e wg hq; obtain ⟨he, hbg⟩ := hq; subst he))
              have HR6 := Lib.hid (row_below HR5.out (hbf.trans (hbg.mono hbf.size)))
              have HRW6 := Lib.hid (row_below hrf hbg)
              have HB6 := Lib.hid (HB5.out.trans ((hbf.trans (hbg.mono hbf.size)).mono HB5.out.size))
              clear hrf hbf hbg
              go_roundw
              case rel => exact ⟨k + 1, _, Wt, _, _, rfl, rfl, by omega, by go_num, HR6.out, HOK5.out, HRW6.out, by rw [HJS.out, HH2.out]; rfl, by omega, HAP5.out, HNIL.out, HB6.out⟩
              case measure => simp [intOf]; omega
            | false =>
              have HH2 := Lib.hid hw
              clear hw
              go_upto_region 18 with (first | (go_at_call 14; go_must (refine (HNM.out _).mono ?_); intro e wf hq; obtain ⟨he, hbf⟩ := hq; subst he; have hrf := row_below HRW5.out hbf) | (go_at_call 15; go_must (refine (has_ok (row_rdst hrf) (by omega) nm of false HH2.out).mono ?_); intro e wg hq; obtain ⟨he, hbg⟩ := hq; subst he))
              have HR6 := Lib.hid (row_below HR5.out (hbf.trans (hbg.mono hbf.size)))
              have HRW6 := Lib.hid (row_below hrf hbg)
              have HB6 := Lib.hid (HB5.out.trans ((hbf.trans (hbg.mono hbf.size)).mono HB5.out.size))
              have hc3 := below_keep (hbf.trans (hbg.mono hbf.size)) hc2
              clear hrf hbf hbg hc2
              go_wp2_with (first | (go_at_call 14; go_must (refine (HNM.out _).mono ?_); intro e wh hq; obtain ⟨he, hbh⟩ := hq; subst he; have hrh := row_below HRW6.out hbh; have HZ2 := Lib.hid (cells_row (CB.new (T := 38) wh #[.string nm, .int .i64 of, .int .i64 0, .bool false])); have HBH := Lib.hid (HB6.out.trans (hbh.mono HB6.out.size))) | (at_builtin; go_must (refine wpList_append_own_at _ rfl (.tmp 95) (.tmp 102) 25 rfl wo.heap.size 38 i0 (.agg #[.string ⟨#[]⟩, .int .i64 0, .int .i64 0, .bool false]) 4 40 Try.underlying25 hi0 hz0 hz1 hz2 rfl (by decide) _ _ _ rfl (hrh.alloc _) ⟨_, 0, none⟩ 1 1 [.string nm, .int .i64 of, .int .i64 0, .bool false] rfl rfl HZ2.out (by simp [Value.oneCell']) (by unfold maxLen; omega) (by omega) (by have := HBH.out.size; simp; omega) ?_); intro wv' wi hoi hgi hni hai))
              have hrsh := row_below HR6.out hbh
              have hlt7 := hrh.lt
              have HB7 := Lib.hid ((HBH.out.alloc HBH.out.size (.cells #[.string nm, .int .i64 of, .int .i64 0, .bool false] 38)).grown hgi (by have := HBH.out.size; simp; omega) (fun j hj => (hlt7 j hj).1))
              have HRW7 := Lib.hid (show wi.ownsRow wo.heap.size 38 4 wv' (Wt ++ [(⟨nm, of, 0, false⟩ : CoD)]).length ((Wt ++ [(⟨nm, of, 0, false⟩ : CoD)]).flatMap ccs) by
                rw [List.flatMap_append, List.length_append]
                simpa using hoi)
              have HR7 := Lib.hid ((hrsh.alloc (.cells #[.string nm, .int .i64 of, .int .i64 0, .bool false] 38)).kept hgi HAP5.out.keep)
              have HAP7 := Lib.hid (HAP5.out.symm.push (hrsh.alloc (.cells #[.string nm, .int .i64 of, .int .i64 0, .bool false] 38)) hai).symm
              have HNIL7 := Lib.hid (show wv' ≠ .slice none 0 0 from fun e => HNIL.out (hni.1 e).1)
              have HLL := Lib.hid (show (Wt ++ [(⟨nm, of, 0, false⟩ : CoD)]).length ≤ P.length + (k + 1) by rw [List.length_append]; simp; omega)
              clear hoi hgi hai hni hrh hlt7 hbh hrsh
              go_roundw
              case rel => exact ⟨k + 1, _, _, _, _, rfl, rfl, by omega, by go_num, HR7.out, HOK5.out, HRW7.out, by rw [HJS.out, HH2.out]; rfl, HLL.out, HAP7.out, HNIL7.out, HB7.out⟩
              case measure => simp [intOf]; omega
        · have hltI : ¬ (k : Int) < (L2 : Int) := by omega
          clear hlt
          go_upto_region 19 with fail
          obtain ⟨w3, hw3⟩ : ∃ w3 : World, w3 = wr := ⟨_, rfl⟩
          subst hw3
          obtain ⟨J, hJJ⟩ : ∃ J, joinD P S = J := ⟨_, rfl⟩
          have hWJ : Wt = J := HJ.out.trans hJJ
          subst hWJ
          have HJJ := Lib.hid hJJ
          obtain ⟨gw, cw, hwv, hcw, hgwB⟩ : ∃ g cap, wv = .slice (some ⟨g, 0, none⟩) Wt.length cap ∧ OwnC w3 g cap Wt ∧ wo.heap.size ≤ g := by
            have hr := HRW.out
            rcases hr.2 with ⟨h1, _⟩ | ⟨g, cap, cur, h1, h2, _⟩
            · exact absurd h1 HNIL.out
            · subst h1
              exact ⟨g, cap, rfl, OwnC.of hr rfl, h2⟩
          subst hwv
          have HQ := Lib.hid hcw.lt
          have HSS := Lib.hid (row_set HRS.out)
          have HPP := Lib.hid (HSP.out.below HBW.out)
          have HFS := Lib.hid (show ∀ b, sv.ownBlock = some b → b < w3.heap.size ∧ b ≠ gw from fun b hb => ⟨(HRS.out.lt b hb).2, fun e => HAP.out b hb (by rw [e]; rfl)⟩)
          have HFP := Lib.hid (show ∀ b, (Value.slice ap P.length cp).ownBlock = some b → b < w3.heap.size ∧ b ≠ gw from fun b hb => by
            have h1 := (HROW.out.lt b hb).2
            have h2 := HBW.out.size
            exact ⟨by omega, by omega⟩)
          have HBB := Lib.hid (HBW0.out.trans (HBW.out.mono HBW0.out.size))
          have HSZ3 := Lib.hid HBB.out.size
          have HOKP := Lib.hid HOK.out
          have hWl : Wt.length ≤ 16 := by omega
          obtain ⟨NW, hNW⟩ : ∃ N, Wt.length = N := ⟨_, rfl⟩
          have HNW := Lib.hid hNW
          have HC0 := Lib.hid (show OwnC w3 gw cw (Wt.map (lastD [])) by
            have h1 : Wt.map (lastD []) = Wt := by
              have h2 : lastD [] = id := by funext x; rfl
              rw [h2, List.map_id]
            rw [h1]
            exact hcw)
          rw [hNW] at hWl ⊢
          have HSL := Lib.hid hSl
          have HPL8 := Lib.hid hPl
          clear hJJ hcw hNW hwl hSl hPl hk hltI
          go_wp2
          go_loopw [9, 15] (fun lv iv wr => ∃ (k : Nat) (Lx : List CoD) (q : Value), q = lv ∧ k ≤ L3 ∧ iv = .int .i64 k ∧ wr.ownsRow w3.heap.size 38 4 lv Lx.length (Lx.flatMap ccs) ∧ CoOk Lx k ∧ OwnC wr gw cw (Wt.map (lastD Lx)) ∧ SetAt wr (.slice ap P.length cp) P ∧ SetAt wr sv S ∧ Below w.heap.size w wr ∧ w3.heap.size ≤ wr.heap.size) (fun _ iv _ => L3 - (intOf iv).toNat)
          case atStart => exact ⟨0, [], _, rfl, Nat.zero_le _, rfl, World.ownsRow_nil _ _ _ _, CoOk.nil _, HC0.out, HPP.out, HSS.out, HBB.out, Nat.le_refl _⟩
          case round =>
            clear HC0 HPP HSS HBB
            obtain ⟨k, Lx, lv, rfl, hk, rfl, hrl, hokl, hcw, hsp, hss, hbw, hsz⟩ := hrel
            have HBW := Lib.hid hbw
            have HRL := Lib.hid hrl
            have HOKL := Lib.hid hokl
            have HCW := Lib.hid hcw
            have HSP := Lib.hid hsp
            have HSS := Lib.hid hss
            have HSZ := Lib.hid hsz
            have hLl : Lx.length ≤ 8 := by have := hokl.len; omega
            clear hbw hrl hokl hcw hsp hss hsz
            by_cases hlt : k < L3
            · have hltI : (k : Int) < (L3 : Int) := by omega
              obtain ⟨b, off, rfl, hb, hcc⟩ := HC3.out (by rw [HL3.out]; omega)
              have hc0 : wr.cell? ⟨b, off + k, none⟩ = some (.int .i64 (nth zs k)) := (HBW.out.cell (p := ⟨b, off + k, none⟩) hb).trans (hcc k (by rw [HL3.out]; exact hlt))
              obtain ⟨y, hy⟩ : ∃ y, nth zs k = y := ⟨_, rfl⟩
              rw [hy] at hc0
              obtain ⟨nm, of, hid, hnm⟩ := name_ok y
              have HID := Lib.hid hid
              have HNM := Lib.hid hnm
              clear hcc hy hid hnm
              cases hh : hasB Lx ⟨nm, of, 0, false⟩ with
              | true =>
                have HH := Lib.hid hh
                clear hh
                go_wp2_with (first | (go_at_call 14; go_must (refine (HNM.out _).mono ?_); intro e wa hq; obtain ⟨he, hba⟩ := hq; subst he; have hra := row_below HRL.out hba) | (go_at_call 15; go_must (refine (has_ok (row_rdst hra) (by omega) nm of true HH.out).mono ?_); intro e wb hq; obtain ⟨he, hbb⟩ := hq; subst he))
                have HAB := Lib.hid (hba.trans (hbb.mono hba.size))
                have HR2 := Lib.hid (row_below hra hbb)
                have HC2' := Lib.hid (HCW.out.grown (below_grown HAB.out none) (by simp))
                have HSP2 := Lib.hid (HSP.out.below HAB.out)
                have HSS2 := Lib.hid (HSS.out.below HAB.out)
                have HB2 := Lib.hid (HBW.out.trans (HAB.out.mono HBW.out.size))
                have HSZ2 := Lib.hid (Nat.le_trans HSZ.out HAB.out.size)
                clear hra hba hbb
                go_roundw
                case rel => exact ⟨k + 1, Lx, _, rfl, by omega, by go_num, HR2.out, HOKL.out.mono (Nat.le_succ _), HC2'.out, HSP2.out, HSS2.out, HB2.out, HSZ2.out⟩
                case measure => simp [intOf]; omega
              | false =>
                have HH := Lib.hid hh
                clear hh
                go_upto_region 23 with (first | (go_at_call 14; go_must (refine (HNM.out _).mono ?_); intro e wa hq; obtain ⟨he, hba⟩ := hq; subst he; have hra := row_below HRL.out hba) | (go_at_call 15; go_must (refine (has_ok (row_rdst hra) (by omega) nm of false HH.out).mono ?_); intro e wb hq; obtain ⟨he, hbb⟩ := hq; subst he))
                have HAB := Lib.hid (hba.trans (hbb.mono hba.size))
                have HR2 := Lib.hid (row_below hra hbb)
                have HC2' := Lib.hid (HCW.out.grown (below_grown HAB.out none) (by simp))
                have HSP2 := Lib.hid (HSP.out.below HAB.out)
                have HSS2 := Lib.hid (HSS.out.below HAB.out)
                have HB2 := Lib.hid (HBW.out.trans (HAB.out.mono HBW.out.size))
                have HSZ2 := Lib.hid (Nat.le_trans HSZ.out HAB.out.size)
                have hc1 := below_keep HAB.out hc0
                clear hra hba hbb hc0 HAB HRL HCW HSP HSS HBW HSZ
                have hk10 : (k : Int) ≤ 8 := by omega
                go_upto_region 24 with (go_at_call 14; go_must (refine (HNM.out _).mono ?_); intro e wd hq; obtain ⟨he, hbd⟩ := hq; subst he)
                have HRD := Lib.hid (row_below HR2.out hbd)
                have HCD := Lib.hid (HC2'.out.grown (below_grown hbd none) (by simp))
                have HSPD := Lib.hid (HSP2.out.below hbd)
                have HSSD := Lib.hid (HSS2.out.below hbd)
                have HBD := Lib.hid (HB2.out.trans (hbd.mono HB2.out.size))
                have HSZD := Lib.hid (Nat.le_trans HSZ2.out hbd.size)
                have HZ := Lib.hid (cells_two4 wd (.cells #[.string nm, .int .i64 of, .int .i64 (10 + (k : Int)), .bool false] 38) (.string nm) (.int .i64 of) (.int .i64 (10 + (k : Int))) (.bool false) 38)
                have HSZE := Lib.hid (HBD.out.alloc HBD.out.size (.cells #[.string nm, .int .i64 of, .int .i64 (10 + (k : Int)), .bool false] 38))
                have hbase : w3.heap.size ≤ ((wd.alloc (.cells #[.string nm, .int .i64 of, .int .i64 (10 + (k : Int)), .bool false] 38)).alloc (.cells #[.string nm, .int .i64 of, .int .i64 (10 + (k : Int)), .bool false] 38)).heap.size := by have := HSZD.out; simp; omega
                clear hbd HR2 HC2' HSP2 HSS2 HB2 HSZ2 hc1
                go_upto_region 26 with (at_builtin; go_must (refine wpList_append_own_at _ rfl (.tmp 129) (.tmp 131) 25 rfl w3.heap.size 38 i0 (.agg #[.string ⟨#[]⟩, .int .i64 0, .int .i64 0, .bool false]) 4 40 Try.underlying25 hi0 hz0 hz1 hz2 rfl (by decide) _ _ _ rfl ((HRD.out.alloc _).alloc _) ⟨_, 0, none⟩ 1 1 [.string nm, .int .i64 of, .int .i64 (10 + (k : Int)), .bool false] rfl rfl HZ.out (by simp [Value.oneCell']) (by unfold maxLen; omega) (by omega) hbase ?_); intro lv' we hoe hge _ _)
                have hltl := HRD.out.lt
                have hX := (CB.new (T := 38) wd #[.string nm, .int .i64 of, .int .i64 (10 + (k : Int)), .bool false]).alloc (.cells #[.string nm, .int .i64 of, .int .i64 (10 + (k : Int)), .bool false] 38)
                have HXE := Lib.hid (hX.grown hge (fun e => by have := (hltl wd.heap.size e.symm).2; omega))
                have hbA : Below wd.heap.size wd ((wd.alloc (.cells #[.string nm, .int .i64 of, .int .i64 (10 + (k : Int)), .bool false] 38)).alloc (.cells #[.string nm, .int .i64 of, .int .i64 (10 + (k : Int)), .bool false] 38)) := (bel_new wd _).alloc (by simp) _
                have HCE := Lib.hid ((HCD.out.grown (below_grown hbA none) (by simp)).grown hge (fun e => by have := (hltl gw e.symm).1; have := HQ.out; omega))
                have HSPE := Lib.hid ((HSPD.out.below hbA).far hge (fun b hb e => by have := (hltl b e.symm).1; have := (HFP.out b hb).1; omega))
                have HSSE := Lib.hid ((HSSD.out.below hbA).far hge (fun b hb e => by have := (hltl b e.symm).1; have := (HFS.out b hb).1; omega))
                have HRE := Lib.hid (show we.ownsRow w3.heap.size 38 4 lv' (Lx ++ [(⟨nm, of, 10 + (k : Int), false⟩ : CoD)]).length ((Lx ++ [(⟨nm, of, 10 + (k : Int), false⟩ : CoD)]).flatMap ccs) by
                  rw [List.flatMap_append, List.length_append]
                  simpa using hoe)
                have HOKE := Lib.hid (HOKL.out.snoc (c := (⟨nm, of, 10 + (k : Int), false⟩ : CoD)) ⟨HID.out, wf_small (x := 10 + (k : Int)) (by omega)⟩)
                have HBE := Lib.hid ((HBD.out.trans (hbA.mono HBD.out.size)).grown hge (by have h1 := HBD.out.size; have h2 := hbA.size; omega) (fun j hj => by have := (hltl j hj).1; have h1 := HSZ3.out; omega))
                have HSZEE := Lib.hid (Nat.le_trans (Nat.le_trans HSZD.out hbA.size) hge.size)
                obtain ⟨xb, hxb⟩ : ∃ b, wd.heap.size = b := ⟨_, rfl⟩
                rw [hxb] at HXE
                have HXB := Lib.hid (show xb ≠ gw by have := HSZD.out; have := HQ.out; omega)
                have HXL := Lib.hid (show ∀ b, lv'.ownBlock = some b → b ≠ gw from fun b hb e => by have := (HRE.out.lt b hb).1; have := HQ.out; omega)
                rw [hxb]
                clear hxb hoe hge hltl hX hbA HRD HCD HSPD HSSD HBD HSZD HZ hbase HSZE
                obtain ⟨J', hJ'⟩ : ∃ J', Wt.map (lastD Lx) = J' := ⟨_, rfl⟩
                have HJ' := Lib.hid hJ'
                have HNJ := Lib.hid (show J'.length = NW by rw [← hJ', List.length_map, HNW.out])
                rw [hJ'] at HCE
                clear hJ'
                go_wp2
                obtain ⟨wp, hwp⟩ : ∃ wp : World, wp = we := ⟨_, rfl⟩
                go_loopw [17] (fun jv wr => ∃ j : Nat, j ≤ NW ∧ jv = .int .i64 j ∧ OwnC wr gw cw (halfU (⟨nm, of, 10 + (k : Int), false⟩ : CoD) J' j) ∧ wr.ownsRow w3.heap.size 38 4 lv' (Lx ++ [(⟨nm, of, 10 + (k : Int), false⟩ : CoD)]).length ((Lx ++ [(⟨nm, of, 10 + (k : Int), false⟩ : CoD)]).flatMap ccs) ∧ SetAt wr (.slice ap P.length cp) P ∧ SetAt wr sv S ∧ CB 38 wr xb #[.string nm, .int .i64 of, .int .i64 (10 + (k : Int)), .bool false] ∧ Below w.heap.size w wr ∧ w3.heap.size ≤ wr.heap.size) (fun jv _ => NW - (intOf jv).toNat)
                case atStart => exact ⟨0, Nat.zero_le _, rfl, HCE.out, HRE.out, HSPE.out, HSSE.out, HXE.out, HBE.out, HSZEE.out⟩
                case round =>
                  clear HCE HRE HSPE HSSE HXE HBE HSZEE hwp
                  obtain ⟨j, hj, rfl, hcw, hrl, hsp, hss, hxx, hbw, hsz⟩ := hrel
                  have HNH := Lib.hid (show (halfU (⟨nm, of, 10 + (k : Int), false⟩ : CoD) J' j).length = NW by rw [halfU_len, HNJ.out])
                  have HBW := Lib.hid hbw
                  have HRL := Lib.hid hrl
                  have HCW := Lib.hid hcw
                  have HSP := Lib.hid hsp
                  have HSS := Lib.hid hss
                  have HSZ := Lib.hid hsz
                  have HXX := Lib.hid hxx
                  clear hrl hsp hss hbw hsz
                  by_cases hltj : j < NW
                  · have hltjI : (j : Int) < (NW : Int) := by omega
                    have hjl : j < J'.length := by rw [HNJ.out]; exact hltj
                    have hcc := hcw.cellsAt j (by rw [HNH.out]; exact hltj)
                    have hat := halfU_at (c := (⟨nm, of, 10 + (k : Int), false⟩ : CoD)) hjl
                    have hnx := halfU_next (c := (⟨nm, of, 10 + (k : Int), false⟩ : CoD)) hjl
                    rw [hat] at hcc
                    obtain ⟨x, hx⟩ : ∃ x, J'[j] = x := ⟨_, rfl⟩
                    rw [hx] at hcc hat hnx
                    have x0 : wr.cell? ⟨gw, j * 4, none⟩ = some (.string x.nm) := by simpa using hcc 0 _ rfl
                    have x1 : wr.cell? ⟨gw, j * 4 + 1, none⟩ = some (.int .i64 x.of) := by simpa using hcc 1 _ rfl
                    have d0 : wr.cell? ⟨xb, 0, none⟩ = some (.string nm) := hxx.cell 0
                    have d1 : wr.cell? ⟨xb, 1, none⟩ = some (.int .i64 of) := hxx.cell 1
                    have d2 : wr.cell? ⟨xb, 2, none⟩ = some (.int .i64 (10 + (k : Int))) := hxx.cell 2
                    have HAT := Lib.hid hat
                    have HNX := Lib.hid hnx
                    clear hcc hcw hxx hx hat hnx
                    cases e1 : (x.nm.toList == nm.toList) with
                    | true =>
                      cases e2 : (x.of == of) with
                      | true =>
                        have HU := Lib.hid (show halfU (⟨nm, of, 10 + (k : Int), false⟩ : CoD) J' (j + 1) = (halfU (⟨nm, of, 10 + (k : Int), false⟩ : CoD) J' j).set j { (halfU (⟨nm, of, 10 + (k : Int), false⟩ : CoD) J' j)[j]'(by rw [HNH.out]; exact hltj) with n := 10 + (k : Int) } by
                          rw [HNX.out, HAT.out]
                          congr 1
                          unfold updC idB isN
                          rw [e1, e2]
                          rfl)
                        have HST := Lib.hid (fun W (h : OwnC W gw cw (halfU (⟨nm, of, 10 + (k : Int), false⟩ : CoD) J' j)) => h.setN j (by rw [HNH.out]; exact hltj) (10 + (k : Int)))
                        have hfz := (HCW.out.cellN j (by rw [HNH.out]; exact hltj))
                        obtain ⟨z1, z2⟩ := hfz
                        have HFIN := Lib.hid (fun (W : World) (hb : Below wr.heap.size wr W) => (⟨by rw [HU.out]; exact HST.out W (HCW.out.grown (below_grown hb none) (by simp)), (row_below HRL.out hb).kept (grown_set (p := ⟨gw, j * 4 + 2, none⟩) (u := .int .i64 (10 + (k : Int)))) (by cases hv : lv'.ownBlock with | none => exact .inl rfl | some g => exact .inr (fun e => HXL.out g hv (by injection e))), (HSP.out.below hb).far (grown_set (p := ⟨gw, j * 4 + 2, none⟩) (u := .int .i64 (10 + (k : Int)))) (fun b hb e => (HFP.out b hb).2 (by injection e)), (HSS.out.below hb).far (grown_set (p := ⟨gw, j * 4 + 2, none⟩) (u := .int .i64 (10 + (k : Int)))) (fun b hb e => (HFS.out b hb).2 (by injection e)), (HXX.out.grown (below_grown hb none) (by simp)).far HXB.out _, (HBW.out.trans (hb.mono HBW.out.size)).setCell (by have h1 := HBW0.out.size; exact Nat.le_trans h1 hgwB) _, by have h1 := HSZ.out; have h2 := hb.size; simp; omega⟩ : OwnC (W.setCell ⟨gw, j * 4 + 2, none⟩ (.int .i64 (10 + (k : Int)))) gw cw (halfU (⟨nm, of, 10 + (k : Int), false⟩ : CoD) J' (j + 1)) ∧ (W.setCell ⟨gw, j * 4 + 2, none⟩ (.int .i64 (10 + (k : Int)))).ownsRow w3.heap.size 38 4 lv' (Lx ++ [(⟨nm, of, 10 + (k : Int), false⟩ : CoD)]).length ((Lx ++ [(⟨nm, of, 10 + (k : Int), false⟩ : CoD)]).flatMap ccs) ∧ SetAt (W.setCell ⟨gw, j * 4 + 2, none⟩ (.int .i64 (10 + (k : Int)))) (.slice ap P.length cp) P ∧ SetAt (W.setCell ⟨gw, j * 4 + 2, none⟩ (.int .i64 (10 + (k : Int)))) sv S ∧ CB 38 (W.setCell ⟨gw, j * 4 + 2, none⟩ (.int .i64 (10 + (k : Int)))) xb #[.string nm, .int .i64 of, .int .i64 (10 + (k : Int)), .bool false] ∧ Below w.heap.size w (W.setCell ⟨gw, j * 4 + 2, none⟩ (.int .i64 (10 + (k : Int)))) ∧ w3.heap.size ≤ (W.setCell ⟨gw, j * 4 + 2, none⟩ (.int .i64 (10 + (k : Int)))).heap.size))
                        clear HNX
                        go_upto_region 29 with fail
                        go_quiet (fail)
                        go_upto_region 30 with fail
                        go_wp2
                        go_roundw
                        case rel => exact ⟨j + 1, by omega, by go_num, HFIN.out _ (drewK_below wr _)⟩
                        case measure => simp [intOf]; omega
                      | false =>
                        have HU := Lib.hid (show halfU (⟨nm, of, 10 + (k : Int), false⟩ : CoD) J' (j + 1) = halfU (⟨nm, of, 10 + (k : Int), false⟩ : CoD) J' j by
                          rw [HNX.out]
                          unfold updC idB isN
                          rw [e1, e2]
                          rw [if_neg (by simp), ← HAT.out, List.set_getElem_self])
                        clear HNX
                        go_wp2
                        go_quiet (fail)
                        go_wp2
                        go_roundw
                        case rel => exact ⟨j + 1, by omega, by go_num, by rw [HU.out]; exact HCW.out.grown (below_grown (drewK_below wr _) none) (by simp), row_below HRL.out (drewK_below wr _), HSP.out.below (drewK_below wr _), HSS.out.below (drewK_below wr _), HXX.out.grown (below_grown (drewK_below wr _) none) (by simp), HBW.out.trans ((drewK_below wr _).mono HBW.out.size), HSZ.out⟩
                        case measure => simp [intOf]; omega
                    | false =>
                      have HU := Lib.hid (show halfU (⟨nm, of, 10 + (k : Int), false⟩ : CoD) J' (j + 1) = halfU (⟨nm, of, 10 + (k : Int), false⟩ : CoD) J' j by
                        rw [HNX.out]
                        unfold updC idB isN
                        rw [e1]
                        rw [if_neg (by simp), ← HAT.out, List.set_getElem_self])
                      clear HNX
                      go_wp2
                      go_quiet (fail)
                      go_wp2
                      go_roundw
                      case rel => exact ⟨j + 1, by omega, by go_num, by rw [HU.out]; exact HCW.out.grown (below_grown (drewK_below wr _) none) (by simp), row_below HRL.out (drewK_below wr _), HSP.out.below (drewK_below wr _), HSS.out.below (drewK_below wr _), HXX.out.grown (below_grown (drewK_below wr _) none) (by simp), HBW.out.trans ((drewK_below wr _).mono HBW.out.size), HSZ.out⟩
                      case measure => simp [intOf]; omega
                  · have hltjI : ¬ (j : Int) < (NW : Int) := by omega
                    have hjN : j = NW := by omega
                    have HCF := Lib.hid (show OwnC wr gw cw (Wt.map (lastD (Lx ++ [(⟨nm, of, 10 + (k : Int), false⟩ : CoD)]))) by
                      have h1 : Wt.map (lastD (Lx ++ [(⟨nm, of, 10 + (k : Int), false⟩ : CoD)])) = J'.map (updC (⟨nm, of, 10 + (k : Int), false⟩ : CoD)) := by
                        rw [← HJ'.out, List.map_map]
                        congr 1
                        funext x
                        exact lastD_snoc Lx (⟨nm, of, 10 + (k : Int), false⟩ : CoD) x
                      rw [h1, ← halfU_end, HNJ.out, ← hjN]
                      exact HCW.out)
                    clear hcw hxx hjN
                    go_wp2
                    go_roundw
                    case rel => exact ⟨k + 1, _, _, rfl, by omega, by go_num, HRL.out, HOKE.out, HCF.out, HSP.out, HSS.out, HBW.out, HSZ.out⟩
                    case measure => simp [intOf]; omega
            · have hltI : ¬ (k : Int) < (L3 : Int) := by omega
              clear hlt hk
              go_upto_region 31 with fail
              have HOKP1 := Lib.hid HOKP.out.ok
              have HOKS1 := Lib.hid HOKS.out.ok
              have HOKL1 := Lib.hid HOKL.out.ok
              have HBG := Lib.hid (begin_beg (vb := .slice none 0 0) HSP.out.rd HSS.out.rd (row_rdst HRL.out) (by have := HPL8.out; omega) (by have := HSL.out; omega) (by omega) HOKP1.out HOKS1.out HOKL1.out (show beginD P S Lx = Wt.map (lastD Lx) by unfold beginD; rw [HJJ.out]))
              have HNM2 := Lib.hid (show (Wt.map (lastD Lx)).length = NW by rw [List.length_map, HNW.out])
              have HML := Lib.hid (show (Wt.map (lastD Lx)).length ≤ 1000000 by rw [HNM2.out]; omega)
              go_wp2_with (first | (go_at_call 18; go_must (refine HBG.out.mono ?_); intro e wA hq; obtain ⟨vA, he, hA, hbA⟩ := hq; subst he) | (have tk := hbF1; go_at_call 17; have hW := (HCW.out.grown (below_grown (hbA.trans (hbF1.mono hbA.size)) none) (by simp)).rd; rw [HNM2.out] at hW; go_must (refine (flat15_any hW HML.out).mono ?_); intro e wF2 hq; obtain ⟨vF2, he, hF2, hbF2⟩ := hq; subst he) | (go_at_call 17; go_must (refine (flat15_any hA HML.out).mono ?_); intro e wF1 hq; obtain ⟨vF1, he, hF1, hbF1⟩ := hq; subst he) | (go_at_call 16; go_must (refine (same15_any _ _ _ _ (hF1.below hbF2) hF2 (Nat.le_trans HML.out (by decide))).mono ?_); intro e wS hq; obtain ⟨he, hbS⟩ := hq; subst he) | (go_at_call 6; go_must (refine (awake15_any _).mono ?_); intro e wK hq; obtain ⟨he, hbK⟩ := hq; subst he))
              go_ret
              exact ⟨by rfl, HBW.out.trans ((hbA.trans ((hbF1.trans ((hbF2.trans ((hbS.trans (hbK.mono hbS.size)).mono hbF2.size)).mono hbF1.size)).mono hbA.size)).mono HBW.out.size)⟩
end Go.Proofs.Ytmnjopbfdocinaa
