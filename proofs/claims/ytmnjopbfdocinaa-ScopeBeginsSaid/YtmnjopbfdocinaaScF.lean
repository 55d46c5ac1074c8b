
import Derived.Test.YtmnjopbfdocinaaScE
import Derived.Maps.OwnSet
import Derived.Maps.OwnOps
import Derived.DeepKeys4
import Derived.Deep.RegionHeld3
namespace Go.Proofs.Ytmnjopbfdocinaa
open Go.RowKit Go.Maps Go.WideMaps
/-! scope: counters told to be one by name and maker: a map of them. -/
theorem id_row : (59 : TypeId) < Try.prog.types.size := of_decide_eq_true (by kernel_rfl)
theorem id_wide : (match Try.prog.underlying 59 with | some (.array _ _) | some (.struct _) => true | _ => false) = true := by kernel_rfl
theorem id_keyt : Try.prog.keyType 59 = true := by kernel_rfl
theorem law_id : Keyed Try.prog 59 := Keyed.of_law (deep_law_laid laidOut (m := 2) (by omega) id_row (by kernel_rfl) id_wide)
def keyS (nm : ByteArray) (of : Int) : Lit := .string (keyBytes [.string nm.data.toList, .int .i64 of])
structure OkId (nm : ByteArray) (of : Int) : Prop where
  size : nm.size ≤ maxLen
  wf : (Lit.int .i64 of).wf = true
theorem id_cells : Try.prog.cellsOf 59 = 2 := by kernel_rfl
theorem id_size : Try.prog.types.size = (Try.prog.types.size - 1) + 1 := by kernel_rfl
theorem str_cells : Try.prog.cellsOf 9 = 1 := by kernel_rfl
theorem int_cells : Try.prog.cellsOf 3 = 1 := by kernel_rfl
theorem lits_str {d : Nat} {nm : ByteArray} (h : nm.size ≤ maxLen) : Try.prog.keyLits (d + 1) 9 [.string nm] = some [.string nm.data.toList] := by
  unfold Program.keyLits
  simp only [Try.underlying9]
  rw [if_pos h]
theorem lits_int {d : Nat} {of : Int} (h : (Lit.int .i64 of).wf = true) : Try.prog.keyLits (d + 1) 3 [.int .i64 of] = some [.int .i64 of] := by
  unfold Program.keyLits
  simp only [Try.underlying3]
  rw [if_pos ⟨trivial, h⟩]
theorem keyOf_id {nm : ByteArray} {of : Int} (h : OkId nm of) : keyOf Try.prog 59 (.agg #[.string nm, .int .i64 of]) = some (keyS nm of) := by
  unfold keyOf
  have hu := Try.underlying59
  simp only [hu]
  rw [if_pos (by simp [id_keyt, Value.formed, hu, id_cells]), id_size]
  unfold Program.keyLits
  simp only [hu, Value.cells]
  rw [if_pos (by simp [id_cells])]
  simp only [List.mapM_cons, List.mapM_nil, str_cells, int_cells, List.drop_zero, List.drop_succ_cons, List.take_succ_cons, List.take_zero, lits_str h.size, lits_int h.wf]
  rfl
theorem keyS_inj {n1 n2 : ByteArray} {o1 o2 : Int} (h1 : OkId n1 o1) (h2 : OkId n2 o2) (h : keyS n1 o1 = keyS n2 o2) : n1 = n2 ∧ o1 = o2 := by
  have e := law_id.inj (keyOf_id h1) (h ▸ keyOf_id h2)
  simpa using e
def idB (nm : ByteArray) (of : Int) (c : CoD) : Bool := isN nm c && (c.of == of)
/-- What the last one of a name and maker has. -/
def lastN (l : List CoD) (nm : ByteArray) (of : Int) : Option Int := l.foldl (fun r x => if idB nm of x = true then some x.n else r) none
theorem lastN_snoc (l : List CoD) (x : CoD) (nm : ByteArray) (of : Int) : lastN (l ++ [x]) nm of = if idB nm of x = true then some x.n else lastN l nm of := by
  unfold lastN
  rw [List.foldl_append]
  rfl
theorem bl_goK (b : ByteArray) : ∀ (n i : Nat) (r : List UInt8), b.size - i = n → ByteArray.toList.loop b i r = r.reverse ++ b.data.toList.drop i := by
  intro n
  induction n with
  | zero =>
    intro i r h
    unfold ByteArray.toList.loop
    have hz : b.size = b.data.toList.length := by rw [Array.length_toList]; rfl
    rw [if_neg (by omega), List.drop_eq_nil_of_le (by omega), List.append_nil]
  | succ n ih =>
    intro i r h
    unfold ByteArray.toList.loop
    have hz : b.size = b.data.toList.length := by rw [Array.length_toList]; rfl
    have hi : i < b.data.toList.length := by omega
    rw [if_pos (by omega), ih (i + 1) _ (by omega), List.reverse_cons, List.append_assoc, List.drop_eq_getElem_cons hi]
    congr 2
    show [b.data[i]!] ++ _ = _
    rw [getElem!_pos b.data i (by rw [← Array.length_toList]; exact hi)]
    rfl
theorem ba_list (b : ByteArray) : b.toList = b.data.toList := by
  unfold ByteArray.toList
  rw [bl_goK b _ 0 [] rfl]; rfl
theorem ba_ext {a b : ByteArray} (h : a.toList = b.toList) : a = b := by
  rw [ba_list, ba_list] at h
  obtain ⟨⟨x⟩⟩ := a
  obtain ⟨⟨y⟩⟩ := b
  exact congrArg (fun l => (⟨⟨l⟩⟩ : ByteArray)) h
structure OkC (c : CoD) : Prop where
  id : OkId c.nm c.of
  wf : (Lit.int .i64 c.n).wf = true
/-- A map that holds the last one of each. -/
def MapIs (D : DataW Unit) (l : List CoD) : Prop := IsMap D ∧ ∀ nm of, OkId nm of → Maps.has D (keyS nm of) = (lastN l nm of).isSome ∧ ∀ z, D.atKey (keyS nm of) z = match lastN l nm of with
  | some n => .lit (.int .i64 n)
  | none => z
theorem mapIs_nil : MapIs (.map []) [] := ⟨isMap_empty, fun _ _ _ => ⟨rfl, fun _ => rfl⟩⟩
theorem key_lit (nm : ByteArray) (of : Int) : WideAt.IsKeyLit (keyS nm of) := by unfold keyS; trivial
theorem mapIs_snoc {D : DataW Unit} {l : List CoD} {x : CoD} (h : MapIs D l) (hx : OkId x.nm x.of) : MapIs (D.put (keyS x.nm x.of) (.lit (.int .i64 x.n))) (l ++ [x]) := by
  refine ⟨h.1.put _ _, fun nm of hq => ?_⟩
  rw [lastN_snoc]
  cases hb : idB nm of x with
  | true =>
    obtain ⟨e1, e2⟩ : x.nm = nm ∧ x.of = of := by
      unfold idB isN at hb
      simp only [Bool.and_eq_true, beq_iff_eq] at hb
      exact ⟨ba_ext hb.1, hb.2⟩
    subst e1 e2
    exact ⟨by rw [has_put_same h.1 (key_lit _ _)]; rfl, fun z => by rw [atKey_put_same h.1 (key_lit _ _)]; rfl⟩
  | false =>
    have hne : keyS nm of ≠ keyS x.nm x.of := fun e => by
      obtain ⟨e1, e2⟩ := keyS_inj hq hx e
      subst e1 e2
      unfold idB isN at hb
      simp at hb
    exact ⟨by rw [has_put_other hne]; exact (h.2 nm of hq).1, fun z => by rw [atKey_put_other hne]; exact (h.2 nm of hq).2 z⟩
set_option maxRecDepth 100000 in
set_option maxHeartbeats 800000 in
theorem which_any (nm : ByteArray) (of n : Int) (rev : Bool) (w : World) :
    Calls Try.prog 27 #[.agg #[.string nm, .int .i64 of, .int .i64 n, .bool rev]] w fun e w' => e = .returned (.agg #[.string nm, .int .i64 of]) ∧ Below w.heap.size w w' := by
  go_enter Try.func27, Try.ntmps27
  go_wp2
  exact bodyPost_ret (v := .agg #[.string nm, .int .i64 of]) (by simp [results, Try.results27, go_sem]) rfl ⟨rfl, ((bel_new w _).alloc (by simp) _)⟩
theorem run_mkm (n : Int) (w : World) : (Instr.makeMap 56 (some (.int .i64 n))).run Try.prog w = .ok (.map (some w.heap.size)) (w.alloc (.map #[] 0)) := by
  simp [Instr.makeMap, run_underlying Try.underlying56, asInt, asIntOf, Result.andThen]
theorem zero_int15 (w : World) : (zeroValue 3).run Try.prog w = .ok (.int .i64 0) w := by kernel_rfl
theorem below_grown {a b : World} (h : Below a.heap.size a b) (row : Option Nat) : a.grownBy b row := ⟨h.os, h.tape, h.output, h.size, fun i hi _ => h.block i hi⟩
/-- 'm[k] = v' as an operation of a region that draws. -/
theorem wp_mapUpd {H : Type} {P : Program} {w : World} {o : Oper} {a : Act} {K : Act → World → Prop} {Q : Exit → Act → World → Prop}
    (m x v : Operand) (t : TypeId) (hop : o.op = Op.mapUpdate t m x v)
    (k e : TypeId) (KK : Keyed P k) (ht : P.underlying t = some (.map k e)) (R : Value → Option (DataW H × List MemPlace)) (b n : Nat) (D : DataW H)
    (hm : a.eval m = .map (some b)) (hown : w.ownsMap P k R b n D) (hn : n < maxLen) (key val : Value) (kl : Lit) (hx : a.eval x = key) (hv : a.eval v = val) (hkey : keyOf P k key = some kl)
    (d : DataW H) (ps : List MemPlace) (hval : R val = some (d, ps))
    (hK : ∀ w', w'.ownsMap P k R b (n + 1) (D.put kl d) → w.grownBy w' (some b) → K (a.put o.dst undef) w') : Oper.wp P o a w K Q := by
  obtain ⟨w', hrun, r1, r2⟩ := hown.update KK ht hn hkey hval
  unfold Oper.wp
  simp [execOp, hop, hm, hx, hv, hrun, Result.andThen]
  exact hK w' r1 r2
def NumPost (l : List CoD) (w : World) (e : Ending) (w' : World) : Prop := ∃ (g n : Nat) (D : DataW Unit), e = .returned (.map (some g)) ∧ w'.ownsMap Try.prog 59 (plainElem Try.prog 3) g n D ∧ n ≤ l.length ∧ MapIs D l ∧ w.heap.size ≤ g ∧ Below w.heap.size w w'
set_option maxRecDepth 100000 in
set_option maxHeartbeats 3200000 in
theorem numbers_any {w : World} {v : Value} {s : List CoD} (h : RdSt w v s) (hs : s.length ≤ 100000000) (hok : ∀ c ∈ s, OkC c) :
    Calls Try.prog 26 #[v] w (NumPost s w) := by
  have hmm := run_mkm
  obtain ⟨a, c, rfl, hle, hc⟩ := h.rd
  obtain ⟨L, hL⟩ : ∃ L, s.length = L := ⟨_, rfl⟩
  have HC := Lib.hid hc
  have HL := Lib.hid hL
  rw [hL] at hle hs ⊢
  clear hc hL h
  go_enter Try.func26, Try.ntmps26
  go_wp2
  go_loopw [11] (fun iv wr => ∃ (k : Nat) (D : DataW Unit), k ≤ L ∧ iv = .int .i64 k ∧ wr.ownsMap Try.prog 59 (plainElem Try.prog 3) w.heap.size k D ∧ MapIs D (s.take k) ∧ Below w.heap.size w wr) (fun iv _ => L - (intOf iv).toNat)
  case atStart => exact ⟨0, _, Nat.zero_le _, rfl, World.ownsMap_made _ _ _ _, by rw [List.take_zero]; exact mapIs_nil, bel_new w _⟩
  case round =>
    obtain ⟨k, D, hk, rfl, hown, hmap, hbw⟩ := hrel
    by_cases hlt : k < L
    · have hltI : (k : Int) < (L : Int) := by omega
      have hkl : k < s.length := by rw [HL.out]; exact hlt
      obtain ⟨b, off, rfl, hb, hcc⟩ := HC.out (by omega)
      have hcc := hcc k hkl
      have hokx := hok s[k] (List.getElem_mem hkl)
      have HTK := Lib.hid (take_succK hkl)
      obtain ⟨x, hx⟩ : ∃ x, s[k] = x := ⟨_, rfl⟩
      rw [hx] at hcc HTK hokx
      have c0 := (hbw.cell (p := ⟨b, off + k * 4, none⟩) hb).trans (by simpa using hcc 0 _ rfl)
      have c1 := (hbw.cell (p := ⟨b, off + k * 4 + 1, none⟩) hb).trans (hcc 1 _ rfl)
      have c2 := (hbw.cell (p := ⟨b, off + k * 4 + 2, none⟩) hb).trans (hcc 2 _ rfl)
      have c3 := (hbw.cell (p := ⟨b, off + k * 4 + 3, none⟩) hb).trans (hcc 3 _ rfl)
      have HOWN := Lib.hid hown
      have HM := Lib.hid hmap
      have HBW := Lib.hid hbw
      have HOK := Lib.hid hokx
      clear hcc hx hown hmap hbw hokx
      go_upto_region 5 with fail
      have hlt2 := HOWN.out.lt
      have HWA := Lib.hid (CB.new (T := 38) wr #[.string x.nm, .int .i64 x.of, .int .i64 x.n, .bool x.rev])
      have HBA := Lib.hid (HBW.out.alloc HBW.out.size (.cells #[.string x.nm, .int .i64 x.of, .int .i64 x.n, .bool x.rev] 38))
      have HNA := Lib.hid (HOWN.out.alloc (.cells #[.string x.nm, .int .i64 x.of, .int .i64 x.n, .bool x.rev] 38))
      generalize wr.alloc (.cells #[.string x.nm, .int .i64 x.of, .int .i64 x.n, .bool x.rev] 38) = WA at *
      refine wp_region_held_drew (S := (fun W => CB 38 W wr.heap.size #[.string x.nm, .int .i64 x.of, .int .i64 x.n, .bool x.rev])) (by kernel_rfl) HWA.out (fun hHeld => ?_)
      have HBD := Lib.hid HBA.out.drew
      have HND := Lib.hid HNA.out.drew
      generalize WA.drew = W1 at *
      refine wpAnyH_take (i := 0) (oi := _) (v := ?_) rfl (by kernel_rfl) (by kernel_rfl) (by kernel_rfl) (fun _ _ _ h => h) (Or.inl ⟨by rfl, ?_⟩) (by assumption) ?_
      rotate_left
      · intro W hSw
        go_simp
        all_goals with_reducible rfl
      try simp only [List.getElem_toArray, List.getElem_cons_zero, List.getElem_cons_succ, Act.put, List.setIfInBounds_toArray, List.set_cons_zero, List.set_cons_succ]
      refine wpAnyH_take (i := 1) (oi := _) (v := ?_) rfl (by kernel_rfl) (by kernel_rfl) (by kernel_rfl) (fun _ _ _ h => h) (Or.inl ⟨by rfl, ?_⟩) (by assumption) ?_
      rotate_left
      · intro W hSw
        have x0 : W.cell? ⟨wr.heap.size, 0, none⟩ = some (.string x.nm) := hSw.cell 0
        have x1 : W.cell? ⟨wr.heap.size, 1, none⟩ = some (.int .i64 x.of) := hSw.cell 1
        have x2 : W.cell? ⟨wr.heap.size, 2, none⟩ = some (.int .i64 x.n) := hSw.cell 2
        have x3 : W.cell? ⟨wr.heap.size, 3, none⟩ = some (.bool x.rev) := hSw.cell 3
        go_simp
        all_goals with_reducible rfl
      try simp only [List.getElem_toArray, List.getElem_cons_zero, List.getElem_cons_succ, Act.put, List.setIfInBounds_toArray, List.set_cons_zero, List.set_cons_succ]
      refine wpAnyH_take (i := 3) (oi := _) (v := ?_) rfl (by kernel_rfl) (by kernel_rfl) (by kernel_rfl) (fun _ _ _ h => h) (Or.inl ⟨by rfl, ?_⟩) (by assumption) ?_
      rotate_left
      · intro W hSw
        go_simp
        all_goals with_reducible rfl
      try simp only [List.getElem_toArray, List.getElem_cons_zero, List.getElem_cons_succ, Act.put, List.setIfInBounds_toArray, List.set_cons_zero, List.set_cons_succ]
      refine wpAnyH_take (i := 4) (oi := _) (v := ?_) rfl (by kernel_rfl) (by kernel_rfl) (by kernel_rfl) (fun _ _ _ h => h) (Or.inl ⟨by rfl, ?_⟩) (by assumption) ?_
      rotate_left
      · intro W hSw
        have x0 : W.cell? ⟨wr.heap.size, 0, none⟩ = some (.string x.nm) := hSw.cell 0
        have x1 : W.cell? ⟨wr.heap.size, 1, none⟩ = some (.int .i64 x.of) := hSw.cell 1
        have x2 : W.cell? ⟨wr.heap.size, 2, none⟩ = some (.int .i64 x.n) := hSw.cell 2
        have x3 : W.cell? ⟨wr.heap.size, 3, none⟩ = some (.bool x.rev) := hSw.cell 3
        go_simp
        all_goals with_reducible rfl
      try simp only [List.getElem_toArray, List.getElem_cons_zero, List.getElem_cons_succ, Act.put, List.setIfInBounds_toArray, List.set_cons_zero, List.set_cons_succ]
      refine wpAnyH_ready (rs := [2]) (by kernel_rfl) (by simp) ?_
      refine AllReadyH.cons (o := _) rfl (fun K hK => ?_) AllReadyH.nil
      simp only [List.getElem_toArray, List.getElem_cons_zero, List.getElem_cons_succ]
      rw [if_pos (by rfl)]
      go_simp
      refine (which_any _ _ _ _ _).mono ?_
      rintro e W2 ⟨rfl, hb2⟩
      have hS2 : CB 38 W2 wr.heap.size #[.string x.nm, .int .i64 x.of, .int .i64 x.n, .bool x.rev] := hHeld.below hb2 hHeld.lt
      have HB2 := Lib.hid (HBD.out.trans (hb2.mono HBD.out.size))
      have HN2 := Lib.hid (HND.out.kept (below_grown hb2 none) (by simp))
      clear hb2 hHeld
      go_simp
      refine hK.out _ _ hS2 (fun hHeld => ?_)
      clear hK K
      try simp only [List.getElem_toArray, List.getElem_cons_zero, List.getElem_cons_succ, Act.put, List.setIfInBounds_toArray, List.set_cons_zero, List.set_cons_succ]
      refine wpAnyH_ready (rs := [5]) (by kernel_rfl) (by simp) ?_
      refine AllReadyH.cons (o := _) rfl (fun K hK => ?_) AllReadyH.nil
      simp only [List.getElem_toArray, List.getElem_cons_zero, List.getElem_cons_succ]
      rw [if_pos (by rfl)]
      refine wp_mapUpd _ _ _ 56 rfl 59 3 law_id Try.underlying56 (plainElem (H := Unit) Try.prog 3) w.heap.size k D rfl HN2.out (by unfold maxLen; omega) _ _ _ rfl rfl (keyOf_id HOK.out.id) _ [] (plainElem_int Try.underlying3 HOK.out.wf) ?_
      intro W3 hown3 hg3
      have hS3 : CB 38 W3 wr.heap.size #[.string x.nm, .int .i64 x.of, .int .i64 x.n, .bool x.rev] := hHeld.grown hg3 (by intro e; injection e; omega)
      have HB3 := Lib.hid (HB2.out.grown hg3 HB2.out.size (fun j hj => by injection hj; omega))
      have HN3 := Lib.hid hown3
      have HM3 := Lib.hid (show MapIs (D.put (keyS x.nm x.of) (.lit (.int .i64 x.n))) (s.take (k + 1)) by rw [HTK.out]; exact mapIs_snoc HM.out HOK.out.id)
      clear hown3 hg3 hHeld
      refine hK.out _ _ hS3 (fun hHeld => ?_)
      clear hK K
      try simp only [List.getElem_toArray, List.getElem_cons_zero, List.getElem_cons_succ, Act.put, List.setIfInBounds_toArray, List.set_cons_zero, List.set_cons_succ]
      refine wpAnyH_done (by kernel_rfl) ?_ _
      go_wp2
      go_roundw
      case rel => exact ⟨k + 1, _, by omega, by go_num, HN3.out, HM3.out, HB3.out⟩
      case measure => simp [intOf]; omega
    · have hltI : ¬ (k : Int) < (L : Int) := by omega
      obtain rfl : k = L := by omega
      have HF := Lib.hid (show MapIs D s by rw [← HL.out, List.take_of_length_le (Nat.le_refl _)] at hmap; exact hmap)
      clear hmap
      go_wp2
      go_ret
      exact ⟨_, _, D, rfl, hown, by rw [HL.out]; exact Nat.le_refl _, HF.out, Nat.le_refl _, hbw⟩
end Go.Proofs.Ytmnjopbfdocinaa
