
import Derived.Test.YtmnjopbfdocinaaScA
import Derived.Test.YtmnjopbfdocinaaGtA
import Derived.Deep.RegionLaw
import Derived.Outline
import Derived.Deep.CutBlock
import Derived.Deep.DeepMust
import Derived.Lib.SliceRun
namespace Go.Proofs.Ytmnjopbfdocinaa
open Go.RowKit
/-! scope: whether a place is among its siblings; a counter taken out of a row of the call's own. -/
def IdxPost (x : Int) (l : List Int) (w : World) (e : Ending) (w' : World) : Prop := (∃ i : Int, e = .returned (.int .i64 i) ∧ (decide (0 ≤ i) = decide (x ∈ l))) ∧ w = w'
set_option maxRecDepth 100000 in
set_option maxHeartbeats 800000 in
theorem index_any (x : Int) {w : World} {v : Value} {l : List Int} (h : Rd .i64 w v l) (hl : l.length ≤ 100000000) :
    Calls Try.prog 29 #[v, .int .i64 x] w (IdxPost x l w) := by
  obtain ⟨a, c, rfl, hle, hc⟩ := h
  obtain ⟨L, hL⟩ : ∃ L, l.length = L := ⟨_, rfl⟩
  have HC := Lib.hid hc
  have HL := Lib.hid hL
  rw [hL] at hl hle ⊢
  clear hc hL
  go_enter Try.func29, Try.ntmps29
  go_wp2
  go_loop [5, 8] (fun _ iv => ∃ k : Nat, k ≤ L ∧ iv = .int .i64 k ∧ ∀ j, j < k → nth l j ≠ x) (fun _ iv => L - (intOf iv).toNat)
  case atStart => exact ⟨0, Nat.zero_le _, rfl, fun j hj => absurd hj (Nat.not_lt_zero _)⟩
  case round =>
    obtain ⟨k, hk, rfl, hq⟩ := hrel
    have HQ := Lib.hid hq
    clear hq
    by_cases hlt : k < L
    · have hltI : (k : Int) < (L : Int) := by omega
      obtain ⟨b, off, rfl, hb, hcc⟩ := HC.out (by rw [HL.out]; omega)
      have hc0 := hcc k (by rw [HL.out]; exact hlt)
      clear hcc
      have HM := Lib.hid (show nth l k ∈ l by
        have hkl : k < l.length := by rw [HL.out]; exact hlt
        unfold nth
        rw [List.getD_eq_getElem?_getD, List.getElem?_eq_getElem hkl]
        exact List.getElem_mem hkl)
      obtain ⟨y, hy⟩ : ∃ y, nth l k = y := ⟨_, rfl⟩
      rw [hy] at hc0
      have HY := Lib.hid hy
      clear hy
      cases hxy : (x == y) with
      | true =>
        have HE := Lib.hid (show decide ((0 : Int) ≤ (k : Int)) = decide (x ∈ l) by
          rw [decide_eq_true (by omega), decide_eq_true (by have h1 := HM.out; rw [HY.out, ← eq_of_beq hxy] at h1; exact h1)])
        go_wp2
        go_ret
        exact ⟨⟨_, rfl, HE.out⟩, rfl⟩
      | false =>
        have HE := Lib.hid (show ∀ j, j < k + 1 → nth l j ≠ x from fun j hj e => by
          rcases Nat.lt_or_eq_of_le (Nat.le_of_lt_succ hj) with hj | rfl
          · exact HQ.out j hj e
          · rw [HY.out] at e
            rw [e] at hxy
            simp at hxy)
        go_wp2
        go_round
        case rel => exact ⟨k + 1, by omega, by go_num, HE.out⟩
        case measure => simp [intOf]; omega
    · have hltI : ¬ (k : Int) < (L : Int) := by omega
      have HE := Lib.hid (show decide ((0 : Int) ≤ -1) = decide (x ∈ l) by
        rw [decide_eq_false (by omega), decide_eq_false (fun hm => by
          obtain ⟨j, hj, e⟩ := List.mem_iff_getElem.1 hm
          refine HQ.out j (by have := HL.out; omega) ?_
          unfold nth
          rw [List.getD_eq_getElem?_getD, List.getElem?_eq_getElem hj]
          exact e)])
      go_wp2
      go_ret
      exact ⟨⟨_, rfl, HE.out⟩, rfl⟩
set_option maxRecDepth 100000 in
set_option maxHeartbeats 800000 in
theorem contains_any (x : Int) {w : World} {v : Value} {l : List Int} (h : Rd .i64 w v l) (hl : l.length ≤ 100000000) :
    Calls Try.prog 21 #[v, .int .i64 x] w fun e w' => e = .returned (.bool (decide (x ∈ l))) ∧ w = w' := by
  go_enter Try.func21, Try.ntmps21
  go_wp2_with (go_at_call 29; refine (index_any x h hl).mono ?_; rintro e w' ⟨⟨i, rfl, hi⟩, rfl⟩; have HI := Lib.hid hi; clear hi)
  go_ret
  exact ⟨ret_bool HI.out, rfl⟩
/-! A block's cells, some stored anew. -/
def csetsK (cs : Array Value) : Nat → List Value → Array Value
  | _, [] => cs
  | o, v :: r => csetsK (cs.setIfInBounds o v) (o + 1) r
theorem CB.setsK {T : TypeId} {b : Nat} : ∀ (vs : List Value) (o : Nat) (w : World) (cs : Array Value), CB T w b cs → CB T (w.setCells b o vs) b (csetsK cs o vs)
  | [], _, _, _, h => h
  | v :: r, o, _, _, h => CB.setsK r (o + 1) _ _ (h.set o v)
theorem setsK_grown {b : Nat} : ∀ (vs : List Value) (o : Nat) (w0 w : World), w0.grownBy w (some b) → w0.grownBy (w.setCells b o vs) (some b)
  | [], _, _, _, h => h
  | v :: r, o, w0, w, h => setsK_grown r (o + 1) w0 _ ⟨h.os, h.tape, h.output, by simpa [World.setCell] using h.size, fun k hk hn => (heap_setCell_other w ⟨b, o, none⟩ k v (fun e => hn (by rw [e]))).trans (h.block k hk hn)⟩
theorem csetsK_list : ∀ (vs : List Value) (o : Nat) (cs : Array Value), o + vs.length ≤ cs.size → (csetsK cs o vs).toList = cs.toList.take o ++ vs ++ cs.toList.drop (o + vs.length)
  | [], o, cs, _ => by simp [csetsK]
  | v :: r, o, cs, h => by
    rw [List.length_cons] at h
    rw [csetsK, csetsK_list r (o + 1) _ (by simp; omega)]
    rw [Array.toList_setIfInBounds, List.length_cons]
    have h1 : o < cs.toList.length := by simp; omega
    rw [List.take_succ_eq_append_getElem (by simpa using h1), List.getElem_set_self, List.take_set_of_le (Nat.le_refl _), List.drop_set_of_lt (by omega)]
    rw [show o + 1 + r.length = o + (r.length + 1) by omega]
    simp
theorem csetsK_size : ∀ (vs : List Value) (o : Nat) (cs : Array Value), (csetsK cs o vs).size = cs.size
  | [], _, _ => rfl
  | v :: r, o, cs => by rw [csetsK, csetsK_size r (o + 1)]; simp
theorem run_clear_one {P : Program} (w : World) (t e ty : TypeId) (z : Value) (zs : List Value) (ht : P.underlying t = some (.slice e)) (hv : ∀ w, (zeroValue e).run P w = .ok z w) (hz : (Builtin.zeroCells z.cells 1).toList = zs) (h1 : ∀ u ∈ zs, u.oneCell' = true) (b o c : Nat)
    (hc : ∀ j, j < zs.length → (w.cell? ⟨b, o + j, none⟩).isSome = true) (hf : ∀ j, j < zs.length → w.frozen? ⟨b, o + j, none⟩ = false) :
    (Builtin.clear_ #[t] ty #[.slice (some ⟨b, o, none⟩) 1 c]).run P w = .ok (.tuple #[]) (w.setCells b o zs) := by
  have hst := run_storeCells_cells (P := P) b o zs 0 w (by simpa using hc) (by simpa using hf) h1
  simp only [Nat.add_zero] at hst
  simp [Builtin.clear_, run_underlying ht, hv, hz, hst]
theorem info_cnt : (Try.prog.info? 38).map (fun i => (i.zero, i.size, i.bytes)) = some (some (.agg #[.string ⟨#[]⟩, .int .i64 0, .int .i64 0, .bool false]), 4, 40) := by kernel_rfl
theorem zero_cnt (w : World) : (zeroValue 38).run Try.prog w = .ok (.agg #[.string ⟨#[]⟩, .int .i64 0, .int .i64 0, .bool false]) w := by kernel_rfl
abbrev zcnt : List Value := [.string ⟨#[]⟩, .int .i64 0, .int .i64 0, .bool false]
theorem ccs_len (x : CoD) : (ccs x).length = 4 := rfl
theorem ccs_one {l : List CoD} : ∀ u ∈ l.flatMap ccs, u.oneCell' = true := fun u hu => by
  obtain ⟨x, _, hx⟩ := List.mem_flatMap.1 hu
  simp only [ccs, List.mem_cons, List.not_mem_nil, or_false] at hx
  rcases hx with rfl | rfl | rfl | rfl <;> rfl
theorem flat_dropK {α : Type} (f : α → List Value) (k : Nat) (hf : ∀ x, (f x).length = k) : ∀ (l : List α) (i : Nat), (l.flatMap f).drop (i * k) = (l.drop i).flatMap f
  | [], i => by simp
  | x :: l, 0 => by simp
  | x :: l, i + 1 => by
    rw [List.flatMap_cons, List.drop_succ_cons, ← flat_dropK f k hf l i, Nat.succ_mul, Nat.add_comm, List.drop_append, hf]
    rw [List.drop_eq_nil_of_le (by rw [hf]; omega), List.nil_append]
    congr 1
    omega
theorem flat_takeK {α : Type} (f : α → List Value) (k : Nat) (hf : ∀ x, (f x).length = k) : ∀ (l : List α) (i : Nat), (l.flatMap f).take (i * k) = (l.take i).flatMap f
  | [], i => by simp
  | x :: l, 0 => by simp
  | x :: l, i + 1 => by
    rw [List.flatMap_cons, List.take_succ_cons, List.flatMap_cons, ← flat_takeK f k hf l i, Nat.succ_mul, Nat.add_comm, List.take_append, hf]
    rw [List.take_of_length_le (by rw [hf]; omega)]
    congr 2
    omega
/-- A row that is the call's own, its block known whole. -/
def OwnC (w : World) (g cap : Nat) (l : List CoD) : Prop := ∃ cur, CB 38 w g cur ∧ cur.size = cap * 4 ∧ l.length ≤ cap ∧ cur.toList.take (l.length * 4) = l.flatMap ccs
theorem del_cells {cur : Array Value} {cap i n : Nat} {l : List CoD} {X : List Value} (hsz : cur.size = cap * 4) (hn : l.length = n) (hi : i < n) (hc : n < cap) (htk : cur.toList.take (n * 4) = l.flatMap ccs) (hX : (l.drop (i + 1)).flatMap ccs = X) (hXl : X.length = (n - (i + 1)) * 4) :
    (csetsK (csetsK cur (i * 4) X) ((n - 1) * 4) zcnt).toList.take ((l.eraseIdx i).length * 4) = (l.eraseIdx i).flatMap ccs := by
  have e1 : (l.eraseIdx i).length = n - 1 := by rw [List.length_eraseIdx_of_lt (by omega), hn]
  have e2 : i * 4 + X.length = (n - 1) * 4 := by rw [hXl]; omega
  have hs1 : (csetsK cur (i * 4) X).size = cap * 4 := by rw [csetsK_size, hsz]
  rw [e1, csetsK_list zcnt _ _ (by rw [hs1]; simp; omega), List.append_assoc, List.take_append_of_le_length (by rw [List.length_take, Array.length_toList, hs1]; omega), List.take_take, Nat.min_self]
  rw [csetsK_list X _ _ (by rw [hsz, e2]; omega), e2]
  rw [List.take_append_of_le_length (by rw [List.length_append, List.length_take, Array.length_toList, hsz]; omega)]
  rw [List.take_of_length_le (by rw [List.length_append, List.length_take]; omega)]
  rw [List.eraseIdx_eq_take_drop_succ, List.flatMap_append, hX, ← flat_takeK ccs 4 ccs_len, ← htk, List.take_take, Nat.min_eq_left (by omega)]
def DelPost (w : World) (g cap : Nat) (l : List CoD) (i : Nat) (e : Ending) (w' : World) : Prop := e = .returned (.slice (some ⟨g, 0, none⟩) (l.length - 1) cap) ∧ OwnC w' g cap (l.eraseIdx i) ∧ w.grownBy w' (some g)
set_option maxRecDepth 100000 in
set_option maxHeartbeats 1600000 in
theorem delete_any {w : World} {g cap : Nat} {l : List CoD} (h : OwnC w g cap l) (hc : l.length < cap) (hm : cap ≤ 100000001) (i : Nat) (hi : i < l.length) :
    Calls Try.prog 22 #[.slice (some ⟨g, 0, none⟩) l.length cap, .int .i64 i, .int .i64 ((i : Int) + 1)] w (DelPost w g cap l i) := by
  obtain ⟨i0, hi0, hz0, hz1, hz2⟩ := info_parts info_cnt
  obtain ⟨cur, hcb, hsz, hle, htk⟩ := h
  obtain ⟨n, hn⟩ : ∃ n, l.length = n := ⟨_, rfl⟩
  obtain ⟨X, hX⟩ : ∃ X, (l.drop (i + 1)).flatMap ccs = X := ⟨_, rfl⟩
  have hXl : X.length = (n - (i + 1)) * 4 := by rw [← hX, flat_lenK ccs 4 ccs_len, List.length_drop, hn]
  have hcell : ∀ j u, (l.flatMap ccs)[j]? = some u → cur[j]? = some u := fun j u hj => by
    rw [← htk, List.getElem?_take] at hj
    split at hj
    · simpa using hj
    · cases hj
  have hXc : Hid (∀ j u, X[j]? = some u → w.drew.cell? ((⟨g, (i + 1) * 4, none⟩ : Addr).add j) = some u) := fun j u hj => by
    rw [addK]
    refine (hcb.cell _).trans (hcell _ _ ?_)
    rw [← List.getElem?_drop, flat_dropK ccs 4 ccs_len, hX]
    exact hj
  have hX1 : Hid (∀ u ∈ X, u.oneCell' = true) := by rw [← hX]; exact ccs_one
  have hXs : Hid (∀ j, j < X.length → (w.drew.cell? ⟨g, 0 + i * 4 + j, none⟩).isSome = true ∧ w.drew.frozen? ⟨g, 0 + i * 4 + j, none⟩ = false) := fun j hj => by
    rw [hXl] at hj
    refine ⟨?_, hcb.frozen _⟩
    show (w.cell? _).isSome = true
    rw [hcb.cell, Array.getElem?_eq_getElem (by omega)]
    rfl
  have HXL := Lib.hid hXl
  have hcb1 : CB 38 (w.drew.setCells g (i * 4) X) g (csetsK cur (i * 4) X) := CB.setsK X _ _ _ hcb
  have hg1 : w.grownBy (w.drew.setCells g (i * 4) X) (some g) := setsK_grown X _ _ _ ⟨rfl, rfl, rfl, Nat.le_refl _, fun _ _ _ => rfl⟩
  have hclr := fun W (hW : CB 38 W g (csetsK cur (i * 4) X)) => run_clear_one (P := Try.prog) W 25 38 0 _ zcnt Try.underlying25 zero_cnt (by kernel_rfl) (by simp [Value.oneCell']) g ((n - 1) * 4) (cap - (n - 1))
    (fun j hj => by
      have hj4 : j < 4 := hj
      rw [hW.cell, Array.getElem?_eq_getElem (by rw [csetsK_size]; omega)]
      rfl)
    (fun j _ => hW.frozen _)
  have HCL := Lib.hid hclr
  have HC1 := Lib.hid hcb1
  have HG1 := Lib.hid hg1
  have HTK := Lib.hid htk
  have HX := Lib.hid hX
  have HCB := Lib.hid hcb
  have HN := Lib.hid hn
  rw [hn] at hc hi ⊢
  have hwr : IntKind.i64.wrap ((i : Int) + 1) = (i : Int) + 1 := by rw [IntKind.wrap_i64]; omega
  have hp0 : (0 : Int) ≤ (i : Int) + 1 := by omega
  have hp1 : (i : Int) + 1 ≤ (n : Int) := by omega
  have hp2 : ((i : Int) + 1).toNat = i + 1 := by omega
  have hne : ((i : Int) == (i : Int) + 1) = false := by simp; omega
  have hic : i ≤ cap := by omega
  have hic2 : ¬ cap = i + 1 := by omega
  have hnn : i + (n - (i + 1)) = n - 1 := by omega
  have hnc : ¬ cap = n - 1 := by omega
  have hn1 : n - (n - 1) = 1 := by omega
  clear hclr hcb1 hg1 htk hX hcb hn hXl hcell hle
  go_enter Try.func22, Try.ntmps22
  go_upto_region 5 with fail
  go_region_law (refine step_append_room rfl (.tmp 22) (.tmp 25) 25 rfl 38 i0 4 Try.underlying25 hi0 hz1 g 0 i cap (by simp [Act.eval, Act.put]) ⟨g, (i + 1) * 4, none⟩ (n - (i + 1)) (cap - (i + 1)) X (by simp [Act.eval, Act.put]) HXL.out hXc.out hX1.out (by omega) hXs.out ?_)
  generalize World.setCells w.drew g (i * 4) X = W1 at *
  have hcl := HCL.out W1 HC1.out
  clear hnn hwr hp0 hp1 hp2
  go_wp2
  go_ret
  have hc2 := CB.setsK zcnt ((n - 1) * 4) _ _ HC1.out
  have hg2 := setsK_grown zcnt ((n - 1) * 4) _ _ HG1.out
  have htk2 := HTK.out
  rw [HN.out] at htk2
  have hfin := del_cells hsz HN.out hi hc htk2 HX.out HXL.out
  unfold DelPost
  rw [HN.out]
  exact ⟨rfl, ⟨_, hc2, by rw [csetsK_size, csetsK_size]; exact hsz, by rw [List.length_eraseIdx_of_lt (by rw [HN.out]; exact hi), HN.out]; omega, hfin⟩, hg2⟩
end Go.Proofs.Ytmnjopbfdocinaa
