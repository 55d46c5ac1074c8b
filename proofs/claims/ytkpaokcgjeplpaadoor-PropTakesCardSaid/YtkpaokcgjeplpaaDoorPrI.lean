
import Derived.Test.YtkpaokcgjeplpaaDoorPrE
namespace Go.Proofs.YtkpaokcgjeplpaaDoor
open Go.RowKit
/-! prop: content's functions. -/
def sbS (l : List Nd) : ByteArray × Bool := match l with
  | [] => (pdecB, true)
  | n :: l => if (n.tok.kind == 18) = true then nameOrS l else (⟨#[]⟩, false)
def attrS (l : List Nd) : ItD × Bool := ({ kind := 2, text := (singleS l).1 }, (singleS l).2)
def innerS (l : List Nd) : ItD × Bool := match l with
  | [] => ({ kind := 0 }, false)
  | n :: l => ({ kind := 3, text := (cnameS n.tok).1, style := (sbS l).1 }, (cnameS n.tok).2 && (sbS l).2)
/-- What is left behind the first: where the row's room ends there, Go keeps the place. -/
theorem rdn_tail {w : World} {P : Nat → Prop} {b off n c : Nat} {l : List Nd} (h : RdN w P (.slice (some ⟨b, off + 7, none⟩) n c) l) : (c = 0 ∧ n = 0 ∧ l = []) ∨ ¬ c = 0 := by
  by_cases hc : c = 0
  · obtain ⟨_, _, he, hle⟩ := h.shape
    injection he with _ h2 h3
    have hl0 : l.length = 0 := by omega
    exact .inl ⟨hc, by omega, List.eq_nil_of_length_eq_zero hl0⟩
  · exact .inr hc
set_option maxRecDepth 100000 in
set_option maxHeartbeats 1600000 in
theorem behind_any {l : List Nd} {v : Value} {w : World} {P : Nat → Prop} (ht : TabP w) (h : RdN w P v l) (hl : szL l ≤ 100000000) (hx : TX l) :
    Calls Tryd.prog 96 #[v] w fun e w' => e = .returned (.tuple #[.string (sbS l).1, .bool (sbS l).2]) ∧ Below w.heap.size w w' := by
  cases h with
  | nil a c =>
    go_enter Tryd.func96, Tryd.ntmps96
    go_wp2
    exact bodyPost_ret (v := .tuple #[.string pdecB, .bool true]) (by simp [results, Tryd.results96, go_sem]) rfl ⟨rfl, Below.refl _ _⟩
  | cons b off n c t u k l hP hb hat hku hrl =>
    have hll := szL_ge l
    rw [szL, szN] at hl
    have hz : szL l ≤ 100000000 := by omega
    have hxl : TX l := fun x hx1 => hx x (List.mem_cons_of_mem _ hx1)
    obtain ⟨p0, p1, p2, p3, p4, p5, p6⟩ := hat
    have hnl : n = l.length := by obtain ⟨_, _, he, _⟩ := hrl.shape; injection he
    have hn0 : ((n : Int) + 1 == 0) = false := beq_eq_false_iff_ne.2 (by omega)
    have hn1 : ¬ (n : Int) + 1 = 0 := by omega
    have hn2 : (0 : Int) < (n : Int) + 1 := by omega
    have hnb : n ≤ 100000000 := by omega
    clear hku hx hl hnl
    by_cases k1 : (t.kind == 18) = true
    · have k1b : (t.kind != 18) = false := by rw [bne, k1]; rfl
      have HD : Hid (sbS (.mk t k :: l) = nameOrS l) := if_pos k1
      rw [HD.out]
      rcases rdn_tail hrl with ⟨rfl, rfl, rfl⟩ | hc0
      · have HC := Lib.hid (nameOr_any ht (RdN.nil (some ⟨b, off, none⟩) 0 : RdN w P (.slice (some ⟨b, off, none⟩) 0 0) []) hz hxl)
        go_enter Tryd.func96, Tryd.ntmps96
        go_wp2_with (go_at_call 54; refine HC.out.mono ?_; rintro e w1 ⟨rfl, hb1⟩)
        exact bodyPost_ret (v := .tuple #[.string (nameOrS []).1, .bool (nameOrS []).2]) (by simp [results, Tryd.results96, go_sem]) rfl ⟨rfl, hb1⟩
      · have HC := Lib.hid (nameOr_any ht hrl hz hxl)
        generalize nameOrS l = R at *
        go_enter Tryd.func96, Tryd.ntmps96
        go_wp2_with (go_at_call 54; refine HC.out.mono ?_; rintro e w1 ⟨rfl, hb1⟩)
        exact bodyPost_ret (v := .tuple #[.string R.1, .bool R.2]) (by simp [results, Tryd.results96, go_sem]) rfl ⟨rfl, hb1⟩
    · have k1 : (t.kind == 18) = false := by simpa using k1
      have k1b : (t.kind != 18) = true := by rw [bne, k1]; rfl
      have HD : Hid (sbS (.mk t k :: l) = (⟨#[]⟩, false)) := if_neg (by show ¬ (t.kind == 18) = true; rw [k1]; decide)
      rw [HD.out]
      go_enter Tryd.func96, Tryd.ntmps96
      go_wp2
      exact bodyPost_ret (v := .tuple #[.string (⟨#[]⟩), .bool false]) (by simp [results, Tryd.results96, go_sem]) rfl ⟨rfl, Below.refl _ _⟩
abbrev itV (x : ItD) : Value := .agg #[.int .i64 x.kind, .string x.text, .string x.sep, .string x.style]
def ItPost (w : World) (r : ItD × Bool) (e : Ending) (w' : World) : Prop := e = .returned (.tuple #[itV r.1, .bool r.2]) ∧ Below w.heap.size w w'
abbrev iz : Array Value := #[.int .i64 0, .string ⟨#[]⟩, .string ⟨#[]⟩, .string ⟨#[]⟩]
theorem ibx_bel (w : World) : Below w.heap.size w (w.alloc (.cells iz 45)) := (Below.refl w.heap.size w).alloc (Nat.le_refl _) _
theorem ibx_bel_any (w : World) (o : Obj) : Below w.heap.size w (w.alloc o) := (Below.refl w.heap.size w).alloc (Nat.le_refl _) _
theorem it_fin {w W : World} (hB : Below w.heap.size w W) (d : ItD) (ok : Bool) : ItPost w (d, ok) (.returned (.tuple #[itV d, .bool ok])) (put4 W w.heap.size (.int .i64 d.kind) (.string d.text) (.string d.sep) (.string d.style)) :=
  ⟨rfl, put4_below hB (Nat.le_refl _) _ _ _ _⟩
theorem it_new (w : World) (d : ItD) (ok : Bool) : ItPost w (d, ok) (.returned (.tuple #[itV d, .bool ok])) (w.alloc (.cells #[.int .i64 d.kind, .string d.text, .string d.sep, .string d.style] 45)) :=
  ⟨rfl, ibx_bel_any w _⟩
set_option maxRecDepth 100000 in
set_option maxHeartbeats 1600000 in
theorem attr_any {l : List Nd} {v : Value} {w : World} {P : Nat → Prop} (h : RdN w P v l) (hl : szL l ≤ 100000000) (hx : TX l) :
    Calls Tryd.prog 84 #[v] w (ItPost w (attrS l)) := by
  have HB0 := Lib.hid (ibx_bel w)
  have HCB0 := Lib.hid (CB.new (T := 45) w iz)
  have HC := Lib.hid (single_any (h.under HB0.out (Nat.le_refl _)) hl hx)
  obtain ⟨a, c, rfl, _⟩ := h.shape
  unfold attrS
  generalize singleS l = S at *
  go_enter Tryd.func84, Tryd.ntmps84
  go_wp2_with (go_at_call 50; refine HC.out.mono ?_; rintro e w1 ⟨rfl, hb1⟩; have hB1 := below_seq HB0.out hb1; have HCB1 := Lib.hid (HCB0.out.below hb1 (by simp)); have hs1 := HCB1.out.lt; have c0 : w1.cell? ⟨w.heap.size, 0, none⟩ = some (.int .i64 0) := HCB1.out.cell 0; have c1 : w1.cell? ⟨w.heap.size, 1, none⟩ = some (.string ⟨#[]⟩) := HCB1.out.cell 1; have c2 : w1.cell? ⟨w.heap.size, 2, none⟩ = some (.string ⟨#[]⟩) := HCB1.out.cell 2; have c3 : w1.cell? ⟨w.heap.size, 3, none⟩ = some (.string ⟨#[]⟩) := HCB1.out.cell 3; have f0 := HCB1.out.frozen 0; have f1 := HCB1.out.frozen 1; have f2 := HCB1.out.frozen 2; have f3 := HCB1.out.frozen 3)
  refine bodyPost_ret (v := .tuple #[itV { kind := 2, text := S.1 }, .bool S.2]) (res_box (by rfl) _ _ w.heap.size _ _ _ _ (by rfl) (by rfl) (HCB1.out.put4 (.int .i64 2) (.string S.1) (.string ⟨#[]⟩) (.string ⟨#[]⟩)) Tryd.underlying45 (by rfl) item_size) rfl ?_
  exact it_fin hB1 { kind := 2, text := S.1 } S.2
set_option maxRecDepth 100000 in
set_option maxHeartbeats 3200000 in
theorem inner_any {l : List Nd} {v : Value} {w : World} {P : Nat → Prop} (ht : TabP w) (h : RdN w P v l) (hl : szL l ≤ 100000000) (hx : TX l) :
    Calls Tryd.prog 85 #[v] w (ItPost w (innerS l)) := by
  have HB0 := Lib.hid (ibx_bel w)
  have HCB0 := Lib.hid (CB.new (T := 45) w iz)
  cases h with
  | nil a c =>
    have HD : Hid (innerS [] = ({ kind := 0 }, false)) := rfl
    rw [HD.out]
    go_enter Tryd.func85, Tryd.ntmps85
    go_wp2
    refine bodyPost_ret (v := .tuple #[itV { kind := 0 }, .bool false]) (res_box (by rfl) _ _ w.heap.size _ _ _ _ (by rfl) (by rfl) HCB0.out Tryd.underlying45 (by rfl) item_size) rfl ?_
    exact it_new w { kind := 0 } false
  | cons b off n c t u k l hP hb hat hku hrl =>
    have hll := szL_ge l
    rw [szL, szN] at hl
    have hz : szL l ≤ 100000000 := by omega
    have hxl : TX l := fun x hx1 => hx x (List.mem_cons_of_mem _ hx1)
    have hxt : t.text.size ≤ 1000000000 := hx _ (List.mem_cons_self)
    obtain ⟨p0, p1, p2, p3, p4, p5, p6⟩ := hat
    obtain ⟨ua, uc, rfl, _⟩ := hku.shape
    have hnl : n = l.length := by obtain ⟨_, _, he, _⟩ := hrl.shape; injection he
    have hn0 : ((n : Int) + 1 == 0) = false := beq_eq_false_iff_ne.2 (by omega)
    have hn1 : ¬ (n : Int) + 1 = 0 := by omega
    have hn2 : (0 : Int) < (n : Int) + 1 := by omega
    have hnb : n ≤ 100000000 := by omega
    have HD : Hid (innerS (.mk t k :: l) = ({ kind := 3, text := (cnameS t).1, style := (sbS l).1 }, (cnameS t).2 && (sbS l).2)) := rfl
    rw [HD.out]
    clear hku hx hl hnl HD
    rcases rdn_tail hrl with ⟨rfl, rfl, rfl⟩ | hc0
    · have HTL : Hid (RdN w P (.slice (some ⟨b, off, none⟩) 0 0) []) := .nil _ _
      generalize hcn : cnameS t = CN at *
      have HCN := Lib.hid hcn
      generalize hsb : sbS [] = SB at *
      have HSB := Lib.hid hsb
      clear hcn hsb
      go_enter Tryd.func85, Tryd.ntmps85
      cases h1 : CN.2
      · go_wp2_with (first | (go_at_call 87; refine (cname_any _ _ _ _ _ (ht.below HB0.out) hxt).mono ?_; rintro e w1 ⟨rfl, hb1⟩; rw [HCN.out]; rw [h1]; have hB1 := below_seq HB0.out hb1; have HCB1 := Lib.hid (HCB0.out.below hb1 (by simp)); have HT1 := Lib.hid (ht.below hB1); have HTL1 := Lib.hid (HTL.out.under hB1 (Nat.le_refl _)); have hs1 := HCB1.out.lt) | (go_at_call 96; refine (behind_any HT1.out HTL1.out hz hxl).mono ?_; rintro e w2 ⟨rfl, hb2⟩; rw [HSB.out]; have hB2 := below_seq hB1 hb2; have HCB2 := Lib.hid (HCB1.out.below hb2 HCB1.out.lt); have hs2 := HCB2.out.lt; have c0 : w2.cell? ⟨w.heap.size, 0, none⟩ = some (.int .i64 0) := HCB2.out.cell 0; have c1 : w2.cell? ⟨w.heap.size, 1, none⟩ = some (.string ⟨#[]⟩) := HCB2.out.cell 1; have c2 : w2.cell? ⟨w.heap.size, 2, none⟩ = some (.string ⟨#[]⟩) := HCB2.out.cell 2; have c3 : w2.cell? ⟨w.heap.size, 3, none⟩ = some (.string ⟨#[]⟩) := HCB2.out.cell 3; have f0 := HCB2.out.frozen 0; have f1 := HCB2.out.frozen 1; have f2 := HCB2.out.frozen 2; have f3 := HCB2.out.frozen 3))
        refine bodyPost_ret (v := .tuple #[itV { kind := 3, text := CN.1, style := SB.1 }, .bool false]) (res_box (by rfl) _ _ w.heap.size _ _ _ _ (by rfl) (by rfl) (HCB2.out.put4 (.int .i64 3) (.string CN.1) (.string ⟨#[]⟩) (.string SB.1)) Tryd.underlying45 (by rfl) item_size) rfl ?_
        exact it_fin hB2 { kind := 3, text := CN.1, style := SB.1 } false
      · go_wp2_with (first | (go_at_call 87; refine (cname_any _ _ _ _ _ (ht.below HB0.out) hxt).mono ?_; rintro e w1 ⟨rfl, hb1⟩; rw [HCN.out]; rw [h1]; have hB1 := below_seq HB0.out hb1; have HCB1 := Lib.hid (HCB0.out.below hb1 (by simp)); have HT1 := Lib.hid (ht.below hB1); have HTL1 := Lib.hid (HTL.out.under hB1 (Nat.le_refl _)); have hs1 := HCB1.out.lt) | (go_at_call 96; refine (behind_any HT1.out HTL1.out hz hxl).mono ?_; rintro e w2 ⟨rfl, hb2⟩; rw [HSB.out]; have hB2 := below_seq hB1 hb2; have HCB2 := Lib.hid (HCB1.out.below hb2 HCB1.out.lt); have hs2 := HCB2.out.lt; have c0 : w2.cell? ⟨w.heap.size, 0, none⟩ = some (.int .i64 0) := HCB2.out.cell 0; have c1 : w2.cell? ⟨w.heap.size, 1, none⟩ = some (.string ⟨#[]⟩) := HCB2.out.cell 1; have c2 : w2.cell? ⟨w.heap.size, 2, none⟩ = some (.string ⟨#[]⟩) := HCB2.out.cell 2; have c3 : w2.cell? ⟨w.heap.size, 3, none⟩ = some (.string ⟨#[]⟩) := HCB2.out.cell 3; have f0 := HCB2.out.frozen 0; have f1 := HCB2.out.frozen 1; have f2 := HCB2.out.frozen 2; have f3 := HCB2.out.frozen 3))
        refine bodyPost_ret (v := .tuple #[itV { kind := 3, text := CN.1, style := SB.1 }, .bool SB.2]) (res_box (by rfl) _ _ w.heap.size _ _ _ _ (by rfl) (by rfl) (HCB2.out.put4 (.int .i64 3) (.string CN.1) (.string ⟨#[]⟩) (.string SB.1)) Tryd.underlying45 (by rfl) item_size) rfl ?_
        exact it_fin hB2 { kind := 3, text := CN.1, style := SB.1 } SB.2

    · have HTL := Lib.hid hrl
      generalize hcn : cnameS t = CN at *
      have HCN := Lib.hid hcn
      generalize hsb : sbS l = SB at *
      have HSB := Lib.hid hsb
      clear hcn hsb
      go_enter Tryd.func85, Tryd.ntmps85
      cases h1 : CN.2
      · go_wp2_with (first | (go_at_call 87; refine (cname_any _ _ _ _ _ (ht.below HB0.out) hxt).mono ?_; rintro e w1 ⟨rfl, hb1⟩; rw [HCN.out]; rw [h1]; have hB1 := below_seq HB0.out hb1; have HCB1 := Lib.hid (HCB0.out.below hb1 (by simp)); have HT1 := Lib.hid (ht.below hB1); have HTL1 := Lib.hid (HTL.out.under hB1 (Nat.le_refl _)); have hs1 := HCB1.out.lt) | (go_at_call 96; refine (behind_any HT1.out HTL1.out hz hxl).mono ?_; rintro e w2 ⟨rfl, hb2⟩; rw [HSB.out]; have hB2 := below_seq hB1 hb2; have HCB2 := Lib.hid (HCB1.out.below hb2 HCB1.out.lt); have hs2 := HCB2.out.lt; have c0 : w2.cell? ⟨w.heap.size, 0, none⟩ = some (.int .i64 0) := HCB2.out.cell 0; have c1 : w2.cell? ⟨w.heap.size, 1, none⟩ = some (.string ⟨#[]⟩) := HCB2.out.cell 1; have c2 : w2.cell? ⟨w.heap.size, 2, none⟩ = some (.string ⟨#[]⟩) := HCB2.out.cell 2; have c3 : w2.cell? ⟨w.heap.size, 3, none⟩ = some (.string ⟨#[]⟩) := HCB2.out.cell 3; have f0 := HCB2.out.frozen 0; have f1 := HCB2.out.frozen 1; have f2 := HCB2.out.frozen 2; have f3 := HCB2.out.frozen 3))
        refine bodyPost_ret (v := .tuple #[itV { kind := 3, text := CN.1, style := SB.1 }, .bool false]) (res_box (by rfl) _ _ w.heap.size _ _ _ _ (by rfl) (by rfl) (HCB2.out.put4 (.int .i64 3) (.string CN.1) (.string ⟨#[]⟩) (.string SB.1)) Tryd.underlying45 (by rfl) item_size) rfl ?_
        exact it_fin hB2 { kind := 3, text := CN.1, style := SB.1 } false
      · go_wp2_with (first | (go_at_call 87; refine (cname_any _ _ _ _ _ (ht.below HB0.out) hxt).mono ?_; rintro e w1 ⟨rfl, hb1⟩; rw [HCN.out]; rw [h1]; have hB1 := below_seq HB0.out hb1; have HCB1 := Lib.hid (HCB0.out.below hb1 (by simp)); have HT1 := Lib.hid (ht.below hB1); have HTL1 := Lib.hid (HTL.out.under hB1 (Nat.le_refl _)); have hs1 := HCB1.out.lt) | (go_at_call 96; refine (behind_any HT1.out HTL1.out hz hxl).mono ?_; rintro e w2 ⟨rfl, hb2⟩; rw [HSB.out]; have hB2 := below_seq hB1 hb2; have HCB2 := Lib.hid (HCB1.out.below hb2 HCB1.out.lt); have hs2 := HCB2.out.lt; have c0 : w2.cell? ⟨w.heap.size, 0, none⟩ = some (.int .i64 0) := HCB2.out.cell 0; have c1 : w2.cell? ⟨w.heap.size, 1, none⟩ = some (.string ⟨#[]⟩) := HCB2.out.cell 1; have c2 : w2.cell? ⟨w.heap.size, 2, none⟩ = some (.string ⟨#[]⟩) := HCB2.out.cell 2; have c3 : w2.cell? ⟨w.heap.size, 3, none⟩ = some (.string ⟨#[]⟩) := HCB2.out.cell 3; have f0 := HCB2.out.frozen 0; have f1 := HCB2.out.frozen 1; have f2 := HCB2.out.frozen 2; have f3 := HCB2.out.frozen 3))
        refine bodyPost_ret (v := .tuple #[itV { kind := 3, text := CN.1, style := SB.1 }, .bool SB.2]) (res_box (by rfl) _ _ w.heap.size _ _ _ _ (by rfl) (by rfl) (HCB2.out.put4 (.int .i64 3) (.string CN.1) (.string ⟨#[]⟩) (.string SB.1)) Tryd.underlying45 (by rfl) item_size) rfl ?_
        exact it_fin hB2 { kind := 3, text := CN.1, style := SB.1 } SB.2

end Go.Proofs.YtkpaokcgjeplpaaDoor
namespace Go.Proofs.YtkpaokcgjeplpaaDoor
open Go.RowKit
/-! prop: counters(..), made, item. -/
def everyS (l : List Nd) : ItD × Bool := match l with
  | n :: m :: q :: l => if ((m.tok.kind == 18) && (q.tok.kind == 5)) = true then ({ kind := 4, text := (cnameS n.tok).1, sep := q.tok.text, style := (sbS l).1 }, (cnameS n.tok).2 && (sbS l).2) else ({ kind := 0 }, false)
  | _ => ({ kind := 0 }, false)
theorem everyS_few {l : List Nd} (h : l.length < 3) : everyS l = ({ kind := 0 }, false) := by
  unfold everyS
  split
  · simp at h; omega
  · rfl
set_option maxRecDepth 100000 in
set_option maxHeartbeats 6400000 in
theorem every_any {l : List Nd} {v : Value} {w : World} {P : Nat → Prop} (ht : TabP w) (h : RdN w P v l) (hl : szL l ≤ 100000000) (hx : TX l) :
    Calls Tryd.prog 86 #[v] w (ItPost w (everyS l)) := by
  have HB0 := Lib.hid (ibx_bel w)
  have HCB0 := Lib.hid (CB.new (T := 45) w iz)
  have hll := szL_ge l
  by_cases h3 : l.length < 3
  · have HD := Lib.hid (everyS_few h3)
    obtain ⟨a, c, rfl, hlc⟩ := h.shape
    obtain ⟨N, hN⟩ : ∃ N, l.length = N := ⟨_, rfl⟩
    rw [hN] at h3 hlc hll ⊢
    have h3I : (N : Int) < 3 := by omega
    clear h hx hN
    rw [HD.out]
    go_enter Tryd.func86, Tryd.ntmps86
    go_wp2
    refine bodyPost_ret (v := .tuple #[itV { kind := 0 }, .bool false]) (res_box (by rfl) _ _ w.heap.size _ _ _ _ (by rfl) (by rfl) HCB0.out Tryd.underlying45 (by rfl) item_size) rfl ?_
    exact it_new w { kind := 0 } false
  cases h with
  | nil a c => exact absurd (show ([] : List Nd).length < 3 by simp) h3
  | cons b off n c t u k l hP hb hat hku hrl =>
    cases hrl with
    | nil a c => exact absurd (show ([Nd.mk t k]).length < 3 by simp) h3
    | cons b2 off2 n c t2 u2 kk2 l hP2 hb2 hat2 hku2 hrl =>
      cases hrl with
      | nil a c => exact absurd (show ([Nd.mk t k, Nd.mk t2 kk2]).length < 3 by simp) h3
      | cons b3 off3 n c t3 u3 kk3 l hP3 hb3 hat3 hku3 hrl =>
        have hnl : n = l.length := by obtain ⟨_, _, he, _⟩ := hrl.shape; injection he
        have hnb : n ≤ 100000000 := by simp at hll; omega
        rw [szL, szN, szL, szN, szL, szN] at hl
        have hz : szL l ≤ 100000000 := by omega
        have hxl : TX l := fun x hx1 => hx x (List.mem_cons_of_mem _ (List.mem_cons_of_mem _ (List.mem_cons_of_mem _ hx1)))
        have hxt : t.text.size ≤ 1000000000 := hx _ (List.mem_cons_self)
        obtain ⟨p0, p1, p2, p3, p4, p5, p6⟩ := hat
        have m0 : w.cell? ⟨b, off + 7, none⟩ = some (.int .i64 t2.kind) := hat2.c0
        have q0 : w.cell? ⟨b, off + 14, none⟩ = some (.int .i64 t3.kind) := hat3.c0
        have q1 : w.cell? ⟨b, off + 15, none⟩ = some (.string t3.text) := hat3.c1
        obtain ⟨ua, uc, rfl, _⟩ := hku.shape
        have hn0 : ¬ (n : Int) + 1 + 1 + 1 < 3 := by omega
        have hn1 : (1 : Int) < (n : Int) + 1 + 1 + 1 := by omega
        have hn2 : (2 : Int) < (n : Int) + 1 + 1 + 1 := by omega
        have hn3 : (3 : Int) ≤ (n : Int) + 1 + 1 + 1 := by omega
        have HRL : Hid (RdN w P (.slice (some ⟨b, off + 21, none⟩) n c) l) := hrl
        have HTC := Lib.hid (rdn_tail hrl)
        clear hku hku2 hku3 hat2 hat3 hx hl hnl hll h3 hrl
        by_cases k2 : (t2.kind == 18) = true
        · have k2b : (t2.kind != 18) = false := by rw [bne, k2]; rfl
          by_cases k3 : (t3.kind == 5) = true
          · have k3b : (t3.kind != 5) = false := by rw [bne, k3]; rfl
            have HD : Hid (everyS (.mk t k :: .mk t2 kk2 :: .mk t3 kk3 :: l) = ({ kind := 4, text := (cnameS t).1, sep := t3.text, style := (sbS l).1 }, (cnameS t).2 && (sbS l).2)) := if_pos (by simp only [Nd.tok]; rw [k2, k3]; rfl)
            rw [HD.out]
            clear HD
            generalize hcn : cnameS t = CN at *
            have HCN := Lib.hid hcn
            clear hcn
            rcases HTC.out with ⟨rfl, rfl, rfl⟩ | hc0
            · have HTL : Hid (RdN w P (.slice (some ⟨b, off, none⟩) 0 0) []) := .nil _ _
              generalize hsb : sbS [] = SB at *
              have HSB := Lib.hid hsb
              clear hsb HTC HRL
              go_enter Tryd.func86, Tryd.ntmps86
              cases h1 : CN.2
              · go_wp2_with (first | (go_at_call 87; refine (cname_any _ _ _ _ _ (ht.below HB0.out) hxt).mono ?_; rintro e w1 ⟨rfl, hb1⟩; rw [HCN.out]; rw [h1]; have hB1 := below_seq HB0.out hb1; have HCB1 := Lib.hid (HCB0.out.below hb1 (by simp)); have HT1 := Lib.hid (ht.below hB1); have HTL1 := Lib.hid (HTL.out.under hB1 (Nat.le_refl _)); have hs1 := HCB1.out.lt; have s1 : w1.cell? ⟨b, off + 15, none⟩ = some (.string t3.text) := (hB1.cell (p := ⟨b, off + 15, none⟩) hb).trans q1) | (go_at_call 96; refine (behind_any HT1.out HTL1.out hz hxl).mono ?_; rintro e w2 ⟨rfl, hb2⟩; rw [HSB.out]; have hB2 := below_seq hB1 hb2; have HCB2 := Lib.hid (HCB1.out.below hb2 HCB1.out.lt); have hs2 := HCB2.out.lt; have c0 : w2.cell? ⟨w.heap.size, 0, none⟩ = some (.int .i64 0) := HCB2.out.cell 0; have c1 : w2.cell? ⟨w.heap.size, 1, none⟩ = some (.string ⟨#[]⟩) := HCB2.out.cell 1; have c2 : w2.cell? ⟨w.heap.size, 2, none⟩ = some (.string ⟨#[]⟩) := HCB2.out.cell 2; have c3 : w2.cell? ⟨w.heap.size, 3, none⟩ = some (.string ⟨#[]⟩) := HCB2.out.cell 3; have f0 := HCB2.out.frozen 0; have f1 := HCB2.out.frozen 1; have f2 := HCB2.out.frozen 2; have f3 := HCB2.out.frozen 3; have s2 : w2.cell? ⟨b, off + 15, none⟩ = some (.string t3.text) := (hB2.cell (p := ⟨b, off + 15, none⟩) hb).trans q1))
                refine bodyPost_ret (v := .tuple #[itV { kind := 4, text := CN.1, sep := t3.text, style := SB.1 }, .bool false]) (res_box (by rfl) _ _ w.heap.size _ _ _ _ (by rfl) (by rfl) (HCB2.out.put4 (.int .i64 4) (.string CN.1) (.string t3.text) (.string SB.1)) Tryd.underlying45 (by rfl) item_size) rfl ?_
                exact it_fin hB2 { kind := 4, text := CN.1, sep := t3.text, style := SB.1 } false
              · go_wp2_with (first | (go_at_call 87; refine (cname_any _ _ _ _ _ (ht.below HB0.out) hxt).mono ?_; rintro e w1 ⟨rfl, hb1⟩; rw [HCN.out]; rw [h1]; have hB1 := below_seq HB0.out hb1; have HCB1 := Lib.hid (HCB0.out.below hb1 (by simp)); have HT1 := Lib.hid (ht.below hB1); have HTL1 := Lib.hid (HTL.out.under hB1 (Nat.le_refl _)); have hs1 := HCB1.out.lt; have s1 : w1.cell? ⟨b, off + 15, none⟩ = some (.string t3.text) := (hB1.cell (p := ⟨b, off + 15, none⟩) hb).trans q1) | (go_at_call 96; refine (behind_any HT1.out HTL1.out hz hxl).mono ?_; rintro e w2 ⟨rfl, hb2⟩; rw [HSB.out]; have hB2 := below_seq hB1 hb2; have HCB2 := Lib.hid (HCB1.out.below hb2 HCB1.out.lt); have hs2 := HCB2.out.lt; have c0 : w2.cell? ⟨w.heap.size, 0, none⟩ = some (.int .i64 0) := HCB2.out.cell 0; have c1 : w2.cell? ⟨w.heap.size, 1, none⟩ = some (.string ⟨#[]⟩) := HCB2.out.cell 1; have c2 : w2.cell? ⟨w.heap.size, 2, none⟩ = some (.string ⟨#[]⟩) := HCB2.out.cell 2; have c3 : w2.cell? ⟨w.heap.size, 3, none⟩ = some (.string ⟨#[]⟩) := HCB2.out.cell 3; have f0 := HCB2.out.frozen 0; have f1 := HCB2.out.frozen 1; have f2 := HCB2.out.frozen 2; have f3 := HCB2.out.frozen 3; have s2 : w2.cell? ⟨b, off + 15, none⟩ = some (.string t3.text) := (hB2.cell (p := ⟨b, off + 15, none⟩) hb).trans q1))
                refine bodyPost_ret (v := .tuple #[itV { kind := 4, text := CN.1, sep := t3.text, style := SB.1 }, .bool SB.2]) (res_box (by rfl) _ _ w.heap.size _ _ _ _ (by rfl) (by rfl) (HCB2.out.put4 (.int .i64 4) (.string CN.1) (.string t3.text) (.string SB.1)) Tryd.underlying45 (by rfl) item_size) rfl ?_
                exact it_fin hB2 { kind := 4, text := CN.1, sep := t3.text, style := SB.1 } SB.2
            · have HTL := HRL
              generalize hsb : sbS l = SB at *
              have HSB := Lib.hid hsb
              clear hsb HTC HRL
              go_enter Tryd.func86, Tryd.ntmps86
              cases h1 : CN.2
              · go_wp2_with (first | (go_at_call 87; refine (cname_any _ _ _ _ _ (ht.below HB0.out) hxt).mono ?_; rintro e w1 ⟨rfl, hb1⟩; rw [HCN.out]; rw [h1]; have hB1 := below_seq HB0.out hb1; have HCB1 := Lib.hid (HCB0.out.below hb1 (by simp)); have HT1 := Lib.hid (ht.below hB1); have HTL1 := Lib.hid (HTL.out.under hB1 (Nat.le_refl _)); have hs1 := HCB1.out.lt; have s1 : w1.cell? ⟨b, off + 15, none⟩ = some (.string t3.text) := (hB1.cell (p := ⟨b, off + 15, none⟩) hb).trans q1) | (go_at_call 96; refine (behind_any HT1.out HTL1.out hz hxl).mono ?_; rintro e w2 ⟨rfl, hb2⟩; rw [HSB.out]; have hB2 := below_seq hB1 hb2; have HCB2 := Lib.hid (HCB1.out.below hb2 HCB1.out.lt); have hs2 := HCB2.out.lt; have c0 : w2.cell? ⟨w.heap.size, 0, none⟩ = some (.int .i64 0) := HCB2.out.cell 0; have c1 : w2.cell? ⟨w.heap.size, 1, none⟩ = some (.string ⟨#[]⟩) := HCB2.out.cell 1; have c2 : w2.cell? ⟨w.heap.size, 2, none⟩ = some (.string ⟨#[]⟩) := HCB2.out.cell 2; have c3 : w2.cell? ⟨w.heap.size, 3, none⟩ = some (.string ⟨#[]⟩) := HCB2.out.cell 3; have f0 := HCB2.out.frozen 0; have f1 := HCB2.out.frozen 1; have f2 := HCB2.out.frozen 2; have f3 := HCB2.out.frozen 3; have s2 : w2.cell? ⟨b, off + 15, none⟩ = some (.string t3.text) := (hB2.cell (p := ⟨b, off + 15, none⟩) hb).trans q1))
                refine bodyPost_ret (v := .tuple #[itV { kind := 4, text := CN.1, sep := t3.text, style := SB.1 }, .bool false]) (res_box (by rfl) _ _ w.heap.size _ _ _ _ (by rfl) (by rfl) (HCB2.out.put4 (.int .i64 4) (.string CN.1) (.string t3.text) (.string SB.1)) Tryd.underlying45 (by rfl) item_size) rfl ?_
                exact it_fin hB2 { kind := 4, text := CN.1, sep := t3.text, style := SB.1 } false
              · go_wp2_with (first | (go_at_call 87; refine (cname_any _ _ _ _ _ (ht.below HB0.out) hxt).mono ?_; rintro e w1 ⟨rfl, hb1⟩; rw [HCN.out]; rw [h1]; have hB1 := below_seq HB0.out hb1; have HCB1 := Lib.hid (HCB0.out.below hb1 (by simp)); have HT1 := Lib.hid (ht.below hB1); have HTL1 := Lib.hid (HTL.out.under hB1 (Nat.le_refl _)); have hs1 := HCB1.out.lt; have s1 : w1.cell? ⟨b, off + 15, none⟩ = some (.string t3.text) := (hB1.cell (p := ⟨b, off + 15, none⟩) hb).trans q1) | (go_at_call 96; refine (behind_any HT1.out HTL1.out hz hxl).mono ?_; rintro e w2 ⟨rfl, hb2⟩; rw [HSB.out]; have hB2 := below_seq hB1 hb2; have HCB2 := Lib.hid (HCB1.out.below hb2 HCB1.out.lt); have hs2 := HCB2.out.lt; have c0 : w2.cell? ⟨w.heap.size, 0, none⟩ = some (.int .i64 0) := HCB2.out.cell 0; have c1 : w2.cell? ⟨w.heap.size, 1, none⟩ = some (.string ⟨#[]⟩) := HCB2.out.cell 1; have c2 : w2.cell? ⟨w.heap.size, 2, none⟩ = some (.string ⟨#[]⟩) := HCB2.out.cell 2; have c3 : w2.cell? ⟨w.heap.size, 3, none⟩ = some (.string ⟨#[]⟩) := HCB2.out.cell 3; have f0 := HCB2.out.frozen 0; have f1 := HCB2.out.frozen 1; have f2 := HCB2.out.frozen 2; have f3 := HCB2.out.frozen 3; have s2 : w2.cell? ⟨b, off + 15, none⟩ = some (.string t3.text) := (hB2.cell (p := ⟨b, off + 15, none⟩) hb).trans q1))
                refine bodyPost_ret (v := .tuple #[itV { kind := 4, text := CN.1, sep := t3.text, style := SB.1 }, .bool SB.2]) (res_box (by rfl) _ _ w.heap.size _ _ _ _ (by rfl) (by rfl) (HCB2.out.put4 (.int .i64 4) (.string CN.1) (.string t3.text) (.string SB.1)) Tryd.underlying45 (by rfl) item_size) rfl ?_
                exact it_fin hB2 { kind := 4, text := CN.1, sep := t3.text, style := SB.1 } SB.2
          · have k3 : (t3.kind == 5) = false := by simpa using k3
            have k3b : (t3.kind != 5) = true := by rw [bne, k3]; rfl
            have HD : Hid (everyS (.mk t k :: .mk t2 kk2 :: .mk t3 kk3 :: l) = ({ kind := 0 }, false)) := if_neg (by simp only [Nd.tok]; rw [k2, k3]; decide)
            rw [HD.out]
            go_enter Tryd.func86, Tryd.ntmps86
            go_wp2
            refine bodyPost_ret (v := .tuple #[itV { kind := 0 }, .bool false]) (res_box (by rfl) _ _ w.heap.size _ _ _ _ (by rfl) (by rfl) HCB0.out Tryd.underlying45 (by rfl) item_size) rfl ?_
            exact it_new w { kind := 0 } false
        · have k2 : (t2.kind == 18) = false := by simpa using k2
          have k2b : (t2.kind != 18) = true := by rw [bne, k2]; rfl
          have HD : Hid (everyS (.mk t k :: .mk t2 kk2 :: .mk t3 kk3 :: l) = ({ kind := 0 }, false)) := if_neg (by simp only [Nd.tok]; rw [k2]; simp)
          rw [HD.out]
          go_enter Tryd.func86, Tryd.ntmps86
          go_wp2
          refine bodyPost_ret (v := .tuple #[itV { kind := 0 }, .bool false]) (res_box (by rfl) _ _ w.heap.size _ _ _ _ (by rfl) (by rfl) HCB0.out Tryd.underlying45 (by rfl) item_size) rfl ?_
          exact it_new w { kind := 0 } false
end Go.Proofs.YtkpaokcgjeplpaaDoor
namespace Go.Proofs.YtkpaokcgjeplpaaDoor
open Go.RowKit
/-! prop: made, item. -/
def madeS (s : ByteArray) (l : List Nd) : ItD × Bool :=
  if (s.toList == [97, 116, 116, 114]) = true then attrS l
  else if (s.toList == [99, 111, 117, 110, 116, 101, 114]) = true then innerS l
  else if (s.toList == [99, 111, 117, 110, 116, 101, 114, 115]) = true then everyS l
  else ({ kind := 0 }, false)
def itemS (n : Nd) : ItD × Bool :=
  if (n.tok.kind == 5) = true then ({ kind := 1, text := n.tok.text }, true)
  else if (n.tok.kind == 1) = true then ({ kind := markS (lowS n.tok.text) }, markS (lowS n.tok.text) != 0)
  else if (n.tok.kind == 2) = true then madeS (lowS n.tok.text) (plnS n.kids)
  else ({ kind := 0 }, false)
theorem szL_plain (l : List Nd) : szL (plnS l) ≤ szL l := by
  unfold plnS
  induction l with
  | nil => exact Nat.le_refl _
  | cons n l ih =>
    rw [List.filter_cons]
    split
    · rw [szL, szL]; omega
    · rw [szL]; omega
theorem TX.pln {l : List Nd} (h : TX l) : TX (plnS l) := fun n hn => h n ((List.mem_filter.1 hn).1)
set_option maxRecDepth 100000 in
set_option maxHeartbeats 3200000 in
theorem made_any (s : ByteArray) {l : List Nd} {v : Value} {w : World} {P : Nat → Prop} (ht : TabP w) (h : RdN w P v l) (hl : szL l ≤ 100000000) (hx : TX l) :
    Calls Tryd.prog 65 #[.string s, v] w (ItPost w (madeS s l)) := by
  have HB0 := Lib.hid (ibx_bel w)
  have HCB0 := Lib.hid (CB.new (T := 45) w iz)
  have HH := Lib.hid (h.under HB0.out (Nat.le_refl _))
  have HT0 := Lib.hid (ht.below HB0.out)
  obtain ⟨a, c, rfl, _⟩ := h.shape
  cases h1 : (s.toList == [97, 116, 116, 114])
  rotate_left
  · have HD : Hid (madeS s l = attrS l) := if_pos h1
    have HC := Lib.hid (attr_any HH.out hl hx)
    rw [HD.out]
    unfold ItPost at HC
    obtain ⟨D, OK, hd⟩ : ∃ D OK, attrS l = (D, OK) := ⟨_, _, rfl⟩
    rw [hd] at HC ⊢
    clear hd HD
    go_enter Tryd.func65, Tryd.ntmps65
    go_wp2_with (go_at_call 84; refine HC.out.mono ?_; rintro e w1 ⟨rfl, hb1⟩; have hB1 := below_seq HB0.out hb1; have HCB1 := Lib.hid (HCB0.out.below hb1 (by simp)); have hs1 := HCB1.out.lt; have c0 : w1.cell? ⟨w.heap.size, 0, none⟩ = some (.int .i64 0) := HCB1.out.cell 0; have c1 : w1.cell? ⟨w.heap.size, 1, none⟩ = some (.string ⟨#[]⟩) := HCB1.out.cell 1; have c2 : w1.cell? ⟨w.heap.size, 2, none⟩ = some (.string ⟨#[]⟩) := HCB1.out.cell 2; have c3 : w1.cell? ⟨w.heap.size, 3, none⟩ = some (.string ⟨#[]⟩) := HCB1.out.cell 3; have f0 := HCB1.out.frozen 0; have f1 := HCB1.out.frozen 1; have f2 := HCB1.out.frozen 2; have f3 := HCB1.out.frozen 3)
    refine bodyPost_ret (v := .tuple #[itV D, .bool OK]) (res_box (by rfl) _ _ w.heap.size _ _ _ _ (by rfl) (by rfl) (HCB1.out.put4 (.int .i64 D.kind) (.string D.text) (.string D.sep) (.string D.style)) Tryd.underlying45 (by rfl) item_size) rfl ?_
    exact it_fin hB1 D OK
  cases h2 : (s.toList == [99, 111, 117, 110, 116, 101, 114])
  rotate_left
  · have HD : Hid (madeS s l = innerS l) := (if_neg (by rw [h1]; decide)).trans (if_pos h2)
    have HC := Lib.hid (inner_any HT0.out HH.out hl hx)
    rw [HD.out]
    unfold ItPost at HC
    obtain ⟨D, OK, hd⟩ : ∃ D OK, innerS l = (D, OK) := ⟨_, _, rfl⟩
    rw [hd] at HC ⊢
    clear hd HD
    go_enter Tryd.func65, Tryd.ntmps65
    go_wp2_with (go_at_call 85; refine HC.out.mono ?_; rintro e w1 ⟨rfl, hb1⟩; have hB1 := below_seq HB0.out hb1; have HCB1 := Lib.hid (HCB0.out.below hb1 (by simp)); have hs1 := HCB1.out.lt; have c0 : w1.cell? ⟨w.heap.size, 0, none⟩ = some (.int .i64 0) := HCB1.out.cell 0; have c1 : w1.cell? ⟨w.heap.size, 1, none⟩ = some (.string ⟨#[]⟩) := HCB1.out.cell 1; have c2 : w1.cell? ⟨w.heap.size, 2, none⟩ = some (.string ⟨#[]⟩) := HCB1.out.cell 2; have c3 : w1.cell? ⟨w.heap.size, 3, none⟩ = some (.string ⟨#[]⟩) := HCB1.out.cell 3; have f0 := HCB1.out.frozen 0; have f1 := HCB1.out.frozen 1; have f2 := HCB1.out.frozen 2; have f3 := HCB1.out.frozen 3)
    refine bodyPost_ret (v := .tuple #[itV D, .bool OK]) (res_box (by rfl) _ _ w.heap.size _ _ _ _ (by rfl) (by rfl) (HCB1.out.put4 (.int .i64 D.kind) (.string D.text) (.string D.sep) (.string D.style)) Tryd.underlying45 (by rfl) item_size) rfl ?_
    exact it_fin hB1 D OK
  cases h3 : (s.toList == [99, 111, 117, 110, 116, 101, 114, 115])
  rotate_left
  · have HD : Hid (madeS s l = everyS l) := ((if_neg (by rw [h1]; decide)).trans (if_neg (by rw [h2]; decide))).trans (if_pos h3)
    have HC := Lib.hid (every_any HT0.out HH.out hl hx)
    rw [HD.out]
    unfold ItPost at HC
    obtain ⟨D, OK, hd⟩ : ∃ D OK, everyS l = (D, OK) := ⟨_, _, rfl⟩
    rw [hd] at HC ⊢
    clear hd HD
    go_enter Tryd.func65, Tryd.ntmps65
    go_wp2_with (go_at_call 86; refine HC.out.mono ?_; rintro e w1 ⟨rfl, hb1⟩; have hB1 := below_seq HB0.out hb1; have HCB1 := Lib.hid (HCB0.out.below hb1 (by simp)); have hs1 := HCB1.out.lt; have c0 : w1.cell? ⟨w.heap.size, 0, none⟩ = some (.int .i64 0) := HCB1.out.cell 0; have c1 : w1.cell? ⟨w.heap.size, 1, none⟩ = some (.string ⟨#[]⟩) := HCB1.out.cell 1; have c2 : w1.cell? ⟨w.heap.size, 2, none⟩ = some (.string ⟨#[]⟩) := HCB1.out.cell 2; have c3 : w1.cell? ⟨w.heap.size, 3, none⟩ = some (.string ⟨#[]⟩) := HCB1.out.cell 3; have f0 := HCB1.out.frozen 0; have f1 := HCB1.out.frozen 1; have f2 := HCB1.out.frozen 2; have f3 := HCB1.out.frozen 3)
    refine bodyPost_ret (v := .tuple #[itV D, .bool OK]) (res_box (by rfl) _ _ w.heap.size _ _ _ _ (by rfl) (by rfl) (HCB1.out.put4 (.int .i64 D.kind) (.string D.text) (.string D.sep) (.string D.style)) Tryd.underlying45 (by rfl) item_size) rfl ?_
    exact it_fin hB1 D OK
  have HD : Hid (madeS s l = ({ kind := 0 }, false)) := ((if_neg (by rw [h1]; decide)).trans (if_neg (by rw [h2]; decide))).trans (if_neg (by rw [h3]; decide))
  rw [HD.out]
  go_enter Tryd.func65, Tryd.ntmps65
  go_wp2
  refine bodyPost_ret (v := .tuple #[itV { kind := 0 }, .bool false]) (res_box (by rfl) _ _ w.heap.size _ _ _ _ (by rfl) (by rfl) HCB0.out Tryd.underlying45 (by rfl) item_size) rfl ?_
  exact it_new w { kind := 0 } false
set_option maxRecDepth 100000 in
set_option maxHeartbeats 6400000 in
theorem item_2 (t : Tok) {k : List Nd} {a : Option Addr} {n c : Nat} {w : World} {P : Nat → Prop} (hku : RdN w P (.slice a n c) k) (ht : TabP w) (hx : t.text.size ≤ 1000000000) (hl : szL k ≤ 100000000) (hxk : TX k) (k5 : (t.kind == 5) = false) (k1 : (t.kind == 1) = false) (k2 : (t.kind == 2) = true) :
    Calls Tryd.prog 52 #[nval t (.slice a n c)] w (ItPost w (itemS (.mk t k))) := by
  have HD : Hid (itemS (.mk t k) = madeS (lowS t.text) (plnS k)) := ((if_neg (by simp only [Nd.tok]; rw [k5]; decide)).trans (if_neg (by simp only [Nd.tok]; rw [k1]; decide))).trans (if_pos k2)
  rw [HD.out]
  have hbA : Below w.heap.size w ((w.alloc (.cells (nodeC t (.slice a n c)) 86)).alloc (.cells iz 45)) := ((Below.refl w.heap.size w).alloc (Nat.le_refl _) _).alloc (by simp) _
  have HBA := Lib.hid hbA
  have HTA := Lib.hid (ht.below hbA)
  have HRA : Hid (CB 45 ((w.alloc (.cells (nodeC t (.slice a n c)) 86)).alloc (.cells iz 45)) (w.heap.size + 1) iz) := by
    have hh := CB.new (T := 45) (w.alloc (.cells (nodeC t (.slice a n c)) 86)) iz
    rw [show (w.alloc (.cells (nodeC t (.slice a n c)) 86)).heap.size = w.heap.size + 1 by simp] at hh
    exact hh
  have HNA : Hid (CB 86 ((w.alloc (.cells (nodeC t (.slice a n c)) 86)).alloc (.cells iz 45)) w.heap.size (nodeC t (.slice a n c))) := (CB.new (T := 86) w (nodeC t (.slice a n c))).alloc _
  clear hbA
  have hzp : szL (plnS k) ≤ 100000000 := Nat.le_trans (szL_plain k) hl
  have hxp := TX.pln hxk
  have hne : w.heap.size ≠ w.heap.size + 1 := by omega
  generalize hlw : lowS t.text = LW at *
  have HLW := Lib.hid hlw
  obtain ⟨D, OK, hmd⟩ : ∃ D OK, madeS LW (plnS k) = (D, OK) := ⟨_, _, rfl⟩
  have HMD := Lib.hid hmd
  rw [hmd]
  clear hlw hmd HD
  have y0 := HNA.out.cell 0; have y1 := HNA.out.cell 1; have y2 := HNA.out.cell 2; have y3 := HNA.out.cell 3; have y4 := HNA.out.cell 4; have y5 := HNA.out.cell 5; have y6 := HNA.out.cell 6
  go_enter Tryd.func52, Tryd.ntmps52
  go_upto_region 7 with fail
  go_region_held3 (fun w' => w'.cell? ⟨w.heap.size, 0, none⟩ = some (.int .i64 t.kind) ∧ w'.cell? ⟨w.heap.size, 1, none⟩ = some (.string t.text) ∧ w'.cell? ⟨w.heap.size, 2, none⟩ = some (.int .i64 t.int) ∧ w'.cell? ⟨w.heap.size, 3, none⟩ = some (.bool t.whole) ∧ w'.cell? ⟨w.heap.size, 4, none⟩ = some (.bool t.sign) ∧ w'.cell? ⟨w.heap.size, 5, none⟩ = some (.bool t.id) ∧ w'.cell? ⟨w.heap.size, 6, none⟩ = some (.slice a n c)) (first | go_keep | exact ⟨k0, k1, k2, k3, k4, k5, k6⟩ | exact ⟨y0, y1, y2, y3, y4, y5, y6⟩ | exact ⟨pfar4 k0 hne, pfar4 k1 hne, pfar4 k2 hne, pfar4 k3 hne, pfar4 k4 hne, pfar4 k5 hne, pfar4 k6 hne⟩) (first | (go_at_call 63; refine (small_any _ _ _ _ _ hx).mono ?_; rintro e w2 ⟨rfl, hb2⟩; rw [HLW.out]; have hb2' : Below ((w.alloc (.cells (nodeC t (.slice a n c)) 86)).alloc (.cells iz 45)).heap.size ((w.alloc (.cells (nodeC t (.slice a n c)) 86)).alloc (.cells iz 45)) w2 := (by first | exact hb2 | exact below_seq ((Below.refl _ _).drew) hb2); have HB2 := Lib.hid (below_seq HBA.out hb2'); have HR2 := Lib.hid (HRA.out.below hb2' (by simp)); have HN2 := Lib.hid (HNA.out.below hb2' (by simp <;> omega)); have k0 : w2.cell? ⟨w.heap.size, 0, none⟩ = some (.int .i64 t.kind) := HN2.out.cell 0; have k1 : w2.cell? ⟨w.heap.size, 1, none⟩ = some (.string t.text) := HN2.out.cell 1; have k2 : w2.cell? ⟨w.heap.size, 2, none⟩ = some (.int .i64 t.int) := HN2.out.cell 2; have k3 : w2.cell? ⟨w.heap.size, 3, none⟩ = some (.bool t.whole) := HN2.out.cell 3; have k4 : w2.cell? ⟨w.heap.size, 4, none⟩ = some (.bool t.sign) := HN2.out.cell 4; have k5 : w2.cell? ⟨w.heap.size, 5, none⟩ = some (.bool t.id) := HN2.out.cell 5; have k6 : w2.cell? ⟨w.heap.size, 6, none⟩ = some (.slice a n c) := HN2.out.cell 6; have c0 : w2.cell? ⟨w.heap.size + 1, 0, none⟩ = some (.int .i64 0) := HR2.out.cell 0; have c1 : w2.cell? ⟨w.heap.size + 1, 1, none⟩ = some (.string ⟨#[]⟩) := HR2.out.cell 1; have c2 : w2.cell? ⟨w.heap.size + 1, 2, none⟩ = some (.string ⟨#[]⟩) := HR2.out.cell 2; have c3 : w2.cell? ⟨w.heap.size + 1, 3, none⟩ = some (.string ⟨#[]⟩) := HR2.out.cell 3; have f0 := HR2.out.frozen 0; have f1 := HR2.out.frozen 1; have f2 := HR2.out.frozen 2; have f3 := HR2.out.frozen 3) | (go_at_call 48; refine (pww_any (hku.under HB2.out (Nat.le_refl _)) hl).mono ?_; rintro e w3 ⟨⟨v3, rfl, hv3⟩, hb3⟩; obtain ⟨va, vc, rfl, _⟩ := hv3.shape; have HV3 := Lib.hid hv3; have HB3 := Lib.hid (below_seq HB2.out hb3); have HR3 := Lib.hid (HR2.out.below hb3 HR2.out.lt); have HN3 := Lib.hid (HN2.out.below hb3 HN2.out.lt); have k0 : w3.cell? ⟨w.heap.size, 0, none⟩ = some (.int .i64 t.kind) := HN3.out.cell 0; have k1 : w3.cell? ⟨w.heap.size, 1, none⟩ = some (.string t.text) := HN3.out.cell 1; have k2 : w3.cell? ⟨w.heap.size, 2, none⟩ = some (.int .i64 t.int) := HN3.out.cell 2; have k3 : w3.cell? ⟨w.heap.size, 3, none⟩ = some (.bool t.whole) := HN3.out.cell 3; have k4 : w3.cell? ⟨w.heap.size, 4, none⟩ = some (.bool t.sign) := HN3.out.cell 4; have k5 : w3.cell? ⟨w.heap.size, 5, none⟩ = some (.bool t.id) := HN3.out.cell 5; have k6 : w3.cell? ⟨w.heap.size, 6, none⟩ = some (.slice a n c) := HN3.out.cell 6; have c0 : w3.cell? ⟨w.heap.size + 1, 0, none⟩ = some (.int .i64 0) := HR3.out.cell 0; have c1 : w3.cell? ⟨w.heap.size + 1, 1, none⟩ = some (.string ⟨#[]⟩) := HR3.out.cell 1; have c2 : w3.cell? ⟨w.heap.size + 1, 2, none⟩ = some (.string ⟨#[]⟩) := HR3.out.cell 2; have c3 : w3.cell? ⟨w.heap.size + 1, 3, none⟩ = some (.string ⟨#[]⟩) := HR3.out.cell 3; have f0 := HR3.out.frozen 0; have f1 := HR3.out.frozen 1; have f2 := HR3.out.frozen 2; have f3 := HR3.out.frozen 3) | (go_at_call 65; refine (made_any _ (ht.below HB3.out) HV3.out hzp hxp).mono ?_; rintro e w4 ⟨rfl, hb4⟩; rw [HMD.out]; have HB4 := Lib.hid (below_seq HB3.out hb4); have HR4 := Lib.hid (HR3.out.below hb4 HR3.out.lt); have HN4 := Lib.hid (HN3.out.below hb4 HN3.out.lt); have k0 : w4.cell? ⟨w.heap.size, 0, none⟩ = some (.int .i64 t.kind) := HN4.out.cell 0; have k1 : w4.cell? ⟨w.heap.size, 1, none⟩ = some (.string t.text) := HN4.out.cell 1; have k2 : w4.cell? ⟨w.heap.size, 2, none⟩ = some (.int .i64 t.int) := HN4.out.cell 2; have k3 : w4.cell? ⟨w.heap.size, 3, none⟩ = some (.bool t.whole) := HN4.out.cell 3; have k4 : w4.cell? ⟨w.heap.size, 4, none⟩ = some (.bool t.sign) := HN4.out.cell 4; have k5 : w4.cell? ⟨w.heap.size, 5, none⟩ = some (.bool t.id) := HN4.out.cell 5; have k6 : w4.cell? ⟨w.heap.size, 6, none⟩ = some (.slice a n c) := HN4.out.cell 6; have c0 : w4.cell? ⟨w.heap.size + 1, 0, none⟩ = some (.int .i64 0) := HR4.out.cell 0; have c1 : w4.cell? ⟨w.heap.size + 1, 1, none⟩ = some (.string ⟨#[]⟩) := HR4.out.cell 1; have c2 : w4.cell? ⟨w.heap.size + 1, 2, none⟩ = some (.string ⟨#[]⟩) := HR4.out.cell 2; have c3 : w4.cell? ⟨w.heap.size + 1, 3, none⟩ = some (.string ⟨#[]⟩) := HR4.out.cell 3; have f0 := HR4.out.frozen 0; have f1 := HR4.out.frozen 1; have f2 := HR4.out.frozen 2; have f3 := HR4.out.frozen 3))
  all_goals go_wp2
  all_goals refine bodyPost_ret (v := .tuple #[itV D, .bool OK]) (res_box (by rfl) _ _ (w.heap.size + 1) _ _ _ _ (by rfl) (by rfl) (HR4.out.put4 (.int .i64 D.kind) (.string D.text) (.string D.sep) (.string D.style)) Tryd.underlying45 (by rfl) item_size) rfl ?_
  all_goals exact ⟨rfl, put4_below HB4.out (by omega) _ _ _ _⟩
set_option maxRecDepth 100000 in
set_option maxHeartbeats 6400000 in
theorem item_5 (t : Tok) {k : List Nd} {a : Option Addr} {n c : Nat} {w : World} {P : Nat → Prop} (_hku : RdN w P (.slice a n c) k) (ht : TabP w) (_hx : t.text.size ≤ 1000000000) (_hl : szL k ≤ 100000000) (_hxk : TX k) (k5 : (t.kind == 5) = true) :
    Calls Tryd.prog 52 #[nval t (.slice a n c)] w (ItPost w (itemS (.mk t k))) := by
  have HD : Hid (itemS (.mk t k) = ({ kind := 1, text := t.text }, true)) := if_pos k5
  rw [HD.out]
  have hbA : Below w.heap.size w ((w.alloc (.cells (nodeC t (.slice a n c)) 86)).alloc (.cells iz 45)) := ((Below.refl w.heap.size w).alloc (Nat.le_refl _) _).alloc (by simp) _
  have HBA := Lib.hid hbA
  have HTA := Lib.hid (ht.below hbA)
  have HRA : Hid (CB 45 ((w.alloc (.cells (nodeC t (.slice a n c)) 86)).alloc (.cells iz 45)) (w.heap.size + 1) iz) := by
    have hh := CB.new (T := 45) (w.alloc (.cells (nodeC t (.slice a n c)) 86)) iz
    rw [show (w.alloc (.cells (nodeC t (.slice a n c)) 86)).heap.size = w.heap.size + 1 by simp] at hh
    exact hh
  have HNA : Hid (CB 86 ((w.alloc (.cells (nodeC t (.slice a n c)) 86)).alloc (.cells iz 45)) w.heap.size (nodeC t (.slice a n c))) := (CB.new (T := 86) w (nodeC t (.slice a n c))).alloc _
  clear hbA
  have y0 : (((w.alloc (.cells (nodeC t (.slice a n c)) 86)).alloc (.cells iz 45))).cell? ⟨w.heap.size + 1, 0, none⟩ = some (.int .i64 0) := HRA.out.cell 0
  clear HD y0
  go_enter Tryd.func52, Tryd.ntmps52
  go_wp2
  have HRN : Hid (CB 45 ((w.alloc (.cells (nodeC t (.slice a n c)) 86)).alloc (.cells #[.int .i64 1, .string t.text, .string ⟨#[]⟩, .string ⟨#[]⟩] 45)) (w.heap.size + 1) #[.int .i64 1, .string t.text, .string ⟨#[]⟩, .string ⟨#[]⟩]) := by
    have hh := CB.new (T := 45) (w.alloc (.cells (nodeC t (.slice a n c)) 86)) #[.int .i64 1, .string t.text, .string ⟨#[]⟩, .string ⟨#[]⟩]
    rw [show (w.alloc (.cells (nodeC t (.slice a n c)) 86)).heap.size = w.heap.size + 1 by simp] at hh
    exact hh
  refine bodyPost_ret (v := .tuple #[itV { kind := 1, text := t.text }, .bool true]) (res_box (by rfl) _ _ (w.heap.size + 1) _ _ _ _ (by rfl) (by rfl) HRN.out Tryd.underlying45 (by rfl) item_size) rfl ?_
  exact ⟨rfl, ((Below.refl w.heap.size w).alloc (Nat.le_refl _) _).alloc (by simp) _⟩
set_option maxRecDepth 100000 in
set_option maxHeartbeats 6400000 in
theorem item_1 (t : Tok) {k : List Nd} {a : Option Addr} {n c : Nat} {w : World} {P : Nat → Prop} (_hku : RdN w P (.slice a n c) k) (ht : TabP w) (hx : t.text.size ≤ 1000000000) (_hl : szL k ≤ 100000000) (_hxk : TX k) (k5 : (t.kind == 5) = false) (k1 : (t.kind == 1) = true) :
    Calls Tryd.prog 52 #[nval t (.slice a n c)] w (ItPost w (itemS (.mk t k))) := by
  have HD : Hid (itemS (.mk t k) = ({ kind := markS (lowS t.text) }, markS (lowS t.text) != 0)) := (if_neg (by simp only [Nd.tok]; rw [k5]; decide)).trans (if_pos k1)
  rw [HD.out]
  have hbA : Below w.heap.size w ((w.alloc (.cells (nodeC t (.slice a n c)) 86)).alloc (.cells iz 45)) := ((Below.refl w.heap.size w).alloc (Nat.le_refl _) _).alloc (by simp) _
  have HBA := Lib.hid hbA
  have HTA := Lib.hid (ht.below hbA)
  have HRA : Hid (CB 45 ((w.alloc (.cells (nodeC t (.slice a n c)) 86)).alloc (.cells iz 45)) (w.heap.size + 1) iz) := by
    have hh := CB.new (T := 45) (w.alloc (.cells (nodeC t (.slice a n c)) 86)) iz
    rw [show (w.alloc (.cells (nodeC t (.slice a n c)) 86)).heap.size = w.heap.size + 1 by simp] at hh
    exact hh
  have HNA : Hid (CB 86 ((w.alloc (.cells (nodeC t (.slice a n c)) 86)).alloc (.cells iz 45)) w.heap.size (nodeC t (.slice a n c))) := (CB.new (T := 86) w (nodeC t (.slice a n c))).alloc _
  clear hbA
  generalize hlw : lowS t.text = LW at *
  have HLW := Lib.hid hlw
  obtain ⟨MK, OK, hm1, hm2⟩ : ∃ MK OK, markS LW = MK ∧ (markS LW != 0) = OK := ⟨_, _, rfl, rfl⟩
  have HQ : Hid (Value.tuple #[.agg #[.int .i64 (markS LW), .string ⟨#[]⟩, .string ⟨#[]⟩, .string ⟨#[]⟩], .bool (markS LW != 0)] = .tuple #[.agg #[.int .i64 MK, .string ⟨#[]⟩, .string ⟨#[]⟩, .string ⟨#[]⟩], .bool OK]) := by
    show _ = _
    rw [hm1, ← hm2, hm1]
  rw [hm2, hm1]
  clear hlw HD hm1 hm2
  go_enter Tryd.func52, Tryd.ntmps52
  go_wp2_with (first | (go_at_call 63; refine (small_any _ _ _ _ _ hx).mono ?_; rintro e w2 ⟨rfl, hb2⟩; rw [HLW.out]; have hb2' : Below ((w.alloc (.cells (nodeC t (.slice a n c)) 86)).alloc (.cells iz 45)).heap.size ((w.alloc (.cells (nodeC t (.slice a n c)) 86)).alloc (.cells iz 45)) w2 := (by first | exact hb2 | exact below_seq ((Below.refl _ _).drew) hb2); have HB2 := Lib.hid (below_seq HBA.out hb2'); have HR2 := Lib.hid (HRA.out.below hb2' (by simp)); have HN2 := Lib.hid (HNA.out.below hb2' (by simp <;> omega)); have k0 : w2.cell? ⟨w.heap.size, 0, none⟩ = some (.int .i64 t.kind) := HN2.out.cell 0; have k1 : w2.cell? ⟨w.heap.size, 1, none⟩ = some (.string t.text) := HN2.out.cell 1; have k2 : w2.cell? ⟨w.heap.size, 2, none⟩ = some (.int .i64 t.int) := HN2.out.cell 2; have k3 : w2.cell? ⟨w.heap.size, 3, none⟩ = some (.bool t.whole) := HN2.out.cell 3; have k4 : w2.cell? ⟨w.heap.size, 4, none⟩ = some (.bool t.sign) := HN2.out.cell 4; have k5 : w2.cell? ⟨w.heap.size, 5, none⟩ = some (.bool t.id) := HN2.out.cell 5; have k6 : w2.cell? ⟨w.heap.size, 6, none⟩ = some (.slice a n c) := HN2.out.cell 6; have c0 : w2.cell? ⟨w.heap.size + 1, 0, none⟩ = some (.int .i64 0) := HR2.out.cell 0; have c1 : w2.cell? ⟨w.heap.size + 1, 1, none⟩ = some (.string ⟨#[]⟩) := HR2.out.cell 1; have c2 : w2.cell? ⟨w.heap.size + 1, 2, none⟩ = some (.string ⟨#[]⟩) := HR2.out.cell 2; have c3 : w2.cell? ⟨w.heap.size + 1, 3, none⟩ = some (.string ⟨#[]⟩) := HR2.out.cell 3; have f0 := HR2.out.frozen 0; have f1 := HR2.out.frozen 1; have f2 := HR2.out.frozen 2; have f3 := HR2.out.frozen 3) | (go_at_call 64; refine (quote_any _ _ (ht.below HB2.out)).mono ?_; rintro e w4 ⟨rfl, hb4⟩; unfold quoteP; rw [HQ.out]; have HB4 := Lib.hid (below_seq HB2.out hb4); have HR4 := Lib.hid (HR2.out.below hb4 HR2.out.lt); have HN4 := Lib.hid (HN2.out.below hb4 HN2.out.lt); have k0 : w4.cell? ⟨w.heap.size, 0, none⟩ = some (.int .i64 t.kind) := HN4.out.cell 0; have k1 : w4.cell? ⟨w.heap.size, 1, none⟩ = some (.string t.text) := HN4.out.cell 1; have k2 : w4.cell? ⟨w.heap.size, 2, none⟩ = some (.int .i64 t.int) := HN4.out.cell 2; have k3 : w4.cell? ⟨w.heap.size, 3, none⟩ = some (.bool t.whole) := HN4.out.cell 3; have k4 : w4.cell? ⟨w.heap.size, 4, none⟩ = some (.bool t.sign) := HN4.out.cell 4; have k5 : w4.cell? ⟨w.heap.size, 5, none⟩ = some (.bool t.id) := HN4.out.cell 5; have k6 : w4.cell? ⟨w.heap.size, 6, none⟩ = some (.slice a n c) := HN4.out.cell 6; have c0 : w4.cell? ⟨w.heap.size + 1, 0, none⟩ = some (.int .i64 0) := HR4.out.cell 0; have c1 : w4.cell? ⟨w.heap.size + 1, 1, none⟩ = some (.string ⟨#[]⟩) := HR4.out.cell 1; have c2 : w4.cell? ⟨w.heap.size + 1, 2, none⟩ = some (.string ⟨#[]⟩) := HR4.out.cell 2; have c3 : w4.cell? ⟨w.heap.size + 1, 3, none⟩ = some (.string ⟨#[]⟩) := HR4.out.cell 3; have f0 := HR4.out.frozen 0; have f1 := HR4.out.frozen 1; have f2 := HR4.out.frozen 2; have f3 := HR4.out.frozen 3))
  refine bodyPost_ret (v := .tuple #[itV { kind := MK }, .bool OK]) (res_box (by rfl) _ _ (w.heap.size + 1) _ _ _ _ (by rfl) (by rfl) (HR4.out.put4 (.int .i64 MK) (.string ⟨#[]⟩) (.string ⟨#[]⟩) (.string ⟨#[]⟩)) Tryd.underlying45 (by rfl) item_size) rfl ?_
  exact ⟨rfl, put4_below HB4.out (by omega) _ _ _ _⟩
set_option maxRecDepth 100000 in
set_option maxHeartbeats 6400000 in
theorem item_0 (t : Tok) {k : List Nd} {a : Option Addr} {n c : Nat} {w : World} {P : Nat → Prop} (_hku : RdN w P (.slice a n c) k) (ht : TabP w) (_hx : t.text.size ≤ 1000000000) (_hl : szL k ≤ 100000000) (_hxk : TX k) (k5 : (t.kind == 5) = false) (k1 : (t.kind == 1) = false) (k2 : (t.kind == 2) = false) :
    Calls Tryd.prog 52 #[nval t (.slice a n c)] w (ItPost w (itemS (.mk t k))) := by
  have HD : Hid (itemS (.mk t k) = ({ kind := 0 }, false)) := ((if_neg (by simp only [Nd.tok]; rw [k5]; decide)).trans (if_neg (by simp only [Nd.tok]; rw [k1]; decide))).trans (if_neg (by simp only [Nd.tok]; rw [k2]; decide))
  rw [HD.out]
  have hbA : Below w.heap.size w ((w.alloc (.cells (nodeC t (.slice a n c)) 86)).alloc (.cells iz 45)) := ((Below.refl w.heap.size w).alloc (Nat.le_refl _) _).alloc (by simp) _
  have HBA := Lib.hid hbA
  have HTA := Lib.hid (ht.below hbA)
  have HRA : Hid (CB 45 ((w.alloc (.cells (nodeC t (.slice a n c)) 86)).alloc (.cells iz 45)) (w.heap.size + 1) iz) := by
    have hh := CB.new (T := 45) (w.alloc (.cells (nodeC t (.slice a n c)) 86)) iz
    rw [show (w.alloc (.cells (nodeC t (.slice a n c)) 86)).heap.size = w.heap.size + 1 by simp] at hh
    exact hh
  have HNA : Hid (CB 86 ((w.alloc (.cells (nodeC t (.slice a n c)) 86)).alloc (.cells iz 45)) w.heap.size (nodeC t (.slice a n c))) := (CB.new (T := 86) w (nodeC t (.slice a n c))).alloc _
  clear hbA
  clear HD
  go_enter Tryd.func52, Tryd.ntmps52
  go_wp2
  refine bodyPost_ret (v := .tuple #[itV { kind := 0 }, .bool false]) (res_box (by rfl) _ _ (w.heap.size + 1) _ _ _ _ (by rfl) (by rfl) HRA.out Tryd.underlying45 (by rfl) item_size) rfl ?_
  exact ⟨rfl, HBA.out⟩
theorem item_any {nd : Nd} {a : Option Addr} {n c : Nat} {w : World} {P : Nat → Prop} (hku : RdN w P (.slice a n c) nd.kids) (ht : TabP w) (hx : nd.tok.text.size ≤ 1000000000) (hl : szL nd.kids ≤ 100000000) (hxk : TX nd.kids) :
    Calls Tryd.prog 52 #[nval nd.tok (.slice a n c)] w (ItPost w (itemS nd)) := by
  obtain ⟨t, k⟩ := nd
  simp only [Nd.tok, Nd.kids] at *
  cases k5 : (t.kind == 5) with
  | true => exact item_5 t hku ht hx hl hxk k5
  | false =>
    cases k1 : (t.kind == 1) with
    | true => exact item_1 t hku ht hx hl hxk k5 k1
    | false =>
      cases k2 : (t.kind == 2) with
      | true => exact item_2 t hku ht hx hl hxk k5 k1 k2
      | false => exact item_0 t hku ht hx hl hxk k5 k1 k2
end Go.Proofs.YtkpaokcgjeplpaaDoor
namespace Go.Proofs.YtkpaokcgjeplpaaDoor
open Go.RowKit
/-! prop: content. -/
def okI (n : Nd) : Bool := (itemS n).2
def contL (l : List Nd) : StyD × Bool := if l.all okI = true then ({ cont := l.map fun n => (itemS n).1 }, true) else ({}, false)
def contS (l : List Nd) : StyD × Bool :=
  if ((aloneW l).toList == [110, 111, 114, 109, 97, 108]) = true then ({ normal := true }, true)
  else if ((aloneW l).toList == [110, 111, 110, 101]) = true then ({ none := true }, true)
  else if l.length = 0 ∨ 32 < l.length then ({}, false)
  else contL l
theorem takeI {l : List Nd} {i : Nat} (hi : i < l.length) : (l.take (i + 1)).map (fun n => (itemS n).1) = (l.take i).map (fun n => (itemS n).1) ++ [(itemS l[i]).1] := by
  rw [List.take_succ_eq_append_getElem hi, List.map_append]
  rfl
theorem info_item : (Tryd.prog.info? 45).map (fun i => (i.zero, i.size, i.bytes)) = some (some (.agg #[.int .i64 0, .string ⟨#[]⟩, .string ⟨#[]⟩, .string ⟨#[]⟩]), 4, 56) := by kernel_rfl
theorem OwnIt.snoc {B : Nat} {w : World} {v : Value} {l : List ItD} {x : ItD} {n : Nat} (hn : l.length = n) (h : w.ownsRow B 45 4 v (n + 1) (l.flatMap icells ++ icells x)) : OwnIt B w v (l ++ [x]) := by
  subst hn
  unfold OwnIt
  rw [List.length_append, List.flatMap_append, show [x].flatMap icells = icells x by simp]
  exact h
theorem cell4_al (w : World) (o : Obj) (a b c d : Value) (t : TypeId) : ∀ j u, [a, b, c, d][j]? = some u → ((w.alloc o).alloc (.cells #[a, b, c, d] t)).cell? ((⟨w.heap.size + 1, 0, none⟩ : Addr).add j) = some u := by
  have h := cell4_new (w.alloc o) a b c d t
  rw [show (w.alloc o).heap.size = w.heap.size + 1 by simp] at h
  exact h
theorem szL_mem : ∀ {l : List Nd} {n : Nd}, n ∈ l → szN n ≤ szL l
  | m :: l, n, h => by
    rw [szL]
    rcases List.mem_cons.1 h with rfl | h
    · omega
    · have := szL_mem h; omega
set_option maxRecDepth 100000 in
set_option maxHeartbeats 6400000 in
theorem cont_any {l : List Nd} {v : Value} {w : World} {P : Nat → Prop} (ht : TabP w) (h : RdN w P v l) (hl : szL l ≤ 100000000) (hx : TX l) (hk : TXK l) :
    Calls Tryd.prog 30 #[v] w (ReadPost w (contS l)) := by
  obtain ⟨i0, hi, hz0, hz1, hz2⟩ := info_parts info_item
  have hll := szL_ge l
  have HX := Lib.hid hx
  have HK := Lib.hid hk
  have HZ := Lib.hid hl
  have HT := Lib.hid ht
  have HB0 := Lib.hid (sbx_bel w)
  have HCB0 := Lib.hid (CB.new (T := 26) w zS)
  have HH := Lib.hid (h.under HB0.out (Nat.le_refl _))
  have HC := Lib.hid (palone_any HH.out hl hx)
  obtain ⟨a, c, rfl, hlc⟩ := h.shape
  have HQ1 : Hid (((aloneW l).toList == [110, 111, 114, 109, 97, 108]) = true → contS l = ({ normal := true }, true)) := fun hq => if_pos hq
  have HQ2 : Hid (((aloneW l).toList == [110, 111, 114, 109, 97, 108]) = false → ((aloneW l).toList == [110, 111, 110, 101]) = true → contS l = ({ none := true }, true)) := fun h1 h2 => (if_neg (by rw [h1]; decide)).trans (if_pos h2)
  have HQ3 : Hid (((aloneW l).toList == [110, 111, 114, 109, 97, 108]) = false → ((aloneW l).toList == [110, 111, 110, 101]) = false → (l.length = 0 ∨ 32 < l.length) → contS l = ({}, false)) := fun h1 h2 h3 => ((if_neg (by rw [h1]; decide)).trans (if_neg (by rw [h2]; decide))).trans (if_pos h3)
  have HQ4 : Hid (((aloneW l).toList == [110, 111, 114, 109, 97, 108]) = false → ((aloneW l).toList == [110, 111, 110, 101]) = false → ¬ (l.length = 0 ∨ 32 < l.length) → contS l = contL l) := fun h1 h2 h3 => ((if_neg (by rw [h1]; decide)).trans (if_neg (by rw [h2]; decide))).trans (if_neg h3)
  generalize contS l = QS at *
  generalize aloneW l = W at *
  obtain ⟨N, hN⟩ : ∃ N, l.length = N := ⟨_, rfl⟩
  have HL := Lib.hid h
  rw [hN] at hll hlc HH HC HL HQ3 HQ4 ⊢
  have HN := Lib.hid hN
  clear h hN hx hl hk ht
  cases h1 : (W.toList == [110, 111, 114, 109, 97, 108])
  rotate_left
  · have HR := Lib.hid (HQ1.out h1)
    clear HQ1 HQ2 HQ3 HQ4
    rw [HR.out]
    go_enter Tryd.func30, Tryd.ntmps30
    go_wp2_with (go_at_call 51; refine HC.out.mono ?_; rintro e w1 ⟨rfl, hb1⟩; have hB1 := below_seq HB0.out hb1; have HCB1 := Lib.hid (HCB0.out.below hb1 (by simp)); obtain ⟨c0, c1, c2, c3, c4, c5, c6, c7, c8, c9, c10⟩ := HCB1.out.at11; obtain ⟨f0, f1, f2, f3, f4, f5, f6, f7, f8, f9, f10⟩ := HCB1.out.fr11; have hs1 := HCB1.out.lt)
    refine bodyPost_ret (v := .tuple #[.agg (styC { normal := true } (.slice none 0 0) (.slice none 0 0) (.slice none 0 0) (.slice none 0 0) (.slice none 0 0)), .bool true]) (res_box (by rfl) _ _ w.heap.size _ _ _ _ (by rfl) (by rfl) (HCB1.out.all11 { normal := true } (.slice none 0 0) (.slice none 0 0) (.slice none 0 0) (.slice none 0 0) (.slice none 0 0)) Tryd.underlying26 (by rfl) style_size) rfl ?_
    exact sty_flat hB1 { normal := true } true ⟨rfl, rfl, rfl, rfl, rfl⟩
  cases h2 : (W.toList == [110, 111, 110, 101])
  rotate_left
  · have HR := Lib.hid (HQ2.out h1 h2)
    clear HQ1 HQ2 HQ3 HQ4
    rw [HR.out]
    go_enter Tryd.func30, Tryd.ntmps30
    go_wp2_with (go_at_call 51; refine HC.out.mono ?_; rintro e w1 ⟨rfl, hb1⟩; have hB1 := below_seq HB0.out hb1; have HCB1 := Lib.hid (HCB0.out.below hb1 (by simp)); obtain ⟨c0, c1, c2, c3, c4, c5, c6, c7, c8, c9, c10⟩ := HCB1.out.at11; obtain ⟨f0, f1, f2, f3, f4, f5, f6, f7, f8, f9, f10⟩ := HCB1.out.fr11; have hs1 := HCB1.out.lt)
    refine bodyPost_ret (v := .tuple #[.agg (styC { none := true } (.slice none 0 0) (.slice none 0 0) (.slice none 0 0) (.slice none 0 0) (.slice none 0 0)), .bool true]) (res_box (by rfl) _ _ w.heap.size _ _ _ _ (by rfl) (by rfl) (HCB1.out.all11 { none := true } (.slice none 0 0) (.slice none 0 0) (.slice none 0 0) (.slice none 0 0) (.slice none 0 0)) Tryd.underlying26 (by rfl) style_size) rfl ?_
    exact sty_flat hB1 { none := true } true ⟨rfl, rfl, rfl, rfl, rfl⟩
  by_cases g0 : N = 0
  · have HR := Lib.hid (HQ3.out h1 h2 (.inl g0))
    clear HQ1 HQ2 HQ3 HQ4
    subst g0
    rw [HR.out]
    go_enter Tryd.func30, Tryd.ntmps30
    go_wp2_with (go_at_call 51; refine HC.out.mono ?_; rintro e w1 ⟨rfl, hb1⟩; have hB1 := below_seq HB0.out hb1; have HCB1 := Lib.hid (HCB0.out.below hb1 (by simp)); obtain ⟨c0, c1, c2, c3, c4, c5, c6, c7, c8, c9, c10⟩ := HCB1.out.at11; obtain ⟨f0, f1, f2, f3, f4, f5, f6, f7, f8, f9, f10⟩ := HCB1.out.fr11; have hs1 := HCB1.out.lt)
    refine bodyPost_ret (v := .tuple #[.agg (styC {} (.slice none 0 0) (.slice none 0 0) (.slice none 0 0) (.slice none 0 0) (.slice none 0 0)), .bool false]) (res_box (by rfl) _ _ w.heap.size _ _ _ _ (by rfl) (by rfl) (HCB1.out.all11 {} (.slice none 0 0) (.slice none 0 0) (.slice none 0 0) (.slice none 0 0) (.slice none 0 0)) Tryd.underlying26 (by rfl) style_size) rfl ?_
    exact sty_flat hB1 {} false ⟨rfl, rfl, rfl, rfl, rfl⟩
  have g0b : ((N : Int) == 0) = false := beq_eq_false_iff_ne.2 (by omega)
  have g0c : ¬ (N : Int) = 0 := by omega
  by_cases g2 : 32 < N
  · have HR := Lib.hid (HQ3.out h1 h2 (.inr g2))
    clear HQ1 HQ2 HQ3 HQ4
    have g2I : (32 : Int) < (N : Int) := by omega
    rw [HR.out]
    go_enter Tryd.func30, Tryd.ntmps30
    go_wp2_with (go_at_call 51; refine HC.out.mono ?_; rintro e w1 ⟨rfl, hb1⟩; have hB1 := below_seq HB0.out hb1; have HCB1 := Lib.hid (HCB0.out.below hb1 (by simp)); obtain ⟨c0, c1, c2, c3, c4, c5, c6, c7, c8, c9, c10⟩ := HCB1.out.at11; obtain ⟨f0, f1, f2, f3, f4, f5, f6, f7, f8, f9, f10⟩ := HCB1.out.fr11; have hs1 := HCB1.out.lt)
    refine bodyPost_ret (v := .tuple #[.agg (styC {} (.slice none 0 0) (.slice none 0 0) (.slice none 0 0) (.slice none 0 0) (.slice none 0 0)), .bool false]) (res_box (by rfl) _ _ w.heap.size _ _ _ _ (by rfl) (by rfl) (HCB1.out.all11 {} (.slice none 0 0) (.slice none 0 0) (.slice none 0 0) (.slice none 0 0) (.slice none 0 0)) Tryd.underlying26 (by rfl) style_size) rfl ?_
    exact sty_flat hB1 {} false ⟨rfl, rfl, rfl, rfl, rfl⟩
  have g2I : ¬ (32 : Int) < (N : Int) := by omega
  have HR : Hid (QS = contL l) := HQ4.out h1 h2 (by omega)
  clear HQ1 HQ2 HQ3 HQ4
  rw [HR.out]
  clear HR
  have hN32 : N ≤ 32 := by omega
  go_enter Tryd.func30, Tryd.ntmps30
  go_wp2_with (go_at_call 51; refine HC.out.mono ?_; rintro e w1 ⟨rfl, hb1⟩; have hB1 := below_seq HB0.out hb1; have HCB1 := Lib.hid (HCB0.out.below hb1 (by simp)); obtain ⟨c0, c1, c2, c3, c4, c5, c6, c7, c8, c9, c10⟩ := HCB1.out.at11; obtain ⟨f0, f1, f2, f3, f4, f5, f6, f7, f8, f9, f10⟩ := HCB1.out.fr11; have hs1 := HCB1.out.lt)
  clear c0 c1 c2 c3 c4 c5 c6 c7 c8 c9 c10 f0 f1 f2 f3 f4 f5 f6 f7 f8 f9 f10
  go_loopw [4, 28] (fun ov iv wr => ∃ (i : Nat) (o0 : Value), o0 = ov ∧ iv = .int .i64 i ∧ i ≤ N ∧ OwnIt (w.heap.size + 1) wr o0 ((l.take i).map fun n => (itemS n).1) ∧ (l.take i).all okI = true ∧ CB 26 wr w.heap.size zS ∧ Below w.heap.size w wr) (fun _ iv _ => N - (intOf iv).toNat)
  case atStart => exact ⟨0, _, rfl, rfl, Nat.zero_le _, .nil _ _, rfl, HCB1.out, hB1⟩
  case round =>
    obtain ⟨i, o0, rfl, rfl, hiN, hown, hall, hcb, hB⟩ := hrel
    have hws := hcb.lt
    have HCB := Lib.hid hcb
    have HB := Lib.hid hB
    have HA := Lib.hid hall
    obtain ⟨ba, bc, rfl, _⟩ := row_sl hown
    have hml : ((l.take i).map fun n => (itemS n).1).length = i := by rw [List.length_map, List.length_take, HN.out]; omega
    have HOW : Hid (wr.ownsRow (w.heap.size + 1) 45 4 (.slice ba i bc) i (((l.take i).map fun n => (itemS n).1).flatMap icells)) := by
      have hh := hown
      unfold OwnIt at hh
      rw [hml] at hh
      exact hh
    rw [hml] at ⊢
    have HML := Lib.hid hml
    clear hB hall hown hml hcb
    by_cases hlt : i < N
    · have hr := HL.out.under HB.out (Nat.le_refl _)
      obtain ⟨b, off, c2, hv2, _, _, hbl, g1⟩ := hr.base (by rw [HN.out]; omega)
      rw [HN.out] at hv2
      injection hv2 with e1 _ e3
      subst e1 e3
      obtain ⟨u, hat, hku⟩ := g1 i (by rw [HN.out]; exact hlt)
      have HTM := Lib.hid (takeI (l := l) (i := i) (by rw [HN.out]; exact hlt))
      have HTA : Hid ((l.take (i + 1)).all okI = okI (l[i]'(by rw [HN.out]; exact hlt))) := by
        show _ = _
        rw [List.take_succ_eq_append_getElem (by rw [HN.out]; exact hlt), List.all_append, HA.out]
        simp
      have HTN : Hid (okI (l[i]'(by rw [HN.out]; exact hlt)) = false → l.all okI = false) := fun hq => by
        rw [Bool.eq_false_iff]
        intro hh
        rw [List.all_eq_true.1 hh _ (List.getElem_mem _)] at hq
        cases hq
      have hxt := HX.out _ (List.getElem_mem (show i < l.length by rw [HN.out]; exact hlt))
      have hxk := HK.out _ (List.getElem_mem (show i < l.length by rw [HN.out]; exact hlt))
      have hzk := szL_mem (List.getElem_mem (show i < l.length by rw [HN.out]; exact hlt))
      generalize l[i]'(by rw [HN.out]; exact hlt) = nd at *
      obtain ⟨t, k⟩ := nd
      simp only [Nd.tok, Nd.kids] at hat hku hxt hxk
      have hzk : szL k ≤ 100000000 := by have := HZ.out; rw [szN] at hzk; omega
      obtain ⟨ua, uc, hus, _⟩ := hku.shape
      subst hus
      obtain ⟨p0, p1, p2, p3, p4, p5, p6⟩ := hat
      have hx0 : (0 : Int) ≤ (i : Int) := by omega
      have hx1 : (i : Int) < (N : Int) := by omega
      have HIT := Lib.hid (item_any (nd := .mk t k) (hku.under ((Below.refl wr.heap.size wr).alloc (Nat.le_refl _) (.cells #[.int .i64 t.kind, .string t.text, .int .i64 t.int, .bool t.whole, .bool t.sign, .bool t.id, .slice ua k.length uc] 86)) (Nat.le_refl _)) (HT.out.below (HB.out.alloc HB.out.size (.cells #[.int .i64 t.kind, .string t.text, .int .i64 t.int, .bool t.whole, .bool t.sign, .bool t.id, .slice ua k.length uc] 86))) hxt hzk hxk)
      obtain ⟨D, OK, hio⟩ : ∃ D OK, itemS (.mk t k) = (D, OK) := ⟨_, _, rfl⟩
      unfold ItPost okI at *
      rw [hio] at HIT HTM HTA HTN
      clear hku g1 hr hxt hxk hzk hio
      cases OK
      · have HR : Hid (contL l = ({}, false)) := if_neg (by show ¬ l.all okI = true; unfold okI; rw [HTN.out rfl]; decide)
        go_wp2_with (go_at_call 52; refine HIT.out.mono ?_; rintro e w5 ⟨rfl, hb5⟩; have HB5 := Lib.hid (below_seq HB.out (below_seq ((Below.refl wr.heap.size wr).alloc (Nat.le_refl _) (.cells #[.int .i64 t.kind, .string t.text, .int .i64 t.int, .bool t.whole, .bool t.sign, .bool t.id, .slice ua k.length uc] 86)) hb5)); have hs5 : wr.heap.size + 1 ≤ w5.heap.size := (by have h := hb5.size; simp at h; omega); have hsb5 := (below_seq ((Below.refl wr.heap.size wr).alloc (Nat.le_refl _) (.cells #[.int .i64 t.kind, .string t.text, .int .i64 t.int, .bool t.whole, .bool t.sign, .bool t.id, .slice ua k.length uc] 86)) hb5); have HCB5 := Lib.hid (HCB.out.below hsb5 hws); have HO5 := Lib.hid (((prow_below HOW.out hsb5).alloc (.cells #[.int .i64 D.kind, .string D.text, .string D.sep, .string D.style] 45)).alloc (.cells #[.int .i64 D.kind, .string D.text, .string D.sep, .string D.style] 45)); have HBB := Lib.hid ((HB5.out.alloc HB5.out.size (.cells #[.int .i64 D.kind, .string D.text, .string D.sep, .string D.style] 45)).alloc (by have := HB5.out.size; simp; omega) (.cells #[.int .i64 D.kind, .string D.text, .string D.sep, .string D.style] 45)); have hws5 := HCB5.out.lt; obtain ⟨c0, c1, c2, c3, c4, c5, c6, c7, c8, c9, c10⟩ := HCB5.out.at11; obtain ⟨f0, f1, f2, f3, f4, f5, f6, f7, f8, f9, f10⟩ := HCB5.out.fr11)
        refine bodyPost_ret (v := .tuple #[.agg (styC {} (.slice none 0 0) (.slice none 0 0) (.slice none 0 0) (.slice none 0 0) (.slice none 0 0)), .bool false]) (res_box (by rfl) _ _ w.heap.size _ _ _ _ (by rfl) (by rfl) ((HCB5.out.all11 {} (.slice none 0 0) (.slice none 0 0) (.slice none 0 0) (.slice none 0 0) (.slice none 0 0)).alloc (.cells #[.int .i64 D.kind, .string D.text, .string D.sep, .string D.style] 45)) Tryd.underlying26 (by rfl) style_size) rfl ?_
        rw [HR.out]
        have hh := sty_flat HB5.out {} false ⟨rfl, rfl, rfl, rfl, rfl⟩
        exact ⟨⟨_, rfl, OwnS.flat _ _ _ ⟨rfl, rfl, rfl, rfl, rfl⟩⟩, hh.2.alloc (by have := hh.2.size; exact this) _⟩
      · go_wp2_with (first | (go_at_call 52; refine HIT.out.mono ?_; rintro e w5 ⟨rfl, hb5⟩; have HB5 := Lib.hid (below_seq HB.out (below_seq ((Below.refl wr.heap.size wr).alloc (Nat.le_refl _) (.cells #[.int .i64 t.kind, .string t.text, .int .i64 t.int, .bool t.whole, .bool t.sign, .bool t.id, .slice ua k.length uc] 86)) hb5)); have hs5 : wr.heap.size + 1 ≤ w5.heap.size := (by have h := hb5.size; simp at h; omega); have hsb5 := (below_seq ((Below.refl wr.heap.size wr).alloc (Nat.le_refl _) (.cells #[.int .i64 t.kind, .string t.text, .int .i64 t.int, .bool t.whole, .bool t.sign, .bool t.id, .slice ua k.length uc] 86)) hb5); have HCB5 := Lib.hid (HCB.out.below hsb5 hws); have HO5 := Lib.hid (((prow_below HOW.out hsb5).alloc (.cells #[.int .i64 D.kind, .string D.text, .string D.sep, .string D.style] 45)).alloc (.cells #[.int .i64 D.kind, .string D.text, .string D.sep, .string D.style] 45)); have HBB := Lib.hid ((HB5.out.alloc HB5.out.size (.cells #[.int .i64 D.kind, .string D.text, .string D.sep, .string D.style] 45)).alloc (by have := HB5.out.size; simp; omega) (.cells #[.int .i64 D.kind, .string D.text, .string D.sep, .string D.style] 45)); have hws5 := HCB5.out.lt) | (at_builtin; refine wpList_append_own _ rfl _ _ 22 rfl (w.heap.size + 1) 45 i0 (.agg #[.int .i64 0, .string ⟨#[]⟩, .string ⟨#[]⟩, .string ⟨#[]⟩]) 4 56 Tryd.underlying22 hi hz0 hz1 hz2 rfl (by decide) _ _ _ rfl HO5.out ⟨_, 0, none⟩ 1 1 (icells D) rfl rfl (cell4_al _ _ _ _ _ _ _) (by intro u hu; simp at hu; rcases hu with rfl | rfl | rfl | rfl <;> rfl) (by unfold maxLen; omega) (by omega) (by have := HBB.out.size; simp; omega) ?_; intro v' w6 ho6 hg6 _))
        have hb6 : Below w.heap.size w w6 := HBB.out.grown hg6 (HBB.out.size) (fun q hq => by have := (HOW.out.lt q hq).1; omega)
        have hqc := ((HCB5.out.alloc (.cells #[.int .i64 D.kind, .string D.text, .string D.sep, .string D.style] 45)).alloc (.cells #[.int .i64 D.kind, .string D.text, .string D.sep, .string D.style] 45)).grown hg6 (fun e => by have := (HOW.out.lt _ e).1; omega)
        go_roundw
        case rel => exact ⟨i + 1, v', rfl, by go_num, by omega, by rw [HTM.out]; exact OwnIt.snoc HML.out ho6, by show (l.take (i + 1)).all okI = true; unfold okI; rw [HTA.out], hqc, hb6⟩
        case measure => simp [intOf]; omega
    · obtain rfl : i = N := by omega
      have HE : Hid (l.take i = l) := List.take_of_length_le (by rw [HN.out]; omega)
      have HR : Hid (contL l = ({ cont := l.map fun n => (itemS n).1 }, true)) := if_pos (by rw [← HE.out]; exact HA.out)
      have HOX : Hid (OwnIt (w.heap.size + 1) wr (.slice ba i bc) (l.map fun n => (itemS n).1)) := by
        have hh := HOW.out
        rw [HE.out] at hh
        show OwnIt _ _ _ _
        unfold OwnIt
        rw [List.length_map, HN.out]
        exact hh
      obtain ⟨c0, c1, c2, c3, c4, c5, c6, c7, c8, c9, c10⟩ := HCB.out.at11; obtain ⟨f0, f1, f2, f3, f4, f5, f6, f7, f8, f9, f10⟩ := HCB.out.fr11
      go_wp2
      generalize (l.map fun n => (itemS n).1) = ML at *
      refine bodyPost_ret (v := .tuple #[.agg (styC { cont := ML } (.slice ba i bc) (.slice none 0 0) (.slice none 0 0) (.slice none 0 0) (.slice none 0 0)), .bool true]) (res_box (by rfl) _ _ w.heap.size _ _ _ _ (by rfl) (by rfl) (HCB.out.all11 { cont := ML } (.slice ba i bc) (.slice none 0 0) (.slice none 0 0) (.slice none 0 0) (.slice none 0 0)) Tryd.underlying26 (by rfl) style_size) rfl ?_
      rw [HR.out]
      exact sty_fin HB.out { cont := ML } true _ _ _ _ _ HOX.out (OwnT.nil _ _) (.nil _ _) (.nil _ _) (.nil _ _)
end Go.Proofs.YtkpaokcgjeplpaaDoor
