
import Derived.Test.YtkpaokcgjeplpaaDoorTkR
import Derived.Test.YtkpaokcgjeplpaaDoorPtsBk
import Derived.Laws.StructEq
import Derived.KernelRfl
namespace Go.Proofs.YtkpaokcgjeplpaaDoor
open Go.RowKit

def tcells (t : Tok) : List Value := [.int .i64 t.kind, .string t.text, .int .i64 t.int, .bool t.whole, .bool t.sign, .bool t.id]
theorem tcells_len (t : Tok) : (tcells t).length = 6 := rfl
theorem cells_len (l : List Tok) : (l.flatMap tcells).length = l.length * 6 := by
  induction l with
  | nil => rfl
  | cons a l ih => rw [List.flatMap_cons, List.length_append, ih, tcells_len, List.length_cons]; omega

/-- A slice of tokens that reads as a list. -/
def RdT (w : World) (v : Value) (l : List Tok) : Prop :=
  ∃ a c, v = .slice a l.length c ∧ l.length ≤ c ∧ (0 < l.length → ∃ b, a = some ⟨b, 0, none⟩ ∧ b < w.heap.size ∧ ∀ j u, (l.flatMap tcells)[j]? = some u → w.cell? ⟨b, j, none⟩ = some u)
theorem RdT.below {w w' : World} {v : Value} {l : List Tok} (h : RdT w v l) (hb : Below w.heap.size w w') : RdT w' v l := by
  obtain ⟨a, c, rfl, hle, h⟩ := h
  refine ⟨a, c, rfl, hle, fun hp => ?_⟩
  obtain ⟨b, rfl, hlt, hc⟩ := h hp
  exact ⟨b, rfl, Nat.lt_of_lt_of_le hlt hb.size, fun j u hu => by rw [hb.cell (p := ⟨b, j, none⟩) hlt]; exact hc j u hu⟩
/-- Tokens so far: a row that is newer than block number B. -/
def TokL (B : Nat) (w : World) (lv : Value) (out : List Tok) : Prop := w.ownsRow B 84 6 lv out.length (out.flatMap tcells)
theorem TokL.nil (B : Nat) (w : World) : TokL B w (.slice none 0 0) [] := World.ownsRow_nil _ _ _ _
theorem TokL.keeps {B g : Nat} {w w' : World} {T : TypeId} {v : Value} {xs r : List Int} {lv : Value} {out : List Tok} (h : TokL B w lv out) (hn : Now T g v xs r w w') (hB : g < B) : TokL B w' lv out := by
  unfold TokL at h ⊢
  refine h.kept hn.gw ?_
  by_cases e : lv.ownBlock = none
  · exact .inl e
  · refine .inr fun e2 => ?_
    have := (h.lt g e2).1
    omega
theorem TokL.row {B : Nat} {w : World} {lv : Value} {out : List Tok} (h : TokL B w lv out) : ∀ k, lv.ownBlock = some k → B ≤ k := fun k hk => (World.ownsRow.lt h k hk).1
theorem TokL.rd {B : Nat} {w : World} {lv : Value} {out : List Tok} (h : TokL B w lv out) : RdT w lv out := by
  have hl := World.ownsRow.lt h
  have hc := fun g hg => World.ownsRow.cells h (g := g) hg
  unfold TokL at h
  rcases h.2 with ⟨rfl, h0⟩ | ⟨g, cap, cur, rfl, b, c, d, _⟩
  · exact ⟨none, 0, by rw [h0], by omega, fun hp => by omega⟩
  · refine ⟨_, cap, rfl, d, fun _ => ⟨g, rfl, (hl g rfl).2, fun j u hu => ?_⟩⟩
    have := hc g rfl j u hu
    have hadd : (⟨g, 0, none⟩ : Addr).add j = ⟨g, j, none⟩ := by unfold Addr.add; split <;> simp_all
    rw [hadd] at this
    exact this
theorem info_tok : (Tryd.prog.info? 84).map (fun i => (i.zero, i.size, i.bytes)) = some (some (.agg #[.int .i64 0, .string ⟨#[]⟩, .int .i64 0, .bool false, .bool false, .bool false]), 6, 40) := by kernel_rfl
theorem cell_six_new (w : World) (t : Tok) (T : TypeId) : ∀ j u, (tcells t)[j]? = some u → (w.alloc (.cells #[.int .i64 t.kind, .string t.text, .int .i64 t.int, .bool t.whole, .bool t.sign, .bool t.id] T)).cell? ((⟨w.heap.size, 0, none⟩ : Addr).add j) = some u := by
  intro j u hj
  have hadd : (⟨w.heap.size, 0, none⟩ : Addr).add j = ⟨w.heap.size, j, none⟩ := by unfold Addr.add; split <;> simp_all
  rw [hadd]
  unfold World.cell?
  rw [heap_alloc_self]
  match j, hj with
  | 0, hj => simpa [tcells] using hj
  | 1, hj => simpa [tcells] using hj
  | 2, hj => simpa [tcells] using hj
  | 3, hj => simpa [tcells] using hj
  | 4, hj => simpa [tcells] using hj
  | 5, hj => simpa [tcells] using hj
  | j + 6, hj => simp [tcells] at hj

theorem tcells_one (t : Tok) : ∀ u ∈ tcells t, u.oneCell' = true := by
  intro u hu
  simp only [tcells, List.mem_cons, List.not_mem_nil, or_false] at hu
  rcases hu with rfl | rfl | rfl | rfl | rfl | rfl <;> rfl

def SignsOk (xs : List Int) : Prop := ∀ x ∈ xs, 0 ≤ x ∧ x ≤ 1114111
/-- What All answers. -/
def AllOf (w : World) (l : List Tok) (e : Ending) (w' : World) : Prop := ∃ v, e = .returned v ∧ RdT w' v l ∧ Below w.heap.size w w'

end Go.Proofs.YtkpaokcgjeplpaaDoor
namespace Go.Proofs.YtkpaokcgjeplpaaDoor
open Go.RowKit

theorem readS_ok (s : ByteArray) : SignsOk (readS s) := fun x hx => by
  have := (valid_iff x).1 (readS_good s x hx).1
  omega

def tokB (t u : Tok) : Bool := t.kind == u.kind && (t.text.toList == u.text.toList && (t.int == u.int && (t.whole == u.whole && (t.sign == u.sign && t.id == u.id))))
theorem tokB_iff (t u : Tok) : tokB t u = true ↔ t = u := by
  constructor
  · intro h
    unfold tokB at h
    simp only [Bool.and_eq_true, beq_iff_eq] at h
    obtain ⟨h1, h2, h3, h4, h5, h6⟩ := h
    rw [ByteArray.toList_eq, ByteArray.toList_eq] at h2
    obtain ⟨k, ⟨⟨x⟩⟩, n, a, b, c⟩ := t
    obtain ⟨k', ⟨⟨x'⟩⟩, n', a', b', c'⟩ := u
    simp only at h1 h2 h3 h4 h5 h6
    subst h1 h2 h3 h4 h5 h6
    rfl
  · rintro rfl
    simp [tokB]
set_option maxRecDepth 100000 in
set_option maxHeartbeats 400000 in
theorem tokEq_run (t u : Tok) (w : World) : (binOp .eql 84 t.val u.val).run Tryd.prog w = .ok (.bool (tokB t u)) w := by
  have ht : Tryd.prog.underlying 84 = some (.struct (Tryd.prog.fieldsOf 84)) := by kernel_rfl
  have hp : Tryd.prog.stoodInHeld 84 = false := by kernel_rfl
  simp only [Tok.val, run_eql_struct]
  rw [run_equalIn_agg _ _ _ _ _ ht hp]
  have hf := ht
  rw [Tryd.underlying84] at hf
  injection hf with hf
  injection hf with hf
  rw [← hf]
  simp [go_sem, Op.eqFields, Tryd.underlying3, Tryd.underlying9, Tryd.underlying4]
  unfold tokB
  repeat' split
  all_goals simp_all
set_option maxRecDepth 100000 in
set_option maxHeartbeats 400000 in
theorem tokNe_run (t u : Tok) (w : World) : (binOp .neq 84 t.val u.val).run Tryd.prog w = .ok (.bool (!tokB t u)) w := by
  have h := tokEq_run t u w
  simp only [Tok.val, run_eql_struct, run_neq_struct] at h ⊢
  generalize (Op.equalIn 10000 84 _ _).run Tryd.prog w = R at *
  cases R with
  | ok b w1 => simp [Result.andThen] at h ⊢; rw [h.1]; exact ⟨rfl, h.2⟩
  | halt x w1 => simp [Result.andThen] at h

/-- []byte(s), as a slice that reads as s's bytes. -/
theorem rd_bytes (w : World) (s : ByteArray) : Rd .u8 (w.drew.alloc (.cells (bytesRow s (grownCap w s.size 0 5)) 5 ((bytesRow s (grownCap w s.size 0 5)).size, (bytesRow s (grownCap w s.size 0 5)).size + 1))) (.slice (some ⟨w.heap.size, 0, none⟩) s.size (grownCap w s.size 0 5)) (nums s) := by
  have hle : s.size ≤ grownCap w s.size 0 5 := grownCap_ge w s.size 0 5
  have ho := OwnB.made w s (grownCap w s.size 0 5) 5 hle (nth (nums s)) (fun j _ => rfl)
  have hl := nums_length s
  rw [← hl] at ho
  rw [← hl] at hle ⊢
  exact ho.rd (cap := _) hle (fun j _ => rfl)

theorem AllOf.since {w0 w w' : World} {l : List Tok} {e : Ending} (h : AllOf w l e w') (hb : Below w0.heap.size w0 w) : AllOf w0 l e w' := by
  obtain ⟨v, he, hr, hb2⟩ := h
  exact ⟨v, he, hr, below_seq hb hb2⟩

end Go.Proofs.YtkpaokcgjeplpaaDoor
namespace Go.Proofs.YtkpaokcgjeplpaaDoor
open Go.RowKit

def awakeL : List Tok := [{ kind := 1, text := ⟨#[97]⟩ }, { kind := 19, text := ⟨#[123]⟩ }, { kind := 1, text := ⟨#[98]⟩ }, { kind := 16 }, { kind := 10, int := 1, whole := true }, { kind := 17 }, { kind := 20, text := ⟨#[125]⟩ }, { kind := 13 }, { kind := 4, text := ⟨#[120]⟩, id := true }, { kind := 13 }, { kind := 12, text := ⟨#[112, 120]⟩, sign := true }, { kind := 13 }, { kind := 7, text := ⟨#[121]⟩ }, { kind := 13 }, { kind := 5, text := ⟨#[113]⟩ }, { kind := 13 }, { kind := 3, text := ⟨#[122]⟩ }, { kind := 13 }, { kind := 14 }, { kind := 13 }, { kind := 2, text := ⟨#[102]⟩ }, { kind := 11, int := 50, whole := true }]
theorem awake_toks : toks (readS ⟨#[97, 123, 98, 58, 49, 59, 125, 32, 35, 120, 32, 45, 50, 46, 53, 112, 120, 32, 117, 114, 108, 40, 32, 121, 32, 41, 32, 34, 113, 34, 32, 64, 122, 32, 60, 33, 45, 45, 32, 102, 40, 47, 42, 42, 47, 53, 48, 37]⟩) = awakeL := by kernel_rfl
theorem awake_i1 : intV (nums ⟨#[45, 57, 57, 57, 57, 57, 57, 57, 57, 57, 57, 57]⟩) = -2147483648 := by decide +kernel
theorem awake_i2 : intV (nums ⟨#[43, 55]⟩) = 7 := by decide +kernel
theorem awake_i3 : intV (nums ⟨#[120]⟩) = 0 := by decide +kernel

end Go.Proofs.YtkpaokcgjeplpaaDoor
namespace Go.Proofs.YtkpaokcgjeplpaaDoor
open Go.RowKit

theorem encB_ascii {x : Int} (h : 0 ≤ x ∧ x < 128) : encB x = [UInt8.ofNat x.toNat] := by
  have hv : Utf8.valid x = true := (valid_iff x).2 (by omega)
  have hc : x.toNat < 128 := by omega
  unfold encB Utf8.encode
  simp [hv, hc]
theorem runes_ascii (l : List Int) (h : ∀ x ∈ l, 0 ≤ x ∧ x < 128) : runesBytes l = strOfNums l := by
  have h1 : (runesBytes l).data.toList = (strOfNums l).data.toList := by
    rw [runesBytes_list, strOfNums_data]
    induction l with
    | nil => rfl
    | cons a l ih =>
      rw [List.flatMap_cons, List.map_cons, encB_ascii (h a (by simp)), ih (fun x hx => h x (List.mem_cons_of_mem _ hx))]
      rfl
  exact ByteArray.ext (Array.ext' h1)
theorem runes_nums (s : ByteArray) (h : ∀ x ∈ nums s, 0 ≤ x ∧ x < 128) : runesBytes (nums s) = s := by rw [runes_ascii _ h, str_nums]
theorem ascii_read (t : ByteArray) (h : ∀ x ∈ nums t, 1 ≤ x ∧ x < 128 ∧ x ≠ 12 ∧ x ≠ 13) : readS t = nums t := by
  have h1 : runesBytes (nums t) = t := runes_nums t (fun x hx => by have := h x hx; omega)
  have h2 := read_back (nums t) (fun x hx => by have := h x hx; exact ⟨(valid_iff x).2 (by omega), by omega, by omega, by omega⟩)
  rw [h1] at h2
  rw [h2]
  cases hn : nums t with
  | nil => rfl
  | cons a l =>
    have := h a (by rw [hn]; simp)
    show (if a = 65279 then l else a :: l) = _
    rw [if_neg (by omega)]
theorem nums_append (a b : ByteArray) : nums (a ++ b) = nums a ++ nums b := by
  unfold nums
  rw [ByteArray.data_append]
  simp
theorem nums_byte {s : ByteArray} {x : Int} (h : x ∈ nums s) : 0 ≤ x ∧ x ≤ 255 := by
  unfold nums at h
  rw [List.mem_map] at h
  obtain ⟨b, _, rfl⟩ := h
  have := b.toNat_lt
  omega
theorem nth_mem {l : List Int} {j : Nat} (h : j < l.length) : nth l j ∈ l := by
  have : nth l j = l[j] := by simp [nth, List.getD_eq_getElem?_getD, List.getElem?_eq_getElem h]
  rw [this]
  exact List.getElem_mem h
theorem mem_nth {l : List Int} {x : Int} (h : x ∈ l) : ∃ j, j < l.length ∧ nth l j = x := by
  obtain ⟨j, hj, rfl⟩ := List.mem_iff_getElem.1 h
  exact ⟨j, hj, by simp [nth, List.getD_eq_getElem?_getD, List.getElem?_eq_getElem hj]⟩

theorem ah_left {l r : List Int} {n : Nat} (h : n < l.length) : ah (l ++ r) n = nth l n := by
  unfold ah nth
  rw [List.getD_eq_getElem?_getD, List.getD_eq_getElem?_getD, List.getElem?_append_left h, List.getElem?_eq_getElem h]
  rfl
theorem ah_right {l r : List Int} {n : Nat} (h : l.length ≤ n) : ah (l ++ r) n = ah r (n - l.length) := by
  unfold ah
  rw [List.getD_eq_getElem?_getD, List.getD_eq_getElem?_getD, List.getElem?_append_right h]
theorem ah_cons0 (a : Int) (l r : List Int) : ah (a :: l ++ r) 0 = a := rfl
theorem nm_names : ∀ (l r : List Int), (∀ x ∈ l, sName x = true) → sName (ah r 0) = false → esc r 0 = false → nm (l ++ r) = (l, r)
  | [], r, _, h1, h2 => nm_else h1 h2
  | a :: l, r, h, h1, h2 => by
    have hn : sName (ah (a :: l ++ r) 0) = true := h a (by simp)
    rw [nm_name hn]
    have hd : dp 1 (a :: l ++ r) = l ++ r := rfl
    rw [hd, nm_names l r (fun x hx => h x (List.mem_cons_of_mem _ hx)) h1 h2]
    rfl
theorem toks_cons {r : List Int} (h : pre [47, 42] r = false) (hl : 1 ≤ r.length) : toks r = (tokT r).1 :: toks (tokT r).2 := by
  rw [toks_eq, cm_no h]
  unfold toksC
  rw [if_neg (by
    have : r ≠ [] := by intro e; rw [e] at hl; simp at hl
    simpa using this)]
theorem pre_ah {a b : Int} {r : List Int} (h : ah r 0 ≠ a) (ha : a ≠ -1) (hb : b ≠ -1) : pre [a, b] r = false := by
  by_cases hp : pre [a, b] r = true
  · exfalso
    have := (pre_iff [a, b] r (by intro x hx; simp at hx; rcases hx with rfl | rfl; exact ha; exact hb)).1 hp 0 (by simp)
    exact h (by simpa [nth] using this)
  · simpa using hp
theorem pre_ah3 {a b c : Int} {r : List Int} (h : ah r 0 ≠ a) (ha : a ≠ -1) (hb : b ≠ -1) (hc : c ≠ -1) : pre [a, b, c] r = false := by
  by_cases hp : pre [a, b, c] r = true
  · exfalso
    have := (pre_iff [a, b, c] r (by intro x hx; simp at hx; rcases hx with rfl | rfl | rfl; exact ha; exact hb; exact hc)).1 hp 0 (by simp)
    exact h (by simpa [nth] using this)
  · simpa using hp

/-- A hash, and what is behind it. -/
theorem tokT_hash {l r : List Int} (hl : 1 ≤ l.length) (hn : ∀ x ∈ l, sName x = true) (h1 : sName (ah r 0) = false) (h2 : esc r 0 = false) :
    tokT (35 :: (l ++ r)) = ({ kind := 4, text := runesBytes l, id := nbg (l ++ r) 0 }, r) := by
  have ha : ah (35 :: (l ++ r)) 0 = 35 := rfl
  have hd : dp 1 (35 :: (l ++ r)) = l ++ r := rfl
  have h3 : sName (ah (35 :: (l ++ r)) 1) = true := by
    cases l with
    | nil => simp at hl
    | cons a l => exact hn a (by simp)
  unfold tokT
  rw [ha, if_neg (by decide), if_neg (by decide), if_pos rfl]
  unfold hashT
  rw [if_pos (by rw [h3]; rfl), hd, nm_names l r hn h1 h2]

theorem tokRefl_run (t : Tok) (w : World) : (binOp .eql 84 t.val t.val).run Tryd.prog w = .ok (.bool true) w := by
  rw [tokEq_run, (tokB_iff t t).2 rfl]
theorem wrap_byte {x : Int} (h : 0 ≤ x ∧ x ≤ 255) : wrap32 x = x := by unfold wrap32; omega
def LawPost (w : World) (e : Ending) (w' : World) : Prop := e = .returned (.bool true) ∧ Below w.heap.size w w'
end Go.Proofs.YtkpaokcgjeplpaaDoor
namespace Go.Proofs.YtkpaokcgjeplpaaDoor
open Go.RowKit

theorem cells_at : ∀ (l : List Tok) (k j : Nat) (h : k < l.length) (u : Value), (tcells l[k])[j]? = some u → (l.flatMap tcells)[k * 6 + j]? = some u
  | t :: l, 0, j, _, u, hu => by
    have hu2 : (tcells t)[j]? = some u := hu
    rw [List.flatMap_cons, Nat.zero_mul, Nat.zero_add, List.getElem?_append_left (List.getElem?_eq_some_iff.1 hu2).1]
    exact hu2
  | t :: l, k + 1, j, h, u, hu => by
    rw [List.flatMap_cons, show (k + 1) * 6 + j = 6 + (k * 6 + j) by omega, List.getElem?_append_right (by rw [tcells_len]; omega), tcells_len, Nat.add_sub_cancel_left]
    exact cells_at l k j (by simpa using h) u hu

/-- The k-th token's cells. -/
def CellsAt (w : World) (b k : Nat) (t : Tok) : Prop :=
  w.cell? ⟨b, k * 6, none⟩ = some (.int .i64 t.kind) ∧ w.cell? ⟨b, k * 6 + 1, none⟩ = some (.string t.text) ∧ w.cell? ⟨b, k * 6 + 2, none⟩ = some (.int .i64 t.int) ∧
  w.cell? ⟨b, k * 6 + 3, none⟩ = some (.bool t.whole) ∧ w.cell? ⟨b, k * 6 + 4, none⟩ = some (.bool t.sign) ∧ w.cell? ⟨b, k * 6 + 5, none⟩ = some (.bool t.id)
theorem cellsAt_of {w : World} {b : Nat} {l : List Tok} (hc : ∀ j u, (l.flatMap tcells)[j]? = some u → w.cell? ⟨b, j, none⟩ = some u) {k : Nat} (h : k < l.length) : CellsAt w b k l[k] :=
  ⟨hc _ _ (cells_at l k 0 h _ rfl), hc _ _ (cells_at l k 1 h _ rfl), hc _ _ (cells_at l k 2 h _ rfl), hc _ _ (cells_at l k 3 h _ rfl), hc _ _ (cells_at l k 4 h _ rfl), hc _ _ (cells_at l k 5 h _ rfl)⟩

end Go.Proofs.YtkpaokcgjeplpaaDoor
namespace Go.Proofs.YtkpaokcgjeplpaaDoor
open Go.RowKit
set_option maxRecDepth 100000 in
set_option maxHeartbeats 400000 in
theorem round_any (k n m : Int) (w : World) (hn : 0 < n) (hn2 : n ≤ 1000) (hm : k % n = m) :
    Calls Tryd.prog 13 #[.int .i64 k, .int .i64 n] w fun e w' => e = .returned (.int .i64 m) ∧ w = w' := by
  have hne : ¬ n = 0 := by omega
  have hne2 : (n == 0) = false := by simp [hne]
  have ht : -1000 < k.tmod n ∧ k.tmod n < 1000 := by
    have h1 := Int.tmod_lt_of_pos k hn
    have h2 := Int.tmod_lt_of_pos (-k) hn
    rw [Int.neg_tmod] at h2
    omega
  have hr : (k.tmod n + n).tmod n = m := by
    have h1 := Int.tmod_lt_of_pos k hn
    have h2 := Int.tmod_lt_of_pos (-k) hn
    rw [Int.neg_tmod] at h2
    rw [Int.tmod_eq_emod_of_nonneg (by omega), ← hm, Int.add_emod_right]
    rcases Int.le_total 0 k with h | h
    · rw [Int.tmod_eq_emod_of_nonneg h, Int.emod_emod_of_dvd k (Int.dvd_refl n)]
    · have h3 := Int.tmod_add_mul_tdiv k n
      conv => rhs; rw [← h3]
      rw [Int.add_mul_emod_self_left]
  obtain ⟨ht1, ht2⟩ := ht
  have HR := Lib.hid hr
  have HM := Lib.hid hm
  clear hr hm
  go_enter Tryd.func13, Tryd.ntmps13
  go_wp2
  go_ret
  exact ⟨ret_int HR.out, rfl⟩
end Go.Proofs.YtkpaokcgjeplpaaDoor
