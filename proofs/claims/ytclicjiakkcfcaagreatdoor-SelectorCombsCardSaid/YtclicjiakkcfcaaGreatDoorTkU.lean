import Derived.Test.YtclicjiakkcfcaaGreatDoorTkR
import Derived.Test.YtclicjiakkcfcaaGreatDoorPtsBk
import Derived.Laws.StructEq
import Derived.KernelRfl
set_option maxRecDepth 100000
set_option maxHeartbeats 400000
namespace Go.Proofs.YtclicjiakkcfcaaGreatDoor
open Go.RowKit
def tcells (t : Tok) : List Value := [.int .i64 t.kind, .string t.text, .int .i64 t.int, .bool t.whole, .bool t.sign, .bool t.id]
theorem tcells_len (t : Tok) : (tcells t).length = 6 := rfl
def RdT (w : World) (v : Value) (l : List Tok) : Prop :=
 ∃ a c, v = .slice a l.length c ∧ l.length ≤ c ∧ (0 < l.length → ∃ b, a = some ⟨b, 0, none⟩ ∧ b < w.heap.size ∧ ∀ j u, (l.flatMap tcells)[j]? = some u → w.cell? ⟨b, j, none⟩ = some u)
theorem RdT.below {w w' : World} {v : Value} {l : List Tok} (h : RdT w v l) (hb : Below w.heap.size w w') : RdT w' v l := by
 obtain ⟨a, c, rfl, hle, h⟩ := h
 refine ⟨a, c, rfl, hle, fun hp => ?_⟩
 obtain ⟨b, rfl, hlt, hc⟩ := h hp
 exact ⟨b, rfl, Nat.lt_of_lt_of_le hlt hb.size, fun j u hu => by rw [hb.cell (p := ⟨b, j, none⟩) hlt]; exact hc j u hu⟩
def TokL (B : Nat) (w : World) (lv : Value) (out : List Tok) : Prop := w.ownsRow B 94 6 lv out.length (out.flatMap tcells)
theorem TokL.nil (B : Nat) (w : World) : TokL B w (.slice none 0 0) [] := World.ownsRow_nil _ _ _ _
theorem TokL.keeps {B g : Nat} {w w' : World} {T : TypeId} {v : Value} {xs r : List Int} {lv : Value} {out : List Tok} (h : TokL B w lv out) (hn : Now T g v xs r w w') (hB : g < B) : TokL B w' lv out := by
 unfold TokL at h ⊢
 refine h.kept hn.gw ?_
 by_cases e : lv.ownBlock = none
 · exact .inl e
 · refine .inr fun e2 => ?_
   have := (h.lt g e2).1
   omega
theorem TokL.row {B : Nat} {w : World} {lv : Value} {out : List Tok} (h : TokL B w lv out) : ∀ k, lv.ownBlock = some k → B ≤ k := fun k hk => (World.ownsRow.lt h k hk).1
theorem TokL.rd {B : Nat} {w : World} {lv : Value} {out : List Tok} (h : TokL B w lv out) : RdT w lv out := by
 have hl := World.ownsRow.lt h
 have hc := fun g hg => World.ownsRow.cells h (g := g) hg
 unfold TokL at h
 rcases h.2 with ⟨rfl, h0⟩ | ⟨g, cap, cur, rfl, b, c, d, _⟩
 · exact ⟨none, 0, by rw [h0], by omega, fun hp => by omega⟩
 · refine ⟨_, cap, rfl, d, fun _ => ⟨g, rfl, (hl g rfl).2, fun j u hu => ?_⟩⟩
   have := hc g rfl j u hu
   have hadd : (⟨g, 0, none⟩ : Addr).add j = ⟨g, j, none⟩ := by unfold Addr.add; split <;> simp_all
   rw [hadd] at this
   exact this
theorem info_tok : (Tryz.prog.info? 94).map (fun i => (i.zero, i.size, i.bytes)) = some (some (.agg #[.int .i64 0, .string ⟨#[]⟩, .int .i64 0, .bool false, .bool false, .bool false]), 6, 40) := by kernel_rfl
theorem cell_six_new (w : World) (t : Tok) (T : TypeId) : ∀ j u, (tcells t)[j]? = some u → (w.alloc (.cells #[.int .i64 t.kind, .string t.text, .int .i64 t.int, .bool t.whole, .bool t.sign, .bool t.id] T)).cell? ((⟨w.heap.size, 0, none⟩ : Addr).add j) = some u := by
 intro j u hj
 have hadd : (⟨w.heap.size, 0, none⟩ : Addr).add j = ⟨w.heap.size, j, none⟩ := by unfold Addr.add; split <;> simp_all
 rw [hadd]
 unfold World.cell?
 rw [heap_alloc_self]
 match j, hj with
 | 0, hj => simpa [tcells] using hj
 | 1, hj => simpa [tcells] using hj
 | 2, hj => simpa [tcells] using hj
 | 3, hj => simpa [tcells] using hj
 | 4, hj => simpa [tcells] using hj
 | 5, hj => simpa [tcells] using hj
 | j + 6, hj => simp [tcells] at hj
theorem tcells_one (t : Tok) : ∀ u ∈ tcells t, u.oneCell' = true := by
 intro u hu
 simp only [tcells, List.mem_cons, List.not_mem_nil, or_false] at hu
 rcases hu with rfl | rfl | rfl | rfl | rfl | rfl <;> rfl
def SignsOk (xs : List Int) : Prop := ∀ x ∈ xs, 0 ≤ x ∧ x ≤ 1114111
def AllOf (w : World) (l : List Tok) (e : Ending) (w' : World) : Prop := ∃ v, e = .returned v ∧ RdT w' v l ∧ Below w.heap.size w w'
theorem readS_ok (s : ByteArray) : SignsOk (readS s) := fun x hx => by
 have := (valid_iff x).1 (readS_good s x hx).1
 omega
theorem rd_bytes (w : World) (s : ByteArray) : Rd .u8 (w.drew.alloc (.cells (bytesRow s (grownCap w s.size 0 5)) 5 ((bytesRow s (grownCap w s.size 0 5)).size, (bytesRow s (grownCap w s.size 0 5)).size + 1))) (.slice (some ⟨w.heap.size, 0, none⟩) s.size (grownCap w s.size 0 5)) (nums s) := by
 have hle : s.size ≤ grownCap w s.size 0 5 := grownCap_ge w s.size 0 5
 have ho := OwnB.made w s (grownCap w s.size 0 5) 5 hle (nth (nums s)) (fun j _ => rfl)
 have hl := nums_length s
 rw [← hl] at ho
 rw [← hl] at hle ⊢
 exact ho.rd (cap := _) hle (fun j _ => rfl)
theorem AllOf.since {w0 w w' : World} {l : List Tok} {e : Ending} (h : AllOf w l e w') (hb : Below w0.heap.size w0 w) : AllOf w0 l e w' := by
 obtain ⟨v, he, hr, hb2⟩ := h
 exact ⟨v, he, hr, below_seq hb hb2⟩
theorem encB_ascii {x : Int} (h : 0 ≤ x ∧ x < 128) : encB x = [UInt8.ofNat x.toNat] := by
 have hv : Utf8.valid x = true := (valid_iff x).2 (by omega)
 have hc : x.toNat < 128 := by omega
 unfold encB Utf8.encode
 simp [hv, hc]
theorem runes_ascii (l : List Int) (h : ∀ x ∈ l, 0 ≤ x ∧ x < 128) : runesBytes l = strOfNums l := by
 have h1 : (runesBytes l).data.toList = (strOfNums l).data.toList := by
  rw [runesBytes_list, strOfNums_data]
  induction l with
  | nil => rfl
  | cons a l ih =>
   rw [List.flatMap_cons, List.map_cons, encB_ascii (h a (by simp)), ih (fun x hx => h x (List.mem_cons_of_mem _ hx))]
   rfl
 exact ByteArray.ext (Array.ext' h1)
theorem runes_nums (s : ByteArray) (h : ∀ x ∈ nums s, 0 ≤ x ∧ x < 128) : runesBytes (nums s) = s := by rw [runes_ascii _ h, str_nums]
theorem ascii_read (t : ByteArray) (h : ∀ x ∈ nums t, 1 ≤ x ∧ x < 128 ∧ x ≠ 12 ∧ x ≠ 13) : readS t = nums t := by
 have h1 : runesBytes (nums t) = t := runes_nums t (fun x hx => by have := h x hx; omega)
 have h2 := read_back (nums t) (fun x hx => by have := h x hx; exact ⟨(valid_iff x).2 (by omega), by omega, by omega, by omega⟩)
 rw [h1] at h2
 rw [h2]
 cases hn : nums t with
 | nil => rfl
 | cons a l =>
  have := h a (by rw [hn]; simp)
  show (if a = 65279 then l else a :: l) = _
  rw [if_neg (by omega)]
theorem nums_append (a b : ByteArray) : nums (a ++ b) = nums a ++ nums b := by
 unfold nums
 rw [ByteArray.data_append]
 simp
theorem nm_names : ∀ (l r : List Int), (∀ x ∈ l, sName x = true) → sName (ah r 0) = false → esc r 0 = false → nm (l ++ r) = (l, r)
  | [], r, _, h1, h2 => nm_else h1 h2
  | a :: l, r, h, h1, h2 => by
   have hn : sName (ah (a :: l ++ r) 0) = true := h a (by simp)
   rw [nm_name hn]
   have hd : dp 1 (a :: l ++ r) = l ++ r := rfl
   rw [hd, nm_names l r (fun x hx => h x (List.mem_cons_of_mem _ hx)) h1 h2]
   rfl
theorem toks_cons {r : List Int} (h : pre [47, 42] r = false) (hl : 1 ≤ r.length) : toks r = (tokT r).1 :: toks (tokT r).2 := by
 rw [toks_eq, cm_no h]
 unfold toksC
 rw [if_neg (by
  have : r ≠ [] := by intro e; rw [e] at hl; simp at hl
  simpa using this)]
theorem pre_ah3 {a b c : Int} {r : List Int} (h : ah r 0 ≠ a) (ha : a ≠ -1) (hb : b ≠ -1) (hc : c ≠ -1) : pre [a, b, c] r = false := by
 by_cases hp : pre [a, b, c] r = true
 · exfalso
   have := (pre_iff [a, b, c] r (by intro x hx; simp at hx; rcases hx with rfl | rfl | rfl; exact ha; exact hb; exact hc)).1 hp 0 (by simp)
   exact h (by simpa [nth] using this)
 · simpa using hp
theorem cells_at : ∀ (l : List Tok) (k j : Nat) (h : k < l.length) (u : Value), (tcells l[k])[j]? = some u → (l.flatMap tcells)[k * 6 + j]? = some u
  | t :: l, 0, j, _, u, hu => by
   have hu2 : (tcells t)[j]? = some u := hu
   rw [List.flatMap_cons, Nat.zero_mul, Nat.zero_add, List.getElem?_append_left (List.getElem?_eq_some_iff.1 hu2).1]
   exact hu2
  | t :: l, k + 1, j, h, u, hu => by
   rw [List.flatMap_cons, show (k + 1) * 6 + j = 6 + (k * 6 + j) by omega, List.getElem?_append_right (by rw [tcells_len]; omega), tcells_len, Nat.add_sub_cancel_left]
   exact cells_at l k j (by simpa using h) u hu
def CellsAt (w : World) (b k : Nat) (t : Tok) : Prop :=
 w.cell? ⟨b, k * 6, none⟩ = some (.int .i64 t.kind) ∧ w.cell? ⟨b, k * 6 + 1, none⟩ = some (.string t.text) ∧ w.cell? ⟨b, k * 6 + 2, none⟩ = some (.int .i64 t.int) ∧
 w.cell? ⟨b, k * 6 + 3, none⟩ = some (.bool t.whole) ∧ w.cell? ⟨b, k * 6 + 4, none⟩ = some (.bool t.sign) ∧ w.cell? ⟨b, k * 6 + 5, none⟩ = some (.bool t.id)
theorem cellsAt_of {w : World} {b : Nat} {l : List Tok} (hc : ∀ j u, (l.flatMap tcells)[j]? = some u → w.cell? ⟨b, j, none⟩ = some u) {k : Nat} (h : k < l.length) : CellsAt w b k l[k] :=
 ⟨hc _ _ (cells_at l k 0 h _ rfl), hc _ _ (cells_at l k 1 h _ rfl), hc _ _ (cells_at l k 2 h _ rfl), hc _ _ (cells_at l k 3 h _ rfl), hc _ _ (cells_at l k 4 h _ rfl), hc _ _ (cells_at l k 5 h _ rfl)⟩
theorem round_any (k n m : Int) (w : World) (hn : 0 < n) (hn2 : n ≤ 1000) (hm : k % n = m) :
    Calls Tryz.prog 6 #[.int .i64 k, .int .i64 n] w fun e w' => e = .returned (.int .i64 m) ∧ w = w' := by
  have hne : ¬ n = 0 := by omega
  have hne2 : (n == 0) = false := by simp [hne]
  have ht : -1000 < k.tmod n ∧ k.tmod n < 1000 := by
   have h1 := Int.tmod_lt_of_pos k hn
   have h2 := Int.tmod_lt_of_pos (-k) hn
   rw [Int.neg_tmod] at h2
   omega
  have hr : (k.tmod n + n).tmod n = m := by
   have h1 := Int.tmod_lt_of_pos k hn
   have h2 := Int.tmod_lt_of_pos (-k) hn
   rw [Int.neg_tmod] at h2
   rw [Int.tmod_eq_emod_of_nonneg (by omega), ← hm, Int.add_emod_right]
   rcases Int.le_total 0 k with h | h
   · rw [Int.tmod_eq_emod_of_nonneg h, Int.emod_emod_of_dvd k (Int.dvd_refl n)]
   · have h3 := Int.tmod_add_mul_tdiv k n
     conv => rhs; rw [← h3]
     rw [Int.add_mul_emod_self_left]
  obtain ⟨ht1, ht2⟩ := ht
  have HR := Lib.hid hr
  have HM := Lib.hid hm
  clear hr hm
  go_enter Tryz.func6, Tryz.ntmps6
  go_wp2
  go_ret
  exact ⟨ret_int HR.out, rfl⟩
end Go.Proofs.YtclicjiakkcfcaaGreatDoor
