
import Derived.Test.YtlajkfnlkkgneaaTcA
import Derived.Test.YtlajkfnlkkgneaaTjH
import Derived.Deep.Strs
namespace Go.Proofs.Ytlajkfnlkkgneaa
open Go.RowKit
/-- A slice of strings that came in. -/
def RdB (w : World) (v : Value) (ws : List ByteArray) : Prop :=
  ∃ (a : Option Addr) (c : Nat), v = .slice a ws.length c ∧ ws.length ≤ c ∧ (0 < ws.length → ∃ b off, a = some ⟨b, off, none⟩ ∧ b < w.heap.size ∧ ∀ j s, ws[j]? = some s → w.cell? ⟨b, off + j, none⟩ = some (.string s))
def NoCE (s : ByteArray) (k : Nat) : Prop := ∀ i, i < k → i + 1 < s.size → ¬ ((s.get! i).toNat = 42 ∧ (s.get! (i + 1)).toNat = 47)
theorem get_in (s : ByteArray) (i : Nat) (h : i < s.size) : (s.get! i).toNat = (s[i]'h).toNat := by
  show (s.data[i]!).toNat = (s.data[i]'h).toNat
  rw [getElem!_pos s.data i h]
theorem low_of {x : ByteArray} (h : 1 ≤ x.size) (hb : ∀ j, (hj : j < x.size) → 97 ≤ ((x[j]'hj).toNat : Int) ∧ ((x[j]'hj).toNat : Int) ≤ 122) : Low x := by
  refine ⟨h, fun y hy => ?_⟩
  obtain ⟨j, hj, rfl⟩ := mem_nth hy
  rw [nums_length] at hj
  rw [nums_at x j hj]
  exact hb j hj
theorem tx_size (inner : ByteArray) : ∀ (ws : List ByteArray) (s : ByteArray), (∀ x ∈ ws, x.size ≤ 20) → (ws.foldl (fun s w => s ++ w ++ cmtB inner) s).size ≤ s.size + ws.length * (inner.size + 24)
  | [], s, _ => by simp
  | x :: ws, s, h => by
    have := tx_size inner ws (s ++ x ++ cmtB inner) (fun y hy => h y (by simp [hy]))
    have h1 := h x (by simp)
    rw [app_size, app_size, cmt_size] at this
    rw [List.foldl_cons, List.length_cons, Nat.succ_mul]
    omega
/-- The second loop: i words are laid. -/
structure CmI (inner : ByteArray) (ws : List ByteArray) (i : Nat) (t : ByteArray) (w : World) (wv : Value) (wr : World) : Prop where
  text : t = txB inner (ws.take i)
  low : ∀ x ∈ ws.take i, Low x ∧ x.size ≤ 20
  row : TokL w.heap.size wr wv ((ws.take i).map wordT)
  below : Below w.heap.size w wr
theorem CmI.size {inner : ByteArray} {ws : List ByteArray} {i : Nat} {t : ByteArray} {w wr : World} {wv : Value} (h : CmI inner ws i t w wv wr) (h2 : inner.size ≤ 100) (h1 : ws.length ≤ 20) : t.size ≤ 2584 := by
  have := tx_size inner (ws.take i) (cmtB inner) (fun x hx => (h.low x hx).2)
  rw [cmt_size] at this
  have hl : (ws.take i).length ≤ 20 := by rw [List.length_take]; omega
  have hm : (ws.take i).length * (inner.size + 24) ≤ 20 * 124 := Nat.mul_le_mul hl (by omega)
  rw [h.text]
  show ((ws.take i).foldl (fun s w => s ++ w ++ cmtB inner) (cmtB inner)).size ≤ _
  omega
theorem CmI.step {inner : ByteArray} {ws : List ByteArray} {i : Nat} {t : ByteArray} {w wr w4 : World} {wv v' : Value} {x : ByteArray} {o : Obj} {L : List Tok} (h : CmI inner ws i t w wv wr) (hL : (ws.take i).map wordT = L) (hx : ws[i]? = some x) (hlow : Low x) (hz : x.size ≤ 20)
    (hws : w.heap.size ≤ wr.heap.size) (ho4 : w4.ownsRow w.heap.size 26 6 v' (L.length + 1) (L.flatMap tcells ++ tcells (wordT x))) (hg4 : (wr.alloc o).grownBy w4 wv.ownBlock) :
    CmI inner ws (i + 1) (t ++ x ++ (opB ++ inner ++ clB)) w v' w4 := by
  have e : ws.take (i + 1) = ws.take i ++ [x] := by rw [List.take_add_one, hx]; rfl
  refine ⟨by rw [e, txB_snoc, ← h.text]; rfl, fun y hy => ?_, ?_, ?_⟩
  · rw [e, List.mem_append] at hy
    rcases hy with hy | hy
    · exact h.low y hy
    · obtain rfl := List.mem_singleton.1 hy
      exact ⟨hlow, hz⟩
  · rw [e, List.map_append, hL]
    exact TokL.more (m := [wordT x]) (by simpa using ho4)
  · exact (h.below.alloc hws _).trans (grown_below (B := w.heap.size) hg4 (fun k hk => h.row.row k hk) (by simp; omega))
theorem CmI.toks1 {inner : ByteArray} {ws : List ByteArray} {i : Nat} {t : ByteArray} {w wr : World} {wv : Value} (h : CmI inner ws i t w wv wr) (_hN : ws.length = i) (hok : okC (rdR inner) = true) : toks (readS t) = (ws.take i).map wordT := by
  rw [h.text]
  exact txs_words hok _ (fun x hx => (h.low x hx).1)
theorem CmI.toks2 {inner : ByteArray} {ws : List ByteArray} {i : Nat} {t : ByteArray} {w wr : World} {wv : Value} (h : CmI inner ws i t w wv wr) (_hN : ws.length = i) (hok : okC (rdR inner) = true) : toks (readS (t ++ ⟨#[47, 42]⟩ ++ inner ++ ⟨#[32, 120]⟩)) = (ws.take i).map wordT := by
  rw [h.text]
  exact txs_open hok _ (fun x hx => (h.low x hx).1)
set_option maxRecDepth 100000 in
set_option maxHeartbeats 3200000 in
theorem cmt_main (w : World) (ws : List ByteArray) (v : Value) (hv : RdB w v ws) (inner : ByteArray) (h1 : ws.length ≤ 20) (h2 : inner.size ≤ 100) :
    Calls Try.prog 3 #[v, .string inner] w fun e w' => e = .returned (.bool true) ∧ Below w.heap.size w w' := by
  obtain ⟨a, c, rfl, hle, hcell⟩ := hv
  generalize hN : ws.length = N at *
  obtain ⟨i0, hi, hz0, hz1, hz2⟩ := info_parts info_tok
  have n1 : ¬ (20 : Int) < (N : Int) := by omega
  have n2 : ¬ (100 : Int) < (inner.size : Int) := by omega
  go_enter Try.func3, Try.ntmps3
  go_wp2
  go_loop [5] (fun iv => ∃ k : Nat, k ≤ inner.size ∧ iv = .int .i64 k ∧ NoCE inner k) (fun iv => inner.size - (intOf iv).toNat)
  case atStart => exact ⟨0, Nat.zero_le _, rfl, fun i hi => absurd hi (Nat.not_lt_zero _)⟩
  case round =>
    obtain ⟨k, hk, rfl, hno⟩ := hrel
    have HNO := Lib.hid hno
    clear hno
    by_cases hlt : k + 1 < inner.size
    · have hlt0 : k < inner.size := by omega
      have hltI : (k : Int) + 1 < (inner.size : Int) := by omega
      by_cases c1 : ((inner[k]'hlt0).toNat : Int) = 42
      · have c1b : (((inner[k]'hlt0).toNat : Int) == 42) = true := by simpa using c1
        by_cases c2 : ((inner[k + 1]'hlt).toNat : Int) = 47
        · have c2b : (((inner[k + 1]'hlt).toNat : Int) == 47) = true := by simpa using c2
          clear c1 c2
          go_wp2_with (go_at_call 4; (with_reducible refine (awake_any _).mono ?_); rintro e w9 ⟨rfl, hb9⟩)
          go_ret
          exact ⟨rfl, hb9⟩
        · have c2b : (((inner[k + 1]'hlt).toNat : Int) == 47) = false := by simpa using c2
          have HX := Lib.hid (show NoCE inner (k + 1) from fun i hi h => by
            by_cases e : i = k
            · subst e
              rw [get_in _ _ h]
              exact fun hh => c2 (by rw [hh.2]; rfl)
            · exact HNO.out i (by omega) h)
          clear c1 c2
          go_wp2
          go_round
          case rel => exact ⟨k + 1, by omega, by go_num, HX.out⟩
          case measure => simp [intOf]; omega
      · have c1b : (((inner[k]'hlt0).toNat : Int) == 42) = false := by simpa using c1
        have HX := Lib.hid (show NoCE inner (k + 1) from fun i hi h => by
            by_cases e : i = k
            · subst e
              rw [get_in _ _ hlt0]
              exact fun hh => c1 (by rw [hh.1]; rfl)
            · exact HNO.out i (by omega) h)
        clear c1
        go_wp2
        go_round
        case rel => exact ⟨k + 1, by omega, by go_num, HX.out⟩
        case measure => simp [intOf]; omega
    · have hltI : ¬ (k : Int) + 1 < (inner.size : Int) := by omega
      have HA := Lib.hid (show NoCE inner inner.size from fun i hi h => HNO.out i (by omega) h)
      clear HNO
      by_cases hz : inner.size = 0
      · have hzI : (inner.size : Int) = 0 := by omega
        have HOK := Lib.hid (show okC (rdR inner) = true from okC_of inner (fun i hi => HA.out i (by omega) hi) (fun h => absurd h (by omega)))
        clear HA
        go_wp2
        go_loopw [7, 8, 9] (fun tv wv iv wr => ∃ (i : Nat) (t : ByteArray), i ≤ N ∧ iv = .int .i64 i ∧ tv = .string t ∧ CmI inner ws i t w wv wr) (fun _ _ iv _ => N - (intOf iv).toNat)
        case atStart => exact ⟨0, _, Nat.zero_le _, rfl, rfl, ⟨rfl, fun x hx => by simp at hx, TokL.nil _ _, Below.refl _ _⟩⟩
        case round =>
          obtain ⟨i, t, hi5, rfl, rfl, hI⟩ := hrel
          have HI := Lib.hid hI
          have htz : t.size ≤ 3000 := by
            have h1 := hI.size h2 (by omega)
            omega
          clear hI
          by_cases hlt2 : i < N
          · obtain ⟨b, off, rfl, hbl, hc⟩ := hcell (by omega)
            obtain ⟨x, hx⟩ : ∃ x, ws[i]? = some x := ⟨ws[i]'(by omega), List.getElem?_eq_getElem (by omega)⟩
            have e1 : wr.cell? ⟨b, off + i, none⟩ = some (.string x) := by rw [HI.out.below.cell (p := ⟨b, off + i, none⟩) hbl]; exact hc i x hx
            have HXI := Lib.hid hx
            have i1 : (0 : Int) ≤ (i : Int) := by omega
            have hws := HI.out.below.size
            have hltJ : (i : Int) < (N : Int) := by omega
            clear hc hcell hx
            by_cases s1 : (x.size : Int) < 1
            · go_wp2_with (go_at_call 4; (with_reducible refine (awake_any _).mono ?_); rintro e w9 ⟨rfl, hb9⟩)
              go_ret
              exact ⟨rfl, below_seq HI.out.below hb9⟩
            by_cases s2 : (20 : Int) < (x.size : Int)
            · go_wp2_with (go_at_call 4; (with_reducible refine (awake_any _).mono ?_); rintro e w9 ⟨rfl, hb9⟩)
              go_ret
              exact ⟨rfl, below_seq HI.out.below hb9⟩
            go_wp2
            go_loop [11] (fun kv => ∃ m : Nat, kv = .int .i64 m ∧ m ≤ x.size ∧ ∀ j, (hj : j < x.size) → j < m → 97 ≤ ((x[j]'hj).toNat : Int) ∧ ((x[j]'hj).toNat : Int) ≤ 122) (fun kv => x.size - (intOf kv).toNat)
            case atStart => exact ⟨0, rfl, Nat.zero_le _, fun j hj h => absurd h (Nat.not_lt_zero _)⟩
            case round =>
              obtain ⟨m, rfl, hm, hall⟩ := hrel
              have HALL := Lib.hid hall
              clear hall
              by_cases hlt3 : m < x.size
              · have hltM : (m : Int) < (x.size : Int) := by omega
                have hby : ((x[m]'hlt3).toNat : Int) ≤ 255 := by have := (x[m]'hlt3).toNat_lt; omega
                by_cases d1 : ((x[m]'hlt3).toNat : Int) < 97
                · go_wp2_with (go_at_call 4; (with_reducible refine (awake_any _).mono ?_); rintro e w9 ⟨rfl, hb9⟩)
                  go_ret
                  exact ⟨rfl, below_seq HI.out.below hb9⟩
                by_cases d2 : (122 : Int) < ((x[m]'hlt3).toNat : Int)
                · go_wp2_with (go_at_call 4; (with_reducible refine (awake_any _).mono ?_); rintro e w9 ⟨rfl, hb9⟩)
                  go_ret
                  exact ⟨rfl, below_seq HI.out.below hb9⟩
                have HX := Lib.hid (show ∀ j, (hj : j < x.size) → j < m + 1 → 97 ≤ ((x[j]'hj).toNat : Int) ∧ ((x[j]'hj).toNat : Int) ≤ 122 from fun j hj h => by
                  by_cases e : j = m
                  · subst e; omega
                  · exact HALL.out j hj (by omega))
                go_wp2
                go_round
                case rel => exact ⟨m + 1, by go_num, by omega, HX.out⟩
                case measure => simp [intOf]; omega
              · have hltM : ¬ (m : Int) < (x.size : Int) := by omega
                have HLOW := Lib.hid (show Low x from low_of (by omega) (fun j hj => HALL.out j hj (by omega)))
                clear HALL
                have hxz : x.size ≤ 20 := by omega
                have z1 : ¬ 9223372036854775807 < t.size + x.size := by omega
                have z2 : ¬ 9223372036854775807 < t.size + x.size + (2 + inner.size + 2) := by omega
                have ho := HI.out.row
                have hll : ((ws.take i).map wordT).length = i := by rw [List.length_map, List.length_take]; omega
                generalize hLL : (ws.take i).map wordT = L at *
                go_wp2_with (at_builtin; refine wpList_append_own _ rfl _ _ 24 rfl w.heap.size 26 i0 (.agg #[.int .i64 0, .string ⟨#[]⟩, .int .i64 0, .bool false, .bool false, .bool false]) 6 40 Try.underlying24 hi hz0 hz1 hz2 rfl (by decide) _ _ _ rfl (ho.alloc _) ⟨_, 0, none⟩ 1 1 (tcells (wordT x)) rfl rfl (cell_six_new _ (wordT x) _) (tcells_one _) (by unfold maxLen; omega) (by omega) (by simp; omega) ?_; intro v' w4 ho4 hg4 _)
                go_roundw
                case rel => exact ⟨i + 1, _, by omega, by go_num, rfl, HI.out.step hLL HXI.out HLOW.out hxz hws ho4 hg4⟩
                case measure => simp [intOf]; omega
          · have hiN : i = N := by omega
            subst hiN
            have hltJ : ¬ (i : Int) < (i : Int) := by omega
            have hwsz := HI.out.below.size
            have HT1 := Lib.hid (HI.out.toks1 hN HOK.out)
            have HT2 := Lib.hid (HI.out.toks2 hN HOK.out)
            have z1 : ¬ 9223372036854775807 < t.size + 2 := by omega
            have z2 : ¬ 9223372036854775807 < t.size + 2 + inner.size := by omega
            have z3 : ¬ 9223372036854775807 < t.size + 2 + inner.size + 2 := by omega
            have HO := Lib.hid HI.out.row
            have hll : ((ws.take i).map wordT).length = i := by rw [List.length_map, List.length_take]; omega
            have HB := Lib.hid HI.out.below
            clear HI hcell
            generalize (ws.take i).map wordT = L at *
            go_wp2_with fail
            refine (allT_any _ _ (by omega)).mono ?_
            rintro e w1 ⟨v1, rfl, hr1, hb1⟩
            rw [HT1.out] at hr1
            have ho1 := (HO.out.below hb1).rd
            go_wp2_with fail
            refine (tokens_same _ _ _ _ hr1 ho1 (by omega)).mono ?_
            rintro e w2 ⟨rfl, n2', rfl⟩
            have hb2 := below_drewNj w1 n2'
            go_wp2_with fail
            refine (allT_any _ _ (by simp only [ByteArray.size_append]; show t.size + 2 + inner.size + 2 ≤ _; omega)).mono ?_
            rintro e w3 ⟨v3, rfl, hr3, hb3⟩
            rw [HT2.out] at hr3
            have hB3 := below_seq (below_seq (below_seq HB.out hb1) hb2) hb3
            have ho3 := (((HO.out.below hb1).below hb2).below hb3).rd
            go_wp2_with fail
            refine (tokens_same _ _ _ _ hr3 ho3 (by omega)).mono ?_
            rintro e w5 ⟨rfl, n5, rfl⟩
            have hB5 := below_seq hB3 (below_drewNj w3 n5)
            go_wp2_with (go_at_call 4; (with_reducible refine (awake_any _).mono ?_); rintro e w9 ⟨rfl, hb9⟩)
            go_ret
            exact ⟨rfl, below_seq hB5 hb9⟩
      · have hzI : (0 : Int) < (inner.size : Int) := by omega
        have hl0 : inner.size - 1 < inner.size := by omega
        by_cases c3 : ((inner[inner.size - 1]'hl0).toNat : Int) = 42
        · have c3b : (((inner[inner.size - 1]'hl0).toNat : Int) == 42) = true := by simpa using c3
          clear c3
          go_wp2_with (go_at_call 4; (with_reducible refine (awake_any _).mono ?_); rintro e w9 ⟨rfl, hb9⟩)
          go_ret
          exact ⟨rfl, hb9⟩
        · have c3b : (((inner[inner.size - 1]'hl0).toNat : Int) == 42) = false := by simpa using c3
          have HOK := Lib.hid (show okC (rdR inner) = true from okC_of inner (fun i hi => HA.out i (by omega) hi) (fun h => by rw [get_in _ _ hl0]; exact fun hh => c3 (by rw [hh]; rfl)))
          clear HA c3
          go_wp2
          go_loopw [7, 8, 9] (fun tv wv iv wr => ∃ (i : Nat) (t : ByteArray), i ≤ N ∧ iv = .int .i64 i ∧ tv = .string t ∧ CmI inner ws i t w wv wr) (fun _ _ iv _ => N - (intOf iv).toNat)
          case atStart => exact ⟨0, _, Nat.zero_le _, rfl, rfl, ⟨rfl, fun x hx => by simp at hx, TokL.nil _ _, Below.refl _ _⟩⟩
          case round =>
            obtain ⟨i, t, hi5, rfl, rfl, hI⟩ := hrel
            have HI := Lib.hid hI
            have htz : t.size ≤ 3000 := by
              have h1 := hI.size h2 (by omega)
              omega
            clear hI
            by_cases hlt2 : i < N
            · obtain ⟨b, off, rfl, hbl, hc⟩ := hcell (by omega)
              obtain ⟨x, hx⟩ : ∃ x, ws[i]? = some x := ⟨ws[i]'(by omega), List.getElem?_eq_getElem (by omega)⟩
              have e1 : wr.cell? ⟨b, off + i, none⟩ = some (.string x) := by rw [HI.out.below.cell (p := ⟨b, off + i, none⟩) hbl]; exact hc i x hx
              have HXI := Lib.hid hx
              have i1 : (0 : Int) ≤ (i : Int) := by omega
              have hws := HI.out.below.size
              have hltJ : (i : Int) < (N : Int) := by omega
              clear hc hcell hx
              by_cases s1 : (x.size : Int) < 1
              · go_wp2_with (go_at_call 4; (with_reducible refine (awake_any _).mono ?_); rintro e w9 ⟨rfl, hb9⟩)
                go_ret
                exact ⟨rfl, below_seq HI.out.below hb9⟩
              by_cases s2 : (20 : Int) < (x.size : Int)
              · go_wp2_with (go_at_call 4; (with_reducible refine (awake_any _).mono ?_); rintro e w9 ⟨rfl, hb9⟩)
                go_ret
                exact ⟨rfl, below_seq HI.out.below hb9⟩
              go_wp2
              go_loop [11] (fun kv => ∃ m : Nat, kv = .int .i64 m ∧ m ≤ x.size ∧ ∀ j, (hj : j < x.size) → j < m → 97 ≤ ((x[j]'hj).toNat : Int) ∧ ((x[j]'hj).toNat : Int) ≤ 122) (fun kv => x.size - (intOf kv).toNat)
              case atStart => exact ⟨0, rfl, Nat.zero_le _, fun j hj h => absurd h (Nat.not_lt_zero _)⟩
              case round =>
                obtain ⟨m, rfl, hm, hall⟩ := hrel
                have HALL := Lib.hid hall
                clear hall
                by_cases hlt3 : m < x.size
                · have hltM : (m : Int) < (x.size : Int) := by omega
                  have hby : ((x[m]'hlt3).toNat : Int) ≤ 255 := by have := (x[m]'hlt3).toNat_lt; omega
                  by_cases d1 : ((x[m]'hlt3).toNat : Int) < 97
                  · go_wp2_with (go_at_call 4; (with_reducible refine (awake_any _).mono ?_); rintro e w9 ⟨rfl, hb9⟩)
                    go_ret
                    exact ⟨rfl, below_seq HI.out.below hb9⟩
                  by_cases d2 : (122 : Int) < ((x[m]'hlt3).toNat : Int)
                  · go_wp2_with (go_at_call 4; (with_reducible refine (awake_any _).mono ?_); rintro e w9 ⟨rfl, hb9⟩)
                    go_ret
                    exact ⟨rfl, below_seq HI.out.below hb9⟩
                  have HX := Lib.hid (show ∀ j, (hj : j < x.size) → j < m + 1 → 97 ≤ ((x[j]'hj).toNat : Int) ∧ ((x[j]'hj).toNat : Int) ≤ 122 from fun j hj h => by
                    by_cases e : j = m
                    · subst e; omega
                    · exact HALL.out j hj (by omega))
                  go_wp2
                  go_round
                  case rel => exact ⟨m + 1, by go_num, by omega, HX.out⟩
                  case measure => simp [intOf]; omega
                · have hltM : ¬ (m : Int) < (x.size : Int) := by omega
                  have HLOW := Lib.hid (show Low x from low_of (by omega) (fun j hj => HALL.out j hj (by omega)))
                  clear HALL
                  have hxz : x.size ≤ 20 := by omega
                  have z1 : ¬ 9223372036854775807 < t.size + x.size := by omega
                  have z2 : ¬ 9223372036854775807 < t.size + x.size + (2 + inner.size + 2) := by omega
                  have ho := HI.out.row
                  have hll : ((ws.take i).map wordT).length = i := by rw [List.length_map, List.length_take]; omega
                  generalize hLL : (ws.take i).map wordT = L at *
                  go_wp2_with (at_builtin; refine wpList_append_own _ rfl _ _ 24 rfl w.heap.size 26 i0 (.agg #[.int .i64 0, .string ⟨#[]⟩, .int .i64 0, .bool false, .bool false, .bool false]) 6 40 Try.underlying24 hi hz0 hz1 hz2 rfl (by decide) _ _ _ rfl (ho.alloc _) ⟨_, 0, none⟩ 1 1 (tcells (wordT x)) rfl rfl (cell_six_new _ (wordT x) _) (tcells_one _) (by unfold maxLen; omega) (by omega) (by simp; omega) ?_; intro v' w4 ho4 hg4 _)
                  go_roundw
                  case rel => exact ⟨i + 1, _, by omega, by go_num, rfl, HI.out.step hLL HXI.out HLOW.out hxz hws ho4 hg4⟩
                  case measure => simp [intOf]; omega
            · have hiN : i = N := by omega
              subst hiN
              have hltJ : ¬ (i : Int) < (i : Int) := by omega
              have hwsz := HI.out.below.size
              have HT1 := Lib.hid (HI.out.toks1 hN HOK.out)
              have HT2 := Lib.hid (HI.out.toks2 hN HOK.out)
              have z1 : ¬ 9223372036854775807 < t.size + 2 := by omega
              have z2 : ¬ 9223372036854775807 < t.size + 2 + inner.size := by omega
              have z3 : ¬ 9223372036854775807 < t.size + 2 + inner.size + 2 := by omega
              have HO := Lib.hid HI.out.row
              have hll : ((ws.take i).map wordT).length = i := by rw [List.length_map, List.length_take]; omega
              have HB := Lib.hid HI.out.below
              clear HI hcell
              generalize (ws.take i).map wordT = L at *
              go_wp2_with fail
              refine (allT_any _ _ (by omega)).mono ?_
              rintro e w1 ⟨v1, rfl, hr1, hb1⟩
              rw [HT1.out] at hr1
              have ho1 := (HO.out.below hb1).rd
              go_wp2_with fail
              refine (tokens_same _ _ _ _ hr1 ho1 (by omega)).mono ?_
              rintro e w2 ⟨rfl, n2', rfl⟩
              have hb2 := below_drewNj w1 n2'
              go_wp2_with fail
              refine (allT_any _ _ (by simp only [ByteArray.size_append]; show t.size + 2 + inner.size + 2 ≤ _; omega)).mono ?_
              rintro e w3 ⟨v3, rfl, hr3, hb3⟩
              rw [HT2.out] at hr3
              have hB3 := below_seq (below_seq (below_seq HB.out hb1) hb2) hb3
              have ho3 := (((HO.out.below hb1).below hb2).below hb3).rd
              go_wp2_with fail
              refine (tokens_same _ _ _ _ hr3 ho3 (by omega)).mono ?_
              rintro e w5 ⟨rfl, n5, rfl⟩
              have hB5 := below_seq hB3 (below_drewNj w3 n5)
              go_wp2_with (go_at_call 4; (with_reducible refine (awake_any _).mono ?_); rintro e w9 ⟨rfl, hb9⟩)
              go_ret
              exact ⟨rfl, below_seq hB5 hb9⟩
theorem cmt_many (w : World) (ws : List ByteArray) (v : Value) (hv : RdB w v ws) (inner : ByteArray) (h : 20 < ws.length) :
    Calls Try.prog 3 #[v, .string inner] w fun e w' => e = .returned (.bool true) ∧ Below w.heap.size w w' := by
  obtain ⟨a, c, rfl, hle, _⟩ := hv
  generalize ws.length = N at *
  have n1 : (20 : Int) < (N : Int) := by omega
  go_enter Try.func3, Try.ntmps3
  go_wp2_with (go_at_call 4; (with_reducible refine (awake_any _).mono ?_); rintro e w9 ⟨rfl, hb9⟩)
  go_ret
  exact ⟨rfl, hb9⟩
theorem cmt_long (w : World) (ws : List ByteArray) (v : Value) (hv : RdB w v ws) (inner : ByteArray) (h : ws.length ≤ 20) (h2 : 100 < inner.size) :
    Calls Try.prog 3 #[v, .string inner] w fun e w' => e = .returned (.bool true) ∧ Below w.heap.size w w' := by
  obtain ⟨a, c, rfl, hle, _⟩ := hv
  generalize ws.length = N at *
  have n1 : ¬ (20 : Int) < (N : Int) := by omega
  have n2 : (100 : Int) < (inner.size : Int) := by omega
  go_enter Try.func3, Try.ntmps3
  go_wp2_with (go_at_call 4; (with_reducible refine (awake_any _).mono ?_); rintro e w9 ⟨rfl, hb9⟩)
  go_ret
  exact ⟨rfl, hb9⟩
theorem TokenComments_any (w : World) (ws : List ByteArray) (v : Value) (hv : RdB w v ws) (_hl : ws.length ≤ maxLen) (inner : ByteArray) (_hi : inner.size ≤ 9223372036854775807) :
    Calls Try.prog 3 #[v, .string inner] w fun e w' => e = .returned (.bool true) ∧ Below w.heap.size w w' := by
  by_cases h1 : ws.length ≤ 20
  · by_cases h2 : inner.size ≤ 100
    · exact cmt_main w ws v hv inner h1 h2
    · exact cmt_long w ws v hv inner h1 (by omega)
  · exact cmt_many w ws v hv inner (by omega)
open Go.ChangeShapes Go.WideShapes Go.ChangeAt in
/-- A slice of strings that came in, read. -/
theorem rdb_of_trod {H : Type} {enc : TypeId × Value → H} {P : Program} {W : World} {t e : TypeId} {v : Value} {d : DataW H} {ps : List MemPlace} {r : Reach} {b0 : Nat}
    (ht : P.underlying t = some (.slice e)) (he : P.underlying e = some .string) (hc : P.cellsOf e = 1) (hval : Value.okWide P W r b0 t v)
    (h : DataW.Trod enc P W 0 (fun _ => true) true t v d ps) (hlt : ∀ x ∈ ps, x.block < W.heap.size) :
    ∃ ws : List ByteArray, RdB W v ws ∧ ws.length ≤ maxLen := by
  obtain ⟨a0, len, cap, rfl⟩ := okWide_slice ht hval
  obtain ⟨fuel, hf⟩ := h
  rcases Go.Deep.open_strs ht he hc hf with ⟨hcs, hx⟩ | ⟨a, len', cap', m, Sx, hcs, _, hl, hm, hmm, hx, hcell⟩
  · simp [Value.cells] at hcs
    obtain ⟨rfl, rfl, rfl⟩ := hcs
    exact ⟨[], ⟨none, 0, rfl, Nat.le_refl _, fun h => absurd h (by simp)⟩, by simp⟩
  · simp [Value.cells] at hcs
    obtain ⟨rfl, rfl, rfl⟩ := hcs
    simp only [Prod.mk.injEq] at hx
    obtain ⟨rfl, rfl⟩ := hx
    simp only [if_true] at hmm
    subst hmm
    refine ⟨(List.range len).map Sx, ⟨some a, m, by simp, by simpa using hl, fun hp => ?_⟩, by simp; omega⟩
    have hp0 : 0 < len := by simpa using hp
    obtain ⟨b, off, spot⟩ := a
    have hspot : spot = none := by simpa [Addr.add] using World.cell?_spot (hcell 0 (by omega)).1
    subst hspot
    refine ⟨b, off, rfl, hlt (.cell b off) (MemPlace.mem_row.2 ⟨0, by omega, by simp⟩), fun j s hj => ?_⟩
    obtain ⟨hj1, hj2⟩ := List.getElem?_eq_some_iff.1 hj
    have hjl : j < len := by simpa using hj1
    rw [List.getElem_map, List.getElem_range] at hj2
    have := (hcell j (by omega)).1
    rw [hj2] at this
    have hadd : (⟨b, off, none⟩ : Addr).add j = ⟨b, off + j, none⟩ := by unfold Addr.add; split <;> simp_all
    rwa [hadd] at this
end Go.Proofs.Ytlajkfnlkkgneaa
