import Derived.Test.YtclicjiakkcfcaaGreatDoorTkD
import Derived.Lib.Strings
import Derived.StillTailTactics
import Derived.Deep.RegionHeld3
set_option maxRecDepth 100000
set_option maxHeartbeats 800000
namespace Go.Proofs.YtclicjiakkcfcaaGreatDoor
open Go.RowKit
structure TxtInv (f : List Int → Bool × List Int × List Int) (X : Bool × List Int × List Int) (n : Nat) (out q : List Int) : Prop where
  one : (f q).1 = X.1
  two : out ++ (f q).2.1 = X.2.1
  three : (f q).2.2 = X.2.2
  len : out.length + q.length ≤ n
theorem TxtInv.same {f : List Int → Bool × List Int × List Int} {X : Bool × List Int × List Int} {n : Nat} {out q q' : List Int} (h : TxtInv f X n out q) (he : f q = f q') (hl : q'.length ≤ q.length) : TxtInv f X n out q' :=
 ⟨by rw [← he]; exact h.one, by rw [← he]; exact h.two, by rw [← he]; exact h.three, by have := h.len; omega⟩
theorem TxtInv.push {f : List Int → Bool × List Int × List Int} {X : Bool × List Int × List Int} {n : Nat} {out q q' : List Int} {x : Int} (h : TxtInv f X n out q) (he : f q = ((f q').1, x :: (f q').2.1, (f q').2.2)) (hl : q'.length < q.length) : TxtInv f X n (out ++ [x]) q' := by
 obtain ⟨h1, h2, h3, h4⟩ := h
 rw [he] at h1 h2 h3
 exact ⟨h1, by rw [← h2]; simp, h3, by rw [List.length_append]; simp; omega⟩
theorem TxtInv.good {f : List Int → Bool × List Int × List Int} {X : Bool × List Int × List Int} {n : Nat} {out q q' : List Int} (h : TxtInv f X n out q) (he : f q = (true, [], q')) : X = (true, out, q') := by
 obtain ⟨h1, h2, h3, h4⟩ := h
 rw [he] at h1 h2 h3
 simp at h2
 rw [h2]
 rw [show X = (X.1, X.2.1, X.2.2) from rfl, ← h1, ← h3]
theorem TxtInv.ill {f : List Int → Bool × List Int × List Int} {X : Bool × List Int × List Int} {n : Nat} {out q q' : List Int} (h : TxtInv f X n out q) (he : f q = (false, [], q')) : X = (false, out, q') := by
 obtain ⟨h1, h2, h3, h4⟩ := h
 rw [he] at h1 h2 h3
 simp at h2
 rw [h2]
 rw [show X = (X.1, X.2.1, X.2.2) from rfl, ← h1, ← h3]
theorem digV_bd (l : List Int) : 0 ≤ digV l ∧ digV l ≤ 2147483648 ∨ ¬ l.all sDigit = true := by
 by_cases h : l.all sDigit = true
 · left
   unfold digV
   suffices H : ∀ (l : List Int) (n : Int), l.all sDigit = true → 0 ≤ n ∧ n ≤ 2147483648 → 0 ≤ l.foldl (fun n x => min (n * 10 + (x - 48)) 2147483648) n ∧ l.foldl (fun n x => min (n * 10 + (x - 48)) 2147483648) n ≤ 2147483648 by
    exact H l 0 h (by omega)
   intro l
   induction l with
   | nil => intro n _ hn; exact hn
   | cons a l ih =>
    intro n hl hn
    simp only [List.all_cons, Bool.and_eq_true] at hl
    rw [List.foldl_cons]
    refine ih _ hl.2 ?_
    have := hl.1
    simp only [sDigit, decide_eq_true_eq] at this
    omega
 · exact .inr h
theorem digR_bd (l : List Int) : 0 ≤ digR l ∧ digR l ≤ 2147483648 := by
 unfold digR
 split
 · rcases digV_bd l with h | h
   · exact h
   · exact absurd ‹_› h
 · omega
theorem take_step (s : ByteArray) (pos : Nat) (h : pos < s.data.size) : (nums s).take (pos + 1) = (nums s).take pos ++ [((s.data[pos]).toNat : Int)] := by
 have hl : pos < (nums s).length := by rw [nums_length]; exact h
 rw [List.take_succ_eq_append_getElem hl]
 congr 2
 have := nums_at s pos h
 simpa [nth, List.getD_eq_getElem?_getD, List.getElem?_eq_getElem hl] using this
theorem digits_any (s : ByteArray) (w : World) (_ : s.size ≤ 1000000000) :
    Calls Tryz.prog 125 #[.string s] w fun e w' => e = .returned (.tuple #[.int .i64 (digR (nums s)), .bool (digOk (nums s))]) ∧ Below w.heap.size w w' := by
  go_enter Tryz.func125, Tryz.ntmps125
  go_wp2
  have hk0 : (w.iter s 0).heap[w.heap.size]? = some (.stringIter s 0) := World.iter_heap w _ 0
  have hb0 : Below w.heap.size w (w.iter s 0) := (Below.refl _ w).alloc (Nat.le_refl _) _
  go_loopw [4, 6] (fun nv _ wr => ∃ pos, pos ≤ s.size ∧ nv = .int .i64 (digV ((nums s).take pos)) ∧ ((nums s).take pos).all sDigit = true ∧ wr.heap[w.heap.size]? = some (.stringIter s pos) ∧ Below w.heap.size w wr) (fun _ _ wr => s.size - wr.iterPos w.heap.size)
  case atStart => exact ⟨0, Nat.zero_le _, rfl, rfl, hk0, hb0⟩
  case round =>
   obtain ⟨pos, hps, rfl, hall, hk, hb⟩ := hrel
   have HALL := Lib.hid hall
   have hbd : 0 ≤ digV ((nums s).take pos) ∧ digV ((nums s).take pos) ≤ 2147483648 := by
    rcases digV_bd ((nums s).take pos) with h | h
    · exact h
    · exact absurd hall h
   obtain ⟨hb1, hb2⟩ := hbd
   clear hk0 hb0 hall
   by_cases hp : pos < s.size
   · have hpd : pos < s.data.size := hp
     have hnx : ∀ ty, (Instr.next (.pointer (some ⟨w.heap.size, 0, none⟩)) true ty).run Tryz.prog wr = _ := fun ty => Lib.run_next_any_at wr _ _ pos ty hk hp
     have hwd := width_pos _ pos hp
     have hk1 := Lib.iterAt_heap wr w.heap.size s pos (pos + (Utf8.decode s pos).2) hk
     have hbl := Lib.below_iterAt hb (Nat.le_refl _) s (pos + (Utf8.decode s pos).2)
     have hts := take_step s pos hpd
     generalize hW : wr.iterAt w.heap.size s (pos + (Utf8.decode s pos).2) = W1 at hnx hk1 hbl
     clear hW
     by_cases hd : sDigit ((s.data[pos]).toNat : Int) = true
     · have hlo : 48 ≤ ((s.data[pos]).toNat : Int) ∧ ((s.data[pos]).toNat : Int) ≤ 57 := by simpa [sDigit] using hd
       have hdec : Utf8.decode s pos = ((s.data[pos]).toNat, 1) := decode_ascii s pos hp (by show (s.data[pos]).toNat < 128; omega)
       rw [hdec] at hnx hk1
       simp only at hnx hk1
       generalize ((s.data[pos]).toNat : Int) = x at *
       have hv : digV ((nums s).take (pos + 1)) = min (digV ((nums s).take pos) * 10 + (x - 48)) 2147483648 := by rw [hts]; simp [digV, List.foldl_append]
       have ha2 : ((nums s).take (pos + 1)).all sDigit = true := by rw [hts, List.all_append, HALL.out]; simp [hd]
       have HV := Lib.hid hv
       have HA2 := Lib.hid ha2
       obtain ⟨hlo1, hlo2⟩ := hlo
       clear hv ha2 hts hdec
       generalize digV ((nums s).take pos) = n at *
       go_wp2_with (first | (go_at_call 124; (with_reducible refine (digit_any _ _).mono ?_); rintro e w1 ⟨rfl, rfl⟩))
       go_roundw
       case rel => exact ⟨pos + 1, by omega, by rw [HV.out]; congr 1; rw [Int.min_def]; split <;> split <;> omega, HA2.out, hk1, hbl⟩
       case measure => exact meas_skip hk hk1 (Nat.le_refl _) hp
     · have hnd : sDigit ((Utf8.decode s pos).1 : Int) = false := by
        by_cases hb : (s.data[pos]).toNat < 128
        · have hdec : Utf8.decode s pos = ((s.data[pos]).toNat, 1) := decode_ascii s pos hp hb
          rw [hdec]
          simpa using hd
        · have := (decode_high s pos hp (by show 128 ≤ (s.data[pos]).toNat; omega)).1
          unfold sDigit
          simp
          omega
       have hna : (nums s).all sDigit = false := by
        rw [List.all_eq_false]
        have hl : pos < (nums s).length := by rw [nums_length]; exact hp
        refine ⟨(nums s)[pos], List.getElem_mem hl, ?_⟩
        have := nums_at s pos hpd
        rw [show (nums s)[pos] = ((s.data[pos]).toNat : Int) by simpa [nth, List.getD_eq_getElem?_getD, List.getElem?_eq_getElem hl] using this]
        exact hd
       have e1 : digR (nums s) = 0 := by unfold digR; rw [hna]; rfl
       have e2 : digOk (nums s) = false := by unfold digOk; rw [hna]; rfl
       have E1 := Lib.hid e1
       have E2 := Lib.hid e2
       generalize Utf8.decode s pos = D at *
       clear e1 e2 hna hts hd
       go_wp2_with (first | (go_at_call 124; (with_reducible refine (digit_any _ _).mono ?_); rintro e w1 ⟨rfl, rfl⟩))
       go_ret2
       rw [E1.out, E2.out]
       exact ⟨rfl, hbl⟩
   · have hnx : ∀ ty, (Instr.next (.pointer (some ⟨w.heap.size, 0, none⟩)) true ty).run Tryz.prog wr = _ := fun ty => Lib.run_next_end_at wr _ _ pos ty hk hp
     have htk : (nums s).take pos = nums s := List.take_of_length_le (by rw [nums_length]; omega)
     have hal := HALL.out
     rw [htk] at hal
     have e1 : digR (nums s) = digV ((nums s).take pos) := by unfold digR; rw [hal, htk]; rfl
     have e2 : digOk (nums s) = !(nums s).isEmpty := by unfold digOk; rw [hal]; rfl
     have E1 := Lib.hid e1
     have E2 := Lib.hid e2
     clear e1 e2 htk HALL hal
     go_wp2
     go_ret2
     rw [E1.out, E2.out]
     have e3 : s.toList.isEmpty = (nums s).isEmpty := by rw [ByteArray.toList_eq]; unfold nums; cases s.data.toList <;> rfl
     exact ⟨by rw [← e3]; rfl, hb⟩
theorem nums_from (s : ByteArray) : nums (s.extract 1 s.size) = (nums s).tail := by
 unfold nums
 rw [← List.map_tail]
 congr 1
 have : (s.extract 1 s.size).data.toList = s.data.toList.drop 1 := by
  rw [Lib.extract_data, List.take_of_length_le]
  rw [List.length_drop, Array.length_toList]
  exact Nat.le_refl _
 rw [this, List.drop_one]
theorem int_any (s : ByteArray) (w : World) (hs : s.size ≤ 1000000000) :
    Calls Tryz.prog 121 #[.string s] w fun e w' => e = .returned (.int .i64 (intV (nums s))) ∧ Below w.heap.size w w' := by
  by_cases h0 : s.size = 0
  · have hn : nums s = [] := List.eq_nil_of_length_eq_zero (by rw [nums_length]; exact h0)
    have he : s.toList.isEmpty = true := by
     rw [ByteArray.toList_eq]
     have : s.data.toList.length = 0 := by rw [Array.length_toList]; exact h0
     simpa using List.eq_nil_of_length_eq_zero this
    have e1 : intV (nums s) = 0 := by rw [hn]; decide
    have e2 : digR (nums s) = 0 := by rw [hn]; decide
    have e3 : digOk (nums s) = false := by rw [hn]; decide
    rw [e1]
    clear hn e1 h0
    go_enter Tryz.func121, Tryz.ntmps121
    go_wp2_with (go_at_call 125; refine (digits_any s _ hs).mono ?_; rintro e w1 ⟨rfl, hb1⟩)
    go_ret
    exact ⟨rfl, hb1⟩
  · have hpos : 0 < s.size := by omega
    have hposd : 0 < s.data.size := hpos
    have he : s.toList.isEmpty = false := by
     rw [ByteArray.toList_eq]
     have : s.data.toList.length ≠ 0 := by rw [Array.length_toList]; exact h0
     simp
     intro hc
     rw [hc] at this
     simp at this
    have hsz2 : (s.extract 1 s.size).size ≤ 1000000000 := by rw [ByteArray.size_extract]; omega
    have hcons : nums s = ((s.data[0]).toNat : Int) :: (nums s).tail := by
     have hl : 0 < (nums s).length := by rw [nums_length]; exact hpos
     have h1 := nums_at s 0 hposd
     cases hh : nums s with
     | nil => rw [hh] at hl; simp at hl
     | cons a t =>
      rw [hh] at h1
      simp only [nth, List.getD_cons_zero] at h1
      rw [h1]
      rfl
    have hnf := nums_from s
    have HC := Lib.hid hcons
    have HNF := Lib.hid hnf
    clear hcons hnf
    have k45 : ((s.data[0]).toNat : Int) = 45 → intV (nums s) = if digOk (nums (s.extract 1 s.size)) then - digR (nums (s.extract 1 s.size)) else 0 := by
     intro h
     rw [HNF.out]
     unfold intV
     rw [HC.out, h]
     rfl
    have k43 : ((s.data[0]).toNat : Int) = 43 → intV (nums s) = if digOk (nums (s.extract 1 s.size)) then min (digR (nums (s.extract 1 s.size))) 2147483647 else 0 := by
     intro h
     rw [HNF.out]
     unfold intV
     rw [HC.out, h]
     rfl
    have k0 : ¬ ((s.data[0]).toNat : Int) = 45 → ¬ ((s.data[0]).toNat : Int) = 43 → intV (nums s) = if digOk (nums s) then min (digR (nums s)) 2147483647 else 0 := by
     intro h1 h2
     unfold intV
     rw [if_neg (by rw [HC.out]; simpa using h1), if_neg (by rw [HC.out]; simpa using h2)]
    obtain ⟨hd1, hd2⟩ := digR_bd (nums s)
    obtain ⟨hd3, hd4⟩ := digR_bd (nums (s.extract 1 s.size))
    by_cases h45 : ((s.data[0]).toNat : Int) = 45
    · have HK := Lib.hid (k45 h45)
      have b1 : ((s[0].toNat : Int) == 43) = false := by show ((s.data[0].toNat : Int) == 43) = false; simp [h45]
      have b2 : ((s[0].toNat : Int) == 45) = true := by show ((s.data[0].toNat : Int) == 45) = true; simp [h45]
      clear k0 k43 k45 h45 hd1 hd2
      go_enter Tryz.func121, Tryz.ntmps121
      go_wp2_with (go_at_call 125; (with_reducible refine (digits_any _ _ hsz2).mono ?_); rintro e w1 ⟨rfl, hb1⟩)
      all_goals go_ret
      all_goals refine ⟨ret_int ?_, hb1⟩
      all_goals rw [HK.out]
      all_goals simp_all
    · by_cases h43 : ((s.data[0]).toNat : Int) = 43
      · have HK := Lib.hid (k43 h43)
        have b1 : ((s[0].toNat : Int) == 43) = true := by show ((s.data[0].toNat : Int) == 43) = true; simp [h43]
        have b3 : (s[0].toNat : Int) = 43 := h43
        have b2 : ((s[0].toNat : Int) == 45) = false := by show ((s.data[0].toNat : Int) == 45) = false; simp [h43]
        clear k0 k43 k45 h45 hd1 hd2 h43
        go_enter Tryz.func121, Tryz.ntmps121
        go_wp2_with (go_at_call 125; (with_reducible refine (digits_any _ _ hsz2).mono ?_); rintro e w1 ⟨rfl, hb1⟩)
        all_goals go_ret
        all_goals refine ⟨ret_int ?_, hb1⟩
        all_goals rw [HK.out]
        all_goals grind
      · have HK := Lib.hid (k0 h45 h43)
        have b1 : ((s[0].toNat : Int) == 43) = false := by show ((s.data[0].toNat : Int) == 43) = false; simp [h43]
        have b2 : ((s[0].toNat : Int) == 45) = false := by show ((s.data[0].toNat : Int) == 45) = false; simp [h45]
        clear k0 k43 k45 h45 hd3 hd4 h43
        go_enter Tryz.func121, Tryz.ntmps121
        go_wp2_with (go_at_call 125; (with_reducible refine (digits_any _ _ hs).mono ?_); rintro e w1 ⟨rfl, hb1⟩)
        all_goals go_ret
        all_goals refine ⟨ret_int ?_, hb1⟩
        all_goals rw [HK.out]
        all_goals grind
def TokB (b : Nat) (t : Tok) (w : World) : Prop := w.heap[b]? = some (.cells #[.int .i64 t.kind, .string t.text, .int .i64 t.int, .bool t.whole, .bool t.sign, .bool t.id] 94 (0, 0))
section
variable {T : TypeId} {g b : Nat} {v : Value} {xs r : List Int} {w0 w w1 : World} {t : Tok}
theorem TokB.cells (h : TokB b t w) :
    w.cell? ⟨b, 0, none⟩ = some (.int .i64 t.kind) ∧ w.cell? ⟨b, 1, none⟩ = some (.string t.text) ∧ w.cell? ⟨b, 2, none⟩ = some (.int .i64 t.int) ∧
    w.cell? ⟨b, 3, none⟩ = some (.bool t.whole) ∧ w.cell? ⟨b, 4, none⟩ = some (.bool t.sign) ∧ w.cell? ⟨b, 5, none⟩ = some (.bool t.id) ∧
    w.frozen? ⟨b, 0, none⟩ = false ∧ w.frozen? ⟨b, 1, none⟩ = false ∧ w.frozen? ⟨b, 2, none⟩ = false ∧
    w.frozen? ⟨b, 3, none⟩ = false ∧ w.frozen? ⟨b, 4, none⟩ = false ∧ w.frozen? ⟨b, 5, none⟩ = false := by
  unfold TokB at h
  refine ⟨?_, ?_, ?_, ?_, ?_, ?_, ?_, ?_, ?_, ?_, ?_, ?_⟩ <;> simp [World.cell?, World.frozen?, h]
theorem TokB.lt (h : TokB b t w) : b < w.heap.size := (Array.getElem?_eq_some_iff.1 h).1
theorem TokB.keep (h : TokB b t w0) (hn : Now T g v xs r w0 w) (hne : g < b) : TokB b t w := by
 unfold TokB at h ⊢
 rw [hn.gw.block b (TokB.lt h) (by intro e; injection e; omega)]
 exact h
theorem TokB.alloc (h : TokB b t w) (o : Obj) : TokB b t (w.alloc o) := by
 unfold TokB at h ⊢
 rw [Below.heap_alloc _ _ _ (TokB.lt h)]
 exact h
theorem TokB.other (h : TokB b t w) {p : Addr} (hp : b ≠ p.block) (u : Value) : TokB b t (w.setCell p u) := by
 unfold TokB at h ⊢
 rw [Below.heap_setCell _ _ _ _ hp]
 exact h
theorem TokB.whole (h : TokB b t w) (x : Bool) : TokB b { t with whole := x } (w.setCell ⟨b, 3, none⟩ (.bool x)) := by
 unfold TokB at h ⊢
 simp [World.setCell, Array.getElem?_modify, h]
theorem TokB.int (h : TokB b t w) (x : Int) : TokB b { t with int := x } (w.setCell ⟨b, 2, none⟩ (.int .i64 x)) := by
 unfold TokB at h ⊢
 simp [World.setCell, Array.getElem?_modify, h]
theorem TokB.zero (w : World) : TokB w.heap.size { kind := 0 } (w.alloc zeroT) := by
 unfold TokB
 exact heap_alloc_self _ _
end
theorem Now.put6 {T : TypeId} {g b : Nat} {v : Value} {xs r : List Int} {w0 w : World} (h : Now T g v xs r w0 w) (hs : w0.heap.size ≤ b) (x0 x1 x2 x3 x4 x5 : Value) :
    Now T g v xs r w0 ((((((w.setCell ⟨b, 0, none⟩ x0).setCell ⟨b, 1, none⟩ x1).setCell ⟨b, 2, none⟩ x2).setCell ⟨b, 3, none⟩ x3).setCell ⟨b, 4, none⟩ x4).setCell ⟨b, 5, none⟩ x5) :=
  (((((h.set hs x0).set hs x1).set hs x2).set hs x3).set hs x4).set hs x5
theorem frac_len {r : List Int} (h : frac r 0 = true) : 1 ≤ r.length := len_of_ah (n := 0) (by intro e; simp [frac, e] at h)
theorem expo_len (r : List Int) : expo r ≤ r.length := by
 unfold expo
 split
 · split
   · split
     · have := len_of_digit ‹sDigit (ah r 2) = true›; omega
     · omega
   · split
     · have := len_of_digit ‹sDigit (ah r 1) = true›; omega
     · omega
 · omega
end Go.Proofs.YtclicjiakkcfcaaGreatDoor
