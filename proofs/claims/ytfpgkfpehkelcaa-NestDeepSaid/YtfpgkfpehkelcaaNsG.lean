
import Derived.Test.YtfpgkfpehkelcaaTrK
import Derived.Test.YtfpgkfpehkelcaaNsN
import Derived.KernelRfl
namespace Go.Proofs.Ytfpgkfpehkelcaa
open Go.RowKit
set_option maxRecDepth 100000 in
set_option maxHeartbeats 800000 in
theorem all3_any (s : ByteArray) (w : World) (hs : s.size ≤ 100000000) :
    Calls Try.prog 13 #[.string s] w (AllOf w (toks (readS s))) := by
  have hcv := run_bytes_of_string (P := Try.prog) w 9 46 5 s Try.underlying9 Try.underlying46 Try.underlying5
  have hrd := rd_bytes w s
  have hb : Below w.heap.size w (w.drew.alloc (.cells (bytesRow s (grownCap w s.size 0 5)) 5 ((bytesRow s (grownCap w s.size 0 5)).size, (bytesRow s (grownCap w s.size 0 5)).size + 1))) := ((Below.refl _ w).drew).alloc (Nat.le_refl _) _
  generalize grownCap w s.size 0 5 = cap at *
  generalize w.drew.alloc (.cells (bytesRow s cap) 5 ((bytesRow s cap).size, (bytesRow s cap).size + 1)) = wb at *
  have hnl : (nums s).length ≤ 1000000000 := by rw [nums_length]; omega
  have hrl := readS_length s
  go_enter Try.func13, Try.ntmps13
  go_wp2_with fail
  refine (refread_any _ _ _ hrd hnl).mono ?_
  rintro e w2 ⟨⟨v2, rfl, hr2⟩, hb2⟩
  rw [str_nums] at hr2
  go_wp2_with fail
  refine (rtokens_any _ _ _ hr2 (by omega) (readS_ok s)).mono ?_
  rintro e w3 ⟨v3, rfl, hr3, hb3⟩
  go_wp2
  go_ret
  exact ⟨_, rfl, hr3, below_seq (below_seq hb hb2) hb3⟩
end Go.Proofs.Ytfpgkfpehkelcaa
namespace Go.Proofs.Ytfpgkfpehkelcaa
open Go.RowKit
/-! awake of law 3. -/
set_option maxRecDepth 100000 in
set_option maxHeartbeats 1600000 in
theorem same_nil {l : List Nd} {v : Value} {w : World} {P : Nat → Prop} (h : RdN w P v l) (hp : 0 < l.length) (hl : l.length ≤ 100000000) :
    Calls Try.prog 23 #[v, .slice none 0 0] w fun e w' => e = .returned (.bool false) ∧ Below w.heap.size w w' := by
  obtain ⟨a, c, rfl, _⟩ := h.shape
  obtain ⟨n, hn⟩ : ∃ n, l.length = n + 1 := ⟨l.length - 1, by omega⟩
  rw [hn]
  have hnb : n ≤ 100000000 := by omega
  clear h
  have hb := ((Below.refl w.heap.size w).alloc (Nat.le_refl _) (.cells #[.slice a (n + 1) c, .slice none 0 0] 69))
  have hW := heap_alloc_self w (.cells #[.slice a (n + 1) c, .slice none 0 0] 69)
  go_enter Try.func23, Try.ntmps23
  go_wp2
  have hs : (w.alloc (.cells #[.slice a (n + 1) c, .slice none 0 0] 69)).heap.size = w.heap.size + 1 := by simp
  generalize w.alloc (.cells #[.slice a (n + 1) c, .slice none 0 0] 69) = W at *
  have k0 : W.cell? ⟨w.heap.size, 0, none⟩ = some (.slice a (n + 1) c) := by simp [World.cell?, hW]
  have k1 : W.cell? ⟨w.heap.size, 1, none⟩ = some (.slice none 0 0) := by simp [World.cell?, hW]
  refine wp_loop_rounds 1 ?_
  rw [rounds_succ]
  have hne : ¬ (n : Int) + 1 = 0 := by omega
  have hne2 : (((n : Int) + 1) != 0) = true := by simp; omega
  go_wp2
  go_ret
  exact ⟨rfl, hb.alloc (by omega) _⟩
def aw1 : ByteArray := ⟨#[102, 40, 97, 44, 32, 98, 41, 32, 123, 99]⟩
def aw2 : ByteArray := ⟨#[91, 120, 93, 121]⟩
def aw3 : ByteArray := ⟨#[32, 97, 32]⟩
def awL : List Nd := [.mk { kind := 2, text := ⟨#[102]⟩ } [.mk { kind := 1, text := ⟨#[97]⟩ } [], .mk { kind := 18 } [], .mk { kind := 13 } [], .mk { kind := 1, text := ⟨#[98]⟩ } []], .mk { kind := 13 } [], .mk { kind := 19, text := ⟨#[123]⟩ } [.mk { kind := 1, text := ⟨#[99]⟩ } []]]
theorem aw_n1 : ndsS (toks (readS aw1)) = awL := by kernel_rfl
theorem aw_o2 : oneS [] ((toks (readS aw2)).drop 0) = (.mk { kind := 19, text := ⟨#[91]⟩ } [.mk { kind := 1, text := ⟨#[120]⟩ } []], [{ kind := 1, text := ⟨#[121]⟩ }]) := by kernel_rfl
theorem aw_l2 : (toks (readS aw2)).length = 4 := by kernel_rfl
theorem aw_n3 : ndsS (toks (readS aw3)) = [.mk { kind := 13 } [], .mk { kind := 1, text := ⟨#[97]⟩ } [], .mk { kind := 13 } []] := by kernel_rfl
theorem aw_t3 : trimS [.mk { kind := 13 } [], .mk { kind := 1, text := ⟨#[97]⟩ } [], .mk { kind := 13 } []] = [.mk { kind := 1, text := ⟨#[97]⟩ } []] := by kernel_rfl
theorem aw_d : dpL awL = 2 := by kernel_rfl
theorem aw_s : szL awL ≤ 100 := by decide +kernel
theorem aw_sp : (splS [.mk { kind := 1, text := ⟨#[97]⟩ } [], .mk { kind := 18 } [], .mk { kind := 13 } [], .mk { kind := 1, text := ⟨#[98]⟩ } []]).length = 2 := by kernel_rfl
theorem aw_f : (flL awL).length = 10 := by kernel_rfl
theorem aw_l1 : (toks (readS aw1)).length ≤ 100 := by decide +kernel
theorem aw_l3 : (toks (readS aw3)).length ≤ 100 := by decide +kernel
set_option maxRecDepth 100000 in
set_option maxHeartbeats 3200000 in
theorem awake3_any (w : World) : Calls Try.prog 10 #[] w fun e w' => e = .returned (.bool true) ∧ Below w.heap.size w w' := by
  go_enter Try.func10, Try.ntmps10
  go_wp2_with fail
  refine (all3_any aw1 w (by decide)).mono ?_
  rintro e w1 ⟨v1, rfl, hr1, hb1⟩
  go_wp2_with fail
  refine (nall_any w1 _ v1 hr1 (by have := aw_l1; omega)).mono ?_
  rintro e w2 ⟨⟨lv, rfl, hl⟩, hb2⟩
  rw [aw_n1] at hl
  have HL2 := Lib.hid hl
  obtain ⟨b, off, c, hlv, hlc, _, hbl, g1⟩ := hl.base (by decide)
  subst hlv
  obtain ⟨u0, hat0, hk0⟩ := g1 0 (by decide)
  obtain ⟨u2, hat2, hk2⟩ := g1 2 (by decide)
  obtain ⟨ka, kc, hu0, _⟩ := hk0.shape
  obtain ⟨ka2, kc2, hu2, _⟩ := hk2.shape
  subst hu0 hu2
  have c0 : w2.cell? ⟨b, off + 6, none⟩ = some (.slice ka 4 kc) := hat0.c6
  have c2 : w2.cell? ⟨b, off + 14 + 6, none⟩ = some (.slice ka2 1 kc2) := hat2.c6
  have HK0 := Lib.hid hk0
  rw [show awL.length = 3 from rfl] at *
  clear hl g1 hat0 hat2 hk0 hk2
  have hB2 := below_seq hb1 hb2
  go_wp2_with fail
  refine (all3_any aw2 w2 (by decide)).mono ?_
  rintro e w3 ⟨v3, rfl, hr3, hb3⟩
  go_wp2_with fail
  refine (one_in w3 _ v3 0 hr3 (by rw [aw_l2]; decide) (by rw [aw_l2]; decide)).mono ?_
  rintro e w4 ⟨⟨un, rfl, hun⟩, hb4⟩
  rw [aw_o2, aw_l2] at *
  simp only [Nd.tok, Nd.kids, List.length_cons, List.length_nil] at hun ⊢
  obtain ⟨na, nc, hus, _⟩ := hun.shape
  subst hus
  have hB4 := below_seq (below_seq hB2 hb3) hb4
  go_wp2_with fail
  have hN := NB.new w4 { kind := 19, text := ⟨#[91]⟩ } (.slice na 1 nc)
  have hs5 := (Below.refl w4.heap.size w4).alloc (Nat.le_refl _) (.cells #[.int .i64 19, .string ⟨#[91]⟩, .int .i64 0, .bool false, .bool false, .bool false, .slice na 1 nc] 35)
  have hbl5 : b < w4.heap.size := Nat.lt_of_lt_of_le hbl (Nat.le_trans hb3.size hb4.size)
  have hB25 := below_seq (below_seq hb3 hb4) hs5
  have hB5 := below_seq hB4 hs5
  generalize w4.alloc (.cells #[.int .i64 19, .string ⟨#[91]⟩, .int .i64 0, .bool false, .bool false, .bool false, .slice na 1 nc] 35) = W5 at *
  refine (one_out_of W5 [] (.slice none 0 0) 3 ⟨none, 0, rfl, by decide, fun h => absurd h (by decide)⟩ (by decide) (.inr (by decide))).mono ?_
  rintro e w6 ⟨rfl, hb6⟩
  have hN6 := hN.below hb6 hN.lt
  have hz := (Below.refl w6.heap.size w6).alloc (Nat.le_refl _) (.cells #[.int .i64 0, .string ⟨#[]⟩, .int .i64 0, .bool false, .bool false, .bool false, .slice none 0 0] 35)
  have hN7 := hN6.below hz hN6.lt
  have hB27 := below_seq (below_seq hB25 hb6) hz
  have hB7 := below_seq (below_seq hB5 hb6) hz
  have d0 := (hB27.cell (p := ⟨b, off + 6, none⟩) hbl).trans c0
  have d2 := (hB27.cell (p := ⟨b, off + 14 + 6, none⟩) hbl).trans c2
  have n6 := hN7.at.2.2.2.2.2.2
  have q0 : ∀ w : World, (binOp .eql 26 (.agg #[.int .i64 0, .string ⟨#[]⟩, .int .i64 0, .bool false, .bool false, .bool false]) (.agg #[.int .i64 0, .string ⟨#[]⟩, .int .i64 0, .bool false, .bool false, .bool false])).run Try.prog w = .ok (.bool true) w := fun w => tokRefl_run { kind := 0 } w
  have HL7 := Lib.hid (HL2.out.under hB27 (Nat.le_refl _))
  have HB7 := Lib.hid hB7
  have HB27 := Lib.hid hB27
  clear hN hN6 hN7 hB25 hB5 hB4 hB2 hB7 hB27 hz hb6 hs5 c0 c2 hb1 hb2 hb3 hb4 hr1 hr3 hun
  go_wp2_with fail
  generalize w6.alloc (.cells #[.int .i64 0, .string ⟨#[]⟩, .int .i64 0, .bool false, .bool false, .bool false, .slice none 0 0] 35) = W7 at *
  refine (deep_any HL7.out (by have := aw_s; omega)).mono ?_
  rintro e w8 ⟨rfl, hb8⟩
  rw [aw_d]
  have hl7 : b < W7.heap.size := Nat.lt_of_lt_of_le hbl HB27.out.size
  have e0 := (hb8.cell (p := ⟨b, off + 6, none⟩) hl7).trans d0
  have HL8 := Lib.hid (HL7.out.under hb8 (Nat.le_refl _))
  have HK8 := Lib.hid ((HK0.out.under HB27.out (Nat.le_refl _)).under hb8 (Nat.le_refl _))
  clear d0 d2 n6
  go_wp2_with fail
  refine (split_any HK8.out (by decide +kernel)).mono ?_
  rintro e w9 ⟨⟨v9, ks9, rfl, hls9, hk9⟩, hb9⟩
  obtain ⟨a9, c9, hv9, _⟩ := hls9.sl
  have hn9 : ks9.length = 2 := by
    have h1 := congrArg List.length hk9
    rw [List.length_map] at h1
    rw [h1]
    exact aw_sp
  rw [hn9] at hv9
  subst hv9
  have HL9 := Lib.hid (HL8.out.under hb9 (Nat.le_refl _))
  have HB9 := Lib.hid (below_seq (below_seq HB7.out hb8) hb9)
  clear e0 hls9 hk9 hn9 hb8 hb9
  go_wp2_with fail
  refine (all3_any aw3 w9 (by decide)).mono ?_
  rintro e w10 ⟨v10, rfl, hr10, hb10⟩
  go_wp2_with fail
  refine (nall_any w10 _ v10 hr10 (by have := aw_l3; omega)).mono ?_
  rintro e w11 ⟨⟨v11, rfl, hl11⟩, hb11⟩
  rw [aw_n3] at hl11
  go_wp2_with fail
  refine (trim_any hl11 (by decide +kernel)).mono ?_
  rintro e w12 ⟨⟨v12, rfl, hl12⟩, hb12⟩
  rw [aw_t3] at hl12
  obtain ⟨a12, c12, hv12, _⟩ := hl12.shape
  subst hv12
  have hb912 := below_seq (below_seq hb10 hb11) hb12
  have HL12 := Lib.hid (HL9.out.under hb912 (Nat.le_refl _))
  have HB12 := Lib.hid (below_seq HB9.out hb912)
  clear hr10 hl11 hl12 hb912 hb10 hb11 hb12
  go_wp2_with fail
  refine (flat_any HL12.out (by have := aw_s; omega)).mono ?_
  rintro e w13 ⟨⟨v13, rfl, hr13⟩, hb13⟩
  obtain ⟨a13, c13, hv13, _, _⟩ := hr13
  rw [aw_f] at hv13
  subst hv13
  have HL13 := Lib.hid (HL12.out.under hb13 (Nat.le_refl _))
  go_wp2_with fail
  refine (same_any HL13.out HL13.out (by have := aw_s; omega)).mono ?_
  rintro e w14 ⟨rfl, hb14⟩
  go_wp2_with fail
  refine (same_nil (HL13.out.under hb14 (Nat.le_refl _)) (by decide) (by decide)).mono ?_
  rintro e w15 ⟨rfl, hb15⟩
  go_wp2
  go_ret
  exact ⟨rfl, below_seq (below_seq (below_seq HB12.out hb13) hb14) hb15⟩
end Go.Proofs.Ytfpgkfpehkelcaa
