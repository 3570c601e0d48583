/- Contracts of the number functions of package ints and of the document's own numbers: what each returns; nothing is written. Conditions: the arguments fit their kinds. -/
import Derived.Test.YtpeofopknpdpaaaRows
import Derived.Test.YtpeofopknpdpaaaPure
import Derived.WalkKit
import Derived.ProofKit
import Derived.OpenShut
import Derived.WalkLawsBesides
import Derived.Lib.Hide
import Derived.Deep.QuietTactic
import Derived.BigQuiet
namespace Go.Proofs.Ytpeofopknpdpaaa
open Go.ChangeShapes Go.WideShapes Go.ChangeAt Go.RowKit
set_option linter.unusedSimpArgs false
set_option linter.unusedVariables false

theorem ret_int {k : IntKind} {a b : Int} (h : a = b) : Ending.returned (.int k a) = .returned (.int k b) := by rw [h]

theorem zig_any (a : Int) (h0 : -9223372036854775808 ≤ a) (h1 : a ≤ 9223372036854775807) (w : World) : Calls Try.prog 11 #[.int .i64 a] w fun e w' => e = .returned (.int .u64 (Pu.zig a)) ∧ w = w' := by
  go_enter Try.func11, Try.ntmps11
  go_wp2
  go_ret
  exact ⟨ret_int (Pu.bits_zig a h0 h1), rfl⟩
theorem zag_any (a : Int) (h0 : 0 ≤ a) (h1 : a ≤ 18446744073709551615) (w : World) : Calls Try.prog 13 #[.int .u64 a] w fun e w' => e = .returned (.int .i64 (Pu.zag a)) ∧ w = w' := by
  go_enter Try.func13, Try.ntmps13
  go_wp2
  go_ret
  exact ⟨ret_int (Pu.bits_zag a h0 h1), rfl⟩

theorem rzig_any (a : Int) (h0 : -9223372036854775808 ≤ a) (h1 : a ≤ 9223372036854775807) (w : World) : Calls Try.prog 12 #[.int .i64 a] w fun e w' => e = .returned (.int .u64 (Pu.zig a)) ∧ w = w' := by
  go_enter Try.func12, Try.ntmps12
  by_cases hn : a < 0 <;> (go_wp2; go_ret; refine ⟨ret_int ?_, rfl⟩; unfold Pu.zig; simp [IntKind.wrap_u64, hn]; omega)
theorem rzag_any (a : Int) (h0 : 0 ≤ a) (h1 : a ≤ 18446744073709551615) (w : World) : Calls Try.prog 14 #[.int .u64 a] w fun e w' => e = .returned (.int .i64 (Pu.zag a)) ∧ w = w' := by
  go_enter Try.func14, Try.ntmps14
  by_cases hn : a % 2 = 1 <;> (go_wp2; go_ret; refine ⟨ret_int ?_, rfl⟩; unfold Pu.zag; simp [hn])

theorem log_step {x m v : Nat} (st st' : Nat) (hm : m + Pu.nbits x = Pu.nbits v) (hx : x < 4 ^ st) (hst : 0 < st) (hs' : st = 2 * st' ∨ (st = 1 ∧ st' = 0)) :
    (2 ^ st ≤ x → m + st + Pu.nbits (x / 2 ^ st) = Pu.nbits v ∧ x / 2 ^ st < 4 ^ st' * (if st' = 0 then 2 else 1)) ∧ (x < 2 ^ st → x < 4 ^ st' * (if st' = 0 then 2 else 1)) := by
  have h4 : 2 ^ st = 4 ^ st' * (if st' = 0 then 2 else 1) := by
    rcases hs' with rfl | ⟨rfl, rfl⟩
    · rw [if_neg (by omega), Nat.pow_mul]; simp
    · rfl
  have h5 : 4 ^ st = 2 ^ st * 2 ^ st := by rw [← Nat.mul_pow]
  constructor
  · intro hge
    rw [Pu.nbits_shift st x hge] at hm
    refine ⟨by omega, ?_⟩
    rw [← h4]
    rw [h5] at hx
    exact (Nat.div_lt_iff_lt_mul (Nat.two_pow_pos st)).2 hx
  · intro hlt
    rw [← h4]; exact hlt

theorem log_any (v : Nat) (h : v < 18446744073709551616) (w : World) : Calls Try.prog 15 #[.int .u64 v] w fun e w' => e = .returned (.int .i64 (Pu.nbits v)) ∧ w = w' := by
  have hb := Pu.nbits_le v 64 h
  go_enter Try.func15, Try.ntmps15
  go_wp2
  go_loop [0, 3, 4] (fun u n s => ∃ (x m : Nat) (st : Nat), st ∈ [32, 16, 8, 4, 2, 1, 0] ∧ u = .int .u64 x ∧ n = .int .i64 m ∧ s = .int .i64 st ∧ m + Pu.nbits x = Pu.nbits v ∧ x < 4 ^ st * (if st = 0 then 2 else 1)) (fun _ _ s => (intOf s).toNat)
  case atStart => exact ⟨v, 0, 32, by simp, rfl, rfl, rfl, by simp, by simpa using h⟩
  case round =>
    obtain ⟨x, m, st, hst, rfl, rfl, rfl, hm, hx⟩ := hrel
    simp only [List.mem_cons, List.not_mem_nil, or_false] at hst
    rcases hst with rfl | rfl | rfl | rfl | rfl | rfl | rfl
    case inr.inr.inr.inr.inr.inr =>
      have hx2 := Pu.nbits_small (n := x) (by simpa using hx)
      go_wp2
      go_ret
      exact ⟨ret_int (by omega), rfl⟩
    case inl =>
      obtain ⟨s1, s2⟩ := log_step 32 16 hm (by simpa using hx) (by omega) (by omega)
      simp only [Nat.reducePow, Nat.reduceMul, Nat.mul_one, if_neg, Nat.reduceEqDiff, reduceIte] at s1 s2
      have hm2 : m ≤ 64 := by omega
      have HM := Lib.hid hm
      clear hm hx hb
      by_cases hc : 4294967296 ≤ x
      · obtain ⟨s3, s4⟩ := s1 hc
        have S3 := Lib.hid s3
        clear s1 s2 s3
        have t1 : ((x : Int) / 4294967296 != 0) = true := by rw [bne_iff_ne]; omega
        go_wp2
        go_round
        case rel => exact ⟨x / 4294967296, m + 32, 16, by simp, by simp, by simp, by simp, S3.out, by simpa using s4⟩
        case measure => simp [intOf]
      · have s4 := s2 (by omega)
        clear s1 s2
        have t1 : ((x : Int) / 4294967296 != 0) = false := by rw [bne_eq_false_iff_eq]; omega
        go_wp2
        go_round
        case rel => exact ⟨x, m, 16, by simp, rfl, rfl, by simp, HM.out, by simpa using s4⟩
        case measure => simp [intOf]
    case inr.inl =>
      obtain ⟨s1, s2⟩ := log_step 16 8 hm (by simpa using hx) (by omega) (by omega)
      simp only [Nat.reducePow, Nat.reduceMul, Nat.mul_one, if_neg, Nat.reduceEqDiff, reduceIte] at s1 s2
      have hm2 : m ≤ 64 := by omega
      have HM := Lib.hid hm
      clear hm hx hb
      by_cases hc : 65536 ≤ x
      · obtain ⟨s3, s4⟩ := s1 hc
        have S3 := Lib.hid s3
        clear s1 s2 s3
        have t1 : ((x : Int) / 65536 != 0) = true := by rw [bne_iff_ne]; omega
        go_wp2
        go_round
        case rel => exact ⟨x / 65536, m + 16, 8, by simp, by simp, by simp, by simp, S3.out, by simpa using s4⟩
        case measure => simp [intOf]
      · have s4 := s2 (by omega)
        clear s1 s2
        have t1 : ((x : Int) / 65536 != 0) = false := by rw [bne_eq_false_iff_eq]; omega
        go_wp2
        go_round
        case rel => exact ⟨x, m, 8, by simp, rfl, rfl, by simp, HM.out, by simpa using s4⟩
        case measure => simp [intOf]
    case inr.inr.inl =>
      obtain ⟨s1, s2⟩ := log_step 8 4 hm (by simpa using hx) (by omega) (by omega)
      simp only [Nat.reducePow, Nat.reduceMul, Nat.mul_one, if_neg, Nat.reduceEqDiff, reduceIte] at s1 s2
      have hm2 : m ≤ 64 := by omega
      have HM := Lib.hid hm
      clear hm hx hb
      by_cases hc : 256 ≤ x
      · obtain ⟨s3, s4⟩ := s1 hc
        have S3 := Lib.hid s3
        clear s1 s2 s3
        have t1 : ((x : Int) / 256 != 0) = true := by rw [bne_iff_ne]; omega
        go_wp2
        go_round
        case rel => exact ⟨x / 256, m + 8, 4, by simp, by simp, by simp, by simp, S3.out, by simpa using s4⟩
        case measure => simp [intOf]
      · have s4 := s2 (by omega)
        clear s1 s2
        have t1 : ((x : Int) / 256 != 0) = false := by rw [bne_eq_false_iff_eq]; omega
        go_wp2
        go_round
        case rel => exact ⟨x, m, 4, by simp, rfl, rfl, by simp, HM.out, by simpa using s4⟩
        case measure => simp [intOf]
    case inr.inr.inr.inl =>
      obtain ⟨s1, s2⟩ := log_step 4 2 hm (by simpa using hx) (by omega) (by omega)
      simp only [Nat.reducePow, Nat.reduceMul, Nat.mul_one, if_neg, Nat.reduceEqDiff, reduceIte] at s1 s2
      have hm2 : m ≤ 64 := by omega
      have HM := Lib.hid hm
      clear hm hx hb
      by_cases hc : 16 ≤ x
      · obtain ⟨s3, s4⟩ := s1 hc
        have S3 := Lib.hid s3
        clear s1 s2 s3
        have t1 : ((x : Int) / 16 != 0) = true := by rw [bne_iff_ne]; omega
        go_wp2
        go_round
        case rel => exact ⟨x / 16, m + 4, 2, by simp, by simp, by simp, by simp, S3.out, by simpa using s4⟩
        case measure => simp [intOf]
      · have s4 := s2 (by omega)
        clear s1 s2
        have t1 : ((x : Int) / 16 != 0) = false := by rw [bne_eq_false_iff_eq]; omega
        go_wp2
        go_round
        case rel => exact ⟨x, m, 2, by simp, rfl, rfl, by simp, HM.out, by simpa using s4⟩
        case measure => simp [intOf]
    case inr.inr.inr.inr.inl =>
      obtain ⟨s1, s2⟩ := log_step 2 1 hm (by simpa using hx) (by omega) (by omega)
      simp only [Nat.reducePow, Nat.reduceMul, Nat.mul_one, if_neg, Nat.reduceEqDiff, reduceIte] at s1 s2
      have hm2 : m ≤ 64 := by omega
      have HM := Lib.hid hm
      clear hm hx hb
      by_cases hc : 4 ≤ x
      · obtain ⟨s3, s4⟩ := s1 hc
        have S3 := Lib.hid s3
        clear s1 s2 s3
        have t1 : ((x : Int) / 4 != 0) = true := by rw [bne_iff_ne]; omega
        go_wp2
        go_round
        case rel => exact ⟨x / 4, m + 2, 1, by simp, by simp, by simp, by simp, S3.out, by simpa using s4⟩
        case measure => simp [intOf]
      · have s4 := s2 (by omega)
        clear s1 s2
        have t1 : ((x : Int) / 4 != 0) = false := by rw [bne_eq_false_iff_eq]; omega
        go_wp2
        go_round
        case rel => exact ⟨x, m, 1, by simp, rfl, rfl, by simp, HM.out, by simpa using s4⟩
        case measure => simp [intOf]
    case inr.inr.inr.inr.inr.inl =>
      obtain ⟨s1, s2⟩ := log_step 1 0 hm (by simpa using hx) (by omega) (by omega)
      simp only [Nat.reducePow, Nat.reduceMul, Nat.mul_one, if_neg, Nat.reduceEqDiff, reduceIte] at s1 s2
      have hm2 : m ≤ 64 := by omega
      have HM := Lib.hid hm
      clear hm hx hb
      by_cases hc : 2 ≤ x
      · obtain ⟨s3, s4⟩ := s1 hc
        have S3 := Lib.hid s3
        clear s1 s2 s3
        have t1 : ((x : Int) / 2 != 0) = true := by rw [bne_iff_ne]; omega
        go_wp2
        go_round
        case rel => exact ⟨x / 2, m + 1, 0, by simp, by simp, by simp, by simp, S3.out, by simpa using s4⟩
        case measure => simp [intOf]
      · have s4 := s2 (by omega)
        clear s1 s2
        have t1 : ((x : Int) / 2 != 0) = false := by rw [bne_eq_false_iff_eq]; omega
        go_wp2
        go_round
        case rel => exact ⟨x, m, 0, by simp, rfl, rfl, by simp, HM.out, by simpa using s4⟩
        case measure => simp [intOf]

theorem rlog_any (v : Nat) (h : v < 18446744073709551616) (w : World) : Calls Try.prog 16 #[.int .u64 v] w fun e w' => e = .returned (.int .i64 (Pu.nbits v)) ∧ w = w' := by
  have hb := Pu.nbits_le v 64 h
  go_enter Try.func16, Try.ntmps16
  go_wp2
  go_loop [0, 3] (fun u n => ∃ (x m : Nat), u = .int .u64 x ∧ n = .int .i64 m ∧ m + Pu.nbits x = Pu.nbits v ∧ x < 18446744073709551616) (fun u _ => (intOf u).toNat)
  case atStart => exact ⟨v, 0, rfl, rfl, by simp, h⟩
  case round =>
    obtain ⟨x, m, rfl, rfl, hm, hx⟩ := hrel
    have hm2 : m ≤ 64 := by omega
    have HM := Lib.hid hm
    clear hm hb
    by_cases hc : 0 < x
    · go_wp2
      go_round
      case rel => exact ⟨x / 2, m + 1, by simp, by simp, by have := HM.out; rw [Pu.nbits_pos hc] at this; omega, by omega⟩
      case measure => simp [intOf]; omega
    · go_wp2
      go_ret
      refine ⟨ret_int ?_, rfl⟩
      have := HM.out
      obtain rfl : x = 0 := by omega
      rw [Pu.nbits_zero] at this
      omega

theorem turn_any (v : Nat) (h : v < 18446744073709551616) (w : World) : Calls Try.prog 17 #[.int .u64 v] w fun e w' => e = .returned (.int .u64 (Pu.turn v)) ∧ w = w' := by
  go_enter Try.func17, Try.ntmps17
  go_wp2
  go_loop [0, 3, 4] (fun u o i => ∃ k : Nat, k ≤ 8 ∧ i = .int .i64 k ∧ o = .int .u64 (Pu.turnK v k) ∧ u = .int .u64 ((v / 256 ^ k : Nat) : Int)) (fun _ _ i => 8 - (intOf i).toNat)
  case atStart => exact ⟨0, by omega, rfl, rfl, by simp⟩
  case round =>
    obtain ⟨k, hk, rfl, rfl, rfl⟩ := hrel
    have hx : v / 256 ^ k < 18446744073709551616 := Nat.lt_of_le_of_lt (Nat.div_le_self _ _) h
    have ht := Pu.turnK_lt v k
    have hs : Pu.turnK v (k + 1) = Pu.turnK v k * 256 + v / 256 ^ k % 256 := rfl
    have hd : v / 256 ^ (k + 1) = v / 256 ^ k / 256 := by rw [Nat.pow_succ, Nat.div_div_eq_div_mul]
    have hp : k < 8 → 256 ^ k ≤ 72057594037927936 := fun hlt => Nat.pow_le_pow_right (n := 256) (by omega) (show k ≤ 7 by omega)
    have Hs := Lib.hid hs
    have Hd := Lib.hid hd
    have Hp := Lib.hid hp
    have Ht := Lib.hid ht
    clear hs hd hp ht
    by_cases hlt : k < 8
    · have hp := Hp.out hlt
      have ht := Ht.out
      have ht2 : Pu.turnK v k < 72057594037927936 := by omega
      clear hp ht
      generalize hX : v / 256 ^ k = x at *
      generalize hT : Pu.turnK v k = t at *
      have HX := Lib.hid hX
      have HT := Lib.hid hT
      clear hX hT
      have or1 : bits .or .u64 ((t : Int) * 256) (bits .and .u64 x 255) = ((t * 256 + x % 256 : Nat) : Int) := by
        rw [u64_and _ _ (by omega) (by omega) (by omega) (by omega)]
        have e1 : ((x : Int).toNat &&& (255 : Int).toNat) = x % 256 := by
          show (x &&& 255) = _
          rw [nat_mask8]
        rw [e1, u64_or _ _ (by omega) (by omega) (by omega) (by omega)]
        have e2 : ((t : Int) * 256).toNat = t * 2 ^ 8 := by omega
        rw [e2, Int.toNat_natCast, Pu.or_shl _ _ _ (by omega)]
      have OR := Lib.hid or1
      clear or1
      go_wp2
      go_round
      case rel => exact ⟨k + 1, by omega, by go_num, by rw [OR.out, Hs.out], by rw [Hd.out]; simp⟩
      case measure => simp [intOf]; omega
    · obtain rfl : k = 8 := by omega
      go_wp2
      go_ret
      exact ⟨rfl, rfl⟩

theorem rturn_any (v : Nat) (h : v < 18446744073709551616) (w : World) : Calls Try.prog 18 #[.int .u64 v] w fun e w' => e = .returned (.int .u64 (Pu.turn v)) ∧ w = w' := by
  go_enter Try.func18, Try.ntmps18
  go_wp2
  go_loop [0, 3, 4] (fun u o i => ∃ k : Nat, k ≤ 8 ∧ i = .int .i64 k ∧ o = .int .u64 (Pu.turnK v k) ∧ u = .int .u64 ((v / 256 ^ k : Nat) : Int)) (fun _ _ i => 8 - (intOf i).toNat)
  case atStart => exact ⟨0, by omega, rfl, rfl, by simp⟩
  case round =>
    obtain ⟨k, hk, rfl, rfl, rfl⟩ := hrel
    have hx : v / 256 ^ k < 18446744073709551616 := Nat.lt_of_le_of_lt (Nat.div_le_self _ _) h
    have ht := Pu.turnK_lt v k
    have hs : Pu.turnK v (k + 1) = Pu.turnK v k * 256 + v / 256 ^ k % 256 := rfl
    have hd : v / 256 ^ (k + 1) = v / 256 ^ k / 256 := by rw [Nat.pow_succ, Nat.div_div_eq_div_mul]
    have hp : k < 8 → 256 ^ k ≤ 72057594037927936 := fun hlt => Nat.pow_le_pow_right (n := 256) (by omega) (show k ≤ 7 by omega)
    have Hs := Lib.hid hs
    have Hd := Lib.hid hd
    have Hp := Lib.hid hp
    have Ht := Lib.hid ht
    clear hs hd hp ht
    by_cases hlt : k < 8
    · have hp := Hp.out hlt
      have ht := Ht.out
      have ht2 : Pu.turnK v k < 72057594037927936 := by omega
      clear hp ht
      generalize hX : v / 256 ^ k = x at *
      generalize hT : Pu.turnK v k = t at *
      have HX := Lib.hid hX
      have HT := Lib.hid hT
      clear hX hT
      go_wp2
      go_round
      case rel => exact ⟨k + 1, by omega, by go_num, by rw [Hs.out]; simp, by rw [Hd.out]; simp⟩
      case measure => simp [intOf]; omega
    · obtain rfl : k = 8 := by omega
      go_wp2
      go_ret
      exact ⟨rfl, rfl⟩

theorem ret_two {k : IntKind} {a b : Int} {x y : Bool} (h : a = b) (h' : x = y) : Ending.returned (.tuple #[.int k a, .bool x]) = .returned (.tuple #[.int k b, .bool y]) := by rw [h, h']

theorem up_any (v to : Int) (h0 : -9223372036854775808 ≤ v) (h1 : v ≤ 9223372036854775807) (g0 : -9223372036854775808 ≤ to) (g1 : to ≤ 9223372036854775807) (w : World) :
    Calls Try.prog 23 #[.int .i64 v, .int .i64 to] w fun e w' => e = .returned (.tuple #[.int .i64 (Pu.upV v to), .bool (Pu.upB v to)]) ∧ w = w' := by
  by_cases hc : 0 ≤ v ∧ 1 ≤ to ∧ v ≤ 4611686018427387904
  · obtain ⟨c1, c2, c3⟩ := hc
    have hm0 := Int.emod_nonneg v (b := to) (by omega)
    have hm1 := Int.emod_lt_of_pos v (b := to) (by omega)
    have hm2 : v % to ≤ v := Pu.emod_le_self c1 c2
    by_cases hr : v % to = 0
    · have hb : Pu.upB v to = true := by unfold Pu.upB; simp; omega
      have hv : Pu.upV v to = v := by unfold Pu.upV; rw [if_pos hb, if_pos hr]
      rw [hb, hv]
      clear hb hv
      go_enter Try.func23, Try.ntmps23
      go_wp2
      go_ret2
      exact ⟨rfl, rfl⟩
    · by_cases hs : v - v % to + to ≤ 4611686018427387904
      · have hb : Pu.upB v to = true := by unfold Pu.upB; simp; omega
        have hv : Pu.upV v to = v - v % to + to := by unfold Pu.upV; rw [if_pos hb, if_neg hr]
        rw [hb, hv]
        clear hb hv
        go_enter Try.func23, Try.ntmps23
        go_wp2
        go_ret2
        exact ⟨rfl, rfl⟩
      · have hb : Pu.upB v to = false := by unfold Pu.upB; simp; omega
        have hv : Pu.upV v to = 0 := by unfold Pu.upV; rw [hb]; rfl
        rw [hb, hv]
        clear hb hv
        go_enter Try.func23, Try.ntmps23
        go_wp2
        go_ret2
        exact ⟨rfl, rfl⟩
  · have hf : Pu.upB v to = false := by unfold Pu.upB; simp; omega
    have hz : Pu.upV v to = 0 := by unfold Pu.upV; rw [hf]; rfl
    rw [hf, hz]
    by_cases c1 : v < 0
    · go_enter Try.func23, Try.ntmps23
      go_wp2
      go_ret2
      exact ⟨rfl, rfl⟩
    · by_cases c2 : to < 1
      · go_enter Try.func23, Try.ntmps23
        go_wp2
        go_ret2
        exact ⟨rfl, rfl⟩
      · go_enter Try.func23, Try.ntmps23
        go_wp2
        go_ret2
        exact ⟨rfl, rfl⟩

theorem rup_any (v to : Int) (h0 : -9223372036854775808 ≤ v) (h1 : v ≤ 9223372036854775807) (g0 : -9223372036854775808 ≤ to) (g1 : to ≤ 9223372036854775807) (w : World) :
    Calls Try.prog 24 #[.int .i64 v, .int .i64 to] w fun e w' => e = .returned (.tuple #[.int .i64 (Pu.upV v to), .bool (Pu.upB v to)]) ∧ w = w' := by
  by_cases hc : 0 ≤ v ∧ 1 ≤ to ∧ v ≤ 4611686018427387904
  · obtain ⟨c1, c2, c3⟩ := hc
    have hm0 := Int.emod_nonneg v (b := to) (by omega)
    have hm1 := Int.emod_lt_of_pos v (b := to) (by omega)
    have hm2 : v % to ≤ v := Pu.emod_le_self c1 c2
    have hq0 : 0 ≤ v / to := Int.ediv_nonneg c1 (by omega)
    have hq1 : v / to ≤ v := Int.ediv_le_self _ c1
    have hq2 : v / to * to = v - v % to := by have h3 := Int.mul_ediv_add_emod v to; rw [Int.mul_comm] at h3; omega
    have hq3 : v / to * to ≤ v := by omega
    have hq4 : 0 ≤ v / to * to := by omega
    have hq5 : (v / to + 1) * to = v / to * to + to := by rw [Int.add_mul, Int.one_mul]
    have Hq2 := Lib.hid hq2
    have Hq5 := Lib.hid hq5
    by_cases hr : v % to = 0
    · have hb : Pu.upB v to = true := by unfold Pu.upB; simp; omega
      have hv : Pu.upV v to = v := by unfold Pu.upV; rw [if_pos hb, if_pos hr]
      rw [hb, hv]
      have t0 : v ≤ v / to * to := by omega
      clear hb hv hq5 hq2
      go_enter Try.func24, Try.ntmps24
      go_wp2
      go_ret2
      exact ⟨ret_two (by have := Hq2.out; omega) rfl, rfl⟩
    · by_cases hs : v - v % to + to ≤ 4611686018427387904
      · have hb : Pu.upB v to = true := by unfold Pu.upB; simp; omega
        have hv : Pu.upV v to = v - v % to + to := by unfold Pu.upV; rw [if_pos hb, if_neg hr]
        rw [hb, hv]
        have t0 : v / to * to < v := by omega
        have t1 : v / to * to ≤ 4611686018427387904 - to := by omega
        have t2 : 0 ≤ (v / to + 1) * to := by omega
        have t3 : (v / to + 1) * to ≤ 4611686018427387904 := by omega
        clear hb hv hq5 hq2
        go_enter Try.func24, Try.ntmps24
        go_wp2
        go_ret2
        exact ⟨ret_two (by have := Hq2.out; have := Hq5.out; omega) rfl, rfl⟩
      · have hb : Pu.upB v to = false := by unfold Pu.upB; simp; omega
        have hv : Pu.upV v to = 0 := by unfold Pu.upV; rw [hb]; rfl
        rw [hb, hv]
        have t0 : v / to * to < v := by omega
        have t1 : 4611686018427387904 - to < v / to * to := by omega
        clear hb hv hq5 hq2
        go_enter Try.func24, Try.ntmps24
        go_wp2
        go_ret2
        exact ⟨rfl, rfl⟩
  · have hf : Pu.upB v to = false := by unfold Pu.upB; simp; omega
    have hz : Pu.upV v to = 0 := by unfold Pu.upV; rw [hf]; rfl
    rw [hf, hz]
    by_cases c1 : v < 0
    · go_enter Try.func24, Try.ntmps24
      go_wp2
      go_ret2
      exact ⟨rfl, rfl⟩
    · by_cases c2 : to < 1
      · go_enter Try.func24, Try.ntmps24
        go_wp2
        go_ret2
        exact ⟨rfl, rfl⟩
      · go_enter Try.func24, Try.ntmps24
        go_wp2
        go_ret2
        exact ⟨rfl, rfl⟩

theorem narrow_i8_yes (v : Int) (h : -128 ≤ v ∧ v ≤ 127) (w : World) : Calls Try.prog 27 #[.int .i64 v] w fun e w' => e = .returned (.tuple #[.int .i8 v, .bool true]) ∧ w = w' := by
  obtain ⟨h1, h2⟩ := h
  go_enter Try.func27, Try.ntmps27
  go_wp2
  go_ret2
  exact ⟨rfl, rfl⟩
theorem narrow_i8_no (v : Int) (h0 : -9223372036854775808 ≤ v) (h1 : v ≤ 9223372036854775807) (h : ¬ (-128 ≤ v ∧ v ≤ 127)) (w : World) : Calls Try.prog 27 #[.int .i64 v] w fun e w' => e = .returned (.tuple #[.int .i8 0, .bool false]) ∧ w = w' := by
  have hw : -128 ≤ IntKind.i8.wrap v ∧ IntKind.i8.wrap v ≤ 127 := by
    simp only [IntKind.wrap, IntKind.bits, IntKind.signed]; simp; try split
    all_goals omega
  have t0 : (IntKind.i64.wrap (IntKind.i8.wrap v) == v) = false := by
    rw [IntWalk.i64_in _ (by omega)]; rw [beq_eq_false_iff_ne]; omega
  have t1 : (IntKind.i8.wrap v == v) = false := by
    rw [beq_eq_false_iff_ne]; omega
  obtain ⟨hw1, hw2⟩ := hw
  clear h
  go_enter Try.func27, Try.ntmps27
  go_wp2
  go_ret2
  exact ⟨rfl, rfl⟩
theorem narrow_i16_yes (v : Int) (h : -32768 ≤ v ∧ v ≤ 32767) (w : World) : Calls Try.prog 28 #[.int .i64 v] w fun e w' => e = .returned (.tuple #[.int .i16 v, .bool true]) ∧ w = w' := by
  obtain ⟨h1, h2⟩ := h
  go_enter Try.func28, Try.ntmps28
  go_wp2
  go_ret2
  exact ⟨rfl, rfl⟩
theorem narrow_i16_no (v : Int) (h0 : -9223372036854775808 ≤ v) (h1 : v ≤ 9223372036854775807) (h : ¬ (-32768 ≤ v ∧ v ≤ 32767)) (w : World) : Calls Try.prog 28 #[.int .i64 v] w fun e w' => e = .returned (.tuple #[.int .i16 0, .bool false]) ∧ w = w' := by
  have hw : -32768 ≤ IntKind.i16.wrap v ∧ IntKind.i16.wrap v ≤ 32767 := by
    simp only [IntKind.wrap, IntKind.bits, IntKind.signed]; simp; try split
    all_goals omega
  have t0 : (IntKind.i64.wrap (IntKind.i16.wrap v) == v) = false := by
    rw [IntWalk.i64_in _ (by omega)]; rw [beq_eq_false_iff_ne]; omega
  have t1 : (IntKind.i16.wrap v == v) = false := by
    rw [beq_eq_false_iff_ne]; omega
  obtain ⟨hw1, hw2⟩ := hw
  clear h
  go_enter Try.func28, Try.ntmps28
  go_wp2
  go_ret2
  exact ⟨rfl, rfl⟩
theorem narrow_i32_yes (v : Int) (h : -2147483648 ≤ v ∧ v ≤ 2147483647) (w : World) : Calls Try.prog 29 #[.int .i64 v] w fun e w' => e = .returned (.tuple #[.int .i32 v, .bool true]) ∧ w = w' := by
  obtain ⟨h1, h2⟩ := h
  go_enter Try.func29, Try.ntmps29
  go_wp2
  go_ret2
  exact ⟨rfl, rfl⟩
theorem narrow_i32_no (v : Int) (h0 : -9223372036854775808 ≤ v) (h1 : v ≤ 9223372036854775807) (h : ¬ (-2147483648 ≤ v ∧ v ≤ 2147483647)) (w : World) : Calls Try.prog 29 #[.int .i64 v] w fun e w' => e = .returned (.tuple #[.int .i32 0, .bool false]) ∧ w = w' := by
  have hw : -2147483648 ≤ IntKind.i32.wrap v ∧ IntKind.i32.wrap v ≤ 2147483647 := by
    simp only [IntKind.wrap, IntKind.bits, IntKind.signed]; simp; try split
    all_goals omega
  have t0 : (IntKind.i64.wrap (IntKind.i32.wrap v) == v) = false := by
    rw [IntWalk.i64_in _ (by omega)]; rw [beq_eq_false_iff_ne]; omega
  have t2 : (wrap64 (wrap32 v) == v) = false := by rw [beq_eq_false_iff_ne]; unfold wrap64 wrap32; omega
  have t1 : (IntKind.i32.wrap v == v) = false := by
    rw [beq_eq_false_iff_ne]; omega
  obtain ⟨hw1, hw2⟩ := hw
  clear h
  go_enter Try.func29, Try.ntmps29
  go_wp2
  go_ret2
  exact ⟨rfl, rfl⟩
theorem narrow_u8_yes (v : Int) (h : 0 ≤ v ∧ v ≤ 255) (w : World) : Calls Try.prog 30 #[.int .i64 v] w fun e w' => e = .returned (.tuple #[.int .u8 v, .bool true]) ∧ w = w' := by
  obtain ⟨h1, h2⟩ := h
  go_enter Try.func30, Try.ntmps30
  go_wp2
  go_ret2
  exact ⟨rfl, rfl⟩
theorem narrow_u8_no (v : Int) (h0 : -9223372036854775808 ≤ v) (h1 : v ≤ 9223372036854775807) (h : ¬ (0 ≤ v ∧ v ≤ 255)) (w : World) : Calls Try.prog 30 #[.int .i64 v] w fun e w' => e = .returned (.tuple #[.int .u8 0, .bool false]) ∧ w = w' := by
  have hw : 0 ≤ IntKind.u8.wrap v ∧ IntKind.u8.wrap v ≤ 255 := by
    simp only [IntKind.wrap, IntKind.bits, IntKind.signed]; simp; try split
    all_goals omega
  have t0 : (IntKind.i64.wrap (IntKind.u8.wrap v) == v) = false := by
    rw [IntWalk.i64_in _ (by omega)]; rw [beq_eq_false_iff_ne]; omega
  have t2 : (v % 256 == v) = false := by rw [beq_eq_false_iff_ne]; omega
  have t1 : (IntKind.u8.wrap v == v) = false := by
    rw [beq_eq_false_iff_ne]; omega
  obtain ⟨hw1, hw2⟩ := hw
  clear h
  go_enter Try.func30, Try.ntmps30
  go_wp2
  go_ret2
  exact ⟨rfl, rfl⟩
theorem narrow_u16_yes (v : Int) (h : 0 ≤ v ∧ v ≤ 65535) (w : World) : Calls Try.prog 31 #[.int .i64 v] w fun e w' => e = .returned (.tuple #[.int .u16 v, .bool true]) ∧ w = w' := by
  obtain ⟨h1, h2⟩ := h
  go_enter Try.func31, Try.ntmps31
  go_wp2
  go_ret2
  exact ⟨rfl, rfl⟩
theorem narrow_u16_no (v : Int) (h0 : -9223372036854775808 ≤ v) (h1 : v ≤ 9223372036854775807) (h : ¬ (0 ≤ v ∧ v ≤ 65535)) (w : World) : Calls Try.prog 31 #[.int .i64 v] w fun e w' => e = .returned (.tuple #[.int .u16 0, .bool false]) ∧ w = w' := by
  have hw : 0 ≤ IntKind.u16.wrap v ∧ IntKind.u16.wrap v ≤ 65535 := by
    simp only [IntKind.wrap, IntKind.bits, IntKind.signed]; simp; try split
    all_goals omega
  have t0 : (IntKind.i64.wrap (IntKind.u16.wrap v) == v) = false := by
    rw [IntWalk.i64_in _ (by omega)]; rw [beq_eq_false_iff_ne]; omega
  have t1 : (IntKind.u16.wrap v == v) = false := by
    rw [beq_eq_false_iff_ne]; omega
  obtain ⟨hw1, hw2⟩ := hw
  clear h
  go_enter Try.func31, Try.ntmps31
  go_wp2
  go_ret2
  exact ⟨rfl, rfl⟩
theorem narrow_u32_yes (v : Int) (h : 0 ≤ v ∧ v ≤ 4294967295) (w : World) : Calls Try.prog 32 #[.int .i64 v] w fun e w' => e = .returned (.tuple #[.int .u32 v, .bool true]) ∧ w = w' := by
  obtain ⟨h1, h2⟩ := h
  go_enter Try.func32, Try.ntmps32
  go_wp2
  go_ret2
  exact ⟨rfl, rfl⟩
theorem narrow_u32_no (v : Int) (h0 : -9223372036854775808 ≤ v) (h1 : v ≤ 9223372036854775807) (h : ¬ (0 ≤ v ∧ v ≤ 4294967295)) (w : World) : Calls Try.prog 32 #[.int .i64 v] w fun e w' => e = .returned (.tuple #[.int .u32 0, .bool false]) ∧ w = w' := by
  have hw : 0 ≤ IntKind.u32.wrap v ∧ IntKind.u32.wrap v ≤ 4294967295 := by
    simp only [IntKind.wrap, IntKind.bits, IntKind.signed]; simp; try split
    all_goals omega
  have t0 : (IntKind.i64.wrap (IntKind.u32.wrap v) == v) = false := by
    rw [IntWalk.i64_in _ (by omega)]; rw [beq_eq_false_iff_ne]; omega
  have t2 : (v % 4294967296 == v) = false := by rw [beq_eq_false_iff_ne]; omega
  have t1 : (IntKind.u32.wrap v == v) = false := by
    rw [beq_eq_false_iff_ne]; omega
  obtain ⟨hw1, hw2⟩ := hw
  clear h
  go_enter Try.func32, Try.ntmps32
  go_wp2
  go_ret2
  exact ⟨rfl, rfl⟩
end Go.Proofs.Ytpeofopknpdpaaa
