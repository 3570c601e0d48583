/- Plain facts on numbers: signs laid in the lowest bit, how many bits a number has, its bytes in the other order, bits and bytes of rows. Conditions: none. -/
import Derived.Laws.BitsAllLaws
import Derived.Laws.BitsLemmas
import Derived.IntWalk
namespace Go.Proofs.Ytlbodandidopfaa.Pu
set_option linter.unusedSimpArgs false
set_option linter.unusedVariables false

/-! signs -/
def zig (v : Int) : Int := if v < 0 then -2 * v - 1 else 2 * v
def zag (u : Int) : Int := if u % 2 = 1 then -(u / 2) - 1 else u / 2

theorem zig_zag (u : Int) (h : 0 ≤ u) : zig (zag u) = u := by
  unfold zig zag; split <;> split <;> omega
theorem zag_zig (v : Int) : zag (zig v) = v := by
  unfold zig zag; split <;> split <;> omega
theorem zig_lo (v : Int) : 0 ≤ zig v := by unfold zig; split <;> omega
theorem zig_hi (v : Int) (h0 : -9223372036854775808 ≤ v) (h1 : v ≤ 9223372036854775807) : zig v ≤ 18446744073709551615 := by unfold zig; split <;> omega
theorem zag_lo (u : Int) (h0 : 0 ≤ u) (h1 : u ≤ 18446744073709551615) : -9223372036854775808 ≤ zag u := by unfold zag; split <;> omega
theorem zag_hi (u : Int) (h0 : 0 ≤ u) (h1 : u ≤ 18446744073709551615) : zag u ≤ 9223372036854775807 := by unfold zag; split <;> omega

theorem ofInt64 (x : Int) (h0 : -9223372036854775808 ≤ x) (h1 : x ≤ 9223372036854775807) : ((BitVec.ofInt 64 x).toNat : Int) = if x < 0 then x + 18446744073709551616 else x := by
  rw [BitVec.toNat_ofInt]
  split <;> omega

theorem not64 (m : Nat) (h : m < 18446744073709551616) : m ^^^ 18446744073709551615 = 18446744073709551615 - m := by
  have h1 : (BitVec.ofNat 64 m ^^^ BitVec.allOnes 64).toNat = (~~~ (BitVec.ofNat 64 m)).toNat := by rw [BitVec.xor_allOnes]
  rw [BitVec.toNat_xor, BitVec.toNat_not, BitVec.toNat_ofNat, BitVec.toNat_allOnes] at h1
  rw [Nat.mod_eq_of_lt (by omega)] at h1
  omega

theorem bits_zig (a : Int) (h0 : -9223372036854775808 ≤ a) (h1 : a ≤ 9223372036854775807) :
    bits .xor .u64 (IntKind.u64.wrap (IntKind.u64.wrap a * 2)) (IntKind.u64.wrap (a / 9223372036854775808)) = zig a := by
  unfold zig
  have e1 : IntKind.u64.wrap (IntKind.u64.wrap a * 2) = if a < -4611686018427387904 then 2 * a + 18446744073709551616 else (if a < 0 then 2 * a + 18446744073709551616 else 2 * a) := by
    rw [IntKind.wrap_u64, IntKind.wrap_u64]; split <;> (try split) <;> omega
  by_cases hn : a < 0
  · have e2 : IntKind.u64.wrap (a / 9223372036854775808) = 18446744073709551615 := by rw [IntKind.wrap_u64]; omega
    have e3 : IntKind.u64.wrap (IntKind.u64.wrap a * 2) = 2 * a + 18446744073709551616 := by rw [e1]; split <;> (try split) <;> omega
    rw [e2, e3, if_pos hn, u64_xor _ _ (by omega) (by omega) (by omega) (by omega)]
    have := not64 (2 * a + 18446744073709551616).toNat (by omega)
    show ((_ ^^^ 18446744073709551615 : Nat) : Int) = _
    rw [this]; omega
  · have e2 : IntKind.u64.wrap (a / 9223372036854775808) = 0 := by rw [IntKind.wrap_u64]; omega
    have e3 : IntKind.u64.wrap (IntKind.u64.wrap a * 2) = 2 * a := by rw [e1]; split <;> (try split) <;> omega
    rw [e2, e3, if_neg hn, u64_xor _ _ (by omega) (by omega) (by omega) (by omega)]
    show ((_ ^^^ 0 : Nat) : Int) = _
    rw [Nat.xor_zero]; omega

theorem u64_and1 (a : Int) (h0 : 0 ≤ a) (h1 : a ≤ 18446744073709551615) : bits .and .u64 a 1 = a % 2 := by
  rw [u64_and _ _ h0 (by omega) (by omega) (by omega)]
  show ((_ &&& 1 : Nat) : Int) = _
  rw [nat_mask1]; omega

theorem bits_zag (a : Int) (h0 : 0 ≤ a) (h1 : a ≤ 18446744073709551615) :
    bits .xor .i64 (a / 2) (RowKit.wrap64 (-RowKit.wrap64 (bits .and .u64 a 1))) = zag a := by
  rw [u64_and1 a h0 h1, IntWalk.wrap64_in (a % 2) (by omega), IntWalk.wrap64_in _ (by omega)]
  unfold zag
  show IntKind.i64.wrap ((BitVec.ofInt 64 (a / 2) ^^^ BitVec.ofInt 64 (-(a % 2))).toNat : Int) = _
  rw [BitVec.toNat_xor]
  have e1 := ofInt64 (a / 2) (by omega) (by omega)
  rw [if_neg (by omega)] at e1
  by_cases hm : a % 2 = 1
  · have e2 : (BitVec.ofInt 64 (-(a % 2))).toNat = 18446744073709551615 := by rw [hm]; decide
    rw [e2, not64 _ (by omega), if_pos hm, IntKind.wrap_i64]
    omega
  · have e2 : (BitVec.ofInt 64 (-(a % 2))).toNat = 0 := by have : a % 2 = 0 := by omega
                                                           rw [this]; decide
    rw [e2, Nat.xor_zero, if_neg hm, IntKind.wrap_i64]
    omega

/-! how many bits -/
def nbits (n : Nat) : Nat := if n = 0 then 0 else nbits (n / 2) + 1
theorem nbits_zero : nbits 0 = 0 := by unfold nbits; rfl
theorem nbits_pos {n : Nat} (h : 0 < n) : nbits n = nbits (n / 2) + 1 := by rw [nbits, if_neg (by omega)]
theorem nbits_small {n : Nat} (h : n < 2) : nbits n = n := by
  rcases Nat.lt_or_ge 0 n with hp | hp
  · obtain rfl : n = 1 := by omega
    rw [nbits_pos (by omega)]; exact congrArg (· + 1) nbits_zero
  · obtain rfl : n = 0 := by omega
    exact nbits_zero
theorem nbits_shift (s : Nat) : ∀ n : Nat, 2 ^ s ≤ n → nbits n = s + nbits (n / 2 ^ s) := by
  induction s with
  | zero => intro n _; simp
  | succ s ih =>
    intro n h
    have hp : 2 ^ (s + 1) = 2 * 2 ^ s := by rw [Nat.pow_succ]; omega
    have h2 : 0 < 2 ^ s := Nat.two_pow_pos s
    rw [nbits_pos (by omega), ih (n / 2) (by omega), Nat.div_div_eq_div_mul, hp]
    omega
theorem nbits_le (n : Nat) (k : Nat) (h : n < 2 ^ k) : nbits n ≤ k := by
  induction k generalizing n with
  | zero => obtain rfl : n = 0 := by simpa using h
            rw [nbits_zero]; exact Nat.le_refl _
  | succ k ih =>
    rcases Nat.eq_zero_or_pos n with rfl | hp
    · rw [nbits_zero]; omega
    · rw [nbits_pos hp]
      have := ih (n / 2) (by rw [Nat.pow_succ] at h; omega)
      omega

/-! bytes in the other order -/
def turnK (v : Nat) : Nat → Nat
  | 0 => 0
  | k + 1 => turnK v k * 256 + v / 256 ^ k % 256
def turn (v : Nat) : Nat := turnK v 8
theorem turnK_lt (v k : Nat) : turnK v k < 256 ^ k := by
  induction k with
  | zero => simp [turnK]
  | succ k ih => rw [turnK, Nat.pow_succ]; omega
theorem turn_lt (v : Nat) : turn v < 18446744073709551616 := turnK_lt v 8

theorem turn_eq (v : Nat) : turn v = (((((((v % 256) * 256 + v / 256 % 256) * 256 + v / 256 / 256 % 256) * 256 + v / 256 / 256 / 256 % 256) * 256 + v / 256 / 256 / 256 / 256 % 256) * 256 + v / 256 / 256 / 256 / 256 / 256 % 256) * 256 + v / 256 / 256 / 256 / 256 / 256 / 256 % 256) * 256 + v / 256 / 256 / 256 / 256 / 256 / 256 / 256 % 256 := by
  simp [turn, turnK, Nat.div_div_eq_div_mul]
theorem low {a r : Nat} (h : a < 256) : (a + 256 * r) % 256 = a := by omega
theorem high {a r : Nat} (h : a < 256) : (a + 256 * r) / 256 = r := by omega
theorem turn_digits (a0 a1 a2 a3 a4 a5 a6 a7 : Nat) (g0 : a0 < 256) (g1 : a1 < 256) (g2 : a2 < 256) (g3 : a3 < 256) (g4 : a4 < 256) (g5 : a5 < 256) (g6 : a6 < 256) (g7 : a7 < 256) :
    turn (a0 + 256 * (a1 + 256 * (a2 + 256 * (a3 + 256 * (a4 + 256 * (a5 + 256 * (a6 + 256 * a7))))))) = a7 + 256 * (a6 + 256 * (a5 + 256 * (a4 + 256 * (a3 + 256 * (a2 + 256 * (a1 + 256 * a0)))))) := by
  rw [turn_eq, low g0, high g0, low g1, high g1, low g2, high g2, low g3, high g3, low g4, high g4, low g5, high g5, low g6, high g6, Nat.mod_eq_of_lt g7]
  omega
theorem digit (v : Nat) : ∃ d r, d < 256 ∧ v = d + 256 * r := ⟨v % 256, v / 256, by omega, by omega⟩
theorem turn_turn (v : Nat) (h : v < 18446744073709551616) : turn (turn v) = v := by
  obtain ⟨d0, v1, h0, e0⟩ := digit v
  obtain ⟨d1, v2, h1, e1⟩ := digit v1
  obtain ⟨d2, v3, h2, e2⟩ := digit v2
  obtain ⟨d3, v4, h3, e3⟩ := digit v3
  obtain ⟨d4, v5, h4, e4⟩ := digit v4
  obtain ⟨d5, v6, h5, e5⟩ := digit v5
  obtain ⟨d6, d7, h6, e6⟩ := digit v6
  have h7 : d7 < 256 := by omega
  rw [e0, e1, e2, e3, e4, e5, e6, turn_digits d0 d1 d2 d3 d4 d5 d6 d7 h0 h1 h2 h3 h4 h5 h6 h7, turn_digits d7 d6 d5 d4 d3 d2 d1 d0 h7 h6 h5 h4 h3 h2 h1 h0]

theorem or_shl (x y i : Nat) (hy : y < 2 ^ i) : (x * 2 ^ i) ||| y = x * 2 ^ i + y := by
  apply nat_join i
  · exact Nat.mul_mod_left _ _
  · exact hy

theorem emod_le_self {v to : Int} (h : 0 ≤ v) (ht : 1 ≤ to) : v % to ≤ v := by
  have h1 : 0 ≤ v / to := Int.ediv_nonneg h (by omega)
  have h2 : 0 ≤ to * (v / to) := Int.mul_nonneg (by omega) h1
  have h3 := Int.mul_ediv_add_emod v to
  omega
/-! bytes of numbers -/
def putL (v : Nat) : Nat → List UInt8
  | 0 => []
  | n + 1 => putL v n ++ [UInt8.ofNat (v / 256 ^ n)]
theorem putL_length (v n : Nat) : (putL v n).length = n := by
  induction n with
  | zero => rfl
  | succ n ih => simp [putL, ih]
def clip (n : Int) : Nat := if n < 0 then 0 else if 64 < n then 64 else n.toNat
theorem clip_le (n : Int) : clip n ≤ 64 := by unfold clip; split <;> (try split) <;> omega

/-! numbers of bytes, of bits -/
def leN : List UInt8 → Nat
  | [] => 0
  | b :: r => b.toNat + 256 * leN r
theorem leN_snoc (l : List UInt8) (b : UInt8) : leN (l ++ [b]) = leN l + b.toNat * 256 ^ l.length := by
  induction l with
  | nil => simp [leN]
  | cons x l ih => simp only [List.cons_append, leN, ih, List.length_cons, Nat.pow_succ, Nat.mul_add]; rw [← Nat.add_assoc]; congr 1; rw [Nat.mul_comm (256 ^ l.length) 256, Nat.mul_left_comm]
theorem leN_lt (l : List UInt8) : leN l < 256 ^ l.length := by
  induction l with
  | nil => simp [leN]
  | cons x l ih => have := x.toNat_lt; simp only [leN, List.length_cons, Nat.pow_succ]; omega
theorem leN_take (l : List UInt8) (k : Nat) (h : k < l.length) : leN (l.take (k + 1)) = leN (l.take k) + l[k].toNat * 256 ^ k := by
  rw [List.take_succ_eq_append_getElem h, leN_snoc, List.length_take, Nat.min_eq_left (by omega)]
theorem leN_drop (l : List UInt8) (k : Nat) (h : k < l.length) : leN (l.drop k) = l[k].toNat + 256 * leN (l.drop (k + 1)) := by
  rw [List.drop_eq_getElem_cons h, leN]
theorem leN_putL (v n : Nat) : leN (putL v n) = v % 256 ^ n := by
  induction n with
  | zero => simp [putL, leN]; omega
  | succ n ih =>
    rw [putL, leN_snoc, ih, putL_length, Nat.pow_succ, Nat.mod_mul]
    congr 1
    rw [UInt8.toNat_ofNat', Nat.mul_comm]
def getB (l : List UInt8) (n : Int) : Bool := decide (0 ≤ n ∧ n ≤ 8 ∧ n ≤ (l.length : Int))
def getV (l : List UInt8) (n : Int) : Nat := if getB l n = true then leN (l.take n.toNat) else 0
theorem getV_lt (l : List UInt8) (n : Int) : getV l n < 18446744073709551616 := by
  unfold getV
  split
  · rename_i h
    unfold getB at h
    have h := of_decide_eq_true h
    have h1 := leN_lt (l.take n.toNat)
    have h2 : 256 ^ (l.take n.toNat).length ≤ 256 ^ 8 := Nat.pow_le_pow_right (by omega) (by rw [List.length_take]; omega)
    omega
  · omega

def bitN (l : List UInt8) (i : Nat) : Nat := (l.getD (i / 8) 0).toNat / 2 ^ (i % 8) % 2
def fieldN (l : List UInt8) (a : Nat) : Nat → Nat
  | 0 => 0
  | n + 1 => fieldN l a n + bitN l (a + n) * 2 ^ n
theorem bitN_lt (l : List UInt8) (i : Nat) : bitN l i < 2 := Nat.mod_lt _ (by omega)
theorem fieldN_lt (l : List UInt8) (a n : Nat) : fieldN l a n < 2 ^ n := by
  induction n with
  | zero => simp [fieldN]
  | succ n ih =>
    have := bitN_lt l (a + n)
    have h0 : bitN l (a + n) * 2 ^ n ≤ 1 * 2 ^ n := Nat.mul_le_mul_right _ (by omega)
    simp only [fieldN, Nat.pow_succ]; omega
theorem fieldN_front (l : List UInt8) (a n : Nat) : fieldN l a (n + 1) = bitN l a + 2 * fieldN l (a + 1) n := by
  induction n with
  | zero => simp [fieldN]
  | succ n ih =>
    rw [fieldN, ih, fieldN, Nat.mul_add, Nat.pow_succ]
    rw [show a + (n + 1) = a + 1 + n from by omega, Nat.add_assoc]
    congr 2
    rw [Nat.mul_comm 2, Nat.mul_assoc]
theorem fieldN_add (l : List UInt8) (a n m : Nat) : fieldN l a (n + m) = fieldN l a n + fieldN l (a + n) m * 2 ^ n := by
  induction m with
  | zero => simp [fieldN]
  | succ m ih =>
    rw [← Nat.add_assoc, fieldN, ih, fieldN, Nat.add_mul, Nat.pow_add, Nat.add_assoc]
    congr 2
    rw [Nat.add_assoc, Nat.mul_assoc, Nat.mul_comm (2 ^ n)]
def fieldB (l : List UInt8) (a n : Int) : Bool := decide (0 ≤ n ∧ n ≤ 64 ∧ 0 ≤ a ∧ a + n ≤ 8 * (l.length : Int))
def fieldV (l : List UInt8) (a n : Int) : Nat := if fieldB l a n = true then fieldN l a.toNat n.toNat else 0

/-- a number of s bits laid i bits up beside a smaller one -/
theorem or_up (X x i s : Nat) (hX : X < 2 ^ i) (hx : x < 2 ^ s) (hi : i + s ≤ 64) : bits .or .u64 (X : Int) (IntKind.u64.wrap ((x : Int) * 2 ^ i)) = ((X + x * 2 ^ i : Nat) : Int) := by
  have h1 : x * 2 ^ i + 2 ^ i ≤ 2 ^ s * 2 ^ i := by
    have : (x + 1) * 2 ^ i ≤ 2 ^ s * 2 ^ i := Nat.mul_le_mul_right _ (by omega)
    rw [Nat.add_mul, Nat.one_mul] at this
    exact this
  have h2 : 2 ^ s * 2 ^ i ≤ 2 ^ 64 := by rw [← Nat.pow_add]; exact Nat.pow_le_pow_right (by omega) (by omega)
  have e1 : IntKind.u64.wrap ((x : Int) * 2 ^ i) = ((x * 2 ^ i : Nat) : Int) := by
    rw [Int.natCast_mul, Int.natCast_pow]
    refine IntWalk.u64_in _ ?_
    have e : ((x : Int) * 2 ^ i) = ((x * 2 ^ i : Nat) : Int) := by rw [Int.natCast_mul, Int.natCast_pow]; rfl
    constructor
    · rw [e]; omega
    · rw [e]; omega
  rw [e1, u64_or_nat _ _ (by omega) (by omega), Nat.or_comm, or_shl _ _ _ hX, Nat.add_comm]

theorem ofInt_i64n (a : Nat) (ha : a < 9223372036854775808) : (BitVec.ofInt 64 (a : Int)).toNat = a := by
  rw [BitVec.ofInt_natCast, BitVec.toNat_ofNat]; exact Nat.mod_eq_of_lt (by omega)
theorem i64_and7 (a : Nat) (ha : a < 9223372036854775808) : bits .and .i64 (a : Int) 7 = ((a % 8 : Nat) : Int) := by
  show IntKind.i64.wrap ((BitVec.ofInt 64 (a : Int) &&& BitVec.ofInt 64 ((7 : Nat) : Int)).toNat : Int) = _
  rw [BitVec.toNat_and, ofInt_i64n a ha, ofInt_i64n 7 (by omega), nat_mask3, IntKind.wrap_i64]
  omega
theorem u64_mask1 (a : Nat) (ha : a < 18446744073709551616) : bits .and .u64 (a : Int) 1 = ((a % 2 : Nat) : Int) := by
  have := u64_and1 a (by omega) (by omega)
  rw [this]; omega

theorem bitN_eq {l : List UInt8} {i x y : Nat} (h : i / 8 < l.length) (hx : l[i / 8].toNat = x) (hy : i % 8 = y) : bitN l i = x / 2 ^ y % 2 := by
  subst hx hy
  simp [bitN, List.getD, List.getElem?_eq_getElem h]
theorem field_or {l : List UInt8} {q k x y : Nat} (h : (q + k) / 8 < l.length) (hx : l[(q + k) / 8].toNat = x) (hy : (q + k) % 8 = y) (hk : k < 64) (hx2 : x < 2 ^ 8) :
    bits .or .u64 (fieldN l q k : Nat) (IntKind.u64.wrap (bits .and .u64 ((x : Int) / 2 ^ y) 1 * 2 ^ k)) = (fieldN l q (k + 1) : Nat) := by
  have e1 : (x : Int) / 2 ^ y = ((x / 2 ^ y : Nat) : Int) := by simp
  have h1 : x / 2 ^ y ≤ x := Nat.div_le_self _ _
  rw [e1, u64_mask1 _ (by omega), or_up _ _ k 1 (fieldN_lt l q k) (by omega) (by omega), fieldN, bitN_eq h hx hy]
theorem u8_mask1 (a : Nat) (ha : a < 256) : bits .and .u8 (a : Int) 1 = ((a % 2 : Nat) : Int) := by
  have := u8_and_nat a 1 ha (by omega)
  rw [nat_mask1] at this
  exact this
theorem field_add {l : List UInt8} {q j x y : Nat} (h : (q + j) / 8 < l.length) (hx : l[(q + j) / 8].toNat = x) (hy : (q + j) % 8 = y) (hx2 : x < 2 ^ 8) (n : Nat) :
    2 * (fieldN l (q + (j + 1)) n : Int) + bits .and .u8 ((x : Int) / 2 ^ y) 1 = (fieldN l (q + j) (n + 1) : Nat) := by
  have e1 : (x : Int) / 2 ^ y = ((x / 2 ^ y : Nat) : Int) := by simp
  have h1 : x / 2 ^ y ≤ x := Nat.div_le_self _ _
  rw [e1, u8_mask1 _ (by omega), fieldN_front, bitN_eq h hx hy]
  rw [show q + j + 1 = q + (j + 1) from by omega]
  omega

/-! numbers as few bytes -/
def varF : Nat → Nat → List UInt8
  | 0, _ => []
  | k + 1, v => if v < 128 then [UInt8.ofNat v] else UInt8.ofNat (v % 128 + 128) :: varF k (v / 128)
def varL (v : Nat) : List UInt8 := varF 10 v
theorem varF_length (k v : Nat) : (varF k v).length ≤ k := by
  induction k generalizing v with
  | zero => simp [varF]
  | succ k ih => rw [varF]; split
                 · simp
                 · have := ih (v / 128); simp; omega
theorem varL_length (v : Nat) : (varL v).length ≤ 10 := varF_length 10 v

def le128 : List UInt8 → Nat
  | [] => 0
  | b :: r => b.toNat % 128 + 128 * le128 r
theorem le128_lt (l : List UInt8) : le128 l < 128 ^ l.length := by
  induction l with
  | nil => simp [le128]
  | cons x l ih => simp only [le128, List.length_cons, Nat.pow_succ]; omega
theorem le128_snoc (l : List UInt8) (b : UInt8) : le128 (l ++ [b]) = le128 l + b.toNat % 128 * 128 ^ l.length := by
  induction l with
  | nil => simp [le128]
  | cons x l ih => simp only [List.cons_append, le128, ih, List.length_cons, Nat.pow_succ, Nat.mul_add]; rw [← Nat.add_assoc]; congr 1; rw [Nat.mul_comm (128 ^ l.length) 128, Nat.mul_left_comm]
theorem le128_take (l : List UInt8) (k : Nat) (h : k < l.length) : le128 (l.take (k + 1)) = le128 (l.take k) + l[k].toNat % 128 * 128 ^ k := by
  rw [List.take_succ_eq_append_getElem h, le128_snoc, List.length_take, Nat.min_eq_left (by omega)]
theorem le128_drop (l : List UInt8) (k : Nat) (h : k < l.length) : le128 (l.drop k) = l[k].toNat % 128 + 128 * le128 (l.drop (k + 1)) := by
  rw [List.drop_eq_getElem_cons h, le128]
/-- a row whose last number is at most d -/
theorem le128_top (l : List UInt8) (n j d : Nat) (h : n < l.length) (hj : j ≤ n) (hd : l[n].toNat % 128 ≤ d) : le128 ((l.take (n + 1)).drop j) < (d + 1) * 128 ^ (n - j) := by
  rw [List.take_succ_eq_append_getElem h, List.drop_append_of_le_length (by rw [List.length_take]; omega), le128_snoc]
  have h1 := le128_lt ((l.take n).drop j)
  rw [List.length_drop, List.length_take, Nat.min_eq_left (by omega)] at h1 ⊢
  have h2 : l[n].toNat % 128 * 128 ^ (n - j) ≤ d * 128 ^ (n - j) := Nat.mul_le_mul_right _ hd
  rw [Nat.add_mul, Nat.one_mul]
  omega

theorem u8_or128 (x : Nat) : bits .or .u8 ((x : Int) % 256) 128 = ((x % 128 + 128 : Nat) : Int) := by
  have h : ∀ y : Fin 256, y.val ||| 128 = y.val % 128 + 128 := by decide +kernel
  have h1 := h ⟨x % 256, by omega⟩
  have h2 := u8_or_nat (x % 256) 128 (by omega) (by omega)
  rw [h1] at h2
  rw [show ((x : Int) % 256) = ((x % 256 : Nat) : Int) from by omega]
  refine h2.trans ?_
  rw [show x % 256 % 128 = x % 128 from by omega]
theorem varF_go {k x : Nat} (hk : k ≤ 9) (h : 128 ≤ x) : varF (10 - k) x = UInt8.ofNat (x % 128 + 128) :: varF (10 - (k + 1)) (x / 128) := by
  rw [show 10 - k = (10 - (k + 1)) + 1 from by omega, varF, if_neg (by omega)]
theorem varF_end {k x : Nat} (hk : k ≤ 9) (h : x < 128) : varF (10 - k) x = [UInt8.ofNat x] := by
  rw [show 10 - k = (10 - (k + 1)) + 1 from by omega, varF, if_pos h]
theorem var_room {k x : Nat} (hk : k ≤ 9) (hx : x < 2 ^ (64 - 7 * k)) (h : 128 ≤ x) : k ≤ 8 ∧ x / 128 < 2 ^ (64 - 7 * (k + 1)) := by
  have h8 : k ≤ 8 := by
    rcases Nat.lt_or_ge k 9 with h1 | h1
    · omega
    · obtain rfl : k = 9 := by omega
      simp at hx; omega
  refine ⟨h8, ?_⟩
  have e : 2 ^ (64 - 7 * k) = 128 * 2 ^ (64 - 7 * (k + 1)) := by
    rw [show 64 - 7 * k = 7 + (64 - 7 * (k + 1)) from by omega, Nat.pow_add]
  omega

theorem u8_and127 (x : Nat) (h : x < 256) : bits .and .u8 (x : Int) 127 = ((x % 128 : Nat) : Int) := by
  have := u8_and_nat x 127 h (by omega)
  rw [nat_mask7] at this
  exact this

theorem u64_wrap_rng (n : Int) : 0 ≤ IntKind.u64.wrap n ∧ IntKind.u64.wrap n < 18446744073709551616 := by rw [IntKind.wrap_u64]; omega
theorem or_any (x z k : Nat) (hx : x < 18446744073709551616) :
    ∃ x' : Nat, bits .or .u64 (x : Int) (IntKind.u64.wrap ((z : Int) * 2 ^ (7 * k))) = (x' : Int) ∧ x' < 18446744073709551616 ∧
      (x < 2 ^ (7 * k) → (7 * k + 7 ≤ 64 ∧ z < 128) ∨ (7 * k + 1 ≤ 64 ∧ z < 2) → x' = x + z * 128 ^ k) := by
  have hw := u64_wrap_rng ((z : Int) * 2 ^ (7 * k))
  have h1 := u64_or (x : Int) (IntKind.u64.wrap ((z : Int) * 2 ^ (7 * k))) (by omega) (by omega) hw.1 hw.2
  refine ⟨_, h1, Nat.or_lt_two_pow (n := 64) (by omega) (by omega), fun hlt hc => ?_⟩
  have e : 128 ^ k = 2 ^ (7 * k) := by rw [Nat.pow_mul]
  rw [e]
  refine Int.ofNat_inj.1 (h1.symm.trans ?_)
  rcases hc with ⟨hc, hz⟩ | ⟨hc, hz⟩
  · exact or_up x z (7 * k) 7 hlt hz hc
  · exact or_up x z (7 * k) 1 hlt hz hc

/-- how many bytes at the front say that more come, ten at most -/
def contF : Nat → List UInt8 → Nat
  | 0, _ => 0
  | _ + 1, [] => 0
  | k + 1, b :: r => if 128 ≤ b.toNat then contF k r + 1 else 0
def cont (l : List UInt8) : Nat := contF 10 l
theorem contF_le (k : Nat) (l : List UInt8) : contF k l ≤ k ∧ contF k l ≤ l.length := by
  induction k generalizing l with
  | zero => simp [contF]
  | succ k ih =>
    cases l with
    | nil => simp [contF]
    | cons b r => rw [contF]; have := ih r; split <;> simp <;> omega
theorem contF_on (k : Nat) (l : List UInt8) (i : Nat) (h : i < contF k l) (hl : i < l.length) : 128 ≤ l[i].toNat := by
  induction k generalizing l i with
  | zero => simp [contF] at h
  | succ k ih =>
    cases l with
    | nil => simp at hl
    | cons b r =>
      rw [contF] at h
      split at h
      · rename_i hb
        cases i with
        | zero => simpa using hb
        | succ i => simpa using ih r i (by omega) (by simpa using hl)
      · omega
theorem contF_off (k : Nat) (l : List UInt8) (h : contF k l < k) (hl : contF k l < l.length) : l[contF k l].toNat < 128 := by
  induction k generalizing l with
  | zero => omega
  | succ k ih =>
    cases l with
    | nil => simp at hl
    | cons b r =>
      by_cases hb : 128 ≤ b.toNat
      · have e : contF (k + 1) (b :: r) = contF k r + 1 := by rw [contF, if_pos hb]
        have := ih r (by omega) (by rw [e] at hl; simpa using hl)
        simp only [e]
        simpa using this
      · have e : contF (k + 1) (b :: r) = 0 := by rw [contF, if_neg hb]
        simp only [e]
        simpa using hb
theorem cont_le (l : List UInt8) : cont l ≤ 10 ∧ cont l ≤ l.length := contF_le 10 l
theorem cont_on (l : List UInt8) (i : Nat) (h : i < cont l) (hl : i < l.length) : 128 ≤ l[i].toNat := contF_on 10 l i h hl
theorem cont_off (l : List UInt8) (h : cont l < 10) (hl : cont l < l.length) : l[cont l].toNat < 128 := contF_off 10 l h hl

/-- what a number of few bytes at the front is: 0: right; 21: too short; 22: no such form -/
def rvE (l : List UInt8) : Nat :=
  if cont l = 10 then 22 else if cont l = l.length then 21 else if (0 < cont l ∧ l.getD (cont l) 0 = 0) ∨ (cont l = 9 ∧ 1 < (l.getD (cont l) 0).toNat) then 22 else 0
def rvV (l : List UInt8) : Nat := if rvE l = 0 then le128 (l.take (cont l + 1)) else 0
def rvN (l : List UInt8) : Nat := if rvE l = 0 then cont l + 1 else 0

/-- what the last byte must be where the number is right -/
theorem rvE_zero {l : List UInt8} (h : rvE l = 0) : cont l < 10 ∧ cont l < l.length ∧ (cont l = 9 → (l.getD (cont l) 0).toNat ≤ 1) := by
  have := cont_le l
  unfold rvE at h
  by_cases h1 : cont l = 10
  · rw [if_pos h1] at h; omega
  · rw [if_neg h1] at h
    by_cases h2 : cont l = l.length
    · rw [if_pos h2] at h; omega
    · rw [if_neg h2] at h
      by_cases h3 : (0 < cont l ∧ l.getD (cont l) 0 = 0) ∨ (cont l = 9 ∧ 1 < (l.getD (cont l) 0).toNat)
      · rw [if_pos h3] at h; omega
      · refine ⟨by omega, by omega, fun h9 => ?_⟩
        rcases Nat.lt_or_ge 1 (l.getD (cont l) 0).toNat with h4 | h4
        · exact absurd (Or.inr ⟨h9, h4⟩) h3
        · exact h4
theorem rv_lt {l : List UInt8} (h : rvE l = 0) : le128 (l.take (cont l + 1)) < 18446744073709551616 := by
  obtain ⟨h1, h2, h3⟩ := rvE_zero h
  have hg : l.getD (cont l) 0 = l[cont l] := by simp [List.getD, List.getElem?_eq_getElem h2]
  by_cases h9 : cont l = 9
  · have hb := h3 h9
    rw [hg] at hb
    have := le128_top l (cont l) 0 1 h2 (by omega) (by omega)
    rw [List.drop_zero, h9] at this
    rw [h9]
    omega
  · have := le128_lt (l.take (cont l + 1))
    have h4 : 128 ^ (l.take (cont l + 1)).length ≤ 128 ^ 9 := Nat.pow_le_pow_right (by omega) (by rw [List.length_take]; omega)
    omega

/-! there and back -/
theorem fieldN_byte (l : List UInt8) (j : Nat) (h : j < l.length) : fieldN l (8 * j) 8 = l[j].toNat := by
  have key : ∀ x : Fin 256, x.val % 2 + x.val / 2 % 2 * 2 + x.val / 4 % 2 * 4 + x.val / 8 % 2 * 8 + x.val / 16 % 2 * 16 + x.val / 32 % 2 * 32 + x.val / 64 % 2 * 64 + x.val / 128 % 2 * 128 = x.val := by decide +kernel
  have hb : ∀ i, i < 8 → bitN l (8 * j + i) = l[j].toNat / 2 ^ i % 2 := fun i hi => bitN_eq (by rw [show (8 * j + i) / 8 = j from by omega]; exact h) (by simp only [show (8 * j + i) / 8 = j from by omega]) (by omega)
  have h1 := key ⟨l[j].toNat, l[j].toNat_lt⟩
  simp only [fieldN, hb 0 (by omega), hb 1 (by omega), hb 2 (by omega), hb 3 (by omega), hb 4 (by omega), hb 5 (by omega), hb 6 (by omega), hb 7 (by omega)]
  simp only [Nat.reducePow, Nat.div_one, Nat.mul_one, Nat.zero_add]
  exact h1
theorem fieldN_bytes (l : List UInt8) (k : Nat) (h : k ≤ l.length) : fieldN l 0 (8 * k) = leN (l.take k) := by
  induction k with
  | zero => simp [fieldN, leN]
  | succ k ih =>
    rw [show 8 * (k + 1) = 8 * k + 8 from by omega, fieldN_add, Nat.zero_add, fieldN_byte l k (by omega), ih (by omega), leN_take l k (by omega), show 2 ^ (8 * k) = 256 ^ k from by rw [Nat.pow_mul]]
theorem u64_low (u n : Nat) (hu : u < 18446744073709551616) (hn : n < 8) : bits .and .u64 (u : Int) ((2 : Int) ^ (8 * n) - 1) = ((u % 256 ^ n : Nat) : Int) := by
  have h2 : 2 ^ (8 * n) ≤ 2 ^ 56 := Nat.pow_le_pow_right (by omega) (by omega)
  have h3 : 0 < 2 ^ (8 * n) := Nat.two_pow_pos _
  have e : ((2 : Int) ^ (8 * n) - 1) = ((2 ^ (8 * n) - 1 : Nat) : Int) := by
    rw [Int.ofNat_sub (by omega), Int.natCast_pow]; rfl
  rw [e, u64_and_nat _ _ hu (by omega), Nat.and_two_pow_sub_one_eq_mod, show 256 ^ n = 2 ^ (8 * n) from by rw [Nat.pow_mul]]

theorem varF_spec (k v : Nat) (more : List UInt8) (hv : v < 2 ^ (7 * k)) (hk : 0 < k) :
    contF k (varF k v ++ more) + 1 = (varF k v).length ∧ le128 (varF k v) = v ∧ (∃ d : UInt8, (varF k v ++ more)[contF k (varF k v ++ more)]? = some d ∧ (1 < (varF k v).length → 0 < d.toNat)) := by
  induction k generalizing v with
  | zero => omega
  | succ k ih =>
    by_cases hs : v < 128
    · have e : varF (k + 1) v = [UInt8.ofNat v] := by rw [varF, if_pos hs]
      have e2 : contF (k + 1) ([UInt8.ofNat v] ++ more) = 0 := by
        show (if 128 ≤ (UInt8.ofNat v).toNat then _ else 0) = 0
        rw [if_neg (by simp; omega)]
      rw [e, e2]
      refine ⟨rfl, by simp [le128]; omega, UInt8.ofNat v, rfl, by simp⟩
    · have hk0 : 0 < k := by
        rcases Nat.eq_zero_or_pos k with h | h
        · subst h; simp at hv; omega
        · exact h
      have e : varF (k + 1) v = UInt8.ofNat (v % 128 + 128) :: varF k (v / 128) := by rw [varF, if_neg hs]
      have hv2 : v / 128 < 2 ^ (7 * k) := by
        have : 2 ^ (7 * (k + 1)) = 128 * 2 ^ (7 * k) := by rw [show 7 * (k + 1) = 7 + 7 * k from by omega, Nat.pow_add]
        omega
      obtain ⟨h1, h2, d, h3, h4⟩ := ih (v / 128) hv2 hk0
      have e2 : contF (k + 1) (UInt8.ofNat (v % 128 + 128) :: varF k (v / 128) ++ more) = contF k (varF k (v / 128) ++ more) + 1 := by
        show (if 128 ≤ (UInt8.ofNat (v % 128 + 128)).toNat then contF k (varF k (v / 128) ++ more) + 1 else 0) = _
        rw [if_pos (by simp; omega)]
      rw [e, e2]
      refine ⟨by rw [h1]; rfl, ?_, d, by simpa using h3, fun _ => ?_⟩
      · rw [le128, h2]; simp; omega
      · rcases Nat.lt_or_ge 1 (varF k (v / 128)).length with h5 | h5
        · exact h4 h5
        · have h6 : varF k (v / 128) = [UInt8.ofNat (v / 128)] := by
            obtain ⟨k', rfl⟩ : ∃ k', k = k' + 1 := ⟨k - 1, by omega⟩
            by_cases h7 : v / 128 < 128
            · rw [varF, if_pos h7]
            · exfalso
              rw [varF, if_neg h7] at h5
              have h8 := (ih (v / 128) hv2 hk0).1
              rw [varF, if_neg h7] at h8
              have h9 : contF (k' + 1) (UInt8.ofNat (v / 128 % 128 + 128) :: varF k' (v / 128 / 128) ++ more) = contF k' (varF k' (v / 128 / 128) ++ more) + 1 := by
                show (if 128 ≤ (UInt8.ofNat (v / 128 % 128 + 128)).toNat then contF k' (varF k' (v / 128 / 128) ++ more) + 1 else 0) = _
                rw [if_pos (by simp; omega)]
              rw [h9] at h8
              omega
          have h7 : v / 128 < 128 := by
            rcases Nat.lt_or_ge (v / 128) 128 with h8 | h8
            · exact h8
            · exfalso
              have := h2
              rw [h6] at this
              simp [le128] at this
              omega
          rw [h6] at h3 h1
          have h9 : contF k ([UInt8.ofNat (v / 128)] ++ more) = 0 := by simp at h1; exact h1
          rw [h9] at h3
          simp at h3
          subst h3
          simp
          omega
theorem readvar_var (u : Nat) (hu : u < 18446744073709551616) (more : List UInt8) : rvE (varL u ++ more) = 0 ∧ rvV (varL u ++ more) = u ∧ rvN (varL u ++ more) = (varL u).length := by
  obtain ⟨h1, h2, d, h3, h4⟩ := varF_spec 10 u more (by omega) (by omega)
  have hl : (varL u).length ≤ 10 := varL_length u
  change cont (varL u ++ more) + 1 = (varL u).length at h1
  change le128 (varL u) = u at h2
  change (varL u ++ more)[cont (varL u ++ more)]? = some d at h3
  change 1 < (varL u).length → 0 < d.toNat at h4
  have hg : (varL u ++ more).getD (cont (varL u ++ more)) 0 = d := by simp [List.getD, h3]
  have hlen : (varL u ++ more).length = (varL u).length + more.length := List.length_append
  have htk : (varL u ++ more).take (cont (varL u ++ more) + 1) = varL u := by rw [h1]; exact List.take_left
  have hd9 : cont (varL u ++ more) = 9 → d.toNat ≤ 1 := by
    intro h9
    have hlt : 9 < (varL u).length := by omega
    have hdd : (varL u)[9] = d := by
      rw [h9, List.getElem?_append_left hlt, List.getElem?_eq_getElem hlt] at h3
      exact Option.some.inj h3
    have e10 : varL u = (varL u).take 9 ++ [(varL u)[9]] := by
      rw [← List.take_succ_eq_append_getElem hlt, List.take_of_length_le (by omega)]
    rw [e10, le128_snoc, hdd, List.length_take, Nat.min_eq_left (by omega)] at h2
    have hd128 : d.toNat < 128 := by
      have := cont_off (varL u ++ more) (by omega) (by omega)
      have e : (varL u ++ more)[cont (varL u ++ more)]'(by omega) = d := by
        have h5 := List.getElem?_eq_getElem (l := varL u ++ more) (i := cont (varL u ++ more)) (by omega)
        rw [h5] at h3
        exact Option.some.inj h3
      rw [e] at this
      exact this
    rw [Nat.mod_eq_of_lt hd128] at h2
    omega
  have hE : rvE (varL u ++ more) = 0 := by
    unfold rvE
    rw [if_neg (by omega), if_neg (by omega), hg, if_neg]
    rintro (⟨h5, h6⟩ | ⟨h5, h6⟩)
    · have := h4 (by omega)
      rw [h6] at this
      simp at this
    · have := hd9 h5
      omega
  refine ⟨hE, ?_, ?_⟩
  · unfold rvV; rw [if_pos hE, htk, h2]
  · unfold rvN; rw [if_pos hE, h1]

/-! multiples -/
def upB (v to : Int) : Bool := decide (0 ≤ v ∧ 1 ≤ to ∧ v ≤ 4611686018427387904 ∧ (v % to = 0 ∨ v - v % to + to ≤ 4611686018427387904))
def upV (v to : Int) : Int := if upB v to = true then (if v % to = 0 then v else v - v % to + to) else 0

end Go.Proofs.Ytlbodandidopfaa.Pu
