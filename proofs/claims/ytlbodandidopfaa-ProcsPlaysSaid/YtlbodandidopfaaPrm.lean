/- Plain facts on sets of numbers below sixty-four, held as bits. Conditions: none. -/
import Derived.Laws.BitsAllLaws
import Derived.Laws.BitsLemmas
import Derived.IntWalk
namespace Go.Proofs.Ytlbodandidopfaa.Pm
set_option linter.unusedSimpArgs false
set_option linter.unusedVariables false
def pop (b : Nat) : Nat := if b = 0 then 0 else b % 2 + pop (b / 2)
theorem pop_zero : pop 0 = 0 := by unfold pop; rfl
theorem pop_step (b : Nat) : pop b = b % 2 + pop (b / 2) := by
  rcases Nat.eq_zero_or_pos b with rfl | h
  · simp [pop_zero]
  · rw [pop, if_neg (by omega)]
theorem and_div2 (a b : Nat) : (a &&& b) / 2 = a / 2 &&& b / 2 := by
  have := Nat.and_div_two_pow (a := a) (b := b) (n := 1)
  simpa using this
theorem and_mod2 (a b : Nat) : (a &&& b) % 2 = a % 2 * (b % 2) := by
  have h := Nat.and_mod_two_pow (a := a) (b := b) (n := 1)
  rcases Nat.mod_two_eq_zero_or_one a with ha | ha <;> rcases Nat.mod_two_eq_zero_or_one b with hb | hb <;> simp [ha, hb] at h ⊢ <;> omega
theorem pop_pred (b : Nat) (h : 0 < b) : pop b = pop (b &&& (b - 1)) + 1 := by
  induction b using Nat.strongRecOn with
  | _ b ih =>
    rw [pop_step b, pop_step (b &&& (b - 1)), and_div2, and_mod2]
    rcases Nat.mod_two_eq_zero_or_one b with hb | hb
    · have h2 : 0 < b / 2 := by omega
      have e : (b - 1) / 2 = b / 2 - 1 := by omega
      rw [e, ih (b / 2) (by omega) h2, hb]
      omega
    · have e : (b - 1) / 2 = b / 2 := by omega
      have e2 : (b - 1) % 2 = 0 := by omega
      rw [e, e2, Nat.and_self, hb]
      omega
theorem pop_ones (n : Nat) : pop (2 ^ n - 1) = n := by
  induction n with
  | zero => simp [pop_zero]
  | succ n ih =>
    have hp : 0 < 2 ^ n := Nat.two_pow_pos n
    have e : 2 ^ (n + 1) = 2 * 2 ^ n := by rw [Nat.pow_succ]; omega
    rw [pop_step]
    have e1 : (2 ^ (n + 1) - 1) % 2 = 1 := by omega
    have e2 : (2 ^ (n + 1) - 1) / 2 = 2 ^ n - 1 := by omega
    rw [e1, e2, ih]; omega
theorem pop_le (n b : Nat) (h : b < 2 ^ n) : pop b ≤ n := by
  induction n generalizing b with
  | zero => obtain rfl : b = 0 := by simpa using h
            rw [pop_zero]; exact Nat.le_refl _
  | succ n ih =>
    rw [pop_step]
    have := ih (b / 2) (by rw [Nat.pow_succ] at h; omega)
    omega
/-- the bit -/
def hb (b p : Nat) : Bool := b.testBit p
theorem hb_eq (b p : Nat) : hb b p = decide (b / 2 ^ p % 2 = 1) := by
  unfold hb
  rw [Nat.testBit_eq_decide_div_mod_eq]
theorem hb_lt {n b p : Nat} (h : b < 2 ^ n) (hp : hb b p = true) : p < n := by
  unfold hb at hp
  rcases Nat.lt_or_ge p n with h1 | h1
  · exact h1
  · have : b < 2 ^ p := Nat.lt_of_lt_of_le h (Nat.pow_le_pow_right (by decide) h1)
    rw [Nat.testBit_lt_two_pow this] at hp
    cases hp
theorem full {n b : Nat} (h : b < 2 ^ n) (hall : ∀ p, p < n → hb b p = true) : b = 2 ^ n - 1 := by
  apply Nat.eq_of_testBit_eq
  intro i
  rw [Nat.testBit_two_pow_sub_one]
  rcases Nat.lt_or_ge i n with h1 | h1
  · rw [show b.testBit i = true from hall i h1]; simp [h1]
  · have : b < 2 ^ i := Nat.lt_of_lt_of_le h (Nat.pow_le_pow_right (by decide) h1)
    rw [Nat.testBit_lt_two_pow this]; simp; omega
def put (b p : Nat) : Nat := b ||| 2 ^ p
def cut (b p : Nat) : Nat := b &&& (18446744073709551615 - 2 ^ p)
theorem hb_put (b p q : Nat) : hb (put b p) q = (hb b q || decide (p = q)) := by
  unfold hb put
  rw [Nat.testBit_or, Nat.testBit_two_pow]
theorem put_lt {n b p : Nat} (h : b < 2 ^ n) (hp : p < n) : put b p < 2 ^ n :=
  Nat.or_lt_two_pow h (Nat.pow_lt_pow_right (by decide) hp)
theorem mask (p q : Nat) (hp : p < 64) : (18446744073709551615 - 2 ^ p).testBit q = (decide (q < 64) && !decide (p = q)) := by
  have h := Nat.testBit_two_pow_sub_succ (x := 2 ^ p) (n := 64) (Nat.pow_lt_pow_right (by decide) hp) q
  rw [show (18446744073709551615 - 2 ^ p) = 2 ^ 64 - (2 ^ p + 1) from by
    have : 2 ^ p < 2 ^ 64 := Nat.pow_lt_pow_right (by decide) hp
    omega]
  rw [h, Nat.testBit_two_pow]
theorem hb_cut (b p q : Nat) (hp : p < 64) (hbt : b < 2 ^ 64) : hb (cut b p) q = (hb b q && !decide (p = q)) := by
  unfold hb cut
  rw [Nat.testBit_and, mask p q hp]
  rcases Nat.lt_or_ge q 64 with h | h
  · simp [h]
  · have : b < 2 ^ q := Nat.lt_of_lt_of_le hbt (Nat.pow_le_pow_right (by decide) h)
    rw [Nat.testBit_lt_two_pow this]; simp
theorem cut_le (b p : Nat) : cut b p ≤ b := Nat.and_le_left
theorem cut_put {b p : Nat} (hp : p < 64) (hbt : b < 2 ^ 64) (h : hb b p = false) : cut (put b p) p = b := by
  apply Nat.eq_of_testBit_eq
  intro i
  have h1 := hb_cut (put b p) p i hp (put_lt hbt hp)
  have h2 := hb_put b p i
  unfold hb at h1 h2 h
  rw [h1, h2]
  by_cases hi : p = i
  · subst hi; simp [h]
  · simp [hi]
end Go.Proofs.Ytlbodandidopfaa.Pm
