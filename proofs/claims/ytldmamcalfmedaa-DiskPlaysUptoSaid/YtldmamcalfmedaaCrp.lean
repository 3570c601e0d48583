/- Plain facts on sums by the polynomial 1EDC6F41 with its bits turned: a step is linear, has no root but zero, and nibbles are four steps. Conditions: none. -/
import Derived.Laws.BitsAllLaws
import Derived.Laws.BitsLemmas
import Derived.IntWalk
namespace Go.Proofs.Ytldmamcalfmedaa.Cr
set_option linter.unusedSimpArgs false
set_option linter.unusedVariables false
/-- the polynomial -/
def P : Nat := 2197175160
/-- one step -/
def st (r : Nat) : Nat := if r % 2 = 1 then (r / 2) ^^^ P else r / 2
def sts : Nat → Nat → Nat
  | 0, r => r
  | n + 1, r => sts n (st r)
theorem xor_div2 (a b : Nat) : (a ^^^ b) / 2 = (a / 2) ^^^ (b / 2) := by
  have := Nat.xor_div_two_pow (a := a) (b := b) (n := 1)
  simpa using this
theorem xor_mod2 (a b : Nat) : (a ^^^ b) % 2 = (a % 2 + b % 2) % 2 := by
  have h := Nat.xor_mod_two_pow (a := a) (b := b) (n := 1)
  rcases Nat.mod_two_eq_zero_or_one a with ha | ha <;> rcases Nat.mod_two_eq_zero_or_one b with hb | hb <;> simp [ha, hb] at h ⊢ <;> omega
theorem st_xor (a b : Nat) : st (a ^^^ b) = st a ^^^ st b := by
  unfold st
  rw [xor_div2, xor_mod2]
  rcases Nat.mod_two_eq_zero_or_one a with ha | ha <;> rcases Nat.mod_two_eq_zero_or_one b with hb | hb <;> simp [ha, hb]
  · exact Nat.xor_assoc _ _ _
  · rw [Nat.xor_assoc, Nat.xor_comm (b / 2) P, ← Nat.xor_assoc]
  · rw [Nat.xor_assoc, ← Nat.xor_assoc P (b / 2) P, Nat.xor_comm P (b / 2), Nat.xor_assoc (b / 2) P P, Nat.xor_self, Nat.xor_zero]
theorem st_zero : st 0 = 0 := rfl
theorem st_lt {r : Nat} (h : r < 2 ^ 32) : st r < 2 ^ 32 := by
  unfold st
  split
  · exact Nat.xor_lt_two_pow (by omega) (by decide)
  · omega
theorem sts_xor (n a b : Nat) : sts n (a ^^^ b) = sts n a ^^^ sts n b := by
  induction n generalizing a b with
  | zero => rfl
  | succ n ih => show sts n (st (a ^^^ b)) = _; rw [st_xor, ih]; rfl
theorem sts_lt {r : Nat} (n : Nat) (h : r < 2 ^ 32) : sts n r < 2 ^ 32 := by
  induction n generalizing r with
  | zero => exact h
  | succ n ih => exact ih (st_lt h)
theorem sts_add (m n r : Nat) : sts (m + n) r = sts n (sts m r) := by
  induction m generalizing r with
  | zero => rw [Nat.zero_add]; rfl
  | succ m ih => rw [Nat.succ_add]; exact ih (st r)
theorem sts_zero (n : Nat) : sts n 0 = 0 := by
  induction n with
  | zero => rfl
  | succ n ih => exact ih
theorem st_even {r : Nat} (h : r % 2 = 0) : st r = r / 2 := by unfold st; rw [if_neg (by omega)]
theorem sts_shift (n r : Nat) : sts n (r * 2 ^ n) = r := by
  induction n generalizing r with
  | zero => simp [sts]
  | succ n ih =>
    show sts n (st (r * 2 ^ (n + 1))) = r
    rw [Nat.pow_succ, ← Nat.mul_assoc, st_even (Nat.mul_mod_left _ _), Nat.mul_div_cancel _ (by decide)]
    exact ih r
/-- the step forgets nothing -/
theorem st_inj0 {r : Nat} (h : r < 2 ^ 32) (h0 : st r = 0) : r = 0 := by
  unfold st at h0
  split at h0
  · have h1 : (r / 2) = P := by
      have := congrArg (· ^^^ P) h0
      simpa [Nat.xor_assoc] using this
    have : P = 2197175160 := rfl
    omega
  · omega
theorem sts_inj0 (n : Nat) {r : Nat} (h : r < 2 ^ 32) (h0 : sts n r = 0) : r = 0 := by
  induction n generalizing r with
  | zero => exact h0
  | succ n ih => exact st_inj0 h (ih (st_lt h) h0)
/-- a byte -/
def byte (c x : Nat) : Nat := sts 8 (c ^^^ x)
theorem byte_lt {c x : Nat} (hc : c < 2 ^ 32) (hx : x < 256) : byte c x < 2 ^ 32 := sts_lt 8 (Nat.xor_lt_two_pow hc (by omega))
def run (c : Nat) (l : List Nat) : Nat := l.foldl byte c
theorem run_nil (c : Nat) : run c [] = c := rfl
theorem run_cons (c x : Nat) (l : List Nat) : run c (x :: l) = run (byte c x) l := rfl
theorem run_append (c : Nat) (l m : List Nat) : run c (l ++ m) = run (run c l) m := List.foldl_append
theorem run_lt {c : Nat} (hc : c < 2 ^ 32) (l : List Nat) (hl : ∀ x ∈ l, x < 256) : run c l < 2 ^ 32 := by
  induction l generalizing c with
  | nil => exact hc
  | cons x l ih => exact ih (byte_lt hc (hl x (by simp))) (fun y hy => hl y (by simp [hy]))
theorem run_xor (c d : Nat) (l : List Nat) : run (c ^^^ d) l = run c l ^^^ sts (8 * l.length) d := by
  induction l generalizing c d with
  | nil => rfl
  | cons x l ih =>
    rw [run_cons, run_cons]
    have e : byte (c ^^^ d) x = byte c x ^^^ sts 8 d := by
      unfold byte
      rw [Nat.xor_assoc, Nat.xor_comm d x, ← Nat.xor_assoc, sts_xor]
    rw [e, ih, List.length_cons, show 8 * (l.length + 1) = 8 + 8 * l.length from by omega, sts_add]
/-- three rows mixed -/
theorem run_mix (c d e : Nat) : ∀ (l m n : List Nat), l.length = m.length → m.length = n.length →
    run (c ^^^ d ^^^ e) (List.zipWith (· ^^^ ·) (List.zipWith (· ^^^ ·) l m) n) = run c l ^^^ run d m ^^^ run e n
  | [], [], [], _, _ => rfl
  | x :: l, y :: m, z :: n, h1, h2 => by
    have e1 : byte (c ^^^ d ^^^ e) (x ^^^ y ^^^ z) = byte c x ^^^ byte d y ^^^ byte e z := by
      unfold byte
      rw [← sts_xor, ← sts_xor]
      congr 1
      apply Nat.eq_of_testBit_eq
      intro i
      simp only [Nat.testBit_xor]
      cases c.testBit i <;> cases d.testBit i <;> cases e.testBit i <;> cases x.testBit i <;> cases y.testBit i <;> cases z.testBit i <;> rfl
    show run (byte (c ^^^ d ^^^ e) (x ^^^ y ^^^ z)) _ = _
    rw [e1]
    exact run_mix _ _ _ l m n (by simpa using h1) (by simpa using h2)
/-- nibbles -/
def nib : List Nat := [0, 274646895, 549293790, 820201905, 1098587580, 1361435347, 1640403810, 1905808397, 2197175160, 2460548119, 2722870694, 2987750089, 3280807620, 3553878443, 3811616794, 4084100981]
def nb (c : Nat) : Nat := nib.getD (c % 16) 0 ^^^ c / 16
theorem nib_eq : ∀ l : Nat, l < 16 → nib.getD l 0 = sts 4 l := by decide
theorem nb_eq (c : Nat) : nb c = sts 4 c := by
  have hlo : (c / 16 * 2 ^ 4) % 2 ^ 4 = 0 := Nat.mul_mod_left _ _
  have h1 := nat_join 4 (c / 16 * 2 ^ 4) (c % 16) hlo (by omega)
  have h2 : (c / 16 * 2 ^ 4) ^^^ (c % 16) = (c / 16 * 2 ^ 4) ||| (c % 16) := by
    apply Nat.eq_of_testBit_eq
    intro i
    rw [Nat.testBit_xor, Nat.testBit_or, Nat.testBit_mul_two_pow]
    rcases Nat.lt_or_ge i 4 with h | h
    · simp [show ¬ 4 ≤ i from by omega]
    · have : c % 16 < 2 ^ i := Nat.lt_of_lt_of_le (show c % 16 < 2 ^ 4 by omega) (Nat.pow_le_pow_right (by decide) h)
      rw [Nat.testBit_lt_two_pow this]; simp
  have h3 : (c / 16 * 2 ^ 4) ^^^ (c % 16) = c := by rw [h2, h1]; omega
  have h4 : sts 4 c = sts 4 (c / 16 * 2 ^ 4) ^^^ sts 4 (c % 16) := by rw [← sts_xor, h3]
  rw [h4, sts_shift, ← nib_eq _ (by omega), Nat.xor_comm]
  rfl
theorem nb_lt {c : Nat} (h : c < 2 ^ 32) : nb c < 2 ^ 32 := by rw [nb_eq]; exact sts_lt 4 h
theorem nb_byte (c x : Nat) : nb (nb (c ^^^ x)) = byte c x := by rw [nb_eq, nb_eq, ← sts_add]; rfl
/-! the sum -/
def I : Nat := 4294967295
def sum (l : List Nat) : Nat := run I l ^^^ I
theorem sum_lt (l : List Nat) (hl : ∀ x ∈ l, x < 256) : sum l < 2 ^ 32 := Nat.xor_lt_two_pow (run_lt (by decide) l hl) (by decide)
theorem xor_cancel (a b : Nat) : a ^^^ b ^^^ b = a := by rw [Nat.xor_assoc, Nat.xor_self, Nat.xor_zero]
theorem sum_append (a b : List Nat) : sum (a ++ b) = sts (8 * b.length) (sum a) ^^^ sum b := by
  unfold sum
  rw [run_append]
  have e : run I a = I ^^^ (run I a ^^^ I) := by rw [Nat.xor_comm I, xor_cancel]
  have h := run_xor I (run I a ^^^ I) b
  rw [← e] at h
  rw [h, Nat.xor_comm (run I b), Nat.xor_assoc]
theorem sum_mix (l m n : List Nat) (h1 : l.length = m.length) (h2 : m.length = n.length) : sum (List.zipWith (· ^^^ ·) (List.zipWith (· ^^^ ·) l m) n) = sum l ^^^ sum m ^^^ sum n := by
  unfold sum
  have h := run_mix I I I l m n h1 h2
  rw [xor_cancel] at h
  rw [h]
  apply Nat.eq_of_testBit_eq
  intro i
  simp only [Nat.testBit_xor]
  cases (run I l).testBit i <;> cases (run I m).testBit i <;> cases (run I n).testBit i <;> cases I.testBit i <;> rfl
/-! times -/
def one : Nat := 2147483648
/-- the loop of times: k bits of a are still to come, a's are at the top -/
def times (k a b out : Nat) : Nat :=
  match k with
  | 0 => out
  | k + 1 => times k (a * 2 % 2 ^ 32) (st b) (if a / one % 2 = 1 then out ^^^ b else out)
/-- the bits of a, from the top: what they make of b -/
def tm (k a b : Nat) : Nat :=
  match k with
  | 0 => 0
  | k + 1 => (if a / 2 ^ k % 2 = 1 then b else 0) ^^^ tm k a (st b)
theorem tm_sts (k a m b : Nat) : tm k a (sts m b) = sts m (tm k a b) := by
  induction k generalizing b with
  | zero => exact (sts_zero m).symm
  | succ k ih =>
    unfold tm
    rw [sts_xor, ← ih, show st (sts m b) = sts m (st b) from by
      have h1 : sts (m + 1) b = sts 1 (sts m b) := sts_add m 1 b
      have h2 : sts (1 + m) b = sts m (sts 1 b) := sts_add 1 m b
      rw [Nat.add_comm] at h2
      exact h1.symm.trans h2]
    congr 1
    split
    · rfl
    · exact (sts_zero m).symm
theorem tm_one (k a : Nat) (hk : k ≤ 32) : tm k a (2 ^ (k - 1)) = a % 2 ^ k := by
  induction k with
  | zero => simp [tm, Nat.mod_one]
  | succ k ih =>
    unfold tm
    have e1 : (2 ^ (k + 1 - 1) : Nat) = 2 ^ k := by simp
    rw [e1]
    have h2 : a % 2 ^ (k + 1) = a % 2 ^ k + 2 ^ k * (a / 2 ^ k % 2) := by rw [Nat.pow_succ]; exact Nat.mod_mul
    cases k with
    | zero =>
      simp [tm]
      split <;> omega
    | succ j =>
      have e2 : st (2 ^ (j + 1)) = 2 ^ (j + 1 - 1) := by
        rw [st_even (by rw [Nat.pow_succ]; exact Nat.mul_mod_left _ _), Nat.pow_succ, Nat.mul_div_cancel _ (by decide)]; simp
      rw [e2, ih (by omega), h2]
      have hlt : a % 2 ^ (j + 1) < 2 ^ (j + 1) := Nat.mod_lt _ (Nat.two_pow_pos _)
      split
      · next hb =>
        rw [hb, Nat.mul_one]
        have h3 := nat_join (j + 1) (2 ^ (j + 1)) (a % 2 ^ (j + 1)) (Nat.mod_self _) hlt
        have h4 : (2 ^ (j + 1)) ^^^ (a % 2 ^ (j + 1)) = (2 ^ (j + 1)) ||| (a % 2 ^ (j + 1)) := by
          apply Nat.eq_of_testBit_eq
          intro i
          rw [Nat.testBit_xor, Nat.testBit_or, Nat.testBit_two_pow]
          by_cases h : j + 1 = i
          · subst h
            rw [Nat.testBit_lt_two_pow hlt]; simp
          · simp [h]
        rw [h4, h3, Nat.add_comm]
      · next hb =>
        rw [show a / 2 ^ (j + 1) % 2 = 0 from by omega, Nat.mul_zero, Nat.zero_xor]; rfl
theorem tm_pow (m a : Nat) (ha : a < 2 ^ 32) : tm 32 a (sts m one) = sts m a := by
  rw [tm_sts]
  have h := tm_one 32 a (by omega)
  rw [Nat.mod_eq_of_lt ha] at h
  exact congrArg (sts m) h
end Go.Proofs.Ytldmamcalfmedaa.Cr
