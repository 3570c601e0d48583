/- Plain facts: a burst of at most thirty-two bits in sealed bytes is found. Conditions: none. -/
import Derived.Test.YtgcgehdbgegfeaaDoorCrb
import Derived.Test.YtgcgehdbgegfeaaDoorPure
namespace Go.Proofs.YtgcgehdbgegfeaaDoor
set_option linter.unusedSimpArgs false
set_option linter.unusedVariables false
theorem add_xor (x t : Nat) (hx : x < 256) : x + 256 * t = x ^^^ (t * 2 ^ 8) := by
  have h1 := nat_join 8 (t * 2 ^ 8) x (Nat.mul_mod_left _ _) (by omega)
  have h2 : (t * 2 ^ 8) ^^^ x = (t * 2 ^ 8) ||| x := by
    apply Nat.eq_of_testBit_eq
    intro i
    rw [Nat.testBit_xor, Nat.testBit_or, Nat.testBit_mul_two_pow]
    rcases Nat.lt_or_ge i 8 with h | h
    · simp [show ¬ 8 ≤ i from by omega]
    · have : x < 2 ^ i := Nat.lt_of_lt_of_le (show x < 2 ^ 8 by omega) (Nat.pow_le_pow_right (by decide) h)
      rw [Nat.testBit_lt_two_pow this]; simp
  rw [Nat.xor_comm, h2, h1]; omega
theorem run0 (l : List UInt8) : Cr.run 0 (u8n l) = Cr.sts (8 * l.length) (Pu.leN l) := by
  induction l with
  | nil => rfl
  | cons b l ih =>
    show Cr.run (Cr.byte 0 b.toNat) (u8n l) = _
    have h := Cr.run_xor 0 (Cr.byte 0 b.toNat) (u8n l)
    rw [Nat.zero_xor] at h
    rw [h, ih]
    have hlen : (u8n l).length = l.length := by simp [u8n]
    show _ = Cr.sts (8 * (l.length + 1)) (b.toNat + 256 * Pu.leN l)
    rw [add_xor _ _ b.toNat_lt, show 8 * (l.length + 1) = 8 + 8 * l.length from by omega, Cr.sts_add, Cr.sts_xor, Cr.sts_shift, Cr.sts_xor, hlen, Nat.xor_comm]
    congr 2
    unfold Cr.byte
    rw [Nat.zero_xor]
theorem run_end (c : Nat) (z : List UInt8) : Cr.run c (u8n z) = Cr.sts (8 * z.length) (Pu.leN z ^^^ c) := by
  have h := Cr.run_xor 0 c (u8n z)
  rw [Nat.zero_xor] at h
  rw [h, run0, Cr.sts_xor]
  congr 2
  simp [u8n]
/-- bytes whose last four are the sum of those ahead -/
def okB (x : List UInt8) : Prop := Pu.leN (x.drop (x.length - 4)) = Cr.sum (u8n (x.take (x.length - 4)))
theorem ok_iff (x : List UInt8) (hx : 4 ≤ x.length) : okB x ↔ Cr.run Cr.I (u8n x) = Cr.sts 32 Cr.I := by
  have hz : (x.drop (x.length - 4)).length = 4 := by rw [List.length_drop]; omega
  have hle := Pu.leN_lt (x.drop (x.length - 4))
  rw [hz] at hle
  have hr := Cr.run_lt (c := Cr.I) (by decide) (u8n (x.take (x.length - 4))) (u8n_lt _)
  have e : Cr.run Cr.I (u8n x) = Cr.sts 32 (Pu.leN (x.drop (x.length - 4)) ^^^ Cr.run Cr.I (u8n (x.take (x.length - 4)))) := by
    have h1 : x = x.take (x.length - 4) ++ x.drop (x.length - 4) := (List.take_append_drop _ _).symm
    have h2 : Cr.run Cr.I (u8n x) = Cr.run Cr.I (u8n (x.take (x.length - 4) ++ x.drop (x.length - 4))) := by rw [← h1]
    rw [h2, u8n_append, Cr.run_append, run_end, hz]
  unfold okB Cr.sum
  rw [e]
  generalize Pu.leN (x.drop (x.length - 4)) = a at *
  generalize Cr.run Cr.I (u8n (x.take (x.length - 4))) = r at *
  constructor
  · intro h
    rw [h, Nat.xor_comm (r ^^^ Cr.I) r, ← Nat.xor_assoc, Nat.xor_self, Nat.zero_xor]
  · intro h
    have h3 : Cr.sts 32 ((a ^^^ r) ^^^ Cr.I) = 0 := by rw [Cr.sts_xor, h, Nat.xor_self]
    have h4 := Cr.sts_inj0 32 (Nat.xor_lt_two_pow (n := 32) (Nat.xor_lt_two_pow (by simpa using hle) hr) (by decide)) h3
    have h5 : a = (a ^^^ r ^^^ Cr.I) ^^^ (r ^^^ Cr.I) := by
      rw [Nat.xor_assoc, Nat.xor_assoc, Nat.xor_comm Cr.I, ← Nat.xor_assoc r (r ^^^ Cr.I), ← Nat.xor_assoc r r, Nat.xor_self, Nat.zero_xor, Nat.xor_self, Nat.xor_zero]
    rw [h4, Nat.zero_xor] at h5
    exact h5
theorem run_two (c d : Nat) : ∀ (l m : List Nat), l.length = m.length → Cr.run (c ^^^ d) (List.zipWith (· ^^^ ·) l m) = Cr.run c l ^^^ Cr.run d m
  | [], [], _ => rfl
  | x :: l, y :: m, h => by
    have e : Cr.byte (c ^^^ d) (x ^^^ y) = Cr.byte c x ^^^ Cr.byte d y := by
      unfold Cr.byte
      rw [← Cr.sts_xor]
      congr 1
      apply Nat.eq_of_testBit_eq
      intro i
      simp only [Nat.testBit_xor]
      cases c.testBit i <;> cases d.testBit i <;> cases x.testBit i <;> cases y.testBit i <;> rfl
    show Cr.run (Cr.byte (c ^^^ d) (x ^^^ y)) _ = _
    rw [e]
    exact run_two _ _ l m (by simpa using h)
/-- what a burst turns, as a row of bytes -/
def errs (bit : Int) (p N : Nat) : List UInt8 := (List.range N).map fun i => UInt8.ofNat (eb bit p i)
theorem ofNat_toNat {n : Nat} (h : n < 256) : (UInt8.ofNat n).toNat = n := by rw [UInt8.toNat_ofNat', Nat.mod_eq_of_lt (by omega)]
theorem u8n_burst (l : List UInt8) (bit : Int) (p : Nat) : u8n (burst l bit p) = List.zipWith (· ^^^ ·) (u8n l) (u8n (errs bit p l.length)) := by
  apply List.ext_getElem?
  intro i
  unfold u8n errs
  rw [List.getElem?_map, burst_get, List.getElem?_zipWith, List.getElem?_map, List.getElem?_map, List.getElem?_map]
  rcases Nat.lt_or_ge i l.length with h | h
  · rw [List.getElem?_eq_getElem h, List.getElem?_range h]
    simp only [Option.map_some, Option.some.injEq]
    rw [xor_byte l[i].toNat_lt (eb_lt _ _ _), ofNat_toNat (eb_lt _ _ _)]
  · rw [List.getElem?_eq_none h]; rfl
/-- the low bytes of a number -/
def bo (T : Nat) : Nat → List UInt8
  | 0 => []
  | k + 1 => UInt8.ofNat (T % 256) :: bo (T / 256) k
theorem bo_length (T k : Nat) : (bo T k).length = k := by
  induction k generalizing T with
  | zero => rfl
  | succ k ih => simp [bo, ih]
theorem bo_get (T k i : Nat) (h : i < k) : (bo T k)[i]? = some (UInt8.ofNat (T / 256 ^ i % 256)) := by
  induction k generalizing T i with
  | zero => omega
  | succ k ih =>
    cases i with
    | zero => simp [bo]
    | succ i =>
      show (bo (T / 256) k)[i]? = _
      rw [ih _ _ (by omega), Nat.pow_succ, Nat.mul_comm, Nat.div_div_eq_div_mul]
theorem leN_bo (T k : Nat) : Pu.leN (bo T k) = T % 256 ^ k := by
  induction k generalizing T with
  | zero => simp [bo, Pu.leN, Nat.mod_one]
  | succ k ih =>
    show (UInt8.ofNat (T % 256)).toNat + 256 * Pu.leN (bo (T / 256) k) = _
    rw [ih, ofNat_toNat (by omega), Nat.pow_succ, Nat.mul_comm (256 ^ k) 256, Nat.mod_mul]
theorem zeros_run (n : Nat) : Cr.run 0 (u8n (List.replicate n 0)) = 0 := by
  induction n with
  | zero => rfl
  | succ n ih => exact ih
theorem errs_form (n p N : Nat) (h : n / 8 < N) : errs n p N = List.replicate (n / 8) 0 ++ bo (p * 2 ^ (n % 8)) (N - n / 8) := by
  apply List.ext_getElem?
  intro i
  unfold errs
  rw [List.getElem?_map]
  rcases Nat.lt_or_ge i N with h1 | h1
  · rw [List.getElem?_range h1]
    rcases Nat.lt_or_ge i (n / 8) with h2 | h2
    · rw [List.getElem?_append_left (by simpa using h2), List.getElem?_replicate, if_pos h2]
      have : eb n p i = 0 := by unfold eb; rw [if_neg (by omega)]
      simp [this]
    · rw [List.getElem?_append_right (by simpa using h2), List.length_replicate, bo_get _ _ _ (by omega), ← eb_at n p i h2]
      rfl
  · rw [List.getElem?_eq_none (by simpa using h1), List.getElem?_eq_none (by rw [List.length_append, List.length_replicate, bo_length]; omega)]
    rfl
/-- a burst that turns something is seen by the sum -/
theorem errs_seen (bit : Int) (p N : Nat) (hp : p < 4294967296) (h : Cr.run 0 (u8n (errs bit p N)) = 0) (i : Nat) (hi : i < N) : eb bit p i = 0 := by
  by_cases hneg : bit < 0
  · unfold eb; rw [if_neg (by omega)]
  obtain ⟨n, rfl⟩ := Int.eq_ofNat_of_zero_le (show 0 ≤ bit by omega)
  by_cases hlt : n / 8 < N
  case neg => unfold eb; rw [if_neg (by omega)]
  rcases Nat.lt_or_ge i (n / 8) with h2 | h2
  · unfold eb; rw [if_neg (by omega)]
  rw [errs_form n p N hlt, u8n_append, Cr.run_append, zeros_run, run0, bo_length, leN_bo] at h
  obtain ⟨k, hk⟩ : ∃ k, N - n / 8 = k + 1 := ⟨N - n / 8 - 1, by omega⟩
  obtain ⟨w, hw, hw8⟩ : ∃ w, n % 8 = w ∧ w < 8 := ⟨_, rfl, by omega⟩
  rw [hk, hw] at h
  have e1 : (256 : Nat) ^ (k + 1) = 2 ^ (8 * (k + 1) - w) * 2 ^ w := by
    rw [← Nat.pow_add, show 8 * (k + 1) - w + w = 8 * (k + 1) from by omega, Nat.pow_mul]
  rw [e1, Nat.mul_mod_mul_right, show 8 * (k + 1) = w + (8 * (k + 1) - w) from by omega, Cr.sts_add, Cr.sts_shift, show w + (8 * (k + 1) - w) - w = 8 * (k + 1) - w from by omega] at h
  have h3 := Cr.sts_inj0 _ (Nat.lt_of_le_of_lt (Nat.mod_le _ _) hp) h
  have h4 : p * 2 ^ w % 256 ^ (k + 1) = 0 := by rw [e1, Nat.mul_mod_mul_right, h3, Nat.zero_mul]
  rw [eb_at n p i h2, hw]
  obtain ⟨j, hj⟩ : ∃ j, i - n / 8 = j ∧ j ≤ k := ⟨_, rfl, by omega⟩
  rw [hj.1]
  obtain ⟨q, hq⟩ := Nat.dvd_of_mod_eq_zero h4
  rw [hq, show k + 1 = j + (k + 1 - j) from by omega, Nat.pow_add, Nat.mul_assoc, Nat.mul_div_cancel_left _ (Nat.pow_pos (by decide)), show k + 1 - j = (k - j) + 1 from by omega, Nat.pow_succ, Nat.mul_comm (256 ^ (k - j)) 256, Nat.mul_assoc]
  exact Nat.mul_mod_right _ _
theorem burst_found (x : List UInt8) (bit : Int) (p : Nat) (hp : p < 4294967296) (hx : 4 ≤ x.length) (h : okB x) (h2 : okB (burst x bit p)) : burst x bit p = x := by
  have r1 := (ok_iff x hx).1 h
  have r2 := (ok_iff _ (by rw [burst_length]; exact hx)).1 h2
  rw [u8n_burst] at r2
  have h3 := run_two Cr.I 0 (u8n x) (u8n (errs bit p x.length)) (by simp [u8n, errs])
  rw [Nat.xor_zero, r2, r1] at h3
  have h4 : Cr.run 0 (u8n (errs bit p x.length)) = 0 := by
    have := congrArg (Cr.sts 32 Cr.I ^^^ ·) h3
    simp only [← Nat.xor_assoc, Nat.xor_self, Nat.zero_xor] at this
    exact this.symm
  apply List.ext_getElem?
  intro i
  rw [burst_get]
  rcases Nat.lt_or_ge i x.length with hi | hi
  · rw [errs_seen bit p x.length hp h4 i hi, List.getElem?_eq_getElem hi]
    simp
  · rw [List.getElem?_eq_none hi]; rfl
/-- what is sealed is whole -/
def sealL (l : List UInt8) : List UInt8 := l ++ Pu.putL (Cr.sum (u8n l)) 4
theorem sealL_length (l : List UInt8) : (sealL l).length = l.length + 4 := by unfold sealL; rw [List.length_append, Pu.putL_length]
theorem sealL_ok (l : List UInt8) : okB (sealL l) := by
  unfold okB
  rw [sealL_length, Nat.add_sub_cancel]
  unfold sealL
  rw [List.drop_left, List.take_left, Pu.leN_putL]
  exact Nat.mod_eq_of_lt (Cr.sum_lt _ (u8n_lt l))
end Go.Proofs.YtgcgehdbgegfeaaDoor
