/- Contract of package crc: Burst. Conditions: the row is shorter than 2^32. -/
import Derived.Test.YtgcgehdbgegfeaaDoorCrl
namespace Go.Proofs.YtgcgehdbgegfeaaDoor
open Go.ChangeShapes Go.WideShapes Go.ChangeAt Go.RowKit
set_option linter.unusedSimpArgs false
set_option linter.unusedVariables false
/-- what a burst turns in the byte at i -/
def eb (bit : Int) (p : Nat) (i : Nat) : Nat := if 0 ≤ bit ∧ bit / 8 ≤ i then p * 2 ^ (bit % 8).toNat / 256 ^ (i - (bit / 8).toNat) % 256 else 0
def burst (l : List UInt8) (bit : Int) (p : Nat) : List UInt8 := l.mapIdx fun i b => UInt8.ofNat (b.toNat ^^^ eb bit p i)
theorem burst_length (l : List UInt8) (bit : Int) (p : Nat) : (burst l bit p).length = l.length := by simp [burst]
theorem eb_lt (bit : Int) (p i : Nat) : eb bit p i < 256 := by unfold eb; split <;> omega
theorem burst_get (l : List UInt8) (bit : Int) (p i : Nat) : (burst l bit p)[i]? = l[i]?.map fun b => UInt8.ofNat (b.toNat ^^^ eb bit p i) := by simp [burst]
theorem xor_byte {a b : Nat} (ha : a < 256) (hb : b < 256) : (UInt8.ofNat (a ^^^ b)).toNat = a ^^^ b := by
  have := Nat.xor_lt_two_pow (n := 8) ha hb
  rw [UInt8.toNat_ofNat', Nat.mod_eq_of_lt this]
theorem burst_twice (l : List UInt8) (bit : Int) (p : Nat) : burst (burst l bit p) bit p = l := by
  apply List.ext_getElem?
  intro i
  rw [burst_get, burst_get]
  rcases h : l[i]? with _ | b
  · rfl
  · simp only [Option.map_some]
    rw [xor_byte b.toNat_lt (eb_lt _ _ _), Nat.xor_assoc, Nat.xor_self, Nat.xor_zero]
    simp
theorem eb_zero (bit : Int) (i : Nat) : eb bit 0 i = 0 := by unfold eb; split <;> simp
theorem burst_zero (l : List UInt8) (bit : Int) : burst l bit 0 = l := by
  apply List.ext_getElem?
  intro i
  rw [burst_get, eb_zero]
  rcases h : l[i]? with _ | b
  · rfl
  · simp
theorem Tryd.inf5C : (Tryd.prog.info? 5).map (fun i => (i.zero, i.size, i.bytes)) = some (some (.int .u8 0), 1, 1) := by kernel_rfl
/-- hands back a row that reads as l; memory has only been made -/
def TellC (w : World) (l : List UInt8) (e : Ending) (w' : World) : Prop := ∃ r, e = .returned r ∧ RdV w' w'.heap.size r (bv l) ∧ Below w.heap.size w w'
/-- the first k bytes are turned -/
def burstTo (l : List UInt8) (bit : Int) (p k : Nat) : List UInt8 := l.mapIdx fun i b => if i < k then UInt8.ofNat (b.toNat ^^^ eb bit p i) else b
theorem i64_and7 (n : Nat) (h : n < 9223372036854775808) : bits .and .i64 (n : Int) 7 = ((n % 8 : Nat) : Int) := by
  have := bits_mask .i64 63 (by decide) (fun n h0 h1 => by rw [IntKind.wrap_i64]; omega) 3 (by decide) (n : Int) (by omega) (by omega)
  rw [show ((2 : Int) ^ 3 - 1) = 7 from rfl] at this
  rw [this]; simp
theorem burstTo_get (l : List UInt8) (bit : Int) (p k i : Nat) : (burstTo l bit p k)[i]? = l[i]?.map fun b => if i < k then UInt8.ofNat (b.toNat ^^^ eb bit p i) else b := by simp [burstTo]
theorem burstTo_length (l : List UInt8) (bit : Int) (p k : Nat) : (burstTo l bit p k).length = l.length := by simp [burstTo]
theorem burstTo_low (l : List UInt8) (n p k : Nat) (hk : k ≤ n / 8) : burstTo l n p k = l := by
  apply List.ext_getElem?
  intro i
  rw [burstTo_get]
  rcases h : l[i]? with _ | b
  · rfl
  · by_cases hi : i < k
    · have : eb n p i = 0 := by unfold eb; rw [if_neg (by omega)]
      simp [this]
    · simp [hi]
theorem burstTo_all (l : List UInt8) (bit : Int) (p k : Nat) (hk : ∀ i, k ≤ i → i < l.length → eb bit p i = 0) : burstTo l bit p k = burst l bit p := by
  apply List.ext_getElem?
  intro i
  rw [burstTo_get, burst_get]
  rcases h : l[i]? with _ | b
  · rfl
  · by_cases hi : i < k
    · simp [hi]
    · have := hk i (by omega) (List.getElem?_eq_some_iff.1 h).1
      simp [hi, this]
theorem burstTo_set (l : List UInt8) (bit : Int) (p k : Nat) (hk : k < l.length) : (bv (burstTo l bit p k)).set k (.int .u8 ((l[k].toNat ^^^ eb bit p k : Nat) : Int)) = bv (burstTo l bit p (k + 1)) := by
  apply List.ext_getElem?
  intro i
  rw [List.getElem?_set]
  by_cases h : k = i
  · subst h
    rw [if_pos rfl, if_pos (by rw [bv_length, burstTo_length]; exact hk), bv_get, burstTo_get, List.getElem?_eq_getElem hk]
    simp only [Option.map_some, Nat.lt_succ_self, if_true]
    rw [xor_byte l[k].toNat_lt (eb_lt _ _ _)]
  · rw [if_neg h, bv_get, bv_get, burstTo_get, burstTo_get]
    rcases h2 : l[i]? with _ | b
    · rfl
    · by_cases hi : i < k
      · simp [hi, show i < k + 1 from by omega]
      · simp [hi, show ¬ i < k + 1 from by omega]
theorem eb_at (n p a : Nat) (h : n / 8 ≤ a) : eb n p a = p * 2 ^ (n % 8) / 256 ^ (a - n / 8) % 256 := by
  unfold eb
  rw [if_pos (by omega), show ((n : Int) % 8).toNat = n % 8 from by omega, show ((n : Int) / 8).toNat = n / 8 from by omega]
end Go.Proofs.YtgcgehdbgegfeaaDoor
