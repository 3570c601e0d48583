/- What was written is read so: pure facts. Conditions: none of its own. -/
import Derived.Test.YtgcgehdbgegfeaaDoorWri
namespace Go.Proofs.YtgcgehdbgegfeaaDoor
open Go.ChangeShapes Go.WideShapes Go.ChangeAt Go.RowKit
set_option linter.unusedSimpArgs false
set_option linter.unusedVariables false
theorem numO_enc (z : Int) (hz : I64 z) (r : List UInt8) : numO (encI z ++ r) = .ok z r := by
  have zl := Pu.zig_lo z
  have zh := Pu.zig_hi z hz.1 hz.2
  obtain ⟨h1, h2, h3⟩ := Pu.readvar_var (Pu.zig z).toNat (by omega) r
  unfold numO encI
  rw [if_pos h1, h2, h3, List.drop_append_of_le_length (Nat.le_refl _), List.drop_length, List.nil_append]
  rw [Int.toNat_of_nonneg zl, Pu.zag_zig]
theorem within_enc (n : Nat) (hn : n ≤ 8192) (r : List UInt8) : within 0 8192 (numO (encI n ++ r)) = .ok n r := by
  rw [numO_enc n ⟨by omega, by omega⟩ r]
  simp only [within]
  rw [if_pos ⟨by omega, by omega⟩]
theorem nums_enc : ∀ (L : List Int) (h : ∀ z ∈ L, I64 z) (r : List UInt8), nums L.length (encL L ++ r) = (L, r, 0)
  | [], _, r => by simp [nums, encL]
  | z :: L, h, r => by
    have h1 := numO_enc z (h z (by simp)) (encL L ++ r)
    have h2 := nums_enc L (fun x hx => h x (by simp [hx])) r
    have h3 : encL (z :: L) ++ r = encI z ++ (encL L ++ r) := by simp [encL]
    rw [h3, List.length_cons]
    unfold nums
    rw [h1]
    simp [h2]
theorem readV_enc (z : Int) (hz : I64 z) (r : List UInt8) : readV 0 (encI z ++ r) (numO (encI z ++ r)) = (z, r, 0) := by
  unfold readV; rw [if_neg (by simp), numO_enc z hz r]
theorem readB_enc (B : List UInt8) (hB : B.length ≤ 8192) (r : List UInt8) : readB 0 (encI B.length ++ B ++ r) 8192 = (B, r, 0) := by
  unfold readB
  rw [if_neg (by simp), List.append_assoc, within_enc _ hB]
  simp only [roomO]
  rw [if_pos (by rw [List.length_append]; omega)]
  simp
theorem readL_enc (L : List Int) (hL : L.length ≤ 8192) (h : ∀ z ∈ L, I64 z) (r : List UInt8) : readL 0 (encI L.length ++ encL L ++ r) 8192 = (L, r, 0) := by
  have h1 := within_enc L.length hL (encL L ++ r)
  have h2 : listO 8192 (encI L.length ++ encL L ++ r) = (L, r, 0) := by
    unfold listO
    rw [List.append_assoc, h1]
    simp [nums_enc L h r]
  unfold readL
  rw [if_neg (by simp), h2]
  simp
theorem encAll_drop (xs : List It) (j : Nat) (h : j < xs.length) : encAll (xs.drop j) = encIt xs[j] ++ encAll (xs.drop (j + 1)) := by
  unfold encAll; rw [List.drop_eq_getElem_cons h, List.flatMap_cons]
end Go.Proofs.YtgcgehdbgegfeaaDoor
