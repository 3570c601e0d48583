/- Plain facts: a frame that a burst has turned in its head alone, or behind it alone, is no frame. Conditions: the payload is shorter than 2^20. -/
import Derived.Test.YtgcgehdbgegfeaaDoorCdp
import Derived.Test.YtgcgehdbgegfeaaDoorCrr
namespace Go.Proofs.YtgcgehdbgegfeaaDoor
open Go.ChangeShapes Go.WideShapes Go.ChangeAt Go.RowKit
set_option linter.unusedSimpArgs false
set_option linter.unusedVariables false
theorem frame_parts (k : UInt8) (p : List UInt8) : (frameL k p).take 9 = headL k p.length ∧ (frameL k p).drop 9 = sealL p := by
  have h := headL_length k p.length
  unfold frameL
  constructor
  · rw [List.take_append_of_le_length (by omega), List.take_of_length_le (by omega)]
  · rw [show (9 : Nat) = (headL k p.length).length from h.symm, List.drop_left]
theorem rfp_head {w w' : World} {k : UInt8} {n p : Nat} {bit : Int} {m : List UInt8} {e : Ending} (hp : p < 4294967296) (hne : burst (headL k n) bit p ≠ headL k n) (h : RFP w (burst (headL k n) bit p ++ m) e w') :
    (∃ x : Int, 1 ≤ x ∧ x ≤ 24 ∧ e = .returned (.tuple #[.int .u8 0, .slice none 0 0, .int .i64 0, .int .i64 x])) ∧ Below w.heap.size w w' := by
  obtain ⟨hc, hb⟩ := h
  refine ⟨?_, hb⟩
  have hl : (burst (headL k n) bit p).length = 9 := by rw [burst_length, headL_length]
  have h9 : (burst (headL k n) bit p ++ m).take 9 = burst (headL k n) bit p := by rw [List.take_append_of_le_length (by omega), List.take_of_length_le (by omega)]
  have hno : ¬ okB ((burst (headL k n) bit p ++ m).take 9) := by
    rw [h9]
    exact fun h2 => hne (burst_found (headL k n) bit p hp (by rw [headL_length]; omega) (sealL_ok _) h2)
  rcases hc with ⟨h1, he⟩ | ⟨_, _, he⟩ | ⟨_, h3, _⟩ | ⟨_, h3, _⟩ | ⟨_, h3, _⟩ | ⟨_, h3, _⟩
  · exact ⟨21, by omega, by omega, he⟩
  · exact ⟨23, by omega, by omega, he⟩
  · exact absurd h3 hno
  · exact absurd h3 hno
  · exact absurd h3 hno
  · exact absurd h3 hno
theorem rfp_rest {w w' : World} {k : UInt8} {q : List UInt8} {p : Nat} {bit : Int} {e : Ending} (hq : q.length ≤ 1048576) (hp : p < 4294967296) (hne : burst (sealL q) bit p ≠ sealL q) (h : RFP w (headL k q.length ++ burst (sealL q) bit p) e w') :
    (∃ x : Int, 1 ≤ x ∧ x ≤ 24 ∧ e = .returned (.tuple #[.int .u8 0, .slice none 0 0, .int .i64 0, .int .i64 x])) ∧ Below w.heap.size w w' := by
  obtain ⟨hc, hb⟩ := h
  refine ⟨?_, hb⟩
  have hl := headL_length k q.length
  have hl2 : (burst (sealL q) bit p).length = q.length + 4 := by rw [burst_length, sealL_length]
  have h9 : (headL k q.length ++ burst (sealL q) bit p).take 9 = headL k q.length := by rw [List.take_append_of_le_length (by omega), List.take_of_length_le (by omega)]
  have hsz := szL_head _ k q.length (by omega) h9
  have hrest : ((headL k q.length ++ burst (sealL q) bit p).drop 9).take (q.length + 4) = burst (sealL q) bit p := by
    rw [show (9 : Nat) = (headL k q.length).length from hl.symm, List.drop_left, List.take_of_length_le (by omega)]
  have hno : ¬ okB (burst (sealL q) bit p) := fun h2 => hne (burst_found (sealL q) bit p hp (by rw [sealL_length]; omega) (sealL_ok _) h2)
  rcases hc with ⟨h1, he⟩ | ⟨_, _, he⟩ | ⟨_, _, _, he⟩ | ⟨_, _, _, _, he⟩ | ⟨_, _, _, _, _, he⟩ | ⟨_, _, _, _, h5, _⟩
  · exact ⟨21, by omega, by omega, he⟩
  · exact ⟨23, by omega, by omega, he⟩
  · exact ⟨24, by omega, by omega, he⟩
  · exact ⟨21, by omega, by omega, he⟩
  · exact ⟨23, by omega, by omega, he⟩
  · rw [hsz, hrest] at h5
    exact absurd h5 hno
end Go.Proofs.YtgcgehdbgegfeaaDoor
