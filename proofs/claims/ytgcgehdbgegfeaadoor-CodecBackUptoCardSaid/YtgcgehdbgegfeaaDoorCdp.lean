/- Plain facts on frames: what stands in one, and in its fronts. Conditions: the payload is shorter than 2^32. -/
import Derived.Test.YtgcgehdbgegfeaaDoorCdw
namespace Go.Proofs.YtgcgehdbgegfeaaDoor
open Go.ChangeShapes Go.WideShapes Go.ChangeAt Go.RowKit
set_option linter.unusedSimpArgs false
set_option linter.unusedVariables false
theorem head_take5 (k : UInt8) (n : Nat) : (headL k n).take 5 = k :: Pu.putL n 4 := by
  unfold headL sealL
  have h : (k :: Pu.putL n 4).length = 5 := by rw [List.length_cons, Pu.putL_length]
  rw [List.take_append_of_le_length (by omega), List.take_of_length_le (by omega)]
theorem szL_head (x : List UInt8) (k : UInt8) (n : Nat) (hn : n < 4294967296) (hx : x.take 9 = headL k n) : szL x = n := by
  unfold szL
  have h5 : x.take 5 = k :: Pu.putL n 4 := by
    have : x.take 5 = (x.take 9).take 5 := by rw [List.take_take]; rfl
    rw [this, hx, head_take5]
  rw [h5]
  show Pu.leN (Pu.putL n 4) = n
  rw [Pu.leN_putL]
  exact Nat.mod_eq_of_lt hn
theorem frame_take9 (k : UInt8) (p : List UInt8) (m : List UInt8) : (frameL k p ++ m).take 9 = headL k p.length := by
  unfold frameL
  have h := headL_length k p.length
  rw [List.append_assoc, List.take_append_of_le_length (by omega), List.take_of_length_le (by omega)]
theorem frame_rest (k : UInt8) (p : List UInt8) (m : List UInt8) : ((frameL k p ++ m).drop 9).take (p.length + 4) = sealL p := by
  unfold frameL
  have h := headL_length k p.length
  have h2 := sealL_length p
  rw [List.append_assoc, show (9 : Nat) = (headL k p.length).length from h.symm, List.drop_left, List.take_append_of_le_length (by omega), List.take_of_length_le (by omega)]
theorem frame_rest0 (k : UInt8) (p : List UInt8) (m : List UInt8) : ((frameL k p ++ m).drop 9).take p.length = p := by
  have h := frame_rest k p m
  have h3 : ((frameL k p ++ m).drop 9).take p.length = (((frameL k p ++ m).drop 9).take (p.length + 4)).take p.length := by rw [List.take_take, show min p.length (p.length + 4) = p.length from by omega]
  rw [h3, h]
  unfold sealL
  exact List.take_left
/-- a frame that is read is told -/
theorem rfp_good {w w' : World} {k : UInt8} {p m : List UInt8} {e : Ending} (hp : p.length ≤ 1048576) (h : RFP w (frameL k p ++ m) e w') :
    (∃ r, e = .returned (.tuple #[.int .u8 (k.toNat : Int), r, .int .i64 ((p.length + 13 : Nat) : Int), .int .i64 0]) ∧ RdV w' w'.heap.size r (bv p)) ∧ Below w.heap.size w w' := by
  obtain ⟨hc, hb⟩ := h
  have hlen : (frameL k p ++ m).length = p.length + 13 + m.length := by rw [List.length_append, frameL_length]
  have h9 := frame_take9 k p m
  have hsz := szL_head (frameL k p ++ m) k p.length (by omega) h9
  have hok : okB ((frameL k p ++ m).take 9) := by rw [h9]; exact sealL_ok _
  have hok2 : okB (((frameL k p ++ m).drop 9).take (szL (frameL k p ++ m) + 4)) := by rw [hsz, frame_rest]; exact sealL_ok p
  refine ⟨?_, hb⟩
  rcases hc with ⟨h1, _⟩ | ⟨_, h2, _⟩ | ⟨_, _, h3, _⟩ | ⟨_, _, _, h4, _⟩ | ⟨_, _, _, _, h5, _⟩ | ⟨_, _, _, _, _, r, he, hr⟩
  · omega
  · exact absurd hok h2
  · omega
  · omega
  · exact absurd hok2 h5
  · rw [hsz] at he hr
    rw [frame_rest0] at hr
    refine ⟨r, ?_, hr⟩
    rw [he]
    congr 4
/-- a front of one that is not whole is not -/
theorem rfp_front {w w' : World} {k : UInt8} {p : List UInt8} {c : Nat} {e : Ending} (hp : p.length ≤ 1048576) (hc : c < p.length + 13) (h : RFP w ((frameL k p).take c) e w') :
    (∃ x : Int, 1 ≤ x ∧ x ≤ 24 ∧ e = .returned (.tuple #[.int .u8 0, .slice none 0 0, .int .i64 0, .int .i64 x])) ∧ Below w.heap.size w w' := by
  obtain ⟨hcs, hb⟩ := h
  refine ⟨?_, hb⟩
  have hlen : ((frameL k p).take c).length = c := by rw [List.length_take, frameL_length]; omega
  rcases hcs with ⟨_, he⟩ | ⟨_, _, he⟩ | ⟨_, _, _, he⟩ | ⟨_, _, _, _, he⟩ | ⟨_, _, _, _, _, he⟩ | ⟨h9, _, _, h4, _⟩
  · exact ⟨21, by omega, by omega, he⟩
  · exact ⟨23, by omega, by omega, he⟩
  · exact ⟨24, by omega, by omega, he⟩
  · exact ⟨21, by omega, by omega, he⟩
  · exact ⟨23, by omega, by omega, he⟩
  · rw [hlen] at h9 h4
    have h : ((frameL k p).take c).take 9 = headL k p.length := by
      have := frame_take9 k p []
      rw [List.append_nil] at this
      rw [List.take_take, show min 9 c = 9 from by omega, this]
    rw [szL_head _ k p.length (by omega) h] at h4
    omega
end Go.Proofs.YtgcgehdbgegfeaaDoor
