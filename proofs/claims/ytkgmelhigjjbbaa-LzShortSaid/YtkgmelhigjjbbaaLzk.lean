/- The chapter's example of packed bytes answers true. Conditions: none. -/
import Derived.Test.YtkgmelhigjjbbaaLzr
import Derived.Test.YtkgmelhigjjbbaaLzm
namespace Go.Proofs.Ytkgmelhigjjbbaa
open Go.ChangeShapes Go.WideShapes Go.ChangeAt Go.RowKit
set_option linter.unusedSimpArgs false
set_option linter.unusedVariables false
theorem nextB {a b c : World} (h : Below b.heap.size b c) (k : Below a.heap.size a b) : Below a.heap.size a c := k.trans (h.mono k.size)
set_option maxRecDepth 100000 in
set_option maxHeartbeats 1000000 in
theorem known_any (w : World) : Calls Try.prog 8 #[] w fun e w' => e = .returned (.bool true) ∧ Below w.heap.size w w' := by
  obtain ⟨W, hW⟩ : ∃ W, w.alloc (.cells #[.int .u8 1, .int .u8 6, .int .u8 97, .int .u8 98, .int .u8 99, .int .u8 11, .int .u8 3] 5) = W := ⟨_, rfl⟩
  have hz : W.heap.size = w.heap.size + 1 := by rw [← hW]; simp
  have hb : Below w.heap.size w W := by rw [← hW]; exact (Below.refl _ _).alloc (Nat.le_refl _) _
  have hr : RdV W W.heap.size (.slice (some ⟨w.heap.size, 0, none⟩) 7 7) (bv [1, 6, 97, 98, 99, 11, 3]) := by
    rw [hz, ← hW]
    exact RdV.lit w (bv [1, 6, 97, 98, 99, 11, 3]) 5 (by simp [bv])
  have hu := unpack_any _ _ (by simp) 10 (by omega) (by omega) W hr
  have HU := Lib.hid hu
  have HW := Lib.hid hW
  have HB := Lib.hid hb
  clear hu hW hb hr
  go_enter Try.func8, Try.ntmps8
  go_wp2_with fail
  rw [HW.out]
  refine HU.out.mono ?_
  rintro e w1 ⟨o, n, ev, r, hwk, rfl, hrv, hlen, hb1⟩
  obtain ⟨rfl, rfl, rfl⟩ := Lz.Walks.same Lz.known_walks hwk
  rw [if_pos rfl] at hrv
  have x1 := run_conv_rd (P := Try.prog) w1 22 9 5 Try.underlying22 Try.underlying5 Try.underlying9 _ _ _ hrv
  have HB1 := Lib.hid (nextB hb1 (HB.out))
  clear hwk hrv hb1 hlen
  go_wp2
  go_ret
  exact ⟨rfl, HB1.out⟩
end Go.Proofs.Ytkgmelhigjjbbaa
