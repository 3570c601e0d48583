/- Both disks: New; the document's keep. Conditions: none. -/
import Derived.Test.YtldmamcalfmedaaDrf
namespace Go.Proofs.Ytldmamcalfmedaa
open Go.ChangeShapes Go.WideShapes Go.ChangeAt Go.RowKit Go.Maps
set_option linter.unusedSimpArgs false
set_option linter.unusedVariables false
set_option maxRecDepth 100000 in
set_option maxHeartbeats 1000000 in
theorem rnew_ok (n size : Nat) (hn : 1 ≤ n ∧ n ≤ 65536) (hs : 64 ≤ size ∧ size ≤ 4096) (w : World) :
    Calls Try.prog 11 #[.int .i64 (n : Nat), .int .i64 (size : Nat)] w fun e w' => ∃ rb rk, w.heap.size ≤ rb ∧ w.heap.size ≤ rk ∧ e = .returned (.tuple #[.pointer (some ⟨rb, 0, none⟩), .int .i64 0]) ∧ RBox w' rb rk rb (newD n size (List.replicate (n * size) 0)) ∧ Below w.heap.size w w' := by
  have hb : n * size ≤ 65536 * 4096 := Nat.mul_le_mul hn.2 hs.2
  have hmul : ((n : Nat) : Int) * ((size : Nat) : Int) = ((n * size : Nat) : Int) := by rw [Int.natCast_mul]
  have hp : 0 ≤ ((n : Nat) : Int) * ((size : Nat) : Int) ∧ ((n : Nat) : Int) * ((size : Nat) : Int) ≤ 268435456 := by rw [hmul]; omega
  have HMUL := Lib.hid hmul
  clear hmul
  go_enter Try.func11, Try.ntmps11
  go_upto_region 3 with (fail)
  refine wp_region_lit ?_
  iterate 5 (refine wpList_plain rfl fun K hK => ?_; go_simp; refine hK _ _ ?_; clear hK K)
  rw [show IntKind.i64.wrap (((n : Nat) : Int) * ((size : Nat) : Int)) = ((n * size : Nat) : Int) from by rw [IntKind.wrap_i64, HMUL.out]; rw [HMUL.out] at hp; omega]
  refine wpList_make_rd _ rfl _ _ 32 rfl w.heap.size 5 (.int .u8 0) 1 Try.underlying32 inf8n rfl .i64 .i64 (n * size) (n * size) _ _ rfl rfl rfl rfl (Nat.le_refl _) (by omega) (by unfold maxLen; omega) (Nat.le_refl _) ?_
  intro w1 ho1 hg1
  have hbv : bv (List.replicate (n * size) 0) = List.replicate (n * size) (Value.int IntKind.u8 0) := by simp [bv]
  have ho1' : w1.ownsRow 0 5 1 (.slice (some ⟨w.heap.size, 0, none⟩) (List.replicate (n * size) (0 : UInt8)).length (n * size)) (List.replicate (n * size) (0 : UInt8)).length (bv (List.replicate (n * size) 0)) := by
    rw [List.length_replicate, hbv]
    refine ⟨ho1.1, ho1.2.imp id ?_⟩
    rintro ⟨g, cap, cur, e1, e2, e3⟩
    exact ⟨g, cap, cur, e1, Nat.zero_le _, e3⟩
  have hR := RBox.made hn hs (List.length_replicate ..) ho1'
  unfold rcells newD at hR
  simp only [List.length_replicate] at hR
  have hb1 : Below w.heap.size w w1 := (Below.refl _ _).grown hg1 (Nat.le_refl _) (by intro g h; cases h)
  have HR := Lib.hid hR
  have HB := Lib.hid (hb1.alloc hb1.size (.cells (rcells (newD n size (List.replicate (n * size) 0)) (.slice none 0 0) (.slice none 0 0) w.heap.size (n * size)) 48))
  unfold rcells newD at HB
  simp only [List.length_replicate] at HB
  have hzz := hb1.size
  clear ho1 ho1' hR hg1 hb1 hbv
  iterate 4 (refine wpList_plain rfl fun K hK => ?_; go_simp; refine hK _ _ ?_; clear hK K)
  refine wpList_nil ?_
  go_wp2
  go_ret2
  first | exact ⟨w1.heap.size, w.heap.size, hzz, Nat.le_refl _, rfl, HR.out, HB.out⟩ | exact ⟨w1.heap.size, hzz, w.heap.size, Nat.le_refl _, rfl, HR.out, HB.out⟩
end Go.Proofs.Ytldmamcalfmedaa
