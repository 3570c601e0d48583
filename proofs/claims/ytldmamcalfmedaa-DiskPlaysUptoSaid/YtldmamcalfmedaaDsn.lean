/- The disk: New. Conditions: none. -/
import Derived.Test.YtldmamcalfmedaaDsk
namespace Go.Proofs.Ytldmamcalfmedaa
open Go.ChangeShapes Go.WideShapes Go.ChangeAt Go.RowKit Go.Maps
set_option linter.unusedSimpArgs false
set_option linter.unusedVariables false
theorem inf8n : (Try.prog.info? 5).map (fun i => (i.zero, i.size, i.bytes)) = some (some (.int .u8 0), 1, 1) := by kernel_rfl
/-- a disk as it is made -/
def newD (n size : Nat) (K : List UInt8) : Dk := ⟨false, false, 0, [], n, size, K, [], 0, 0, fun _ => False⟩
set_option maxRecDepth 100000 in
theorem right_any (x : Int) (w : World) : Calls Try.prog 33 #[.int .i64 x] w fun e w' => e = .returned (.bool (decide (64 ≤ x ∧ x ≤ 4096))) ∧ w = w' := by
  by_cases h1 : 64 ≤ x
  · by_cases h2 : x ≤ 4096
    · go_enter Try.func33, Try.ntmps33
      go_wp2
      go_ret
      exact ⟨by simp [h1, h2], rfl⟩
    · go_enter Try.func33, Try.ntmps33
      go_wp2
      go_ret
      exact ⟨by simp [h1, h2], rfl⟩
  · go_enter Try.func33, Try.ntmps33
    go_wp2
    go_ret
    exact ⟨by rw [decide_eq_false (by omega)]; rfl, rfl⟩
set_option maxRecDepth 100000 in
set_option maxHeartbeats 1000000 in
theorem of_any (kb kc n size : Nat) (K : List UInt8) (w : World) (ho : w.ownsRow 0 5 1 (.slice (some ⟨kb, 0, none⟩) K.length kc) K.length (bv K)) (hn : 1 ≤ n ∧ n ≤ 65536) (hs : 64 ≤ size ∧ size ≤ 4096) (hK : K.length = n * size) :
    Calls Try.prog 34 #[.slice (some ⟨kb, 0, none⟩) K.length kc, .int .i64 (size : Nat)] w fun e w' => e = .returned (.pointer (some ⟨w.heap.size + 1, 0, none⟩)) ∧ DBox w' (w.heap.size + 1) kb w.heap.size (w.heap.size + 1) 0 (newD n size K) ∧ Below w.heap.size w w' := by
  have hmm := @run_makeMap Try.prog
  have hkb : kb < w.heap.size := own_lt ho rfl
  have hM := (MBox.new w).alloc (.cells (dcells (newD n size K) (.slice none 0 0) (.slice none 0 0) kb kc w.heap.size) 70)
  have hsz : (w.alloc (.map #[] 0)).heap.size = w.heap.size + 1 := by simp
  have hB : Below w.heap.size w ((w.alloc (.map #[] 0)).alloc (.cells (dcells (newD n size K) (.slice none 0 0) (.slice none 0 0) kb kc w.heap.size) 70)) := ((Below.refl _ _).alloc (Nat.le_refl _) _).alloc (by simp) _
  have hc := heap_alloc_new (w.alloc (.map #[] 0)) (.cells (dcells (newD n size K) (.slice none 0 0) (.slice none 0 0) kb kc w.heap.size) 70)
  rw [hsz] at hc
  have hD : DBox ((w.alloc (.map #[] 0)).alloc (.cells (dcells (newD n size K) (.slice none 0 0) (.slice none 0 0) kb kc w.heap.size) 70)) (w.heap.size + 1) kb w.heap.size (w.heap.size + 1) 0 (newD n size K) :=
    ⟨⟨.slice none 0 0, .slice none 0 0, kc, hc, RdX.nil_ _ _, own_keep ho (fun g hg => by injection hg with hg; subst hg; exact hB.block kb hkb), ⟨[], ⟨rfl, Or.inl ⟨rfl, rfl⟩⟩, fun g hg => (by cases hg), fun i p hi => (by simp [newD] at hi)⟩, fun _ => rfl⟩, hM, ⟨by omega, by omega, by omega, fun e => absurd rfl e⟩, ⟨hn, hs, hK, fun p hp => (by cases hp)⟩, by simp, fun j hj => hj.elim⟩
  have HD := Lib.hid hD
  have HB := Lib.hid hB
  clear hD hB hc hM ho hsz hK
  unfold dcells newD at HD HB
  generalize K.length = L at *
  go_enter Try.func34, Try.ntmps34
  go_wp2
  go_ret
  exact ⟨rfl, HD.out, HB.out⟩
set_option maxRecDepth 100000 in
set_option maxHeartbeats 1000000 in
theorem dnew_ok (n size : Nat) (hn : 1 ≤ n ∧ n ≤ 65536) (hs : 64 ≤ size ∧ size ≤ 4096) (w : World) :
    Calls Try.prog 10 #[.int .i64 (n : Nat), .int .i64 (size : Nat)] w fun e w' => ∃ db kb mb, w.heap.size ≤ db ∧ w.heap.size ≤ kb ∧ w.heap.size ≤ mb ∧ e = .returned (.tuple #[.pointer (some ⟨db, 0, none⟩), .int .i64 0]) ∧ DBox w' db kb mb db 0 (newD n size (List.replicate (n * size) 0)) ∧ Below w.heap.size w w' := by
  have HR := Lib.hid (right_any (size : Nat) w)
  rw [decide_eq_true (by omega)] at HR
  have hb : n * size ≤ 65536 * 4096 := Nat.mul_le_mul hn.2 hs.2
  have hmul : ((n : Nat) : Int) * ((size : Nat) : Int) = ((n * size : Nat) : Int) := by rw [Int.natCast_mul]
  have hp : 0 ≤ ((n : Nat) : Int) * ((size : Nat) : Int) ∧ ((n : Nat) : Int) * ((size : Nat) : Int) ≤ 268435456 := by rw [hmul]; omega
  have HMUL := Lib.hid hmul
  clear hmul
  go_enter Try.func10, Try.ntmps10
  go_wp2_with fail
  refine HR.out.mono ?_
  rintro e w1 ⟨rfl, rfl⟩
  go_wp2_with first
    | (at_make; go_loud (rw [HMUL.out]); go_loud (refine wpList_make_rd _ rfl _ _ 32 rfl w.heap.size 5 (.int .u8 0) 1 Try.underlying32 inf8n rfl .i64 .i64 (n * size) (n * size) _ _ rfl rfl rfl rfl (Nat.le_refl _) (by omega) (by unfold maxLen; omega) (Nat.le_refl _) ?_; intro w1 ho1 hg1))
    | fail
  have hbv : bv (List.replicate (n * size) 0) = List.replicate (n * size) (Value.int IntKind.u8 0) := by simp [bv]
  have ho1' : w1.ownsRow 0 5 1 (.slice (some ⟨w.heap.size, 0, none⟩) (List.replicate (n * size) (0 : UInt8)).length (n * size)) (List.replicate (n * size) (0 : UInt8)).length (bv (List.replicate (n * size) 0)) := by
    rw [List.length_replicate, hbv]
    refine ⟨ho1.1, ho1.2.imp id ?_⟩
    rintro ⟨g, cap, cur, e1, e2, e3⟩
    exact ⟨g, cap, cur, e1, Nat.zero_le _, e3⟩
  have hof := of_any w.heap.size (n * size) n size (List.replicate (n * size) 0) w1 ho1' hn hs (List.length_replicate ..)
  rw [List.length_replicate] at hof
  have hb1 : Below w.heap.size w w1 := (Below.refl _ _).grown hg1 (Nat.le_refl _) (by intro g h; cases h)
  have HOF := Lib.hid hof
  have HB1 := Lib.hid hb1
  clear ho1 ho1' hof hg1 hb1 hbv
  refine HOF.out.mono ?_
  rintro e w2 ⟨rfl, hD, hB⟩
  have HD := Lib.hid hD
  have HB := Lib.hid (HB1.out.trans (hB.mono HB1.out.size))
  clear hD hB
  go_wp2
  go_ret2
  exact ⟨w1.heap.size + 1, w.heap.size, w1.heap.size, by have := HB1.out.size; omega, Nat.le_refl _, HB1.out.size, rfl, HD.out, HB.out⟩
end Go.Proofs.Ytldmamcalfmedaa
