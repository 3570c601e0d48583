/- Contracts of package clean: Right, Less, may. Conditions: the numbers fit their kinds. -/
import Derived.Test.YtlbodandidopfaaGeo
namespace Go.Proofs.Ytlbodandidopfaa
open Go.ChangeShapes Go.WideShapes Go.ChangeAt Go.RowKit
set_option linter.unusedSimpArgs false
set_option linter.unusedVariables false
/-- a load's numbers -/
structure Ld where
  seg : Int
  used : Int
  size : Int
  fixed : Bool
def Ld.val (c : Ld) : Value := .agg #[.int .i64 c.seg, .int .i64 c.used, .int .i64 c.size, .bool c.fixed]
def L4 (c : Ld) : Array Value := #[.int .i64 c.seg, .int .i64 c.used, .int .i64 c.size, .bool c.fixed]
def rightB (l : Ld) : Bool := decide (1 ≤ l.size) && decide (l.size ≤ 1048576) && decide (0 ≤ l.used) && decide (l.used ≤ l.size) && decide (0 ≤ l.seg)
theorem rightB_true {l : Ld} (h : rightB l = true) : 1 ≤ l.size ∧ l.size ≤ 1048576 ∧ 0 ≤ l.used ∧ l.used ≤ l.size ∧ 0 ≤ l.seg := by
  unfold rightB at h
  simp only [Bool.and_eq_true, decide_eq_true_eq] at h
  obtain ⟨⟨⟨⟨h1, h2⟩, h3⟩, h4⟩, h5⟩ := h
  exact ⟨h1, h2, h3, h4, h5⟩
def LBox (w : World) (k : Nat) (c : Ld) : Prop := w.heap[k]? = some (.cells (L4 c) 49 (0, 0))
theorem LBox.cell {w : World} {k : Nat} {c : Ld} (h : LBox w k c) (i : Nat) : w.cell? ⟨k, i, none⟩ = (L4 c)[i]? := cell_of_row w k i _ _ (0, 0) h
theorem LBox.lt {w : World} {k : Nat} {c : Ld} (h : LBox w k c) : k < w.heap.size := by
  rcases Nat.lt_or_ge k w.heap.size with h1 | h1
  · exact h1
  · unfold LBox at h; rw [Array.getElem?_eq_none h1] at h; cases h
theorem LBox.next {w w' : World} {k : Nat} {c : Ld} (hb : Below w.heap.size w w') (h : LBox w k c) : LBox w' k c := (hb.block k h.lt).trans h
theorem LBox.new (w : World) (c : Ld) : LBox (w.alloc (.cells (L4 c) 49)) w.heap.size c := heap_alloc_new w _
theorem LBox.cells {w : World} {k : Nat} {c : Ld} (h : LBox w k c) : (w.cell? ⟨k, 0, none⟩ = some (.int .i64 c.seg) ∧ w.cell? ⟨k, 1, none⟩ = some (.int .i64 c.used) ∧ w.cell? ⟨k, 2, none⟩ = some (.int .i64 c.size) ∧ w.cell? ⟨k, 3, none⟩ = some (.bool c.fixed)) :=
  ⟨h.cell 0, h.cell 1, h.cell 2, h.cell 3⟩
theorem right_any (c : Ld) (w : World) : Calls Try.prog 41 #[c.val] w fun e w' => e = .returned (.bool (rightB c)) ∧ Below w.heap.size w w' := by
  have hb : Below w.heap.size w (w.alloc (.cells (L4 c) 49)) := (Below.refl _ _).alloc (Nat.le_refl _) _
  unfold L4 at hb
  unfold Ld.val
  by_cases n1 : 1 ≤ c.size
  · by_cases n2 : c.size ≤ 1048576
    · by_cases n3 : 0 ≤ c.used
      · by_cases n4 : c.used ≤ c.size
        · by_cases n5 : 0 ≤ c.seg
          · rw [show rightB c = true from by unfold rightB; simp [n1, n2, n3, n4, n5]]
            go_enter Try.func41, Try.ntmps41
            go_wp2
            go_ret
            exact ⟨rfl, hb⟩
          · rw [show rightB c = false from by unfold rightB; simp [n5]]
            go_enter Try.func41, Try.ntmps41
            go_wp2
            go_ret
            exact ⟨rfl, hb⟩
        · rw [show rightB c = false from by unfold rightB; simp [n4]]
          go_enter Try.func41, Try.ntmps41
          go_wp2
          go_ret
          exact ⟨rfl, hb⟩
      · rw [show rightB c = false from by unfold rightB; simp [n3]]
        go_enter Try.func41, Try.ntmps41
        go_wp2
        go_ret
        exact ⟨rfl, hb⟩
    · rw [show rightB c = false from by unfold rightB; simp [n2]]
      go_enter Try.func41, Try.ntmps41
      go_wp2
      go_ret
      exact ⟨rfl, hb⟩
  · rw [show rightB c = false from by unfold rightB; simp [n1]]
    go_enter Try.func41, Try.ntmps41
    go_wp2
    go_ret
    exact ⟨rfl, hb⟩
def lessB (a b : Ld) : Bool := rightB a && rightB b && (decide (a.used * b.size < b.used * a.size) || (decide (a.used * b.size = b.used * a.size) && decide (a.seg < b.seg)))
theorem prod_rng {a b : Ld} (ha : rightB a = true) (hb : rightB b = true) : 0 ≤ a.used * b.size ∧ a.used * b.size ≤ 1048576 * 1048576 := by
  obtain ⟨h1, h2, h3, h4, h5⟩ := rightB_true ha
  obtain ⟨k1, k2, k3, k4, k5⟩ := rightB_true hb
  exact ⟨Int.mul_nonneg (by omega) (by omega), Int.mul_le_mul (by omega) (by omega) (by omega) (by omega)⟩
set_option maxRecDepth 100000 in
set_option maxHeartbeats 4000000 in
theorem less_any (a b : Ld) (w : World) : Calls Try.prog 45 #[a.val, b.val] w fun e w' => e = .returned (.bool (lessB a b)) ∧ Below w.heap.size w w' := by
  have hra := fun w1 => right_any a w1
  have hrb := fun w1 => right_any b w1
  have hba := LBox.new w a
  have hbb := LBox.new (w.alloc (.cells (L4 a) 49)) b
  have hba2 : LBox ((w.alloc (.cells (L4 a) 49)).alloc (.cells (L4 b) 49)) w.heap.size a := (Below.heap_alloc _ _ _ hba.lt).trans hba
  have hb0 : Below w.heap.size w ((w.alloc (.cells (L4 a) 49)).alloc (.cells (L4 b) 49)) := ((Below.refl _ _).alloc (Nat.le_refl _) _).alloc (by simp) _
  rw [World.size_alloc] at hbb
  by_cases ra : rightB a = true
  · by_cases rb : rightB b = true
    · obtain ⟨p1, p2⟩ := prod_rng ra rb
      obtain ⟨p3, p4⟩ := prod_rng rb ra
      have hres : lessB a b = (decide (a.used * b.size < b.used * a.size) || (decide (a.used * b.size = b.used * a.size) && decide (a.seg < b.seg))) := by unfold lessB; rw [ra, rb]; rfl
      rw [ra] at hra
      rw [rb] at hrb
      generalize lessB a b = r at *
      have HR := Lib.hid hres
      have HA := Lib.hid hra
      have HB := Lib.hid hrb
      have XA := Lib.hid hba2
      have XB := Lib.hid hbb
      clear hra hrb ra rb hba2 hbb hba hres
      unfold L4 at hb0
      unfold Ld.val at HA HB ⊢
      go_enter Try.func45, Try.ntmps45
      go_wp2_with fail
      refine (HA.out _).mono ?_
      rintro e w1 ⟨rfl, hb1⟩
      have ha1 : LBox w1 w.heap.size a := LBox.next hb1 XA.out
      have hx1 : LBox w1 (w.heap.size + 1) b := LBox.next hb1 XB.out
      have hB1 : Below w.heap.size w w1 := nextB hb1 (by first | exact hb0 | exact hb0.drew | exact belowN hb0 _)
      obtain ⟨k0, k1, k2, k3⟩ := ha1.cells
      obtain ⟨l0, l1, l2, l3⟩ := hx1.cells
      go_wp2_with fail
      refine (HB.out _).mono ?_
      rintro e w2 ⟨rfl, hb2⟩
      have ha2 : LBox w2 w.heap.size a := LBox.next hb2 ha1
      have hx2 : LBox w2 (w.heap.size + 1) b := LBox.next hb2 hx1
      have hB2 : Below w.heap.size w w2 := nextB hb2 hB1
      obtain ⟨m0, m1, m2, m3⟩ := ha2.cells
      obtain ⟨n0, n1, n2, n3⟩ := hx2.cells
      go_wp2
      go_quiet (fail)
      generalize a.used * b.size = x at *
      generalize b.used * a.size = y at *
      by_cases c1 : x < y
      · go_wp2
        go_ret
        exact ⟨by rw [HR.out]; simp [c1], belowN hB2 _⟩
      · by_cases c2 : x = y
        · by_cases c3 : a.seg < b.seg
          · go_wp2
            go_ret
            exact ⟨by rw [HR.out]; simp [c1, c2, c3], belowN hB2 _⟩
          · go_wp2
            go_ret
            exact ⟨by rw [HR.out]; simp [c1, c2, c3], belowN hB2 _⟩
        · go_wp2
          go_ret
          exact ⟨by rw [HR.out]; simp [c1, c2], belowN hB2 _⟩
    · have hres : lessB a b = false := by unfold lessB; rw [show rightB b = false from by simpa using rb]; simp
      rw [hres]
      rw [ra] at hra
      rw [show rightB b = false from by simpa using rb] at hrb
      have HA := Lib.hid hra
      have HB := Lib.hid hrb
      have XA := Lib.hid hba2
      have XB := Lib.hid hbb
      clear hra hrb ra rb hba2 hbb hba hres
      unfold L4 at hb0
      unfold Ld.val at HA HB ⊢
      go_enter Try.func45, Try.ntmps45
      go_wp2_with fail
      refine (HA.out _).mono ?_
      rintro e w1 ⟨rfl, hb1⟩
      have ha1 : LBox w1 w.heap.size a := LBox.next hb1 XA.out
      have hx1 : LBox w1 (w.heap.size + 1) b := LBox.next hb1 XB.out
      have hB1 : Below w.heap.size w w1 := nextB hb1 (by first | exact hb0 | exact hb0.drew | exact belowN hb0 _)
      obtain ⟨k0, k1, k2, k3⟩ := ha1.cells
      obtain ⟨l0, l1, l2, l3⟩ := hx1.cells
      go_wp2_with fail
      refine (HB.out _).mono ?_
      rintro e w2 ⟨rfl, hb2⟩
      have hB2 : Below w.heap.size w w2 := nextB hb2 hB1
      go_wp2
      go_ret
      exact ⟨rfl, hB2⟩
  · have hres : lessB a b = false := by unfold lessB; rw [show rightB a = false from by simpa using ra]; simp
    rw [hres]
    rw [show rightB a = false from by simpa using ra] at hra
    have HA := Lib.hid hra
    have XA := Lib.hid hba2
    have XB := Lib.hid hbb
    clear hra hrb ra hba2 hbb hba hres
    unfold L4 at hb0
    unfold Ld.val at HA ⊢
    go_enter Try.func45, Try.ntmps45
    go_wp2_with fail
    refine (HA.out _).mono ?_
    rintro e w1 ⟨rfl, hb1⟩
    have hB1 : Below w.heap.size w w1 := nextB hb1 (by first | exact hb0 | exact hb0.drew | exact belowN hb0 _)
    go_wp2
    go_ret
    exact ⟨rfl, hB1⟩
end Go.Proofs.Ytlbodandidopfaa
