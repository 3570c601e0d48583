/- The law CleanOrder answers true for any three loads: of two right ones one is less, or they are of one segment and as full; less is an order. Conditions: none. -/
import Derived.Test.YtlbodandidopfaaClo
namespace Go.Proofs.Ytlbodandidopfaa.lawCleanOrder
open Go.ChangeShapes Go.WideShapes Go.ChangeAt Go.RowKit
set_option linter.unusedSimpArgs false
set_option linter.unusedVariables false

theorem own : ownKnob Try.prog.godebug = none := by kernel_rfl
theorem laid : laidOutB Try.prog = true := by kernel_rfl

theorem frac_le {u1 s1 u2 s2 u3 s3 : Int} (p1 : 0 < s1) (p2 : 0 < s2) (p3 : 0 < s3) (h12 : u1 * s2 ≤ u2 * s1) (h23 : u2 * s3 ≤ u3 * s2) : u1 * s3 ≤ u3 * s1 := by
  refine Int.le_of_mul_le_mul_right (?_ : (u1 * s3) * s2 ≤ (u3 * s1) * s2) p2
  have a1 := Int.mul_le_mul_of_nonneg_right h12 (Int.le_of_lt p3)
  have a2 := Int.mul_le_mul_of_nonneg_right h23 (Int.le_of_lt p1)
  rw [Int.mul_right_comm u1 s3 s2, Int.mul_right_comm u3 s1 s2]
  rw [Int.mul_right_comm u2 s1 s3] at a1
  exact Int.le_trans a1 a2
theorem frac_lt1 {u1 s1 u2 s2 u3 s3 : Int} (p1 : 0 < s1) (p2 : 0 < s2) (p3 : 0 < s3) (h12 : u1 * s2 < u2 * s1) (h23 : u2 * s3 ≤ u3 * s2) : u1 * s3 < u3 * s1 := by
  refine Int.lt_of_mul_lt_mul_right (?_ : (u1 * s3) * s2 < (u3 * s1) * s2) (Int.le_of_lt p2)
  have a1 := Int.mul_lt_mul_of_pos_right h12 p3
  have a2 := Int.mul_le_mul_of_nonneg_right h23 (Int.le_of_lt p1)
  rw [Int.mul_right_comm u1 s3 s2, Int.mul_right_comm u3 s1 s2]
  rw [Int.mul_right_comm u2 s1 s3] at a1
  exact Int.lt_of_lt_of_le a1 a2
theorem frac_lt2 {u1 s1 u2 s2 u3 s3 : Int} (p1 : 0 < s1) (p2 : 0 < s2) (p3 : 0 < s3) (h12 : u1 * s2 ≤ u2 * s1) (h23 : u2 * s3 < u3 * s2) : u1 * s3 < u3 * s1 := by
  refine Int.lt_of_mul_lt_mul_right (?_ : (u1 * s3) * s2 < (u3 * s1) * s2) (Int.le_of_lt p2)
  have a1 := Int.mul_le_mul_of_nonneg_right h12 (Int.le_of_lt p3)
  have a2 := Int.mul_lt_mul_of_pos_right h23 p1
  rw [Int.mul_right_comm u1 s3 s2, Int.mul_right_comm u3 s1 s2]
  rw [Int.mul_right_comm u2 s1 s3] at a1
  exact Int.lt_of_le_of_lt a1 a2
theorem frac_eq {u1 s1 u2 s2 u3 s3 : Int} (p1 : 0 < s1) (p2 : 0 < s2) (p3 : 0 < s3) (h12 : u1 * s2 = u2 * s1) (h23 : u2 * s3 = u3 * s2) : u1 * s3 = u3 * s1 :=
  Int.le_antisymm (frac_le p1 p2 p3 (Int.le_of_eq h12) (Int.le_of_eq h23)) (frac_le p3 p2 p1 (Int.le_of_eq h23.symm) (Int.le_of_eq h12.symm))
theorem less_iff {a b : Ld} (ra : rightB a = true) (rb : rightB b = true) : lessB a b = true ↔ (a.used * b.size < b.used * a.size ∨ (a.used * b.size = b.used * a.size ∧ a.seg < b.seg)) := by
  unfold lessB
  rw [ra, rb]
  simp
theorem less_anti {a b : Ld} (ra : rightB a = true) (rb : rightB b = true) (h : lessB a b = true) : lessB b a = false := by
  rw [Bool.eq_false_iff]
  intro h2
  rcases (less_iff ra rb).1 h with h | ⟨h, k⟩ <;> rcases (less_iff rb ra).1 h2 with h2 | ⟨h2, k2⟩ <;> omega
theorem less_irr {a : Ld} (ra : rightB a = true) : lessB a a = false := by
  rw [Bool.eq_false_iff]
  intro h2
  rcases (less_iff ra ra).1 h2 with h2 | ⟨h2, k2⟩ <;> omega
theorem less_trans {a b c : Ld} (ra : rightB a = true) (rb : rightB b = true) (rc : rightB c = true) (h : lessB a b = true) (h2 : lessB b c = true) : lessB a c = true := by
  have pa := (rightB_true ra).1
  have pb := (rightB_true rb).1
  have pc := (rightB_true rc).1
  refine (less_iff ra rc).2 ?_
  rcases (less_iff ra rb).1 h with h | ⟨h, k⟩ <;> rcases (less_iff rb rc).1 h2 with h2 | ⟨h2, k2⟩
  · exact Or.inl (frac_lt1 (by omega) (show 0 < b.size by omega) (by omega) h (Int.le_of_lt h2))
  · exact Or.inl (frac_lt1 (by omega) (show 0 < b.size by omega) (by omega) h (Int.le_of_eq h2))
  · exact Or.inl (frac_lt2 (by omega) (show 0 < b.size by omega) (by omega) (Int.le_of_eq h) h2)
  · exact Or.inr ⟨frac_eq (by omega) (show 0 < b.size by omega) (by omega) h h2, by omega⟩
theorem less_some {a b : Ld} (ra : rightB a = true) (rb : rightB b = true) (h : lessB a b = true ∨ lessB b a = true) : ¬ (a.used * b.size = b.used * a.size ∧ a.seg = b.seg) := by
  intro ⟨e1, e2⟩
  rcases h with h | h
  · rcases (less_iff ra rb).1 h with h | ⟨h, k⟩ <;> omega
  · rcases (less_iff rb ra).1 h with h | ⟨h, k⟩ <;> omega
theorem less_none {a b : Ld} (ra : rightB a = true) (rb : rightB b = true) (h : lessB a b = false) (h2 : lessB b a = false) : a.used * b.size = b.used * a.size ∧ a.seg = b.seg := by
  have n1 := fun k => Bool.eq_false_iff.1 h ((less_iff ra rb).2 k)
  have n2 := fun k => Bool.eq_false_iff.1 h2 ((less_iff rb ra).2 k)
  have m1 : ¬ a.used * b.size < b.used * a.size := fun k => n1 (Or.inl k)
  have m2 : ¬ b.used * a.size < a.used * b.size := fun k => n2 (Or.inl k)
  have e : a.used * b.size = b.used * a.size := by omega
  have m3 : ¬ a.seg < b.seg := fun k => n1 (Or.inr ⟨e, k⟩)
  have m4 : ¬ b.seg < a.seg := fun k => n2 (Or.inr ⟨e.symm, k⟩)
  exact ⟨e, by omega⟩
set_option maxRecDepth 100000 in
set_option maxHeartbeats 8000000 in
theorem walk (a b c : Ld) (w : World) : Calls Try.prog 10 #[a.val, b.val, c.val] w fun e w' => e = .returned (.bool true) ∧ Below w.heap.size w w' := by
  have hkn := fun w1 => kclean_any w1
  have hra := fun w1 => right_any a w1
  have hrb := fun w1 => right_any b w1
  have hrc := fun w1 => right_any c w1
  have hxa : LBox (((w.alloc (.cells (L4 a) 49)).alloc (.cells (L4 b) 49)).alloc (.cells (L4 c) 49)) w.heap.size a :=
    (Below.heap_alloc _ _ _ (by simp; omega)).trans ((Below.heap_alloc _ _ _ (by simp)).trans (LBox.new w a))
  have hxb : LBox (((w.alloc (.cells (L4 a) 49)).alloc (.cells (L4 b) 49)).alloc (.cells (L4 c) 49)) (w.heap.size + 1) b :=
    (Below.heap_alloc _ _ _ (by simp)).trans (by have h := LBox.new (w.alloc (.cells (L4 a) 49)) b; rw [World.size_alloc] at h; exact h)
  have hxc : LBox (((w.alloc (.cells (L4 a) 49)).alloc (.cells (L4 b) 49)).alloc (.cells (L4 c) 49)) (w.heap.size + 2) c := by
    have h := LBox.new ((w.alloc (.cells (L4 a) 49)).alloc (.cells (L4 b) 49)) c
    rw [World.size_alloc, World.size_alloc] at h
    exact h
  have hb0 : Below w.heap.size w (((w.alloc (.cells (L4 a) 49)).alloc (.cells (L4 b) 49)).alloc (.cells (L4 c) 49)) := (((Below.refl _ _).alloc (Nat.le_refl _) _).alloc (by simp) _).alloc (by simp; omega) _
  by_cases ra : rightB a = true
  · rw [ra] at hra
    by_cases rb : rightB b = true
    · rw [rb] at hrb
      by_cases rc : rightB c = true
      · rw [rc] at hrc
        have hab := fun w1 => less_any a b w1
        have hba := fun w1 => less_any b a w1
        have haa := fun w1 => less_any a a w1
        have hbc := fun w1 => less_any b c w1
        have hac := fun w1 => less_any a c w1
        rw [less_irr ra] at haa
        have F1 := less_anti ra rb
        have F3 := less_trans ra rb rc
        have F4 := less_some ra rb
        have F5 := less_none ra rb
        obtain ⟨p1, p2⟩ := prod_rng ra rb
        obtain ⟨p3, p4⟩ := prod_rng rb ra
        generalize lessB a b = x at *
        generalize lessB b a = y at *
        generalize lessB b c = u at *
        generalize lessB a c = v at *
        have HK := Lib.hid hkn
        have HA := Lib.hid hra
        have HB := Lib.hid hrb
        have HC := Lib.hid hrc
        have HAB := Lib.hid hab
        have HBA := Lib.hid hba
        have HAA := Lib.hid haa
        have HBC := Lib.hid hbc
        have HAC := Lib.hid hac
        have G1 := Lib.hid F1
        have G3 := Lib.hid F3
        have G4 := Lib.hid F4
        have G5 := Lib.hid F5
        have Xa := Lib.hid hxa
        have Xb := Lib.hid hxb
        have Xc := Lib.hid hxc
        clear hkn hra hrb hrc hab hba haa hbc hac F1 F3 F4 F5 hxa hxb hxc ra rb rc
        unfold L4 at hb0
        unfold Ld.val at HA HB HC HAB HBA HAA HBC HAC ⊢
        go_enter Try.func10, Try.ntmps10
        go_wp2_with fail
        refine (HK.out _).mono ?_
        rintro e w1 ⟨rfl, hb1⟩
        have a1 : LBox w1 w.heap.size a := LBox.next hb1 Xa.out
        have b1 : LBox w1 (w.heap.size + 1) b := LBox.next hb1 Xb.out
        have c1 : LBox w1 (w.heap.size + 2) c := LBox.next hb1 Xc.out
        have hB1 : Below w.heap.size w w1 := nextB hb1 (by first | exact hb0 | exact hb0.drew | exact belowN hb0 _)
        obtain ⟨a10, a11, a12, a13⟩ := a1.cells
        obtain ⟨b10, b11, b12, b13⟩ := b1.cells
        obtain ⟨c10, c11, c12, c13⟩ := c1.cells
        go_wp2_with fail
        refine (HA.out _).mono ?_
        rintro e w2 ⟨rfl, hb2⟩
        have a2 : LBox w2 w.heap.size a := LBox.next hb2 a1
        have b2 : LBox w2 (w.heap.size + 1) b := LBox.next hb2 b1
        have c2 : LBox w2 (w.heap.size + 2) c := LBox.next hb2 c1
        have hB2 : Below w.heap.size w w2 := nextB hb2 hB1
        obtain ⟨a20, a21, a22, a23⟩ := a2.cells
        obtain ⟨b20, b21, b22, b23⟩ := b2.cells
        obtain ⟨c20, c21, c22, c23⟩ := c2.cells
        go_wp2_with fail
        refine (HB.out _).mono ?_
        rintro e w3 ⟨rfl, hb3⟩
        have a3 : LBox w3 w.heap.size a := LBox.next hb3 a2
        have b3 : LBox w3 (w.heap.size + 1) b := LBox.next hb3 b2
        have c3 : LBox w3 (w.heap.size + 2) c := LBox.next hb3 c2
        have hB3 : Below w.heap.size w w3 := nextB hb3 hB2
        obtain ⟨a30, a31, a32, a33⟩ := a3.cells
        obtain ⟨b30, b31, b32, b33⟩ := b3.cells
        obtain ⟨c30, c31, c32, c33⟩ := c3.cells
        go_wp2_with fail
        refine (HC.out _).mono ?_
        rintro e w4 ⟨rfl, hb4⟩
        have a4 : LBox w4 w.heap.size a := LBox.next hb4 a3
        have b4 : LBox w4 (w.heap.size + 1) b := LBox.next hb4 b3
        have c4 : LBox w4 (w.heap.size + 2) c := LBox.next hb4 c3
        have hB4 : Below w.heap.size w w4 := nextB hb4 hB3
        obtain ⟨a40, a41, a42, a43⟩ := a4.cells
        obtain ⟨b40, b41, b42, b43⟩ := b4.cells
        obtain ⟨c40, c41, c42, c43⟩ := c4.cells
        go_wp2_with fail
        refine (HAB.out _).mono ?_
        rintro e w5 ⟨rfl, hb5⟩
        have a5 : LBox w5 w.heap.size a := LBox.next hb5 a4
        have b5 : LBox w5 (w.heap.size + 1) b := LBox.next hb5 b4
        have c5 : LBox w5 (w.heap.size + 2) c := LBox.next hb5 c4
        have hB5 : Below w.heap.size w w5 := nextB hb5 hB4
        obtain ⟨a50, a51, a52, a53⟩ := a5.cells
        obtain ⟨b50, b51, b52, b53⟩ := b5.cells
        obtain ⟨c50, c51, c52, c53⟩ := c5.cells
        go_wp2_with fail
        refine (HBA.out _).mono ?_
        rintro e w6 ⟨rfl, hb6⟩
        have a6 : LBox w6 w.heap.size a := LBox.next hb6 a5
        have b6 : LBox w6 (w.heap.size + 1) b := LBox.next hb6 b5
        have c6 : LBox w6 (w.heap.size + 2) c := LBox.next hb6 c5
        have hB6 : Below w.heap.size w w6 := nextB hb6 hB5
        obtain ⟨a60, a61, a62, a63⟩ := a6.cells
        obtain ⟨b60, b61, b62, b63⟩ := b6.cells
        obtain ⟨c60, c61, c62, c63⟩ := c6.cells
        cases x with
        | true =>
          have hne := G4.out (Or.inl rfl)
          have hy := G1.out rfl
          subst hy
          go_wp2_with fail
          refine (HAA.out _).mono ?_
          rintro e w7 ⟨rfl, hb7⟩
          have a7 : LBox w7 w.heap.size a := LBox.next hb7 a6
          have b7 : LBox w7 (w.heap.size + 1) b := LBox.next hb7 b6
          have c7 : LBox w7 (w.heap.size + 2) c := LBox.next hb7 c6
          have hB7 : Below w.heap.size w w7 := nextB hb7 hB6
          obtain ⟨a70, a71, a72, a73⟩ := a7.cells
          obtain ⟨b70, b71, b72, b73⟩ := b7.cells
          obtain ⟨c70, c71, c72, c73⟩ := c7.cells
          go_wp2_with fail
          refine (HBC.out _).mono ?_
          rintro e w8 ⟨rfl, hb8⟩
          have a8 : LBox w8 w.heap.size a := LBox.next hb8 a7
          have b8 : LBox w8 (w.heap.size + 1) b := LBox.next hb8 b7
          have c8 : LBox w8 (w.heap.size + 2) c := LBox.next hb8 c7
          have hB8 : Below w.heap.size w w8 := nextB hb8 hB7
          obtain ⟨a80, a81, a82, a83⟩ := a8.cells
          obtain ⟨b80, b81, b82, b83⟩ := b8.cells
          obtain ⟨c80, c81, c82, c83⟩ := c8.cells
          cases u with
          | true =>
            have hv : v = true := by simpa using G3.out
            subst hv
            go_wp2_with fail
            refine (HAC.out _).mono ?_
            rintro e w9 ⟨rfl, hb9⟩
            have a9 : LBox w9 w.heap.size a := LBox.next hb9 a8
            have b9 : LBox w9 (w.heap.size + 1) b := LBox.next hb9 b8
            have c9 : LBox w9 (w.heap.size + 2) c := LBox.next hb9 c8
            have hB9 : Below w.heap.size w w9 := nextB hb9 hB8
            obtain ⟨a90, a91, a92, a93⟩ := a9.cells
            obtain ⟨b90, b91, b92, b93⟩ := b9.cells
            obtain ⟨c90, c91, c92, c93⟩ := c9.cells
            by_cases c1 : a.used * b.size = b.used * a.size
            · have c2 : ¬ a.seg = b.seg := fun h => hne ⟨c1, h⟩
              have c3 : (a.seg == b.seg) = false := by rw [beq_eq_false_iff_ne]; exact c2
              clear hne
              go_wp2
              go_ret
              refine ⟨?_, hB9⟩; first | rfl | (simp [c2]; done)
            · clear hne
              go_wp2
              go_ret
              refine ⟨?_, hB9⟩; first | rfl | (simp [c1]; done)
          | false =>
            by_cases c1 : a.used * b.size = b.used * a.size
            · have c2 : ¬ a.seg = b.seg := fun h => hne ⟨c1, h⟩
              have c3 : (a.seg == b.seg) = false := by rw [beq_eq_false_iff_ne]; exact c2
              clear hne
              go_wp2
              go_ret
              refine ⟨?_, hB8⟩; first | rfl | (simp [c2]; done)
            · clear hne
              go_wp2
              go_ret
              refine ⟨?_, hB8⟩; first | rfl | (simp [c1]; done)
        | false =>
          cases y with
          | true =>
            have hne := G4.out (Or.inr rfl)
            go_wp2_with fail
            refine (HAA.out _).mono ?_
            rintro e w7 ⟨rfl, hb7⟩
            have a7 : LBox w7 w.heap.size a := LBox.next hb7 a6
            have b7 : LBox w7 (w.heap.size + 1) b := LBox.next hb7 b6
            have c7 : LBox w7 (w.heap.size + 2) c := LBox.next hb7 c6
            have hB7 : Below w.heap.size w w7 := nextB hb7 hB6
            obtain ⟨a70, a71, a72, a73⟩ := a7.cells
            obtain ⟨b70, b71, b72, b73⟩ := b7.cells
            obtain ⟨c70, c71, c72, c73⟩ := c7.cells
            by_cases c1 : a.used * b.size = b.used * a.size
            · have c2 : ¬ a.seg = b.seg := fun h => hne ⟨c1, h⟩
              have c3 : (a.seg == b.seg) = false := by rw [beq_eq_false_iff_ne]; exact c2
              clear hne
              go_wp2
              go_ret
              refine ⟨?_, hB7⟩; first | rfl | (simp [c2]; done)
            · clear hne
              go_wp2
              go_ret
              refine ⟨?_, hB7⟩; first | rfl | (simp [c1]; done)
          | false =>
            go_wp2_with fail
            refine (HAA.out _).mono ?_
            rintro e w7 ⟨rfl, hb7⟩
            have a7 : LBox w7 w.heap.size a := LBox.next hb7 a6
            have b7 : LBox w7 (w.heap.size + 1) b := LBox.next hb7 b6
            have c7 : LBox w7 (w.heap.size + 2) c := LBox.next hb7 c6
            have hB7 : Below w.heap.size w w7 := nextB hb7 hB6
            obtain ⟨a70, a71, a72, a73⟩ := a7.cells
            obtain ⟨b70, b71, b72, b73⟩ := b7.cells
            obtain ⟨c70, c71, c72, c73⟩ := c7.cells
            obtain ⟨c1, c2⟩ : a.used * b.size = b.used * a.size ∧ a.seg = b.seg := by simpa using G5.out
            go_wp2
            go_ret
            refine ⟨?_, hB7⟩; first | rfl | (simp [c2]; done)
      · rw [show rightB c = false from by simpa using rc] at hrc
        have HK := Lib.hid hkn
        have HA := Lib.hid hra
        have HB := Lib.hid hrb
        have HC := Lib.hid hrc
        have Xa := Lib.hid hxa
        have Xb := Lib.hid hxb
        have Xc := Lib.hid hxc
        clear hkn hra hrb hrc hxa hxb hxc ra rb rc
        unfold L4 at hb0
        unfold Ld.val at HA HB HC ⊢
        go_enter Try.func10, Try.ntmps10
        go_wp2_with fail
        refine (HK.out _).mono ?_
        rintro e w1 ⟨rfl, hb1⟩
        have a1 : LBox w1 w.heap.size a := LBox.next hb1 Xa.out
        have b1 : LBox w1 (w.heap.size + 1) b := LBox.next hb1 Xb.out
        have c1 : LBox w1 (w.heap.size + 2) c := LBox.next hb1 Xc.out
        have hB1 : Below w.heap.size w w1 := nextB hb1 (by first | exact hb0 | exact hb0.drew | exact belowN hb0 _)
        obtain ⟨a10, a11, a12, a13⟩ := a1.cells
        obtain ⟨b10, b11, b12, b13⟩ := b1.cells
        obtain ⟨c10, c11, c12, c13⟩ := c1.cells
        go_wp2_with fail
        refine (HA.out _).mono ?_
        rintro e w2 ⟨rfl, hb2⟩
        have a2 : LBox w2 w.heap.size a := LBox.next hb2 a1
        have b2 : LBox w2 (w.heap.size + 1) b := LBox.next hb2 b1
        have c2 : LBox w2 (w.heap.size + 2) c := LBox.next hb2 c1
        have hB2 : Below w.heap.size w w2 := nextB hb2 hB1
        obtain ⟨a20, a21, a22, a23⟩ := a2.cells
        obtain ⟨b20, b21, b22, b23⟩ := b2.cells
        obtain ⟨c20, c21, c22, c23⟩ := c2.cells
        go_wp2_with fail
        refine (HB.out _).mono ?_
        rintro e w3 ⟨rfl, hb3⟩
        have a3 : LBox w3 w.heap.size a := LBox.next hb3 a2
        have b3 : LBox w3 (w.heap.size + 1) b := LBox.next hb3 b2
        have c3 : LBox w3 (w.heap.size + 2) c := LBox.next hb3 c2
        have hB3 : Below w.heap.size w w3 := nextB hb3 hB2
        obtain ⟨a30, a31, a32, a33⟩ := a3.cells
        obtain ⟨b30, b31, b32, b33⟩ := b3.cells
        obtain ⟨c30, c31, c32, c33⟩ := c3.cells
        go_wp2_with fail
        refine (HC.out _).mono ?_
        rintro e w4 ⟨rfl, hb4⟩
        have a4 : LBox w4 w.heap.size a := LBox.next hb4 a3
        have b4 : LBox w4 (w.heap.size + 1) b := LBox.next hb4 b3
        have c4 : LBox w4 (w.heap.size + 2) c := LBox.next hb4 c3
        have hB4 : Below w.heap.size w w4 := nextB hb4 hB3
        obtain ⟨a40, a41, a42, a43⟩ := a4.cells
        obtain ⟨b40, b41, b42, b43⟩ := b4.cells
        obtain ⟨c40, c41, c42, c43⟩ := c4.cells
        go_wp2
        go_ret
        exact ⟨rfl, hB4⟩
    · rw [show rightB b = false from by simpa using rb] at hrb
      have HK := Lib.hid hkn
      have HA := Lib.hid hra
      have HB := Lib.hid hrb
      have Xa := Lib.hid hxa
      have Xb := Lib.hid hxb
      have Xc := Lib.hid hxc
      clear hkn hra hrb hrc hxa hxb hxc ra rb
      unfold L4 at hb0
      unfold Ld.val at HA HB ⊢
      go_enter Try.func10, Try.ntmps10
      go_wp2_with fail
      refine (HK.out _).mono ?_
      rintro e w1 ⟨rfl, hb1⟩
      have a1 : LBox w1 w.heap.size a := LBox.next hb1 Xa.out
      have b1 : LBox w1 (w.heap.size + 1) b := LBox.next hb1 Xb.out
      have c1 : LBox w1 (w.heap.size + 2) c := LBox.next hb1 Xc.out
      have hB1 : Below w.heap.size w w1 := nextB hb1 (by first | exact hb0 | exact hb0.drew | exact belowN hb0 _)
      obtain ⟨a10, a11, a12, a13⟩ := a1.cells
      obtain ⟨b10, b11, b12, b13⟩ := b1.cells
      obtain ⟨c10, c11, c12, c13⟩ := c1.cells
      go_wp2_with fail
      refine (HA.out _).mono ?_
      rintro e w2 ⟨rfl, hb2⟩
      have a2 : LBox w2 w.heap.size a := LBox.next hb2 a1
      have b2 : LBox w2 (w.heap.size + 1) b := LBox.next hb2 b1
      have c2 : LBox w2 (w.heap.size + 2) c := LBox.next hb2 c1
      have hB2 : Below w.heap.size w w2 := nextB hb2 hB1
      obtain ⟨a20, a21, a22, a23⟩ := a2.cells
      obtain ⟨b20, b21, b22, b23⟩ := b2.cells
      obtain ⟨c20, c21, c22, c23⟩ := c2.cells
      go_wp2_with fail
      refine (HB.out _).mono ?_
      rintro e w3 ⟨rfl, hb3⟩
      have a3 : LBox w3 w.heap.size a := LBox.next hb3 a2
      have b3 : LBox w3 (w.heap.size + 1) b := LBox.next hb3 b2
      have c3 : LBox w3 (w.heap.size + 2) c := LBox.next hb3 c2
      have hB3 : Below w.heap.size w w3 := nextB hb3 hB2
      obtain ⟨a30, a31, a32, a33⟩ := a3.cells
      obtain ⟨b30, b31, b32, b33⟩ := b3.cells
      obtain ⟨c30, c31, c32, c33⟩ := c3.cells
      go_wp2
      go_ret
      exact ⟨rfl, hB3⟩
  · rw [show rightB a = false from by simpa using ra] at hra
    have HK := Lib.hid hkn
    have HA := Lib.hid hra
    have Xa := Lib.hid hxa
    have Xb := Lib.hid hxb
    have Xc := Lib.hid hxc
    clear hkn hra hrb hrc hxa hxb hxc ra
    unfold L4 at hb0
    unfold Ld.val at HA ⊢
    go_enter Try.func10, Try.ntmps10
    go_wp2_with fail
    refine (HK.out _).mono ?_
    rintro e w1 ⟨rfl, hb1⟩
    have a1 : LBox w1 w.heap.size a := LBox.next hb1 Xa.out
    have b1 : LBox w1 (w.heap.size + 1) b := LBox.next hb1 Xb.out
    have c1 : LBox w1 (w.heap.size + 2) c := LBox.next hb1 Xc.out
    have hB1 : Below w.heap.size w w1 := nextB hb1 (by first | exact hb0 | exact hb0.drew | exact belowN hb0 _)
    obtain ⟨a10, a11, a12, a13⟩ := a1.cells
    obtain ⟨b10, b11, b12, b13⟩ := b1.cells
    obtain ⟨c10, c11, c12, c13⟩ := c1.cells
    go_wp2_with fail
    refine (HA.out _).mono ?_
    rintro e w2 ⟨rfl, hb2⟩
    have a2 : LBox w2 w.heap.size a := LBox.next hb2 a1
    have b2 : LBox w2 (w.heap.size + 1) b := LBox.next hb2 b1
    have c2 : LBox w2 (w.heap.size + 2) c := LBox.next hb2 c1
    have hB2 : Below w.heap.size w w2 := nextB hb2 hB1
    obtain ⟨a20, a21, a22, a23⟩ := a2.cells
    obtain ⟨b20, b21, b22, b23⟩ := b2.cells
    obtain ⟨c20, c21, c22, c23⟩ := c2.cells
    go_wp2
    go_ret
    exact ⟨rfl, hB2⟩

set_option maxRecDepth 100000 in
theorem lifted (os : Os) (started : os.Started) (H : Type) (enc : TypeId × Value → H) :
    ReturnsInHanded {} Try.checked os 10 .any (Rows.cleanOrderSpec.pre6 enc Try.prog Try.f10 Rows.cleanOrderRow.domain false) (Rows.cleanOrderSpec.post enc Try.prog Try.f10 false true false false) := by
  refine returnsInHanded_of_change (C := Try.checked) own started (by kernel_rfl) Try.func10
    (ChangeSpec.witness6 (enc := enc) (C := Try.checked) false ⟨#[], #[.agg #[.int .i64 0, .int .i64 0, .int .i64 0, .bool false], .agg #[.int .i64 0, .int .i64 0, .int .i64 0, .bool false], .agg #[.int .i64 0, .int .i64 0, .int .i64 0, .bool false]], []⟩ 8 (by kernel_rfl) (by kernel_rfl) (by kernel_rfl) (by kernel_rfl)) ?_
  intro W base args ds gs before hval0 hW hcnd _
  have hval : ∀ (j : Nat) t v, Try.f10.params[j]? = some t → args[j]? = some v → Value.okWide Try.prog W .any base t v := hval0
  have hW' := hW
  obtain ⟨p, q, hA0, hV, rfl, hfz, hnd⟩ := hW
  have hA : DataW.TrodAll enc Try.prog W 0 (fun _ => true) true Try.f10.params.toList args.toList ds p := hA0
  rw [Try.params10] at hA hval
  obtain ⟨v0, vs0, d0, ds0, p0, q0, hargs, rfl, rfl, h0, r0⟩ := trodAll_cons hA
  obtain ⟨v1, vs1, d1, ds1, p1, q1, rfl, rfl, rfl, h1, r1⟩ := trodAll_cons r0
  obtain ⟨v2, vs2, d2, ds2, p2, q2, rfl, rfl, rfl, h2, r2⟩ := trodAll_cons r1
  obtain ⟨rfl, rfl, rfl⟩ := trodAll_nil r2
  obtain rfl : args = #[v0, v1, v2] := by cases args; simp_all
  obtain ⟨rfl, rfl⟩ := trodVars_none hV
  obtain ⟨c0, rfl⟩ := open_ld Try.underlying49 (by kernel_rfl) (by kernel_rfl) Try.underlying3 Try.underlying4 rfl (hval 0 49 v0 rfl rfl) h0
  obtain ⟨c1, rfl⟩ := open_ld Try.underlying49 (by kernel_rfl) (by kernel_rfl) Try.underlying3 Try.underlying4 rfl (hval 1 49 v1 rfl rfl) h1
  obtain ⟨c2, rfl⟩ := open_ld Try.underlying49 (by kernel_rfl) (by kernel_rfl) Try.underlying3 Try.underlying4 rfl (hval 2 49 v2 rfl rfl) h2
  clear hA0 hval0
  refine (walk c0 c1 c2 W).mono fun e W' ⟨he, hb⟩ => ?_
  subst he
  exact ⟨_, rfl, law_post hW' rfl laid (by kernel_rfl) rfl Try.underlying4 rfl hb⟩

theorem over : Rows.cleanOrderRow.holds Try.pinned (OpenSpec.ofChange Rows.cleanOrderSpec) :=
  OpenClaim.holds_of_wide 10 Try.f10 rfl rfl rfl rfl rfl rfl rfl ⟨rfl, rfl, rfl, rfl, rfl⟩ rfl rfl rfl rfl rfl (by kernel_rfl) Try.func10 (by kernel_rfl)
    (of_decide_eq_true (by kernel_rfl)) (by unfold Func.isWrapper; first | (rw [if_pos (by decide +kernel)]; kernel_rfl) | (rw [if_neg (by decide +kernel)]; exact ⟨rfl, rfl⟩))
    (fun os started H enc _ => lifted os started H enc)

theorem proved : Rows.CleanOrderSaid :=
  over
end Go.Proofs.Ytlbodandidopfaa.lawCleanOrder
