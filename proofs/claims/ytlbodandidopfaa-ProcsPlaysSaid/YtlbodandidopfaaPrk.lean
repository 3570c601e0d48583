/- The seventeenth chapter's example holds. Conditions: none. -/
import Derived.Test.YtlbodandidopfaaPrs
namespace Go.Proofs.Ytlbodandidopfaa
open Go.ChangeShapes Go.WideShapes Go.ChangeAt Go.RowKit
set_option linter.unusedSimpArgs false
set_option linter.unusedVariables false
theorem ptake_yes (w : World) (k n b p : Nat) (hx : SBox w k n b) (hn : n ≤ 64) (hb : b < 18446744073709551616) (hp : p < n) (hall : ∀ q, q < p → Pm.hb b q = true) (hf : Pm.hb b p = false) :
    Calls Try.prog 54 #[.pointer (some ⟨k, 0, none⟩)] w fun e w' => e = .returned (.tuple #[.int .i64 p, .int .i64 0]) ∧ STo w k n (Pm.put b p) w' := by
  refine (ptake_any w k n b hx hn hb).mono ?_
  rintro e w' (⟨q, hq, ha, hb2, rfl, hs⟩ | ⟨ha, rfl, rfl⟩)
  · have : q = p := by
      rcases Nat.lt_trichotomy q p with h | h | h
      · rw [hall q h] at hb2; cases hb2
      · exact h
      · rw [ha p h] at hf; cases hf
    subst this
    exact ⟨rfl, hs⟩
  · rw [ha p hp] at hf; cases hf
theorem ptake_no (w : World) (k n b : Nat) (hx : SBox w k n b) (hn : n ≤ 64) (hb : b < 18446744073709551616) (hall : ∀ q, q < n → Pm.hb b q = true) :
    Calls Try.prog 54 #[.pointer (some ⟨k, 0, none⟩)] w fun e w' => e = .returned (.tuple #[.int .i64 0, .int .i64 5]) ∧ w = w' := by
  refine (ptake_any w k n b hx hn hb).mono ?_
  rintro e w' (⟨q, hq, ha, hb2, rfl, hs⟩ | ⟨ha, rfl, rfl⟩)
  · rw [hall q hq] at hb2; cases hb2
  · exact ⟨rfl, rfl⟩
theorem STo.same {w : World} {k n b : Nat} (h : SBox w k n b) : STo w k n b w := ⟨h, fun B _ => Below.refl B w, fun _ _ => rfl⟩
theorem pfree_out (w : World) (k n b : Nat) (z : Int) (hh : Calls Try.prog 63 #[.pointer (some ⟨k, 0, none⟩), .int .i64 z] w fun e w' => e = .returned (.bool false) ∧ w = w') : Calls Try.prog 56 #[.pointer (some ⟨k, 0, none⟩), .int .i64 z] w fun e w' => e = .returned (.int .i64 2) ∧ w = w' := by
  have HH := Lib.hid hh
  clear hh
  go_enter Try.func56, Try.ntmps56
  go_wp2_with fail
  refine HH.out.mono ?_
  rintro e w1 ⟨rfl, rfl⟩
  go_wp2
  go_ret
  exact ⟨rfl, rfl⟩
def FreeP (w : World) (k n b : Nat) (z : Int) (e : Ending) (w' : World) : Prop :=
  (∃ p : Nat, z = p ∧ p < n ∧ Pm.hb b p = true ∧ e = .returned (.int .i64 0) ∧ STo w k n (Pm.cut b p) w') ∨ (¬ (∃ p : Nat, z = p ∧ p < n ∧ Pm.hb b p = true) ∧ e = .returned (.int .i64 2) ∧ w = w')
theorem pfree_any (w : World) (k n b : Nat) (z : Int) (hx : SBox w k n b) (hn : n ≤ 64) (hb : b < 18446744073709551616) : Calls Try.prog 56 #[.pointer (some ⟨k, 0, none⟩), .int .i64 z] w fun e w' => FreeP w k n b z e w' := by
  by_cases hz : z < 0 ∨ n ≤ z
  · refine (pfree_out w k n b z (phas_out w k n b z hx hn hb hz)).mono ?_
    rintro e w' ⟨rfl, rfl⟩
    exact Or.inr ⟨fun ⟨p, hp, hl, _⟩ => by omega, rfl, rfl⟩
  · obtain ⟨p, rfl⟩ := Int.eq_ofNat_of_zero_le (show 0 ≤ z by omega)
    have hp : p < n := by omega
    cases ht : Pm.hb b p with
    | true =>
      refine (pfree_yes w k n b p hx hn hb hp ht).mono ?_
      rintro e w' ⟨rfl, hs⟩
      exact Or.inl ⟨p, rfl, hp, ht, rfl, hs⟩
    | false =>
      have h := phas_in w k n b p hx hn hb hp
      rw [ht] at h
      refine (pfree_out w k n b p h).mono ?_
      rintro e w' ⟨rfl, rfl⟩
      refine Or.inr ⟨fun ⟨q, hq, hl, h2⟩ => ?_, rfl, rfl⟩
      obtain rfl : p = q := by omega
      rw [ht] at h2; cases h2
set_option maxRecDepth 100000 in
set_option maxHeartbeats 4000000 in
theorem kprocs_any (w : World) : Calls Try.prog 49 #[] w fun e w' => e = .returned (.bool true) ∧ Below w.heap.size w w' := by
  have hnew := pnew_yes 3 (by decide) (by decide) w
  have t1 := fun w1 hx => ptake_yes w1 w.heap.size 3 0 0 hx (by decide) (by decide) (by decide) (by decide) (by decide)
  have t2 := fun w1 hx => ptake_yes w1 w.heap.size 3 (Pm.put 0 0) 1 hx (by decide) (by decide) (by decide) (by decide) (by decide)
  have f1 := fun w1 hx => pfree_yes w1 w.heap.size 3 (Pm.put (Pm.put 0 0) 1) 0 hx (by decide) (by decide) (by decide) (by decide)
  have t3 := fun w1 hx => ptake_yes w1 w.heap.size 3 (Pm.cut (Pm.put (Pm.put 0 0) 1) 0) 0 hx (by decide) (by decide) (by decide) (by decide) (by decide)
  have b1 := fun w1 hx => pbits_any w1 w.heap.size 3 (Pm.put (Pm.cut (Pm.put (Pm.put 0 0) 1) 0) 0) hx
  have l1 := fun w1 hx => plen_any w1 w.heap.size 3 (Pm.put (Pm.cut (Pm.put (Pm.put 0 0) 1) 0) 0) hx (by decide)
  rw [show Pm.pop (Pm.put (Pm.cut (Pm.put (Pm.put 0 0) 1) 0) 0) = 2 from by decide +kernel] at l1
  rw [show (Pm.put (Pm.cut (Pm.put (Pm.put 0 0) 1) 0) 0) = 3 from by decide +kernel] at b1
  have hb0 : Below w.heap.size w (w.alloc (.cells (S2 3 0) 122)) := (Below.refl _ _).alloc (Nat.le_refl _) _
  have hx0 := SBox.new w 3 0
  have HN := Lib.hid hnew
  have T1 := Lib.hid t1
  have T2 := Lib.hid t2
  have T3 := Lib.hid t3
  have F1 := Lib.hid f1
  have B1 := Lib.hid b1
  have L1 := Lib.hid l1
  have HB := Lib.hid hb0
  have HX := Lib.hid hx0
  clear hnew t1 t2 t3 f1 b1 l1 hb0 hx0
  go_enter Try.func49, Try.ntmps49
  go_wp2_with fail
  refine HN.out.mono ?_
  rintro e w0 ⟨rfl, rfl⟩
  go_wp2_with fail
  refine (T1.out _ HX.out).mono ?_
  rintro e w1 ⟨rfl, hx1, hb1, _⟩
  have hB1 := HB.out.trans (hb1 w.heap.size (Nat.le_refl _))
  go_wp2_with fail
  refine (T2.out _ hx1).mono ?_
  rintro e w2 ⟨rfl, hx2, hb2, _⟩
  have hB2 := hB1.trans (hb2 w.heap.size (Nat.le_refl _))
  go_wp2_with fail
  refine (F1.out _ hx2).mono ?_
  rintro e w3 ⟨rfl, hx3, hb3, _⟩
  have hB3 := hB2.trans (hb3 w.heap.size (Nat.le_refl _))
  go_wp2_with fail
  refine (T3.out _ hx3).mono ?_
  rintro e w4 ⟨rfl, hx4, hb4, _⟩
  have hB4 := hB3.trans (hb4 w.heap.size (Nat.le_refl _))
  go_wp2_with fail
  refine (B1.out _ hx4).mono ?_
  rintro e w5 ⟨rfl, rfl⟩
  go_wp2_with fail
  refine (L1.out _ hx4).mono ?_
  rintro e w5 ⟨rfl, rfl⟩
  go_wp2
  go_ret
  exact ⟨rfl, hB4⟩
end Go.Proofs.Ytlbodandidopfaa
