/- The table of segments: the chapter's example. Conditions: none. -/
import Derived.Test.YtjpmlojpcgfcfaaSgl
import Derived.Test.YtjpmlojpcgfcfaaSgk
namespace Go.Proofs.Ytjpmlojpcgfcfaa
open Go.ChangeShapes Go.WideShapes Go.ChangeAt Go.RowKit Go.Maps
set_option linter.unusedSimpArgs false
set_option linter.unusedVariables false
theorem take_is {tb b m N : Nat} {f : Int → Ent} {low : Nat} {w w' : World} {e : Ending} (h : TakeP tb b m N f low w e w') (j : Nat) (ji : Int) (hji : ji = j) (hj : j < N) (hfree : (f ji).st = 0) (hmin : ∀ i : Nat, i < j → (f i).st ≠ 0) :
    e = .returned (.tuple #[.int .i64 ji, .int .i64 0]) ∧ Tab w' tb b (m + 1) N (put f ji ⟨1, 0, 0⟩) j ∧ Frm (fun j => j = tb ∨ j = b) w w' := by
  subst hji
  rcases h with ⟨hz, _⟩ | ⟨k, hlo, hkN, hk0, hm, rfl, hT, hF⟩
  · exact absurd hz (cntF_pos hj hfree)
  · obtain rfl : k = j := by
      rcases Nat.lt_trichotomy k j with h | h | h
      · exact absurd hk0 (hmin k h)
      · exact h
      · exact absurd hfree (hm j h)
    exact ⟨rfl, hT, hF⟩
theorem turn_is {tb b m N : Nat} {f : Int → Ent} {low : Nat} {k from_ : Int} {t : Nat} {ep : Int} {w w' : World} {e : Ending} (h : TurnP tb b m N f low k from_ t ep w e w') (hk : 0 ≤ k ∧ k < (N : Int)) (hs : (f k).st = from_) :
    e = .returned (.int .i64 0) ∧ Tab w' tb b (m + 1) N (put f k ⟨(t : Nat), (f k).us, ep⟩) low ∧ Frm (fun j => j = tb ∨ j = b) w w' := by
  rcases h with ⟨h1, _⟩ | ⟨_, h1, _⟩ | ⟨_, _, h⟩
  · exact absurd hk h1
  · exact absurd hs h1
  · exact h
theorem rel_none {tb b m N : Nat} {f : Int → Ent} {ep : Int} {w w' : World} {e : Ending} (h : RelP tb b m N f ep w e w') (hr : relN f ep N = []) :
    ∃ A c m' lo, e = .returned (.slice A 0 c) ∧ m' ≤ m + N ∧ Tab w' tb b m' N f lo ∧ Frm (fun j => j = tb ∨ j = b) w w' := by
  obtain ⟨v, m', lo, rfl, ho, hm, hT, hF⟩ := h
  rw [hr] at ho hT
  rw [relP_nil] at hT
  obtain ⟨A, c, rfl, _⟩ := RdV.own ho
  exact ⟨A, c, m', lo, rfl, hm, hT, hF⟩
theorem rel_zero {tb b m N : Nat} {f : Int → Ent} {ep : Int} {w w' : World} {e : Ending} (h : RelP tb b m N f ep w e w') (hr : relN f ep N = [0]) :
    ∃ g c m' lo, e = .returned (.slice (some ⟨g, 0, none⟩) 1 c) ∧ w.heap.size ≤ g ∧ g < w'.heap.size ∧ w'.cell? ⟨g, 0, none⟩ = some (.int .i64 0) ∧ m' ≤ m + N ∧ Tab w' tb b m' N (put f 0 ⟨0, 0, 0⟩) lo ∧ Frm (fun j => j = tb ∨ j = b) w w' := by
  obtain ⟨v, m', lo, rfl, ho, hm, hT, hF⟩ := h
  rw [hr] at ho hT
  rw [show relP f [0] = put f 0 ⟨0, 0, 0⟩ from by rw [show ([0] : List Nat) = [] ++ [0] from rfl, relP_snoc, relP_nil]; rfl] at hT
  obtain ⟨g, c, rfl⟩ := own_cap ho (by simp)
  obtain ⟨b0, off, e1, h1, h2⟩ := (RdV.own ho).get (j := 0) (u := .int .i64 0) rfl
  injection e1 with e1
  injection e1 with e1 e2
  subst e1 e2
  have := (ho.lt g rfl)
  exact ⟨g, c, m', lo, rfl, this.1, this.2, by simpa using h2, hm, hT, hF⟩
set_option maxRecDepth 100000 in
set_option maxHeartbeats 2000000 in
theorem known_any (w : World) : Calls Try.prog 7 #[] w fun e w' => e = .returned (.bool true) ∧ Below w.heap.size w w' := by
  have HN := Lib.hid (new_any 3 w)
  go_enter Try.func7, Try.ntmps7
  go_wp2_with fail
  refine HN.out.mono ?_
  rintro e w1 (⟨h, _⟩ | ⟨_, tb, b, htb, hbb, rfl, hT, hb1⟩)
  · exact absurd ⟨by omega, by omega⟩ h
  have hOO : ∀ j, (j = tb ∨ j = b) → w.heap.size ≤ j := by omega
  have HOO := Lib.hid hOO
  have HB1 := Lib.hid hb1
  have HT1 := Lib.hid (take_any tb b 0 3 noEnt 0 w1 hT (by omega))
  clear hT hb1 hOO
  go_wp2_with fail
  refine HT1.out.mono ?_
  intro e w2 h2
  obtain ⟨rfl, hT2, hF2⟩ := take_is h2 0 0 rfl (by omega) rfl (fun i hi => absurd hi (by omega))
  have HB2 := Lib.hid (HB1.out.trans (hF2.below HOO.out HB1.out.size))
  have HT2 := Lib.hid (take_any tb b 1 3 _ 0 w2 hT2 (by omega))
  clear hT2 hF2 h2
  go_wp2_with fail
  refine HT2.out.mono ?_
  intro e w3 h3
  obtain ⟨rfl, hT3, hF3⟩ := take_is h3 1 1 rfl (by omega) rfl (fun i hi => by (obtain rfl : i = 0 := by omega); simp [put])
  have HB3 := Lib.hid (HB2.out.trans (hF3.below HOO.out HB2.out.size))
  have HT3 := Lib.hid (fill_any tb b 2 3 _ 1 w3 hT3 0 (wf64 (by omega) (by omega)) (by omega))
  clear hT3 hF3 h3
  go_wp2_with fail
  refine HT3.out.mono ?_
  intro e w4 h4
  obtain ⟨rfl, hT4, hF4⟩ := turn_is h4 (by omega) rfl
  have HB4 := Lib.hid (HB3.out.trans (hF4.below HOO.out HB3.out.size))
  have HT4 := Lib.hid (hold_any tb b 3 3 _ 1 w4 hT4 0 (wf64 (by omega) (by omega)) 5 (by omega))
  clear hT4 hF4 h4
  go_wp2_with fail
  refine HT4.out.mono ?_
  intro e w5 h5
  obtain ⟨rfl, hT5, hF5⟩ := turn_is h5 (by omega) rfl
  have HB5 := Lib.hid (HB4.out.trans (hF5.below HOO.out HB4.out.size))
  obtain ⟨F5, hF5'⟩ : ∃ F, F = (put (put (put (put noEnt 0 ⟨1, 0, 0⟩) 1 ⟨1, 0, 0⟩) 0 ⟨((2 : Nat) : Int), ((put (put noEnt 0 ⟨1, 0, 0⟩) 1 ⟨1, 0, 0⟩) 0).us, 0⟩) 0 ⟨((3 : Nat) : Int), ((put (put (put noEnt 0 ⟨1, 0, 0⟩) 1 ⟨1, 0, 0⟩) 0 ⟨((2 : Nat) : Int), ((put (put noEnt 0 ⟨1, 0, 0⟩) 1 ⟨1, 0, 0⟩) 0).us, 0⟩) 0).us, 5⟩) := ⟨_, rfl⟩
  rw [← hF5'] at hT5
  have f0 : F5 0 = ⟨3, 0, 5⟩ := by rw [hF5']; rfl
  have f1 : (F5 1).st = 1 := by rw [hF5']; rfl
  have f2 : (F5 2).st = 0 := by rw [hF5']; rfl
  have hr4 : relN F5 4 3 = [] := by
    simp only [relN]
    have a0 : F5 ((0 : Nat) : Int) = ⟨3, 0, 5⟩ := f0
    have a1 : (F5 ((1 : Nat) : Int)).st = 1 := f1
    have a2 : (F5 ((2 : Nat) : Int)).st = 0 := f2
    rw [a0, a1, a2]
    simp
  have hr5 : relN F5 5 3 = [0] := by
    simp only [relN]
    have a0 : F5 ((0 : Nat) : Int) = ⟨3, 0, 5⟩ := f0
    have a1 : (F5 ((1 : Nat) : Int)).st = 1 := f1
    have a2 : (F5 ((2 : Nat) : Int)).st = 0 := f2
    rw [a0, a1, a2]
    simp
  have HR4 := Lib.hid hr4
  have HR5 := Lib.hid hr5
  have HT5 := Lib.hid (release_any tb b 4 3 _ 1 w5 hT5 4 (by omega))
  clear hT5 hF5 h5 hr4 hr5 hF5' f0 f1 f2
  go_wp2_with fail
  refine HT5.out.mono ?_
  intro e w6 h6
  obtain ⟨A6, c6, m6, lo6, rfl, hm6, hT6, hF6⟩ := rel_none h6 HR4.out
  have htb6 := hT6.box.lt
  have hbb6 := hT6.box.map.lt
  have HB6 := Lib.hid (HB5.out.trans (hF6.below HOO.out HB5.out.size))
  have HT6 := Lib.hid (release_any tb b m6 3 _ lo6 w6 hT6 5 (by omega))
  clear hT6 hF6 h6
  go_wp2_with fail
  refine HT6.out.mono ?_
  intro e w7 h7
  obtain ⟨g7, c7, m7, lo7, rfl, hg1, hg2, hcl, hm7, hT7, hF7⟩ := rel_zero h7 HR5.out
  have hgt : g7 ≠ tb ∧ g7 ≠ b := by omega
  have HB7 := Lib.hid (HB6.out.trans (hF7.below HOO.out HB6.out.size))
  have HT7 := Lib.hid (take_any tb b m7 3 _ lo7 w7 hT7 (by omega))
  have HCL := Lib.hid hcl
  clear hT7 hF7 h7 hcl
  go_wp2_with fail
  refine HT7.out.mono ?_
  intro e w8 h8
  obtain ⟨rfl, hT8, hF8⟩ := take_is h8 0 0 rfl (by omega) rfl (fun i hi => absurd hi (by omega))
  have HB8 := Lib.hid (HB7.out.trans (hF8.below HOO.out HB7.out.size))
  have y1 : w8.cell? ⟨g7, 0, none⟩ = some (.int .i64 0) := (World.cell?_of_block (a := ⟨g7, 0, none⟩) (hF8.block g7 hg2 (by omega))).trans HCL.out
  clear hT8 hF8 h8
  go_wp2
  go_ret
  exact ⟨rfl, HB8.out⟩
end Go.Proofs.Ytjpmlojpcgfcfaa
