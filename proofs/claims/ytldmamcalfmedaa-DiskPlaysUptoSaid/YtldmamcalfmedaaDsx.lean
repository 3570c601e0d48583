/- The disk: Arm; Write, where it writes nothing. Conditions: none. -/
import Derived.Test.YtldmamcalfmedaaDsw
namespace Go.Proofs.Ytldmamcalfmedaa
open Go.ChangeShapes Go.WideShapes Go.ChangeAt Go.RowKit Go.Maps
set_option linter.unusedSimpArgs false
set_option linter.unusedVariables false
section
variable (db kb mb pb mm : Nat) (d : Dk) (w : World) (h : DBox w db kb mb pb mm d)
include h
set_option maxRecDepth 100000 in
theorem arm_any (n : Int) (v : Value) (bs : List Bool) (B : Nat) (hv : RdV w B v (boolV bs)) (hl : bs.length ≤ 1000000000) : Calls Try.prog 17 #[.pointer (some ⟨db, 0, none⟩), .int .i64 n, v] w fun e w' => e = .returned (.tuple #[]) ∧ DBox w' db kb mb pb mm (armD d n bs) ∧ Frm (fun j => j = db) w w' := by
  have H := Lib.hid (arm0_any db kb mb pb mm d w h n v bs B hv hl)
  obtain ⟨A, c, rfl, _⟩ := hv
  clear h
  go_enter Try.func17, Try.ntmps17
  go_wp2_with fail
  refine H.out.mono ?_
  rintro e w2 ⟨rfl, hD, hF⟩
  have HD := Lib.hid hD
  have HF := Lib.hid hF
  clear hD hF
  go_wp2
  go_end0
  exact ⟨rfl, HD.out, HF.out⟩
set_option maxRecDepth 100000 in
theorem write_off (ho : d.off = true) (s : Int) (v : Value) : Calls Try.prog 12 #[.pointer (some ⟨db, 0, none⟩), .int .i64 s, v] w fun e w' => e = .returned (.int .i64 8) ∧ w = w' := by
  have H := Lib.hid (isOff_any db kb mb pb mm d w h)
  rw [ho] at H
  clear h ho
  go_enter Try.func12, Try.ntmps12
  go_wp2_with fail
  refine H.out.mono ?_
  rintro e w2 ⟨rfl, rfl⟩
  go_wp2
  go_ret
  exact ⟨rfl, rfl⟩
set_option maxRecDepth 100000 in
theorem write_bad (ho : d.off = false) (s : Int) (v : Value) (n B : Nat) (xs : List Value) (hv : RdV w B v xs) (hbad : ¬ (0 ≤ s ∧ s < (d.n : Nat)) ∨ xs.length ≠ d.size) : Calls Try.prog 12 #[.pointer (some ⟨db, 0, none⟩), .int .i64 s, v] w fun e w' => e = .returned (.int .i64 1) ∧ ∃ k, w' = w.drewN k := by
  have H := Lib.hid (isOff_any db kb mb pb mm d w h)
  rw [ho] at H
  have HH := Lib.hid (has_any db kb mb pb mm d w h s)
  obtain ⟨A, c, rfl, hc1, hc2, _⟩ := hv
  unfold maxLen at hc2
  have hc3 : xs.length ≤ 9223372036854775807 := by omega
  have hsz := h.ok.size
  have c4 := fun k => (h.next (Frm.drewN w k)).at
  have hc4 : ∀ k, (w.drewN k).cell? ⟨db, 4, none⟩ = some (.int .i64 (d.size : Nat)) := fun k => by obtain ⟨_, _, _, _, _, _, _, _, _, _, _, _, c4, _⟩ := c4 k; exact c4
  have HC4 := Lib.hid hc4
  clear h ho hc2 c4 hc4
  by_cases h0 : 0 ≤ s ∧ s < (d.n : Nat)
  · have hne : xs.length ≠ d.size := by
      rcases hbad with h1 | h1
      · exact absurd h0 h1
      · exact h1
    rw [decide_eq_true h0] at HH
    have t0 : ((xs.length : Int) == ((d.size : Nat) : Int)) = false := by rw [beq_eq_false_iff_ne]; omega
    generalize d.size = sz at *
    generalize xs.length = L at *
    clear hbad h0 hne
    go_enter Try.func12, Try.ntmps12
    go_wp2_with fail
    refine H.out.mono ?_
    rintro e w2 ⟨rfl, rfl⟩
    go_wp2_with fail
    refine HH.out.mono ?_
    rintro e w3 ⟨rfl, k, rfl⟩
    have x4 := HC4.out k
    go_wp2
    go_ret
    exact ⟨rfl, _, rfl⟩
  · rw [decide_eq_false h0] at HH
    clear hbad h0
    go_enter Try.func12, Try.ntmps12
    go_wp2_with fail
    refine H.out.mono ?_
    rintro e w2 ⟨rfl, rfl⟩
    go_wp2_with fail
    refine HH.out.mono ?_
    rintro e w3 ⟨rfl, k, rfl⟩
    go_wp2
    go_ret
    exact ⟨rfl, _, rfl⟩
set_option maxRecDepth 100000 in
set_option maxHeartbeats 1000000 in
theorem write_cut (ho : d.off = false) (ha : d.armed = true) (hl : d.left = 1) (s : Int) (h0 : 0 ≤ s ∧ s < (d.n : Nat)) (v : Value) (n B : Nat) (xs : List Value) (hv : RdV w B v xs) (hlen : xs.length = d.size) (hpl : d.pend.length ≤ 1000000) : Calls Try.prog 12 #[.pointer (some ⟨db, 0, none⟩), .int .i64 s, v] w fun e w' => e = .returned (.int .i64 8) ∧ DBox w' db kb mb pb mm (cutD d d.keep) ∧ Frm (fun j => j = db ∨ j = kb ∨ j = mb) w w' := by
  have H := Lib.hid (isOff_any db kb mb pb mm d w h)
  rw [ho] at H
  have HH := Lib.hid (has_any db kb mb pb mm d w h s)
  rw [decide_eq_true h0] at HH
  obtain ⟨A, c, rfl, hc1, hc2, _⟩ := hv
  rw [hlen] at hc1 ⊢
  have hsz := h.ok.size
  have c4 := fun k => (h.next (Frm.drewN w k)).at
  have hc4 : ∀ k, (w.drewN k).cell? ⟨db, 4, none⟩ = some (.int .i64 (d.size : Nat)) := fun k => by obtain ⟨_, _, _, _, _, _, _, _, _, _, _, _, c4, _⟩ := c4 k; exact c4
  have hst := fun k => strikes_yes db kb mb pb mm d (w.drewN k) (h.next (Frm.drewN w k)) ha ⟨by omega, by omega⟩
  rw [decide_eq_true hl] at hst
  have HST := Lib.hid hst
  have HC4 := Lib.hid hc4
  clear h ho hc2 c4 hc4 hst h0 hlen
  go_enter Try.func12, Try.ntmps12
  go_wp2_with fail
  refine H.out.mono ?_
  rintro e w2 ⟨rfl, rfl⟩
  go_wp2_with fail
  refine HH.out.mono ?_
  rintro e w3 ⟨rfl, k, rfl⟩
  have x4 := HC4.out k
  go_wp2_with fail
  refine (HST.out k).mono ?_
  rintro e w4 ⟨rfl, hD, hF⟩
  obtain ⟨kv, _, _, _, hkv, _, _, _, _, _, _, c3, _⟩ := hD.at
  obtain ⟨A3, c3', rfl, _⟩ := id hkv
  have CU := Lib.hid (cut_any db kb mb pb mm _ w4 hD _ _ hkv hpl)
  have HF := Lib.hid ((Frm.drewN w k).trans (hF.mono fun j _ h => Or.inl h) : Frm (fun j => j = db ∨ j = kb ∨ j = mb) w w4)
  clear hD hF hkv
  go_wp2_with fail
  refine CU.out.mono ?_
  rintro e w5 ⟨rfl, hD, hF⟩
  have HD := Lib.hid hD
  have HF5 := Lib.hid (HF.out.trans hF)
  clear hD hF
  go_wp2
  go_ret
  exact ⟨rfl, HD.out, HF5.out⟩
end
end Go.Proofs.Ytldmamcalfmedaa
