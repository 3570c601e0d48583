/- The disk: its power, has, at, what can be seen of it. Conditions: none. -/
import Derived.Test.YtldmamcalfmedaaDsk
namespace Go.Proofs.Ytldmamcalfmedaa
open Go.ChangeShapes Go.WideShapes Go.ChangeAt Go.RowKit Go.Maps
set_option linter.unusedSimpArgs false
set_option linter.unusedVariables false
section
variable (db kb mb pb mm : Nat) (d : Dk) (w : World) (h : DBox w db kb mb pb mm d)
include h
set_option maxRecDepth 100000 in
theorem isOff_any : Calls Try.prog 35 #[.pointer (some ⟨db, 0, none⟩)] w fun e w' => e = .returned (.bool d.off) ∧ w = w' := by
  obtain ⟨_, _, _, _, _, _, _, _, c0, _⟩ := h.at
  clear h
  go_enter Try.func35, Try.ntmps35
  go_wp2
  go_ret
  exact ⟨rfl, rfl⟩
set_option maxRecDepth 100000 in
theorem off_any : Calls Try.prog 32 #[.pointer (some ⟨db, 0, none⟩)] w fun e w' => e = .returned (.bool d.off) ∧ w = w' := by
  have H := Lib.hid (isOff_any db kb mb pb mm d w h)
  clear h
  go_enter Try.func32, Try.ntmps32
  go_wp2_with fail
  refine H.out.mono ?_
  rintro e w2 ⟨rfl, rfl⟩
  go_wp2
  go_ret
  exact ⟨rfl, rfl⟩
set_option maxRecDepth 100000 in
theorem writes_any : Calls Try.prog 31 #[.pointer (some ⟨db, 0, none⟩)] w fun e w' => e = .returned (.int .i64 d.writes) ∧ w = w' := by
  obtain ⟨_, _, _, _, _, _, _, _, _, _, _, _, _, _, _, _, c8, _⟩ := h.at
  clear h
  go_enter Try.func31, Try.ntmps31
  go_wp2
  go_ret
  exact ⟨rfl, rfl⟩
set_option maxRecDepth 100000 in
theorem pending_any : Calls Try.prog 30 #[.pointer (some ⟨db, 0, none⟩)] w fun e w' => e = .returned (.int .i64 (d.pend.length : Nat)) ∧ w = w' := by
  obtain ⟨_, pv, _, _, _, _, ⟨xs, ho, _⟩, _, _, _, _, _, _, _, c6, _⟩ := h.at
  have hl := ho.1
  rcases ho.2 with ⟨rfl, h0⟩ | ⟨g, cap, cur, rfl, _⟩
  · rw [h0]
    clear h ho hl h0
    go_enter Try.func30, Try.ntmps30
    go_wp2
    go_ret
    exact ⟨rfl, rfl⟩
  · clear h ho hl
    go_enter Try.func30, Try.ntmps30
    go_wp2
    go_ret
    exact ⟨rfl, rfl⟩
/-- strikes, where nothing is armed -/
theorem strikes_no (ha : d.armed = false) : Calls Try.prog 37 #[.pointer (some ⟨db, 0, none⟩)] w fun e w' => e = .returned (.bool false) ∧ w = w' := by
  obtain ⟨_, _, _, _, _, _, _, _, _, c1, _⟩ := h.at
  rw [ha] at c1
  clear h ha
  go_enter Try.func37, Try.ntmps37
  go_wp2
  go_ret
  exact ⟨rfl, rfl⟩
set_option maxRecDepth 100000 in
theorem strikes_yes (ha : d.armed = true) (hl : 1 ≤ d.left ∧ d.left ≤ 9223372036854775807) : Calls Try.prog 37 #[.pointer (some ⟨db, 0, none⟩)] w fun e w' => e = .returned (.bool (decide (d.left = 1))) ∧ DBox w' db kb mb pb mm { d with left := d.left - 1 } ∧ Frm (fun j => j = db) w w' := by
  obtain ⟨keepV, pv, kc, h1, _, _, _, _, _, c1, c2, _, _, _, _, _, _, _, fr⟩ := h.at
  rw [ha] at c1
  have f2 := fr 2
  have hx := heap_setCell_same w db 2 _ _ (.int .i64 (d.left - 1)) h1
  have z2 : (w.setCell ⟨db, 2, none⟩ (.int .i64 (d.left - 1))).cell? ⟨db, 2, none⟩ = some (.int .i64 (d.left - 1)) := cell_of_row _ db 2 _ _ _ hx
  have hF : Frm (fun j => j = db) w (w.setCell ⟨db, 2, none⟩ (.int .i64 (d.left - 1))) := (Frm.refl (fun j => j = db) w).setCell db 2 (Or.inl rfl) _
  have H2 := Lib.hid (h.turn (d' := { d with left := d.left - 1 }) hF (fun _ _ _ h1 => heap_setCell_same w db 2 _ _ _ h1) rfl rfl rfl rfl rfl)
  have HF := Lib.hid hF
  clear hF h ha h1 fr hx
  obtain ⟨hl0, hl1⟩ := hl
  generalize d.left = l at *
  by_cases h1 : l = 1
  · subst h1
    go_enter Try.func37, Try.ntmps37
    go_wp2
    go_ret
    exact ⟨rfl, H2.out, HF.out⟩
  · have h2 : ¬ (l - 1 = 0) := by omega
    have t0 : (l - 1 == 0) = false := by rw [beq_eq_false_iff_ne]; exact h2
    rw [decide_eq_false h1]
    clear h1 h2
    go_enter Try.func37, Try.ntmps37
    go_wp2
    go_ret
    exact ⟨rfl, H2.out, HF.out⟩
set_option maxRecDepth 100000 in
theorem goOn_any : Calls Try.prog 44 #[.pointer (some ⟨db, 0, none⟩)] w fun e w' => e = .returned (.tuple #[]) ∧ DBox w' db kb mb pb mm { d with off := false } ∧ Frm (fun j => j = db) w w' := by
  obtain ⟨keepV, pv, kc, h1, _, _, _, _, c0, _, _, _, _, _, _, _, _, _, fr⟩ := h.at
  have f0 := fr 0
  have hF : Frm (fun j => j = db) w (w.setCell ⟨db, 0, none⟩ (.bool false)) := (Frm.refl (fun j => j = db) w).setCell db 0 (Or.inl rfl) _
  have H2 := Lib.hid (h.turn (d' := { d with off := false }) hF (fun _ _ _ h1 => heap_setCell_same w db 0 _ _ _ h1) rfl rfl rfl rfl rfl)
  have HF := Lib.hid hF
  clear hF h h1 fr
  go_enter Try.func44, Try.ntmps44
  go_wp2
  go_end0
  exact ⟨rfl, H2.out, HF.out⟩
set_option maxRecDepth 100000 in
theorem on_any : Calls Try.prog 21 #[.pointer (some ⟨db, 0, none⟩)] w fun e w' => e = .returned (.tuple #[]) ∧ DBox w' db kb mb pb mm { d with off := false } ∧ Frm (fun j => j = db) w w' := by
  have H := Lib.hid (goOn_any db kb mb pb mm d w h)
  clear h
  go_enter Try.func21, Try.ntmps21
  go_wp2_with fail
  refine H.out.mono ?_
  rintro e w2 ⟨rfl, hD, hF⟩
  have HD := Lib.hid hD
  have HF := Lib.hid hF
  clear hD hF
  go_wp2
  go_end0
  exact ⟨rfl, HD.out, HF.out⟩
end
end Go.Proofs.Ytldmamcalfmedaa
