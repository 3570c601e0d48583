/- The document's pool of frames: Touch, Clean, Pin, Unpin, Drop, At, Count. Conditions: none. -/
import Derived.Test.YtdbaidkepngjcaaFrq
namespace Go.Proofs.Ytdbaidkepngjcaa
open Go.ChangeShapes Go.WideShapes Go.ChangeAt Go.RowKit Go.Maps
set_option linter.unusedSimpArgs false
set_option linter.unusedVariables false
section
variable (qb rb c hd : Nat) (L : List Fr) (w : World) (h : QBox w qb rb c L hd)
include h
set_option maxRecDepth 100000 in
set_option maxHeartbeats 1000000 in
theorem rtouch_no (a : Int) (wr : Bool) (ha : (Lit.int .i64 a).wf = true) (hno : ∀ (i : Nat) (hi : i < L.length), (i : Int) = a → L[i].used = false) : Calls Try.prog 23 #[.pointer (some ⟨qb, 0, none⟩), .int .i64 a, .bool wr] w fun e w' => e = .returned (.int .i64 2) ∧ w' = w := by
  have HU := Lib.hid (ris_no qb rb c hd L w h a ha hno)
  clear h hno
  go_enter Try.func23, Try.ntmps23
  go_wp2_with fail
  refine HU.out.mono ?_
  rintro e w' ⟨rfl, rfl⟩
  go_wp2
  go_ret
  exact ⟨rfl, rfl⟩
set_option maxRecDepth 100000 in
set_option maxHeartbeats 1000000 in
theorem rclean_no (a : Int) (ha : (Lit.int .i64 a).wf = true) (hno : ∀ (i : Nat) (hi : i < L.length), (i : Int) = a → L[i].used = false) : Calls Try.prog 25 #[.pointer (some ⟨qb, 0, none⟩), .int .i64 a] w fun e w' => e = .returned (.int .i64 2) ∧ w' = w := by
  have HU := Lib.hid (ris_no qb rb c hd L w h a ha hno)
  clear h hno
  go_enter Try.func25, Try.ntmps25
  go_wp2_with fail
  refine HU.out.mono ?_
  rintro e w' ⟨rfl, rfl⟩
  go_wp2
  go_ret
  exact ⟨rfl, rfl⟩
set_option maxRecDepth 100000 in
set_option maxHeartbeats 1000000 in
theorem rpin_no (a : Int) (ha : (Lit.int .i64 a).wf = true) (hno : ∀ (i : Nat) (hi : i < L.length), (i : Int) = a → L[i].used = false) : Calls Try.prog 26 #[.pointer (some ⟨qb, 0, none⟩), .int .i64 a] w fun e w' => e = .returned (.int .i64 2) ∧ w' = w := by
  have HU := Lib.hid (ris_no qb rb c hd L w h a ha hno)
  clear h hno
  go_enter Try.func26, Try.ntmps26
  go_wp2_with fail
  refine HU.out.mono ?_
  rintro e w' ⟨rfl, rfl⟩
  go_wp2
  go_ret
  exact ⟨rfl, rfl⟩
set_option maxRecDepth 100000 in
set_option maxHeartbeats 1000000 in
theorem runpin_no (a : Int) (ha : (Lit.int .i64 a).wf = true) (hno : ∀ (i : Nat) (hi : i < L.length), (i : Int) = a → L[i].used = false) : Calls Try.prog 27 #[.pointer (some ⟨qb, 0, none⟩), .int .i64 a] w fun e w' => e = .returned (.int .i64 2) ∧ w' = w := by
  have HU := Lib.hid (ris_no qb rb c hd L w h a ha hno)
  clear h hno
  go_enter Try.func27, Try.ntmps27
  go_wp2_with fail
  refine HU.out.mono ?_
  rintro e w' ⟨rfl, rfl⟩
  go_wp2
  go_ret
  exact ⟨rfl, rfl⟩
set_option maxRecDepth 100000 in
set_option maxHeartbeats 1000000 in
theorem rdrop_no (a : Int) (ha : (Lit.int .i64 a).wf = true) (hno : ∀ (i : Nat) (hi : i < L.length), (i : Int) = a → L[i].used = false) : Calls Try.prog 28 #[.pointer (some ⟨qb, 0, none⟩), .int .i64 a] w fun e w' => e = .returned (.int .i64 2) ∧ w' = w := by
  have HU := Lib.hid (ris_no qb rb c hd L w h a ha hno)
  clear h hno
  go_enter Try.func28, Try.ntmps28
  go_wp2_with fail
  refine HU.out.mono ?_
  rintro e w' ⟨rfl, rfl⟩
  go_wp2
  go_ret
  exact ⟨rfl, rfl⟩
set_option maxRecDepth 100000 in
set_option maxHeartbeats 1000000 in
theorem rclean_yes (i : Nat) (hi : i < L.length) (hu : L[i].used = true) : Calls Try.prog 25 #[.pointer (some ⟨qb, 0, none⟩), .int .i64 (i : Nat)] w fun e w' => e = .returned (.int .i64 0) ∧ QBox w' qb rb c (L.set i ⟨L[i].key, L[i].used, L[i].ref, false, L[i].pins⟩) hd ∧ Frm (fun j => j = rb) w w' := by
  have HU := Lib.hid (ris_yes qb rb c hd L w h i hi hu)
  have c0 := h.at.1
  have g3 := h.frozen (i * 5 + 3)
  have x3 := (h.fr hi).2.2.2.1
  have HT := Lib.hid (h.touch i 3 hi (by omega) (.bool false) ⟨L[i].key, L[i].used, L[i].ref, false, L[i].pins⟩ rfl rfl (h.num _ (List.getElem_mem hi)).2)
  have hn := h.n
  clear h hu
  generalize hfx : L[i] = x at *
  go_enter Try.func25, Try.ntmps25
  go_wp2_with fail
  refine HU.out.mono ?_
  rintro e w' ⟨rfl, rfl⟩
  go_wp2
  go_ret
  exact ⟨rfl, HT.out.1, HT.out.2⟩
set_option maxRecDepth 100000 in
set_option maxHeartbeats 1000000 in
theorem rpin_yes (i : Nat) (hi : i < L.length) (hu : L[i].used = true) (hp : L[i].pins < 1048576) : Calls Try.prog 26 #[.pointer (some ⟨qb, 0, none⟩), .int .i64 (i : Nat)] w fun e w' => e = .returned (.int .i64 0) ∧ QBox w' qb rb c (L.set i ⟨L[i].key, L[i].used, L[i].ref, L[i].dirty, L[i].pins + 1⟩) hd ∧ Frm (fun j => j = rb) w w' := by
  have HU := Lib.hid (ris_yes qb rb c hd L w h i hi hu)
  have c0 := h.at.1
  have g4 := h.frozen (i * 5 + 4)
  have x4 := (h.fr hi).2.2.2.2
  have HT := Lib.hid (h.touch i 4 hi (by omega) (.int .i64 ((L[i].pins : Nat) + 1 : Int)) ⟨L[i].key, L[i].used, L[i].ref, L[i].dirty, L[i].pins + 1⟩ rfl rfl (by show L[i].pins + 1 ≤ _; omega))
  have hn := h.n
  clear h hu
  generalize hfx : L[i] = x at *
  obtain ⟨z, hz⟩ : ∃ z, x.pins = z := ⟨_, rfl⟩
  rw [hz] at x4 hp HT ⊢
  have hb : decide ((1048576 : Int) ≤ ((z : Nat) : Int)) = false := by rw [decide_eq_false_iff_not]; omega
  have hwr : IntKind.i64.wrap (((z : Nat) : Int) + 1) = ((z : Nat) : Int) + 1 := by rw [IntKind.wrap_i64]; omega
  clear hp hz
  go_enter Try.func26, Try.ntmps26
  go_wp2_with fail
  refine HU.out.mono ?_
  rintro e w' ⟨rfl, rfl⟩
  go_wp2
  go_ret
  exact ⟨rfl, HT.out.1, HT.out.2⟩
set_option maxRecDepth 100000 in
set_option maxHeartbeats 1000000 in
theorem rpin_full (i : Nat) (hi : i < L.length) (hu : L[i].used = true) (hp : L[i].pins = 1048576) : Calls Try.prog 26 #[.pointer (some ⟨qb, 0, none⟩), .int .i64 (i : Nat)] w fun e w' => e = .returned (.int .i64 10) ∧ w' = w := by
  have HU := Lib.hid (ris_yes qb rb c hd L w h i hi hu)
  have c0 := h.at.1
  have x4 := (h.fr hi).2.2.2.2
  rw [hp] at x4
  have hn := h.n
  clear h hu hp
  go_enter Try.func26, Try.ntmps26
  go_wp2_with fail
  refine HU.out.mono ?_
  rintro e w' ⟨rfl, rfl⟩
  go_wp2
  go_ret
  exact ⟨rfl, rfl⟩
set_option maxRecDepth 100000 in
set_option maxHeartbeats 1000000 in
theorem runpin_yes (i : Nat) (hi : i < L.length) (hu : L[i].used = true) (hp : 0 < L[i].pins) : Calls Try.prog 27 #[.pointer (some ⟨qb, 0, none⟩), .int .i64 (i : Nat)] w fun e w' => e = .returned (.int .i64 0) ∧ QBox w' qb rb c (L.set i ⟨L[i].key, L[i].used, L[i].ref, L[i].dirty, L[i].pins - 1⟩) hd ∧ Frm (fun j => j = rb) w w' := by
  have HU := Lib.hid (ris_yes qb rb c hd L w h i hi hu)
  have c0 := h.at.1
  have g4 := h.frozen (i * 5 + 4)
  have x4 := (h.fr hi).2.2.2.2
  have hpn := (h.num _ (List.getElem_mem hi)).2
  have HT := Lib.hid (h.touch i 4 hi (by omega) (.int .i64 ((L[i].pins - 1 : Nat) : Int)) ⟨L[i].key, L[i].used, L[i].ref, L[i].dirty, L[i].pins - 1⟩ rfl rfl (by show L[i].pins - 1 ≤ _; omega))
  have hn := h.n
  clear h hu
  generalize hfx : L[i] = x at *
  obtain ⟨z, hz⟩ : ∃ z, x.pins = z + 1 := ⟨x.pins - 1, by omega⟩
  rw [hz] at x4 hpn
  have HZ := Lib.hid hz
  clear hz hp
  have hzc : ((z + 1 : Nat) : Int) = (z : Int) + 1 := by omega
  rw [hzc] at x4
  go_enter Try.func27, Try.ntmps27
  go_wp2_with fail
  refine HU.out.mono ?_
  rintro e w' ⟨rfl, rfl⟩
  go_wp2
  go_ret
  have hT := HT.out
  rw [HZ.out, Nat.add_sub_cancel] at hT
  rw [HZ.out, Nat.add_sub_cancel]
  exact ⟨rfl, hT.1, hT.2⟩
set_option maxRecDepth 100000 in
set_option maxHeartbeats 1000000 in
theorem runpin_not (i : Nat) (hi : i < L.length) (hu : L[i].used = true) (hp : L[i].pins = 0) : Calls Try.prog 27 #[.pointer (some ⟨qb, 0, none⟩), .int .i64 (i : Nat)] w fun e w' => e = .returned (.int .i64 9) ∧ w' = w := by
  have HU := Lib.hid (ris_yes qb rb c hd L w h i hi hu)
  have c0 := h.at.1
  have x4 := (h.fr hi).2.2.2.2
  rw [hp] at x4
  have hn := h.n
  clear h hu hp
  go_enter Try.func27, Try.ntmps27
  go_wp2_with fail
  refine HU.out.mono ?_
  rintro e w' ⟨rfl, rfl⟩
  go_wp2
  go_ret
  exact ⟨rfl, rfl⟩
set_option maxRecDepth 100000 in
set_option maxHeartbeats 1000000 in
theorem rdrop_not (i : Nat) (hi : i < L.length) (hu : L[i].used = true) (hp : 0 < L[i].pins) : Calls Try.prog 28 #[.pointer (some ⟨qb, 0, none⟩), .int .i64 (i : Nat)] w fun e w' => e = .returned (.int .i64 9) ∧ w' = w := by
  have HU := Lib.hid (ris_yes qb rb c hd L w h i hi hu)
  have c0 := h.at.1
  have x4 := (h.fr hi).2.2.2.2
  have hpn := (h.num _ (List.getElem_mem hi)).2
  have hn := h.n
  clear h hu
  generalize hfx : L[i] = x at *
  go_enter Try.func28, Try.ntmps28
  go_wp2_with fail
  refine HU.out.mono ?_
  rintro e w' ⟨rfl, rfl⟩
  go_wp2
  go_ret
  exact ⟨rfl, rfl⟩
set_option maxRecDepth 100000 in
set_option maxHeartbeats 1000000 in
theorem rdrop_yes (i : Nat) (hi : i < L.length) (hu : L[i].used = true) (hp : L[i].pins = 0) : Calls Try.prog 28 #[.pointer (some ⟨qb, 0, none⟩), .int .i64 (i : Nat)] w fun e w' => e = .returned (.int .i64 0) ∧ QBox w' qb rb c (L.set i Fr.zero) hd ∧ Frm (fun j => j = rb) w w' := by
  have HU := Lib.hid (ris_yes qb rb c hd L w h i hi hu)
  have c0 := h.at.1
  obtain ⟨x0, x1, x2, x3, x4⟩ := h.fr hi
  rw [hp] at x4
  have g0 := h.frozen (i * 5)
  have g1 := h.frozen (i * 5 + 1)
  have g2 := h.frozen (i * 5 + 2)
  have g3 := h.frozen (i * 5 + 3)
  have g4 := h.frozen (i * 5 + 4)
  have HT := Lib.hid (h.put5 i hi Fr.zero ⟨rfl, by simp [Fr.zero]⟩)
  have hn := h.n
  clear h hu hp
  generalize hfx : L[i] = x at *
  go_enter Try.func28, Try.ntmps28
  go_wp2_with fail
  refine HU.out.mono ?_
  rintro e w' ⟨rfl, rfl⟩
  go_wp2
  go_ret
  exact ⟨rfl, HT.out.1, HT.out.2⟩
end
end Go.Proofs.Ytdbaidkepngjcaa
