/- The pool of frames: used. Conditions: none. -/
import Derived.Test.YtdbaidkepngjcaaFrg
namespace Go.Proofs.Ytdbaidkepngjcaa
open Go.ChangeShapes Go.WideShapes Go.ChangeAt Go.RowKit Go.Maps
set_option linter.unusedSimpArgs false
set_option linter.unusedVariables false
section
variable (pb lb mb m : Nat) (p : Pl) (w : World) (h : PBox w pb lb mb m p)
include h
set_option maxRecDepth 100000 in
set_option maxHeartbeats 1000000 in
theorem used_yes (i : Nat) (hi : i < p.L.length) (hu : p.L[i].used = true) : Calls Try.prog 37 #[.pointer (some ⟨pb, 0, none⟩), .int .i64 (i : Nat)] w fun e w' => e = .returned (.tuple #[.pointer (some ⟨lb, i * 5, none⟩), .int .i64 0]) ∧ w' = w := by
  obtain ⟨c0, c1, c2, c3, fr⟩ := h.at
  obtain ⟨x0, x1, x2, x3, x4⟩ := h.fr hi
  rw [hu] at x1
  have hn := h.ok.n
  clear h c1 c2 c3 fr x0 x2 x3 x4 hu
  generalize p.L.length = n at *
  go_enter Try.func37, Try.ntmps37
  go_wp2
  go_ret2
  exact ⟨rfl, rfl⟩
set_option maxRecDepth 100000 in
set_option maxHeartbeats 1000000 in
theorem used_no (a : Int) (ha : (Lit.int .i64 a).wf = true) (hno : ∀ (i : Nat) (hi : i < p.L.length), (i : Int) = a → p.L[i].used = false) : Calls Try.prog 37 #[.pointer (some ⟨pb, 0, none⟩), .int .i64 a] w fun e w' => e = .returned (.tuple #[.pointer none, .int .i64 2]) ∧ w' = w := by
  obtain ⟨c0, c1, c2, c3, fr⟩ := h.at
  have hn := h.ok.n
  rcases Classical.em (a < 0) with h1 | h1
  · clear h c1 c2 c3 fr hno
    generalize p.L.length = n at *
    go_enter Try.func37, Try.ntmps37
    go_wp2
    go_ret2
    exact ⟨rfl, rfl⟩
  obtain ⟨i, rfl⟩ : ∃ i : Nat, a = i := ⟨a.toNat, by omega⟩
  rcases Classical.em ((p.L.length : Int) ≤ (i : Nat)) with h2 | h2
  · clear h c1 c2 c3 fr hno
    generalize p.L.length = n at *
    go_enter Try.func37, Try.ntmps37
    go_wp2
    go_ret2
    exact ⟨rfl, rfl⟩
  have hi : i < p.L.length := by omega
  have hu := hno i hi rfl
  obtain ⟨x0, x1, x2, x3, x4⟩ := h.fr hi
  rw [hu] at x1
  clear h c1 c2 c3 fr x0 x2 x3 x4 hu hno
  generalize p.L.length = n at *
  go_enter Try.func37, Try.ntmps37
  go_wp2
  go_ret2
  exact ⟨rfl, rfl⟩
set_option maxRecDepth 100000 in
set_option maxHeartbeats 1000000 in
theorem touch_no (a : Int) (wr : Bool) (ha : (Lit.int .i64 a).wf = true) (hno : ∀ (i : Nat) (hi : i < p.L.length), (i : Int) = a → p.L[i].used = false) : Calls Try.prog 15 #[.pointer (some ⟨pb, 0, none⟩), .int .i64 a, .bool wr] w fun e w' => e = .returned (.int .i64 2) ∧ w' = w := by
  have HU := Lib.hid (used_no pb lb mb m p w h a ha hno)
  clear h hno
  go_enter Try.func15, Try.ntmps15
  go_wp2_with fail
  refine HU.out.mono ?_
  rintro e w' ⟨rfl, rfl⟩
  go_wp2
  go_ret
  exact ⟨rfl, rfl⟩
set_option maxRecDepth 100000 in
set_option maxHeartbeats 1000000 in
theorem clean_no (a : Int) (ha : (Lit.int .i64 a).wf = true) (hno : ∀ (i : Nat) (hi : i < p.L.length), (i : Int) = a → p.L[i].used = false) : Calls Try.prog 24 #[.pointer (some ⟨pb, 0, none⟩), .int .i64 a] w fun e w' => e = .returned (.int .i64 2) ∧ w' = w := by
  have HU := Lib.hid (used_no pb lb mb m p w h a ha hno)
  clear h hno
  go_enter Try.func24, Try.ntmps24
  go_wp2_with fail
  refine HU.out.mono ?_
  rintro e w' ⟨rfl, rfl⟩
  go_wp2
  go_ret
  exact ⟨rfl, rfl⟩
set_option maxRecDepth 100000 in
set_option maxHeartbeats 1000000 in
theorem pin_no (a : Int) (ha : (Lit.int .i64 a).wf = true) (hno : ∀ (i : Nat) (hi : i < p.L.length), (i : Int) = a → p.L[i].used = false) : Calls Try.prog 16 #[.pointer (some ⟨pb, 0, none⟩), .int .i64 a] w fun e w' => e = .returned (.int .i64 2) ∧ w' = w := by
  have HU := Lib.hid (used_no pb lb mb m p w h a ha hno)
  clear h hno
  go_enter Try.func16, Try.ntmps16
  go_wp2_with fail
  refine HU.out.mono ?_
  rintro e w' ⟨rfl, rfl⟩
  go_wp2
  go_ret
  exact ⟨rfl, rfl⟩
set_option maxRecDepth 100000 in
set_option maxHeartbeats 1000000 in
theorem unpin_no (a : Int) (ha : (Lit.int .i64 a).wf = true) (hno : ∀ (i : Nat) (hi : i < p.L.length), (i : Int) = a → p.L[i].used = false) : Calls Try.prog 17 #[.pointer (some ⟨pb, 0, none⟩), .int .i64 a] w fun e w' => e = .returned (.int .i64 2) ∧ w' = w := by
  have HU := Lib.hid (used_no pb lb mb m p w h a ha hno)
  clear h hno
  go_enter Try.func17, Try.ntmps17
  go_wp2_with fail
  refine HU.out.mono ?_
  rintro e w' ⟨rfl, rfl⟩
  go_wp2
  go_ret
  exact ⟨rfl, rfl⟩
set_option maxRecDepth 100000 in
set_option maxHeartbeats 1000000 in
theorem drop_no (a : Int) (ha : (Lit.int .i64 a).wf = true) (hno : ∀ (i : Nat) (hi : i < p.L.length), (i : Int) = a → p.L[i].used = false) : Calls Try.prog 14 #[.pointer (some ⟨pb, 0, none⟩), .int .i64 a] w fun e w' => e = .returned (.int .i64 2) ∧ w' = w := by
  have HU := Lib.hid (used_no pb lb mb m p w h a ha hno)
  clear h hno
  go_enter Try.func14, Try.ntmps14
  go_wp2_with fail
  refine HU.out.mono ?_
  rintro e w' ⟨rfl, rfl⟩
  go_wp2
  go_ret
  exact ⟨rfl, rfl⟩
set_option maxRecDepth 100000 in
set_option maxHeartbeats 1000000 in
theorem clean_yes (i : Nat) (hi : i < p.L.length) (hu : p.L[i].used = true) : Calls Try.prog 24 #[.pointer (some ⟨pb, 0, none⟩), .int .i64 (i : Nat)] w fun e w' => e = .returned (.int .i64 0) ∧ PBox w' pb lb mb m { p with L := p.L.set i ⟨p.L[i].key, p.L[i].used, p.L[i].ref, false, p.L[i].pins⟩ } ∧ Frm (fun j => j = lb) w w' := by
  have HU := Lib.hid (used_yes pb lb mb m p w h i hi hu)
  obtain ⟨x0, x1, x2, x3, x4⟩ := h.fr hi
  have g2 := h.frozen (i * 5 + 2)
  have g3 := h.frozen (i * 5 + 3)
  have g4 := h.frozen (i * 5 + 4)
  have hpn := (h.ok.num _ (List.getElem_mem hi)).2
  have HT := Lib.hid (h.touch i 3 hi (by omega) (.bool false) ⟨p.L[i].key, p.L[i].used, p.L[i].ref, false, p.L[i].pins⟩ rfl rfl rfl hpn)
  clear h hu
  generalize hfx : p.L[i] = x at *
  go_enter Try.func24, Try.ntmps24
  go_wp2_with fail
  refine HU.out.mono ?_
  rintro e w' ⟨rfl, rfl⟩
  go_wp2
  go_ret
  exact ⟨rfl, HT.out⟩
set_option maxRecDepth 100000 in
set_option maxHeartbeats 1000000 in
theorem pin_yes (i : Nat) (hi : i < p.L.length) (hu : p.L[i].used = true) (hp : p.L[i].pins < 1048576) : Calls Try.prog 16 #[.pointer (some ⟨pb, 0, none⟩), .int .i64 (i : Nat)] w fun e w' => e = .returned (.int .i64 0) ∧ PBox w' pb lb mb m { p with L := p.L.set i ⟨p.L[i].key, p.L[i].used, p.L[i].ref, p.L[i].dirty, p.L[i].pins + 1⟩ } ∧ Frm (fun j => j = lb) w w' := by
  have HU := Lib.hid (used_yes pb lb mb m p w h i hi hu)
  obtain ⟨x0, x1, x2, x3, x4⟩ := h.fr hi
  have g2 := h.frozen (i * 5 + 2)
  have g3 := h.frozen (i * 5 + 3)
  have g4 := h.frozen (i * 5 + 4)
  have hpn := (h.ok.num _ (List.getElem_mem hi)).2
  have HT := Lib.hid (h.touch i 4 hi (by omega) (.int .i64 ((p.L[i].pins : Nat) + 1 : Int)) ⟨p.L[i].key, p.L[i].used, p.L[i].ref, p.L[i].dirty, p.L[i].pins + 1⟩ rfl rfl rfl (by show p.L[i].pins + 1 ≤ _; omega))
  clear h hu
  generalize hfx : p.L[i] = x at *
  go_enter Try.func16, Try.ntmps16
  go_wp2_with fail
  refine HU.out.mono ?_
  rintro e w' ⟨rfl, rfl⟩
  go_wp2
  go_ret
  exact ⟨rfl, HT.out⟩
set_option maxRecDepth 100000 in
set_option maxHeartbeats 1000000 in
theorem unpin_yes (i : Nat) (hi : i < p.L.length) (hu : p.L[i].used = true) (hp : 0 < p.L[i].pins) : Calls Try.prog 17 #[.pointer (some ⟨pb, 0, none⟩), .int .i64 (i : Nat)] w fun e w' => e = .returned (.int .i64 0) ∧ PBox w' pb lb mb m { p with L := p.L.set i ⟨p.L[i].key, p.L[i].used, p.L[i].ref, p.L[i].dirty, p.L[i].pins - 1⟩ } ∧ Frm (fun j => j = lb) w w' := by
  have HU := Lib.hid (used_yes pb lb mb m p w h i hi hu)
  obtain ⟨x0, x1, x2, x3, x4⟩ := h.fr hi
  have g2 := h.frozen (i * 5 + 2)
  have g3 := h.frozen (i * 5 + 3)
  have g4 := h.frozen (i * 5 + 4)
  have hpn := (h.ok.num _ (List.getElem_mem hi)).2
  have HT := Lib.hid (h.touch i 4 hi (by omega) (.int .i64 ((p.L[i].pins : Nat) - 1 : Int)) ⟨p.L[i].key, p.L[i].used, p.L[i].ref, p.L[i].dirty, p.L[i].pins - 1⟩ (by simp only [frL]; rw [show ((p.L[i].pins - 1 : Nat) : Int) = (p.L[i].pins : Nat) - 1 from by omega]; rfl) rfl rfl (by show p.L[i].pins - 1 ≤ _; omega))
  clear h hu
  generalize hfx : p.L[i] = x at *
  go_enter Try.func17, Try.ntmps17
  go_wp2_with fail
  refine HU.out.mono ?_
  rintro e w' ⟨rfl, rfl⟩
  go_wp2
  go_ret
  exact ⟨rfl, HT.out⟩
end
end Go.Proofs.Ytdbaidkepngjcaa
