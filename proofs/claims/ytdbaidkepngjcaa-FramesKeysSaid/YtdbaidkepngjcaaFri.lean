/- The pool of frames: Touch, Drop, refusals, At, Hand. Conditions: none. -/
import Derived.Test.YtdbaidkepngjcaaFrh
namespace Go.Proofs.Ytdbaidkepngjcaa
open Go.ChangeShapes Go.WideShapes Go.ChangeAt Go.RowKit Go.Maps
set_option linter.unusedSimpArgs false
set_option linter.unusedVariables false
section
variable (pb lb mb m : Nat) (p : Pl) (w : World) (h : PBox w pb lb mb m p)
include h
set_option maxRecDepth 100000 in
set_option maxHeartbeats 1000000 in
theorem hand_any : Calls Try.prog 20 #[.pointer (some ⟨pb, 0, none⟩)] w fun e w' => e = .returned (.int .i64 (p.hand : Nat)) ∧ w' = w := by
  obtain ⟨c0, c1, c2, c3, fr⟩ := h.at
  clear h
  go_enter Try.func20, Try.ntmps20
  go_wp2
  go_ret
  exact ⟨rfl, rfl⟩
set_option maxRecDepth 100000 in
set_option maxHeartbeats 1000000 in
theorem pin_full (i : Nat) (hi : i < p.L.length) (hu : p.L[i].used = true) (hp : p.L[i].pins = 1048576) : Calls Try.prog 16 #[.pointer (some ⟨pb, 0, none⟩), .int .i64 (i : Nat)] w fun e w' => e = .returned (.int .i64 10) ∧ w' = w := by
  have HU := Lib.hid (used_yes pb lb mb m p w h i hi hu)
  obtain ⟨x0, x1, x2, x3, x4⟩ := h.fr hi
  rw [hp] at x4
  clear h hu hp
  go_enter Try.func16, Try.ntmps16
  go_wp2_with fail
  refine HU.out.mono ?_
  rintro e w' ⟨rfl, rfl⟩
  go_wp2
  go_ret
  exact ⟨rfl, rfl⟩
set_option maxRecDepth 100000 in
set_option maxHeartbeats 1000000 in
theorem unpin_not (i : Nat) (hi : i < p.L.length) (hu : p.L[i].used = true) (hp : p.L[i].pins = 0) : Calls Try.prog 17 #[.pointer (some ⟨pb, 0, none⟩), .int .i64 (i : Nat)] w fun e w' => e = .returned (.int .i64 9) ∧ w' = w := by
  have HU := Lib.hid (used_yes pb lb mb m p w h i hi hu)
  obtain ⟨x0, x1, x2, x3, x4⟩ := h.fr hi
  rw [hp] at x4
  clear h hu hp
  go_enter Try.func17, Try.ntmps17
  go_wp2_with fail
  refine HU.out.mono ?_
  rintro e w' ⟨rfl, rfl⟩
  go_wp2
  go_ret
  exact ⟨rfl, rfl⟩
set_option maxRecDepth 100000 in
set_option maxHeartbeats 1000000 in
theorem drop_not (i : Nat) (hi : i < p.L.length) (hu : p.L[i].used = true) (hp : 0 < p.L[i].pins) : Calls Try.prog 14 #[.pointer (some ⟨pb, 0, none⟩), .int .i64 (i : Nat)] w fun e w' => e = .returned (.int .i64 9) ∧ w' = w := by
  have HU := Lib.hid (used_yes pb lb mb m p w h i hi hu)
  obtain ⟨x0, x1, x2, x3, x4⟩ := h.fr hi
  have hpn := (h.ok.num _ (List.getElem_mem hi)).2
  clear h hu
  generalize hfx : p.L[i] = x at *
  go_enter Try.func14, Try.ntmps14
  go_wp2_with fail
  refine HU.out.mono ?_
  rintro e w' ⟨rfl, rfl⟩
  go_wp2
  go_ret
  exact ⟨rfl, rfl⟩
set_option maxRecDepth 100000 in
set_option maxHeartbeats 1000000 in
theorem touch_yes (i : Nat) (wr : Bool) (hi : i < p.L.length) (hu : p.L[i].used = true) : Calls Try.prog 15 #[.pointer (some ⟨pb, 0, none⟩), .int .i64 (i : Nat), .bool wr] w fun e w' => e = .returned (.int .i64 0) ∧ PBox w' pb lb mb m { p with L := p.L.set i ⟨p.L[i].key, p.L[i].used, true, p.L[i].dirty || wr, p.L[i].pins⟩ } ∧ Frm (fun j => j = lb) w w' := by
  have HU := Lib.hid (used_yes pb lb mb m p w h i hi hu)
  have hpn := (h.ok.num _ (List.getElem_mem hi)).2
  have g2 := h.frozen (i * 5 + 2)
  have x2 := (h.fr hi).2.2.1
  obtain ⟨hT1, hF1⟩ := h.touch i 2 hi (by omega) (.bool true) ⟨p.L[i].key, p.L[i].used, true, p.L[i].dirty, p.L[i].pins⟩ rfl rfl rfl hpn
  have hi1 : i < (p.L.set i ⟨p.L[i].key, p.L[i].used, true, p.L[i].dirty, p.L[i].pins⟩).length := by simpa using hi
  have g3 := hT1.frozen (i * 5 + 3)
  obtain ⟨y0, y1, y2, y3, y4⟩ := hT1.fr hi1
  have hg : (p.L.set i ⟨p.L[i].key, p.L[i].used, true, p.L[i].dirty, p.L[i].pins⟩)[i] = ⟨p.L[i].key, p.L[i].used, true, p.L[i].dirty, p.L[i].pins⟩ := List.getElem_set_self ..
  obtain ⟨hT2, hF2⟩ := hT1.touch i 3 hi1 (by omega) (.bool (p.L[i].dirty || wr)) ⟨p.L[i].key, p.L[i].used, true, p.L[i].dirty || wr, p.L[i].pins⟩ (by simp only [hg]; rfl) (by simp only [hg]) (by simp only [hg]) hpn
  simp only [List.set_set] at hT2
  simp only [hg] at y0 y1 y2 y3 y4
  have HT := Lib.hid hT2
  have HF := Lib.hid (hF1.trans hF2)
  clear h hu hT1 hT2 hF1 hF2 y0 y1 y2 y4 hg hi1
  generalize hfx : p.L[i] = x at *
  generalize hdd : x.dirty = dd at *
  cases dd <;> cases wr
  all_goals
    go_enter Try.func15, Try.ntmps15
    go_wp2_with fail
    refine HU.out.mono ?_
    rintro e w' ⟨rfl, rfl⟩
    clear HU
    go_upto_region 4 with (fail)
    revert HT HF g3 y3
    generalize w'.setCell ⟨lb, i * 5 + 2, none⟩ (.bool true) = w2
    intro g3 y3 HT HF
    go_wp2
    go_ret
    exact ⟨rfl, HT.out, HF.out⟩
end
end Go.Proofs.Ytdbaidkepngjcaa
