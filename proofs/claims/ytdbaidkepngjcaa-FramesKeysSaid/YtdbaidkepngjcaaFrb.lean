/- The pool of frames: Find, unused, used. Conditions: none. -/
import Derived.Test.YtdbaidkepngjcaaFra
namespace Go.Proofs.Ytdbaidkepngjcaa
open Go.ChangeShapes Go.WideShapes Go.ChangeAt Go.RowKit Go.Maps
set_option linter.unusedSimpArgs false
set_option linter.unusedVariables false
/-- the pool's own cells have turned: the hand, or the place below which all are used -/
theorem PBox.turn {w : World} {pb lb mb m : Nat} {p : Pl} (h : PBox w pb lb mb m p) (j : Nat) (v : Value) (p' : Pl) (hL : p'.L = p.L)
    (hc : (#[.slice (some ⟨lb, 0, none⟩) p.L.length p.L.length, .map (some mb), .int .i64 (p.hand : Nat), .int .i64 (p.low : Nat)] : Array Value).setIfInBounds j v = #[.slice (some ⟨lb, 0, none⟩) p.L.length p.L.length, .map (some mb), .int .i64 (p'.hand : Nat), .int .i64 (p'.low : Nat)]) (hs : PShape p') :
    PBox (w.setCell ⟨pb, j, none⟩ v) pb lb mb m p' ∧ Frm (fun j => j = pb) w (w.setCell ⟨pb, j, none⟩ v) := by
  have hF : Frm (fun j => j = pb) w (w.setCell ⟨pb, j, none⟩ v) := (Frm.refl (fun j => j = pb) w).setCell pb j (Or.inl rfl) v
  obtain ⟨n1, n2, n3⟩ := h.ne
  obtain ⟨l1, l2, l3⟩ := h.lt
  obtain ⟨W, hM, hW⟩ := h.map
  refine ⟨⟨?_, ?_, ⟨W, ?_, by rw [hL]; exact hW⟩, h.ne, hs⟩, hF⟩
  · rw [hL, ← hc]
    exact heap_setCell_same w pb j _ _ v h.cells
  · rw [hL]
    exact own_keep h.row (fun g hg => by injection hg with hg; subst hg; exact hF.block _ l2 (fun e => n1 e.symm))
  · rw [hL]
    exact hM.keep (hF.block mb l3 (fun e => n2 e.symm))
theorem usedN_le (L : List Fr) : usedN L ≤ L.length := List.countP_le_length
theorem usedN_all {L : List Fr} (h : usedN L = L.length) (i : Nat) (hi : i < L.length) : L[i].used = true := by
  unfold usedN at h
  have := List.countP_eq_length.1 h L[i] (List.getElem_mem hi)
  exact this
theorem usedN_some {L : List Fr} (h : usedN L ≠ L.length) : ∃ i, ∃ hi : i < L.length, L[i].used = false := by
  refine Classical.byContradiction fun hn => h ?_
  unfold usedN
  rw [List.countP_eq_length]
  intro x hx
  obtain ⟨i, hi, rfl⟩ := List.getElem_of_mem hx
  refine Classical.byContradiction fun hb => hn ⟨i, hi, by simpa using hb⟩
section
variable (pb lb mb m : Nat) (p : Pl) (w : World) (h : PBox w pb lb mb m p)
include h
set_option maxRecDepth 100000 in
theorem find_any (W : Int → Option Nat) (s : Nat) (hM : MBox w mb m W s) (k : Int) (hk : (Lit.int .i64 k).wf = true) : Calls Try.prog 19 #[.pointer (some ⟨pb, 0, none⟩), .int .i64 k] w fun e w' => e = .returned (.tuple #[.int .i64 (((W k).getD 0 : Nat) : Int), .bool (W k).isSome]) ∧ w' = w := by
  obtain ⟨c0, c1, c2, c3, fr⟩ := h.at
  have hl := hM.look k hk
  unfold keyV at hl
  obtain ⟨i, hi⟩ : ∃ i, (W k).getD 0 = i := ⟨_, rfl⟩
  obtain ⟨b, hb⟩ : ∃ b, (W k).isSome = b := ⟨_, rfl⟩
  rw [hi, hb] at hl ⊢
  clear h hi hb
  go_enter Try.func19, Try.ntmps19
  go_wp2
  go_ret2
  exact ⟨rfl, rfl⟩
set_option maxRecDepth 100000 in
set_option maxHeartbeats 1000000 in
theorem unused_full (hu : usedN p.L = p.L.length) : Calls Try.prog 34 #[.pointer (some ⟨pb, 0, none⟩)] w fun e w' => e = .returned (.int .i64 (p.L.length : Nat)) ∧ ∃ k, w' = w.drewN k := by
  obtain ⟨c0, c1, c2, c3, fr⟩ := h.at
  obtain ⟨W, hM, _⟩ := h.map
  rw [hu] at hM
  have hlen := fun k => (hM.keep (w' := w.drewN k) rfl).len 3
  have d0 := fun k => (show (w.drewN k).cell? ⟨pb, 0, none⟩ = _ from c0)
  have d1 := fun k => (show (w.drewN k).cell? ⟨pb, 1, none⟩ = _ from c1)
  clear h hM c1 fr hu
  generalize p.L.length = n at *
  go_enter Try.func34, Try.ntmps34
  go_wp2_with fail
  go_quiet (fail)
  go_wp2
  go_ret
  exact ⟨rfl, _, rfl⟩
set_option maxRecDepth 100000 in
set_option maxHeartbeats 2000000 in
theorem unused_some (hu : usedN p.L ≠ p.L.length) : Calls Try.prog 34 #[.pointer (some ⟨pb, 0, none⟩)] w fun e w' => ∃ i : Nat, e = .returned (.int .i64 (i : Nat)) ∧ (∃ x, p.L[i]? = some x ∧ x.used = false) ∧ PBox w' pb lb mb m { p with low := i } ∧ Frm (fun j => j = pb) w w' := by
  obtain ⟨c0, c1, c2, c3, fr⟩ := h.at
  obtain ⟨W, hM, _⟩ := h.map
  have hlen := fun k => (hM.keep (w' := w.drewN k) rfl).len 3
  have d0 := fun k => (show (w.drewN k).cell? ⟨pb, 0, none⟩ = _ from c0)
  have d1 := fun k => (show (w.drewN k).cell? ⟨pb, 1, none⟩ = _ from c1)
  obtain ⟨i1, hi1, hf1⟩ := usedN_some hu
  have hle := usedN_le p.L
  have H := Lib.hid h
  have hnn := h.ok.n
  have hlow : p.low ≤ i1 := by
    refine Nat.le_of_not_lt fun hlt => ?_
    obtain ⟨x, hx, hx2⟩ := h.ok.low.2 i1 hlt
    rw [List.getElem?_eq_getElem hi1] at hx
    injection hx with hx
    subst hx
    rw [hf1] at hx2
    cases hx2
  have huu : (((usedN p.L : Nat) : Int) == ((p.L.length : Nat) : Int)) = false := by rw [beq_eq_false_iff_ne]; omega
  have HF1 := Lib.hid hf1
  clear h hM c1 fr hu hf1
  generalize usedN p.L = un at *
  go_enter Try.func34, Try.ntmps34
  go_wp2_with fail
  go_quiet (fail)
  clear hlen d0 d1 c0 c2 c3 huu
  go_wp2
  go_loopw [] (fun wx => ∃ q : Nat, q ≤ i1 ∧ PBox wx pb lb mb m { p with low := q } ∧ Frm (fun j => j = pb) w wx) (fun wx => p.L.length - (intOf ((wx.cell? ⟨pb, 3, none⟩).getD undef)).toNat)
  case atStart => exact ⟨p.low, hlow, H.out.next (Frm.drewN _ _), Frm.drewN _ _⟩
  case round =>
    obtain ⟨q, hq, hP, hF⟩ := hrel
    have hqn : q < p.L.length := by omega
    obtain ⟨c0, c1, c2, c3, fr⟩ := hP.at
    obtain ⟨x0, x1, x2, x3, x4⟩ := hP.fr hqn
    have f3 := fr 3
    have d0 := fun k => (show (wr.drewN k).cell? ⟨pb, 0, none⟩ = _ from c0)
    have d3 := fun k => (show (wr.drewN k).cell? ⟨pb, 3, none⟩ = _ from c3)
    cases hu : p.L[q].used with
    | true =>
      have d1 := fun k => (show (wr.drewN k).cell? ⟨lb, q * 5 + 1, none⟩ = some (.bool true) from by rw [← hu]; exact x1)
      have HS := Lib.hid (fun k => (hP.next (Frm.drewN wr k)).turn 3 (.int .i64 ((q : Int) + 1)) { p with low := q + 1 } rfl rfl ⟨hP.ok.n, hP.ok.hand, ⟨hqn, fun a ha => by
        have ha : a < q + 1 := ha
        rcases Nat.lt_or_ge a q with h1 | h1
        · exact hP.ok.low.2 a h1
        · obtain rfl : a = q := by omega
          exact ⟨_, List.getElem?_eq_getElem hqn, hu⟩⟩, hP.ok.num⟩)
      have HF := Lib.hid hF
      have hqi : q < i1 := by
        refine Nat.lt_of_le_of_ne hq fun e => ?_
        subst e
        rw [HF1.out] at hu
        cases hu
      clear hP hF c1 c2 fr x0 x1 x2 x3 x4 hu
      go_upto_region 3 with (fail)
      go_quiet (fail)
      go_wp2
      go_roundw
      case rel => exact ⟨q + 1, by omega, (HS.out _).1, HF.out.trans ((Frm.drewN _ _).trans (HS.out _).2)⟩
      case measure =>
        rw [(HS.out _).1.at.2.2.2.1, c3]
        simp [intOf]
        omega
    | false =>
      have d1 := fun k => (show (wr.drewN k).cell? ⟨lb, q * 5 + 1, none⟩ = some (.bool false) from by rw [← hu]; exact x1)
      have HP := Lib.hid hP
      have HF := Lib.hid hF
      have HU := Lib.hid hu
      clear hP hF c1 c2 fr x0 x1 x2 x3 x4 hu
      go_upto_region 3 with (fail)
      go_quiet (fail)
      go_wp2
      go_ret
      exact ⟨q, rfl, ⟨p.L[q], List.getElem?_eq_getElem hqn, HU.out⟩, HP.out.next (Frm.drewN _ _), HF.out.trans (Frm.drewN _ _)⟩
end
end Go.Proofs.Ytdbaidkepngjcaa
