/- The pool of frames: the hand moves. Conditions: none. -/
import Derived.Test.YtdbaidkepngjcaaFrc
namespace Go.Proofs.Ytdbaidkepngjcaa
open Go.ChangeShapes Go.WideShapes Go.ChangeAt Go.RowKit Go.Maps
set_option linter.unusedSimpArgs false
set_option linter.unusedVariables false
def clr (x : Fr) : Fr := if x.used && decide (x.pins = 0) then { x with ref := false } else x
def passL (L : List Fr) (h : Nat) : Nat → List Fr
  | 0 => L
  | q + 1 => (passL L h q).set ((h + q) % L.length) (clr ((passL L h q).getD ((h + q) % L.length) Fr.zero))
theorem passL_length (L : List Fr) (h : Nat) : ∀ q, (passL L h q).length = L.length
  | 0 => rfl
  | q + 1 => by
    show ((passL L h q).set _ _).length = _
    rw [List.length_set, passL_length L h q]
theorem clr_clr (x : Fr) : clr (clr x) = clr x := by
  unfold clr
  by_cases h : (x.used && decide (x.pins = 0)) = true
  · rw [if_pos h, if_pos h]
  · rw [if_neg h, if_neg h]
theorem passL_get (L : List Fr) (h : Nat) (i : Nat) (x : Fr) (hx : L[i]? = some x) : ∀ q, (passL L h q)[i]? = some (if ∃ r, r < q ∧ (h + r) % L.length = i then clr x else x)
  | 0 => by
    rw [if_neg (by rintro ⟨r, hr, _⟩; omega)]
    exact hx
  | q + 1 => by
    have hi : i < L.length := (List.getElem?_eq_some_iff.1 hx).1
    have ih := passL_get L h i x hx q
    show ((passL L h q).set _ _)[i]? = _
    rw [List.getElem?_set]
    by_cases e : (h + q) % L.length = i
    · rw [if_pos e, if_pos (by rw [passL_length, e]; exact hi), if_pos ⟨q, by omega, e⟩, e]
      congr 1
      rw [List.getD_eq_getElem?_getD, ih]
      show clr (if _ then clr x else x) = _
      split
      · exact clr_clr x
      · rfl
    · rw [if_neg e, ih]
      congr 1
      have : (∃ r, r < q ∧ (h + r) % L.length = i) ↔ (∃ r, r < q + 1 ∧ (h + r) % L.length = i) := by
        constructor
        · rintro ⟨r, h1, h2⟩
          exact ⟨r, by omega, h2⟩
        · rintro ⟨r, h1, h2⟩
          refine ⟨r, ?_, h2⟩
          rcases Nat.lt_or_ge r q with h3 | h3
          · exact h3
          · obtain rfl : r = q := by omega
            exact absurd h2 e
      simp only [this]
set_option maxRecDepth 100000 in
set_option maxHeartbeats 4000000 in
theorem pass_any (pb lb mb m : Nat) (p : Pl) (w : World) (h : PBox w pb lb mb m p) (z : Nat) (hz : z < 2 * p.L.length) : Calls Try.prog 36 #[.pointer (some ⟨pb, 0, none⟩), .int .i64 (z : Nat)] w fun e w' => e = .returned (.tuple #[]) ∧ PBox w' pb lb mb m { p with L := passL p.L p.hand (z + 1), hand := (p.hand + z + 1) % p.L.length } ∧ Frm (fun j => j = pb ∨ j = lb) w w' := by
  have H := Lib.hid h
  obtain ⟨c0, c1, c2, c3, fr⟩ := h.at
  have hnn := h.ok.n
  have hhd := h.ok.hand
  obtain ⟨n, hn⟩ : ∃ n, p.L.length = n := ⟨_, rfl⟩
  have HN := Lib.hid hn
  rw [hn] at c0 hnn hhd hz ⊢
  clear h hn c1 c2 c3 fr
  go_enter Try.func36, Try.ntmps36
  go_wp2
  go_loopw [14] (fun i wx => ∃ q : Nat, q ≤ z + 1 ∧ i = .int .i64 q ∧ PBox wx pb lb mb m { p with L := passL p.L p.hand q } ∧ Frm (fun j => j = pb ∨ j = lb) w wx) (fun i wx => z + 1 - (intOf i).toNat)
  case atStart => exact ⟨0, by omega, rfl, H.out, Frm.refl _ _⟩
  case round =>
    obtain ⟨q, hq, rfl, hP, hF⟩ := hrel
    have hpl : (passL p.L p.hand q).length = n := by rw [passL_length]; exact HN.out
    obtain ⟨d0, d1, d2, d3, fr⟩ := hP.at
    rw [show ({ p with L := passL p.L p.hand q } : Pl).L.length = n from hpl] at d0
    have d2 : wr.cell? ⟨pb, 2, none⟩ = some (.int .i64 (p.hand : Nat)) := d2
    have HP := Lib.hid hP
    have HF := Lib.hid hF
    by_cases hlt : q < z + 1
    · obtain ⟨c, hc⟩ : ∃ c, (p.hand + q) % n = c := ⟨_, rfl⟩
      have hcn : c < n := by rw [← hc]; exact Nat.mod_lt _ (by omega)
      obtain ⟨x0, x1, x2, x3, x4⟩ := hP.fr (i := c) (by show c < (passL p.L p.hand q).length; rw [hpl]; exact hcn)
      have hci : c < (passL p.L p.hand q).length := by rw [hpl]; exact hcn
      obtain ⟨x, hx⟩ : ∃ x, (passL p.L p.hand q)[c] = x := ⟨_, rfl⟩
      rw [show ({ p with L := passL p.L p.hand q } : Pl).L[c] = x from hx] at x1 x2 x4
      have hnx : passL p.L p.hand (q + 1) = (passL p.L p.hand q).set c (clr x) := by
        show (passL p.L p.hand q).set ((p.hand + q) % p.L.length) (clr ((passL p.L p.hand q).getD ((p.hand + q) % p.L.length) Fr.zero)) = _
        rw [HN.out, hc, List.getD_eq_getElem?_getD, List.getElem?_eq_getElem hci, hx]
        rfl
      have HNX := Lib.hid hnx
      have hpin := (hP.ok.num _ (List.getElem_mem hci)).2
      rw [hx] at hpin
      have HT := Lib.hid (fun (hu : (x.used && decide (x.pins = 0)) = true) (k : Nat) => (hP.next (Frm.drewN wr k)).touch c 2 hci (by omega) (.bool false) (clr x) (by
        show frL (clr x) = (frL (passL p.L p.hand q)[c]).set 2 (.bool false)
        rw [hx]
        unfold clr
        rw [if_pos hu]
        rfl) (by
        show (clr x).used = ((passL p.L p.hand q)[c]).used
        rw [hx]; unfold clr; rw [if_pos hu]) (by
        show (clr x).key = ((passL p.L p.hand q)[c]).key
        rw [hx]; unfold clr; rw [if_pos hu]) (by unfold clr; rw [if_pos hu]; exact hpin))
      have HNC := Lib.hid (fun (hu : ¬ (x.used && decide (x.pins = 0)) = true) => (show (passL p.L p.hand q).set c (clr x) = passL p.L p.hand q from by
        unfold clr
        rw [if_neg hu, ← hx]
        exact List.set_getElem_self hci))
      have hw1 : IntKind.i64.wrap (((p.hand : Nat) : Int) + ((q : Nat) : Int)) = ((p.hand : Nat) : Int) + ((q : Nat) : Int) := by rw [IntKind.wrap_i64]; omega
      have hw2 : Int.tmod (((p.hand : Nat) : Int) + ((q : Nat) : Int)) ((n : Nat) : Int) = ((c : Nat) : Int) := by rw [Int.tmod_eq_emod_of_nonneg (by omega), ← hc]; show ((p.hand + q : Nat) : Int) % ((n : Nat) : Int) = _; rfl
      have hn0 : ¬ n = 0 := by omega
      have f2 := hP.frozen (c * 5 + 2)
      have e0 := fun k => (show (wr.drewN k).cell? ⟨pb, 0, none⟩ = _ from d0)
      have e2 := fun k => (show (wr.drewN k).cell? ⟨pb, 2, none⟩ = _ from d2)
      have y1 := fun k => (show (wr.drewN k).cell? ⟨lb, c * 5 + 1, none⟩ = _ from x1)
      have y2 := fun k => (show (wr.drewN k).cell? ⟨lb, c * 5 + 2, none⟩ = _ from x2)
      have y4 := fun k => (show (wr.drewN k).cell? ⟨lb, c * 5 + 4, none⟩ = _ from x4)
      have g2 := fun k => (show (wr.drewN k).frozen? ⟨lb, c * 5 + 2, none⟩ = false from f2)
      clear hP hF d1 d3 fr x0 x1 x2 x3 x4 d0 d2 f2 hx hnx
      go_upto_region 4 with (fail)
      go_quiet (fail)
      cases hu : x.used with
      | false =>
        rw [hu] at y1
        have HL := Lib.hid (HNX.out.trans (HNC.out (by rw [hu]; simp)))
        go_wp2
        go_roundw
        case rel => exact ⟨q + 1, by omega, by go_num, by rw [HL.out]; exact HP.out.next (Frm.drewN _ _), HF.out.trans (Frm.drewN _ _)⟩
        case measure => simp [intOf]; omega
      | true =>
        rw [hu] at y1
        by_cases hp : x.pins = 0
        · rw [hp] at y4
          have HT2 := Lib.hid (HT.out (by rw [hu, hp]; rfl))
          go_wp2
          go_roundw
          case rel => exact ⟨q + 1, by omega, by go_num, by rw [HNX.out]; exact (HT2.out _).1, HF.out.trans ((Frm.drewN _ _).trans ((HT2.out _).2.mono fun j _ e => Or.inr e))⟩
          case measure => simp [intOf]; omega
        · have hp' : (((x.pins : Nat) : Int) == 0) = false := by rw [beq_eq_false_iff_ne]; omega
          have HL := Lib.hid (HNX.out.trans (HNC.out (by rw [hu]; simp [hp])))
          go_wp2
          go_roundw
          case rel => exact ⟨q + 1, by omega, by go_num, by rw [HL.out]; exact HP.out.next (Frm.drewN _ _), HF.out.trans (Frm.drewN _ _)⟩
          case measure => simp [intOf]; omega
    · obtain rfl : q = z + 1 := by omega
      obtain ⟨c, hc⟩ : ∃ c, (p.hand + z + 1) % n = c := ⟨_, rfl⟩
      have hcn : c < n := by rw [← hc]; exact Nat.mod_lt _ (by omega)
      have hw1 : IntKind.i64.wrap (((p.hand : Nat) : Int) + ((z : Nat) : Int)) = ((p.hand : Nat) : Int) + ((z : Nat) : Int) := by rw [IntKind.wrap_i64]; omega
      have hw3 : IntKind.i64.wrap (((p.hand : Nat) : Int) + ((z : Nat) : Int) + 1) = ((p.hand : Nat) : Int) + ((z : Nat) : Int) + 1 := by rw [IntKind.wrap_i64]; omega
      have hw2 : Int.tmod (((p.hand : Nat) : Int) + ((z : Nat) : Int) + 1) ((n : Nat) : Int) = ((c : Nat) : Int) := by rw [Int.tmod_eq_emod_of_nonneg (by omega), ← hc]; show ((p.hand + z + 1 : Nat) : Int) % ((n : Nat) : Int) = _; rfl
      have hn0 : ¬ n = 0 := by omega
      have f2 := fr 2
      have HT := Lib.hid (hP.turn 2 (.int .i64 (c : Nat)) { p with L := passL p.L p.hand (z + 1), hand := c } rfl rfl ⟨hP.ok.n, by show c < (passL p.L p.hand (z + 1)).length; rw [hpl]; exact hcn, hP.ok.low, hP.ok.num⟩)
      clear hP hF d1 d3 fr
      go_wp2
      go_end0
      exact ⟨rfl, HT.out.1, HF.out.trans (HT.out.2.mono fun j _ e => Or.inl e)⟩
end Go.Proofs.Ytdbaidkepngjcaa
