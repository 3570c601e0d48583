/- The document's pool of frames: which is given up. Conditions: none. -/
import Derived.Test.YtdbaidkepngjcaaFrt
import Derived.Deep.LoopGhost
namespace Go.Proofs.Ytdbaidkepngjcaa
open Go.ChangeShapes Go.WideShapes Go.ChangeAt Go.RowKit Go.Maps
set_option linter.unusedSimpArgs false
set_option linter.unusedVariables false
theorem QBox.turn {w : World} {qb rb c hd : Nat} {L : List Fr} (h : QBox w qb rb c L hd) (hd' : Nat) (hh : hd' < L.length) : QBox (w.setCell ⟨qb, 1, none⟩ (.int .i64 (hd' : Nat))) qb rb c L hd' ∧ Frm (fun j => j = qb ∨ j = rb) w (w.setCell ⟨qb, 1, none⟩ (.int .i64 (hd' : Nat))) := by
  have hF : Frm (fun j => j = qb) w (w.setCell ⟨qb, 1, none⟩ (.int .i64 (hd' : Nat))) := (Frm.refl (fun j => j = qb) w).setCell qb 1 (Or.inl rfl) _
  refine ⟨⟨?_, own_keep h.row (fun g hg => by injection hg with hg; subst hg; exact hF.block _ h.lt.2 (fun e => h.ne e.symm)), h.ne, h.n, h.cap, hh, h.num⟩, hF.mono fun j _ e => Or.inl e⟩
  exact heap_setCell_same w qb 1 _ _ (.int .i64 (hd' : Nat)) h.cells
section
variable (qb rb c hd : Nat) (L : List Fr) (w : World) (h : QBox w qb rb c L hd)
include h
set_option maxRecDepth 100000 in
set_option maxHeartbeats 4000000 in
theorem rvictim_any : Calls Try.prog 38 #[.pointer (some ⟨qb, 0, none⟩)] w fun e w' => ((∃ q : Nat, q < 2 * L.length ∧ cand ⟨L, hd, 0⟩ q = true ∧ (∀ r, r < q → cand ⟨L, hd, 0⟩ r = false) ∧ e = .returned (.int .i64 (((hd + q) % L.length : Nat) : Int)) ∧ QBox w' qb rb c (passL L hd (q + 1)) ((hd + q + 1) % L.length)) ∨ ((∀ r, cand ⟨L, hd, 0⟩ r = false) ∧ e = .returned (.int .i64 (-1)) ∧ QBox w' qb rb c L hd)) ∧ Frm (fun j => j = qb ∨ j = rb) w w' := by
  have H := Lib.hid h
  obtain ⟨c0, c1, fr⟩ := h.at
  have hn := h.n
  have hhd := h.hand
  have hcap := h.cap
  have hne := h.ne
  obtain ⟨n, hnn⟩ : ∃ n, L.length = n := ⟨_, rfl⟩
  have HN := Lib.hid hnn
  have hA0 : anyF L 0 = false := by unfold anyF; simp
  rw [hnn] at c0 hn hhd ⊢
  clear h fr hnn
  go_enter Try.func38, Try.ntmps38
  go_wp2
  go_loopw [3, 4] (fun f i wx => ∃ q : Nat, q ≤ n ∧ i = .int .i64 q ∧ f = .bool (anyF L q) ∧ wx = w) (fun f i wx => n - (intOf i).toNat)
  case atStart => exact ⟨0, by omega, rfl, by rw [hA0], rfl⟩
  case round =>
    obtain ⟨q, hq, rfl, rfl, rfl⟩ := hrel
    by_cases hlt : q < n
    · have hqL : q < L.length := by rw [HN.out]; exact hlt
      obtain ⟨x0, x1, x2, x3, x4⟩ := H.out.fr hqL
      have hpin := (H.out.num _ (List.getElem_mem hqL)).2
      have n1 := anyF_succ L q hqL
      generalize L[q] = x at *
      generalize anyF L q = b at *
      have N1 := Lib.hid n1
      clear n1 x0 x2 x3 c1
      obtain ⟨xk, xu, xr, xd, xp⟩ := x
      dsimp only at x1 x4 hpin
      cases b with
      | true =>
        go_wp2
        go_roundw
        case rel => exact ⟨q + 1, by omega, by go_num, by rw [N1.out]; rfl, trivial⟩
        case measure => simp [intOf]; omega
      | false =>
        cases xu with
        | false =>
          go_wp2
          go_roundw
          case rel => exact ⟨q + 1, by omega, by go_num, by rw [N1.out]; rfl, trivial⟩
          case measure => simp [intOf]; omega
        | true =>
          by_cases hp : xp = 0
          · rw [hp] at x4
            go_wp2
            go_roundw
            case rel => exact ⟨q + 1, by omega, by go_num, by rw [N1.out, hp]; rfl, trivial⟩
            case measure => simp [intOf]; omega
          · have hpb : (((xp : Nat) : Int) == 0) = false := by rw [beq_eq_false_iff_ne]; omega
            go_wp2
            go_roundw
            case rel => exact ⟨q + 1, by omega, by go_num, by rw [N1.out]; unfold freeF; simp [hp], trivial⟩
            case measure => simp [intOf]; omega
    · obtain rfl : q = n := by omega
      cases hb : anyF L q with
      | false =>
        have HB := Lib.hid hb
        clear hb
        go_wp2
        go_ret
        exact ⟨Or.inr ⟨fun r => anyF_none (by rw [HN.out]; exact HB.out) hd 0 r, rfl, H.out⟩, Frm.refl _ _⟩
      | true =>
        obtain ⟨z0, hz0, hz1⟩ := anyF_some (by rw [HN.out]; exact hb) hd 0 H.out.hand
        obtain ⟨z, hz, hzc, hzn⟩ := first_cand (p := ⟨L, hd, 0⟩) (2 * L.length) ⟨z0, hz0, hz1⟩
        rw [HN.out] at hz
        have HZC := Lib.hid hzc
        have HZN := Lib.hid hzn
        clear hb hz0 hz1 hzc hzn c1
        go_wp2_with fail
        clear c0
        go_loopg [5] (z + 1) (fun g k wx => ∃ q' : Nat, q' + g = z + 1 ∧ 1 ≤ g ∧ QBox wx qb rb c (passL L hd q') ((hd + q') % q) ∧ Frm (fun j => j = qb ∨ j = rb) wr wx)
        case atStart => exact ⟨0, by omega, by omega, by rw [Nat.add_zero, Nat.mod_eq_of_lt hhd]; exact H.out, Frm.refl _ _⟩
        case round =>
          obtain ⟨q', hg, hg1, hP, hF⟩ := hrel
          have hLn := HN.out
          have hpl : (passL L hd q').length = q := by rw [passL_length]; exact HN.out
          obtain ⟨k, hk⟩ : ∃ k, (hd + q') % q = k := ⟨_, rfl⟩
          have hkq : k < q := by rw [← hk]; exact Nat.mod_lt _ (by omega)
          obtain ⟨k2, hk2⟩ : ∃ k2, (hd + q' + 1) % q = k2 := ⟨_, rfl⟩
          have hk2q : k2 < q := by rw [← hk2]; exact Nat.mod_lt _ (by omega)
          have hkk : (k + 1) % q = k2 := by rw [← hk, ← hk2]; simp [Nat.add_mod]
          obtain ⟨y, hy, y1, y2, y3, y4, hcd⟩ := hand_at (L := L) (hd := hd) (low := 0) (q := q') (by omega) (L[(hd + q') % L.length]'(Nat.mod_lt _ (by omega))) (List.getElem?_eq_getElem _)
          rw [← y1, ← y2] at hcd
          have hsk := pass_skip y hy
          have hcl := pass_clr y hy
          rw [hLn, hk] at hy hcl
          rw [hk] at hP
          obtain ⟨c0, c1, fr⟩ := hP.at
          rw [hpl] at c0
          have f1 := fr 1
          obtain ⟨hT1, hT2⟩ := hP.turn k2 (by rw [hpl]; exact hk2q)
          have hky : k < (passL L hd q').length := by rw [hpl]; exact hkq
          have hyg : (passL L hd q')[k] = y := by
            rw [List.getElem?_eq_getElem hky] at hy
            injection hy
          have hpin := (hP.num y (by rw [← hyg]; exact List.getElem_mem hky)).2
          have hm1 : Int.tmod (((k : Nat) : Int) + 1) ((q : Nat) : Int) = ((k2 : Nat) : Int) := by
            rw [Int.tmod_eq_emod_of_nonneg (by omega), ← hkk]
            show ((k + 1 : Nat) : Int) % ((q : Nat) : Int) = _
            rfl
          have hm2 : IntKind.i64.wrap (((k : Nat) : Int) + 1) = ((k : Nat) : Int) + 1 := by rw [IntKind.wrap_i64]; omega
          have hq0 : ¬ q = 0 := by omega
          have HF := Lib.hid (hF.trans hT2)
          have HT1 := Lib.hid hT1
          have HCD := Lib.hid hcd
          have HSK := Lib.hid hsk
          have HCL := Lib.hid hcl
          have HK := Lib.hid hk
          have HK2 := Lib.hid hk2
          have c01 := hT1.at.1
          rw [hpl] at c01
          obtain ⟨x0, x1, x2, x3, x4⟩ := hT1.fr hky
          rw [hyg] at x0 x1 x2 x3 x4
          have g2 := hT1.frozen (k * 5 + 2)
          have HTC := Lib.hid (hT1.touch k 2 hky (by omega) (.bool false) ⟨y.key, y.used, false, y.dirty, y.pins⟩ (by rw [hyg]; rfl) (by rw [hyg]) hpin)
          clear hP hF hT1 hT2 hcd hsk hcl hyg hk hk2 hkk hpl y1 y2 y3 y4 hy fr x0 x3 hky hLn
          go_upto_region 10 with (fail)
          generalize wr.setCell ⟨qb, 1, none⟩ (.int .i64 (k2 : Nat)) = w1 at *
          cases hu : y.used with
          | false =>
            rw [hu] at x1
            have HP2 := Lib.hid (show QBox w1 qb rb c (passL L hd (q' + 1)) ((hd + (q' + 1)) % q) from by rw [HSK.out (Or.inl (by unfold freeF; rw [hu]; rfl)), ← Nat.add_assoc, HK2.out]; exact HT1.out)
            have hgg : 2 ≤ gk := by
              rcases Nat.lt_or_ge gk 2 with h | h
              · exfalso
                obtain rfl : q' = z := by omega
                have := HZC.out
                rw [HCD.out, hu] at this
                cases this
              · exact h
            go_wp2
            go_roundg (gk - 1)
            case rel => exact ⟨q' + 1, by omega, by omega, HP2.out, HF.out⟩
            case measure => omega
          | true =>
            rw [hu] at x1
            by_cases hp : y.pins = 0
            · rw [hp] at x4
              cases hr : y.ref with
              | true =>
                rw [hr] at x2
                have HP2 := Lib.hid (show QBox (w1.setCell ⟨rb, k * 5 + 2, none⟩ (.bool false)) qb rb c (passL L hd (q' + 1)) ((hd + (q' + 1)) % q) from by rw [HCL.out (by unfold freeF; rw [hu, hp]; rfl), ← Nat.add_assoc, HK2.out]; exact HTC.out.1)
                have hgg : 2 ≤ gk := by
                  rcases Nat.lt_or_ge gk 2 with h | h
                  · exfalso
                    obtain rfl : q' = z := by omega
                    have := HZC.out
                    rw [HCD.out, hu, hp, hr] at this
                    cases this
                  · exact h
                go_wp2
                go_roundg (gk - 1)
                case rel => exact ⟨q' + 1, by omega, by omega, HP2.out, HF.out.trans (HTC.out.2.mono fun j _ e => Or.inr e)⟩
                case measure => omega
              | false =>
                rw [hr] at x2
                have HP2 := Lib.hid (show QBox w1 qb rb c (passL L hd (q' + 1)) ((hd + q' + 1) % q) from by rw [HSK.out (Or.inr hr), HK2.out]; exact HT1.out)
                have HQ := Lib.hid (show q' = z from by
                  rcases Nat.lt_or_ge q' z with h | h
                  · exfalso
                    have := HZN.out q' h
                    rw [HCD.out, hu, hp, hr] at this
                    cases this
                  · omega)
                go_wp2
                go_ret
                exact ⟨Or.inl ⟨q', by have := HQ.out; omega, by rw [HQ.out]; exact HZC.out, fun r hr => HZN.out r (by have := HQ.out; omega), by rw [HK.out]; rfl, HP2.out⟩, HF.out⟩
            · have hp' : 0 < y.pins := by omega
              have HP2 := Lib.hid (show QBox w1 qb rb c (passL L hd (q' + 1)) ((hd + (q' + 1)) % q) from by rw [HSK.out (Or.inl (by unfold freeF; simp [hp])), ← Nat.add_assoc, HK2.out]; exact HT1.out)
              have hgg : 2 ≤ gk := by
                rcases Nat.lt_or_ge gk 2 with h | h
                · exfalso
                  obtain rfl : q' = z := by omega
                  have := HZC.out
                  rw [HCD.out] at this
                  simp [hp] at this
                · exact h
              go_wp2
              go_roundg (gk - 1)
              case rel => exact ⟨q' + 1, by omega, by omega, HP2.out, HF.out⟩
              case measure => omega
end
end Go.Proofs.Ytdbaidkepngjcaa
