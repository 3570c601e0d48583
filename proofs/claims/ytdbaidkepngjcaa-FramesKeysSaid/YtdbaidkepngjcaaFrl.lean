/- The pool of frames: Take told by what the frames are; Find too; the chapter's example. Conditions: none. -/
import Derived.Test.YtdbaidkepngjcaaFrk
namespace Go.Proofs.Ytdbaidkepngjcaa
open Go.ChangeShapes Go.WideShapes Go.ChangeAt Go.RowKit Go.Maps
set_option linter.unusedSimpArgs false
set_option linter.unusedVariables false
theorem usedN_full {L : List Fr} (h : ∀ x ∈ L, x.used = true) : usedN L = L.length := List.countP_eq_length.2 h
theorem usedN_not {L : List Fr} (j : Nat) (hj : j < L.length) (hu : L[j].used = false) : usedN L ≠ L.length := by
  intro e
  rw [usedN_all e j hj] at hu
  cases hu
theorem Wok.none_of {L : List Fr} {W : Int → Option Nat} (h : Wok L W) (k : Int) (hk : ∀ x ∈ L, x.used = true → x.key ≠ k) : W k = none := by
  cases hc : W k with
  | none => rfl
  | some i =>
    obtain ⟨x, hx, h1, h2⟩ := (h k i).1 hc
    exact absurd h2 (hk x (List.mem_of_getElem? hx) h1)
theorem take_next (pb lb mb m : Nat) (hm : m < 1000000) (p : Pl) (w : World) (h : PBox w pb lb mb m p) (k : Int) (hk : (Lit.int .i64 k).wf = true) (hkey : ∀ x ∈ p.L, x.used = true → x.key ≠ k) (j : Nat) (hj : j < p.L.length) (hbel : ∀ a (ha : a < j), p.L[a].used = true) (hun : p.L[j].used = false) :
    Calls Try.prog 12 #[.pointer (some ⟨pb, 0, none⟩), .int .i64 k] w fun e w' => e = .returned (.tuple #[.int .i64 (j : Nat), frV Fr.zero, .bool false, .int .i64 0]) ∧ PBox w' pb lb mb (m + 1) { p with L := p.L.set j ⟨k, true, true, false, 0⟩, low := j } ∧ Frm (Own pb lb mb) w w' := by
  obtain ⟨W, hM, hW⟩ := h.map
  refine (take_new pb lb mb m hm p w h W hM hW k hk (hW.none_of k hkey) (usedN_not j hj hun)).mono ?_
  rintro e w' ⟨i, rfl, ⟨x, hx, hxu⟩, hP, hF⟩
  have hij : i = j := by
    rcases Nat.lt_trichotomy i j with h1 | h1 | h1
    · exfalso
      have := hbel i h1
      rw [List.getElem?_eq_getElem (by omega)] at hx
      injection hx with hx
      rw [hx, hxu] at this
      cases this
    · exact h1
    · exfalso
      obtain ⟨y, hy, hyu⟩ := hP.ok.low.2 j h1
      have hy : (p.L.set i ⟨k, true, true, false, 0⟩)[j]? = some y := hy
      rw [List.getElem?_set, if_neg (by omega), List.getElem?_eq_getElem hj] at hy
      injection hy with hy
      rw [hy] at hun
      rw [hun] at hyu
      cases hyu
  subst hij
  exact ⟨rfl, hP, hF⟩
theorem take_full (pb lb mb m : Nat) (hm : m < 1000000) (p : Pl) (w : World) (h : PBox w pb lb mb m p) (k : Int) (hk : (Lit.int .i64 k).wf = true) (hkey : ∀ x ∈ p.L, x.used = true → x.key ≠ k) (hfull : ∀ x ∈ p.L, x.used = true) :
    Calls Try.prog 12 #[.pointer (some ⟨pb, 0, none⟩), .int .i64 k] w (TakeAll pb lb mb m p k w) := by
  obtain ⟨W, hM, hW⟩ := h.map
  exact take_all pb lb mb m hm p w h W hM hW k hk (hW.none_of k hkey) (usedN_full hfull)
theorem find_yes (pb lb mb m : Nat) (p : Pl) (w : World) (h : PBox w pb lb mb m p) (k : Int) (hk : (Lit.int .i64 k).wf = true) (i : Nat) (x : Fr) (hx : p.L[i]? = some x) (hu : x.used = true) (hxk : x.key = k) :
    Calls Try.prog 19 #[.pointer (some ⟨pb, 0, none⟩), .int .i64 k] w fun e w' => e = .returned (.tuple #[.int .i64 (i : Nat), .bool true]) ∧ w' = w := by
  obtain ⟨W, hM, hW⟩ := h.map
  refine (find_any pb lb mb m p w h W _ hM k hk).mono ?_
  rintro e w' ⟨rfl, rfl⟩
  rw [(hW k i).2 ⟨x, hx, hu, hxk⟩]
  exact ⟨rfl, rfl⟩
theorem find_no (pb lb mb m : Nat) (p : Pl) (w : World) (h : PBox w pb lb mb m p) (k : Int) (hk : (Lit.int .i64 k).wf = true) (hkey : ∀ x ∈ p.L, x.used = true → x.key ≠ k) :
    Calls Try.prog 19 #[.pointer (some ⟨pb, 0, none⟩), .int .i64 k] w fun e w' => e = .returned (.tuple #[.int .i64 0, .bool false]) ∧ w' = w := by
  obtain ⟨W, hM, hW⟩ := h.map
  refine (find_any pb lb mb m p w h W _ hM k hk).mono ?_
  rintro e w' ⟨rfl, rfl⟩
  rw [hW.none_of k hkey]
  exact ⟨rfl, rfl⟩
/-- the first that the hand may stop at is known -/
theorem cand_first {p : Pl} {q z : Nat} (hq : cand p q = true) (hno : ∀ r, r < q → cand p r = false) (hz : cand p z = true) (hzn : ∀ r, r < z → cand p r = false) : q = z := by
  rcases Nat.lt_trichotomy q z with h | h | h
  · rw [hzn q h] at hq; cases hq
  · exact h
  · rw [hno z h] at hz; cases hz
set_option maxRecDepth 100000 in
set_option maxHeartbeats 4000000 in
theorem known_any (w : World) : Calls Try.prog 7 #[] w fun e w' => e = .returned (.bool true) ∧ Frm (fun _ => False) w w' := by
  have HN := Lib.hid (new_ok 2 (by omega) w)
  go_enter Try.func7, Try.ntmps7
  go_wp2_with fail
  refine HN.out.mono ?_
  rintro e w1 ⟨pb, lb, mb, k1, k2, k3, rfl, hP1, hF1⟩
  have HF1 := Lib.hid hF1
  have HT1 := Lib.hid (take_next pb lb mb 0 (by omega) _ w1 hP1 7 (by decide) (by simp [newP, Fr.zero]) 0 (by simp [newP]) (fun a ha => absurd ha (Nat.not_lt_zero _)) (by simp [newP, Fr.zero]))
  clear HN hP1 hF1
  go_wp2_with fail
  refine HT1.out.mono ?_
  rintro e w2 ⟨rfl, hP2, hF2⟩
  have hP2 : PBox w2 pb lb mb 1 ⟨[⟨7, true, true, false, 0⟩, ⟨0, false, false, false, 0⟩], 0, 0⟩ := hP2
  have HF2 := Lib.hid hF2
  have HT2 := Lib.hid (take_next pb lb mb 1 (by omega) _ w2 hP2 8 (by decide) (by simp) 1 (by simp) (fun a ha => by obtain rfl : a = 0 := by omega
                                                                                                                    rfl) rfl)
  clear HT1 hP2 hF2
  go_wp2_with fail
  refine HT2.out.mono ?_
  rintro e w3 ⟨rfl, hP3, hF3⟩
  have hP3 : PBox w3 pb lb mb 2 ⟨[⟨7, true, true, false, 0⟩, ⟨8, true, true, false, 0⟩], 0, 1⟩ := hP3
  have HF3 := Lib.hid hF3
  have HT3 := Lib.hid (take_full pb lb mb 2 (by omega) _ w3 hP3 9 (by decide) (by simp) (by simp))
  clear HT2 hP3 hF3
  go_wp2_with fail
  refine HT3.out.mono ?_
  rintro e w4 ⟨hc, hF4⟩
  have hz2 : cand ⟨[⟨7, true, true, false, 0⟩, ⟨8, true, true, false, 0⟩], 0, 1⟩ 2 = true := by decide
  have hzn : ∀ r, r < 2 → cand ⟨[⟨7, true, true, false, 0⟩, ⟨8, true, true, false, 0⟩], 0, 1⟩ r = false := by decide
  obtain ⟨q, x, hq, hcd, hno, hx, rfl, hP4⟩ | ⟨hall, _, _⟩ := hc
  case inr => exfalso; rw [hall 2 (by decide)] at hz2; cases hz2
  obtain rfl := cand_first hcd hno hz2 hzn
  have hx : some (⟨7, true, true, false, 0⟩ : Fr) = some x := hx
  injection hx with hx
  subst hx
  have HA := Lib.hid (hand_any pb lb mb _ _ _ (hP4.next ((Frm.refl (fun _ => False) w4).alloc (.cells #[.int .i64 7, .bool true, .bool false, .bool false, .int .i64 0] 38))))
  have HF4 := Lib.hid ((((HF1.out.mono (fun j _ e => e.elim)).trans (HF2.out)).trans (HF3.out)).trans hF4 : Frm (Own pb lb mb) w w4)
  clear hF4 HT3 hcd hno hz2 hzn hP4
  have e1 : (((({ L := [⟨7, true, true, false, 0⟩, ⟨8, true, true, false, 0⟩], hand := 0, low := 1 } : Pl).hand + 2) % ({ L := [⟨7, true, true, false, 0⟩, ⟨8, true, true, false, 0⟩], hand := 0, low := 1 } : Pl).L.length : Nat) : Int) = 0 := rfl
  have e2 : frV (clr ⟨7, true, true, false, 0⟩) = .agg #[.int .i64 7, .bool true, .bool false, .bool false, .int .i64 0] := rfl
  rw [e1, e2]
  go_wp2_with fail
  refine HA.out.mono ?_
  rintro e w5 ⟨rfl, rfl⟩
  have e3 : ((((0 + 2 + 1) % [(⟨7, true, true, false, 0⟩ : Fr), ⟨8, true, true, false, 0⟩].length : Nat) : Int)) = 1 := rfl
  rw [e3]
  go_wp2
  go_ret
  exact ⟨rfl, (HF4.out.alloc _).mono (fun j hj e => by rcases e with e | e | e <;> omega)⟩
end Go.Proofs.Ytdbaidkepngjcaa
