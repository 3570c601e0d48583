/- The document's pool of frames: the hand goes round. Conditions: none. -/
import Derived.Test.YtdbaidkepngjcaaFrs
import Derived.WalkMore
namespace Go.Proofs.Ytdbaidkepngjcaa
open Go.ChangeShapes Go.WideShapes Go.ChangeAt Go.RowKit Go.Maps
set_option linter.unusedSimpArgs false
set_option linter.unusedVariables false
/-- is there a frame that may be given up? -/
def freeF (x : Fr) : Bool := x.used && decide (x.pins = 0)
def anyF (L : List Fr) (q : Nat) : Bool := (L.take q).any freeF
theorem anyF_succ (L : List Fr) (q : Nat) (hq : q < L.length) : anyF L (q + 1) = (anyF L q || freeF L[q]) := by
  unfold anyF
  rw [List.take_succ_eq_append_getElem hq, List.any_append]
  simp
theorem anyF_none {L : List Fr} (h : anyF L L.length = false) (hd low : Nat) (q : Nat) : cand ⟨L, hd, low⟩ q = false := by
  cases hc : cand ⟨L, hd, low⟩ q with
  | false => rfl
  | true =>
    exfalso
    obtain ⟨x, hx, hu, hp⟩ := cand_is hc
    unfold anyF at h
    rw [List.take_length, List.any_eq_false] at h
    exact h x (List.mem_of_getElem? hx) (by unfold freeF; rw [hu, hp]; rfl)
theorem anyF_some {L : List Fr} (h : anyF L L.length = true) (hd low : Nat) (hh : hd < L.length) : ∃ q, q < 2 * L.length ∧ cand ⟨L, hd, low⟩ q = true := by
  unfold anyF at h
  rw [List.take_length, List.any_eq_true] at h
  obtain ⟨x, hx, hf⟩ := h
  obtain ⟨j, hj, rfl⟩ := List.getElem_of_mem hx
  obtain ⟨q, h1, h2, h3⟩ := second_round hh hj
  refine ⟨q, h2, ?_⟩
  unfold cand
  show (match L[(hd + q) % L.length]? with | none => false | some x => x.used && decide (x.pins = 0) && (!x.ref || decide (L.length ≤ q))) = true
  rw [h3, List.getElem?_eq_getElem hj]
  show (L[j].used && decide (L[j].pins = 0) && (!L[j].ref || decide (L.length ≤ q))) = true
  unfold freeF at hf
  rw [hf, decide_eq_true h1]
  simp
/-- the first -/
theorem first_cand {p : Pl} : ∀ (k : Nat), (∃ q, q < k ∧ cand p q = true) → ∃ z, z < k ∧ cand p z = true ∧ ∀ r, r < z → cand p r = false
  | 0, ⟨q, h, _⟩ => by omega
  | k + 1, ⟨q, h1, h2⟩ => by
    by_cases h : ∃ q, q < k ∧ cand p q = true
    · obtain ⟨z, z1, z2, z3⟩ := first_cand k h
      exact ⟨z, by omega, z2, z3⟩
    · refine ⟨q, h1, h2, fun r hr => ?_⟩
      cases hc : cand p r with
      | false => rfl
      | true => exact absurd ⟨r, by omega, hc⟩ h
/-- what the hand finds where it stands, behind q others -/
theorem hand_at {L : List Fr} {hd low q : Nat} (hl : 1 ≤ L.length) (x : Fr) (hx : L[(hd + q) % L.length]? = some x) : ∃ y, (passL L hd q)[(hd + q) % L.length]? = some y ∧ y.used = x.used ∧ y.pins = x.pins ∧ y.key = x.key ∧ y.dirty = x.dirty ∧ (cand ⟨L, hd, low⟩ q = (x.used && decide (x.pins = 0) && !y.ref)) := by
  have hg := passL_get L hd ((hd + q) % L.length) x hx q
  have hc : cand ⟨L, hd, low⟩ q = (x.used && decide (x.pins = 0) && (!x.ref || decide (L.length ≤ q))) := by
    unfold cand
    show (match L[(hd + q) % L.length]? with | none => false | some x => x.used && decide (x.pins = 0) && (!x.ref || decide (L.length ≤ q))) = _
    rw [hx]
  by_cases h : ∃ r, r < q ∧ (hd + r) % L.length = (hd + q) % L.length
  · rw [if_pos h] at hg
    refine ⟨clr x, hg, (clr_facts x).1, (clr_facts x).2.2.1, (clr_facts x).2.1, (clr_facts x).2.2.2, ?_⟩
    have hq : L.length ≤ q := by
      obtain ⟨r, h1, h2⟩ := h
      rcases Nat.lt_or_ge q L.length with h3 | h3
      · exfalso
        have e1 : (hd + r) % L.length = (hd % L.length + r) % L.length := by simp [Nat.add_mod]
        have e2 : (hd + q) % L.length = (hd % L.length + q) % L.length := by simp [Nat.add_mod]
        rw [e1, e2] at h2
        have hh := Nat.mod_lt hd (show 0 < L.length by omega)
        generalize hd % L.length = t at *
        have f : ∀ s, s < L.length → (t + s) % L.length = if t + s < L.length then t + s else t + s - L.length := by
          intro s hs
          split
          · exact Nat.mod_eq_of_lt ‹_›
          · rw [Nat.mod_eq_sub_mod (by omega), Nat.mod_eq_of_lt (by omega)]
        rw [f r (by omega), f q h3] at h2
        split at h2 <;> split at h2 <;> omega
      · exact h3
    rw [hc, decide_eq_true hq]
    unfold clr
    cases hu : (x.used && decide (x.pins = 0)) <;> simp
  · rw [if_neg h] at hg
    refine ⟨x, hg, rfl, rfl, rfl, rfl, ?_⟩
    rw [hc]
    have hq : ¬ L.length ≤ q := by
      intro h3
      exact h ⟨q - L.length, by omega, by
        have : hd + q = hd + (q - L.length) + L.length := by omega
        rw [this, Nat.add_mod_right]⟩
    rw [decide_eq_false hq]
    simp
theorem pass_skip {L : List Fr} {hd q : Nat} (y : Fr) (hy : (passL L hd q)[(hd + q) % L.length]? = some y) (h : freeF y = false ∨ y.ref = false) : passL L hd (q + 1) = passL L hd q := by
  show (passL L hd q).set ((hd + q) % L.length) (clr ((passL L hd q).getD ((hd + q) % L.length) Fr.zero)) = _
  rw [List.getD_eq_getElem?_getD, hy]
  show (passL L hd q).set _ (clr y) = _
  have : clr y = y := by
    unfold clr
    rcases h with h | h
    · unfold freeF at h
      rw [h]; rfl
    · obtain ⟨a, b, r, d, e⟩ := y
      dsimp only at h
      subst h
      split <;> rfl
  rw [this]
  have hi := (List.getElem?_eq_some_iff.1 hy).1
  have hg : (passL L hd q)[(hd + q) % L.length] = y := by
    rw [List.getElem?_eq_getElem hi] at hy
    injection hy
  rw [← hg]
  exact List.set_getElem_self hi
theorem pass_clr {L : List Fr} {hd q : Nat} (y : Fr) (hy : (passL L hd q)[(hd + q) % L.length]? = some y) (h : freeF y = true) : passL L hd (q + 1) = (passL L hd q).set ((hd + q) % L.length) ⟨y.key, y.used, false, y.dirty, y.pins⟩ := by
  show (passL L hd q).set ((hd + q) % L.length) (clr ((passL L hd q).getD ((hd + q) % L.length) Fr.zero)) = _
  rw [List.getD_eq_getElem?_getD, hy]
  show (passL L hd q).set _ (clr y) = _
  unfold clr
  unfold freeF at h
  rw [h]; rfl
end Go.Proofs.Ytdbaidkepngjcaa
