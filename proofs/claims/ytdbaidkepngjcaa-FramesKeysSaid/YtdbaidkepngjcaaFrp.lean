/- The states of the law FramesPinned. Plain mathematics. Conditions: none. -/
import Derived.Test.YtdbaidkepngjcaaFrm
namespace Go.Proofs.Ytdbaidkepngjcaa
open Go.ChangeShapes Go.WideShapes Go.ChangeAt Go.RowKit Go.Maps
set_option linter.unusedSimpArgs false
set_option linter.unusedVariables false
def pinD (bs : List Bool) (j : Nat) : Bool := bs.getD j false
def P1 (bs : List Bool) (i j : Nat) : Fr := if j < i then ⟨(j : Nat), true, true, false, if pinD bs j then 1 else 0⟩ else Fr.zero
def freeN (bs : List Bool) (i : Nat) : Nat := (List.range i).countP (fun j => !pinD bs j)
theorem freeN_le (bs : List Bool) (i : Nat) : freeN bs i ≤ i := Nat.le_trans List.countP_le_length (by simp)
theorem freeN_succ (bs : List Bool) (i : Nat) : freeN bs (i + 1) = freeN bs i + (if pinD bs i then 0 else 1) := by
  unfold freeN
  rw [List.range_succ, List.countP_append]
  cases h : pinD bs i <;> simp [h]
theorem P1_set (bs : List Bool) (n i : Nat) (hi : i < n) : (fl n (P1 bs i)).set i ⟨(i : Nat), true, true, false, if pinD bs i then 1 else 0⟩ = fl n (P1 bs (i + 1)) := by
  rw [fl_set n (P1 bs i) i _ hi]
  refine fl_ext (fl_length _ _) fun j hj => ?_
  rw [fl_get _ _ j hj]
  unfold P1
  by_cases e : j = i
  · subst e
    rw [if_pos rfl, if_pos (show j < j + 1 by omega)]
  · rw [if_neg e]
    by_cases h : j < i
    · rw [if_pos h, if_pos (show j < i + 1 by omega)]
    · rw [if_neg h, if_neg (show ¬ j < i + 1 by omega)]
structure Fpi (bs : List Bool) (n i : Nat) (p : Pl) : Prop where
  len : p.L.length = n
  all : ∀ j, j < n → ∃ x, p.L[j]? = some x ∧ x.used = true ∧ (pinD bs j = true → x.key = (j : Nat) ∧ x.pins = 1) ∧ (pinD bs j = false → x.pins = 0 ∧ (x.key = (j : Nat) ∨ ∃ r : Nat, r < i ∧ x.key = 1000 + (r : Nat)))
theorem Fpi.get {bs : List Bool} {n i : Nat} {p : Pl} (h : Fpi bs n i p) {x : Fr} (hx : x ∈ p.L) : x.used = true ∧ ((∃ j : Nat, j < n ∧ x.key = (j : Nat)) ∨ ∃ r : Nat, r < i ∧ x.key = 1000 + (r : Nat)) := by
  obtain ⟨j, hj, rfl⟩ := List.getElem_of_mem hx
  rw [h.len] at hj
  obtain ⟨x, hx, h1, h2, h3⟩ := h.all j hj
  rw [List.getElem?_eq_getElem (by rw [h.len]; exact hj)] at hx
  injection hx with hx
  subst hx
  refine ⟨h1, ?_⟩
  cases hp : pinD bs j with
  | true => exact Or.inl ⟨j, hj, (h2 hp).1⟩
  | false =>
    rcases (h3 hp).2 with h4 | h4
    · exact Or.inl ⟨j, hj, h4⟩
    · exact Or.inr h4
theorem Fpi.start (bs : List Bool) (n low : Nat) (hd : Nat) : Fpi bs n 0 ⟨fl n (P1 bs n), hd, low⟩ := by
  refine ⟨fl_length _ _, fun j hj => ⟨_, fl_get _ _ j hj, ?_, fun h => ?_, fun h => ?_⟩⟩
  · unfold P1; rw [if_pos hj]
  · unfold P1; rw [if_pos hj]; exact ⟨rfl, by show (if pinD bs j = true then 1 else 0) = 1; rw [if_pos h]⟩
  · unfold P1; rw [if_pos hj]; exact ⟨by show (if pinD bs j = true then 1 else 0) = 0; rw [h]; rfl, Or.inl rfl⟩
theorem cand_is {p : Pl} {q : Nat} (h : cand p q = true) : ∃ x, p.L[(p.hand + q) % p.L.length]? = some x ∧ x.used = true ∧ x.pins = 0 := by
  unfold cand at h
  cases hx : p.L[(p.hand + q) % p.L.length]? with
  | none => rw [hx] at h; cases h
  | some x =>
    rw [hx] at h
    simp only [Bool.and_eq_true, decide_eq_true_eq] at h
    exact ⟨x, rfl, h.1.1, h.1.2⟩
/-- where the hand comes by a place in its second round -/
theorem second_round {hd n j : Nat} (hh : hd < n) (hj : j < n) : ∃ q, n ≤ q ∧ q < 2 * n ∧ (hd + q) % n = j := by
  by_cases h : hd ≤ j
  · refine ⟨n + (j - hd), by omega, by omega, ?_⟩
    rw [show hd + (n + (j - hd)) = j + n from by omega, Nat.add_mod_right, Nat.mod_eq_of_lt hj]
  · refine ⟨n + (j + n - hd), by omega, by omega, ?_⟩
    rw [show hd + (n + (j + n - hd)) = j + n + n from by omega, Nat.add_mod_right, Nat.add_mod_right, Nat.mod_eq_of_lt hj]
theorem Fpi.some_ {bs : List Bool} {n i : Nat} {p : Pl} (h : Fpi bs n i p) (hh : p.hand < p.L.length) (hf : 0 < freeN bs n) : ∃ q, q < 2 * p.L.length ∧ cand p q = true := by
  unfold freeN at hf
  obtain ⟨j, hj, hp⟩ := List.countP_pos_iff.1 hf
  have hj := List.mem_range.1 hj
  have hp : pinD bs j = false := by simpa using hp
  rw [h.len] at hh
  obtain ⟨q, h1, h2, h3⟩ := second_round hh hj
  refine ⟨q, by rw [h.len]; exact h2, ?_⟩
  obtain ⟨x, hx, hu, _, h5⟩ := h.all j hj
  unfold cand
  rw [h.len, h3, hx]
  show (x.used && decide (x.pins = 0) && (!x.ref || decide (n ≤ q))) = true
  rw [hu, (h5 hp).1, decide_eq_true h1]
  simp
theorem Fpi.none_ {bs : List Bool} {n i : Nat} {p : Pl} (h : Fpi bs n i p) (hn : 1 ≤ n) (hf : freeN bs n = 0) (q : Nat) : cand p q = false := by
  cases hc : cand p q with
  | false => rfl
  | true =>
    exfalso
    obtain ⟨x, hx, _, hp⟩ := cand_is hc
    rw [h.len] at hx
    obtain ⟨y, hy, _, h4, _⟩ := h.all ((p.hand + q) % n) (Nat.mod_lt _ (by omega))
    rw [hx] at hy
    injection hy with hy
    subst hy
    unfold freeN at hf
    have := List.countP_eq_zero.1 hf ((p.hand + q) % n) (List.mem_range.2 (Nat.mod_lt _ (by omega)))
    rw [(h4 (by simpa using this)).2] at hp
    cases hp
theorem Fpi.took {bs : List Bool} {n i : Nat} {p : Pl} (h : Fpi bs n i p) (hn : 1 ≤ n) (q : Nat) (hc : cand p q = true) :
    Fpi bs n (i + 1) { p with L := (passL p.L p.hand (q + 1)).set ((p.hand + q) % p.L.length) ⟨1000 + (i : Nat), true, true, false, 0⟩, hand := (p.hand + q + 1) % p.L.length } := by
  have hpl : (passL p.L p.hand (q + 1)).length = n := by rw [passL_length]; exact h.len
  obtain ⟨x, hx, _, hp⟩ := cand_is hc
  refine ⟨by show ((passL p.L p.hand (q + 1)).set _ _).length = n; rw [List.length_set]; exact hpl, fun j hj => ?_⟩
  show ∃ x, ((passL p.L p.hand (q + 1)).set ((p.hand + q) % p.L.length) _)[j]? = some x ∧ _
  rw [List.getElem?_set]
  obtain ⟨z, hz, z1, z2, z3⟩ := h.all j hj
  by_cases e : (p.hand + q) % p.L.length = j
  · rw [if_pos e, if_pos (by rw [hpl, e]; exact hj)]
    refine ⟨_, rfl, rfl, fun hb => ?_, fun hb => ⟨rfl, Or.inr ⟨i, by omega, rfl⟩⟩⟩
    exfalso
    rw [e, hz] at hx
    injection hx with hx
    subst hx
    rw [(z2 hb).2] at hp
    cases hp
  · rw [if_neg e]
    obtain ⟨y, hy, hy1, hy2⟩ := passL_all p.L p.hand (q + 1) j _ hz
    have hyz : y.used = z.used ∧ y.key = z.key ∧ y.pins = z.pins := by
      by_cases hc2 : ∃ r, r < q + 1 ∧ (p.hand + r) % p.L.length = j
      · rw [hy1 hc2]
        exact ⟨(clr_facts z).1, (clr_facts z).2.1, (clr_facts z).2.2.1⟩
      · rw [hy2 hc2]
        exact ⟨rfl, rfl, rfl⟩
    refine ⟨y, hy, by rw [hyz.1]; exact z1, fun hb => by rw [hyz.2.1, hyz.2.2]; exact z2 hb, fun hb => ?_⟩
    rw [hyz.2.1, hyz.2.2]
    refine ⟨(z3 hb).1, ?_⟩
    rcases (z3 hb).2 with h4 | ⟨r, h4, h5⟩
    · exact Or.inl h4
    · exact Or.inr ⟨r, by omega, h5⟩
theorem cnt_range {f : Fr → Bool} {g : Nat → Bool} {L : List Fr} {n : Nat} (hl : L.length = n) (h : ∀ j, j < n → ∃ x, L[j]? = some x ∧ f x = g j) : L.countP f = (List.range n).countP g := by
  have e : L.map f = (List.range n).map g := by
    apply List.ext_getElem?
    intro j
    rcases Nat.lt_or_ge j n with hj | hj
    · obtain ⟨x, hx, hfx⟩ := h j hj
      rw [List.getElem?_map, hx, List.getElem?_map, List.getElem?_range hj]
      simp [hfx]
    · rw [List.getElem?_eq_none (by rw [List.length_map]; omega), List.getElem?_eq_none (by simp; omega)]
  have h1 : L.countP f = (L.map f).countP id := by rw [List.countP_map]; rfl
  have h2 : (List.range n).countP g = ((List.range n).map g).countP id := by rw [List.countP_map]; rfl
  rw [h1, h2, e]
theorem Fpi.counts {bs : List Bool} {n i : Nat} {p : Pl} (h : Fpi bs n i p) : cU p.L = n ∧ cP p.L + freeN bs n = n := by
  constructor
  · have : cU p.L = p.L.length := usedN_full (fun x hx => (h.get hx).1)
    rw [this, h.len]
  · have h1 : cP p.L = (List.range n).countP (pinD bs) := by
      refine cnt_range h.len fun j hj => ?_
      obtain ⟨x, hx, _, h2, h3⟩ := h.all j hj
      refine ⟨x, hx, ?_⟩
      cases hp : pinD bs j with
      | true => rw [(h2 hp).2]; rfl
      | false => rw [(h3 hp).1]; rfl
    rw [h1]
    unfold freeN
    have := List.length_eq_countP_add_countP (pinD bs) (l := List.range n)
    simp only [List.length_range] at this
    have hcg : (List.range n).countP (fun a => decide ¬pinD bs a = true) = (List.range n).countP (fun j => !pinD bs j) := by
      apply List.countP_congr
      intro j _
      simp
    omega
end Go.Proofs.Ytdbaidkepngjcaa
