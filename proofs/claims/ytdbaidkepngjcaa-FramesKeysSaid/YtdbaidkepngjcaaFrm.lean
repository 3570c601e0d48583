/- The pool of frames: lists told by a function of the place; the states of the law FramesTouched. Plain mathematics. Conditions: none. -/
import Derived.Test.YtdbaidkepngjcaaFrl
namespace Go.Proofs.Ytdbaidkepngjcaa
open Go.ChangeShapes Go.WideShapes Go.ChangeAt Go.RowKit Go.Maps
set_option linter.unusedSimpArgs false
set_option linter.unusedVariables false
theorem wf_i64 (k : Int) : (Lit.int .i64 k).wf = true ↔ -9223372036854775808 ≤ k ∧ k ≤ 9223372036854775807 := by
  simp [Lit.wf, IntKind.min, IntKind.max, IntKind.signed, IntKind.bits]
def fl (n : Nat) (g : Nat → Fr) : List Fr := (List.range n).map g
theorem fl_length (n : Nat) (g : Nat → Fr) : (fl n g).length = n := by simp [fl]
theorem fl_get (n : Nat) (g : Nat → Fr) (j : Nat) (hj : j < n) : (fl n g)[j]? = some (g j) := by simp [fl, hj]
theorem fl_at (n : Nat) (g : Nat → Fr) (j : Nat) (hj : j < (fl n g).length) : (fl n g)[j] = g j := by simp [fl]
theorem fl_ext {L : List Fr} {n : Nat} {g : Nat → Fr} (hl : L.length = n) (h : ∀ j, j < n → L[j]? = some (g j)) : L = fl n g := by
  apply List.ext_getElem?
  intro j
  rcases Nat.lt_or_ge j n with hj | hj
  · rw [h j hj, fl_get n g j hj]
  · rw [List.getElem?_eq_none (by omega), List.getElem?_eq_none (by rw [fl_length]; omega)]
theorem fl_mem {n : Nat} {g : Nat → Fr} {x : Fr} (h : x ∈ fl n g) : ∃ j, j < n ∧ x = g j := by
  unfold fl at h
  obtain ⟨j, hj, rfl⟩ := List.mem_map.1 h
  exact ⟨j, List.mem_range.1 hj, rfl⟩
theorem fl_set (n : Nat) (g : Nat → Fr) (i : Nat) (x : Fr) (hi : i < n) : (fl n g).set i x = fl n (fun j => if j = i then x else g j) := by
  refine fl_ext (by rw [List.length_set, fl_length]) fun j hj => ?_
  rw [List.getElem?_set]
  by_cases e : i = j
  · subst e
    rw [if_pos rfl, if_pos (by rw [fl_length]; exact hi)]
    simp
  · rw [if_neg e, fl_get n g j hj, if_neg (fun h => e h.symm)]
/-- the frames behind i takes -/
def G1 (i j : Nat) : Fr := if j < i then ⟨(j : Nat), true, true, false, 0⟩ else Fr.zero
theorem G1_set (n i : Nat) (hi : i < n) : (fl n (G1 i)).set i ⟨(i : Nat), true, true, false, 0⟩ = fl n (G1 (i + 1)) := by
  rw [fl_set n (G1 i) i _ hi]
  refine fl_ext (fl_length _ _) fun j hj => ?_
  rw [fl_get _ _ j hj]
  unfold G1
  by_cases e : j = i
  · subst e
    rw [if_pos rfl, if_pos (by omega)]
  · rw [if_neg e]
    by_cases h : j < i
    · rw [if_pos h, if_pos (by omega)]
    · rw [if_neg h, if_neg (by omega)]
theorem passL_all (L : List Fr) (hh q : Nat) (j : Nat) (x : Fr) (hx : L[j]? = some x) : ∃ y, (passL L hh q)[j]? = some y ∧ ((∃ r, r < q ∧ (hh + r) % L.length = j) → y = clr x) ∧ ((¬ ∃ r, r < q ∧ (hh + r) % L.length = j) → y = x) := by
  refine ⟨_, passL_get L hh j x hx q, fun h => by rw [if_pos h], fun h => by rw [if_neg h]⟩
def tkey (keep i j : Nat) : Int := if j = 0 then 100 else if j < i ∧ j ≠ keep then (200 + j : Nat) else (j : Nat)
theorem tkey_step (keep i j : Nat) (e : i ≠ j) : tkey keep i j = tkey keep (i + 1) j := by
  unfold tkey
  by_cases e1 : j = 0
  · rw [if_pos e1, if_pos e1]
  · rw [if_neg e1, if_neg e1]
    by_cases e2 : j < i ∧ j ≠ keep
    · rw [if_pos e2, if_pos (by omega)]
    · rw [if_neg e2, if_neg (by omega)]
structure Fti (n keep i : Nat) (p : Pl) : Prop where
  len : p.L.length = n
  hand : p.hand = if 0 < keep ∧ i = keep + 1 then keep else i % n
  all : ∀ j, j < n → ∃ r, p.L[j]? = some ⟨tkey keep i j, true, r, false, 0⟩ ∧ (0 < keep → j = keep → i ≤ keep + 1 → r = true) ∧ (i ≤ j → j ≠ keep → r = false)
theorem Fti.get {n keep i : Nat} {p : Pl} (h : Fti n keep i p) {x : Fr} (hx : x ∈ p.L) : ∃ j r, j < n ∧ x = ⟨tkey keep i j, true, r, false, 0⟩ := by
  obtain ⟨j, hj, rfl⟩ := List.getElem_of_mem hx
  rw [h.len] at hj
  obtain ⟨r, hr, _⟩ := h.all j hj
  rw [List.getElem?_eq_getElem (by rw [h.len]; exact hj)] at hr
  injection hr with hr
  exact ⟨j, r, hj, hr⟩
theorem Fti.skip {n keep : Nat} {p : Pl} (h : Fti n keep keep p) (hk : 0 < keep) (hkn : keep < n) : Fti n keep (keep + 1) p := by
  refine ⟨h.len, ?_, fun j hj => ?_⟩
  · rw [h.hand, if_neg (by omega), if_pos (by omega), Nat.mod_eq_of_lt hkn]
  · obtain ⟨r, h1, h2, h3⟩ := h.all j hj
    refine ⟨r, ?_, fun a b c => h2 a b (by omega), fun a b => h3 (by omega) b⟩
    rw [h1]
    congr 2
    unfold tkey
    by_cases e : j = 0
    · rw [if_pos e, if_pos e]
    · rw [if_neg e, if_neg e]
      by_cases e2 : j < keep ∧ j ≠ keep
      · rw [if_pos e2, if_pos (by omega)]
      · rw [if_neg e2, if_neg (by omega)]
theorem fr_clr (k : Int) (r : Bool) : clr ⟨k, true, r, false, 0⟩ = ⟨k, true, false, false, 0⟩ := rfl
theorem cand_at {p : Pl} {q j : Nat} {k : Int} {r : Bool} (hj : (p.hand + q) % p.L.length = j) (hx : p.L[j]? = some ⟨k, true, r, false, 0⟩) : cand p q = (!r || decide (p.L.length ≤ q)) := by
  unfold cand
  rw [hj, hx]
  rfl
/-- which the hand stops at, when i is not the one that is kept -/
theorem Fti.first {n keep i : Nat} {p : Pl} (h : Fti n keep i p) (hi : 1 ≤ i ∧ i < n) (hk : i ≠ keep) : ∃ z, z < 2 ∧ z < n ∧ cand p z = true ∧ (∀ r, r < z → cand p r = false) ∧ (p.hand + z) % n = i ∧ (i = keep + 1 ∧ 0 < keep → z = 1) ∧ (¬ (0 < keep ∧ i = keep + 1) → z = 0) := by
  by_cases hc : 0 < keep ∧ i = keep + 1
  · refine ⟨1, by omega, by omega, ?_, ?_, ?_, fun _ => rfl, fun h => absurd hc h⟩
    · obtain ⟨r, h1, _, h3⟩ := h.all i hi.2
      rw [cand_at (j := i) (by rw [h.len, h.hand, if_pos hc, Nat.mod_eq_of_lt (by omega)]; omega) h1, h3 (Nat.le_refl _) hk]
      rfl
    · intro r hr
      obtain rfl : r = 0 := by omega
      obtain ⟨r, h1, h2, _⟩ := h.all keep (by omega)
      rw [cand_at (j := keep) (by rw [h.len, h.hand, if_pos hc, Nat.mod_eq_of_lt (by omega)]; omega) h1, h2 hc.1 rfl (by omega), h.len]
      simp; omega
    · rw [h.hand, if_pos hc, Nat.mod_eq_of_lt (by omega)]; omega
  · refine ⟨0, by omega, by omega, ?_, fun r hr => by omega, ?_, fun h => absurd ⟨h.2, h.1⟩ hc, fun _ => rfl⟩
    · obtain ⟨r, h1, _, h3⟩ := h.all i hi.2
      rw [cand_at (j := i) (by rw [h.len, h.hand, if_neg hc, Nat.add_zero, Nat.mod_eq_of_lt hi.2, Nat.mod_eq_of_lt hi.2]) h1, h3 (Nat.le_refl _) hk]
      rfl
    · rw [h.hand, if_neg hc, Nat.add_zero, Nat.mod_eq_of_lt hi.2, Nat.mod_eq_of_lt hi.2]
theorem Fti.took {n keep i : Nat} {p : Pl} (h : Fti n keep i p) (hi : 1 ≤ i ∧ i < n) (hk : i ≠ keep) (z : Nat) (hz : (p.hand + z) % n = i) (hz0 : ¬ (0 < keep ∧ i = keep + 1) → z = 0) (hz1 : 0 < keep ∧ i = keep + 1 → z = 1) (hzn : z < n) :
    Fti n keep (i + 1) { p with L := (passL p.L p.hand (z + 1)).set ((p.hand + z) % p.L.length) ⟨(200 + i : Nat), true, true, false, 0⟩, hand := (p.hand + z + 1) % p.L.length } := by
  have hpl : (passL p.L p.hand (z + 1)).length = n := by rw [passL_length]; exact h.len
  refine ⟨?_, ?_, fun j hj => ?_⟩
  · show ((passL p.L p.hand (z + 1)).set _ _).length = n
    rw [List.length_set]; exact hpl
  · show (p.hand + z + 1) % p.L.length = _
    rw [if_neg (by omega), h.len, Nat.add_mod, hz]
    exact (Nat.add_mod i 1 n ▸ by rw [Nat.mod_eq_of_lt hi.2])
  · show ∃ r, ((passL p.L p.hand (z + 1)).set ((p.hand + z) % p.L.length) _)[j]? = _ ∧ _
    rw [h.len, hz, List.getElem?_set]
    by_cases e : i = j
    · subst e
      rw [if_pos rfl, if_pos (by rw [hpl]; exact hj)]
      refine ⟨true, ?_, fun _ _ _ => rfl, fun a b => by omega⟩
      congr 2
      unfold tkey
      rw [if_neg (by omega), if_pos ⟨by omega, hk⟩]
    · rw [if_neg e]
      obtain ⟨r, h1, h2, h3⟩ := h.all j hj
      obtain ⟨y, hy, hy1, hy2⟩ := passL_all p.L p.hand (z + 1) j _ h1
      have hkey := tkey_step keep i j e
      by_cases hp : ∃ r, r < z + 1 ∧ (p.hand + r) % p.L.length = j
      · refine ⟨false, by rw [hy, hy1 hp, fr_clr, hkey], fun a b c => ?_, fun _ _ => rfl⟩
        exfalso
        obtain ⟨r', hr', hr2⟩ := hp
        rw [h.len] at hr2
        obtain rfl := hz0 (by omega)
        obtain rfl : r' = 0 := by omega
        omega
      · exact ⟨r, by rw [hy, hy2 hp, hkey], fun a b c => h2 a b (Nat.le_of_succ_le c), fun a b => h3 (Nat.le_of_succ_le a) b⟩
/-- behind the take that clears all -/
theorem Fti.start {n keep low : Nat} (hn : 2 ≤ n) : Fti n 0 1 ⟨(passL (fl n (G1 n)) 0 (n + 1)).set ((0 + n) % n) ⟨100, true, true, false, 0⟩, (0 + n + 1) % n, low⟩ := by
  have h0 : (0 + n) % n = 0 := by rw [Nat.zero_add, Nat.mod_self]
  refine ⟨?_, ?_, fun j hj => ?_⟩
  · show ((passL _ 0 (n + 1)).set _ _).length = n
    rw [List.length_set, passL_length, fl_length]
  · show (0 + n + 1) % n = _
    rw [if_neg (by omega), Nat.zero_add, Nat.add_mod_left]
  · show ∃ r, ((passL (fl n (G1 n)) 0 (n + 1)).set ((0 + n) % n) _)[j]? = _ ∧ _
    rw [h0, List.getElem?_set]
    by_cases e : 0 = j
    · subst e
      rw [if_pos rfl, if_pos (by rw [passL_length, fl_length]; exact hj)]
      exact ⟨true, rfl, fun _ _ _ => rfl, fun a b => absurd rfl b⟩
    · rw [if_neg e]
      obtain ⟨y, hy, hy1, hy2⟩ := passL_all (fl n (G1 n)) 0 (n + 1) j _ (fl_get n (G1 n) j hj)
      refine ⟨false, ?_, fun a b c => absurd a (Nat.lt_irrefl 0), fun _ _ => rfl⟩
      rw [hy, hy1 ⟨j, by omega, by rw [fl_length, Nat.zero_add, Nat.mod_eq_of_lt hj]⟩]
      unfold G1 tkey
      rw [if_pos hj, if_neg (fun h => e h.symm), if_neg (by omega), fr_clr]
theorem Fti.touch {n keep : Nat} {p : Pl} (h : Fti n 0 1 p) (hk : 0 < keep ∧ keep < n) (hkL : keep < p.L.length) : Fti n keep 1 { p with L := p.L.set keep ⟨p.L[keep].key, p.L[keep].used, true, p.L[keep].dirty || false, p.L[keep].pins⟩ } := by
  refine ⟨by show (p.L.set _ _).length = n; rw [List.length_set]; exact h.len, ?_, fun j hj => ?_⟩
  · show p.hand = _
    rw [h.hand, if_neg (by omega), if_neg (by omega)]
  · show ∃ r, (p.L.set keep _)[j]? = _ ∧ _
    obtain ⟨r, h1, h2, h3⟩ := h.all j hj
    have hkey : tkey 0 1 j = tkey keep 1 j := by
      unfold tkey
      by_cases e1 : j = 0
      · rw [if_pos e1, if_pos e1]
      · rw [if_neg e1, if_neg e1, if_neg (by omega), if_neg (by omega)]
    rw [List.getElem?_set]
    by_cases e : keep = j
    · subst e
      rw [if_pos rfl, if_pos hkL]
      rw [List.getElem?_eq_getElem hkL] at h1
      injection h1 with h1
      exact ⟨true, by rw [h1, ← hkey]; rfl, fun _ _ _ => rfl, fun _ b => absurd rfl b⟩
    · rw [if_neg e]
      refine ⟨r, by rw [h1, hkey], fun a b => absurd b (fun h => e h.symm), fun a b => ?_⟩
      exact h3 a (by omega)
end Go.Proofs.Ytdbaidkepngjcaa
