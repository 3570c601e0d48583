/- The pool of frames: a frame given another key. Conditions: none of its own. -/
import Derived.Test.YtdbaidkepngjcaaFrd
namespace Go.Proofs.Ytdbaidkepngjcaa
open Go.ChangeShapes Go.WideShapes Go.ChangeAt Go.RowKit Go.Maps
set_option linter.unusedSimpArgs false
set_option linter.unusedVariables false
theorem Wok.fresh {L : List Fr} {W : Int → Option Nat} (h : Wok L W) (i : Nat) (hi : i < L.length) (x' : Fr) (hu : L[i].used = false) (hu' : x'.used = true) (hn : W x'.key = none) : Wok (L.set i x') (mset W x'.key (some i)) := by
  intro k j
  unfold mset
  by_cases hk : k = x'.key
  · subst hk
    rw [if_pos rfl]
    constructor
    · intro e
      injection e with e
      subst e
      exact ⟨x', by rw [List.getElem?_set, if_pos rfl, if_pos hi], hu', rfl⟩
    · rintro ⟨x, hx, h1, h2⟩
      rw [List.getElem?_set] at hx
      by_cases e : i = j
      · rw [e]
      · rw [if_neg e] at hx
        have := (h x'.key j).2 ⟨x, hx, h1, h2⟩
        rw [hn] at this
        cases this
  · rw [if_neg hk, h k j, List.getElem?_set]
    by_cases e : i = j
    · subst e
      rw [if_pos rfl, if_pos hi]
      constructor
      · rintro ⟨x, hx, h1, h2⟩
        rw [List.getElem?_eq_getElem hi] at hx
        injection hx with hx
        subst hx
        rw [hu] at h1
        cases h1
      · rintro ⟨x, hx, h1, h2⟩
        injection hx with hx
        subst hx
        exact absurd h2.symm hk
    · rw [if_neg e]
/-- a frame that is used no more, as far as the map tells -/
theorem Wok.gone {L : List Fr} {W : Int → Option Nat} (h : Wok L W) (i : Nat) (hi : i < L.length) (x' : Fr) (hu : L[i].used = true) (hu' : x'.used = false) : Wok (L.set i x') (mset W L[i].key none) := by
  have hW : W L[i].key = some i := (h _ _).2 ⟨L[i], List.getElem?_eq_getElem hi, hu, rfl⟩
  intro k j
  unfold mset
  by_cases hk : k = L[i].key
  · rw [if_pos hk]
    constructor
    · intro e; cases e
    · rintro ⟨x, hx, h1, h2⟩
      rw [List.getElem?_set] at hx
      by_cases e : i = j
      · subst e
        rw [if_pos rfl, if_pos hi] at hx
        injection hx with hx
        subst hx
        rw [hu'] at h1
        cases h1
      · rw [if_neg e] at hx
        have := (h k j).2 ⟨x, hx, h1, h2⟩
        rw [hk, hW] at this
        injection this with this
        exact absurd this e
  · rw [if_neg hk, h k j, List.getElem?_set]
    by_cases e : i = j
    · subst e
      rw [if_pos rfl, if_pos hi]
      constructor
      · rintro ⟨x, hx, h1, h2⟩
        rw [List.getElem?_eq_getElem hi] at hx
        injection hx with hx
        subst hx
        exact absurd h2.symm hk
      · rintro ⟨x, hx, h1, h2⟩
        injection hx with hx
        subst hx
        rw [hu'] at h1
        cases h1
    · rw [if_neg e]
theorem usedN_put : ∀ (L : List Fr) (i : Nat) (hi : i < L.length) (x' : Fr), usedN (L.set i x') + (if L[i].used then 1 else 0) = usedN L + (if x'.used then 1 else 0)
  | [], i, hi, _ => by simp at hi
  | x :: r, 0, _, x' => by
    unfold usedN
    simp only [List.set_cons_zero, List.countP_cons, List.getElem_cons_zero]
    omega
  | x :: r, i + 1, hi, x' => by
    have := usedN_put r i (by simpa using hi) x'
    unfold usedN at this ⊢
    simp only [List.set_cons_succ, List.countP_cons, List.getElem_cons_succ]
    omega
theorem fcells_set5 (L : List Fr) (i : Nat) (hi : i < L.length) (x : Fr) : (((((fcells L).set (i * 5) (.int .i64 x.key)).set (i * 5 + 1) (.bool x.used)).set (i * 5 + 2) (.bool x.ref)).set (i * 5 + 3) (.bool x.dirty)).set (i * 5 + 4) (.int .i64 (x.pins : Nat)) = fcells (L.set i x) := by
  have h0 := fcells_set L i 0 hi (by omega) (.int .i64 x.key) ⟨x.key, L[i].used, L[i].ref, L[i].dirty, L[i].pins⟩ rfl
  rw [Nat.add_zero] at h0
  rw [h0]
  have h1 := fcells_set (L.set i ⟨x.key, L[i].used, L[i].ref, L[i].dirty, L[i].pins⟩) i 1 (by simpa using hi) (by omega) (.bool x.used) ⟨x.key, x.used, L[i].ref, L[i].dirty, L[i].pins⟩ (by rw [List.getElem_set_self]; rfl)
  rw [h1, List.set_set]
  have h2 := fcells_set (L.set i ⟨x.key, x.used, L[i].ref, L[i].dirty, L[i].pins⟩) i 2 (by simpa using hi) (by omega) (.bool x.ref) ⟨x.key, x.used, x.ref, L[i].dirty, L[i].pins⟩ (by rw [List.getElem_set_self]; rfl)
  rw [h2, List.set_set]
  have h3 := fcells_set (L.set i ⟨x.key, x.used, x.ref, L[i].dirty, L[i].pins⟩) i 3 (by simpa using hi) (by omega) (.bool x.dirty) ⟨x.key, x.used, x.ref, x.dirty, L[i].pins⟩ (by rw [List.getElem_set_self]; rfl)
  rw [h3, List.set_set]
  have h4 := fcells_set (L.set i ⟨x.key, x.used, x.ref, x.dirty, L[i].pins⟩) i 4 (by simpa using hi) (by omega) (.int .i64 (x.pins : Nat)) x (by rw [List.getElem_set_self]; rfl)
  rw [h4, List.set_set]
/-- five cells stored -/
def put5 (w : World) (lb i : Nat) (x : Fr) : World := ((((w.setCell ⟨lb, i * 5, none⟩ (.int .i64 x.key)).setCell ⟨lb, i * 5 + 1, none⟩ (.bool x.used)).setCell ⟨lb, i * 5 + 2, none⟩ (.bool x.ref)).setCell ⟨lb, i * 5 + 3, none⟩ (.bool x.dirty)).setCell ⟨lb, i * 5 + 4, none⟩ (.int .i64 (x.pins : Nat))
theorem PBox.put5 {w : World} {pb lb mb m : Nat} {p : Pl} (h : PBox w pb lb mb m p) (i : Nat) (hi : i < p.L.length) (x : Fr) : (put5 w lb i x).ownsRow 0 38 5 (.slice (some ⟨lb, 0, none⟩) p.L.length p.L.length) p.L.length (fcells (p.L.set i x)) ∧ Frm (fun j => j = lb) w (put5 w lb i x) := by
  have hF : ∀ (a b : World) (j : Nat) (v : Value), Frm (fun j => j = lb) a b → Frm (fun j => j = lb) a (b.setCell ⟨lb, j, none⟩ v) := fun a b j v hf => hf.setCell lb j (Or.inl rfl) v
  refine ⟨?_, hF _ _ _ _ (hF _ _ _ _ (hF _ _ _ _ (hF _ _ _ _ (hF _ _ _ _ (Frm.refl _ w)))))⟩
  have h5 := ((((h.row.stored (i * 5) (.int .i64 x.key)).1.stored (i * 5 + 1) (.bool x.used)).1.stored (i * 5 + 2) (.bool x.ref)).1.stored (i * 5 + 3) (.bool x.dirty)).1.stored (i * 5 + 4) (.int .i64 (x.pins : Nat))
  have h6 := h5.1
  rw [fcells_set5 p.L i hi x] at h6
  exact h6
end Go.Proofs.Ytdbaidkepngjcaa
