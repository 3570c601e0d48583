/- The pool of frames: what lies where. Conditions: none. -/
import Derived.Test.YtdbaidkepngjcaaFmp
import Derived.Test.YtdbaidkepngjcaaBox
import Derived.Test.YtdbaidkepngjcaaNum
import Derived.Test.YtdbaidkepngjcaaOrm
import Derived.Deep.RegionLaw
import Derived.Deep.DeepCutAuto
import Derived.Deep.DrawnRows
import Derived.BigQuiet
import Derived.Laws.OwnMore
namespace Go.Proofs.Ytdbaidkepngjcaa
open Go.ChangeShapes Go.WideShapes Go.ChangeAt Go.RowKit Go.Maps
set_option linter.unusedSimpArgs false
set_option linter.unusedVariables false
theorem Frm.drewN {O : Nat → Prop} (w : World) (n : Nat) : Frm O w (w.drewN n) := ⟨rfl, rfl, rfl, Nat.le_refl _, fun _ _ _ => rfl⟩
theorem own_lt {w : World} {base size n : Nat} {e : TypeId} {v : Value} {xs : List Value} {g : Nat} (h : w.ownsRow base e size v n xs) (hg : v.ownBlock = some g) : g < w.heap.size := (h.lt g hg).2
theorem own_keep {w w' : World} {base size n : Nat} {e : TypeId} {v : Value} {xs : List Value} (h : w.ownsRow base e size v n xs) (hk : ∀ g, v.ownBlock = some g → w'.heap[g]? = w.heap[g]?) : w'.ownsRow base e size v n xs := by
  refine ⟨h.1, h.2.imp id ?_⟩
  rintro ⟨g, cap, cur, rfl, e2, e3, e4⟩
  exact ⟨g, cap, cur, rfl, e2, (hk g rfl).trans e3, e4⟩
structure Fr where
  key : Int
  used : Bool
  ref : Bool
  dirty : Bool
  pins : Nat
  deriving Inhabited
def Fr.zero : Fr := ⟨0, false, false, false, 0⟩
def frL (x : Fr) : List Value := [.int .i64 x.key, .bool x.used, .bool x.ref, .bool x.dirty, .int .i64 (x.pins : Nat)]
def frV (x : Fr) : Value := .agg #[.int .i64 x.key, .bool x.used, .bool x.ref, .bool x.dirty, .int .i64 (x.pins : Nat)]
def fcells (L : List Fr) : List Value := L.flatMap frL
theorem fcells_length : ∀ L : List Fr, (fcells L).length = L.length * 5
  | [] => rfl
  | x :: r => by
    show (frL x ++ fcells r).length = _
    rw [List.length_append, fcells_length r]
    simp [frL]
    omega
theorem fcells_get : ∀ (L : List Fr) (i j : Nat) (hi : i < L.length), j < 5 → (fcells L)[i * 5 + j]? = (frL L[i])[j]?
  | [], i, j, hi, _ => by simp at hi
  | x :: r, 0, j, _, hj => by
    show (frL x ++ fcells r)[0 * 5 + j]? = _
    rw [List.getElem?_append_left (by simp [frL]; omega), Nat.zero_mul, Nat.zero_add]
    rfl
  | x :: r, i + 1, j, hi, hj => by
    show (frL x ++ fcells r)[(i + 1) * 5 + j]? = _
    have hx : (frL x).length = 5 := by simp [frL]
    rw [List.getElem?_append_right (by omega), hx, show (i + 1) * 5 + j - 5 = i * 5 + j from by omega, fcells_get r i j (by simpa using hi) hj]
    rfl
theorem fcells_set (L : List Fr) (i j : Nat) (hi : i < L.length) (hj : j < 5) (v : Value) (x' : Fr) (hx : frL x' = (frL L[i]).set j v) : (fcells L).set (i * 5 + j) v = fcells (L.set i x') := by
  apply List.ext_getElem?
  intro p
  obtain ⟨a, b, hb, rfl⟩ : ∃ a b, b < 5 ∧ p = a * 5 + b := ⟨p / 5, p % 5, Nat.mod_lt _ (by omega), by omega⟩
  rcases Nat.lt_or_ge a L.length with ha | ha
  · rw [fcells_get (L.set i x') a b (by simpa using ha) hb, List.getElem?_set]
    by_cases e : i * 5 + j = a * 5 + b
    · have h1 : i = a := by omega
      have h2 : j = b := by omega
      subst h1 h2
      rw [if_pos rfl, if_pos (by rw [fcells_length]; omega)]
      simp only [List.getElem_set_self]
      rw [hx, List.getElem?_set, if_pos rfl, if_pos (by simp [frL]; omega)]
    · rw [if_neg e, fcells_get L a b ha hb]
      by_cases h1 : i = a
      · subst h1
        simp only [List.getElem_set_self]
        rw [hx, List.getElem?_set, if_neg (by omega)]
      · rw [List.getElem_set_ne h1]
  · rw [List.getElem?_eq_none (by rw [List.length_set, fcells_length]; omega), List.getElem?_eq_none (by rw [fcells_length, List.length_set]; omega)]
structure Pl where
  L : List Fr
  hand : Nat
  low : Nat
/-- which frame has which key -/
def Wok (L : List Fr) (W : Int → Option Nat) : Prop := ∀ (k : Int) (i : Nat), W k = some i ↔ ∃ x, L[i]? = some x ∧ x.used = true ∧ x.key = k
def usedN (L : List Fr) : Nat := L.countP (·.used)
structure PShape (p : Pl) : Prop where
  n : 1 ≤ p.L.length ∧ p.L.length ≤ 4096
  hand : p.hand < p.L.length
  low : p.low ≤ p.L.length ∧ ∀ i, i < p.low → ∃ x, p.L[i]? = some x ∧ x.used = true
  num : ∀ x ∈ p.L, (Lit.int .i64 x.key).wf = true ∧ x.pins ≤ 1048576
structure PBox (w : World) (pb lb mb m : Nat) (p : Pl) : Prop where
  cells : w.heap[pb]? = some (.cells #[.slice (some ⟨lb, 0, none⟩) p.L.length p.L.length, .map (some mb), .int .i64 (p.hand : Nat), .int .i64 (p.low : Nat)] 55 (0, 0))
  row : w.ownsRow 0 38 5 (.slice (some ⟨lb, 0, none⟩) p.L.length p.L.length) p.L.length (fcells p.L)
  map : ∃ W, MBox w mb m W (usedN p.L) ∧ Wok p.L W
  ne : pb ≠ lb ∧ pb ≠ mb ∧ lb ≠ mb
  ok : PShape p
def Own (pb lb mb : Nat) : Nat → Prop := fun j => j = pb ∨ j = lb ∨ j = mb
theorem PBox.lt {w : World} {pb lb mb m : Nat} {p : Pl} (h : PBox w pb lb mb m p) : pb < w.heap.size ∧ lb < w.heap.size ∧ mb < w.heap.size := by
  refine ⟨?_, own_lt h.row rfl, h.map.choose_spec.1.lt⟩
  rcases Nat.lt_or_ge pb w.heap.size with h5 | h5
  · exact h5
  · have := h.cells; rw [Array.getElem?_eq_none h5] at this; cases this
theorem PBox.next {w w' : World} {pb lb mb m : Nat} {p : Pl} (h : PBox w pb lb mb m p) (hf : Frm (fun _ => False) w w') : PBox w' pb lb mb m p := by
  obtain ⟨l1, l2, l3⟩ := h.lt
  obtain ⟨W, hM, hW⟩ := h.map
  exact ⟨(hf.block pb l1 id).trans h.cells, own_keep h.row (fun g hg => by injection hg with hg; subst hg; exact hf.block _ l2 id), ⟨W, hM.keep (hf.block mb l3 id), hW⟩, h.ne, h.ok⟩
theorem PBox.at {w : World} {pb lb mb m : Nat} {p : Pl} (h : PBox w pb lb mb m p) : w.cell? ⟨pb, 0, none⟩ = some (.slice (some ⟨lb, 0, none⟩) p.L.length p.L.length) ∧ w.cell? ⟨pb, 1, none⟩ = some (.map (some mb)) ∧ w.cell? ⟨pb, 2, none⟩ = some (.int .i64 (p.hand : Nat)) ∧ w.cell? ⟨pb, 3, none⟩ = some (.int .i64 (p.low : Nat)) ∧ ∀ i, w.frozen? ⟨pb, i, none⟩ = false :=
  ⟨cell_of_row w pb 0 _ _ _ h.cells, cell_of_row w pb 1 _ _ _ h.cells, cell_of_row w pb 2 _ _ _ h.cells, cell_of_row w pb 3 _ _ _ h.cells, fun i => frozen_of_row w pb i _ _ h.cells⟩
theorem PBox.fr {w : World} {pb lb mb m : Nat} {p : Pl} (h : PBox w pb lb mb m p) {i : Nat} (hi : i < p.L.length) : w.cell? ⟨lb, i * 5, none⟩ = some (.int .i64 p.L[i].key) ∧ w.cell? ⟨lb, i * 5 + 1, none⟩ = some (.bool p.L[i].used) ∧ w.cell? ⟨lb, i * 5 + 2, none⟩ = some (.bool p.L[i].ref) ∧ w.cell? ⟨lb, i * 5 + 3, none⟩ = some (.bool p.L[i].dirty) ∧ w.cell? ⟨lb, i * 5 + 4, none⟩ = some (.int .i64 (p.L[i].pins : Nat)) := by
  have hx := h.row.1
  refine ⟨?_, ?_, ?_, ?_, ?_⟩
  · have := h.row.cellAt (i * 5 + 0) (by omega)
    exact this.trans (fcells_get p.L i 0 hi (by omega))
  · exact (h.row.cellAt (i * 5 + 1) (by omega)).trans (fcells_get p.L i 1 hi (by omega))
  · exact (h.row.cellAt (i * 5 + 2) (by omega)).trans (fcells_get p.L i 2 hi (by omega))
  · exact (h.row.cellAt (i * 5 + 3) (by omega)).trans (fcells_get p.L i 3 hi (by omega))
  · exact (h.row.cellAt (i * 5 + 4) (by omega)).trans (fcells_get p.L i 4 hi (by omega))
theorem PBox.frozen {w : World} {pb lb mb m : Nat} {p : Pl} (h : PBox w pb lb mb m p) (j : Nat) : w.frozen? ⟨lb, j, none⟩ = false := h.row.frozenAt j
theorem Wok.set {L : List Fr} {W : Int → Option Nat} (h : Wok L W) (i : Nat) (hi : i < L.length) (x' : Fr) (hu : x'.used = L[i].used) (hk : x'.key = L[i].key) : Wok (L.set i x') W := by
  intro k j
  rw [h k j, List.getElem?_set]
  by_cases e : i = j
  · subst e
    rw [if_pos rfl, if_pos hi, List.getElem?_eq_getElem hi]
    constructor
    · rintro ⟨x, hx, h1, h2⟩
      injection hx with hx
      subst hx
      exact ⟨x', rfl, by rw [hu]; exact h1, by rw [hk]; exact h2⟩
    · rintro ⟨x, hx, h1, h2⟩
      injection hx with hx
      subst hx
      exact ⟨L[i], rfl, by rw [← hu]; exact h1, by rw [← hk]; exact h2⟩
  · rw [if_neg e]
theorem usedN_set : ∀ (L : List Fr) (i : Nat) (hi : i < L.length) (x' : Fr), x'.used = L[i].used → usedN (L.set i x') = usedN L
  | [], i, hi, _, _ => by simp at hi
  | x :: r, 0, _, x', h => by
    unfold usedN
    simp only [List.set_cons_zero, List.countP_cons]
    have h' : x'.used = x.used := h
    rw [h']
  | x :: r, i + 1, hi, x', h => by
    unfold usedN
    simp only [List.set_cons_succ, List.countP_cons]
    have := usedN_set r i (by simpa using hi) x' h
    unfold usedN at this
    rw [this]
/-- one cell of a frame has turned -/
theorem PBox.touch {w : World} {pb lb mb m : Nat} {p : Pl} (h : PBox w pb lb mb m p) (i j : Nat) (hi : i < p.L.length) (hj : j < 5) (v : Value) (x' : Fr) (hx : frL x' = (frL p.L[i]).set j v) (hu : x'.used = p.L[i].used) (hk : x'.key = p.L[i].key) (hp : x'.pins ≤ 1048576) :
    PBox (w.setCell ⟨lb, i * 5 + j, none⟩ v) pb lb mb m { p with L := p.L.set i x' } ∧ Frm (fun j => j = lb) w (w.setCell ⟨lb, i * 5 + j, none⟩ v) := by
  have hF : Frm (fun j => j = lb) w (w.setCell ⟨lb, i * 5 + j, none⟩ v) := (Frm.refl (fun j => j = lb) w).setCell lb (i * 5 + j) (Or.inl rfl) v
  obtain ⟨n1, n2, n3⟩ := h.ne
  obtain ⟨l1, l2, l3⟩ := h.lt
  obtain ⟨W, hM, hW⟩ := h.map
  have hst := (h.row.stored (i * 5 + j) v).1
  rw [fcells_set p.L i j hi hj v x' hx] at hst
  refine ⟨⟨?_, ?_, ⟨W, ?_, hW.set i hi x' hu hk⟩, h.ne, ⟨?_, ?_, ?_, ?_⟩⟩, hF⟩
  · have := (hF.block pb l1 n1).trans h.cells
    simp only [List.length_set]
    exact this
  · show (w.setCell ⟨lb, i * 5 + j, none⟩ v).ownsRow 0 _ 5 (.slice (some ⟨lb, 0, none⟩) (p.L.set i x').length (p.L.set i x').length) (p.L.set i x').length (fcells (p.L.set i x'))
    rw [List.length_set]
    exact hst
  · show MBox _ mb m W (usedN (p.L.set i x'))
    rw [usedN_set p.L i hi x' hu]
    exact hM.keep (hF.block mb l3 (fun e => n3 e.symm))
  · show 1 ≤ (p.L.set i x').length ∧ (p.L.set i x').length ≤ 4096
    rw [List.length_set]; exact h.ok.n
  · show p.hand < (p.L.set i x').length
    rw [List.length_set]; exact h.ok.hand
  · refine ⟨by show p.low ≤ (p.L.set i x').length; rw [List.length_set]; exact h.ok.low.1, fun a ha => ?_⟩
    obtain ⟨x, hx1, hx2⟩ := h.ok.low.2 a ha
    show ∃ x, (p.L.set i x')[a]? = some x ∧ _
    rw [List.getElem?_set]
    by_cases e : i = a
    · subst e
      rw [List.getElem?_eq_getElem hi] at hx1
      injection hx1 with hx1
      subst hx1
      exact ⟨x', by rw [if_pos rfl, if_pos hi], by rw [hu]; exact hx2⟩
    · exact ⟨x, by rw [if_neg e]; exact hx1, hx2⟩
  · intro x hxm
    rcases List.mem_or_eq_of_mem_set hxm with h6 | h6
    · exact h.ok.num x h6
    · subst h6
      exact ⟨by rw [hk]; exact (h.ok.num _ (List.getElem_mem hi)).1, hp⟩
end Go.Proofs.Ytdbaidkepngjcaa
