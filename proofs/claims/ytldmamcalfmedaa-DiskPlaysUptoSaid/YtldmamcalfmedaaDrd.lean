/- The document's disk: what lies where; Of. Conditions: none. -/
import Derived.Test.YtldmamcalfmedaaDso
namespace Go.Proofs.Ytldmamcalfmedaa
open Go.ChangeShapes Go.WideShapes Go.ChangeAt Go.RowKit Go.Maps
set_option linter.unusedSimpArgs false
set_option linter.unusedVariables false
def Own3 (rb rk rl : Nat) : Nat → Prop := fun j => j = rb ∨ j = rk ∨ j = rl
def Own3X (A : Nat → Prop) (rb rk rl : Nat) : Nat → Prop := fun j => Own3 rb rk rl j ∨ A j
def rcells (d : Dk) (keepV lv : Value) (rk bc : Nat) : Array Value :=
  #[.int .i64 (d.n : Nat), .int .i64 (d.size : Nat), .slice (some ⟨rk, 0, none⟩) d.kept.length bc, lv, .bool d.off, .int .i64 (if d.armed then d.left else 0), keepV, .int .i64 d.writes, .int .i64 d.reads]
def PRowR (w : World) (M : Nat → Prop) (pb : Nat) (pv : Value) (pend : List (Nat × List UInt8)) : Prop :=
  ∃ xs, w.ownsRow 0 78 2 pv pend.length xs ∧ (∀ g, pv.ownBlock = some g → g = pb) ∧ ∀ (i : Nat) (p : Nat × List UInt8), pend[i]? = some p → xs[2 * i]? = some (.int .i64 (p.1 : Nat)) ∧ ∃ v, xs[2 * i + 1]? = some v ∧ RdX M w v (bv p.2)
structure RBox (w : World) (rb rk rl : Nat) (d : Dk) : Prop where
  cells : ∃ keepV lv bc, w.heap[rb]? = some (.cells (rcells d keepV lv rk bc) 48 (0, 0)) ∧ RdX (Own3X d.away rb rk rl) w keepV (boolV d.keep) ∧ w.ownsRow 0 5 1 (.slice (some ⟨rk, 0, none⟩) d.kept.length bc) d.kept.length (bv d.kept) ∧ PRowR w (Own3X d.away rb rk rl) rl lv d.pend ∧ (d.pend = [] → lv = .slice none 0 0)
  ne : rb ≠ rk ∧ (d.pend ≠ [] → rl ≠ rb ∧ rl ≠ rk)
  ok : DShape d
  small : rl < w.heap.size
  away : ∀ j, d.away j → j < w.heap.size
theorem RBox.lt {w : World} {rb rk rl : Nat} {d : Dk} (h : RBox w rb rk rl d) : rb < w.heap.size ∧ rk < w.heap.size := by
  obtain ⟨keepV, lv, bc, h1, h2, h3, h4⟩ := h.cells
  refine ⟨?_, own_lt h3 rfl⟩
  rcases Nat.lt_or_ge rb w.heap.size with h5 | h5
  · exact h5
  · rw [Array.getElem?_eq_none h5] at h1; cases h1
theorem PRowR.frm {w w' : World} {M O : Nat → Prop} {pb : Nat} {pv : Value} {pend : List (Nat × List UInt8)} (h : PRowR w M pb pv pend) (hf : Frm O w w') (hO : ∀ j, O j → M j) (hp : ¬ O pb) : PRowR w' M pb pv pend := by
  obtain ⟨xs, h1, h2, h3⟩ := h
  refine ⟨xs, own_keep h1 (fun g hg => hf.block g (own_lt h1 hg) (by rw [h2 g hg]; exact hp)), h2, fun i p hi => ?_⟩
  obtain ⟨e1, v, e2, e3⟩ := h3 i p hi
  exact ⟨e1, v, e2, e3.frm hf hO⟩
/-- the disk's own cells alone have turned, and no row of it -/
theorem RBox.turn {w w' : World} {rb rk rl : Nat} {d d' : Dk} (h : RBox w rb rk rl d) (hf : Frm (fun j => j = rb) w w')
    (hc : ∀ keepV lv bc, w.heap[rb]? = some (.cells (rcells d keepV lv rk bc) 48 (0, 0)) → w'.heap[rb]? = some (.cells (rcells d' keepV lv rk bc) 48 (0, 0)))
    (e1 : d'.keep = d.keep) (e2 : d'.kept = d.kept) (e3 : d'.pend = d.pend) (e4 : d'.n = d.n) (e5 : d'.size = d.size) (e6 : d'.away = d.away := by rfl) : RBox w' rb rk rl d' := by
  obtain ⟨keepV, lv, bc, h1, h2, h3, h4, h5⟩ := h.cells
  obtain ⟨n1, n4⟩ := h.ne
  refine ⟨⟨keepV, lv, bc, hc _ _ _ h1, by rw [e1, e6]; exact h2.frm hf (fun j hj => Or.inl (Or.inl hj)), ?_, ?_, by rw [e3]; exact h5⟩, by rw [e3]; exact h.ne, ⟨by rw [e4]; exact h.ok.n, by rw [e5]; exact h.ok.size, by rw [e2, e4, e5]; exact h.ok.kept, by rw [e3, e4, e5]; exact h.ok.pend⟩, Nat.lt_of_lt_of_le h.small hf.size, by rw [e6]; exact fun j hj => Nat.lt_of_lt_of_le (h.away j hj) hf.size⟩
  · rw [e2]
    exact own_keep h3 (fun g hg => by injection hg with hg; subst hg; exact hf.block _ h.lt.2 (fun x => n1 x.symm))
  · rw [e3, e6]
    by_cases hp : d.pend = []
    · have := h5 hp
      subst this
      rw [hp] at h4 ⊢
      obtain ⟨xs, a1, a2, a3⟩ := h4
      exact ⟨xs, own_keep a1 (fun g hg => by cases hg), a2, fun i p hi => by simp at hi⟩
    · exact h4.frm hf (fun j hj => Or.inl (Or.inl hj)) (n4 hp).1
theorem RBox.next {w w' : World} {rb rk rl : Nat} {d : Dk} (h : RBox w rb rk rl d) (hf : Frm (fun _ => False) w w') : RBox w' rb rk rl d :=
  h.turn (hf.mono (fun _ _ h => h.elim)) (fun _ _ _ h1 => (hf.block rb h.lt.1 id).trans h1) rfl rfl rfl rfl rfl
theorem RBox.at {w : World} {rb rk rl : Nat} {d : Dk} (h : RBox w rb rk rl d) : ∃ keepV lv bc,
    w.heap[rb]? = some (.cells (rcells d keepV lv rk bc) 48 (0, 0)) ∧ RdX (Own3X d.away rb rk rl) w keepV (boolV d.keep) ∧ w.ownsRow 0 5 1 (.slice (some ⟨rk, 0, none⟩) d.kept.length bc) d.kept.length (bv d.kept) ∧ PRowR w (Own3X d.away rb rk rl) rl lv d.pend ∧ (d.pend = [] → lv = .slice none 0 0) ∧
    w.cell? ⟨rb, 0, none⟩ = some (.int .i64 (d.n : Nat)) ∧ w.cell? ⟨rb, 1, none⟩ = some (.int .i64 (d.size : Nat)) ∧ w.cell? ⟨rb, 2, none⟩ = some (.slice (some ⟨rk, 0, none⟩) d.kept.length bc) ∧ w.cell? ⟨rb, 3, none⟩ = some lv ∧ w.cell? ⟨rb, 4, none⟩ = some (.bool d.off) ∧ w.cell? ⟨rb, 5, none⟩ = some (.int .i64 (if d.armed then d.left else 0)) ∧ w.cell? ⟨rb, 6, none⟩ = some keepV ∧ w.cell? ⟨rb, 7, none⟩ = some (.int .i64 d.writes) ∧ w.cell? ⟨rb, 8, none⟩ = some (.int .i64 d.reads) ∧ ∀ i, w.frozen? ⟨rb, i, none⟩ = false := by
  obtain ⟨keepV, lv, bc, h1, h2, h3, h4, h5⟩ := h.cells
  exact ⟨keepV, lv, bc, h1, h2, h3, h4, h5, cell_of_row w rb 0 _ _ _ h1, cell_of_row w rb 1 _ _ _ h1, cell_of_row w rb 2 _ _ _ h1, cell_of_row w rb 3 _ _ _ h1, cell_of_row w rb 4 _ _ _ h1, cell_of_row w rb 5 _ _ _ h1, cell_of_row w rb 6 _ _ _ h1, cell_of_row w rb 7 _ _ _ h1, cell_of_row w rb 8 _ _ _ h1, fun i => frozen_of_row w rb i _ _ h1⟩
set_option maxRecDepth 100000 in
set_option maxHeartbeats 1000000 in
theorem rof_bad (v : Value) (bl : List UInt8) (B : Nat) (size : Int) (w : World) (hv : RdV w B v (bv bl)) (hL : bl.length ≤ 32768) (hbad : badOf bl.length size) :
    Calls Try.prog 27 #[v, .int .i64 size] w fun e w' => e = .returned (.tuple #[.pointer none, .int .i64 1]) ∧ w = w' := by
  obtain ⟨A, c, rfl, hc1, hc2, _⟩ := hv
  rw [bv_length] at hc1 ⊢
  obtain ⟨L, hLL⟩ : ∃ L, bl.length = L := ⟨_, rfl⟩
  rw [hLL] at hL hbad hc1 ⊢
  clear hc2 hLL
  by_cases h1 : size < 64
  · clear hbad
    go_enter Try.func27, Try.ntmps27
    go_wp2
    go_ret2
    exact ⟨rfl, rfl⟩
  by_cases h2 : 4096 < size
  · clear hbad
    go_enter Try.func27, Try.ntmps27
    go_wp2
    go_ret2
    exact ⟨rfl, rfl⟩
  by_cases hm : (L : Int) % size = 0
  · have h0 : L = 0 := by
      rcases hbad with h | h | h | h
      · omega
      · omega
      · exact absurd hm h
      · exact h
    subst h0
    clear hbad hm
    go_enter Try.func27, Try.ntmps27
    go_wp2
    go_ret2
    exact ⟨rfl, rfl⟩
  · have t0 : ((L : Int) % size == 0) = false := by rw [beq_eq_false_iff_ne]; exact hm
    have he : (L : Int).tmod size = (L : Int) % size := Int.tmod_eq_emod_of_nonneg (by omega)
    have t3 : ((L : Int).tmod size == 0) = false := by rw [he]; exact t0
    have t4 : ¬ ((L : Int).tmod size = 0) := by rw [he]; exact hm
    have t5 : 0 ≤ (L : Int) % size ∧ (L : Int) % size ≤ 4096 := ⟨Int.emod_nonneg _ (by omega), by have := Int.emod_lt_of_pos (L : Int) (show 0 < size by omega); omega⟩
    have t6 : ¬ (0 = (L : Int) % size) := fun e => hm e.symm
    clear hbad he
    go_enter Try.func27, Try.ntmps27
    go_wp2
    go_ret2
    exact ⟨rfl, rfl⟩
end Go.Proofs.Ytldmamcalfmedaa
