/- The disk: what lies where; its power; has, at. Conditions: none. -/
import Derived.Test.YtldmamcalfmedaaDmp
import Derived.Test.YtldmamcalfmedaaBox
import Derived.Test.YtldmamcalfmedaaNum
import Derived.Deep.RegionLaw
import Derived.Deep.DeepCutAuto
import Derived.Deep.DrawnRows
import Derived.BigQuiet
namespace Go.Proofs.Ytldmamcalfmedaa
open Go.ChangeShapes Go.WideShapes Go.ChangeAt Go.RowKit Go.Maps
set_option linter.unusedSimpArgs false
set_option linter.unusedVariables false
theorem MBox.alloc {w : World} {b m : Nat} {f : Int → Tal} (h : MBox w b m f) (o : Obj) : MBox (w.alloc o) b m f := by
  obtain ⟨D, h1, h2, h3⟩ := h
  exact ⟨D, h1.alloc o, h2, h3⟩
theorem MBox.keep {w w' : World} {b m : Nat} {f : Int → Tal} (h : MBox w b m f) (hk : w'.heap[b]? = w.heap[b]?) : MBox w' b m f := by
  obtain ⟨D, ⟨es, clock, h1, h4⟩, h2, h3⟩ := h
  exact ⟨D, ⟨es, clock, hk.trans h1, h4⟩, h2, h3⟩
def boolV (bs : List Bool) : List Value := bs.map .bool
theorem boolV_length (bs : List Bool) : (boolV bs).length = bs.length := by simp [boolV]
/-- it reads as a list, and lies in no block of M -/
def RdX (M : Nat → Prop) (w : World) (v : Value) (xs : List Value) : Prop :=
  ∃ A c, v = .slice A xs.length c ∧ xs.length ≤ c ∧ c ≤ maxLen ∧ (0 < xs.length → ∃ b off, A = some ⟨b, off, none⟩ ∧ b < w.heap.size ∧ ¬ M b ∧ ∀ (j : Nat) (u : Value), xs[j]? = some u → w.cell? ⟨b, off + j, none⟩ = some u)
theorem RdX.rd {M : Nat → Prop} {w : World} {v : Value} {xs : List Value} (h : RdX M w v xs) : RdV w w.heap.size v xs := by
  obtain ⟨A, c, e, h1, h2, h3⟩ := h
  exact ⟨A, c, e, h1, h2, fun hn => by obtain ⟨b, off, e1, hb, _, hc⟩ := h3 hn; exact ⟨b, off, e1, hb, hc⟩⟩
theorem RdX.frm {M O : Nat → Prop} {w w' : World} {v : Value} {xs : List Value} (h : RdX M w v xs) (hf : Frm O w w') (hO : ∀ j, O j → M j) : RdX M w' v xs := by
  obtain ⟨A, c, e, h1, h2, h3⟩ := h
  refine ⟨A, c, e, h1, h2, fun hn => ?_⟩
  obtain ⟨b, off, e1, hb, hM, hc⟩ := h3 hn
  exact ⟨b, off, e1, Nat.lt_of_lt_of_le hb hf.size, hM, fun j u hu => (World.cell?_of_block (a := ⟨b, off + j, none⟩) (hf.block b hb (fun x => hM (hO b x)))).trans (hc j u hu)⟩
theorem RdX.mono {M M' : Nat → Prop} {w : World} {v : Value} {xs : List Value} (h : RdX M w v xs) (hM : ∀ j, j < w.heap.size → M' j → M j) : RdX M' w v xs := by
  obtain ⟨A, c, e, h1, h2, h3⟩ := h
  refine ⟨A, c, e, h1, h2, fun hn => ?_⟩
  obtain ⟨b, off, e1, hb, hN, hc⟩ := h3 hn
  exact ⟨b, off, e1, hb, fun x => hN (hM b hb x), hc⟩
theorem RdX.of_rd {M : Nat → Prop} {w : World} {B : Nat} {v : Value} {xs : List Value} (h : RdV w B v xs) (hB : B ≤ w.heap.size) (hM : ∀ j, j < B → ¬ M j) : RdX M w v xs := by
  obtain ⟨A, c, e, h1, h2, h3⟩ := h
  exact ⟨A, c, e, h1, h2, fun hn => by obtain ⟨b, off, e1, hb, hc⟩ := h3 hn; exact ⟨b, off, e1, by omega, hM b hb, hc⟩⟩
theorem RdX.nil_ (M : Nat → Prop) (w : World) : RdX M w (.slice none 0 0) [] := ⟨none, 0, rfl, Nat.le_refl _, by unfold maxLen; omega, fun h => absurd h (Nat.lt_irrefl 0)⟩
/-- what is kept of a disk -/
structure Dk where
  off : Bool
  armed : Bool
  left : Int
  keep : List Bool
  n : Nat
  size : Nat
  kept : List UInt8
  pend : List (Nat × List UInt8)
  writes : Int
  reads : Int
  away : Nat → Prop := fun _ => False
def talG : List (Nat × List UInt8) → Nat → (Int → Tal) → (Int → Tal)
  | [], _, f => f
  | p :: r, i, f => talG r (i + 1) (put f (p.1 : Nat) ⟨(f (p.1 : Nat)).cnt + 1, (i : Nat)⟩)
def talF (l : List (Nat × List UInt8)) : Int → Tal := talG l 0 (fun _ => ⟨0, 0⟩)
theorem talG_snoc (p : Nat × List UInt8) : ∀ (l : List (Nat × List UInt8)) (i : Nat) (f : Int → Tal), talG (l ++ [p]) i f = put (talG l i f) (p.1 : Nat) ⟨(talG l i f (p.1 : Nat)).cnt + 1, ((i + l.length : Nat) : Int)⟩
  | [], i, f => rfl
  | q :: r, i, f => by
    show talG (r ++ [p]) (i + 1) _ = _
    rw [talG_snoc p r]
    show _ = put (talG r (i + 1) _) _ ⟨_, ((i + (r.length + 1) : Nat) : Int)⟩
    rw [show i + (r.length + 1) = i + 1 + r.length from by omega]
    rfl
theorem talF_snoc (l : List (Nat × List UInt8)) (p : Nat × List UInt8) : talF (l ++ [p]) = put (talF l) (p.1 : Nat) ⟨(talF l (p.1 : Nat)).cnt + 1, (l.length : Nat)⟩ := by
  unfold talF
  rw [talG_snoc, Nat.zero_add]
def Own (db kb mb pb : Nat) : Nat → Prop := fun j => j = db ∨ j = kb ∨ j = mb ∨ j = pb
/-- its own blocks, and those that its rows keep away from -/
def OwnX (A : Nat → Prop) (db kb mb pb : Nat) : Nat → Prop := fun j => Own db kb mb pb j ∨ A j
theorem OwnX.no {A : Nat → Prop} {db kb mb pb j : Nat} (h1 : ¬ Own db kb mb pb j) (h2 : ¬ A j) : ¬ OwnX A db kb mb pb j := fun h => h.elim h1 h2
def dcells (d : Dk) (keepV pv : Value) (kb kc mb : Nat) : Array Value :=
  #[.bool d.off, .bool d.armed, .int .i64 d.left, keepV, .int .i64 (d.size : Nat), .slice (some ⟨kb, 0, none⟩) d.kept.length kc, pv, .map (some mb), .int .i64 d.writes, .int .i64 d.reads]
/-- the row of the pending writes -/
def PRow (w : World) (M : Nat → Prop) (pb : Nat) (pv : Value) (pend : List (Nat × List UInt8)) : Prop :=
  ∃ xs, w.ownsRow 0 76 2 pv pend.length xs ∧ (∀ g, pv.ownBlock = some g → g = pb) ∧ ∀ (i : Nat) (p : Nat × List UInt8), pend[i]? = some p → xs[2 * i]? = some (.int .i64 (p.1 : Nat)) ∧ ∃ v, xs[2 * i + 1]? = some v ∧ RdX M w v (bv p.2)
structure DShape (d : Dk) : Prop where
  n : 1 ≤ d.n ∧ d.n ≤ 65536
  size : 64 ≤ d.size ∧ d.size ≤ 4096
  kept : d.kept.length = d.n * d.size
  pend : ∀ p ∈ d.pend, p.1 < d.n ∧ p.2.length = d.size
structure DBox (w : World) (db kb mb pb mm : Nat) (d : Dk) : Prop where
  cells : ∃ keepV pv kc, w.heap[db]? = some (.cells (dcells d keepV pv kb kc mb) 70 (0, 0)) ∧ RdX (OwnX d.away db kb mb pb) w keepV (boolV d.keep) ∧ w.ownsRow 0 5 1 (.slice (some ⟨kb, 0, none⟩) d.kept.length kc) d.kept.length (bv d.kept) ∧ PRow w (OwnX d.away db kb mb pb) pb pv d.pend ∧ (d.pend = [] → pv = .slice none 0 0)
  map : MBox w mb mm (talF d.pend)
  ne : db ≠ kb ∧ db ≠ mb ∧ kb ≠ mb ∧ (d.pend ≠ [] → pb ≠ db ∧ pb ≠ kb ∧ pb ≠ mb)
  ok : DShape d
  small : pb < w.heap.size
  away : ∀ j, d.away j → j < w.heap.size
theorem own_lt {w : World} {base size n : Nat} {e : TypeId} {v : Value} {xs : List Value} {g : Nat} (h : w.ownsRow base e size v n xs) (hg : v.ownBlock = some g) : g < w.heap.size := (h.lt g hg).2
theorem own_keep {w w' : World} {base size n : Nat} {e : TypeId} {v : Value} {xs : List Value} (h : w.ownsRow base e size v n xs) (hk : ∀ g, v.ownBlock = some g → w'.heap[g]? = w.heap[g]?) : w'.ownsRow base e size v n xs := by
  refine ⟨h.1, h.2.imp id ?_⟩
  rintro ⟨g, cap, cur, rfl, e2, e3, e4⟩
  exact ⟨g, cap, cur, rfl, e2, (hk g rfl).trans e3, e4⟩
theorem DBox.lt {w : World} {db kb mb pb mm : Nat} {d : Dk} (h : DBox w db kb mb pb mm d) : db < w.heap.size ∧ kb < w.heap.size ∧ mb < w.heap.size := by
  obtain ⟨keepV, pv, kc, h1, h2, h3, h4⟩ := h.cells
  refine ⟨?_, own_lt h3 rfl, h.map.lt⟩
  rcases Nat.lt_or_ge db w.heap.size with h5 | h5
  · exact h5
  · rw [Array.getElem?_eq_none h5] at h1; cases h1
theorem PRow.frm {w w' : World} {M O : Nat → Prop} {pb : Nat} {pv : Value} {pend : List (Nat × List UInt8)} (h : PRow w M pb pv pend) (hf : Frm O w w') (hO : ∀ j, O j → M j) (hp : ¬ O pb) : PRow w' M pb pv pend := by
  obtain ⟨xs, h1, h2, h3⟩ := h
  refine ⟨xs, own_keep h1 (fun g hg => hf.block g (own_lt h1 hg) (by rw [h2 g hg]; exact hp)), h2, fun i p hi => ?_⟩
  obtain ⟨e1, v, e2, e3⟩ := h3 i p hi
  exact ⟨e1, v, e2, e3.frm hf hO⟩
/-- the disk's own cells alone have turned, and no row of it -/
theorem DBox.turn {w w' : World} {db kb mb pb mm : Nat} {d d' : Dk} (h : DBox w db kb mb pb mm d) (hf : Frm (fun j => j = db) w w')
    (hc : ∀ keepV pv kc, w.heap[db]? = some (.cells (dcells d keepV pv kb kc mb) 70 (0, 0)) → w'.heap[db]? = some (.cells (dcells d' keepV pv kb kc mb) 70 (0, 0)))
    (e1 : d'.keep = d.keep) (e2 : d'.kept = d.kept) (e3 : d'.pend = d.pend) (e4 : d'.n = d.n) (e5 : d'.size = d.size) (e6 : d'.away = d.away := by rfl) : DBox w' db kb mb pb mm d' := by
  obtain ⟨keepV, pv, kc, h1, h2, h3, h4, h5⟩ := h.cells
  obtain ⟨n1, n2, n3, n4⟩ := h.ne
  refine ⟨⟨keepV, pv, kc, hc _ _ _ h1, by rw [e1, e6]; exact h2.frm hf (fun j hj => Or.inl (Or.inl hj)), ?_, ?_, by rw [e3]; exact h5⟩, ?_, by rw [e3]; exact h.ne, ⟨by rw [e4]; exact h.ok.n, by rw [e5]; exact h.ok.size, by rw [e2, e4, e5]; exact h.ok.kept, by rw [e3, e4, e5]; exact h.ok.pend⟩, Nat.lt_of_lt_of_le h.small hf.size, by rw [e6]; exact fun j hj => Nat.lt_of_lt_of_le (h.away j hj) hf.size⟩
  · rw [e2]
    exact own_keep h3 (fun g hg => by injection hg with hg; subst hg; exact hf.block _ h.lt.2.1 (fun x => n1 x.symm))
  · rw [e3, e6]
    by_cases hp : d.pend = []
    · have := h5 hp
      subst this
      rw [hp] at h4 ⊢
      obtain ⟨xs, a1, a2, a3⟩ := h4
      exact ⟨xs, own_keep a1 (fun g hg => by cases hg), a2, fun i p hi => by simp at hi⟩
    · exact h4.frm hf (fun j hj => Or.inl (Or.inl hj)) (n4 hp).1
  · rw [e3]
    exact h.map.keep (hf.block mb h.lt.2.2 (fun x => n2 x.symm))
theorem DBox.next {w w' : World} {db kb mb pb mm : Nat} {d : Dk} (h : DBox w db kb mb pb mm d) (hf : Frm (fun _ => False) w w') : DBox w' db kb mb pb mm d :=
  h.turn (hf.mono (fun _ _ h => h.elim)) (fun _ _ _ h1 => (hf.block db h.lt.1 id).trans h1) rfl rfl rfl rfl rfl
/-- the cells, one by one -/
theorem DBox.at {w : World} {db kb mb pb mm : Nat} {d : Dk} (h : DBox w db kb mb pb mm d) : ∃ keepV pv kc,
    w.heap[db]? = some (.cells (dcells d keepV pv kb kc mb) 70 (0, 0)) ∧ RdX (OwnX d.away db kb mb pb) w keepV (boolV d.keep) ∧ w.ownsRow 0 5 1 (.slice (some ⟨kb, 0, none⟩) d.kept.length kc) d.kept.length (bv d.kept) ∧ PRow w (OwnX d.away db kb mb pb) pb pv d.pend ∧ (d.pend = [] → pv = .slice none 0 0) ∧
    w.cell? ⟨db, 0, none⟩ = some (.bool d.off) ∧ w.cell? ⟨db, 1, none⟩ = some (.bool d.armed) ∧ w.cell? ⟨db, 2, none⟩ = some (.int .i64 d.left) ∧ w.cell? ⟨db, 3, none⟩ = some keepV ∧ w.cell? ⟨db, 4, none⟩ = some (.int .i64 (d.size : Nat)) ∧ w.cell? ⟨db, 5, none⟩ = some (.slice (some ⟨kb, 0, none⟩) d.kept.length kc) ∧
    w.cell? ⟨db, 6, none⟩ = some pv ∧ w.cell? ⟨db, 7, none⟩ = some (.map (some mb)) ∧ w.cell? ⟨db, 8, none⟩ = some (.int .i64 d.writes) ∧ w.cell? ⟨db, 9, none⟩ = some (.int .i64 d.reads) ∧ ∀ i, w.frozen? ⟨db, i, none⟩ = false := by
  obtain ⟨keepV, pv, kc, h1, h2, h3, h4, h5⟩ := h.cells
  exact ⟨keepV, pv, kc, h1, h2, h3, h4, h5, cell_of_row w db 0 _ _ _ h1, cell_of_row w db 1 _ _ _ h1, cell_of_row w db 2 _ _ _ h1, cell_of_row w db 3 _ _ _ h1, cell_of_row w db 4 _ _ _ h1, cell_of_row w db 5 _ _ _ h1, cell_of_row w db 6 _ _ _ h1, cell_of_row w db 7 _ _ _ h1, cell_of_row w db 8 _ _ _ h1, cell_of_row w db 9 _ _ _ h1, fun i => frozen_of_row w db i _ _ h1⟩
end Go.Proofs.Ytldmamcalfmedaa
