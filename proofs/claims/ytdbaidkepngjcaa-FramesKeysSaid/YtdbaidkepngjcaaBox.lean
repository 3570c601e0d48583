/- One cell, the tail of a row, what may have turned. Conditions: none. -/
import Derived.Test.YtdbaidkepngjcaaFro
import Derived.Test.YtdbaidkepngjcaaInm
namespace Go.Proofs.Ytdbaidkepngjcaa
open Go.ChangeShapes Go.WideShapes Go.ChangeAt Go.RowKit
set_option linter.unusedSimpArgs false
set_option linter.unusedVariables false
def tailV (A : Option Addr) (n c k : Nat) : Value := .slice (if c = k then A else A.map (·.add k)) (n - k) (c - k)
theorem RdV.tail {w : World} {B n c k : Nat} {A : Option Addr} {xs : List Value} (h : RdV w B (.slice A n c) xs) (hk : k ≤ n) : RdV w B (tailV A n c k) (xs.drop k) := by
  obtain ⟨A', c', e, h1, h2, h3⟩ := id h
  injection e with e1 e2 e3
  subst e1 e2 e3
  unfold tailV
  refine ⟨_, _, by rw [List.length_drop], by rw [List.length_drop]; omega, by omega, fun hn => ?_⟩
  rw [List.length_drop] at hn
  obtain ⟨b, off, rfl, hb, hc⟩ := h3 (by omega)
  rw [if_neg (by omega)]
  refine ⟨b, off + k, by simp [Addr.add], hb, fun j u hu => ?_⟩
  rw [List.getElem?_drop] at hu
  rw [Nat.add_assoc]
  exact hc _ u hu
structure Frm (O : Nat → Prop) (w w' : World) : Prop where
  os : w'.os = w.os
  tape : w'.tape = w.tape
  output : w'.output = w.output
  size : w.heap.size ≤ w'.heap.size
  block : ∀ j, j < w.heap.size → ¬ O j → w'.heap[j]? = w.heap[j]?
section
variable {O O' : Nat → Prop} {a b c : World}
theorem Frm.refl (O : Nat → Prop) (w : World) : Frm O w w := ⟨rfl, rfl, rfl, Nat.le_refl _, fun _ _ _ => rfl⟩
theorem Frm.trans (h : Frm O a b) (k : Frm O b c) : Frm O a c :=
  ⟨k.os.trans h.os, k.tape.trans h.tape, k.output.trans h.output, Nat.le_trans h.size k.size, fun j hj ho => (k.block j (Nat.lt_of_lt_of_le hj h.size) ho).trans (h.block j hj ho)⟩
theorem Frm.mono (h : Frm O a b) (hO : ∀ j, j < a.heap.size → O j → O' j) : Frm O' a b := ⟨h.os, h.tape, h.output, h.size, fun j hj ho => h.block j hj (fun x => ho (hO j hj x))⟩
theorem Frm.alloc (h : Frm O a b) (o : Obj) : Frm O a (b.alloc o) := h.trans ⟨rfl, rfl, rfl, by simp, fun j hj _ => Below.heap_alloc _ _ _ hj⟩
theorem Frm.drew (h : Frm O a b) : Frm O a b.drew := ⟨h.os, h.tape, h.output, h.size, h.block⟩
theorem Frm.setCell (h : Frm O a b) (k i : Nat) (hk : O k ∨ a.heap.size ≤ k) (u : Value) : Frm O a (b.setCell ⟨k, i, none⟩ u) :=
  ⟨h.os, h.tape, h.output, by simp [World.setCell]; exact h.size, fun j hj ho => (heap_setCell_other b ⟨k, i, none⟩ j _ (fun e => by
    have e' : j = k := e
    subst e'
    rcases hk with h1 | h1
    · exact ho h1
    · omega)).trans (h.block j hj ho)⟩
theorem Frm.of_below (h : Below a.heap.size a b) : Frm O a b := ⟨h.os, h.tape, h.output, h.size, fun j hj _ => h.block j hj⟩
theorem Frm.of_grown {k : Nat} (h : a.grownBy b (some k)) : Frm (· = k) a b := ⟨h.os, h.tape, h.output, h.size, fun j hj ho => h.block j hj (fun e => ho (by injection e))⟩
theorem Frm.below {B : Nat} (h : Frm O a b) (hO : ∀ j, O j → B ≤ j) (hB : B ≤ a.heap.size) : Below B a b := ⟨h.os, h.tape, h.output, h.size, fun j hj => h.block j (by omega) (fun x => by have := hO j x; omega)⟩
theorem Frm.sub (h : Frm O a b) (k : Frm O' b c) (hO : ∀ j, O' j → O j ∨ a.heap.size ≤ j) : Frm O a c :=
  ⟨k.os.trans h.os, k.tape.trans h.tape, k.output.trans h.output, Nat.le_trans h.size k.size, fun j hj ho => (k.block j (Nat.lt_of_lt_of_le hj h.size) (fun x => by
    rcases hO j x with h1 | h1
    · exact ho h1
    · omega)).trans (h.block j hj ho)⟩
end
def One (w : World) (b : Nat) (u : Value) (t : TypeId) : Prop := w.heap[b]? = some (.cells #[u] t (0, 0))
theorem One.cell {w : World} {b : Nat} {u : Value} {t : TypeId} (h : One w b u t) : w.cell? ⟨b, 0, none⟩ = some u := cell_of_row w b 0 _ _ (0, 0) h
theorem One.free {w : World} {b : Nat} {u : Value} {t : TypeId} (h : One w b u t) : w.frozen? ⟨b, 0, none⟩ = false := frozen_of_row w b 0 _ _ h
theorem One.lt {w : World} {b : Nat} {u : Value} {t : TypeId} (h : One w b u t) : b < w.heap.size := by
  rcases Nat.lt_or_ge b w.heap.size with h1 | h1
  · exact h1
  · unfold One at h; rw [Array.getElem?_eq_none h1] at h; cases h
theorem One.frm {O : Nat → Prop} {w w' : World} {b : Nat} {u : Value} {t : TypeId} (h : One w b u t) (hf : Frm O w w') (hO : ¬ O b) : One w' b u t := (hf.block b h.lt hO).trans h
theorem One.next {w w' : World} {b : Nat} {u : Value} {t : TypeId} (h : One w b u t) (hb : Below w.heap.size w w') : One w' b u t := (hb.block b h.lt).trans h
theorem One.new (w : World) (u : Value) (t : TypeId) : One (w.alloc (.cells #[u] t)) w.heap.size u t := heap_alloc_new w _
theorem One.set {w : World} {b : Nat} {u : Value} {t : TypeId} (h : One w b u t) (v : Value) : One (w.setCell ⟨b, 0, none⟩ v) b v t := heap_setCell_same w b 0 _ _ _ h
theorem One.other {w : World} {b : Nat} {u : Value} {t : TypeId} (h : One w b u t) (k i : Nat) (hk : k ≠ b) (v : Value) : One (w.setCell ⟨k, i, none⟩ v) b u t := (heap_setCell_other w ⟨k, i, none⟩ b _ (fun e => hk (by have e' : b = k := e; exact e'.symm))).trans h
end Go.Proofs.Ytdbaidkepngjcaa
