/- The table of segments: Release's closure, but for the way on which it appends. Conditions: that way, as a premise. -/
import Derived.Test.YtjpmlojpcgfcfaaSgw
namespace Go.Proofs.Ytjpmlojpcgfcfaa
open Go.ChangeShapes Go.WideShapes Go.ChangeAt Go.RowKit Go.Maps
set_option linter.unusedSimpArgs false
set_option linter.unusedVariables false
/-- which of the first k segments Release lets go -/
def relN (f : Int → Ent) (ep : Int) : Nat → List Nat
  | 0 => []
  | k + 1 => relN f ep k ++ (if (f (k : Nat)).st = 3 ∧ (f (k : Nat)).ep ≤ ep then [k] else [])
def intsV (l : List Nat) : List Value := l.map fun k => .int .i64 (k : Nat)
theorem relN_len (f : Int → Ent) (ep : Int) (k : Nat) : (relN f ep k).length ≤ k := by
  induction k with
  | zero => simp [relN]
  | succ k ih => rw [relN, List.length_append]; split <;> simp <;> omega
theorem infI : (Try.prog.info? 3).map (fun i => (i.zero, i.size, i.bytes)) = some (some (.int .i64 0), 1, 8) := by kernel_rfl
structure RelI (base eb ob : Nat) (ep : Int) (f : Int → Ent) (k : Nat) (w : World) : Prop where
  epc : w.cell? ⟨eb, 0, none⟩ = some (.int .i64 ep)
  out : ∃ v, w.heap[ob]? = some (.cells #[v] 53 (0, 0)) ∧ w.ownsRow base 3 1 v (relN f ep k).length (intsV (relN f ep k))
  lt : eb < base ∧ ob < base ∧ eb ≠ ob ∧ base ≤ w.heap.size
theorem RelI.next {base eb ob : Nat} {ep : Int} {f : Int → Ent} {k : Nat} {a b : World} (h : RelI base eb ob ep f k a) (hb : Below a.heap.size a b) : RelI base eb ob ep f k b := by
  obtain ⟨h1, ⟨v, h2, h3⟩, h4, h5, h6, h7⟩ := h
  refine ⟨(World.cell?_of_block (a := ⟨eb, 0, none⟩) (hb.block eb (by omega))).trans h1, ⟨v, (hb.block ob (by omega)).trans h2, ?_⟩, h4, h5, h6, by have := hb.size; omega⟩
  refine ⟨h3.1, h3.2.imp id ?_⟩
  rintro ⟨g, cap, cur, e1, e2, e3, e4⟩
  have : g < a.heap.size := by
    rcases Nat.lt_or_ge g a.heap.size with h2 | h2
    · exact h2
    · rw [Array.getElem?_eq_none h2] at e3; cases e3
  exact ⟨g, cap, cur, e1, e2, (hb.block g this).trans e3, e4⟩
theorem rel_push {base eb ob : Nat} {ep : Int} {f : Int → Ent} {k : Nat} {w1 w2 : World} {v v' : Value} (hI : eb < base ∧ ob < base ∧ eb ≠ ob ∧ base ≤ w1.heap.size) (h1 : w1.cell? ⟨eb, 0, none⟩ = some (.int .i64 ep))
    (h2 : w1.heap[ob]? = some (.cells #[v] 53 (0, 0))) (h3 : w1.ownsRow base 3 1 v (relN f ep k).length (intsV (relN f ep k))) (hg : w1.grownBy w2 v.ownBlock)
    (ho : w2.ownsRow base 3 1 v' ((relN f ep k).length + 1) (intsV (relN f ep k) ++ [.int .i64 (k : Nat)])) (hc : (f (k : Nat)).st = 3 ∧ (f (k : Nat)).ep ≤ ep) :
    RelI base eb ob ep f (k + 1) (w2.setCell ⟨ob, 0, none⟩ v') ∧ Frm (fun j => j = ob ∨ base ≤ j) w1 (w2.setCell ⟨ob, 0, none⟩ v') ∧ w2.cell? ⟨ob, 0, none⟩ = some v ∧ w2.frozen? ⟨ob, 0, none⟩ = false := by
  obtain ⟨h4, h5, h6, h7⟩ := hI
  have hb : Below base w1 w2 := (Below.refl base w1).grown hg h7 (by
    intro g e
    obtain ⟨_, ⟨rfl, _⟩ | ⟨g', cap, cur, rfl, e2, _⟩⟩ := h3
    · cases e
    · injection e with e; subst e; exact e2)
  have y := (hb.block ob h5).trans h2
  have z := (World.cell?_of_block (a := ⟨eb, 0, none⟩) (hb.block eb h4)).trans h1
  refine ⟨⟨?_, ⟨v', ?_, ?_⟩, h4, h5, h6, ?_⟩, ?_, cell_of_row _ ob 0 _ _ _ y, frozen_of_row _ ob 0 _ _ y⟩
  · exact (World.cell?_of_block (a := ⟨eb, 0, none⟩) (heap_setCell_other w2 _ eb _ h6)).trans z
  · rw [heap_setCell_same w2 ob 0 _ _ _ y]; rfl
  · have := ownsRow_setCell_below ho (a := ⟨ob, 0, none⟩) h5 v'
    rw [relN, if_pos hc]
    simpa [intsV] using this
  · have := hb.size
    simp
    omega
  · have hF : Frm (fun j => j = ob ∨ base ≤ j) w1 w2 := ⟨hb.os, hb.tape, hb.output, hb.size, fun j hj ho => hb.block j (by have : ¬ base ≤ j := fun h => ho (Or.inr h); omega)⟩
    exact hF.setCell ob 0 (Or.inl (Or.inl rfl)) v'
set_option maxRecDepth 100000 in
set_option maxHeartbeats 2000000 in
theorem rel_each (base eb ob : Nat) (ep : Int) (N : Nat) (hN : N ≤ 65536) (f : Int → Ent)
    (happ : ∀ w k, k < N → RelI base eb ob ep f k w → (f (k : Nat)).st = 3 ∧ (f (k : Nat)).ep ≤ ep → Calls Try.prog 39 #[.int .i64 (k : Nat), entV (f (k : Nat)), .pointer (some ⟨eb, 0, none⟩), .pointer (some ⟨ob, 0, none⟩)] w fun e w2 => ((e = .returned (.bool true) ∧ RelI base eb ob ep f (k + 1) w2) ∨ (e = .returned (.bool false) ∧ False)) ∧ Frm (fun j => j = ob ∨ base ≤ j) w w2) :
    EachC 39 (fun x y => #[x, y, .pointer (some ⟨eb, 0, none⟩), .pointer (some ⟨ob, 0, none⟩)]) (fun j => j = ob ∨ base ≤ j) N f (RelI base eb ob ep f) (fun _ => False) Try.prog := by
  intro w k hk hI
  by_cases hc : (f (k : Nat)).st = 3 ∧ (f (k : Nat)).ep ≤ ep
  · exact happ w k hk hI hc
  clear happ
  unfold entV
  generalize hf : f (k : Nat) = x
  obtain ⟨s, us, p⟩ := x
  simp only
  have hlen := relN_len f ep k
  have hI1 := hI.next ((Below.refl _ w).alloc (Nat.le_refl _) (.cells #[.int .i64 s, .int .i64 us, .int .i64 p] 63))
  have hF1 : Frm (fun j => j = ob ∨ base ≤ j) w (w.alloc (.cells #[.int .i64 s, .int .i64 us, .int .i64 p] 63)) := (Frm.refl _ w).alloc _
  by_cases c1 : s = 3
  · subst c1
    by_cases c2 : p ≤ ep
    · exact absurd (by rw [hf]; exact ⟨rfl, c2⟩) hc
    · have hr : relN f ep (k + 1) = relN f ep k := by rw [relN, if_neg (by rw [hf]; exact fun x => c2 x.2), List.append_nil]
      have hI2 : RelI base eb ob ep f (k + 1) (w.alloc (.cells #[.int .i64 3, .int .i64 us, .int .i64 p] 63)) := ⟨hI1.epc, by rw [hr]; exact hI1.out, hI1.lt⟩
      have x1 := hI1.epc
      have HI2 := Lib.hid hI2
      have HF1 := Lib.hid hF1
      clear hI hI1 hI2 hF1 hr
      go_enter Try.func39, Try.ntmps39
      go_wp2
      go_ret; first | exact ⟨⟨rfl, HI2.out⟩, HF1.out⟩ | exact ⟨Or.inl ⟨rfl, HI2.out⟩, HF1.out⟩
  · have hr : relN f ep (k + 1) = relN f ep k := by rw [relN, if_neg (by rw [hf]; exact fun x => c1 x.1), List.append_nil]
    have hI2 : RelI base eb ob ep f (k + 1) (w.alloc (.cells #[.int .i64 s, .int .i64 us, .int .i64 p] 63)) := ⟨hI1.epc, by rw [hr]; exact hI1.out, hI1.lt⟩
    have x1 := hI1.epc
    have HI2 := Lib.hid hI2
    have HF1 := Lib.hid hF1
    clear hI hI1 hI2 hF1 hr
    go_enter Try.func39, Try.ntmps39
    go_wp2
    go_ret; first | exact ⟨⟨rfl, HI2.out⟩, HF1.out⟩ | exact ⟨Or.inl ⟨rfl, HI2.out⟩, HF1.out⟩
end Go.Proofs.Ytjpmlojpcgfcfaa
