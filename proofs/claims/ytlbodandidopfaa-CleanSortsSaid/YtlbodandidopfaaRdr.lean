/- Contracts of codec.Reader: what each reading tells, and what becomes of the reader. Conditions: the rows are shorter than 2^32. -/
import Derived.Test.YtlbodandidopfaaRvr
import Derived.Test.YtlbodandidopfaaFro
import Derived.Test.YtlbodandidopfaaInm
import Derived.Defers
import Derived.Recover
import Derived.Laws.Pointers
import Derived.Tactics2
namespace Go.Proofs.Ytlbodandidopfaa
open Go.ChangeShapes Go.WideShapes Go.ChangeAt Go.RowKit
set_option linter.unusedSimpArgs false
set_option linter.unusedVariables false

def FV (z : Int) : Value := .iface 140 (.agg #[.int .i64 z])
theorem need_no (z : Int) (w : World) : Calls Try.prog 96 #[.bool false, .int .i64 z] w fun e w' => e = .panicked [{ v := FV z, recovered := false }] ∧ w = w' := by
  go_enter Try.func96, Try.ntmps96
  go_wp2
  exact ⟨rfl, rfl, rfl⟩
theorem need_yes (z : Int) (w : World) : Calls Try.prog 96 #[.bool true, .int .i64 z] w fun e w' => e = .returned (.tuple #[]) ∧ w = w' := by
  go_enter Try.func96, Try.ntmps96
  go_wp2
  go_end0
  exact ⟨rfl, rfl⟩

/-- the tail of a row, as a slice expression lays it -/
def tailV (A : Option Addr) (n c k : Nat) : Value := .slice (if c = k then A else A.map (·.add k)) (n - k) (c - k)
theorem RdV.tail {w : World} {B n c k : Nat} {A : Option Addr} {xs : List Value} (h : RdV w B (.slice A n c) xs) (hk : k ≤ n) : RdV w B (tailV A n c k) (xs.drop k) := by
  obtain ⟨A', c', e, h1, h2, h3⟩ := id h
  injection e with e1 e2 e3
  subst e1 e2 e3
  unfold tailV
  refine ⟨_, _, by rw [List.length_drop], by rw [List.length_drop]; omega, by omega, fun hn => ?_⟩
  rw [List.length_drop] at hn
  obtain ⟨b, off, rfl, hb, hc⟩ := h3 (by omega)
  rw [if_neg (by omega)]
  refine ⟨b, off + k, by simp [Addr.add], hb, fun j u hu => ?_⟩
  rw [List.getElem?_drop] at hu
  rw [Nat.add_assoc]
  exact hc _ u hu

/-! ## the reader: what it has left, and its error -/
def CBox (w : World) (k : Nat) (l : List UInt8) (e : Int) : Prop := ∃ A n c B, w.heap[k]? = some (.cells #[.slice A n c, .int .i64 e] 131 (0, 0)) ∧ RdV w B (.slice A n c) (bv l) ∧ B ≤ k
theorem CBox.lt {w : World} {k : Nat} {l : List UInt8} {e : Int} (h : CBox w k l e) : k < w.heap.size := by
  obtain ⟨A, n, c, B, h, _⟩ := h
  rcases Nat.lt_or_ge k w.heap.size with h1 | h1
  · exact h1
  · rw [Array.getElem?_eq_none h1] at h; cases h
theorem CBox.next {w w' : World} {k : Nat} {l : List UInt8} {e : Int} (h : CBox w k l e) (hb : Below w.heap.size w w') : CBox w' k l e := by
  have hlt := h.lt
  obtain ⟨A, n, c, B, h1, h2, h3⟩ := h
  exact ⟨A, n, c, B, (hb.block k hlt).trans h1, h2.below' hb (by omega), h3⟩
/-- what a call on reader k may turn: that reader alone -/
theorem readsTo {w : World} {k : Nat} {l' : List UInt8} {e : Int} {A A' : Option Addr} {n n' c c' B : Nat} (hk : w.heap[k]? = some (.cells #[.slice A n c, .int .i64 e] 131 (0, 0))) (hr : RdV w B (.slice A' n' c') (bv l')) (hB : B ≤ k) :
    CBox (w.setCell ⟨k, 0, none⟩ (.slice A' n' c')) k l' e ∧ w.grownBy (w.setCell ⟨k, 0, none⟩ (.slice A' n' c')) (some k) := by
  refine ⟨⟨A', n', c', B, ?_, hr.setCell hB _, hB⟩, rfl, rfl, rfl, by simp [World.setCell], fun j hj hne => ?_⟩
  · exact heap_setCell_same w k 0 _ _ _ hk
  · exact heap_setCell_other w ⟨k, 0, none⟩ j _ (fun e => hne (by rw [e]))
def NumP (w : World) (k : Nat) (l : List UInt8) (e0 : Int) (e : Ending) (w' : World) : Prop :=
  (Pu.rvE l = 0 ∧ e = .returned (.int .i64 (Pu.zag (Pu.rvV l : Nat))) ∧ CBox w' k (l.drop (Pu.rvN l)) e0 ∧ w.grownBy w' (some k)) ∨
  (Pu.rvE l ≠ 0 ∧ e = .panicked [{ v := FV (Pu.rvE l : Nat), recovered := false }] ∧ w = w')
theorem rvN_le (l : List UInt8) : Pu.rvN l ≤ l.length := by
  unfold Pu.rvN
  split
  · rename_i h; have := Pu.rvE_zero h; omega
  · omega
theorem rvV_lt (l : List UInt8) : Pu.rvV l < 18446744073709551616 := by
  unfold Pu.rvV
  split
  · rename_i h; exact Pu.rv_lt h
  · omega
set_option maxRecDepth 100000 in
set_option maxHeartbeats 4000000 in
theorem number_any (w : World) (k : Nat) (l : List UInt8) (e0 : Int) (hx : CBox w k l e0) (hl : l.length < 4294967296) :
    Calls Try.prog 95 #[.pointer (some ⟨k, 0, none⟩)] w (NumP w k l e0) := by
  obtain ⟨A, n, c, B, hk, hr, hB⟩ := hx
  obtain ⟨A', c', ev, hc1, hc2, _⟩ := id hr
  injection ev with ev1 ev2 ev3
  subst ev1 ev3
  rw [bv_length] at ev2 hc1
  subst ev2
  unfold maxLen at hc2
  have hv := readvar_any (.slice A l.length c) l hl w B hr
  have k0 : w.cell? ⟨k, 0, none⟩ = some (.slice A l.length c) := cell_of_row w k 0 _ _ (0, 0) hk
  have f0 : w.frozen? ⟨k, 0, none⟩ = false := frozen_of_row w k 0 _ _ hk
  have hnl := rvN_le l
  have hvl := rvV_lt l
  by_cases hE : Pu.rvE l = 0
  · have hz := fun w1 => zag_any (Pu.rvV l : Nat) (by omega) (by omega) w1
    have hn := need_yes 0 w
    have htl := hr.tail hnl
    rw [show (bv l).drop (Pu.rvN l) = bv (l.drop (Pu.rvN l)) from by simp [bv]] at htl
    unfold tailV at htl
    have hto := readsTo hk htl hB
    clear htl
    have hfin : ∀ e w', e = Ending.returned (.int .i64 (Pu.zag (Pu.rvV l : Nat))) → CBox w' k (l.drop (Pu.rvN l)) e0 ∧ w.grownBy w' (some k) → NumP w k l e0 e w' := fun e w' h1 h2 => Or.inl ⟨hE, h1, h2.1, h2.2⟩
    rw [hE] at hv
    have HF := Lib.hid hfin
    have HV := Lib.hid hv
    have HZ := Lib.hid hz
    have HN := Lib.hid hn
    have HT := Lib.hid hto
    clear hfin hv hz hn hto hr hk hE hc1
    generalize Pu.rvN l = m at *
    generalize Pu.rvV l = u at *
    by_cases hcm : c = m
    · have hT := HT.out
      rw [if_pos hcm, show c - m = 0 from by omega] at hT
      have HT2 := Lib.hid hT
      clear hT HT
      subst hcm
      go_enter Try.func95, Try.ntmps95
      go_wp2_with fail
      refine HV.out.mono ?_
      rintro e w1 ⟨rfl, rfl⟩
      go_wp2_with fail
      refine HN.out.mono ?_
      rintro e w1 ⟨rfl, rfl⟩
      go_wp2_with fail
      refine (HZ.out _).mono ?_
      rintro e w1 ⟨rfl, rfl⟩
      go_wp2
      go_ret
      exact HF.out _ _ rfl HT2.out
    · have hT := HT.out
      rw [if_neg hcm] at hT
      have HT2 := Lib.hid hT
      clear hT HT
      go_enter Try.func95, Try.ntmps95
      go_wp2_with fail
      refine HV.out.mono ?_
      rintro e w1 ⟨rfl, rfl⟩
      go_wp2_with fail
      refine HN.out.mono ?_
      rintro e w1 ⟨rfl, rfl⟩
      go_wp2_with fail
      refine (HZ.out _).mono ?_
      rintro e w1 ⟨rfl, rfl⟩
      go_wp2
      go_ret
      exact HF.out _ _ rfl HT2.out
  · have hn := need_no (Pu.rvE l : Nat) w
    have hfin : NumP w k l e0 (.panicked [{ v := FV (Pu.rvE l : Nat), recovered := false }]) w := Or.inr ⟨hE, rfl, rfl⟩
    have hb : ((Pu.rvE l : Int) == 0) = false := by rw [beq_eq_false_iff_ne]; omega
    have HF := Lib.hid hfin
    have HV := Lib.hid hv
    have HN := Lib.hid hn
    clear hfin hv hn hr hk hE hc1
    generalize Pu.rvN l = m at *
    generalize Pu.rvV l = u at *
    generalize Pu.rvE l = ee at *
    go_enter Try.func95, Try.ntmps95
    go_wp2_with fail
    refine HV.out.mono ?_
    rintro e w1 ⟨rfl, rfl⟩
    go_wp2_with fail
    refine HN.out.mono ?_
    rintro e w1 ⟨rfl, rfl⟩
    go_wp2
    exact ⟨rfl, HF.out⟩
/-! ## what may have turned -/
structure Frm (O : Nat → Prop) (w w' : World) : Prop where
  os : w'.os = w.os
  tape : w'.tape = w.tape
  output : w'.output = w.output
  size : w.heap.size ≤ w'.heap.size
  block : ∀ j, j < w.heap.size → ¬ O j → w'.heap[j]? = w.heap[j]?
section
variable {O O' : Nat → Prop} {a b c : World}
theorem Frm.refl (O : Nat → Prop) (w : World) : Frm O w w := ⟨rfl, rfl, rfl, Nat.le_refl _, fun _ _ _ => rfl⟩
theorem Frm.trans (h : Frm O a b) (k : Frm O b c) : Frm O a c :=
  ⟨k.os.trans h.os, k.tape.trans h.tape, k.output.trans h.output, Nat.le_trans h.size k.size, fun j hj ho => (k.block j (Nat.lt_of_lt_of_le hj h.size) ho).trans (h.block j hj ho)⟩
theorem Frm.mono (h : Frm O a b) (hO : ∀ j, j < a.heap.size → O j → O' j) : Frm O' a b := ⟨h.os, h.tape, h.output, h.size, fun j hj ho => h.block j hj (fun x => ho (hO j hj x))⟩
theorem Frm.alloc (h : Frm O a b) (o : Obj) : Frm O a (b.alloc o) := h.trans ⟨rfl, rfl, rfl, by simp, fun j hj _ => Below.heap_alloc _ _ _ hj⟩
theorem Frm.drew (h : Frm O a b) : Frm O a b.drew := ⟨h.os, h.tape, h.output, h.size, h.block⟩
theorem Frm.setCell (h : Frm O a b) (k i : Nat) (hk : O k ∨ a.heap.size ≤ k) (u : Value) : Frm O a (b.setCell ⟨k, i, none⟩ u) :=
  ⟨h.os, h.tape, h.output, by simp [World.setCell]; exact h.size, fun j hj ho => (heap_setCell_other b ⟨k, i, none⟩ j _ (fun e => by
    have e' : j = k := e
    subst e'
    rcases hk with h1 | h1
    · exact ho h1
    · omega)).trans (h.block j hj ho)⟩
theorem Frm.of_below (h : Below a.heap.size a b) : Frm O a b := ⟨h.os, h.tape, h.output, h.size, fun j hj _ => h.block j hj⟩
theorem Frm.of_grown {k : Nat} (h : a.grownBy b (some k)) : Frm (· = k) a b := ⟨h.os, h.tape, h.output, h.size, fun j hj ho => h.block j hj (fun e => ho (by injection e))⟩
theorem Frm.below {B : Nat} (h : Frm O a b) (hO : ∀ j, O j → B ≤ j) (hB : B ≤ a.heap.size) : Below B a b := ⟨h.os, h.tape, h.output, h.size, fun j hj => h.block j (by omega) (fun x => by have := hO j x; omega)⟩
/-- new blocks of a, that c may turn, are none of a's -/
theorem Frm.sub (h : Frm O a b) (k : Frm O' b c) (hO : ∀ j, O' j → O j ∨ a.heap.size ≤ j) : Frm O a c :=
  ⟨k.os.trans h.os, k.tape.trans h.tape, k.output.trans h.output, Nat.le_trans h.size k.size, fun j hj ho => (k.block j (Nat.lt_of_lt_of_le hj h.size) (fun x => by
    rcases hO j x with h1 | h1
    · exact ho h1
    · omega)).trans (h.block j hj ho)⟩
theorem CBox.frm {k : Nat} {l : List UInt8} {e : Int} (h : CBox a k l e) (hf : Frm O a b) (hO : ∀ j, O j → k < j) : CBox b k l e := by
  have hlt := h.lt
  obtain ⟨A, n, c, B, h1, h2, h3⟩ := h
  exact ⟨A, n, c, B, (hf.block k hlt (fun x => by have := hO k x; omega)).trans h1, h2.keep fun j hj => hf.block j (by omega) (fun x => by have := hO j x; omega), h3⟩
end

/-! ## what a reading comes to -/
inductive Out
  | ok (v : Int) (l : List UInt8)
  | bad (e : Nat) (l : List UInt8)
def numO (l : List UInt8) : Out := if Pu.rvE l = 0 then .ok (Pu.zag (Pu.rvV l : Nat)) (l.drop (Pu.rvN l)) else .bad (Pu.rvE l) l
def within (lo hi : Int) : Out → Out
  | .ok v l => if lo ≤ v ∧ v ≤ hi then .ok v l else .bad 22 l
  | .bad e l => .bad e l
def Does (w : World) (k : Nat) (e0 : Int) (o : Out) (e : Ending) (w' : World) : Prop := match o with
  | .ok v l => e = .returned (.int .i64 v) ∧ CBox w' k l e0 ∧ Frm (· = k) w w'
  | .bad ev l => e = .panicked [{ v := FV (ev : Nat), recovered := false }] ∧ CBox w' k l e0 ∧ Frm (· = k) w w'
theorem number_does (w : World) (k : Nat) (l : List UInt8) (e0 : Int) (hx : CBox w k l e0) (hl : l.length < 4294967296) :
    Calls Try.prog 95 #[.pointer (some ⟨k, 0, none⟩)] w (Does w k e0 (numO l)) := by
  refine (number_any w k l e0 hx hl).mono ?_
  rintro e w' (⟨h1, h2, h3, h4⟩ | ⟨h1, h2, h3⟩)
  · unfold numO; rw [if_pos h1]; exact ⟨h2, h3, .of_grown h4⟩
  · unfold numO; rw [if_neg h1]; subst h3; exact ⟨h2, hx, .refl _ _⟩
theorem numO_len {l l' : List UInt8} {v : Int} (h : numO l = .ok v l') : l'.length ≤ l.length ∧ -9223372036854775808 ≤ v ∧ v ≤ 9223372036854775807 := by
  unfold numO at h
  split at h
  · injection h with h1 h2
    subst h1 h2
    have := rvV_lt l
    exact ⟨by simp, Pu.zag_lo _ (by omega) (by omega), Pu.zag_hi _ (by omega) (by omega)⟩
  · cases h
end Go.Proofs.Ytlbodandidopfaa
