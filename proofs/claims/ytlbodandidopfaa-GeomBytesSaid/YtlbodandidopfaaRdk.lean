/- The document's reader of records: each of its methods tells what the program's tells. -/
import Derived.Test.YtlbodandidopfaaRdj
namespace Go.Proofs.Ytlbodandidopfaa
open Go.ChangeShapes Go.WideShapes Go.ChangeAt Go.RowKit
set_option linter.unusedSimpArgs false
set_option linter.unusedVariables false
variable {C : Nat}

def QBox (C : Nat) (w : World) (k : Nat) (l : List UInt8) (e : Int) : Prop := ∃ A n c B, w.heap[k]? = some (.cells #[.slice A n c, .int .i64 e] 113 (0, 0)) ∧ RdV w B (.slice A n c) (bv l) ∧ (B ≤ C ∧ C ≤ k)
theorem QBox.lt {w : World} {k : Nat} {l : List UInt8} {e : Int} (h : QBox C w k l e) : k < w.heap.size := by
  obtain ⟨A, n, c, B, h, _⟩ := h
  rcases Nat.lt_or_ge k w.heap.size with h1 | h1
  · exact h1
  · rw [Array.getElem?_eq_none h1] at h; cases h
theorem QBox.next {w w' : World} {k : Nat} {l : List UInt8} {e : Int} (h : QBox C w k l e) (hb : Below w.heap.size w w') : QBox C w' k l e := by
  have hlt := h.lt
  obtain ⟨A, n, c, B, h1, h2, h3⟩ := h
  exact ⟨A, n, c, B, (hb.block k hlt).trans h1, h2.below' hb (by omega), h3⟩
theorem QBox.frm {O : Nat → Prop} {a b : World} {k : Nat} {l : List UInt8} {e : Int} (h : QBox C a k l e) (hf : Frm O a b) (hO : ∀ j, O j → C ≤ j ∧ j ≠ k) : QBox C b k l e := by
  have hlt := h.lt
  obtain ⟨A, n, c, B, h1, h2, h3⟩ := h
  exact ⟨A, n, c, B, (hf.block k hlt (fun x => by have := hO k x; omega)).trans h1, h2.keep fun j hj => hf.block j (by omega) (fun x => by have := hO j x; omega), h3⟩
/-- what the walk needs of a reader -/
theorem QBox.cells {w : World} {k : Nat} {l : List UInt8} {e : Int} (h : QBox C w k l e) : ∃ A c B, w.heap[k]? = some (.cells #[.slice A l.length c, .int .i64 e] 113 (0, 0)) ∧ RdV w B (.slice A l.length c) (bv l) ∧ (B ≤ C ∧ C ≤ k) ∧ l.length ≤ c ∧ c ≤ maxLen ∧
    w.cell? ⟨k, 0, none⟩ = some (.slice A l.length c) ∧ w.cell? ⟨k, 1, none⟩ = some (.int .i64 e) ∧ w.frozen? ⟨k, 0, none⟩ = false ∧ w.frozen? ⟨k, 1, none⟩ = false := by
  obtain ⟨A, n, c, B, hk, hr, hB⟩ := h
  obtain ⟨A', c', ev, hc1, hc2, _⟩ := id hr
  injection ev with ev1 ev2 ev3
  subst ev1 ev3
  rw [bv_length] at ev2 hc1
  subst ev2
  exact ⟨A, c, B, hk, hr, hB, hc1, hc2, cell_of_row w k 0 _ _ (0, 0) hk, cell_of_row w k 1 _ _ (0, 0) hk, frozen_of_row w k 0 _ _ hk, frozen_of_row w k 1 _ _ hk⟩
theorem frm_set (w : World) (k i : Nat) (u : Value) : Frm (· = k) w (w.setCell ⟨k, i, none⟩ u) := (Frm.refl (fun x => x = k) w).setCell k i (Or.inl rfl) u
theorem qreadsTo {w : World} {k : Nat} {l' : List UInt8} {e : Int} {A A' : Option Addr} {n n' c c' B : Nat} (hk : w.heap[k]? = some (.cells #[.slice A n c, .int .i64 e] 113 (0, 0))) (hr : RdV w B (.slice A' n' c') (bv l')) (hB : B ≤ C ∧ C ≤ k) :
    QBox C (w.setCell ⟨k, 0, none⟩ (.slice A' n' c')) k l' e := ⟨A', n', c', B, heap_setCell_same w k 0 _ _ _ hk, hr.setCell (show B ≤ k by omega) _, hB⟩
set_option maxRecDepth 100000 in
set_option maxHeartbeats 4000000 in
theorem qfail_any (w : World) (k : Nat) (l : List UInt8) (ev : Int) (hx : QBox C w k l 0) :
    Calls Try.prog 98 #[.pointer (some ⟨k, 0, none⟩), .int .i64 ev] w (fun e w' => e = .returned (.tuple #[]) ∧ QBox C w' k l ev ∧ Frm (· = k) w w') := by
  obtain ⟨A, c, B, hk, hr, hB, hc1, hc2, k0, k1, f0, f1⟩ := hx.cells
  have hq : QBox C (w.setCell ⟨k, 1, none⟩ (.int .i64 ev)) k l ev := ⟨A, _, c, B, heap_setCell_same w k 1 _ _ _ hk, hr.setCell (show B ≤ k by omega) _, hB⟩
  have HQ := Lib.hid hq
  have HF := Lib.hid (frm_set w k 1 (.int .i64 ev))
  clear hq hr hk hx
  go_enter Try.func98, Try.ntmps98
  go_wp2
  exact ⟨rfl, _, by simp [results], rfl, HQ.out, HF.out⟩
def RdQ (C : Nat) (w : World) (k : Nat) (v : Value) (s : List UInt8 × Int) (e : Ending) (w' : World) : Prop := e = .returned v ∧ QBox C w' k s.1 s.2 ∧ Frm (· = k) w w'
set_option maxRecDepth 100000 in
set_option maxHeartbeats 4000000 in
theorem qint_any (w : World) (k : Nat) (l : List UInt8) (e0 : Int) (hx : QBox C w k l e0) (hl : l.length < 4294967296) :
    Calls Try.prog 80 #[.pointer (some ⟨k, 0, none⟩)] w (RdQ C w k (.int .i64 (readV e0 l (numO l)).1) (readV e0 l (numO l)).2) := by
  obtain ⟨A, c, B, hk, hr, hB, hc1, hc2, k0, k1, f0, f1⟩ := hx.cells
  unfold maxLen at hc2
  by_cases he : e0 = 0
  · subst he
    have hv := rreadvar_any (.slice A l.length c) l hl w B hr
    have hnl := rvN_le l
    have hvl := rvV_lt l
    by_cases hE : Pu.rvE l = 0
    · have hres : readV 0 l (numO l) = (Pu.zag (Pu.rvV l : Nat), l.drop (Pu.rvN l), 0) := by unfold readV numO; simp [hE]
      rw [hres]
      have hz := fun w1 => rzag_any (Pu.rvV l : Nat) (by omega) (by omega) w1
      have htl := hr.tail hnl
      rw [show (bv l).drop (Pu.rvN l) = bv (l.drop (Pu.rvN l)) from by simp [bv]] at htl
      unfold tailV at htl
      have hto := qreadsTo hk htl hB
      clear htl hres
      have hfin : ∀ w', QBox C w' k (l.drop (Pu.rvN l)) 0 → Frm (· = k) w w' → RdQ C w k (.int .i64 (Pu.zag (Pu.rvV l : Nat))) (l.drop (Pu.rvN l), 0) (.returned (.int .i64 (Pu.zag (Pu.rvV l : Nat)))) w' := fun w' h1 h2 => ⟨rfl, h1, h2⟩
      have HFS := Lib.hid (fun u => frm_set w k 0 u)
      rw [hE] at hv
      have HF := Lib.hid hfin
      have HV := Lib.hid hv
      have HZ := Lib.hid hz
      have HT := Lib.hid hto
      clear hfin hv hz hto hr hk hE hc1 hx
      generalize Pu.rvN l = m at *
      generalize Pu.rvV l = u at *
      by_cases hcm : c = m
      · have hT := HT.out
        rw [if_pos hcm, show c - m = 0 from by omega] at hT
        have HT2 := Lib.hid hT
        clear hT HT
        subst hcm
        go_enter Try.func80, Try.ntmps80
        go_wp2_with fail
        refine HV.out.mono ?_
        rintro e w1 ⟨rfl, rfl⟩
        go_wp2_with fail
        refine (HZ.out _).mono ?_
        rintro e w1 ⟨rfl, rfl⟩
        go_wp2
        go_ret
        exact HF.out _ HT2.out (HFS.out _)
      · have hT := HT.out
        rw [if_neg hcm] at hT
        have HT2 := Lib.hid hT
        clear hT HT
        go_enter Try.func80, Try.ntmps80
        go_wp2_with fail
        refine HV.out.mono ?_
        rintro e w1 ⟨rfl, rfl⟩
        go_wp2_with fail
        refine (HZ.out _).mono ?_
        rintro e w1 ⟨rfl, rfl⟩
        go_wp2
        go_ret
        exact HF.out _ HT2.out (HFS.out _)
    · have hres : readV 0 l (numO l) = (0, l, (Pu.rvE l : Int)) := by unfold readV numO; simp [hE]
      rw [hres]
      have hfl := qfail_any w k l (Pu.rvE l : Nat) hx
      have hb : ((Pu.rvE l : Int) == 0) = false := by rw [beq_eq_false_iff_ne]; omega
      have hfin : ∀ w', QBox C w' k l (Pu.rvE l : Nat) → Frm (· = k) w w' → RdQ C w k (.int .i64 0) (l, (Pu.rvE l : Int)) (.returned (.int .i64 0)) w' := fun w' h1 h2 => ⟨rfl, h1, h2⟩
      have HF := Lib.hid hfin
      have HV := Lib.hid hv
      have HFL := Lib.hid hfl
      clear hfin hv hfl hr hk hE hc1 hx hres
      generalize Pu.rvN l = m at *
      generalize Pu.rvV l = u at *
      generalize Pu.rvE l = ee at *
      go_enter Try.func80, Try.ntmps80
      go_wp2_with fail
      refine HV.out.mono ?_
      rintro e w1 ⟨rfl, rfl⟩
      go_wp2_with fail
      refine HFL.out.mono ?_
      rintro e w1 ⟨rfl, h1, h2⟩
      have HR := Lib.hid (HF.out _ h1 h2)
      clear h1 h2
      go_wp2
      go_ret
      exact HR.out
  · have hres : readV e0 l (numO l) = (0, l, e0) := by unfold readV; rw [if_pos he]
    rw [hres]
    have hb : (e0 == 0) = false := by rw [beq_eq_false_iff_ne]; exact he
    have HR := Lib.hid (show RdQ C w k (.int .i64 0) (l, e0) (.returned (.int .i64 0)) w from ⟨rfl, hx, Frm.refl _ _⟩)
    clear he hx hr hk hres
    go_enter Try.func80, Try.ntmps80
    go_wp2
    go_ret
    exact HR.out
set_option maxRecDepth 100000 in
set_option maxHeartbeats 4000000 in
theorem qend_any (w : World) (k : Nat) (l : List UInt8) (e0 : Int) (hx : QBox C w k l e0) :
    Calls Try.prog 81 #[.pointer (some ⟨k, 0, none⟩)] w fun e w' => e = .returned (.int .i64 (if e0 = 0 ∧ l ≠ [] then 22 else e0)) ∧ w = w' := by
  obtain ⟨A, c, B, hk, hr, hB, hc1, hc2, k0, k1, f0, f1⟩ := hx.cells
  unfold maxLen at hc2
  clear hr hk
  by_cases he : e0 = 0
  · subst he
    cases l with
    | nil =>
      simp only [List.length_nil] at k0
      rw [if_neg (by simp)]
      go_enter Try.func81, Try.ntmps81
      go_wp2
      go_ret
      exact ⟨rfl, rfl⟩
    | cons b r =>
      have hp : 0 < (b :: r).length := by simp
      rw [if_pos (by simp)]
      generalize (b :: r).length = m at *
      go_enter Try.func81, Try.ntmps81
      go_wp2
      go_ret
      exact ⟨rfl, rfl⟩
  · have hb : (e0 == 0) = false := by rw [beq_eq_false_iff_ne]; exact he
    rw [if_neg (fun h => he h.1)]
    clear he
    go_enter Try.func81, Try.ntmps81
    go_wp2
    go_ret
    exact ⟨rfl, rfl⟩
/-- what a count comes to -/
def readC (e0 : Int) (l : List UInt8) (o : Out) : Option Int × List UInt8 × Int := if e0 ≠ 0 then (none, l, e0) else match o with
  | .ok v l' => (some v, l', 0)
  | .bad ev l' => (none, l', ev)
def RdC (C : Nat) (w : World) (k : Nat) (s : Option Int × List UInt8 × Int) (e : Ending) (w' : World) : Prop := ∃ z : Int, (∀ v, s.1 = some v → z = v) ∧ e = .returned (.tuple #[.int .i64 z, .bool s.1.isSome]) ∧ QBox C w' k s.2.1 s.2.2 ∧ Frm (· = k) w w'
theorem QBox.drew {w : World} {k : Nat} {l : List UInt8} {e : Int} (h : QBox C w k l e) : QBox C w.drew k l e := h.next ⟨rfl, rfl, rfl, Nat.le_refl _, fun _ _ => rfl⟩
theorem readB_none {e0 most e1 : Int} {l l1 : List UInt8} (h : readC e0 l (within 0 most (numO l)) = (none, l1, e1)) : readB e0 l most = ([], l1, e1) := by
  unfold readC at h
  unfold readB
  split at h
  · rename_i he
    rw [if_pos he]
    injection h with _ h
    injection h with h1 h2
    subst h1 h2
    rfl
  · rename_i he
    rw [if_neg he]
    cases ho : within 0 most (numO l) with
    | ok v l' => rw [ho] at h; injection h with h1 _; cases h1
    | bad ev l' =>
      rw [ho] at h
      injection h with _ h
      injection h with h1 h2
      subst h1 h2
      rfl
theorem readC_some {e0 most e1 v : Int} {l l1 : List UInt8} (h : readC e0 l (within 0 most (numO l)) = (some v, l1, e1)) : e0 = 0 ∧ e1 = 0 ∧ within 0 most (numO l) = .ok v l1 := by
  unfold readC at h
  split at h
  · injection h with h1 _; cases h1
  · rename_i he
    cases ho : within 0 most (numO l) with
    | bad ev l' => rw [ho] at h; injection h with h1 _; cases h1
    | ok v l' =>
      rw [ho] at h
      injection h with h0 h
      injection h with h1 h2
      injection h0 with h0
      subst h0 h1 h2
      exact ⟨by omega, rfl, rfl⟩
theorem readB_some {e0 most e1 v : Int} {l l1 : List UInt8} (h : readC e0 l (within 0 most (numO l)) = (some v, l1, e1)) : readB e0 l most = if v ≤ l1.length then (l1.take v.toNat, l1.drop v.toNat, 0) else ([], l1, 21) := by
  obtain ⟨h1, h2, h3⟩ := readC_some h
  unfold readB
  rw [if_neg (by simp [h1]), h3]
  unfold roomO
  by_cases hv : v ≤ l1.length
  · simp [hv]
  · simp [hv]
theorem addr_map (b off n : Nat) : Option.map (fun x : Addr => x.add n) (some ⟨b, off, none⟩) = some ⟨b, off + n, none⟩ := by
  simp only [Option.map, Addr.add]
  split <;> simp_all
def RdBQ (C : Nat) (w : World) (k : Nat) (x : List UInt8 × List UInt8 × Int) (e : Ending) (w' : World) : Prop := ∃ u, e = .returned u ∧ RdV w' w'.heap.size u (bv x.1) ∧ QBox C w' k x.2.1 x.2.2 ∧ Frm (· = k) w w'
theorem readL_none {e0 most e1 : Int} {l l1 : List UInt8} (h : readC e0 l (within 0 most (numO l)) = (none, l1, e1)) : readL e0 l most = ([], l1, e1) ∧ e1 ≠ 0 := by
  unfold readC at h
  unfold readL
  split at h
  · rename_i he
    rw [if_pos he]
    injection h with _ h
    injection h with h1 h2
    subst h1 h2
    exact ⟨rfl, he⟩
  · rename_i he
    rw [if_neg he]
    cases ho : within 0 most (numO l) with
    | ok v l' => rw [ho] at h; injection h with h1 _; cases h1
    | bad ev l' =>
      rw [ho] at h
      injection h with _ h
      injection h with h1 h2
      subst h1 h2
      have := within_bad ho
      unfold listO
      rw [ho, if_neg (by exact this)]
      exact ⟨rfl, by omega⟩
theorem readL_some {e0 most e1 v : Int} {l l1 : List UInt8} (h : readC e0 l (within 0 most (numO l)) = (some v, l1, e1)) : readL e0 l most = if (nums v.toNat l1).2.2 = 0 then ((nums v.toNat l1).1, (nums v.toNat l1).2.1, (0 : Int)) else ([], (nums v.toNat l1).2.1, (((nums v.toNat l1).2.2 : Nat) : Int)) := by
  obtain ⟨h1, h2, h3⟩ := readC_some h
  unfold readL listO
  rw [if_neg (by simp [h1]), h3]
def RdLQ (C : Nat) (w : World) (k : Nat) (R : List Int × List UInt8 × Int) (e : Ending) (w' : World) : Prop :=
  ∃ u, e = .returned u ∧ w'.ownsRow w.heap.size 3 1 u R.1.length (iv .i64 R.1) ∧ QBox C w' k R.2.1 R.2.2 ∧ Frm (· = k) w w'
end Go.Proofs.Ytlbodandidopfaa
