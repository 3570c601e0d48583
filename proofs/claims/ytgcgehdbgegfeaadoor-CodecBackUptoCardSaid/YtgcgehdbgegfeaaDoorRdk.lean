/- The document's reader of records: each of its methods tells what the program's tells. -/
import Derived.Test.YtgcgehdbgegfeaaDoorRdj
namespace Go.Proofs.YtgcgehdbgegfeaaDoor
open Go.ChangeShapes Go.WideShapes Go.ChangeAt Go.RowKit
set_option linter.unusedSimpArgs false
set_option linter.unusedVariables false
variable {C : Nat}

def QBox (C : Nat) (w : World) (k : Nat) (l : List UInt8) (e : Int) : Prop := ∃ A n c B, w.heap[k]? = some (.cells #[.slice A n c, .int .i64 e] 32 (0, 0)) ∧ RdV w B (.slice A n c) (bv l) ∧ (B ≤ C ∧ C ≤ k)
theorem QBox.lt {w : World} {k : Nat} {l : List UInt8} {e : Int} (h : QBox C w k l e) : k < w.heap.size := by
  obtain ⟨A, n, c, B, h, _⟩ := h
  rcases Nat.lt_or_ge k w.heap.size with h1 | h1
  · exact h1
  · rw [Array.getElem?_eq_none h1] at h; cases h
theorem QBox.next {w w' : World} {k : Nat} {l : List UInt8} {e : Int} (h : QBox C w k l e) (hb : Below w.heap.size w w') : QBox C w' k l e := by
  have hlt := h.lt
  obtain ⟨A, n, c, B, h1, h2, h3⟩ := h
  exact ⟨A, n, c, B, (hb.block k hlt).trans h1, h2.below' hb (by omega), h3⟩
theorem QBox.frm {O : Nat → Prop} {a b : World} {k : Nat} {l : List UInt8} {e : Int} (h : QBox C a k l e) (hf : Frm O a b) (hO : ∀ j, O j → C ≤ j ∧ j ≠ k) : QBox C b k l e := by
  have hlt := h.lt
  obtain ⟨A, n, c, B, h1, h2, h3⟩ := h
  exact ⟨A, n, c, B, (hf.block k hlt (fun x => by have := hO k x; omega)).trans h1, h2.keep fun j hj => hf.block j (by omega) (fun x => by have := hO j x; omega), h3⟩
/-- what the walk needs of a reader -/
theorem QBox.cells {w : World} {k : Nat} {l : List UInt8} {e : Int} (h : QBox C w k l e) : ∃ A c B, w.heap[k]? = some (.cells #[.slice A l.length c, .int .i64 e] 32 (0, 0)) ∧ RdV w B (.slice A l.length c) (bv l) ∧ (B ≤ C ∧ C ≤ k) ∧ l.length ≤ c ∧ c ≤ maxLen ∧
    w.cell? ⟨k, 0, none⟩ = some (.slice A l.length c) ∧ w.cell? ⟨k, 1, none⟩ = some (.int .i64 e) ∧ w.frozen? ⟨k, 0, none⟩ = false ∧ w.frozen? ⟨k, 1, none⟩ = false := by
  obtain ⟨A, n, c, B, hk, hr, hB⟩ := h
  obtain ⟨A', c', ev, hc1, hc2, _⟩ := id hr
  injection ev with ev1 ev2 ev3
  subst ev1 ev3
  rw [bv_length] at ev2 hc1
  subst ev2
  exact ⟨A, c, B, hk, hr, hB, hc1, hc2, cell_of_row w k 0 _ _ (0, 0) hk, cell_of_row w k 1 _ _ (0, 0) hk, frozen_of_row w k 0 _ _ hk, frozen_of_row w k 1 _ _ hk⟩
theorem frm_set (w : World) (k i : Nat) (u : Value) : Frm (· = k) w (w.setCell ⟨k, i, none⟩ u) := (Frm.refl (fun x => x = k) w).setCell k i (Or.inl rfl) u
theorem qreadsTo {w : World} {k : Nat} {l' : List UInt8} {e : Int} {A A' : Option Addr} {n n' c c' B : Nat} (hk : w.heap[k]? = some (.cells #[.slice A n c, .int .i64 e] 32 (0, 0))) (hr : RdV w B (.slice A' n' c') (bv l')) (hB : B ≤ C ∧ C ≤ k) :
    QBox C (w.setCell ⟨k, 0, none⟩ (.slice A' n' c')) k l' e := ⟨A', n', c', B, heap_setCell_same w k 0 _ _ _ hk, hr.setCell (show B ≤ k by omega) _, hB⟩
set_option maxRecDepth 100000 in
set_option maxHeartbeats 4000000 in
theorem qfail_any (w : World) (k : Nat) (l : List UInt8) (ev : Int) (hx : QBox C w k l 0) :
    Calls Tryd.prog 41 #[.pointer (some ⟨k, 0, none⟩), .int .i64 ev] w (fun e w' => e = .returned (.tuple #[]) ∧ QBox C w' k l ev ∧ Frm (· = k) w w') := by
  obtain ⟨A, c, B, hk, hr, hB, hc1, hc2, k0, k1, f0, f1⟩ := hx.cells
  have hq : QBox C (w.setCell ⟨k, 1, none⟩ (.int .i64 ev)) k l ev := ⟨A, _, c, B, heap_setCell_same w k 1 _ _ _ hk, hr.setCell (show B ≤ k by omega) _, hB⟩
  have HQ := Lib.hid hq
  have HF := Lib.hid (frm_set w k 1 (.int .i64 ev))
  clear hq hr hk hx
  go_enter Tryd.func41, Tryd.ntmps41
  go_wp2
  exact ⟨rfl, _, by simp [results], rfl, HQ.out, HF.out⟩
def RdQ (C : Nat) (w : World) (k : Nat) (v : Value) (s : List UInt8 × Int) (e : Ending) (w' : World) : Prop := e = .returned v ∧ QBox C w' k s.1 s.2 ∧ Frm (· = k) w w'
set_option maxRecDepth 100000 in
set_option maxHeartbeats 4000000 in
theorem qint_any (w : World) (k : Nat) (l : List UInt8) (e0 : Int) (hx : QBox C w k l e0) (hl : l.length < 4294967296) :
    Calls Tryd.prog 14 #[.pointer (some ⟨k, 0, none⟩)] w (RdQ C w k (.int .i64 (readV e0 l (numO l)).1) (readV e0 l (numO l)).2) := by
  obtain ⟨A, c, B, hk, hr, hB, hc1, hc2, k0, k1, f0, f1⟩ := hx.cells
  unfold maxLen at hc2
  by_cases he : e0 = 0
  · subst he
    have hv := rreadvar_any (.slice A l.length c) l hl w B hr
    have hnl := rvN_le l
    have hvl := rvV_lt l
    by_cases hE : Pu.rvE l = 0
    · have hres : readV 0 l (numO l) = (Pu.zag (Pu.rvV l : Nat), l.drop (Pu.rvN l), 0) := by unfold readV numO; simp [hE]
      rw [hres]
      have hz := fun w1 => rzag_any (Pu.rvV l : Nat) (by omega) (by omega) w1
      have htl := hr.tail hnl
      rw [show (bv l).drop (Pu.rvN l) = bv (l.drop (Pu.rvN l)) from by simp [bv]] at htl
      unfold tailV at htl
      have hto := qreadsTo hk htl hB
      clear htl hres
      have hfin : ∀ w', QBox C w' k (l.drop (Pu.rvN l)) 0 → Frm (· = k) w w' → RdQ C w k (.int .i64 (Pu.zag (Pu.rvV l : Nat))) (l.drop (Pu.rvN l), 0) (.returned (.int .i64 (Pu.zag (Pu.rvV l : Nat)))) w' := fun w' h1 h2 => ⟨rfl, h1, h2⟩
      have HFS := Lib.hid (fun u => frm_set w k 0 u)
      rw [hE] at hv
      have HF := Lib.hid hfin
      have HV := Lib.hid hv
      have HZ := Lib.hid hz
      have HT := Lib.hid hto
      clear hfin hv hz hto hr hk hE hc1 hx
      generalize Pu.rvN l = m at *
      generalize Pu.rvV l = u at *
      by_cases hcm : c = m
      · have hT := HT.out
        rw [if_pos hcm, show c - m = 0 from by omega] at hT
        have HT2 := Lib.hid hT
        clear hT HT
        subst hcm
        go_enter Tryd.func14, Tryd.ntmps14
        go_wp2_with fail
        refine HV.out.mono ?_
        rintro e w1 ⟨rfl, rfl⟩
        go_wp2_with fail
        refine (HZ.out _).mono ?_
        rintro e w1 ⟨rfl, rfl⟩
        go_wp2
        go_ret
        exact HF.out _ HT2.out (HFS.out _)
      · have hT := HT.out
        rw [if_neg hcm] at hT
        have HT2 := Lib.hid hT
        clear hT HT
        go_enter Tryd.func14, Tryd.ntmps14
        go_wp2_with fail
        refine HV.out.mono ?_
        rintro e w1 ⟨rfl, rfl⟩
        go_wp2_with fail
        refine (HZ.out _).mono ?_
        rintro e w1 ⟨rfl, rfl⟩
        go_wp2
        go_ret
        exact HF.out _ HT2.out (HFS.out _)
    · have hres : readV 0 l (numO l) = (0, l, (Pu.rvE l : Int)) := by unfold readV numO; simp [hE]
      rw [hres]
      have hfl := qfail_any w k l (Pu.rvE l : Nat) hx
      have hb : ((Pu.rvE l : Int) == 0) = false := by rw [beq_eq_false_iff_ne]; omega
      have hfin : ∀ w', QBox C w' k l (Pu.rvE l : Nat) → Frm (· = k) w w' → RdQ C w k (.int .i64 0) (l, (Pu.rvE l : Int)) (.returned (.int .i64 0)) w' := fun w' h1 h2 => ⟨rfl, h1, h2⟩
      have HF := Lib.hid hfin
      have HV := Lib.hid hv
      have HFL := Lib.hid hfl
      clear hfin hv hfl hr hk hE hc1 hx hres
      generalize Pu.rvN l = m at *
      generalize Pu.rvV l = u at *
      generalize Pu.rvE l = ee at *
      go_enter Tryd.func14, Tryd.ntmps14
      go_wp2_with fail
      refine HV.out.mono ?_
      rintro e w1 ⟨rfl, rfl⟩
      go_wp2_with fail
      refine HFL.out.mono ?_
      rintro e w1 ⟨rfl, h1, h2⟩
      have HR := Lib.hid (HF.out _ h1 h2)
      clear h1 h2
      go_wp2
      go_ret
      exact HR.out
  · have hres : readV e0 l (numO l) = (0, l, e0) := by unfold readV; rw [if_pos he]
    rw [hres]
    have hb : (e0 == 0) = false := by rw [beq_eq_false_iff_ne]; exact he
    have HR := Lib.hid (show RdQ C w k (.int .i64 0) (l, e0) (.returned (.int .i64 0)) w from ⟨rfl, hx, Frm.refl _ _⟩)
    clear he hx hr hk hres
    go_enter Tryd.func14, Tryd.ntmps14
    go_wp2
    go_ret
    exact HR.out
set_option maxRecDepth 100000 in
set_option maxHeartbeats 4000000 in
theorem qend_any (w : World) (k : Nat) (l : List UInt8) (e0 : Int) (hx : QBox C w k l e0) :
    Calls Tryd.prog 23 #[.pointer (some ⟨k, 0, none⟩)] w fun e w' => e = .returned (.int .i64 (if e0 = 0 ∧ l ≠ [] then 22 else e0)) ∧ w = w' := by
  obtain ⟨A, c, B, hk, hr, hB, hc1, hc2, k0, k1, f0, f1⟩ := hx.cells
  unfold maxLen at hc2
  clear hr hk
  by_cases he : e0 = 0
  · subst he
    cases l with
    | nil =>
      simp only [List.length_nil] at k0
      rw [if_neg (by simp)]
      go_enter Tryd.func23, Tryd.ntmps23
      go_wp2
      go_ret
      exact ⟨rfl, rfl⟩
    | cons b r =>
      have hp : 0 < (b :: r).length := by simp
      rw [if_pos (by simp)]
      generalize (b :: r).length = m at *
      go_enter Tryd.func23, Tryd.ntmps23
      go_wp2
      go_ret
      exact ⟨rfl, rfl⟩
  · have hb : (e0 == 0) = false := by rw [beq_eq_false_iff_ne]; exact he
    rw [if_neg (fun h => he h.1)]
    clear he
    go_enter Tryd.func23, Tryd.ntmps23
    go_wp2
    go_ret
    exact ⟨rfl, rfl⟩
set_option maxRecDepth 100000 in
set_option maxHeartbeats 4000000 in
theorem qbetween_any (w : World) (k : Nat) (l : List UInt8) (e0 lo hi : Int) (hx : QBox C w k l e0) (hl : l.length < 4294967296) :
    Calls Tryd.prog 21 #[.pointer (some ⟨k, 0, none⟩), .int .i64 lo, .int .i64 hi] w (RdQ C w k (.int .i64 (readV e0 l (within lo hi (numO l))).1) (readV e0 l (within lo hi (numO l))).2) := by
  have hq := qint_any w k l e0 hx hl
  by_cases he : e0 = 0
  · subst he
    cases ho : numO l with
    | bad ev l' =>
      have hev := (numO_bad ho).1
      have hres : readV 0 l (within lo hi (Out.bad ev l')) = (0, l', (ev : Int)) := by simp [readV, within]
      have hres1 : readV 0 l (Out.bad ev l') = (0, l', (ev : Int)) := by simp [readV]
      rw [hres]
      rw [ho, hres1] at hq
      have hb : ((ev : Int) == 0) = false := by rw [beq_eq_false_iff_ne]; omega
      have HQ := Lib.hid hq
      clear hq hx hres hres1 ho hev
      go_enter Tryd.func21, Tryd.ntmps21
      go_wp2_with fail
      refine HQ.out.mono ?_
      rintro e w1 ⟨rfl, h1, h2⟩
      obtain ⟨A, c, B, hk, hr, hB, hc1, hc2, k0, k1, f0, f1⟩ := h1.cells
      have HR := Lib.hid (show RdQ C w k (.int .i64 0) (l', (ev : Int)) (.returned (.int .i64 0)) w1 from ⟨rfl, h1, h2⟩)
      clear hk hr h1 h2 hc1 hc2
      dsimp only at k1
      go_wp2
      go_ret
      exact HR.out
    | ok v l' =>
      have hres1 : readV 0 l (Out.ok v l') = (v, l', 0) := by simp [readV]
      rw [ho, hres1] at hq
      have hfl := fun w1 (h : QBox C w1 k l' 0) => qfail_any w1 k l' 22 h
      by_cases hin : lo ≤ v ∧ v ≤ hi
      · have hres : readV 0 l (within lo hi (Out.ok v l')) = (v, l', 0) := by simp [readV, within, hin]
        rw [hres]
        obtain ⟨hi1, hi2⟩ := hin
        have HQ := Lib.hid hq
        clear hq hx hres hres1 ho hfl
        go_enter Tryd.func21, Tryd.ntmps21
        go_wp2_with fail
        refine HQ.out.mono ?_
        rintro e w1 ⟨rfl, h1, h2⟩
        obtain ⟨A, c, B, hk, hr, hB, hc1, hc2, k0, k1, f0, f1⟩ := h1.cells
        have HR := Lib.hid (show RdQ C w k (.int .i64 v) (l', (0 : Int)) (.returned (.int .i64 v)) w1 from ⟨rfl, h1, h2⟩)
        clear hk hr h1 h2 hc1 hc2
        dsimp only at k1
        have d1 : decide (v < lo) = false := decide_eq_false (by omega)
        have d2 : decide (hi < v) = false := decide_eq_false (by omega)
        go_wp2
        go_ret
        exact HR.out
      · have hres : readV 0 l (within lo hi (Out.ok v l')) = (0, l', 22) := by simp [readV, within, hin]
        rw [hres]
        have HQ := Lib.hid hq
        have HFL := Lib.hid hfl
        clear hq hx hres hres1 ho hfl
        by_cases h0 : v < lo
        · clear hin
          go_enter Tryd.func21, Tryd.ntmps21
          go_wp2_with fail
          refine HQ.out.mono ?_
          rintro e w1 ⟨rfl, h1, h2⟩
          obtain ⟨A, c, B, hk, hr, hB, hc1, hc2, k0, k1, f0, f1⟩ := h1.cells
          have H1 := Lib.hid h1
          have H2 := Lib.hid h2
          clear hk hr h1 h2 hc1 hc2
          dsimp only at k1
          go_wp2_with fail
          refine (HFL.out w1 H1.out).mono ?_
          rintro e w2 ⟨rfl, h3, h4⟩
          have HR := Lib.hid (show RdQ C w k (.int .i64 0) (l', (22 : Int)) (.returned (.int .i64 0)) w2 from ⟨rfl, h3, H2.out.trans h4⟩)
          clear h3 h4
          go_wp2
          go_ret
          exact HR.out
        · have h9 : hi < v := by omega
          clear hin
          have d1 : decide (v < lo) = false := decide_eq_false (by omega)
          go_enter Tryd.func21, Tryd.ntmps21
          go_wp2_with fail
          refine HQ.out.mono ?_
          rintro e w1 ⟨rfl, h1, h2⟩
          obtain ⟨A, c, B, hk, hr, hB, hc1, hc2, k0, k1, f0, f1⟩ := h1.cells
          have H1 := Lib.hid h1
          have H2 := Lib.hid h2
          clear hk hr h1 h2 hc1 hc2
          dsimp only at k1
          go_wp2_with fail
          refine (HFL.out w1 H1.out).mono ?_
          rintro e w2 ⟨rfl, h3, h4⟩
          have HR := Lib.hid (show RdQ C w k (.int .i64 0) (l', (22 : Int)) (.returned (.int .i64 0)) w2 from ⟨rfl, h3, H2.out.trans h4⟩)
          clear h3 h4
          go_wp2
          go_ret
          exact HR.out
  · have hres : ∀ o, readV e0 l o = (0, l, e0) := fun o => by unfold readV; rw [if_pos he]
    rw [hres] at hq ⊢
    have hb : (e0 == 0) = false := by rw [beq_eq_false_iff_ne]; exact he
    have HQ := Lib.hid hq
    clear hq hx hres he
    go_enter Tryd.func21, Tryd.ntmps21
    go_wp2_with fail
    refine HQ.out.mono ?_
    rintro e w1 ⟨rfl, h1, h2⟩
    obtain ⟨A, c, B, hk, hr, hB, hc1, hc2, k0, k1, f0, f1⟩ := h1.cells
    have HR := Lib.hid (show RdQ C w k (.int .i64 0) (l, e0) (.returned (.int .i64 0)) w1 from ⟨rfl, h1, h2⟩)
    clear hk hr h1 h2 hc1 hc2
    dsimp only at k1
    go_wp2
    go_ret
    exact HR.out
/-- what a count comes to -/
def readC (e0 : Int) (l : List UInt8) (o : Out) : Option Int × List UInt8 × Int := if e0 ≠ 0 then (none, l, e0) else match o with
  | .ok v l' => (some v, l', 0)
  | .bad ev l' => (none, l', ev)
def RdC (C : Nat) (w : World) (k : Nat) (s : Option Int × List UInt8 × Int) (e : Ending) (w' : World) : Prop := ∃ z : Int, (∀ v, s.1 = some v → z = v) ∧ e = .returned (.tuple #[.int .i64 z, .bool s.1.isSome]) ∧ QBox C w' k s.2.1 s.2.2 ∧ Frm (· = k) w w'
theorem QBox.drew {w : World} {k : Nat} {l : List UInt8} {e : Int} (h : QBox C w k l e) : QBox C w.drew k l e := h.next ⟨rfl, rfl, rfl, Nat.le_refl _, fun _ _ => rfl⟩
set_option maxRecDepth 100000 in
set_option maxHeartbeats 4000000 in
theorem qcount_any (w : World) (k : Nat) (l : List UInt8) (e0 most : Int) (hx : QBox C w k l e0) (hl : l.length < 4294967296) :
    Calls Tryd.prog 46 #[.pointer (some ⟨k, 0, none⟩), .int .i64 most] w (RdC C w k (readC e0 l (within 0 most (numO l)))) := by
  have hq := qint_any w k l e0 hx hl
  by_cases he : e0 = 0
  · subst he
    cases ho : numO l with
    | bad ev l' =>
      have hev := (numO_bad ho).1
      have hres : readC 0 l (within 0 most (Out.bad ev l')) = (none, l', (ev : Int)) := by simp [readC, within]
      have hres1 : readV 0 l (Out.bad ev l') = (0, l', (ev : Int)) := by simp [readV]
      rw [hres]
      rw [ho, hres1] at hq
      have hb : ((ev : Int) == 0) = false := by rw [beq_eq_false_iff_ne]; omega
      have HQ := Lib.hid hq
      clear hq hx hres hres1 ho hev
      go_enter Tryd.func46, Tryd.ntmps46
      go_wp2_with fail
      refine HQ.out.mono ?_
      rintro e w1 ⟨rfl, h1, h2⟩
      obtain ⟨A, c, B, hk, hr, hB, hc1, hc2, k0, k1, f0, f1⟩ := h1.cells
      have HR := Lib.hid (show RdC C w k (none, l', (ev : Int)) (.returned (.tuple #[.int .i64 0, .bool false])) w1.drew from ⟨0, by simp, rfl, h1.drew, h2.drew⟩)
      clear hk hr h1 h2 hc1 hc2
      dsimp only at k1
      go_wp2
      go_region
      go_wp2
      go_ret2
      exact HR.out
    | ok v l' =>
      have hres1 : readV 0 l (Out.ok v l') = (v, l', 0) := by simp [readV]
      rw [ho, hres1] at hq
      have hfl := fun w1 (h : QBox C w1 k l' 0) => qfail_any w1 k l' 22 h
      by_cases hin : 0 ≤ v ∧ v ≤ most
      · have hres : readC 0 l (within 0 most (Out.ok v l')) = (some v, l', 0) := by simp [readC, within, hin]
        rw [hres]
        obtain ⟨hi1, hi2⟩ := hin
        have HQ := Lib.hid hq
        clear hq hx hres hres1 ho hfl
        go_enter Tryd.func46, Tryd.ntmps46
        go_wp2_with fail
        refine HQ.out.mono ?_
        rintro e w1 ⟨rfl, h1, h2⟩
        obtain ⟨A, c, B, hk, hr, hB, hc1, hc2, k0, k1, f0, f1⟩ := h1.cells
        have HR := Lib.hid (show RdC C w k (some v, l', (0 : Int)) (.returned (.tuple #[.int .i64 v, .bool true])) w1.drew from ⟨v, by simp, rfl, h1.drew, h2.drew⟩)
        clear hk hr h1 h2 hc1 hc2
        dsimp only at k1
        have d1 : decide (v < 0) = false := decide_eq_false (by omega)
        have d2 : decide (most < v) = false := decide_eq_false (by omega)
        go_wp2
        go_region
        go_wp2
        go_ret2
        exact HR.out
      · have hres : readC 0 l (within 0 most (Out.ok v l')) = (none, l', 22) := by simp [readC, within, hin]
        rw [hres]
        have HQ := Lib.hid hq
        have HFL := Lib.hid hfl
        clear hq hx hres hres1 ho hfl
        by_cases h0 : v < 0
        · clear hin
          go_enter Tryd.func46, Tryd.ntmps46
          go_wp2_with fail
          refine HQ.out.mono ?_
          rintro e w1 ⟨rfl, h1, h2⟩
          obtain ⟨A, c, B, hk, hr, hB, hc1, hc2, k0, k1, f0, f1⟩ := h1.cells
          have H1 := Lib.hid h1
          have H2 := Lib.hid h2
          clear hk hr h1 h2 hc1 hc2
          dsimp only at k1
          go_wp2_with fail
          refine (HFL.out w1 H1.out).mono ?_
          rintro e w2 ⟨rfl, h3, h4⟩
          obtain ⟨A2, c2, B2, hk, hr, hB2, hc1, hc2, l0, l1, g0, g1⟩ := h3.cells
          have HR := Lib.hid (show RdC C w k (none, l', (22 : Int)) (.returned (.tuple #[.int .i64 v, .bool false])) w2.drew from ⟨v, by simp, rfl, h3.drew, (H2.out.trans h4).drew⟩)
          clear h3 h4 hk hr hc1 hc2
          go_wp2
          go_region
          go_wp2
          go_ret2
          exact HR.out
        · have h9 : most < v := by omega
          clear hin
          have d1 : decide (v < 0) = false := decide_eq_false (by omega)
          go_enter Tryd.func46, Tryd.ntmps46
          go_wp2_with fail
          refine HQ.out.mono ?_
          rintro e w1 ⟨rfl, h1, h2⟩
          obtain ⟨A, c, B, hk, hr, hB, hc1, hc2, k0, k1, f0, f1⟩ := h1.cells
          have H1 := Lib.hid h1
          have H2 := Lib.hid h2
          clear hk hr h1 h2 hc1 hc2
          dsimp only at k1
          go_wp2_with fail
          refine (HFL.out w1 H1.out).mono ?_
          rintro e w2 ⟨rfl, h3, h4⟩
          obtain ⟨A2, c2, B2, hk, hr, hB2, hc1, hc2, l0, l1, g0, g1⟩ := h3.cells
          have HR := Lib.hid (show RdC C w k (none, l', (22 : Int)) (.returned (.tuple #[.int .i64 v, .bool false])) w2.drew from ⟨v, by simp, rfl, h3.drew, (H2.out.trans h4).drew⟩)
          clear h3 h4 hk hr hc1 hc2
          go_wp2
          go_region
          go_wp2
          go_ret2
          exact HR.out
  · have hres : ∀ o, readC e0 l o = (none, l, e0) := fun o => by unfold readC; rw [if_pos he]
    have hres1 : ∀ o, readV e0 l o = (0, l, e0) := fun o => by unfold readV; rw [if_pos he]
    rw [hres1] at hq
    rw [hres]
    have hb : (e0 == 0) = false := by rw [beq_eq_false_iff_ne]; exact he
    have HQ := Lib.hid hq
    clear hq hx hres hres1 he
    go_enter Tryd.func46, Tryd.ntmps46
    go_wp2_with fail
    refine HQ.out.mono ?_
    rintro e w1 ⟨rfl, h1, h2⟩
    obtain ⟨A, c, B, hk, hr, hB, hc1, hc2, k0, k1, f0, f1⟩ := h1.cells
    have HR := Lib.hid (show RdC C w k (none, l, e0) (.returned (.tuple #[.int .i64 0, .bool false])) w1.drew from ⟨0, by simp, rfl, h1.drew, h2.drew⟩)
    clear hk hr h1 h2 hc1 hc2
    dsimp only at k1
    go_wp2
    go_region
    go_wp2
    go_ret2
    exact HR.out
theorem readB_none {e0 most e1 : Int} {l l1 : List UInt8} (h : readC e0 l (within 0 most (numO l)) = (none, l1, e1)) : readB e0 l most = ([], l1, e1) := by
  unfold readC at h
  unfold readB
  split at h
  · rename_i he
    rw [if_pos he]
    injection h with _ h
    injection h with h1 h2
    subst h1 h2
    rfl
  · rename_i he
    rw [if_neg he]
    cases ho : within 0 most (numO l) with
    | ok v l' => rw [ho] at h; injection h with h1 _; cases h1
    | bad ev l' =>
      rw [ho] at h
      injection h with _ h
      injection h with h1 h2
      subst h1 h2
      rfl
theorem readC_some {e0 most e1 v : Int} {l l1 : List UInt8} (h : readC e0 l (within 0 most (numO l)) = (some v, l1, e1)) : e0 = 0 ∧ e1 = 0 ∧ within 0 most (numO l) = .ok v l1 := by
  unfold readC at h
  split at h
  · injection h with h1 _; cases h1
  · rename_i he
    cases ho : within 0 most (numO l) with
    | bad ev l' => rw [ho] at h; injection h with h1 _; cases h1
    | ok v l' =>
      rw [ho] at h
      injection h with h0 h
      injection h with h1 h2
      injection h0 with h0
      subst h0 h1 h2
      exact ⟨by omega, rfl, rfl⟩
theorem readB_some {e0 most e1 v : Int} {l l1 : List UInt8} (h : readC e0 l (within 0 most (numO l)) = (some v, l1, e1)) : readB e0 l most = if v ≤ l1.length then (l1.take v.toNat, l1.drop v.toNat, 0) else ([], l1, 21) := by
  obtain ⟨h1, h2, h3⟩ := readC_some h
  unfold readB
  rw [if_neg (by simp [h1]), h3]
  unfold roomO
  by_cases hv : v ≤ l1.length
  · simp [hv]
  · simp [hv]
theorem addr_map (b off n : Nat) : Option.map (fun x : Addr => x.add n) (some ⟨b, off, none⟩) = some ⟨b, off + n, none⟩ := by
  simp only [Option.map, Addr.add]
  split <;> simp_all
def RdBQ (C : Nat) (w : World) (k : Nat) (x : List UInt8 × List UInt8 × Int) (e : Ending) (w' : World) : Prop := ∃ u, e = .returned u ∧ RdV w' w'.heap.size u (bv x.1) ∧ QBox C w' k x.2.1 x.2.2 ∧ Frm (· = k) w w'
set_option maxRecDepth 100000 in
set_option maxHeartbeats 4000000 in
theorem qbytes_any (w : World) (k : Nat) (l : List UInt8) (e0 most : Int) (hx : QBox C w k l e0) (hl : l.length < 4294967296) :
    Calls Tryd.prog 16 #[.pointer (some ⟨k, 0, none⟩), .int .i64 most] w (RdBQ C w k (readB e0 l most)) := by
  have hq := qcount_any w k l e0 most hx hl
  have hlt := hx.lt
  obtain ⟨⟨o, l1, e1⟩, hC⟩ : ∃ s, readC e0 l (within 0 most (numO l)) = s := ⟨_, rfl⟩
  rw [hC] at hq
  cases o with
  | none =>
    rw [readB_none hC]
    have HQ := Lib.hid hq
    clear hq hx hC
    go_enter Tryd.func16, Tryd.ntmps16
    go_wp2_with fail
    refine HQ.out.mono ?_
    rintro e w1 ⟨z, _, rfl, h1, h2⟩
    have HR := Lib.hid (show RdBQ C w k ([], l1, e1) (.returned (.slice none 0 0)) w1 from ⟨_, rfl, RdV.nil_ _ _, h1, h2⟩)
    clear h1 h2
    dsimp only [Option.isSome]
    go_wp2
    go_ret
    exact HR.out
  | some v =>
    rw [readB_some hC]
    obtain ⟨q1, q2, q3⟩ := readC_some hC
    obtain ⟨v0, v1, hll⟩ := within_ok q3
    subst q1 q2
    obtain ⟨n, rfl⟩ := Int.eq_ofNat_of_zero_le v0
    have hfl := fun w1 (h : QBox C w1 k l1 0) => qfail_any w1 k l1 21 h
    have HQ := Lib.hid hq
    have HFL := Lib.hid hfl
    clear hq hx hC hfl q3 v0
    by_cases hle : n ≤ l1.length
    · rw [if_pos (by omega), Int.toNat_natCast]
      have hlt2 : (l1.take n).length = n := by rw [List.length_take, Nat.min_eq_left hle]
      go_enter Tryd.func16, Tryd.ntmps16
      go_wp2_with fail
      refine HQ.out.mono ?_
      rintro e w1 ⟨z, hz, rfl, h1, h2⟩
      obtain rfl := hz _ rfl
      clear hz
      obtain ⟨A, c, B, hk, hr, hB, hc1, hc2, k0, k1, f0, f1⟩ := h1.cells
      dsimp only at hk hr hc1 k0 k1
      unfold maxLen at hc2
      have hs1 := h2.size
      have hfr := (RdV.front hr n (by rw [bv_length]; exact hle)).alloc (show B ≤ w1.heap.size by omega) (.cells #[] 5)
      rw [show (bv l1).take n = bv (l1.take n) from by simp [bv]] at hfr
      have ka : (w1.alloc (.cells #[] 5)).cell? ⟨k, 0, none⟩ = some (.slice A l1.length c) := cell_of_row _ k 0 _ _ (0, 0) ((Below.heap_alloc _ _ _ (by omega)).trans hk)
      have HFR := Lib.hid hfr
      have HE2 := Lib.hid (Emp.new w1 5)
      have HRR := Lib.hid hr
      have HK := Lib.hid hk
      have H2 := Lib.hid h2
      clear hfr hr hk h1 h2
      dsimp only [Option.isSome]
      have d9 : decide ((l1.length : Int) < (n : Int)) = false := decide_eq_false (by omega)
      rcases Nat.eq_zero_or_pos l1.length with hz | hz
      · obtain rfl : l1 = [] := List.eq_nil_of_length_eq_zero hz
        obtain rfl : n = 0 := by simpa using hle
        simp only [List.length_nil, List.take_nil, List.drop_nil] at *
        rcases A with _ | a <;> (
          go_wp2_with (at_builtin; refine wpList_append_rd _ rfl (.tmp 25) (.tmp 31) 23 rfl w1.heap.size 5 (.int .u8 0) 1 Tryd.underlying23 Tryd.inf5 rfl _ 0 [] rfl (Emp.own HE2.out (Nat.le_refl _)) _ rfl 0 [] (RdV.zeroC _ 0 _ _ (by omega)) (by simp) (by simp) (by omega) (by simp) ?_; intro v3 w3 ho3 hg3 _; simp only [List.length_nil, Nat.add_zero, List.append_nil] at ho3; have hg3' : (w1.alloc (.cells #[] 5)).grownBy w3 (some w1.heap.size) := hg3; have hb3 : Below w1.heap.size w1 w3 := (((Below.refl _ w1).alloc (Nat.le_refl _) _).grown hg3' (by simp) (by intro g hg; injection hg with hg; omega)); have bk := (hb3.block k (by omega)).trans HK.out; have k0' : w3.cell? ⟨k, 0, none⟩ = _ := cell_of_row _ k 0 _ _ (0, 0) bk; simp at k0'; have f0' : w3.frozen? ⟨k, 0, none⟩ = false := frozen_of_row _ k 0 _ _ bk; have hto := fun A' c' (hc : c' ≤ 9223372036854775807) => qreadsTo (l' := []) bk (RdV.zeroC w3 0 A' c' hc) ⟨Nat.zero_le _, hB.2⟩; have ho4 := fun u => own_frm (O := (· = k)) ho3 (Frm.setCell (O := (· = k)) (Frm.refl _ _) k 0 (Or.inl rfl) u) (by omega); have hf4 := fun u => (H2.out.trans (Frm.of_below hb3)).setCell k 0 (Or.inl rfl) u; have HTO := Lib.hid hto; have HO4 := Lib.hid ho4; have HF4 := Lib.hid hf4; clear hto ho4 hf4 bk ho3 hg3 hg3')
          all_goals (first | (go_ret; exact ⟨_, rfl, RdV.own (HO4.out _), HTO.out _ _ (by omega), HF4.out _⟩) | (go_ret; exact ⟨_, rfl, RdV.own (HO4.out _), HTO.out _ _ (by simp), HF4.out _⟩)))
      · obtain ⟨A', c', e9, _, _, hs⟩ := id HRR.out
        obtain ⟨b, off, hA, _, _⟩ := hs (by rw [bv_length]; exact hz)
        have e8 : A = A' := by injection e9
        clear hs e9
        subst e8
        subst hA
        by_cases hcn : n = c
        · subst hcn
          go_wp2_with (at_builtin; refine wpList_append_rd _ rfl (.tmp 25) (.tmp 31) 23 rfl w1.heap.size 5 (.int .u8 0) 1 Tryd.underlying23 Tryd.inf5 rfl _ 0 [] rfl (Emp.own HE2.out (Nat.le_refl _)) _ rfl _ (bv (l1.take n)) HFR.out (bv_one _) (by (rw [bv_length, hlt2]; try omega)) (by omega) (by (simp; try omega)) ?_; intro v3 w3 ho3 hg3 _; rw [Nat.zero_add, bv_length, List.nil_append, hlt2] at ho3; have hg3' : (w1.alloc (.cells #[] 5)).grownBy w3 (some w1.heap.size) := hg3; have hb3 : Below w1.heap.size w1 w3 := (((Below.refl _ w1).alloc (Nat.le_refl _) _).grown hg3' (by simp) (by intro g hg; injection hg with hg; omega)); have bk := (hb3.block k (by omega)).trans HK.out; have k0' : w3.cell? ⟨k, 0, none⟩ = some (.slice (some ⟨b, off, none⟩) l1.length n) := cell_of_row _ k 0 _ _ (0, 0) bk; have f0' : w3.frozen? ⟨k, 0, none⟩ = false := frozen_of_row _ k 0 _ _ bk; have hr3 := (HRR.out.below' hb3 (by omega)).tail (k := n) hle; rw [show (bv l1).drop n = bv (l1.drop n) from by simp [bv]] at hr3; unfold tailV at hr3; have hto := qreadsTo bk hr3 hB; rw [if_pos rfl, show n - n = 0 from by omega, show l1.length - n = 0 from by omega] at hto; have ho4 := fun u => own_frm (O := (· = k)) ho3 (Frm.setCell (O := (· = k)) (Frm.refl _ _) k 0 (Or.inl rfl) u) (by omega); have hf4 := fun u => (H2.out.trans (Frm.of_below hb3)).setCell k 0 (Or.inl rfl) u; have HTO := Lib.hid hto; have HO4 := Lib.hid ho4; have HF4 := Lib.hid hf4; clear hto ho4 hf4 bk hr3 ho3 hg3 hg3')
          all_goals (go_ret; exact ⟨_, rfl, RdV.own (HO4.out _), HTO.out, HF4.out _⟩)
        · go_wp2_with (at_builtin; refine wpList_append_rd _ rfl (.tmp 25) (.tmp 31) 23 rfl w1.heap.size 5 (.int .u8 0) 1 Tryd.underlying23 Tryd.inf5 rfl _ 0 [] rfl (Emp.own HE2.out (Nat.le_refl _)) _ rfl _ (bv (l1.take n)) HFR.out (bv_one _) (by (rw [bv_length, hlt2]; try omega)) (by omega) (by (simp; try omega)) ?_; intro v3 w3 ho3 hg3 _; rw [Nat.zero_add, bv_length, List.nil_append, hlt2] at ho3; have hg3' : (w1.alloc (.cells #[] 5)).grownBy w3 (some w1.heap.size) := hg3; have hb3 : Below w1.heap.size w1 w3 := (((Below.refl _ w1).alloc (Nat.le_refl _) _).grown hg3' (by simp) (by intro g hg; injection hg with hg; omega)); have bk := (hb3.block k (by omega)).trans HK.out; have k0' : w3.cell? ⟨k, 0, none⟩ = some (.slice (some ⟨b, off, none⟩) l1.length c) := cell_of_row _ k 0 _ _ (0, 0) bk; have f0' : w3.frozen? ⟨k, 0, none⟩ = false := frozen_of_row _ k 0 _ _ bk; have hr3 := (HRR.out.below' hb3 (by omega)).tail (k := n) hle; rw [show (bv l1).drop n = bv (l1.drop n) from by simp [bv]] at hr3; unfold tailV at hr3; have hto := qreadsTo bk hr3 hB; rw [if_neg (fun h => hcn h.symm)] at hto; rw [addr_map] at hto; have ho4 := fun u => own_frm (O := (· = k)) ho3 (Frm.setCell (O := (· = k)) (Frm.refl _ _) k 0 (Or.inl rfl) u) (by omega); have hf4 := fun u => (H2.out.trans (Frm.of_below hb3)).setCell k 0 (Or.inl rfl) u; have HTO := Lib.hid hto; have HO4 := Lib.hid ho4; have HF4 := Lib.hid hf4; clear hto ho4 hf4 bk hr3 ho3 hg3 hg3')
          all_goals (go_ret; exact ⟨_, rfl, RdV.own (HO4.out _), HTO.out, HF4.out _⟩)
    · rw [if_neg (by omega)]
      go_enter Tryd.func16, Tryd.ntmps16
      go_wp2_with fail
      refine HQ.out.mono ?_
      rintro e w1 ⟨z, hz, rfl, h1, h2⟩
      obtain rfl := hz _ rfl
      clear hz
      obtain ⟨A, c, B, hk, hr, hB, hc1, hc2, k0, k1, f0, f1⟩ := h1.cells
      dsimp only at hk hr hc1 k0 k1
      unfold maxLen at hc2
      have d9 : decide ((l1.length : Int) < (n : Int)) = true := decide_eq_true (by omega)
      have H1 := Lib.hid h1
      have H2 := Lib.hid h2
      clear hk hr h1 h2
      dsimp only [Option.isSome]
      go_wp2_with fail
      refine (HFL.out w1 H1.out).mono ?_
      rintro e w2 ⟨rfl, h3, h4⟩
      have HR := Lib.hid (show RdBQ C w k ([], l1, 21) (.returned (.slice none 0 0)) w2 from ⟨_, rfl, RdV.nil_ _ _, h3, H2.out.trans h4⟩)
      clear h3 h4
      go_wp2
      go_ret
      exact HR.out
theorem readL_none {e0 most e1 : Int} {l l1 : List UInt8} (h : readC e0 l (within 0 most (numO l)) = (none, l1, e1)) : readL e0 l most = ([], l1, e1) ∧ e1 ≠ 0 := by
  unfold readC at h
  unfold readL
  split at h
  · rename_i he
    rw [if_pos he]
    injection h with _ h
    injection h with h1 h2
    subst h1 h2
    exact ⟨rfl, he⟩
  · rename_i he
    rw [if_neg he]
    cases ho : within 0 most (numO l) with
    | ok v l' => rw [ho] at h; injection h with h1 _; cases h1
    | bad ev l' =>
      rw [ho] at h
      injection h with _ h
      injection h with h1 h2
      subst h1 h2
      have := within_bad ho
      unfold listO
      rw [ho, if_neg (by exact this)]
      exact ⟨rfl, by omega⟩
theorem readL_some {e0 most e1 v : Int} {l l1 : List UInt8} (h : readC e0 l (within 0 most (numO l)) = (some v, l1, e1)) : readL e0 l most = if (nums v.toNat l1).2.2 = 0 then ((nums v.toNat l1).1, (nums v.toNat l1).2.1, (0 : Int)) else ([], (nums v.toNat l1).2.1, (((nums v.toNat l1).2.2 : Nat) : Int)) := by
  obtain ⟨h1, h2, h3⟩ := readC_some h
  unfold readL listO
  rw [if_neg (by simp [h1]), h3]
def RdLQ (C : Nat) (w : World) (k : Nat) (R : List Int × List UInt8 × Int) (e : Ending) (w' : World) : Prop :=
  ∃ u, e = .returned u ∧ w'.ownsRow w.heap.size 3 1 u R.1.length (iv .i64 R.1) ∧ QBox C w' k R.2.1 R.2.2 ∧ Frm (· = k) w w'
set_option maxRecDepth 100000 in
set_option maxHeartbeats 8000000 in
theorem qlist_any (w : World) (k : Nat) (l : List UInt8) (e0 most : Int) (hm : most ≤ 9223372036854775807) (hx : QBox C w k l e0) (hl : l.length < 4294967296) :
    Calls Tryd.prog 19 #[.pointer (some ⟨k, 0, none⟩), .int .i64 most] w (RdLQ C w k (readL e0 l most)) := by
  have hq := qcount_any w k l e0 most hx hl
  have hlt := hx.lt
  have hCk : C ≤ k := by
    obtain ⟨_, _, _, _, _, hBC, _⟩ := hx.cells
    exact hBC.2
  have hnil : ∀ w' : World, w'.ownsRow w.heap.size 3 1 (.slice none 0 0) 0 (iv .i64 []) := fun w' => ⟨by simp [iv], Or.inl ⟨rfl, rfl⟩⟩
  obtain ⟨⟨o, l1, e1⟩, hC⟩ : ∃ s, readC e0 l (within 0 most (numO l)) = s := ⟨_, rfl⟩
  rw [hC] at hq
  cases o with
  | none =>
    obtain ⟨hr, he1⟩ := readL_none hC
    rw [hr]
    have HQ := Lib.hid hq
    have HNIL := Lib.hid hnil
    have hb : (e1 == 0) = false := by rw [beq_eq_false_iff_ne]; exact he1
    clear hq hx hC hr hnil he1
    go_enter Tryd.func19, Tryd.ntmps19
    go_wp2_with fail
    refine HQ.out.mono ?_
    rintro e w1 ⟨z, _, rfl, h1, h2⟩
    obtain ⟨A, c, B, hk, hr, hB, hc1, hc2, k0, k1, f0, f1⟩ := h1.cells
    dsimp only at k1
    have HR := Lib.hid (show RdLQ C w k ([], l1, e1) (.returned (.slice none 0 0)) w1 from ⟨_, rfl, HNIL.out _, h1, h2⟩)
    clear h1 h2 hk hr hc1 hc2
    dsimp only [Option.isSome]
    go_wp2_with fail
    go_loopw [6, 7, 8] (fun o v i wr => o = .bool false ∧ v = .slice none 0 0 ∧ i = .int .i64 0 ∧ wr = w1) (fun _ _ _ _ => 0)
    case atStart => exact ⟨rfl, rfl, rfl, rfl⟩
    case round =>
      obtain ⟨rfl, rfl, rfl, rfl⟩ := hrel
      go_wp2
      go_ret
      exact HR.out
  | some v =>
    rw [readL_some hC]
    obtain ⟨q1, q2, q3⟩ := readC_some hC
    obtain ⟨v0, v1, hll⟩ := within_ok q3
    subst q1 q2
    obtain ⟨n, rfl⟩ := Int.eq_ofNat_of_zero_le v0
    rw [Int.toNat_natCast]
    have hgood : ∀ w' u, (nums n l1).2.2 = 0 → w'.ownsRow w.heap.size 3 1 u (nums n l1).1.length (iv .i64 (nums n l1).1) → QBox C w' k (nums n l1).2.1 0 → Frm (· = k) w w' → RdLQ C w k (if (nums n l1).2.2 = 0 then ((nums n l1).1, (nums n l1).2.1, (0 : Int)) else ([], (nums n l1).2.1, (((nums n l1).2.2 : Nat) : Int))) (.returned u) w' := fun w' u h1 h2 h3 h4 => by rw [if_pos h1]; exact ⟨u, rfl, h2, h3, h4⟩
    have hbad : ∀ w', (nums n l1).2.2 ≠ 0 → QBox C w' k (nums n l1).2.1 ((nums n l1).2.2 : Nat) → Frm (· = k) w w' → RdLQ C w k (if (nums n l1).2.2 = 0 then ((nums n l1).1, (nums n l1).2.1, (0 : Int)) else ([], (nums n l1).2.1, (((nums n l1).2.2 : Nat) : Int))) (.returned (.slice none 0 0)) w' := fun w' h1 h3 h4 => by rw [if_neg h1]; exact ⟨_, rfl, hnil _, h3, h4⟩
    generalize (if (nums n l1).2.2 = 0 then ((nums n l1).1, (nums n l1).2.1, (0 : Int)) else ([], (nums n l1).2.1, (((nums n l1).2.2 : Nat) : Int))) = R at *
    have HQ := Lib.hid hq
    have HNIL := Lib.hid hnil
    have HG := Lib.hid hgood
    have HB := Lib.hid hbad
    clear hq hx hC q3 v0 hnil hgood hbad
    go_enter Tryd.func19, Tryd.ntmps19
    go_wp2_with fail
    refine HQ.out.mono ?_
    rintro e w1 ⟨z, hz, rfl, h1, h2⟩
    obtain rfl := hz _ rfl
    clear hz
    have H1 := Lib.hid h1
    have H2 := Lib.hid h2
    have hs1 := h2.size
    clear h1 h2
    dsimp only [Option.isSome]
    go_wp2_with fail
    go_loopw [6, 7, 8] (fun o v i wr => ∃ j : Nat, j ≤ n ∧ i = .int .i64 j ∧ ((o = .bool true ∧ ∃ (zs : List Int) (r : List UInt8), zs.length = j ∧ Hid (nums n l1 = (zs ++ (nums (n - j) r).1, (nums (n - j) r).2.1, (nums (n - j) r).2.2)) ∧ j + r.length ≤ l1.length ∧ QBox C wr k r 0 ∧ wr.ownsRow w.heap.size 3 1 v j (iv .i64 zs) ∧ Frm (· = k) w wr) ∨
      (o = .bool false ∧ ∃ (ev : Nat) (r : List UInt8), ev ≠ 0 ∧ Hid ((nums n l1).2 = (r, ev)) ∧ QBox C wr k r ev ∧ Frm (· = k) w wr))) (fun _ _ i _ => n - (intOf i).toNat)
    case atStart => exact ⟨0, by omega, rfl, Or.inl ⟨rfl, [], l1, rfl, Lib.hid (by simp), by omega, H1.out, HNIL.out _, H2.out⟩⟩
    case round =>
      obtain ⟨j, hj, rfl, ⟨rfl, zs, r, hzl, HE, hjr, hxr, hir, hfr⟩ | ⟨rfl, ev, r, hev, HE, hxr, hfr⟩⟩ := hrel
      · have hsr := hfr.size
        by_cases hlt2 : j < n
        · have hstep : nums (n - j) r = match numO r with
            | .bad ev l' => ([], l', ev)
            | .ok v l' => (v :: (nums (n - (j + 1)) l').1, (nums (n - (j + 1)) l').2.1, (nums (n - (j + 1)) l').2.2) := by
            rw [show n - j = (n - (j + 1)) + 1 from by omega]; rfl
          have hnr := qint_any wr k r 0 hxr (by omega)
          cases ho : numO r with
          | bad ev r' =>
            have hev := (numO_bad ho).1
            have hv : readV 0 r (Out.bad ev r') = (0, r', (ev : Int)) := by simp [readV]
            have hb : ((ev : Int) == 0) = false := by rw [beq_eq_false_iff_ne]; omega
            rw [ho, hv] at hnr
            rw [ho] at hstep
            have he := HE.out
            rw [hstep] at he
            have HE2 := Lib.hid (show (nums n l1).2 = (r', ev) from by rw [he])
            clear he hv hstep ho HE
            have HNR := Lib.hid hnr
            have HFR := Lib.hid hfr
            have HIR := Lib.hid hir
            clear hnr hfr hir hxr
            go_wp2_with fail
            refine HNR.out.mono ?_
            rintro e w2 ⟨rfl, hx2, hf2⟩
            dsimp only at hx2
            have hs2 := hf2.size
            have ow3 := own_frm HIR.out hf2 (by omega)
            have HOW := Lib.hid ow3
            have HX2 := Lib.hid hx2
            have HF2 := Lib.hid hf2
            clear ow3 hx2 hf2
            go_wp2_with (at_builtin; refine wpList_append_rd _ rfl (.tmp 23) (.tmp 26) 33 (by rfl) w.heap.size 3 (.int .i64 0) 8 Tryd.underlying33 Tryd.infI3 rfl _ j _ (by rfl) (HOW.out.alloc _) _ (by rfl) _ _ (RdV.one _ _ _) (by intro u hu; simp at hu; subst hu; rfl) (by (simp; try omega)) (by omega) (by (simp; try omega)) ?_; intro v4 w4 ho4 hg4 _; have hF4 : Frm (fun x => w.heap.size ≤ x) (w2.alloc (.cells #[.int .i64 0] 3)) w4 := ⟨hg4.os, hg4.tape, hg4.output, hg4.size, fun x hx ho => hg4.block x hx (fun e => ho (HOW.out.lt x e.symm).1)⟩; have hx4 := (HX2.out.next ((Below.refl _ _).alloc (Nat.le_refl _) (.cells #[.int .i64 0] 3))).frm hF4 (fun x hx => by omega); obtain ⟨A, c, B, hk, hr, hB, hc1, hc2, k0, k1, f0, f1⟩ := hx4.cells; have hf4 := ((HFR.out.sub HF2.out (fun x hx => Or.inl hx)).alloc (.cells #[.int .i64 0] 3)).sub hF4 (fun x hx => Or.inr hx); have HX4 := Lib.hid hx4; have HF4 := Lib.hid hf4; have HO4 := Lib.hid ho4; clear hk hr hc1 hc2 hx4 hf4 ho4 hF4 hg4)
            go_roundw
            case rel => exact ⟨j + 1, by omega, by go_num, Or.inr ⟨rfl, ev, r', hev, HE2, HX4.out, HF4.out⟩⟩
            case measure => simp [intOf]; omega
          | ok v r' =>
            have hless := numO_less ho
            have hv : readV 0 r (Out.ok v r') = (v, r', 0) := by simp [readV]
            rw [ho, hv] at hnr
            rw [ho] at hstep
            have he := HE.out
            rw [hstep] at he
            have HE2 := Lib.hid he
            clear he hv hstep ho HE
            have HNR := Lib.hid hnr
            have HFR := Lib.hid hfr
            have HIR := Lib.hid hir
            clear hnr hfr hir hxr
            go_wp2_with fail
            refine HNR.out.mono ?_
            rintro e w2 ⟨rfl, hx2, hf2⟩
            dsimp only at hx2
            have hs2 := hf2.size
            have ow3 := own_frm HIR.out hf2 (by omega)
            have HOW := Lib.hid ow3
            have HX2 := Lib.hid hx2
            have HF2 := Lib.hid hf2
            clear ow3 hx2 hf2
            go_wp2_with (at_builtin; refine wpList_append_rd _ rfl (.tmp 23) (.tmp 26) 33 (by rfl) w.heap.size 3 (.int .i64 0) 8 Tryd.underlying33 Tryd.infI3 rfl _ j _ (by rfl) (HOW.out.alloc _) _ (by rfl) _ _ (RdV.one _ _ _) (by intro u hu; simp at hu; subst hu; rfl) (by (simp; try omega)) (by omega) (by (simp; try omega)) ?_; intro v4 w4 ho4 hg4 _; have hF4 : Frm (fun x => w.heap.size ≤ x) (w2.alloc (.cells #[.int .i64 v] 3)) w4 := ⟨hg4.os, hg4.tape, hg4.output, hg4.size, fun x hx ho => hg4.block x hx (fun e => ho (HOW.out.lt x e.symm).1)⟩; have hx4 := (HX2.out.next ((Below.refl _ _).alloc (Nat.le_refl _) (.cells #[.int .i64 v] 3))).frm hF4 (fun x hx => by omega); obtain ⟨A, c, B, hk, hr, hB, hc1, hc2, k0, k1, f0, f1⟩ := hx4.cells; have hf4 := ((HFR.out.sub HF2.out (fun x hx => Or.inl hx)).alloc (.cells #[.int .i64 v] 3)).sub hF4 (fun x hx => Or.inr hx); have HX4 := Lib.hid hx4; have HF4 := Lib.hid hf4; have HO4 := Lib.hid ho4; clear hk hr hc1 hc2 hx4 hf4 ho4 hF4 hg4)
            go_roundw
            case rel => exact ⟨j + 1, by omega, by go_num, Or.inl ⟨rfl, zs ++ [v], r', by simp [hzl], Lib.hid (by rw [HE2.out]; simp), by omega, HX4.out, by simpa [iv] using HO4.out, HF4.out⟩⟩
            case measure => simp [intOf]; omega
        · obtain rfl : j = n := by omega
          have he := HE.out
          rw [Nat.sub_self] at he
          simp only [nums, List.append_nil] at he
          have HR := Lib.hid (HG.out wr _ (by rw [he]) (by rw [he]; rw [hzl]; exact hir) (by rw [he]; exact hxr) hfr)
          obtain ⟨A, c, B, hk, hr, hB, hc1, hc2, k0, k1, f0, f1⟩ := hxr.cells
          clear he hk hr hc1 hc2 hxr hir hfr HE HG HB
          go_wp2
          go_ret
          exact HR.out
      · have he := HE.out
        have HR := Lib.hid (HB.out wr (by rw [he]; exact hev) (by rw [he]; exact hxr) hfr)
        have hb : ((ev : Int) == 0) = false := by rw [beq_eq_false_iff_ne]; omega
        obtain ⟨A, c, B, hk, hr, hB, hc1, hc2, k0, k1, f0, f1⟩ := hxr.cells
        clear he hk hr hc1 hc2 hxr hfr HE HG HB hev
        go_wp2
        go_ret
        exact HR.out
end Go.Proofs.YtgcgehdbgegfeaaDoor
