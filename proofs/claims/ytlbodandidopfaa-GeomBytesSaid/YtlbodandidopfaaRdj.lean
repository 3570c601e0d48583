/- Contracts of codec.Reader's Between, Bytes and List. Conditions: the rows are shorter than 2^32. -/
import Derived.Test.YtlbodandidopfaaRdi
import Derived.Test.YtlbodandidopfaaNum
import Derived.Lib.SmallJoins
import Derived.Deep.RegionLaw
import Derived.Deep.RegionHeld3
import Derived.Deep.DrawnRows
namespace Go.Proofs.Ytlbodandidopfaa
open Go.ChangeShapes Go.WideShapes Go.ChangeAt Go.RowKit
set_option linter.unusedSimpArgs false
set_option linter.unusedVariables false
attribute [local go_sem ↓] Go.wp_at_zero Go.wp_at_succ

set_option maxRecDepth 100000 in
set_option maxHeartbeats 4000000 in
theorem between1_any (w : World) (k rb vb lb hb : Nat) (l : List UInt8) (z lo hi : Int) (hx : CBox w k l 0) (h1 : One w rb (.pointer (some ⟨k, 0, none⟩)) 108) (h2 : One w vb (.int .i64 z) 2) (h3 : One w lb (.int .i64 lo) 3) (h4 : One w hb (.int .i64 hi) 3)
    (hk1 : k < rb) (hk2 : k < vb) (hk3 : k < lb) (hk4 : k < hb) (hvl : lb ≠ vb) (hvh : hb ≠ vb) (hl : l.length < 4294967296) :
    Calls Try.prog 94 #[.pointer (some ⟨rb, 0, none⟩), .pointer (some ⟨vb, 0, none⟩), .pointer (some ⟨lb, 0, none⟩), .pointer (some ⟨hb, 0, none⟩)] w
      (BodyP k (· = vb) (fun w2 => ∃ v l', within lo hi (numO l) = .ok v l' ∧ CBox w2 k l' 0 ∧ One w2 vb (.int .i64 v) 2) (fun ev l2 w2 => ∃ n : Nat, ev = n ∧ within lo hi (numO l) = .bad n l2) w) := by
  have hn := number_does w k l 0 hx hl
  have c1 := h1.cell
  cases ho : numO l with
  | ok v l' =>
    rw [ho] at hn
    have HN := Lib.hid hn
    have H2 := Lib.hid h2
    have H3 := Lib.hid h3
    have H4 := Lib.hid h4
    clear hn h2 ho h1 hx h3 h4
    by_cases hin : lo ≤ v ∧ v ≤ hi
    · obtain ⟨hlo, hhi⟩ := hin
      have d1 : decide (lo ≤ v) = true := by simp; omega
      have d2 : decide (v ≤ hi) = true := by simp; omega
      have hy := fun w1 => need_yes 22 w1
      have HY := Lib.hid hy
      have hres : within lo hi (.ok v l') = .ok v l' := by simp only [within, if_pos (And.intro hlo hhi)]
      have HR := Lib.hid hres
      clear hy hres
      go_enter Try.func94, Try.ntmps94
      go_wp2_with fail
      refine HN.out.mono ?_
      rintro e w1 ⟨rfl, hx1, hf1⟩
      have a2 := H2.out.frm hf1 (by omega)
      have f2 := a2.free
      have b2 := a2.set (.int .i64 v)
      have b3 := (H3.out.frm hf1 (by omega)).other vb 0 (fun e => hvl e.symm) (.int .i64 v)
      have b4 := (H4.out.frm hf1 (by omega)).other vb 0 (fun e => hvh e.symm) (.int .i64 v)
      have c2 := a2.cell
      have c3 := b2.cell
      have c4 := b3.cell
      have c5 := b4.cell
      have HX := Lib.hid (hx1.frm (O := (· = vb)) (Frm.setCell (O := (· = vb)) (Frm.refl _ _) vb 0 (Or.inl rfl) (.int .i64 v)) (by omega))
      have HF := Lib.hid (Frm.setCell (O := fun j => j = k ∨ j = vb) (hf1.mono (fun j _ h => Or.inl h)) vb 0 (Or.inl (Or.inr rfl)) (.int .i64 v))
      have HB := Lib.hid b2
      clear hx1 hf1 a2 b2 b3 b4
      go_wp2_with fail
      refine (HY.out _).mono ?_
      rintro e w2 ⟨rfl, rfl⟩
      go_wp2
      go_end0
      exact ⟨Or.inl ⟨rfl, v, l', HR.out, HX.out, HB.out⟩, HF.out⟩
    · have hy := fun w1 => need_no 22 w1
      have HY := Lib.hid hy
      have hres : within lo hi (.ok v l') = .bad 22 l' := by simp only [within, if_neg hin]
      have HR := Lib.hid hres
      clear hy hres
      by_cases hlo : lo ≤ v
      · have d1 : decide (lo ≤ v) = true := by simp; omega
        have d2 : decide (v ≤ hi) = false := by simp; omega
        clear hin
        go_enter Try.func94, Try.ntmps94
        go_wp2_with fail
        refine HN.out.mono ?_
        rintro e w1 ⟨rfl, hx1, hf1⟩
        have a2 := H2.out.frm hf1 (by omega)
        have f2 := a2.free
        have b2 := a2.set (.int .i64 v)
        have b3 := (H3.out.frm hf1 (by omega)).other vb 0 (fun e => hvl e.symm) (.int .i64 v)
        have b4 := (H4.out.frm hf1 (by omega)).other vb 0 (fun e => hvh e.symm) (.int .i64 v)
        have c2 := a2.cell
        have c3 := b2.cell
        have c4 := b3.cell
        have c5 := b4.cell
        have HX := Lib.hid (hx1.frm (O := (· = vb)) (Frm.setCell (O := (· = vb)) (Frm.refl _ _) vb 0 (Or.inl rfl) (.int .i64 v)) (by omega))
        have HF := Lib.hid (Frm.setCell (O := fun j => j = k ∨ j = vb) (hf1.mono (fun j _ h => Or.inl h)) vb 0 (Or.inl (Or.inr rfl)) (.int .i64 v))
        clear hx1 hf1 a2 b2 b3 b4
        go_wp2_with fail
        refine (HY.out _).mono ?_
        rintro e w2 ⟨rfl, rfl⟩
        go_wp2
        exact ⟨rfl, Or.inr ⟨_, _, rfl, HX.out, 22, rfl, HR.out⟩, HF.out⟩
      · have d1 : decide (lo ≤ v) = false := by simp; omega
        clear hin
        go_enter Try.func94, Try.ntmps94
        go_wp2_with fail
        refine HN.out.mono ?_
        rintro e w1 ⟨rfl, hx1, hf1⟩
        have a2 := H2.out.frm hf1 (by omega)
        have f2 := a2.free
        have b2 := a2.set (.int .i64 v)
        have b3 := (H3.out.frm hf1 (by omega)).other vb 0 (fun e => hvl e.symm) (.int .i64 v)
        have b4 := (H4.out.frm hf1 (by omega)).other vb 0 (fun e => hvh e.symm) (.int .i64 v)
        have c2 := a2.cell
        have c3 := b2.cell
        have c4 := b3.cell
        have c5 := b4.cell
        have HX := Lib.hid (hx1.frm (O := (· = vb)) (Frm.setCell (O := (· = vb)) (Frm.refl _ _) vb 0 (Or.inl rfl) (.int .i64 v)) (by omega))
        have HF := Lib.hid (Frm.setCell (O := fun j => j = k ∨ j = vb) (hf1.mono (fun j _ h => Or.inl h)) vb 0 (Or.inl (Or.inr rfl)) (.int .i64 v))
        clear hx1 hf1 a2 b2 b3 b4
        go_wp2_with fail
        refine (HY.out _).mono ?_
        rintro e w2 ⟨rfl, rfl⟩
        go_wp2
        exact ⟨rfl, Or.inr ⟨_, _, rfl, HX.out, 22, rfl, HR.out⟩, HF.out⟩
  | bad ev l' =>
    rw [ho] at hn
    have HN := Lib.hid hn
    clear hn h2 ho h1 hx h3 h4
    go_enter Try.func94, Try.ntmps94
    go_wp2_with fail
    refine HN.out.mono ?_
    rintro e w1 ⟨rfl, hx1, hf1⟩
    have HX1 := Lib.hid hx1
    have HF1 := Lib.hid hf1
    clear hx1 hf1
    go_wp2
    exact ⟨rfl, Or.inr ⟨_, _, rfl, HX1.out, ev, rfl, rfl⟩, HF1.out.mono (fun j _ h => Or.inl h)⟩
set_option maxRecDepth 100000 in
set_option maxHeartbeats 4000000 in
theorem rbetween_any (w : World) (k : Nat) (l : List UInt8) (e0 lo hi : Int) (hx : CBox w k l e0) (hl : l.length < 4294967296) :
    Calls Try.prog 78 #[.pointer (some ⟨k, 0, none⟩), .int .i64 lo, .int .i64 hi] w (RdP w k (.int .i64 (readV e0 l (within lo hi (numO l))).1) (readV e0 l (within lo hi (numO l))).2) := by
  have hlt := hx.lt
  obtain ⟨W, hW⟩ : ∃ W, ((((w.alloc (.cells #[.pointer (some ⟨k, 0, none⟩)] 108)).alloc (.cells #[.int .i64 lo] 3)).alloc (.cells #[.int .i64 hi] 3)).alloc (.cells #[.int .i64 0] 2)) = W := ⟨_, rfl⟩
  have hzW : W.heap.size = w.heap.size + 4 := by rw [← hW]; simp
  have hBW : Below w.heap.size w W := by rw [← hW]; repeat (first | exact Below.refl _ _ | refine Below.alloc ?_ (by simp; try omega) _)
  have o1 : One W w.heap.size (.pointer (some ⟨k, 0, none⟩)) 108 := by
    rw [← hW]; exact (Below.heap_alloc _ _ _ (by simp; try omega)).trans ((Below.heap_alloc _ _ _ (by simp; try omega)).trans ((Below.heap_alloc _ _ _ (by simp)).trans (One.new w _ _)))
  have o2 : One W (w.heap.size + 1) (.int .i64 lo) 3 := by
    rw [← hW]; exact (Below.heap_alloc _ _ _ (by simp; try omega)).trans ((Below.heap_alloc _ _ _ (by simp)).trans (heap_at2 _ _ _ (by simp)))
  have o3 : One W (w.heap.size + 1 + 1) (.int .i64 hi) 3 := by
    rw [← hW]; exact (Below.heap_alloc _ _ _ (by simp)).trans (heap_at2 _ _ _ (by simp))
  have o4 : One W (w.heap.size + 1 + 1 + 1) (.int .i64 0) 2 := by
    rw [← hW]; exact heap_at2 _ _ _ (by simp)
  have hxW := hx.next hBW
  have hg := guard_Between W k l e0 (.pointer (some ⟨w.heap.size, 0, none⟩)) (.pointer (some ⟨w.heap.size + 1 + 1 + 1, 0, none⟩)) (.pointer (some ⟨w.heap.size + 1, 0, none⟩)) (.pointer (some ⟨w.heap.size + 1 + 1, 0, none⟩)) (· = w.heap.size + 1 + 1 + 1) (fun w2 => ∃ v l', within lo hi (numO l) = .ok v l' ∧ CBox w2 k l' 0 ∧ One w2 (w.heap.size + 1 + 1 + 1) (.int .i64 v) 2) (fun ev l2 w2 => ∃ n : Nat, ev = n ∧ within lo hi (numO l) = .bad n l2) hxW (by omega)
    (fun he w1 hb _ => by subst he; exact between1_any w1 k _ _ _ _ l 0 lo hi (hxW.next hb) (o1.next hb) (o4.next hb) (o2.next hb) (o3.next hb) (by omega) (by omega) (by omega) (by omega) (by omega) (by omega) hl)
  have HG := Lib.hid hg
  have HW := Lib.hid hW
  have HX := Lib.hid hxW
  have HBW := Lib.hid hBW
  have H2 := Lib.hid o4
  have hmf : ∀ (fn : Fn) (first cap : Array Value) (w : World), (Instr.makeFunc fn first cap).run Try.prog w = .ok (.func fn first cap) w := fun _ _ _ _ => rfl
  generalize within lo hi (numO l) = O at *
  have hfin : ∀ (w' : World) (v : Int), CBox w' k (readV e0 l O).2.1 (readV e0 l O).2.2 → Frm (fun j => j = k ∨ j = w.heap.size + 1 + 1 + 1) W w' → v = (readV e0 l O).1 → RdP w k (.int .i64 (readV e0 l O).1) (readV e0 l O).2 (.returned (.int .i64 v)) w' := by
    intro w' v h2 h3 h4
    subst h4
    exact ⟨rfl, h2, (Frm.of_below HBW.out).sub h3 (fun j hj => by rcases hj with h | h; exact Or.inl h; exact Or.inr (by omega))⟩
  have HFIN := Lib.hid hfin
  clear hg hW hxW hBW o1 o2 o3 o4 hfin hx
  go_enter Try.func78, Try.ntmps78
  go_wp2_with fail
  rw [HW.out]
  refine HG.out.mono ?_
  rintro e w1 ⟨hcase, hfr⟩
  rcases hcase with ⟨he, rfl, hb⟩ | ⟨rfl, rfl, w2, ⟨v, l', ho, hx2, hv2⟩, hs2, hf2⟩ | ⟨rfl, rfl, w2, ev, l2, hx2, ⟨n, rfl, ho⟩, hs2, hf2⟩
  · have hr := HFIN.out w1 0 (by unfold readV; rw [if_pos he]; exact HX.out.next hb) hfr (by unfold readV; rw [if_pos he])
    have HR := Lib.hid hr
    clear hr hfr hb he
    go_wp2
    go_ret
    exact HR.out
  · have hov := hv2.frm hf2 (by omega)
    have c1 := hov.cell
    have hr := HFIN.out w1 v (by unfold readV; rw [if_neg (by simp), ho]; exact hx2.frm hf2 (by omega)) hfr (by unfold readV; rw [if_neg (by simp), ho])
    have HR := Lib.hid hr
    clear hr hfr hf2 hx2 hv2 hov ho
    go_wp2
    go_ret
    exact HR.out
  · have hr := HFIN.out w1 0 (by unfold readV; rw [if_neg (by simp), ho]; exact hx2) hfr (by unfold readV; rw [if_neg (by simp), ho])
    have HR := Lib.hid hr
    clear hr hfr hf2 hx2 ho
    go_wp2
    go_ret
    exact HR.out
theorem own_frm {O : Nat → Prop} {w w' : World} {base : Nat} {e : TypeId} {v : Value} {n : Nat} {xs : List Value} (h : w.ownsRow base e 1 v n xs) (hf : Frm O w w') (hO : ∀ j, O j → j < base) : w'.ownsRow base e 1 v n xs := by
  refine ⟨h.1, ?_⟩
  rcases h.2 with h0 | ⟨g, cap, cur, hv, hg, hh, r⟩
  · exact Or.inl h0
  · have hlt : g < w.heap.size := by
      rcases Nat.lt_or_ge g w.heap.size with h1 | h1
      · exact h1
      · rw [Array.getElem?_eq_none h1] at hh; cases hh
    exact Or.inr ⟨g, cap, cur, hv, hg, (hf.block g hlt (fun x => by have := hO g x; omega)).trans hh, r⟩
def roomO : Out → Out
  | .ok v l => if v ≤ l.length then .ok v l else .bad 21 l
  | .bad e l => .bad e l
/-- a row of bytes in a cell -/
def ByteCell (w : World) (base b : Nat) (l : List UInt8) : Prop := ∃ u, One w b u 36 ∧ w.ownsRow base 5 1 u l.length (bv l)
theorem ByteCell.frm {O : Nat → Prop} {w w' : World} {base b : Nat} {l : List UInt8} (h : ByteCell w base b l) (hf : Frm O w w') (hO : ∀ j, O j → j < base) (hb : ¬ O b) : ByteCell w' base b l := by
  obtain ⟨u, h1, h2⟩ := h
  exact ⟨u, h1.frm hf hb, own_frm h2 hf hO⟩
/-- bytes that are told, and none where the reading is given up -/
def readB (e : Int) (l : List UInt8) (most : Int) : List UInt8 × List UInt8 × Int := if e ≠ 0 then ([], l, e) else match roomO (within 0 most (numO l)) with
  | .ok v l' => (l'.take v.toNat, l'.drop v.toNat, 0)
  | .bad ev l' => ([], l', ev)
def RdBP (w : World) (k : Nat) (x : List UInt8 × List UInt8 × Int) (e : Ending) (w' : World) : Prop := ∃ u, e = .returned u ∧ RdV w' w'.heap.size u (bv x.1) ∧ CBox w' k x.2.1 x.2.2 ∧ Frm (· = k) w w'
/-- as many numbers as are asked for -/
def nums : Nat → List UInt8 → List Int × List UInt8 × Nat
  | 0, l => ([], l, 0)
  | n + 1, l => match numO l with
    | .bad ev l' => ([], l', ev)
    | .ok v l' => (v :: (nums n l').1, (nums n l').2.1, (nums n l').2.2)
theorem numO_less {l l' : List UInt8} {v : Int} (h : numO l = .ok v l') : l'.length < l.length := by
  unfold numO at h
  split at h
  · rename_i hE
    injection h with h1 h2
    subst h1 h2
    have h3 := rvN_le l
    have h4 : 1 ≤ Pu.rvN l := by unfold Pu.rvN; rw [if_pos hE]; omega
    rw [List.length_drop]; omega
  · cases h
theorem numO_bad {l l' : List UInt8} {ev : Nat} (h : numO l = .bad ev l') : ev ≠ 0 ∧ l' = l := by
  unfold numO at h
  split at h
  · cases h
  · rename_i hE
    injection h with h1 h2
    subst h1 h2
    exact ⟨hE, rfl⟩
def IntCell (w : World) (base b : Nat) (zs : List Int) : Prop := ∃ u, One w b u 69 ∧ w.ownsRow base 3 1 u zs.length (iv .i64 zs)
theorem IntCell.frm {O : Nat → Prop} {w w' : World} {base b : Nat} {zs : List Int} (h : IntCell w base b zs) (hf : Frm O w w') (hO : ∀ j, O j → j < base) (hb : ¬ O b) : IntCell w' base b zs := by
  obtain ⟨u, h1, h2⟩ := h
  exact ⟨u, h1.frm hf hb, own_frm h2 hf hO⟩
theorem Try.infI3 : (Try.prog.info? 3).map (fun i => (i.zero, i.size, i.bytes)) = some (some (.int .i64 0), 1, 8) := by kernel_rfl
/-- the numbers of a list, told or not -/
def listO (most : Int) (l : List UInt8) : List Int × List UInt8 × Nat := match within 0 most (numO l) with
  | .bad ev l' => ([], l', ev)
  | .ok v l' => nums v.toNat l'
def LPost (k base ob : Nat) (most : Int) (l : List UInt8) (w2 : World) : Prop := (listO most l).2.2 = 0 ∧ CBox w2 k (listO most l).2.1 0 ∧ IntCell w2 base ob (listO most l).1
def LBad (most : Int) (l : List UInt8) (ev : Int) (l2 : List UInt8) (w2 : World) : Prop := (listO most l).2.2 ≠ 0 ∧ ev = ((listO most l).2.2 : Nat) ∧ l2 = (listO most l).2.1
theorem within_ok {lo hi v : Int} {l l' : List UInt8} (h : within lo hi (numO l) = .ok v l') : lo ≤ v ∧ v ≤ hi ∧ l'.length ≤ l.length := by
  cases ho : numO l with
  | bad e l2 => rw [ho] at h; cases h
  | ok v2 l2 =>
    rw [ho] at h
    have := numO_len ho
    simp only [within] at h
    split at h
    · injection h with e1 e2; subst e1 e2; omega
    · cases h
theorem within_bad {lo hi : Int} {l l' : List UInt8} {ev : Nat} (h : within lo hi (numO l) = .bad ev l') : ev ≠ 0 := by
  cases ho : numO l with
  | bad e l2 => rw [ho] at h; injection h with e1 e2; subst e1; exact (numO_bad ho).1
  | ok v2 l2 =>
    rw [ho] at h
    simp only [within] at h
    split at h
    · cases h
    · injection h with e1 e2; omega
theorem IntCell.le {w : World} {base base' b : Nat} {zs : List Int} (h : IntCell w base b zs) (hb : base' ≤ base) : IntCell w base' b zs := by
  obtain ⟨u, h1, h2⟩ := h
  exact ⟨u, h1, Joins.ownsRow_le h2 hb⟩
/-- what List comes to: the numbers, the rest, the error -/
def readL (e0 : Int) (l : List UInt8) (most : Int) : List Int × List UInt8 × Int :=
  if e0 ≠ 0 then ([], l, e0) else if (listO most l).2.2 = 0 then ((listO most l).1, (listO most l).2.1, 0) else ([], (listO most l).2.1, ((listO most l).2.2 : Nat))
def RdLP (w : World) (k : Nat) (R : List Int × List UInt8 × Int) (e : Ending) (w' : World) : Prop :=
  ∃ u, e = .returned u ∧ w'.ownsRow w.heap.size 3 1 u R.1.length (iv .i64 R.1) ∧ CBox w' k R.2.1 R.2.2 ∧ Frm (· = k) w w'
end Go.Proofs.Ytlbodandidopfaa
