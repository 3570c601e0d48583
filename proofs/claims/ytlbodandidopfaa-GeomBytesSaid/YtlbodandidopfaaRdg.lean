/- Contracts of codec.Reader.guard and its deferred function. Conditions: the rows are shorter than 2^32. -/
import Derived.Test.YtlbodandidopfaaRdr
namespace Go.Proofs.Ytlbodandidopfaa
open Go.ChangeShapes Go.WideShapes Go.ChangeAt Go.RowKit
set_option linter.unusedSimpArgs false
set_option linter.unusedVariables false

def One (w : World) (b : Nat) (u : Value) (t : TypeId) : Prop := w.heap[b]? = some (.cells #[u] t (0, 0))
theorem One.cell {w : World} {b : Nat} {u : Value} {t : TypeId} (h : One w b u t) : w.cell? ⟨b, 0, none⟩ = some u := cell_of_row w b 0 _ _ (0, 0) h
theorem One.free {w : World} {b : Nat} {u : Value} {t : TypeId} (h : One w b u t) : w.frozen? ⟨b, 0, none⟩ = false := frozen_of_row w b 0 _ _ h
theorem One.lt {w : World} {b : Nat} {u : Value} {t : TypeId} (h : One w b u t) : b < w.heap.size := by
  rcases Nat.lt_or_ge b w.heap.size with h1 | h1
  · exact h1
  · unfold One at h; rw [Array.getElem?_eq_none h1] at h; cases h
theorem One.frm {O : Nat → Prop} {w w' : World} {b : Nat} {u : Value} {t : TypeId} (h : One w b u t) (hf : Frm O w w') (hO : ¬ O b) : One w' b u t := (hf.block b h.lt hO).trans h
theorem One.next {w w' : World} {b : Nat} {u : Value} {t : TypeId} (h : One w b u t) (hb : Below w.heap.size w w') : One w' b u t := (hb.block b h.lt).trans h
theorem One.new (w : World) (u : Value) (t : TypeId) : One (w.alloc (.cells #[u] t)) w.heap.size u t := heap_alloc_new w _
theorem One.set {w : World} {b : Nat} {u : Value} {t : TypeId} (h : One w b u t) (v : Value) : One (w.setCell ⟨b, 0, none⟩ v) b v t := heap_setCell_same w b 0 _ _ _ h
theorem One.other {w : World} {b : Nat} {u : Value} {t : TypeId} (h : One w b u t) (k i : Nat) (hk : k ≠ b) (v : Value) : One (w.setCell ⟨k, i, none⟩ v) b u t := (heap_setCell_other w ⟨k, i, none⟩ b _ (fun e => hk (by have e' : b = k := e; exact e'.symm))).trans h

theorem assert_nil (w : World) : (Instr.typeAssert .nilIface 20 140 true).run Try.prog w = .ok (.tuple #[.agg #[.int .i64 0], .bool false]) w := by kernel_rfl
theorem assert_fault (z : Int) (w : World) : (Instr.typeAssert (FV z) 20 140 true).run Try.prog w = .ok (.tuple #[.agg #[.int .i64 z], .bool true]) w := by kernel_rfl
set_option maxHeartbeats 1000000 in
theorem catch_idle (b1 b2 : Nat) (w : World) :
    CallsD Try.prog 104 #[.pointer (some ⟨b1, 0, none⟩), .pointer (some ⟨b2, 0, none⟩)] .returning w fun e u' w' => e = .returned (.tuple #[]) ∧ u' = .returning ∧ Below w.heap.size w w' := by
  refine callsD_of_wpS Try.func104 rfl fun c₀ cs hu => ?_
  apply wpS_seq
  apply wpS_region
  have ha := assert_nil
  simp [wpOpsS, go_sem, recoverD, hu, Try.ntmps104, Exit.thenS, ha]
  apply wpS_seq
  apply wpS_region
  simp [wpOpsS, go_sem, Exit.thenS]
  refine wpS_cond (t := false) (by simp [Act.eval, Array.replicate]) ?_
  simp only [Bool.false_eq_true, if_false]
  refine wpS_of_wp (wp_skip ?_)
  have hB : Below w.heap.size w (w.alloc (.cells #[.int .i64 0] 140)) := (Below.refl _ _).alloc (Nat.le_refl _) _
  cases c₀
  simp_all [bodyPostS, results, Try.results104]
set_option maxHeartbeats 4000000 in
theorem catch_fault (b1 b2 k : Nat) (l : List UInt8) (e0 ev : Int) (d : Bool) (w : World) (older : List PanicEntry) (h1 : One w b1 (.pointer (some ⟨k, 0, none⟩)) 108) (h2 : One w b2 (.bool d) 4) (hx : CBox w k l e0) (hk : k < b1) (hb : b1 < b2) :
    CallsD Try.prog 104 #[.pointer (some ⟨b1, 0, none⟩), .pointer (some ⟨b2, 0, none⟩)] (.panicking ({ v := FV ev, recovered := false } :: older)) w fun e u' w' =>
      e = .returned (.tuple #[]) ∧ u' = .panicking ({ v := FV ev, recovered := true } :: older) ∧ CBox w' k l ev ∧ One w' b2 (.bool false) 4 ∧ Frm (fun j => j = k ∨ j = b2) w w' := by
  have hlt2 := h2.lt
  obtain ⟨A, n, c, B, hk0, hr, hB⟩ := hx
  have ha := assert_fault ev
  have a1 : One (w.alloc (.cells #[.int .i64 ev] 140)) b1 (.pointer (some ⟨k, 0, none⟩)) 108 := (Below.heap_alloc w _ b1 (by omega)).trans h1
  have a2 : One (w.alloc (.cells #[.int .i64 ev] 140)) b2 (.bool d) 4 := (Below.heap_alloc w _ b2 (by omega)).trans h2
  have a3 : (w.alloc (.cells #[.int .i64 ev] 140)).heap[k]? = some (.cells #[.slice A n c, .int .i64 e0] 131 (0, 0)) := (Below.heap_alloc w _ k (by omega)).trans hk0
  have c1 := a1.cell
  have c3 := cell_of_row _ k 1 _ _ (0, 0) a3
  have f3 : (w.alloc (.cells #[.int .i64 ev] 140)).frozen? ⟨k, 1, none⟩ = false := frozen_of_row _ k 1 _ _ a3
  have a4 : ((w.alloc (.cells #[.int .i64 ev] 140)).setCell ⟨k, 1, none⟩ (.int .i64 ev)).heap[k]? = some (.cells #[.slice A n c, .int .i64 ev] 131 (0, 0)) := heap_setCell_same _ k 1 _ _ _ a3
  have a5 := a2.other k 1 (by omega) (.int .i64 ev)
  have f5 := a5.free
  have c5 := a5.cell
  have hF : Frm (fun j => j = k ∨ j = b2) w (((w.alloc (.cells #[.int .i64 ev] 140)).setCell ⟨k, 1, none⟩ (.int .i64 ev)).setCell ⟨b2, 0, none⟩ (.bool false)) :=
    (((Frm.refl _ w).alloc _).setCell k 1 (Or.inl (Or.inl rfl)) _).setCell b2 0 (Or.inl (Or.inr rfl)) _
  have hX : CBox (((w.alloc (.cells #[.int .i64 ev] 140)).setCell ⟨k, 1, none⟩ (.int .i64 ev)).setCell ⟨b2, 0, none⟩ (.bool false)) k l ev :=
    ⟨A, n, c, B, (heap_setCell_other _ ⟨b2, 0, none⟩ k _ (by show k ≠ b2; omega)).trans a4, ((hr.alloc (by omega) _).setCell (p := ⟨k, 1, none⟩) hB _).setCell (p := ⟨b2, 0, none⟩) (Nat.le_trans hB (by omega) : B ≤ b2) _, hB⟩
  have hO := a5.set (.bool false)
  refine callsD_of_wpS Try.func104 rfl fun c₀ cs hu => ?_
  apply wpS_seq
  apply wpS_region
  unfold FV at hu ha ⊢
  simp (config := { maxSteps := 1000000 }) [wpOpsS, go_sem, recoverD, hu, Try.ntmps104, Exit.thenS, ha]
  apply wpS_seq
  apply wpS_region
  simp [wpOpsS, go_sem, Exit.thenS]
  refine wpS_cond (t := true) (by simp [Act.eval, Array.replicate]) ?_
  simp only [if_true]
  apply wpS_region
  simp (config := { maxSteps := 1000000 }) [wpOpsS, go_sem, c1, c3, f3, c5, f5, bodyPostS, results, Try.results104]
  exact ⟨hX, hO, hF⟩
/-- what a reading's own function comes to, by the reader's guard -/
def BodyP (k : Nat) (O : Nat → Prop) (Post : World → Prop) (Bad : Int → List UInt8 → World → Prop) (w1 : World) (e : Ending) (w2 : World) : Prop :=
  ((e = .returned (.tuple #[]) ∧ Post w2) ∨ (∃ (ev : Int) (l2 : List UInt8), e = .panicked [{ v := FV ev, recovered := false }] ∧ CBox w2 k l2 0 ∧ Bad ev l2 w2)) ∧ Frm (fun j => j = k ∨ O j) w1 w2
def GuardP (k : Nat) (O : Nat → Prop) (e0 : Int) (Post : World → Prop) (Bad : Int → List UInt8 → World → Prop) (w : World) (e : Ending) (w' : World) : Prop :=
  ((e0 ≠ 0 ∧ e = .returned (.bool false) ∧ Below w.heap.size w w') ∨
  (e0 = 0 ∧ e = .returned (.bool true) ∧ ∃ w2, Post w2 ∧ w.heap.size + 2 ≤ w2.heap.size ∧ Frm (· = w.heap.size + 1) w2 w') ∨
  (e0 = 0 ∧ e = .returned (.bool false) ∧ ∃ w2 ev l2, CBox w' k l2 ev ∧ Bad ev l2 w2 ∧ w.heap.size + 2 ≤ w2.heap.size ∧ Frm (fun j => j = k ∨ j = w.heap.size + 1) w2 w')) ∧ Frm (fun j => j = k ∨ O j) w w'
set_option maxRecDepth 100000 in
set_option maxHeartbeats 4000000 in
theorem guard_Between (w : World) (k : Nat) (l : List UInt8) (e0 : Int) (p1 p2 p3 p4 : Value) (O : Nat → Prop) (Post : World → Prop) (Bad : Int → List UInt8 → World → Prop) (hx : CBox w k l e0) (hO : ∀ j, O j → j < w.heap.size)
    (hbody : e0 = 0 → ∀ w1, Below w.heap.size w w1 → w.heap.size + 2 ≤ w1.heap.size → Calls Try.prog 94 #[p1, p2, p3, p4] w1 (BodyP k O Post Bad w1)) :
    Calls Try.prog 93 #[.pointer (some ⟨k, 0, none⟩), .func (Fn.func 94) #[] #[p1, p2, p3, p4]] w (GuardP k O e0 Post Bad w) := by
  have hmf : ∀ (fn : Fn) (first cap : Array Value) (w : World), (Instr.makeFunc fn first cap).run Try.prog w = .ok (.func fn first cap) w := fun _ _ _ _ => rfl
  have hxx := hx
  have hlt := hx.lt
  obtain ⟨A, n, c, B, hk, hr, hB⟩ := hx
  have b1 : One (w.alloc (.cells #[.pointer (some ⟨k, 0, none⟩)] 108)) w.heap.size (.pointer (some ⟨k, 0, none⟩)) 108 := One.new w _ _
  obtain ⟨W, hW⟩ : ∃ W, (w.alloc (.cells #[.pointer (some ⟨k, 0, none⟩)] 108)).alloc (.cells #[.bool false] 4) = W := ⟨_, rfl⟩
  have hBW : Below w.heap.size w W := by rw [← hW]; exact ((Below.refl _ _).alloc (Nat.le_refl _) _).alloc (by simp) _
  have o1 : One W w.heap.size (.pointer (some ⟨k, 0, none⟩)) 108 := by rw [← hW]; exact (Below.heap_alloc _ _ _ (by simp)).trans b1
  have o2 : One W (w.heap.size + 1) (.bool false) 4 := by
    have := One.new (w.alloc (.cells #[.pointer (some ⟨k, 0, none⟩)] 108)) (.bool false) 4
    rw [← hW]; simpa using this
  have hzW : W.heap.size = w.heap.size + 2 := by rw [← hW]; simp
  have hxW := hxx.next hBW
  have e1 : W.cell? ⟨k, 1, none⟩ = some (.int .i64 e0) := cell_of_row W k 1 _ _ (0, 0) ((hBW.block k hlt).trans hk)
  have kk0 : w.cell? ⟨k, 1, none⟩ = some (.int .i64 e0) := cell_of_row w k 1 _ _ (0, 0) hk
  by_cases he : e0 = 0
  · subst he
    have hb := hbody rfl W hBW (by omega)
    have HB := Lib.hid hb
    have HW := Lib.hid hW
    have HBW := Lib.hid hBW
    have H1 := Lib.hid o1
    have H2 := Lib.hid o2
    have HX := Lib.hid hxW
    have HO := Lib.hid hO
    clear hb hbody hr hk hxx b1 e1 o1 o2 hxW hB hW hBW hO
    go_enter_defers Try.func93, Try.ntmps93
    go_wp2_with fail
    rw [HW.out]
    refine HB.out.mono ?_
    rintro e w2 ⟨hcase, hf⟩
    have a1 := H1.out.frm hf (by rintro (h | h); omega; have := HO.out _ h; omega)
    have a2 := H2.out.frm hf (by rintro (h | h); omega; have := HO.out _ h; omega)
    have c2 := a2.cell
    have f2 := a2.free
    have hs2 := hf.size
    have HF0 := Lib.hid ((Frm.of_below (O := fun j => j = k ∨ O j) HBW.out).trans hf)
    rcases hcase with ⟨rfl, hp⟩ | ⟨ev, l2, rfl, hx2, hbad⟩
    · have HP := Lib.hid hp
      have hO3 := a2.set (.bool true)
      have hf3 : Frm (· = w.heap.size + 1) w2 (w2.setCell ⟨w.heap.size + 1, 0, none⟩ (.bool true)) := Frm.setCell (O := (· = w.heap.size + 1)) (Frm.refl _ _) (w.heap.size + 1) 0 (Or.inl rfl) _
      have HO3 := Lib.hid hO3
      have HF3 := Lib.hid hf3
      clear hp hf a1 a2 hO3 hf3
      go_wp2
      refine leaves_cons (f := 104) (args := #[.pointer (some ⟨w.heap.size, 0, none⟩), .pointer (some ⟨w.heap.size + 1, 0, none⟩)]) (by simp) (by simp [go_sem]) ?_
      refine (catch_idle _ _ _).mono ?_
      rintro e u' w3 ⟨rfl, rfl, hb3⟩
      have c3 := (HO3.out.next hb3).cell
      have hfin : GuardP k O 0 Post Bad w (.returned (.bool true)) w3 := ⟨Or.inr (Or.inl ⟨rfl, rfl, w2, HP.out, by omega, HF3.out.trans (.of_below hb3)⟩), (HF0.out.sub (HF3.out.trans (.of_below hb3)) (fun j hj => Or.inr (by omega)))⟩
      have HFIN := Lib.hid hfin
      clear hfin
      simp [Leaves, settle, results, Try.results93, go_sem, c3]
      exact HFIN.out
    · have HBAD := Lib.hid hbad
      have hcf := catch_fault w.heap.size (w.heap.size + 1) k l2 0 ev false w2 [] a1 a2 hx2 (by omega) (by omega)
      have HCF := Lib.hid hcf
      clear hbad hf a1 a2 hcf hx2
      go_wp2
      refine leaves_cons (f := 104) (args := #[.pointer (some ⟨w.heap.size, 0, none⟩), .pointer (some ⟨w.heap.size + 1, 0, none⟩)]) (by simp) (by simp [go_sem]) ?_
      refine HCF.out.mono ?_
      rintro e u' w3 ⟨rfl, rfl, hx3, hd3, hf3⟩
      have c3 := hd3.cell
      have hfin : GuardP k O 0 Post Bad w (.returned (.bool false)) w3 := ⟨Or.inr (Or.inr ⟨rfl, rfl, w2, ev, l2, hx3, HBAD.out, by omega, hf3⟩), HF0.out.sub hf3 (fun j hj => by rcases hj with h | h; exact Or.inl (Or.inl h); exact Or.inr (by omega))⟩
      have HFIN := Lib.hid hfin
      clear hfin hx3 hd3 hf3
      simp [Leaves, settle, results, Try.results93, go_sem, c3]
      exact HFIN.out
  · have hb0 : (e0 != 0) = true := by rw [bne_iff_ne]; exact he
    have hfin : GuardP k O e0 Post Bad w (.returned (.bool false)) W := ⟨Or.inl ⟨he, rfl, hBW⟩, .of_below hBW⟩
    have HW := Lib.hid hW
    have HFIN := Lib.hid hfin
    have HE := Lib.hid he
    clear hbody hr hk hxx b1 e1 o1 o2 hxW hB hW hBW hO hfin he hzW
    go_enter_defers Try.func93, Try.ntmps93
    go_wp2
    have hfin := HFIN.out
    rw [← HW.out] at hfin
    have HFIN2 := Lib.hid hfin
    clear hfin HFIN
    simp [bodyPostD, Leaves, settle, results, Try.results93, go_sem]
    exact HFIN2.out
end Go.Proofs.Ytlbodandidopfaa
