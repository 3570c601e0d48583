/- Contracts of codec.Reader's Int, Between and End, and of NewReader. Conditions: the rows are shorter than 2^32. -/
import Derived.Test.YtlbodandidopfaaRdg
namespace Go.Proofs.Ytlbodandidopfaa
open Go.ChangeShapes Go.WideShapes Go.ChangeAt Go.RowKit
set_option linter.unusedSimpArgs false
set_option linter.unusedVariables false


/-- what a reading leaves: the reader's state -/
def RdP (w : World) (k : Nat) (v : Value) (s : List UInt8 × Int) (e : Ending) (w' : World) : Prop := e = .returned v ∧ CBox w' k s.1 s.2 ∧ Frm (· = k) w w'
/-- a reading that tells a number, and 0 where it is given up -/
def readV (e : Int) (l : List UInt8) (o : Out) : Int × List UInt8 × Int := if e ≠ 0 then (0, l, e) else match o with
  | .ok v l' => (v, l', 0)
  | .bad ev l' => (0, l', ev)
theorem heap_at2 (w : World) (o : Obj) (k : Nat) (h : k = w.heap.size) : (w.alloc o).heap[k]? = some o := by subst h; exact heap_alloc_new w o
set_option maxRecDepth 100000 in
set_option maxHeartbeats 4000000 in
theorem between_err (w : World) (k : Nat) (l : List UInt8) (e0 : Int) (lo hi : Int) (hx : CBox w k l e0) (he : e0 ≠ 0) :
    Calls Try.prog 78 #[.pointer (some ⟨k, 0, none⟩), .int .i64 lo, .int .i64 hi] w (RdP w k (.int .i64 0) (l, e0)) := by
  have hlt := hx.lt
  obtain ⟨W, hW⟩ : ∃ W, ((((w.alloc (.cells #[.pointer (some ⟨k, 0, none⟩)] 108)).alloc (.cells #[.int .i64 lo] 3)).alloc (.cells #[.int .i64 hi] 3)).alloc (.cells #[.int .i64 0] 2)) = W := ⟨_, rfl⟩
  have hzW : W.heap.size = w.heap.size + 4 := by rw [← hW]; simp
  have hBW : Below w.heap.size w W := by rw [← hW]; repeat (first | exact Below.refl _ _ | refine Below.alloc ?_ (by simp; try omega) _)
  have o2 : One W (w.heap.size + 3) (.int .i64 0) 2 := by
    rw [← hW]; unfold One; exact heap_at2 _ _ _ (by simp)
  have hxW := hx.next hBW
  have hg := guard_Between W k l e0 (.pointer (some ⟨w.heap.size, 0, none⟩)) (.pointer (some ⟨w.heap.size + 1 + 1 + 1, 0, none⟩)) (.pointer (some ⟨w.heap.size + 1, 0, none⟩)) (.pointer (some ⟨w.heap.size + 1 + 1, 0, none⟩)) (fun _ => False) (fun _ => True) (fun _ _ _ => True) hxW (fun _ h => h.elim) (fun h => absurd h he)
  have hmf : ∀ (fn : Fn) (first cap : Array Value) (w : World), (Instr.makeFunc fn first cap).run Try.prog w = .ok (.func fn first cap) w := fun _ _ _ _ => rfl
  have HG := Lib.hid hg
  have HW := Lib.hid hW
  have HX := Lib.hid hxW
  have HBW := Lib.hid hBW
  have H2 := Lib.hid o2
  have HE := Lib.hid he
  clear hg hW hxW hBW o2 hx he
  go_enter Try.func78, Try.ntmps78
  go_wp2_with fail
  rw [HW.out]
  refine HG.out.mono ?_
  rintro e w1 ⟨⟨_, rfl, hb⟩ | ⟨h, _⟩ | ⟨h, _⟩, hfr⟩
  · have ho := H2.out.next hb
    have c1 := ho.cell
    have HB := Lib.hid hb
    clear ho hb hfr
    go_wp2
    go_ret
    exact ⟨rfl, HX.out.next HB.out, Frm.of_below (HBW.out.trans (HB.out.mono HBW.out.size))⟩
  · exact absurd h HE.out
  · exact absurd h HE.out
set_option maxRecDepth 100000 in
set_option maxHeartbeats 4000000 in
theorem end_any (w : World) (k : Nat) (l : List UInt8) (e0 : Int) (hx : CBox w k l e0) :
    Calls Try.prog 79 #[.pointer (some ⟨k, 0, none⟩)] w fun e w' => e = .returned (.int .i64 (if e0 = 0 ∧ l ≠ [] then 22 else e0)) ∧ w = w' := by
  obtain ⟨A, n, c, B, hk, hr, hB⟩ := hx
  obtain ⟨A', c', ev, hc1, hc2, _⟩ := id hr
  injection ev with ev1 ev2 ev3
  subst ev1 ev3
  rw [bv_length] at ev2 hc1
  subst ev2
  unfold maxLen at hc2
  have k0 : w.cell? ⟨k, 0, none⟩ = some (.slice A l.length c) := cell_of_row w k 0 _ _ (0, 0) hk
  have k1 : w.cell? ⟨k, 1, none⟩ = some (.int .i64 e0) := cell_of_row w k 1 _ _ (0, 0) hk
  clear hr hk
  by_cases he : e0 = 0
  · subst he
    cases l with
    | nil =>
      simp only [List.length_nil] at k0
      rw [if_neg (by simp)]
      go_enter Try.func79, Try.ntmps79
      go_wp2
      go_ret
      exact ⟨rfl, rfl⟩
    | cons b r =>
      have hp : 0 < (b :: r).length := by simp
      rw [if_pos (by simp)]
      generalize (b :: r).length = m at *
      go_enter Try.func79, Try.ntmps79
      go_wp2
      go_ret
      exact ⟨rfl, rfl⟩
  · have hb : (e0 == 0) = false := by rw [beq_eq_false_iff_ne]; exact he
    rw [if_neg (fun h => he h.1)]
    clear he
    go_enter Try.func79, Try.ntmps79
    go_wp2
    go_ret
    exact ⟨rfl, rfl⟩
set_option maxRecDepth 100000 in
set_option maxHeartbeats 4000000 in
theorem newreader_any (vb : Value) (l : List UInt8) (hl : l.length < 4294967296) (w : World) (B : Nat) (hB : B ≤ w.heap.size) (hr : RdV w B vb (bv l)) :
    Calls Try.prog 77 #[vb] w fun e w' => ∃ k, e = .returned (.pointer (some ⟨k, 0, none⟩)) ∧ w.heap.size ≤ k ∧ CBox w' k l 0 ∧ Below w.heap.size w w' := by
  have hrr := hr
  obtain ⟨A, c, rfl, hc1, hc2, hc3⟩ := hr
  rw [bv_length] at hc1 hc3 hrr ⊢
  unfold maxLen at hc2
  have HR := Lib.hid hrr
  clear hc3 hrr
  go_enter Try.func77, Try.ntmps77
  go_wp2_with (at_builtin; refine wpList_append_rd _ rfl _ _ 36 rfl w.heap.size 5 (.int .u8 0) 1 Try.underlying36 Try.inf5 rfl (.slice none 0 0) 0 [] (by rfl) ⟨by simp, Or.inl ⟨rfl, rfl⟩⟩ _ (by rfl) B (bv l) HR.out (bv_one l) (by rw [bv_length]; omega) (by omega) (Nat.le_refl _) ?_; intro v2 w2 ho2 hg2 _; rw [Nat.zero_add, bv_length, List.nil_append] at ho2; obtain ⟨A2, c2, e2, f1, f2, _⟩ := id (RdV.own ho2); rw [bv_length] at e2; subst e2)
  have hb2 : Below w.heap.size w w2 := (Below.refl _ w).grown hg2 (Nat.le_refl _) (by intro g hg; simp [Value.ownBlock] at hg)
  have hs2 := hb2.size
  have hr2 := RdV.own ho2
  have HR2 := Lib.hid hr2
  have HB2 := Lib.hid hb2
  clear ho2 hg2 hr2 hb2
  go_wp2
  go_ret
  refine ⟨_, rfl, by omega, ⟨A2, _, _, _, heap_alloc_new _ _, HR2.out.alloc (Nat.le_refl _) _, Nat.le_refl _⟩, HB2.out.alloc (by omega) _⟩
end Go.Proofs.Ytlbodandidopfaa
