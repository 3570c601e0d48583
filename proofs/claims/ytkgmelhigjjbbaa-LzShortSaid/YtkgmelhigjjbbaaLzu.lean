/- Contracts of lz.Check, lz.Copies, lz.Unpack. Conditions: the row is shorter than 2^32, there is room for less than 2^31 bytes. -/
import Derived.Test.YtkgmelhigjjbbaaLzc
namespace Go.Proofs.Ytkgmelhigjjbbaa
open Go.ChangeShapes Go.WideShapes Go.ChangeAt Go.RowKit
set_option linter.unusedSimpArgs false
set_option linter.unusedVariables false

/-- what packed bytes come to, by their error -/
def CheckP (room : Nat) (x : List UInt8) (w : World) (e : Ending) (w' : World) : Prop :=
  ∃ (o : List UInt8) (n ev : Nat), Lz.Walks room x o n ev ∧ e = .returned (.tuple #[.int .i64 ((if ev = 0 then o.length else 0 : Nat) : Int), .int .i64 (ev : Nat)]) ∧ o.length ≤ room ∧ Below w.heap.size w w'
set_option maxRecDepth 100000 in
set_option maxHeartbeats 1000000 in
theorem check_any (vb : Value) (x : List UInt8) (hx : x.length < 4294967296) (most : Int) (m0 : -9223372036854775808 ≤ most) (hmost : most ≤ 2147483647) (w : World) (hr : RdV w w.heap.size vb (bv x)) :
    Calls Try.prog 11 #[vb, .int .i64 most] w (CheckP most.toNat x w) := by
  have hmf : ∀ (fn : Fn) (first cap : Array Value) (w : World), (Instr.makeFunc fn first cap).run Try.prog w = .ok (.func fn first cap) w := fun _ _ _ _ => rfl
  have hroom : most.toNat ≤ 1099511627776 := by omega
  obtain ⟨W, hW⟩ : ∃ W, w.alloc (.cells #[.int .i64 0] 3) = W := ⟨_, rfl⟩
  have hz : W.heap.size = w.heap.size + 1 := by rw [← hW]; simp
  have hb : Below w.heap.size w W := by rw [← hW]; exact (Below.refl _ _).alloc (Nat.le_refl _) _
  have o1 : One W w.heap.size (.int .i64 0) 3 := by rw [← hW]; exact One.new w _ _
  have hwk := walk_C (.pointer (some ⟨w.heap.size, 0, none⟩)) (.pointer (some ⟨w.heap.size, 0, none⟩)) w.heap.size (NBox w.heap.size (fun o n => o.length)) most m0 (by omega)
    (litC w.heap.size w.heap.size most.toNat _ (Nat.le_refl _) (fun o n p h => ⟨by simp, by omega⟩)) (copC w.heap.size w.heap.size most.toNat _ (Nat.le_refl _) (fun o n m d h => ⟨by simp [Lz.back_len], by omega⟩)) vb x hx W (by omega) (hr.below hb) o1
  have HWK := Lib.hid hwk
  have HB := Lib.hid hb
  have HW := Lib.hid hW
  clear hwk hb hW o1 hr
  go_enter Try.func11, Try.ntmps11
  go_wp2_with fail
  rw [HW.out]
  refine HWK.out.mono ?_
  rintro e w2 ⟨o, n, ev, hwk, rfl, ho, hlen, hb2⟩
  unfold NBox at ho
  have c2 := ho.cell
  have hB2 := HB.out.trans hb2
  have hfin : ∀ e w', e = Ending.returned (.tuple #[.int .i64 ((if ev = 0 then o.length else 0 : Nat) : Int), .int .i64 (ev : Nat)]) → Below w.heap.size w w' → CheckP most.toNat x w e w' := fun e w' h1 h2 => ⟨o, n, ev, hwk, h1, hlen, h2⟩
  have HF := Lib.hid hfin
  have HB2 := Lib.hid hB2
  clear hwk ho hfin hB2 hb2
  by_cases he : ev = 0
  · subst he
    go_wp2
    go_ret2
    exact HF.out _ _ (by rfl) HB2.out
  · have t1 : ((ev : Int) == 0) = false := by rw [beq_eq_false_iff_ne]; omega
    have HE := Lib.hid he
    clear he
    go_wp2
    go_ret2
    exact HF.out _ _ (by rw [if_neg HE.out]; rfl) HB2.out

def CopiesP (x : List UInt8) (w : World) (e : Ending) (w' : World) : Prop :=
  ∃ (o : List UInt8) (n ev : Nat), Lz.Walks 1048576 x o n ev ∧ e = .returned (.tuple #[.int .i64 ((if ev = 0 then n else 0 : Nat) : Int), .int .i64 ((if ev = 0 then o.length - n else 0 : Nat) : Int), .int .i64 (ev : Nat)]) ∧ o.length ≤ 1048576 ∧ n ≤ o.length ∧ Below w.heap.size w w'
set_option maxRecDepth 100000 in
set_option maxHeartbeats 1000000 in
theorem copies_any (vb : Value) (x : List UInt8) (hx : x.length < 4294967296) (w : World) (hr : RdV w w.heap.size vb (bv x)) :
    Calls Try.prog 12 #[vb] w (CopiesP x w) := by
  have hmf : ∀ (fn : Fn) (first cap : Array Value) (w : World), (Instr.makeFunc fn first cap).run Try.prog w = .ok (.func fn first cap) w := fun _ _ _ _ => rfl
  obtain ⟨W, hW⟩ : ∃ W, (w.alloc (.cells #[.int .i64 0] 3)).alloc (.cells #[.int .i64 0] 3) = W := ⟨_, rfl⟩
  have hz : W.heap.size = w.heap.size + 2 := by rw [← hW]; simp
  have hb : Below w.heap.size w W := by rw [← hW]; exact ((Below.refl _ _).alloc (Nat.le_refl _) _).alloc (by simp) _
  have o1 : One W w.heap.size (.int .i64 0) 3 := by rw [← hW]; exact (Below.heap_alloc _ _ _ (by simp)).trans (One.new w _ _)
  have o2 : One W (w.heap.size + 1) (.int .i64 0) 3 := by
    have := One.new (w.alloc (.cells #[.int .i64 0] 3)) (.int .i64 0) 3
    rw [← hW]; simpa using this
  have hwk := walk_P (.pointer (some ⟨w.heap.size, 0, none⟩)) (.pointer (some ⟨w.heap.size + 1, 0, none⟩)) w.heap.size (PBox w.heap.size (w.heap.size + 1)) 1048576 (by omega) (by omega)
    (litP w.heap.size w.heap.size (w.heap.size + 1) _ (Nat.le_refl _) (by omega) (by decide)) (copP w.heap.size w.heap.size (w.heap.size + 1) _ (by omega) (by omega) (by decide)) vb x hx W (by omega) (hr.below hb) ⟨o1, o2, Nat.le_refl _⟩
  have HWK := Lib.hid hwk
  have HB := Lib.hid hb
  have HW := Lib.hid hW
  clear hwk hb hW o1 o2 hr
  go_enter Try.func12, Try.ntmps12
  go_wp2_with fail
  rw [HW.out]
  refine HWK.out.mono ?_
  rintro e w2 ⟨o, n, ev, hwk, rfl, ⟨h1, h2, hno⟩, hlen, hb2⟩
  have c1 := h1.cell
  have c2 := h2.cell
  have f1 := h1.free
  have f2 := h2.free
  have hB2 := HB.out.trans hb2
  have hfin : ∀ e w', e = Ending.returned (.tuple #[.int .i64 ((if ev = 0 then n else 0 : Nat) : Int), .int .i64 ((if ev = 0 then o.length - n else 0 : Nat) : Int), .int .i64 (ev : Nat)]) → Below w.heap.size w w' → CopiesP x w e w' := fun e w' h1 h2 => ⟨o, n, ev, hwk, h1, hlen, hno, h2⟩
  have HF := Lib.hid hfin
  have HB2 := Lib.hid hB2
  have H1 := Lib.hid h1
  have H2 := Lib.hid h2
  clear hwk h1 h2 hfin hB2 hb2
  generalize o.length - n = q at *
  have hW4 : ∀ a b : Int, One ((w2.setCell ⟨w.heap.size, 0, none⟩ (.int .i64 a)).setCell ⟨w.heap.size + 1, 0, none⟩ (.int .i64 b)) w.heap.size (.int .i64 a) 3 ∧ One ((w2.setCell ⟨w.heap.size, 0, none⟩ (.int .i64 a)).setCell ⟨w.heap.size + 1, 0, none⟩ (.int .i64 b)) (w.heap.size + 1) (.int .i64 b) 3 :=
    fun a b => ⟨(H1.out.set _).other _ _ (by omega) _, (H2.out.other _ _ (by omega) _).set _⟩
  have HW4 := Lib.hid hW4
  clear hW4
  by_cases he : ev = 0
  · subst he
    have c3 : (w2.setCell ⟨w.heap.size, 0, none⟩ (.int .i64 (n : Nat))).cell? ⟨w.heap.size + 1, 0, none⟩ = some (.int .i64 (q : Nat)) := (H2.out.other _ _ (by omega) _).cell
    have f3 : (w2.setCell ⟨w.heap.size, 0, none⟩ (.int .i64 (n : Nat))).frozen? ⟨w.heap.size + 1, 0, none⟩ = false := (H2.out.other _ _ (by omega) _).free
    go_wp2_with fail
    go_region
    all_goals (try go_wp2)
    obtain ⟨x1, x2⟩ := HW4.out n q
    have c41 := x1.cell
    have c42 := x2.cell
    refine bodyPost_ret (v := .tuple #[.int .i64 n, .int .i64 q, .int .i64 0]) ?_ rfl ?_
    · simp [results, Try.f12, go_sem, c41, c42]
    · exact HF.out _ _ (by simp) ((HB2.out.setCell (p := ⟨w.heap.size, 0, none⟩) (Nat.le_refl _) _).setCell (p := ⟨w.heap.size + 1, 0, none⟩) (Nat.le_succ _) _).drew
  · have t1 : ((ev : Int) == 0) = false := by rw [beq_eq_false_iff_ne]; omega
    have HE := Lib.hid he
    clear he
    have f3 : (w2.setCell ⟨w.heap.size, 0, none⟩ (.int .i64 0)).frozen? ⟨w.heap.size + 1, 0, none⟩ = false := (H2.out.other _ _ (by omega) _).free
    go_wp2
    obtain ⟨x1, x2⟩ := HW4.out 0 0
    have c41 := x1.cell
    have c42 := x2.cell
    refine bodyPost_ret (v := .tuple #[.int .i64 0, .int .i64 0, .int .i64 ev]) ?_ rfl ?_
    · simp [results, Try.f12, go_sem, c41, c42]
    · exact HF.out _ _ (by rw [if_neg HE.out, if_neg HE.out]; rfl) ((HB2.out.setCell (p := ⟨w.heap.size, 0, none⟩) (Nat.le_refl _) _).setCell (p := ⟨w.heap.size + 1, 0, none⟩) (Nat.le_succ _) _)

def UnpackP (room : Nat) (x : List UInt8) (w : World) (e : Ending) (w' : World) : Prop :=
  ∃ (o : List UInt8) (n ev : Nat) (r : Value), Lz.Walks room x o n ev ∧ e = .returned (.tuple #[r, .int .i64 (ev : Nat)]) ∧ RdV w' w'.heap.size r (bv (if ev = 0 then o else [])) ∧ o.length ≤ room ∧ Below w.heap.size w w'
set_option maxRecDepth 100000 in
set_option maxHeartbeats 1000000 in
theorem unpack_any (vb : Value) (x : List UInt8) (hx : x.length < 4294967296) (most : Int) (m0 : -9223372036854775808 ≤ most) (hmost : most ≤ 2147483647) (w : World) (hr : RdV w w.heap.size vb (bv x)) :
    Calls Try.prog 9 #[vb, .int .i64 most] w (UnpackP most.toNat x w) := by
  have hmf : ∀ (fn : Fn) (first cap : Array Value) (w : World), (Instr.makeFunc fn first cap).run Try.prog w = .ok (.func fn first cap) w := fun _ _ _ _ => rfl
  have HCK := Lib.hid (check_any vb x hx most m0 hmost w hr)
  have HR := Lib.hid hr
  clear hr
  go_enter Try.func9, Try.ntmps9
  go_wp2_with fail
  refine HCK.out.mono ?_
  rintro e w1 ⟨o, n, ev, hwk, rfl, hlen, hb1⟩
  have hs1 := hb1.size
  have hroom : o.length ≤ 2147483647 := by omega
  have HWK := Lib.hid hwk
  have HB1 := Lib.hid hb1
  have HLEN := Lib.hid hlen
  have hfin : ∀ r e w', e = Ending.returned (.tuple #[r, .int .i64 (ev : Nat)]) → RdV w' w'.heap.size r (bv (if ev = 0 then o else [])) → Below w.heap.size w w' → UnpackP most.toNat x w e w' := fun r e w' h1 h2 h3 => ⟨o, n, ev, r, hwk, h1, h2, hlen, h3⟩
  have HF := Lib.hid hfin
  clear hwk hb1 hlen hfin
  by_cases he : ev = 0
  · subst he
    simp only [if_true]
    go_wp2_with (at_make; refine wpList_make_rd _ rfl _ _ 22 rfl w1.heap.size 5 (.int .u8 0) 1 Try.underlying22 Try.inf5 rfl .i64 .i64 0 o.length _ _ rfl rfl rfl rfl (by omega) (by omega) (by unfold maxLen; omega) (Nat.le_refl _) ?_; intro w2 ho2 hg2)
    have hlt2 : w1.heap.size < w2.heap.size := (ho2.lt w1.heap.size rfl).2
    have hb2 : Below w.heap.size w w2 := HB1.out.grown hg2 hs1 (fun g hg => by cases hg)
    obtain ⟨W, hW⟩ : ∃ W, w2.alloc (.cells #[.slice (some ⟨w1.heap.size, 0, none⟩) 0 o.length] 22) = W := ⟨_, rfl⟩
    have hz : W.heap.size = w2.heap.size + 1 := by rw [← hW]; simp
    have hb3 : Below w.heap.size w W := by rw [← hW]; exact hb2.alloc (by omega) _
    have o1 : One W w2.heap.size (.slice (some ⟨w1.heap.size, 0, none⟩) 0 o.length) 22 := by rw [← hW]; exact One.new w2 _ _
    have ho3 : W.ownsRow w1.heap.size 5 1 (.slice (some ⟨w1.heap.size, 0, none⟩) 0 o.length) 0 [] := by rw [← hW]; exact ho2.alloc _
    have hwk2 := walk_U (.pointer (some ⟨w2.heap.size, 0, none⟩)) (.pointer (some ⟨w2.heap.size, 0, none⟩)) w1.heap.size (OBox w1.heap.size w2.heap.size) most m0 (by omega)
      (litU w1.heap.size w2.heap.size most.toNat (by omega)) (copU w1.heap.size w2.heap.size most.toNat (by omega)) vb x hx W (by omega) ((HR.out.below hb3).more hs1)
      ⟨_, o1, ho3, by intro e; have e' : some w1.heap.size = some w2.heap.size := e; injection e'; omega, by omega⟩
    have HWK2 := Lib.hid hwk2
    have HB3 := Lib.hid hb3
    clear hwk2 o1 ho3 hb2 hb3 ho2 hg2
    rw [hW]
    refine HWK2.out.mono ?_
    rintro e w3 ⟨o', n', ev', h1, rfl, ⟨v, h2, h3, h4, h5⟩, h6, h7⟩
    obtain ⟨rfl, rfl, rfl⟩ := Lz.Walks.same HWK.out h1
    have c3 := h2.cell
    have hrv := RdV.own h3
    have HRV := Lib.hid hrv
    have HB7 := Lib.hid (HB3.out.trans (h7.mono hs1))
    clear h2 h3 h4 h7 h1 hrv
    go_wp2
    go_ret2
    exact ⟨o, n, 0, v, HWK.out, by rfl, by rw [if_pos rfl]; exact HRV.out, HLEN.out, HB7.out⟩
  · have t1 : ((ev : Int) == 0) = false := by rw [beq_eq_false_iff_ne]; omega
    have HE := Lib.hid he
    rw [if_neg he]
    clear he
    go_wp2
    go_ret2
    exact HF.out _ _ _ (by rfl) (by rw [if_neg HE.out]; exact RdV.nil_ _ _) HB1.out
end Go.Proofs.Ytkgmelhigjjbbaa
