/- The document's disk: Of where it makes one, Read. Conditions: none. -/
import Derived.Test.YtldmamcalfmedaaDrd
namespace Go.Proofs.Ytldmamcalfmedaa
open Go.ChangeShapes Go.WideShapes Go.ChangeAt Go.RowKit Go.Maps
set_option linter.unusedSimpArgs false
set_option linter.unusedVariables false
theorem RBox.made {w : World} {n size : Nat} {bl : List UInt8} {g c : Nat} (hn : 1 ≤ n ∧ n ≤ 65536) (hs : 64 ≤ size ∧ size ≤ 4096) (hl : bl.length = n * size) (ho : w.ownsRow 0 5 1 (.slice (some ⟨g, 0, none⟩) bl.length c) bl.length (bv bl)) :
    RBox (w.alloc (.cells (rcells (newD n size bl) (.slice none 0 0) (.slice none 0 0) g c) 48)) w.heap.size g w.heap.size (newD n size bl) := by
  have hg : g < w.heap.size := own_lt ho rfl
  exact ⟨⟨.slice none 0 0, .slice none 0 0, c, heap_alloc_new w _, RdX.nil_ _ _, own_keep ho (fun g' hg' => by injection hg' with hg'; subst hg'; exact heap_alloc_old w _ hg), ⟨[], ⟨rfl, Or.inl ⟨rfl, rfl⟩⟩, fun g hg => (by cases hg), fun i p hi => (by simp [newD] at hi)⟩, fun _ => rfl⟩, ⟨by omega, fun e => absurd rfl e⟩, ⟨hn, hs, hl, fun p hp => (by cases hp)⟩, by simp, fun j hj => hj.elim⟩
set_option maxRecDepth 100000 in
set_option maxHeartbeats 4000000 in
theorem rof_ok (v : Value) (bl : List UInt8) (B n size : Nat) (w : World) (hv : RdV w B v (bv bl)) (hn : 1 ≤ n ∧ n ≤ 65536) (hs : 64 ≤ size ∧ size ≤ 4096) (hl : bl.length = n * size) (hBw : B ≤ w.heap.size) :
    Calls Try.prog 27 #[v, .int .i64 (size : Nat)] w fun e w' => ∃ rb rk, w.heap.size ≤ rb ∧ w.heap.size ≤ rk ∧ e = .returned (.tuple #[.pointer (some ⟨rb, 0, none⟩), .int .i64 0]) ∧ RBox w' rb rk rb (newD n size bl) ∧ Below w.heap.size w w' := by
  have hb : n * size ≤ 65536 * 4096 := Nat.mul_le_mul hn.2 hs.2
  have hge : size ≤ n * size := Nat.le_mul_of_pos_left _ (by omega)
  obtain ⟨A, c, rfl, hc1, hc2, _⟩ := id hv
  rw [bv_length] at hc1 hv ⊢
  have HV := Lib.hid hv
  have hmod : ((bl.length : Nat) : Int) % ((size : Nat) : Int) = 0 := by rw [hl, Int.natCast_mul]; exact Int.mul_emod_left _ _
  have hquo : ((bl.length : Nat) : Int) / ((size : Nat) : Int) = (n : Nat) := by rw [hl, Int.natCast_mul]; exact Int.mul_ediv_cancel _ (by omega)
  have hL : bl.length ≤ 268435456 ∧ size ≤ bl.length := by omega
  have HL := Lib.hid hl
  clear hv hl hb hge hc2
  obtain ⟨L, hLL⟩ : ∃ L, bl.length = L := ⟨_, rfl⟩
  rw [hLL] at hmod hquo hL hc1 HV HL ⊢
  have HLL := Lib.hid hLL
  clear hLL
  obtain ⟨hLa, hLb⟩ := hL
  have hL1 : 0 < L := by omega
  have tL : ((L : Int) == 0) = false := by rw [beq_eq_false_iff_ne]; omega
  have tL2 : ¬ L = 0 := by omega
  go_enter Try.func27, Try.ntmps27
  go_wp2_with fail
  have hE : Emp (w.drew.alloc (.cells #[] 5)) 5 w.heap.size := Emp.new w.drew _
  have HE := Lib.hid hE
  have HVA := Lib.hid (show RdV (w.drew.alloc (.cells #[] 5)) B (.slice A L c) (bv bl) from HV.out.drew.alloc hBw _)
  clear hE
  go_region_law (first
    | (refine step_append_rd _ rfl (.tmp 36) (.tmp 37) 32 rfl w.heap.size 5 (.int .u8 0) 1 Try.underlying32 inf8 rfl _ 0 [] rfl (Emp.own HE.out (Nat.le_refl _)) _ rfl B (bv bl) HVA.out (bv_one _) (by rw [bv_length, HLL.out]; omega) (by omega) (by simp) ?_; intro v2 w2 ho2 hg2 _; have hg2' : (w.alloc (.cells #[] 5)).drew.grownBy w2 (some w.heap.size) := hg2; rw [List.nil_append, Nat.zero_add, bv_length] at ho2; obtain ⟨g2, c2, hv2⟩ := own_form2 ho2 (by rw [HLL.out]; omega); subst hv2)
    | fail)
  all_goals
    have ho0 : w2.ownsRow 0 5 1 (.slice (some ⟨g2, 0, none⟩) bl.length c2) bl.length (bv bl) := by
      refine ⟨ho2.1, ho2.2.imp id ?_⟩
      rintro ⟨g, cap, cur, e1, e2, e3⟩
      exact ⟨g, cap, cur, e1, Nat.zero_le _, e3⟩
    have hb2 : Below w.heap.size w w2 := (((Below.refl w.heap.size w).alloc (Nat.le_refl _) (.cells #[] 5)).drew).grown hg2' (by simp) (by intro g hg; injection hg with hg; omega)
    have HR := Lib.hid (RBox.made hn hs (HLL.out.trans HL.out) ho0)
    have HB := Lib.hid (hb2.alloc hb2.size (.cells (rcells (newD n size bl) (.slice none 0 0) (.slice none 0 0) g2 c2) 48))
    have hgg : w.heap.size ≤ g2 := (ho2.lt g2 rfl).1
    have hzz := hb2.size
    clear ho2 hg2 hg2' ho0 hb2
    unfold rcells newD at HR HB
    go_wp2_with fail
    go_ret2
    simp only [show IntKind.i64.wrap ((n : Nat) : Int) = ((n : Nat) : Int) from by rw [IntKind.wrap_i64]; omega]
    first | exact ⟨w2.heap.size, g2, hzz, hgg, rfl, HR.out, HB.out⟩ | exact ⟨w2.heap.size, hzz, g2, hgg, rfl, HR.out, HB.out⟩
end Go.Proofs.Ytldmamcalfmedaa
