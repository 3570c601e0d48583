/- The disk: Of, New where it refuses, Reads, Bytes. Conditions: none. -/
import Derived.Test.YtldmamcalfmedaaDsz
import Derived.Test.YtldmamcalfmedaaDsn
namespace Go.Proofs.Ytldmamcalfmedaa
open Go.ChangeShapes Go.WideShapes Go.ChangeAt Go.RowKit Go.Maps
set_option linter.unusedSimpArgs false
set_option linter.unusedVariables false
section
variable (db kb mb pb mm : Nat) (d : Dk) (w : World) (h : DBox w db kb mb pb mm d)
include h
set_option maxRecDepth 100000 in
theorem reads_any : Calls Try.prog 49 #[.pointer (some ⟨db, 0, none⟩)] w fun e w' => e = .returned (.int .i64 d.reads) ∧ w = w' := by
  obtain ⟨_, _, _, _, _, _, _, _, _, _, _, _, _, _, _, _, _, c9, _⟩ := h.at
  clear h
  go_enter Try.func49, Try.ntmps49
  go_wp2
  go_ret
  exact ⟨rfl, rfl⟩
set_option maxRecDepth 100000 in
theorem bytes_any : Calls Try.prog 28 #[.pointer (some ⟨db, 0, none⟩)] w fun e w' => ∃ v, e = .returned v ∧ w'.ownsRow w.heap.size 5 1 v d.kept.length (bv d.kept) ∧ Below w.heap.size w w' := by
  obtain ⟨_, _, kc, _, _, hown, _, _, _, _, _, _, _, c5, _⟩ := h.at
  have hkl := h.ok.kept
  have hb : d.n * d.size ≤ 65536 * 4096 := Nat.mul_le_mul h.ok.n.2 h.ok.size.2
  have HR := Lib.hid (RdV.own hown)
  clear h hown
  have hLK : d.kept.length ≤ 268435456 := by omega
  clear hkl hb
  go_enter Try.func28, Try.ntmps28
  go_upto_region 1 with (fail)
  refine wp_region_lit ?_
  iterate 4 (refine wpList_plain rfl fun K hK => ?_; go_simp; refine hK _ _ ?_; clear hK K)
  refine wpList_append_rd _ rfl _ _ 32 rfl w.heap.size 5 (.int .u8 0) 1 Try.underlying32 inf8 rfl _ 0 [] rfl (World.ownsRow_nil _ _ _ _) _ rfl _ (bv d.kept) HR.out (bv_one _) (by rw [bv_length]; omega) (by omega) (Nat.le_refl _) ?_
  intro v2 w2 ho2 hg2 _
  have hg2' : w.grownBy w2 none := hg2
  rw [List.nil_append, Nat.zero_add, bv_length] at ho2
  have HO := Lib.hid ho2
  have HB := Lib.hid ((Below.refl w.heap.size w).grown hg2' (Nat.le_refl _) (by intro g h; cases h))
  clear ho2 hg2 hg2'
  refine wpList_plain rfl fun K hK => ?_
  go_simp
  refine hK _ _ ?_
  clear hK K
  refine wpList_nil ?_
  go_wp2
  go_ret
  exact ⟨v2, rfl, HO.out, HB.out⟩
end
set_option maxRecDepth 100000 in
set_option maxHeartbeats 1000000 in
theorem dof_ok (v : Value) (bl : List UInt8) (B n size : Nat) (w : World) (hv : RdV w B v (bv bl)) (hn : 1 ≤ n ∧ n ≤ 65536) (hs : 64 ≤ size ∧ size ≤ 4096) (hl : bl.length = n * size) :
    Calls Try.prog 26 #[v, .int .i64 (size : Nat)] w fun e w' => ∃ db kb mb, w.heap.size ≤ db ∧ w.heap.size ≤ kb ∧ w.heap.size ≤ mb ∧ e = .returned (.tuple #[.pointer (some ⟨db, 0, none⟩), .int .i64 0]) ∧ DBox w' db kb mb db 0 (newD n size bl) ∧ Below w.heap.size w w' := by
  have HR := Lib.hid (right_any (size : Nat) w)
  rw [decide_eq_true (by omega)] at HR
  have hb : n * size ≤ 65536 * 4096 := Nat.mul_le_mul hn.2 hs.2
  have hge : size ≤ n * size := Nat.le_mul_of_pos_left _ (by omega)
  obtain ⟨A, c, rfl, hc1, hc2, _⟩ := id hv
  rw [bv_length] at hc1 hv ⊢
  have HV := Lib.hid hv
  have hmod : ((bl.length : Nat) : Int) % ((size : Nat) : Int) = 0 := by rw [hl, Int.natCast_mul]; exact Int.mul_emod_left _ _
  have hquo : ((bl.length : Nat) : Int) / ((size : Nat) : Int) = (n : Nat) := by rw [hl, Int.natCast_mul]; exact Int.mul_ediv_cancel _ (by omega)
  have hL : bl.length ≤ 268435456 ∧ size ≤ bl.length := by omega
  have HL := Lib.hid hl
  clear hv hl hb hge hc2
  obtain ⟨L, hLL⟩ : ∃ L, bl.length = L := ⟨_, rfl⟩
  rw [hLL] at hmod hquo hL hc1 HV HL ⊢
  have HLL := Lib.hid hLL
  clear hLL
  go_enter Try.func26, Try.ntmps26
  go_wp2_with fail
  refine HR.out.mono ?_
  rintro e w1 ⟨rfl, rfl⟩
  go_upto_region 3 with (fail)
  refine wp_region_lit ?_
  refine wpList_plain rfl fun K hK => ?_
  go_simp
  refine hK _ _ ?_
  clear hK K
  refine wpList_append_rd _ rfl _ _ 32 rfl w.heap.size 5 (.int .u8 0) 1 Try.underlying32 inf8 rfl _ 0 [] rfl (World.ownsRow_nil _ _ _ _) _ rfl _ (bv bl) HV.out (bv_one _) (by rw [bv_length, HLL.out]; omega) (by omega) (Nat.le_refl _) ?_
  intro v2 w2 ho2 hg2 _
  have hg2' : w.grownBy w2 none := hg2
  rw [List.nil_append, Nat.zero_add, bv_length] at ho2
  obtain ⟨g2, c2, rfl⟩ := own_form2 ho2 (by rw [HLL.out]; omega)
  have ho0 : w2.ownsRow 0 5 1 (.slice (some ⟨g2, 0, none⟩) bl.length c2) bl.length (bv bl) := by
    refine ⟨ho2.1, ho2.2.imp id ?_⟩
    rintro ⟨g, cap, cur, e1, e2, e3⟩
    exact ⟨g, cap, cur, e1, Nat.zero_le _, e3⟩
  have hg2l : w.heap.size ≤ g2 := (ho2.lt g2 rfl).1
  have hof := of_any g2 c2 n size bl w2 ho0 hn hs (HLL.out.trans HL.out)
  rw [HLL.out] at hof
  have hb2 : Below w.heap.size w w2 := (Below.refl _ _).grown hg2' (Nat.le_refl _) (by intro g h; cases h)
  have HOF := Lib.hid hof
  have HB2 := Lib.hid hb2
  have hzz := hb2.size
  rw [HLL.out]
  clear ho2 ho0 hof hg2 hg2' hb2
  refine wpList_plain rfl fun K hK => ?_
  go_simp
  refine hK _ _ ?_
  clear hK K
  go_wp2_with fail
  refine HOF.out.mono ?_
  rintro e w3 ⟨rfl, hD, hB⟩
  have HD := Lib.hid hD
  have HB := Lib.hid (HB2.out.trans (hB.mono hzz))
  clear hD hB
  go_wp2
  go_ret2
  exact ⟨w2.heap.size + 1, g2, w2.heap.size, by omega, hg2l, hzz, rfl, HD.out, HB.out⟩
/-- what Of refuses -/
def badOf (L : Nat) (size : Int) : Prop := size < 64 ∨ 4096 < size ∨ (L : Int) % size ≠ 0 ∨ L = 0
set_option maxRecDepth 100000 in
set_option maxHeartbeats 1000000 in
theorem dof_bad (v : Value) (bl : List UInt8) (B : Nat) (size : Int) (w : World) (hv : RdV w B v (bv bl)) (hL : bl.length ≤ 32768) (hbad : badOf bl.length size) :
    Calls Try.prog 26 #[v, .int .i64 size] w fun e w' => e = .returned (.tuple #[.pointer none, .int .i64 1]) ∧ w = w' := by
  have HR := Lib.hid (right_any size w)
  obtain ⟨A, c, rfl, hc1, hc2, _⟩ := hv
  rw [bv_length] at hc1 ⊢
  obtain ⟨L, hLL⟩ : ∃ L, bl.length = L := ⟨_, rfl⟩
  rw [hLL] at hL hbad hc1 ⊢
  clear hc2 hLL
  by_cases hr : 64 ≤ size ∧ size ≤ 4096
  · rw [decide_eq_true hr] at HR
    by_cases hm : (L : Int) % size = 0
    · have h0 : L = 0 := by
        rcases hbad with h | h | h | h
        · omega
        · omega
        · exact absurd hm h
        · exact h
      subst h0
      clear hbad hm
      go_enter Try.func26, Try.ntmps26
      go_wp2_with fail
      refine HR.out.mono ?_
      rintro e w1 ⟨rfl, rfl⟩
      go_wp2
      go_ret2
      exact ⟨rfl, rfl⟩
    · have t0 : ((L : Int) % size == 0) = false := by rw [beq_eq_false_iff_ne]; exact hm
      have he : (L : Int).tmod size = (L : Int) % size := Int.tmod_eq_emod_of_nonneg (by omega)
      have t3 : ((L : Int).tmod size == 0) = false := by rw [he]; exact t0
      have t4 : ¬ ((L : Int).tmod size = 0) := by rw [he]; exact hm
      have t5 : 0 ≤ (L : Int) % size ∧ (L : Int) % size ≤ 4096 := ⟨Int.emod_nonneg _ (by omega), by have := Int.emod_lt_of_pos (L : Int) (show 0 < size by omega); omega⟩
      have t6 : ¬ (0 = (L : Int) % size) := fun e => hm e.symm
      clear hbad he
      go_enter Try.func26, Try.ntmps26
      go_wp2_with fail
      refine HR.out.mono ?_
      rintro e w1 ⟨rfl, rfl⟩
      go_wp2
      go_ret2
      exact ⟨rfl, rfl⟩
  · rw [decide_eq_false hr] at HR
    clear hbad hr
    go_enter Try.func26, Try.ntmps26
    go_wp2_with fail
    refine HR.out.mono ?_
    rintro e w1 ⟨rfl, rfl⟩
    go_wp2
    go_ret2
    exact ⟨rfl, rfl⟩
end Go.Proofs.Ytldmamcalfmedaa
