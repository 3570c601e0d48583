/- The law LzJoins answers true for any two rows of bytes: two rows of tokens behind one another are one row, that unpacks to both, if the second reaches back no further than itself. Conditions: none. -/
import Derived.Test.YtkgmelhigjjbbaaLzk
namespace Go.Proofs.Ytkgmelhigjjbbaa.lawLzJoins
open Go.ChangeShapes Go.WideShapes Go.ChangeAt Go.RowKit
set_option linter.unusedSimpArgs false
set_option linter.unusedVariables false

theorem own : ownKnob Try.prog.godebug = none := by kernel_rfl
theorem laid : laidOutB Try.prog = true := by kernel_rfl

theorem bapp (x y : List UInt8) : ((⟨x.toArray⟩ : ByteArray) ++ ⟨y.toArray⟩) = ⟨(x ++ y).toArray⟩ := by
  apply ByteArray.ext
  rw [ByteArray.data_append]
  simp
theorem own_one (w : World) : (w.alloc (.cells #[.int .u8 1] 5)).ownsRow w.heap.size 5 1 (.slice (some ⟨w.heap.size, 0, none⟩) 1 1) 1 (bv [1]) := World.ownsRow_lit w #[.int .u8 1] 1 (Nat.le_refl _) (by decide) rfl
set_option maxRecDepth 100000 in
set_option maxHeartbeats 4000000 in
theorem walk (va : Value) (la : List UInt8) {W0 : World} (hra : RdV W0 W0.heap.size va (bv la)) (vb : Value) (lb : List UInt8) (hrb : RdV W0 W0.heap.size vb (bv lb)) (w : World) (hw : W0 = w) :
    Calls Try.prog 6 #[va, vb] w fun e w' => e = .returned (.bool true) ∧ Below w.heap.size w w' := by
  subst hw
  have hraa := hra
  obtain ⟨A, ca, rfl, hla, hma, hA⟩ := hra
  have hrbb := hrb
  obtain ⟨Ab, cb, rfl, hlb, hmb, hAb⟩ := hrb
  simp only [bv_length] at hla hA hraa hlb hAb hrbb ⊢
  unfold maxLen at hma hmb
  have HK := Lib.hid (known_any W0)
  have HA := Lib.hid hraa
  have HB := Lib.hid hrbb
  clear hA hraa hAb hrbb
  by_cases l1 : 2000 < la.length
  · go_enter Try.func6, Try.ntmps6
    go_wp2_with fail
    refine HK.out.mono ?_
    rintro e w1 ⟨rfl, hb1⟩
    go_wp2
    go_ret
    exact ⟨rfl, hb1⟩
  by_cases l2 : 2000 < lb.length
  · go_enter Try.func6, Try.ntmps6
    go_wp2_with fail
    refine HK.out.mono ?_
    rintro e w1 ⟨rfl, hb1⟩
    go_wp2
    go_ret
    exact ⟨rfl, hb1⟩
  go_enter Try.func6, Try.ntmps6
  go_wp2_with fail
  refine HK.out.mono ?_
  rintro e w1 ⟨rfl, hb1⟩
  have hz1 := hb1.size
  have hx1 : (1 + (bv la).length) * 1 ≤ 140737488355328 := by rw [bv_length]; omega
  have hx2 : (1 + (bv lb).length) * 1 ≤ 140737488355328 := by rw [bv_length]; omega
  have hx3 : (1 + (bv la).length + (bv lb).length) * 1 ≤ 140737488355328 := by rw [bv_length, bv_length]; omega
  have HX1 := Lib.hid hx1
  have HX2 := Lib.hid hx2
  have HX3 := Lib.hid hx3
  have HO := Lib.hid (fun w' => own_one w')
  have HAL := Lib.hid (fun (w' : World) => (Below.refl w'.heap.size w').alloc (Nat.le_refl _) (.cells #[.int .u8 1] 5))
  have HRA := Lib.hid (fun (w' : World) (h : Below W0.heap.size W0 w') => ((HA.out.below h).more h.size).alloc (Nat.le_refl _) (.cells #[.int .u8 1] 5))
  have HRB := Lib.hid (fun (w' : World) (h : Below W0.heap.size W0 w') => ((HB.out.below h).more h.size).alloc (Nat.le_refl _) (.cells #[.int .u8 1] 5))
  have HB1 := Lib.hid hb1
  clear hx1 hx2 hx3 hb1
  go_wp2_with (at_builtin; refine wpList_append_rd _ rfl (.tmp 24) (.tmp 25) 22 rfl w1.heap.size 5 (.int .u8 0) 1 Try.underlying22 Try.inf5 rfl _ _ _ (by rfl) (HO.out w1) _ (by rfl) _ _ (HRA.out w1 HB1.out) (bv_one la) HX1.out (by omega) (by simp) ?_; intro v2 w2 ho2 hg2 hv2; rw [← bv_append] at ho2; have hb2 := (HAL.out w1).grown hg2 (by simp) (fun g hg => ((HO.out w1).lt g hg).1); have hB2 := nextB hb2 HB1.out; clear hg2 hv2)
  have hs2 := hB2.size
  have ru : Calls Try.prog 10 #[v2, .int .i64 16384] w2 (RUnP 16384 ([1] ++ la) w2) := runpack_any _ _ (by rw [List.length_append, List.length_singleton]; omega) 16384 (by omega) w2 (RdV.own ho2)
  have RU := Lib.hid ru
  have HB2 := Lib.hid hB2
  clear ru ho2 hb2 hB2
  refine RU.out.mono ?_
  rintro e w3 ⟨x, n1, e1, r1, hwk1, rfl, hrv1, hlen1, hno1, hb3⟩
  generalize (if e1 = 0 then n1 else 0) = q1
  obtain ⟨x', hx'⟩ : ∃ x', (if e1 = 0 then x else []) = x' := ⟨_, rfl⟩
  rw [hx'] at hrv1
  have HXP : Hid (e1 = 0 → x' = x) := fun h => by rw [← hx', if_pos h]
  clear hx'
  have hB3 := nextB hb3 HB2.out
  obtain ⟨Ar, cr, rfl, hcr1, hcr2, _⟩ := id hrv1
  have hs3 := hB3.size
  have HB3 := Lib.hid hB3
  have HRV1 := Lib.hid hrv1
  have HW1 := Lib.hid hwk1
  clear hb3 hB3 hrv1 hwk1 hno1 hcr1 hcr2
  go_wp2_with (at_builtin; refine wpList_append_rd _ rfl (.tmp 32) (.tmp 33) 22 rfl w3.heap.size 5 (.int .u8 0) 1 Try.underlying22 Try.inf5 rfl _ _ _ (by rfl) (HO.out w3) _ (by rfl) _ _ (HRB.out w3 HB3.out) (bv_one lb) HX2.out (by omega) (by simp) ?_; intro v4 w4 ho4 hg4 hv4; rw [← bv_append] at ho4; have hb4 := (HAL.out w3).grown hg4 (by simp) (fun g hg => ((HO.out w3).lt g hg).1); have hB4 := nextB hb4 HB3.out; clear hg4 hv4)
  have hs4 := hB4.size
  have ru : Calls Try.prog 10 #[v4, .int .i64 16384] w4 (RUnP 16384 ([1] ++ lb) w4) := runpack_any _ _ (by rw [List.length_append, List.length_singleton]; omega) 16384 (by omega) w4 (RdV.own ho4)
  have RU2 := Lib.hid ru
  have HB4 := Lib.hid hB4
  have HX := Lib.hid (HRV1.out.below hb4)
  have hs34 := hb4.size
  clear ru ho4 hb4 hB4
  refine RU2.out.mono ?_
  rintro e w5 ⟨y, n2, e2, r2, hwk2, rfl, hrv2, hlen2, hno2, hb5⟩
  generalize (if e2 = 0 then n2 else 0) = q2
  obtain ⟨y', hy'⟩ : ∃ y', (if e2 = 0 then y else []) = y' := ⟨_, rfl⟩
  rw [hy'] at hrv2
  have HYP : Hid (e2 = 0 → y' = y) := fun h => by rw [← hy', if_pos h]
  clear hy'
  have hB5 := nextB hb5 HB4.out
  obtain ⟨Ar2, cr2, rfl, hcr3, hcr4, _⟩ := id hrv2
  have hs5 := hB5.size
  have hx5 := RdV.below' HX.out hb5 hs34
  have hs45 := hb5.size
  have HB5 := Lib.hid hB5
  have HRV2 := Lib.hid hrv2
  have HW2 := Lib.hid hwk2
  have HX5 := Lib.hid hx5
  clear hb5 hB5 hrv2 hwk2 hno2 hcr3 hcr4 hx5
  rcases Nat.eq_zero_or_pos e1 with he1 | he1
  rotate_left
  · have t1 : ((e1 : Int) == 0) = false := by rw [beq_eq_false_iff_ne]; omega
    go_wp2
    all_goals go_ret
    all_goals exact ⟨rfl, HB5.out⟩
  subst he1
  rcases Nat.eq_zero_or_pos e2 with he2 | he2
  rotate_left
  · have t1 : ((e2 : Int) == 0) = false := by rw [beq_eq_false_iff_ne]; omega
    clear he2
    go_wp2
    all_goals go_ret
    all_goals exact ⟨rfl, HB5.out⟩
  subst he2
  obtain rfl := HXP.out rfl
  obtain rfl := HYP.out rfl
  have hx9 := HX5.out
  have hy9 := HRV2.out
  rw [bv_length] at hx9 hy9
  have HX5 := Lib.hid hx9
  have HRV2 := Lib.hid hy9
  clear hx9 hy9
  simp only [bv_length]
  have HRA2 := Lib.hid (HRA.out w5 HB5.out)
  have hrb5 : ∀ w' : World, Below W0.heap.size W0 w' → RdV w' W0.heap.size (.slice Ab lb.length cb) (bv lb) := fun w' h => HB.out.below h
  have HRB5 := Lib.hid hrb5
  obtain ⟨m, hj⟩ := Lz.Walks.joins HW1.out HW2.out
  have HJ := Lib.hid hj
  clear hj hrb5
  go_wp2_with (first
    | (at_builtin; refine wpList_append_rd _ rfl (.tmp 46) (.tmp 47) 22 rfl w5.heap.size 5 (.int .u8 0) 1 Try.underlying22 Try.inf5 rfl _ _ _ (by rfl) (HO.out w5) _ (by rfl) _ _ HRA2.out (bv_one la) HX1.out (by omega) (by simp) ?_; intro v6 w6 ho6 hg6 hv6; have hb6 := (HAL.out w5).grown hg6 (by simp) (fun g hg => ((HO.out w5).lt g hg).1); have hB6 := nextB hb6 HB5.out; have HO6 := Lib.hid ho6; have HG6 := Lib.hid hb6; have HB6 := Lib.hid hB6; have hs6 := hb6.size; clear hg6 hv6 ho6 hb6 hB6)
    | (at_builtin; refine wpList_append_rd _ rfl (.tmp 48) (.tmp 49) 22 rfl w5.heap.size 5 (.int .u8 0) 1 Try.underlying22 Try.inf5 rfl _ _ _ (by rfl) HO6.out _ (by rfl) _ _ (HRB5.out w6 HB6.out) (bv_one lb) HX3.out (by omega) (by omega) ?_; intro v7 w7 ho7 hg7 hv7; rw [← bv_append, ← bv_append] at ho7; have hb7 := HG6.out.grown hg7 (by omega) (fun g hg => (HO6.out.lt g hg).1); have hB7 := nextB hb7 HB5.out; have HO7 := Lib.hid ho7; have HB7 := Lib.hid hB7; have hs7 := hb7.size; have HX7 := Lib.hid (RdV.below' HX5.out hb7 (by omega)); have HY7 := Lib.hid (HRV2.out.below hb7); clear hg7 hv7 ho7 hb7 hB7))
  have hu := unpack_any v7 _ (by simp; omega) ((x'.length : Int) + (y'.length : Int)) (by omega) (by omega) w7 (RdV.own HO7.out)
  have HU := Lib.hid hu
  clear hu
  refine HU.out.mono ?_
  rintro e w8 ⟨o, n8, e8, r8, hwk8, rfl, hrv8, hlen8, hb8⟩
  obtain ⟨rfl, rfl, rfl⟩ := Lz.Walks.same (by rw [show ((x'.length : Int) + (y'.length : Int)).toNat = x'.length + y'.length from by omega]; simpa using HJ.out) hwk8
  rw [if_pos rfl] at hrv8
  have HB8 := Lib.hid (nextB hb8 HB7.out)
  have z1 := run_conv_rd (P := Try.prog) w8 22 9 5 Try.underlying22 Try.underlying5 Try.underlying9 _ _ _ hrv8
  have z2 := run_conv_rd (P := Try.prog) w8 22 9 5 Try.underlying22 Try.underlying5 Try.underlying9 _ _ _ (RdV.below' HX7.out hb8 (by omega))
  have z3 := run_conv_rd (P := Try.prog) w8 22 9 5 Try.underlying22 Try.underlying5 Try.underlying9 _ _ _ (RdV.below' HY7.out hb8 (by omega))
  have hbap := bapp x' y'
  clear hwk8 hrv8 hlen8 hb8
  go_wp2
  all_goals go_ret
  all_goals exact ⟨rfl, HB8.out⟩

set_option maxRecDepth 100000 in
theorem lifted (os : Os) (started : os.Started) (H : Type) (enc : TypeId × Value → H) :
    ReturnsInHanded {} Try.checked os 6 .any (Rows.lzJoinsSpec.pre6 enc Try.prog Try.f6 Rows.lzJoinsRow.domain false) (Rows.lzJoinsSpec.post enc Try.prog Try.f6 false true false false) := by
  refine returnsInHanded_of_change (C := Try.checked) own started (by kernel_rfl) Try.func6
    (ChangeSpec.witness6 (enc := enc) (C := Try.checked) false ⟨#[], #[.slice none 0 0, .slice none 0 0], []⟩ 8 (by kernel_rfl) (by kernel_rfl) (by kernel_rfl) (by kernel_rfl)) ?_
  intro W base args ds gs before hval0 hW hcnd _
  have hval : ∀ (j : Nat) t v, Try.f6.params[j]? = some t → args[j]? = some v → Value.okWide Try.prog W .any base t v := hval0
  have hW' := hW
  obtain ⟨p, q, hA0, hV, rfl, hfz, hnd⟩ := hW
  have hA : DataW.TrodAll enc Try.prog W 0 (fun _ => true) true Try.f6.params.toList args.toList ds p := hA0
  rw [Try.params6] at hA hval
  obtain ⟨v0, vs0, d0, ds0, p0, q0, hargs, rfl, rfl, h0, r0⟩ := trodAll_cons hA
  obtain ⟨v1, vs1, d1, ds1, p1, q1, rfl, rfl, rfl, h1, r1⟩ := trodAll_cons r0
  obtain ⟨rfl, rfl, rfl⟩ := trodAll_nil r1
  obtain rfl : args = #[v0, v1] := by cases args; simp_all
  obtain ⟨rfl, rfl⟩ := trodVars_none hV
  obtain ⟨l0, b0⟩ := open_bytes Try.underlying22 Try.underlying5 (by kernel_rfl) (hval 0 22 v0 rfl rfl) h0
  obtain ⟨l1, b1⟩ := open_bytes Try.underlying22 Try.underlying5 (by kernel_rfl) (hval 1 22 v1 rfl rfl) h1
  clear hA0 hval0
  refine (walk v0 l0 b0 v1 l1 b1 W rfl).mono fun e W' ⟨he, hb⟩ => ?_
  subst he
  exact ⟨_, rfl, law_post hW' rfl laid (by kernel_rfl) rfl Try.underlying4 rfl hb⟩

theorem over : Rows.lzJoinsRow.holds Try.pinned (OpenSpec.ofChange Rows.lzJoinsSpec) :=
  OpenClaim.holds_of_wide 6 Try.f6 rfl rfl rfl rfl rfl rfl rfl ⟨rfl, rfl, rfl, rfl, rfl⟩ rfl rfl rfl rfl rfl (by kernel_rfl) Try.func6 (by kernel_rfl)
    (of_decide_eq_true (by kernel_rfl)) (by unfold Func.isWrapper; first | (rw [if_pos (by decide +kernel)]; kernel_rfl) | (rw [if_neg (by decide +kernel)]; exact ⟨rfl, rfl⟩))
    (fun os started H enc _ => lifted os started H enc)

theorem proved : Rows.LzJoinsSaid :=
  over
end Go.Proofs.Ytkgmelhigjjbbaa.lawLzJoins
