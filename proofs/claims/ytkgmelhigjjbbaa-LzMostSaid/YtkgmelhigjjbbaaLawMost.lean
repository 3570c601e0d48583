/- The law LzMost answers true for any bytes and any number: what unpacks to n bytes is too long for each most below n, and is told for each from n on. Conditions: none. -/
import Derived.Test.YtkgmelhigjjbbaaLzk
namespace Go.Proofs.Ytkgmelhigjjbbaa.lawLzMost
open Go.ChangeShapes Go.WideShapes Go.ChangeAt Go.RowKit
set_option linter.unusedSimpArgs false
set_option linter.unusedVariables false

theorem own : ownKnob Try.prog.godebug = none := by kernel_rfl
theorem laid : laidOutB Try.prog = true := by kernel_rfl

set_option maxRecDepth 100000 in
set_option maxHeartbeats 4000000 in
theorem walk (va : Value) (la : List UInt8) {W0 : World} (hra : RdV W0 W0.heap.size va (bv la)) (by_ : Int) (wb : (Lit.int .i64 by_).wf = true) (w : World) (hw : W0 = w) :
    Calls Try.prog 7 #[va, .int .i64 by_] w fun e w' => e = .returned (.bool true) ∧ Below w.heap.size w w' := by
  subst hw
  have hbr : -9223372036854775808 ≤ by_ ∧ by_ ≤ 9223372036854775807 := by simpa [Lit.wf, IntKind.min, IntKind.max, IntKind.signed, IntKind.bits] using wb
  clear wb
  have hraa := hra
  obtain ⟨A, ca, rfl, hla, hma, hA⟩ := hra
  simp only [bv_length] at hla hA hraa ⊢
  unfold maxLen at hma
  have HK := Lib.hid (known_any W0)
  have HA := Lib.hid hraa
  clear hA hraa
  by_cases hskip : 8192 < la.length ∨ by_ < 1 ∨ 1048576 < by_
  · by_cases l1 : 8192 < la.length
    · go_enter Try.func7, Try.ntmps7
      go_wp2_with fail
      refine HK.out.mono ?_
      rintro e w1 ⟨rfl, hb1⟩
      go_wp2
      go_ret
      exact ⟨rfl, hb1⟩
    · by_cases l2 : by_ < 1
      · go_enter Try.func7, Try.ntmps7
        go_wp2_with fail
        refine HK.out.mono ?_
        rintro e w1 ⟨rfl, hb1⟩
        go_wp2
        go_ret
        exact ⟨rfl, hb1⟩
      · have l3 : 1048576 < by_ := by omega
        go_enter Try.func7, Try.ntmps7
        go_wp2_with fail
        refine HK.out.mono ?_
        rintro e w1 ⟨rfl, hb1⟩
        go_wp2
        go_ret
        exact ⟨rfl, hb1⟩
  have l1 : la.length ≤ 8192 := by omega
  have l2 : 1 ≤ by_ := by omega
  have l3 : by_ ≤ 1048576 := by omega
  clear hskip
  go_enter Try.func7, Try.ntmps7
  go_wp2_with fail
  refine HK.out.mono ?_
  rintro e w1 ⟨rfl, hb1⟩
  have hz1 := hb1.size
  have ha1 := HA.out.below hb1
  have ru : Calls Try.prog 10 #[.slice A la.length ca, .int .i64 65536] w1 (RUnP 65536 la w1) := runpack_any _ la (by omega) 65536 (by omega) w1 (ha1.more hz1)
  have RU := Lib.hid ru
  clear ru ha1
  go_wp2_with fail
  refine RU.out.mono ?_
  rintro e w2 ⟨o, n, ev, r, hwk, rfl, hrv, hlen, hno, hb2⟩
  have hB2 := nextB hb2 hb1
  by_cases he : ev = 0
  rotate_left
  · have t1 : ((ev : Int) == 0) = false := by rw [beq_eq_false_iff_ne]; omega
    have HB2 := Lib.hid hB2
    rw [if_neg he]
    clear he hwk hrv hlen hno hb2 hB2
    go_wp2
    go_ret
    exact ⟨rfl, HB2.out⟩
  subst he
  rw [if_pos rfl] at hrv
  rw [if_pos rfl]
  obtain ⟨Ar, cr, rfl, hcr1, hcr2, _⟩ := id hrv
  rw [bv_length] at hcr1 hrv ⊢
  have hs2 := hB2.size
  have hu := unpack_any (.slice A la.length ca) la (by omega) ((o.length : Int) + by_ - 1) (by omega) (by omega) w2 ((HA.out.below hB2).more hs2)
  have HU := Lib.hid hu
  have HRV := Lib.hid hrv
  have HWK := Lib.hid hwk
  have HB2 := Lib.hid hB2
  clear hu hrv hwk hB2 hb2 hno hcr1 hcr2
  go_wp2_with fail
  refine HU.out.mono ?_
  rintro e w3 ⟨o2, n2, ev2, r2, hwk2, rfl, hrv2, hlen2, hb3⟩
  obtain ⟨rfl, rfl, rfl⟩ := Lz.Walks.same (HWK.out.more _ (by omega)) hwk2
  rw [if_pos rfl] at hrv2
  have hB3 := nextB hb3 HB2.out
  have hs3 := hB3.size
  have x1 := run_conv_rd (P := Try.prog) w3 22 9 5 Try.underlying22 Try.underlying5 Try.underlying9 _ _ _ ((HRV.out.below hb3))
  have x2 := run_conv_rd (P := Try.prog) w3 22 9 5 Try.underlying22 Try.underlying5 Try.underlying9 _ _ _ hrv2
  have hu := unpack_any (.slice A la.length ca) la (by omega) ((o.length : Int) - by_) (by omega) (by omega) w3 ((HA.out.below hB3).more hs3)
  have HU2 := Lib.hid hu
  have HB3 := Lib.hid hB3
  clear hu hwk2 hrv2 hlen2 hB3 hb3
  go_wp2_with fail
  refine HU2.out.mono ?_
  rintro e w4 ⟨o3, n3, ev3, r3, hwk3, rfl, hrv3, hlen3, hb4⟩
  have hB4 := nextB hb4 HB3.out
  have HB4 := Lib.hid hB4
  obtain ⟨A3, c3, rfl, _, _, _⟩ := id hrv3
  rw [bv_length]
  by_cases h0 : o.length = 0
  · obtain ⟨rfl, rfl, rfl⟩ := Lz.Walks.same (HWK.out.more _ (by omega)) hwk3
    have t0 : ((o.length : Int) == 0) = true := by rw [beq_iff_eq]; omega
    clear hwk3 hrv3 hlen3 hb4 hB4 h0
    go_wp2
    all_goals go_ret
    all_goals exact ⟨rfl, HB4.out⟩
  · obtain ⟨o4, n4, hl⟩ := HWK.out.less ((o.length : Int) - by_).toNat (by omega)
    obtain ⟨rfl, rfl, rfl⟩ := Lz.Walks.same hl hwk3
    have t0 : ((o.length : Int) == 0) = false := by rw [beq_eq_false_iff_ne]; omega
    clear hwk3 hrv3 hlen3 hb4 hB4 h0 hl
    go_wp2
    all_goals go_ret
    all_goals exact ⟨rfl, HB4.out⟩

set_option maxRecDepth 100000 in
theorem lifted (os : Os) (started : os.Started) (H : Type) (enc : TypeId × Value → H) :
    ReturnsInHanded {} Try.checked os 7 .any (Rows.lzMostSpec.pre6 enc Try.prog Try.f7 Rows.lzMostRow.domain false) (Rows.lzMostSpec.post enc Try.prog Try.f7 false true false false) := by
  refine returnsInHanded_of_change (C := Try.checked) own started (by kernel_rfl) Try.func7
    (ChangeSpec.witness6 (enc := enc) (C := Try.checked) false ⟨#[], #[.slice none 0 0, .int .i64 0], []⟩ 8 (by kernel_rfl) (by kernel_rfl) (by kernel_rfl) (by kernel_rfl)) ?_
  intro W base args ds gs before hval0 hW hcnd _
  have hval : ∀ (j : Nat) t v, Try.f7.params[j]? = some t → args[j]? = some v → Value.okWide Try.prog W .any base t v := hval0
  have hW' := hW
  obtain ⟨p, q, hA0, hV, rfl, hfz, hnd⟩ := hW
  have hA : DataW.TrodAll enc Try.prog W 0 (fun _ => true) true Try.f7.params.toList args.toList ds p := hA0
  rw [Try.params7] at hA hval
  obtain ⟨v0, vs0, d0, ds0, p0, q0, hargs, rfl, rfl, h0, r0⟩ := trodAll_cons hA
  obtain ⟨v1, vs1, d1, ds1, p1, q1, rfl, rfl, rfl, h1, r1⟩ := trodAll_cons r0
  obtain ⟨rfl, rfl, rfl⟩ := trodAll_nil r1
  obtain rfl : args = #[v0, v1] := by cases args; simp_all
  obtain ⟨rfl, rfl⟩ := trodVars_none hV
  obtain ⟨l0, b0⟩ := open_bytes Try.underlying22 Try.underlying5 (by kernel_rfl) (hval 0 22 v0 rfl rfl) h0
  obtain ⟨a1, rfl, rfl, rfl, w1⟩ := open_int Try.underlying3 (hval 1 3 v1 rfl rfl) h1
  clear hA0 hval0
  refine (walk v0 l0 b0 a1 w1 W rfl).mono fun e W' ⟨he, hb⟩ => ?_
  subst he
  exact ⟨_, rfl, law_post hW' rfl laid (by kernel_rfl) rfl Try.underlying4 rfl hb⟩

theorem over : Rows.lzMostRow.holds Try.pinned (OpenSpec.ofChange Rows.lzMostSpec) :=
  OpenClaim.holds_of_wide 7 Try.f7 rfl rfl rfl rfl rfl rfl rfl ⟨rfl, rfl, rfl, rfl, rfl⟩ rfl rfl rfl rfl rfl (by kernel_rfl) Try.func7 (by kernel_rfl)
    (of_decide_eq_true (by kernel_rfl)) (by unfold Func.isWrapper; first | (rw [if_pos (by decide +kernel)]; kernel_rfl) | (rw [if_neg (by decide +kernel)]; exact ⟨rfl, rfl⟩))
    (fun os started H enc _ => lifted os started H enc)

theorem proved : Rows.LzMostSaid :=
  over
end Go.Proofs.Ytkgmelhigjjbbaa.lawLzMost
