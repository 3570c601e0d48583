/- The law LzBack answers true for any bytes: what is packed is unpacked so; it is one byte more at most. Conditions: none. -/
import Derived.Test.YtkgmelhigjjbbaaLzk
import Derived.Test.YtkgmelhigjjbbaaLzb
namespace Go.Proofs.Ytkgmelhigjjbbaa.lawLzBack
open Go.ChangeShapes Go.WideShapes Go.ChangeAt Go.RowKit
set_option linter.unusedSimpArgs false
set_option linter.unusedVariables false

theorem own : ownKnob Try.prog.godebug = none := by kernel_rfl
theorem laid : laidOutB Try.prog = true := by kernel_rfl

set_option maxRecDepth 100000 in
set_option maxHeartbeats 8000000 in
theorem walk (va : Value) (la : List UInt8) {W0 : World} (hra : RdV W0 W0.heap.size va (bv la)) (w : World) (hw : W0 = w) :
    Calls Try.prog 4 #[va] w fun e w' => e = .returned (.bool true) ∧ Below w.heap.size w w' := by
  subst hw
  have hraa := hra
  obtain ⟨A, ca, rfl, hla, hma, hA⟩ := hra
  simp only [bv_length] at hla hA hraa ⊢
  unfold maxLen at hma
  have HK := Lib.hid (known_any W0)
  have HA := Lib.hid hraa
  clear hA hraa
  by_cases l1 : 8192 < la.length
  · go_enter Try.func4, Try.ntmps4
    go_wp2_with fail
    refine HK.out.mono ?_
    rintro e w1 ⟨rfl, hb1⟩
    go_wp2
    go_ret
    exact ⟨rfl, hb1⟩
  go_enter Try.func4, Try.ntmps4
  go_wp2_with fail
  refine HK.out.mono ?_
  rintro e w1 ⟨rfl, hb1⟩
  have hp := pack_any (.slice A la.length ca) la (by omega) w1 ((HA.out.below hb1).more hb1.size)
  have HP := Lib.hid hp
  have HB1 := Lib.hid hb1
  clear hp hb1
  go_wp2_with fail
  refine HP.out.mono ?_
  rintro e w2 ⟨r, p, rfl, hrp, ⟨hpl, n, hwk⟩, _, hb2⟩
  obtain ⟨Ap, cp, rfl, _, _, _⟩ := id hrp
  rw [bv_length] at hrp ⊢
  have hB2 := nextB hb2 HB1.out
  have hs2 := hB2.size
  have hu := unpack_any (.slice Ap p.length cp) p (by omega) (la.length : Int) (by omega) (by omega) w2 hrp
  rw [show (la.length : Int).toNat = la.length from by omega] at hu
  have HU := Lib.hid hu
  have HRP := Lib.hid hrp
  have HWK := Lib.hid hwk
  have HB2 := Lib.hid hB2
  clear hu hrp hwk hb2 hB2
  go_wp2_with fail
  refine HU.out.mono ?_
  rintro e w3 ⟨o, n2, ev, r3, hwk3, rfl, hrv3, hlen3, hb3⟩
  obtain ⟨rfl, rfl, rfl⟩ := Lz.Walks.same HWK.out hwk3
  rw [if_pos rfl] at hrv3
  have hB3 := nextB hb3 HB2.out
  have hs3 := hB3.size
  have hs23 := hb3.size
  have hr := runpack_any (.slice Ap p.length cp) p (by omega) la.length (by omega) w3 ((HRP.out.below hb3).more hs23)
  have HR := Lib.hid hr
  have HX := Lib.hid hrv3
  have HB3 := Lib.hid hB3
  clear hr hwk3 hrv3 hb3 hB3 hlen3
  go_wp2_with fail
  refine HR.out.mono ?_
  rintro e w4 ⟨o, n4, ev, r4, hwk4, rfl, hrv4, hlen4, hno4, hb4⟩
  obtain ⟨rfl, rfl, rfl⟩ := Lz.Walks.same HWK.out hwk4
  rw [if_pos rfl] at hrv4
  rw [if_pos rfl]
  have hB4 := nextB hb4 HB3.out
  have x1 := run_conv_rd (P := Try.prog) w4 22 9 5 Try.underlying22 Try.underlying5 Try.underlying9 _ _ _ (HX.out.below hb4)
  have x2 := run_conv_rd (P := Try.prog) w4 22 9 5 Try.underlying22 Try.underlying5 Try.underlying9 _ _ _ hrv4
  have x3 := run_conv_rd (P := Try.prog) w4 22 9 5 Try.underlying22 Try.underlying5 Try.underlying9 _ _ _ (HA.out.below hB4)
  have HB4 := Lib.hid hB4
  have hpi : (p.length : Int) ≤ (la.length : Int) + 1 := by omega
  clear hwk4 hrv4 hb4 hB4 hlen4 hno4
  go_wp2
  all_goals go_ret
  all_goals exact ⟨rfl, HB4.out⟩

set_option maxRecDepth 100000 in
theorem lifted (os : Os) (started : os.Started) (H : Type) (enc : TypeId × Value → H) :
    ReturnsInHanded {} Try.checked os 4 .any (Rows.lzBackSpec.pre6 enc Try.prog Try.f4 Rows.lzBackRow.domain false) (Rows.lzBackSpec.post enc Try.prog Try.f4 false true false false) := by
  refine returnsInHanded_of_change (C := Try.checked) own started (by kernel_rfl) Try.func4
    (ChangeSpec.witness6 (enc := enc) (C := Try.checked) false ⟨#[], #[.slice none 0 0], []⟩ 8 (by kernel_rfl) (by kernel_rfl) (by kernel_rfl) (by kernel_rfl)) ?_
  intro W base args ds gs before hval0 hW hcnd _
  have hval : ∀ (j : Nat) t v, Try.f4.params[j]? = some t → args[j]? = some v → Value.okWide Try.prog W .any base t v := hval0
  have hW' := hW
  obtain ⟨p, q, hA0, hV, rfl, hfz, hnd⟩ := hW
  have hA : DataW.TrodAll enc Try.prog W 0 (fun _ => true) true Try.f4.params.toList args.toList ds p := hA0
  rw [Try.params4] at hA hval
  obtain ⟨v0, vs0, d0, ds0, p0, q0, hargs, rfl, rfl, h0, r0⟩ := trodAll_cons hA
  obtain ⟨rfl, rfl, rfl⟩ := trodAll_nil r0
  obtain rfl : args = #[v0] := by cases args; simp_all
  obtain ⟨rfl, rfl⟩ := trodVars_none hV
  obtain ⟨l0, b0⟩ := open_bytes Try.underlying22 Try.underlying5 (by kernel_rfl) (hval 0 22 v0 rfl rfl) h0
  clear hA0 hval0
  refine (walk v0 l0 b0 W rfl).mono fun e W' ⟨he, hb⟩ => ?_
  subst he
  exact ⟨_, rfl, law_post hW' rfl laid (by kernel_rfl) rfl Try.underlying4 rfl hb⟩

theorem over : Rows.lzBackRow.holds Try.pinned (OpenSpec.ofChange Rows.lzBackSpec) :=
  OpenClaim.holds_of_wide 4 Try.f4 rfl rfl rfl rfl rfl rfl rfl ⟨rfl, rfl, rfl, rfl, rfl⟩ rfl rfl rfl rfl rfl (by kernel_rfl) Try.func4 (by kernel_rfl)
    (of_decide_eq_true (by kernel_rfl)) (by unfold Func.isWrapper; first | (rw [if_pos (by decide +kernel)]; kernel_rfl) | (rw [if_neg (by decide +kernel)]; exact ⟨rfl, rfl⟩))
    (fun os started H enc _ => lifted os started H enc)

theorem proved : Rows.LzBackSaid :=
  over
end Go.Proofs.Ytkgmelhigjjbbaa.lawLzBack
