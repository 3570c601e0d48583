/- The law LzReads answers true for any bytes and any most: any bytes unpacked, and how many by copies. Conditions: none. -/
import Derived.Test.YtkgmelhigjjbbaaLzk
import Derived.Test.YtkgmelhigjjbbaaLzn
namespace Go.Proofs.Ytkgmelhigjjbbaa.lawLzReads
open Go.ChangeShapes Go.WideShapes Go.ChangeAt Go.RowKit
set_option linter.unusedSimpArgs false
set_option linter.unusedVariables false

theorem own : ownKnob Try.prog.godebug = none := by kernel_rfl
theorem laid : laidOutB Try.prog = true := by kernel_rfl

theorem runp_all (vb : Value) (x : List UInt8) (hx : x.length < 4294967296) (most : Int) (hm : most ≤ 2147483647) (w : World) (hr : RdV w w.heap.size vb (bv x)) :
    Calls Try.prog 10 #[vb, .int .i64 most] w (RUnP most.toNat x w) := by
  by_cases h : most < 0
  · rw [show most.toNat = 0 from by omega]
    exact runpackN_any vb x hx most h w hr
  · obtain ⟨room, rfl⟩ := Int.eq_ofNat_of_zero_le (show 0 ≤ most by omega)
    exact runpack_any vb x hx room (by omega) w hr
set_option maxRecDepth 100000 in
set_option maxHeartbeats 8000000 in
theorem walk (va : Value) (la : List UInt8) {W0 : World} (hra : RdV W0 W0.heap.size va (bv la)) (most : Int) (wb : (Lit.int .i64 most).wf = true) (w : World) (hw : W0 = w) :
    Calls Try.prog 3 #[va, .int .i64 most] w fun e w' => e = .returned (.bool true) ∧ Below w.heap.size w w' := by
  subst hw
  have hbr : -9223372036854775808 ≤ most ∧ most ≤ 9223372036854775807 := by simpa [Lit.wf, IntKind.min, IntKind.max, IntKind.signed, IntKind.bits] using wb
  clear wb
  have hraa := hra
  obtain ⟨A, ca, rfl, hla, hma, hA⟩ := hra
  simp only [bv_length] at hla hA hraa ⊢
  unfold maxLen at hma
  have HK := Lib.hid (known_any W0)
  have HA := Lib.hid hraa
  clear hA hraa
  by_cases l1 : 8192 < la.length
  · go_enter Try.func3, Try.ntmps3
    go_wp2_with fail
    refine HK.out.mono ?_
    rintro e w1 ⟨rfl, hb1⟩
    go_wp2
    go_ret
    exact ⟨rfl, hb1⟩
  by_cases l2 : 65536 < most
  · go_enter Try.func3, Try.ntmps3
    go_wp2_with fail
    refine HK.out.mono ?_
    rintro e w1 ⟨rfl, hb1⟩
    have hz1 := hb1.size
    have hu := unpack_any (.slice A la.length ca) la (by omega) (65536) (by omega) (by omega) w1 ((HA.out.below hb1).more hz1)
    have HU := Lib.hid hu
    have HB1 := Lib.hid hb1
    clear hu hb1
    go_wp2_with fail
    refine HU.out.mono ?_
    rintro e w2 ⟨o, n, ev, r, hwk, rfl, hrv, hlen, hb2⟩
    have hB2 := nextB hb2 HB1.out
    have hs2 := hB2.size
    obtain ⟨O, hO⟩ : ∃ O : List UInt8, (if ev = 0 then o else []) = O := ⟨_, rfl⟩
    rw [hO] at hrv
    have HO := Lib.hid hO
    have HWK := Lib.hid hwk
    have HRV := Lib.hid hrv
    have HB2 := Lib.hid hB2
    have hr := runp_all (.slice A la.length ca) la (by omega) (65536) (by omega) w2 ((HA.out.below hB2).more hs2)
    have HR := Lib.hid hr
    clear hO hwk hrv hb2 hB2 hr
    go_wp2_with fail
    refine HR.out.mono ?_
    rintro e w3 ⟨o', n', ev', r2, hwk2, rfl, hrv2, hlen2, hno2, hb3⟩
    obtain ⟨rfl, rfl, rfl⟩ := Lz.Walks.same HWK.out hwk2
    rw [HO.out] at hrv2
    generalize (if ev = 0 then n else 0) = q1
    obtain ⟨Ar, cr, rfl, hcr1, hcr2, _⟩ := id hrv2
    rw [bv_length] at hcr1 hrv2 ⊢
    have hB3 := nextB hb3 HB2.out
    have hs3 := hB3.size
    have hs23 := hb3.size
    have HX := Lib.hid (HRV.out.below hb3)
    have HY := Lib.hid hrv2
    have HB3 := Lib.hid hB3
    have hck := check_any (.slice A la.length ca) la (by omega) (65536) (by omega) (by omega) w3 ((HA.out.below hB3).more hs3)
    have HCK := Lib.hid hck
    clear hck hwk2 hrv2 hb3 hB3 hlen2 hno2
    go_wp2_with fail
    refine HCK.out.mono ?_
    rintro e w4 ⟨o', n', ev', hwk3, rfl, hlen3, hb4⟩
    obtain ⟨rfl, rfl, rfl⟩ := Lz.Walks.same HWK.out hwk3
    have hol : (if ev = 0 then o.length else 0) = O.length := by rw [← HO.out]; split <;> rfl
    rw [hol]
    have hB4 := nextB hb4 HB3.out
    have hs4 := hB4.size
    have x1 := run_conv_rd (P := Try.prog) w4 22 9 5 Try.underlying22 Try.underlying5 Try.underlying9 _ _ _ (RdV.below' HX.out hb4 hs23)
    have x2 := run_conv_rd (P := Try.prog) w4 22 9 5 Try.underlying22 Try.underlying5 Try.underlying9 _ _ _ (HY.out.below hb4)
    have HB4 := Lib.hid hB4
    have hcp := copies_any (.slice A la.length ca) la (by omega) w4 ((HA.out.below hB4).more hs4)
    have HCP := Lib.hid hcp
    clear hcp hwk3 hb4 hB4 hlen3 hol
    go_wp2_with fail
    refine HCP.out.mono ?_
    rintro e w6 ⟨o2, n2, ev2, hwk4, rfl, hlen4, hno4, hb6⟩
    obtain ⟨L, hL⟩ : ∃ L : Nat, (if ev2 = 0 then n2 else 0) = L := ⟨_, rfl⟩
    obtain ⟨C, hC⟩ : ∃ C : Nat, (if ev2 = 0 then o2.length - n2 else 0) = C := ⟨_, rfl⟩
    rw [hL, hC]
    have HL := Lib.hid hL
    have HC := Lib.hid hC
    have hB6 := nextB hb6 HB4.out
    have hs6 := hB6.size
    have HB6 := Lib.hid hB6
    have HW4 := Lib.hid hwk4
    have HN4 := Lib.hid hno4
    have hr6 : Calls Try.prog 10 #[.slice A la.length ca, .int .i64 1048576] w6 (RUnP 1048576 la w6) := runpack_any _ la (by omega) 1048576 (by omega) w6 ((HA.out.below hB6).more hs6)
    have HR6 := Lib.hid hr6
    clear hr6 hwk4 hb6 hB6 hlen4 hno4 hL hC x1 x2
    go_wp2_with fail
    refine HR6.out.mono ?_
    rintro e w7 ⟨o', n', ev', r7, hwk7, rfl, hrv7, hlen7, hno7, hb7⟩
    obtain ⟨rfl, rfl, rfl⟩ := Lz.Walks.same HW4.out hwk7
    rw [HL.out]
    obtain ⟨Z, hZ⟩ : ∃ Z : List UInt8, (if ev2 = 0 then o2 else []) = Z := ⟨_, rfl⟩
    rw [hZ] at hrv7
    have hfin : (Z.length : Int) - (L : Int) = (C : Int) := by
      rw [← HL.out, ← HC.out, ← hZ]
      have := HN4.out
      split
      · omega
      · rfl
    have hCb : C ≤ 1048576 := by
      rw [← HC.out]
      split
      · omega
      · omega
    obtain ⟨A7, c7, rfl, _, _, _⟩ := id hrv7
    rw [bv_length]
    have HB7 := Lib.hid (nextB hb7 HB6.out)
    clear hwk7 hrv7 hb7 hlen7 hno7 hZ
    go_wp2
    all_goals go_ret
    all_goals exact ⟨rfl, HB7.out⟩
  · have l3 : most ≤ 65536 := by omega
    clear l2
    go_enter Try.func3, Try.ntmps3
    go_wp2_with fail
    refine HK.out.mono ?_
    rintro e w1 ⟨rfl, hb1⟩
    have hz1 := hb1.size
    have hu := unpack_any (.slice A la.length ca) la (by omega) (most) (by omega) (by omega) w1 ((HA.out.below hb1).more hz1)
    have HU := Lib.hid hu
    have HB1 := Lib.hid hb1
    clear hu hb1
    go_wp2_with fail
    refine HU.out.mono ?_
    rintro e w2 ⟨o, n, ev, r, hwk, rfl, hrv, hlen, hb2⟩
    have hB2 := nextB hb2 HB1.out
    have hs2 := hB2.size
    obtain ⟨O, hO⟩ : ∃ O : List UInt8, (if ev = 0 then o else []) = O := ⟨_, rfl⟩
    rw [hO] at hrv
    have HO := Lib.hid hO
    have HWK := Lib.hid hwk
    have HRV := Lib.hid hrv
    have HB2 := Lib.hid hB2
    have hr := runp_all (.slice A la.length ca) la (by omega) (most) (by omega) w2 ((HA.out.below hB2).more hs2)
    have HR := Lib.hid hr
    clear hO hwk hrv hb2 hB2 hr
    go_wp2_with fail
    refine HR.out.mono ?_
    rintro e w3 ⟨o', n', ev', r2, hwk2, rfl, hrv2, hlen2, hno2, hb3⟩
    obtain ⟨rfl, rfl, rfl⟩ := Lz.Walks.same HWK.out hwk2
    rw [HO.out] at hrv2
    generalize (if ev = 0 then n else 0) = q1
    obtain ⟨Ar, cr, rfl, hcr1, hcr2, _⟩ := id hrv2
    rw [bv_length] at hcr1 hrv2 ⊢
    have hB3 := nextB hb3 HB2.out
    have hs3 := hB3.size
    have hs23 := hb3.size
    have HX := Lib.hid (HRV.out.below hb3)
    have HY := Lib.hid hrv2
    have HB3 := Lib.hid hB3
    have hck := check_any (.slice A la.length ca) la (by omega) (most) (by omega) (by omega) w3 ((HA.out.below hB3).more hs3)
    have HCK := Lib.hid hck
    clear hck hwk2 hrv2 hb3 hB3 hlen2 hno2
    go_wp2_with fail
    refine HCK.out.mono ?_
    rintro e w4 ⟨o', n', ev', hwk3, rfl, hlen3, hb4⟩
    obtain ⟨rfl, rfl, rfl⟩ := Lz.Walks.same HWK.out hwk3
    have hol : (if ev = 0 then o.length else 0) = O.length := by rw [← HO.out]; split <;> rfl
    rw [hol]
    have hB4 := nextB hb4 HB3.out
    have hs4 := hB4.size
    have x1 := run_conv_rd (P := Try.prog) w4 22 9 5 Try.underlying22 Try.underlying5 Try.underlying9 _ _ _ (RdV.below' HX.out hb4 hs23)
    have x2 := run_conv_rd (P := Try.prog) w4 22 9 5 Try.underlying22 Try.underlying5 Try.underlying9 _ _ _ (HY.out.below hb4)
    have HB4 := Lib.hid hB4
    have hcp := copies_any (.slice A la.length ca) la (by omega) w4 ((HA.out.below hB4).more hs4)
    have HCP := Lib.hid hcp
    clear hcp hwk3 hb4 hB4 hlen3 hol
    go_wp2_with fail
    refine HCP.out.mono ?_
    rintro e w6 ⟨o2, n2, ev2, hwk4, rfl, hlen4, hno4, hb6⟩
    obtain ⟨L, hL⟩ : ∃ L : Nat, (if ev2 = 0 then n2 else 0) = L := ⟨_, rfl⟩
    obtain ⟨C, hC⟩ : ∃ C : Nat, (if ev2 = 0 then o2.length - n2 else 0) = C := ⟨_, rfl⟩
    rw [hL, hC]
    have HL := Lib.hid hL
    have HC := Lib.hid hC
    have hB6 := nextB hb6 HB4.out
    have hs6 := hB6.size
    have HB6 := Lib.hid hB6
    have HW4 := Lib.hid hwk4
    have HN4 := Lib.hid hno4
    have hr6 : Calls Try.prog 10 #[.slice A la.length ca, .int .i64 1048576] w6 (RUnP 1048576 la w6) := runpack_any _ la (by omega) 1048576 (by omega) w6 ((HA.out.below hB6).more hs6)
    have HR6 := Lib.hid hr6
    clear hr6 hwk4 hb6 hB6 hlen4 hno4 hL hC x1 x2
    go_wp2_with fail
    refine HR6.out.mono ?_
    rintro e w7 ⟨o', n', ev', r7, hwk7, rfl, hrv7, hlen7, hno7, hb7⟩
    obtain ⟨rfl, rfl, rfl⟩ := Lz.Walks.same HW4.out hwk7
    rw [HL.out]
    obtain ⟨Z, hZ⟩ : ∃ Z : List UInt8, (if ev2 = 0 then o2 else []) = Z := ⟨_, rfl⟩
    rw [hZ] at hrv7
    have hfin : (Z.length : Int) - (L : Int) = (C : Int) := by
      rw [← HL.out, ← HC.out, ← hZ]
      have := HN4.out
      split
      · omega
      · rfl
    have hCb : C ≤ 1048576 := by
      rw [← HC.out]
      split
      · omega
      · omega
    obtain ⟨A7, c7, rfl, _, _, _⟩ := id hrv7
    rw [bv_length]
    have HB7 := Lib.hid (nextB hb7 HB6.out)
    clear hwk7 hrv7 hb7 hlen7 hno7 hZ
    go_wp2
    all_goals go_ret
    all_goals exact ⟨rfl, HB7.out⟩

set_option maxRecDepth 100000 in
theorem lifted (os : Os) (started : os.Started) (H : Type) (enc : TypeId × Value → H) :
    ReturnsInHanded {} Try.checked os 3 .any (Rows.lzReadsSpec.pre6 enc Try.prog Try.f3 Rows.lzReadsRow.domain false) (Rows.lzReadsSpec.post enc Try.prog Try.f3 false true false false) := by
  refine returnsInHanded_of_change (C := Try.checked) own started (by kernel_rfl) Try.func3
    (ChangeSpec.witness6 (enc := enc) (C := Try.checked) false ⟨#[], #[.slice none 0 0, .int .i64 0], []⟩ 8 (by kernel_rfl) (by kernel_rfl) (by kernel_rfl) (by kernel_rfl)) ?_
  intro W base args ds gs before hval0 hW hcnd _
  have hval : ∀ (j : Nat) t v, Try.f3.params[j]? = some t → args[j]? = some v → Value.okWide Try.prog W .any base t v := hval0
  have hW' := hW
  obtain ⟨p, q, hA0, hV, rfl, hfz, hnd⟩ := hW
  have hA : DataW.TrodAll enc Try.prog W 0 (fun _ => true) true Try.f3.params.toList args.toList ds p := hA0
  rw [Try.params3] at hA hval
  obtain ⟨v0, vs0, d0, ds0, p0, q0, hargs, rfl, rfl, h0, r0⟩ := trodAll_cons hA
  obtain ⟨v1, vs1, d1, ds1, p1, q1, rfl, rfl, rfl, h1, r1⟩ := trodAll_cons r0
  obtain ⟨rfl, rfl, rfl⟩ := trodAll_nil r1
  obtain rfl : args = #[v0, v1] := by cases args; simp_all
  obtain ⟨rfl, rfl⟩ := trodVars_none hV
  obtain ⟨l0, b0⟩ := open_bytes Try.underlying22 Try.underlying5 (by kernel_rfl) (hval 0 22 v0 rfl rfl) h0
  obtain ⟨a1, rfl, rfl, rfl, w1⟩ := open_int Try.underlying3 (hval 1 3 v1 rfl rfl) h1
  clear hA0 hval0
  refine (walk v0 l0 b0 a1 w1 W rfl).mono fun e W' ⟨he, hb⟩ => ?_
  subst he
  exact ⟨_, rfl, law_post hW' rfl laid (by kernel_rfl) rfl Try.underlying4 rfl hb⟩

theorem over : Rows.lzReadsRow.holds Try.pinned (OpenSpec.ofChange Rows.lzReadsSpec) :=
  OpenClaim.holds_of_wide 3 Try.f3 rfl rfl rfl rfl rfl rfl rfl ⟨rfl, rfl, rfl, rfl, rfl⟩ rfl rfl rfl rfl rfl (by kernel_rfl) Try.func3 (by kernel_rfl)
    (of_decide_eq_true (by kernel_rfl)) (by unfold Func.isWrapper; first | (rw [if_pos (by decide +kernel)]; kernel_rfl) | (rw [if_neg (by decide +kernel)]; exact ⟨rfl, rfl⟩))
    (fun os started H enc _ => lifted os started H enc)

theorem proved : Rows.LzReadsSaid :=
  over
end Go.Proofs.Ytkgmelhigjjbbaa.lawLzReads
