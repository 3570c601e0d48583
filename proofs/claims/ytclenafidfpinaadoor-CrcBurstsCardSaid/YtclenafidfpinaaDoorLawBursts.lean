/- The law CrcBursts answers true for any bytes, any place, any pattern: a burst of at most 32 bits that turns something in sealed bytes is always found. Conditions: the table of the package is laid as the program's text lays it. -/
import Derived.Test.YtclenafidfpinaaDoorCro
import Derived.Test.YtclenafidfpinaaDoorTie
import Derived.Test.YtclenafidfpinaaDoorCards
import Derived.SevenTiedAt
import Derived.LaidMore
namespace Go.Proofs.YtclenafidfpinaaDoor.lawCrcBursts
open Go.ChangeShapes Go.WideShapes Go.ChangeAt Go.RowKit
set_option linter.unusedSimpArgs false
set_option linter.unusedVariables false

theorem own : ownKnob Tryd.prog.godebug = none := by kernel_rfl
theorem laid : laidOutB Tryd.prog = true := by kernel_rfl

set_option maxRecDepth 100000 in
set_option maxHeartbeats 8000000 in
theorem walk {W0 : World} (va : Value) (la : List UInt8) (hra : RdV W0 W0.heap.size va (bv la)) (bit : Int) (wb : (Lit.int .i64 bit).wf = true) (p : Int) (wp : (Lit.int .u32 p).wf = true) (w : World) (hw : W0 = w) (hN : Nibs w) :
    Calls Tryd.prog 5 #[va, .int .i64 bit, .int .u32 p] w fun e w' => e = .returned (.bool true) ∧ Below w.heap.size w w' := by
  subst hw
  have hbr : -9223372036854775808 ≤ bit ∧ bit ≤ 9223372036854775807 := by simpa [Lit.wf, IntKind.min, IntKind.max, IntKind.signed, IntKind.bits] using wb
  have hpr : 0 ≤ p ∧ p ≤ 4294967295 := by simpa [Lit.wf, IntKind.min, IntKind.max, IntKind.signed, IntKind.bits] using wp
  clear wb wp
  obtain ⟨pn, rfl⟩ := Int.eq_ofNat_of_zero_le hpr.1
  have hraa := hra
  obtain ⟨A, ca, rfl, hla, hma, hA⟩ := hra
  simp only [bv_length] at hla hA hraa ⊢
  unfold maxLen at hma
  have hk := kcrc_any W0 hN
  have HK := Lib.hid hk
  have HA := Lib.hid hraa
  have HN := Lib.hid hN
  clear hA hk hraa hN
  by_cases l1 : la.length ≤ 8192
  case neg =>
    go_enter Tryd.func5, Tryd.ntmps5
    go_wp2_with fail
    refine HK.out.mono ?_
    rintro e w1 ⟨rfl, hb1⟩
    go_wp2
    go_ret
    exact ⟨rfl, hb1⟩
  go_enter Tryd.func5, Tryd.ntmps5
  go_wp2_with fail
  refine HK.out.mono ?_
  rintro e w1 ⟨rfl, hb1⟩
  have hz1 := hb1.size
  have c1 := seal_any _ la (by omega) w1 _ hz1 (HA.out.below hb1) (HN.out.next hb1)
  have C1 := Lib.hid c1
  clear c1
  go_wp2_with fail
  refine C1.out.mono ?_
  rintro e w2 ⟨r2, rfl, hr2, hb2⟩
  have hB2 := nextB hb2 hb1
  have c2 := burst_any _ _ bit pn hbr.1 hbr.2 (by omega) (by rw [sealL_length]; omega) w2 _ (Nat.le_refl _) hr2
  have C2 := Lib.hid c2
  have R2 := Lib.hid hr2
  clear c2 hr2
  go_wp2_with fail
  refine C2.out.mono ?_
  rintro e w3 ⟨r3, rfl, hr3, hb3⟩
  have hB3 := nextB hb3 hB2
  have hlen : (burst (sealL la) bit pn).length = la.length + 4 := by rw [burst_length, sealL_length]
  have c3 := open_any _ _ (by rw [hlen]; omega) w3 _ (Nat.le_refl _) hr3 (HN.out.next hB3)
  have C3 := Lib.hid c3
  have HL := Lib.hid hlen
  have R3 := Lib.hid hr3
  clear c3 hr3 hlen
  go_wp2_with fail
  refine C3.out.mono ?_
  rintro e w4 ⟨hcase, hb4⟩
  have hB4 := nextB hb4 hB3
  have hr24 := R2.out.below' (hb3.trans (hb4.mono hb3.size)) (Nat.le_refl _)
  have hr34 := R3.out.below hb4
  have ha4 := HA.out.below hB4
  have x1 := run_conv_rd (P := Tryd.prog) w4 23 9 5 Tryd.underlying23 Tryd.underlying5 Tryd.underlying9 _ _ _ hr24
  have x2 := run_conv_rd (P := Tryd.prog) w4 23 9 5 Tryd.underlying23 Tryd.underlying5 Tryd.underlying9 _ _ _ hr34
  have x3 := run_conv_rd (P := Tryd.prog) w4 23 9 5 Tryd.underlying23 Tryd.underlying5 Tryd.underlying9 _ _ _ ha4
  clear hr24 hr34 ha4
  by_cases heq : burst (sealL la) bit pn = sealL la
  · rw [heq] at hcase x2
    have hok := sealL_ok la
    rcases hcase with ⟨h1, _⟩ | ⟨_, h2, _⟩ | ⟨_, _, r4, rfl, hr4⟩
    · rw [sealL_length] at h1; omega
    · exact absurd hok h2
    · have ht : (sealL la).take ((sealL la).length - 4) = la := by
        rw [sealL_length, Nat.add_sub_cancel]
        unfold sealL
        exact List.take_left
      rw [ht] at hr4
      have x4 := run_conv_rd (P := Tryd.prog) w4 23 9 5 Tryd.underlying23 Tryd.underlying5 Tryd.underlying9 _ _ _ hr4
      clear ht hr4 hok heq
      go_wp2
      go_ret
      exact ⟨rfl, hB4⟩
  · have hnot : ¬ okB (burst (sealL la) bit pn) := fun h => heq (burst_found (sealL la) bit pn (by omega) (by rw [sealL_length]; omega) (sealL_ok la) h)
    have hle : (sealL la == burst (sealL la) bit pn) = false := by
      rw [beq_eq_false_iff_ne]
      exact fun h => heq h.symm
    rcases hcase with ⟨h1, _⟩ | ⟨_, _, rfl⟩ | ⟨_, h3, _⟩
    · rw [HL.out] at h1; omega
    · clear hnot heq
      go_wp2
      go_ret
      exact ⟨rfl, hB4⟩
    · exact absurd h3 hnot

theorem door_met (os : Os) (args : Array Value) : laidMetH Tryd.prog Rows.crcBurstsRow.laid ((World.doorLaid Tryd.prog 400 os).forCall (fun _ _ => 0) ⟨#[], args, []⟩).memory :=
  laidMetH_of_parts3 (fuel := 8) (laidMet_of_run' 8 (by kernel_rfl) (by kernel_rfl)) (by kernel_rfl) (by kernel_rfl)
set_option maxRecDepth 100000 in
theorem lifted (os : Os) (started : os.Started) (H : Type) (enc : TypeId × Value → H) :
    ReturnsInHanded {} Tryd.checked os 5 .any (fun w args => (Rows.crcBurstsSpec.pre enc Tryd.prog Tryd.f5 [] false w args ∧ laidMetH Tryd.prog Rows.crcBurstsRow.laid w) ∧ sizedMet enc Tryd.prog Tryd.f5 (OpenSpec.ofChange Rows.crcBurstsSpec) false w args)
      (Rows.crcBurstsSpec.post enc Tryd.prog Tryd.f5 false true false false) := by
  refine returnsInHanded_of_change_and (C := Tryd.checked) (X := fun w _ => laidMetH Tryd.prog Rows.crcBurstsRow.laid w) (fun _ _ _ hh h => h.of_heap hh) own started (by kernel_rfl) Tryd.func5
    (ChangeSpec.witness_shaped (enc := enc) (C := Tryd.checked) (os := os) (X := fun w _ => laidMetH Tryd.prog Rows.crcBurstsRow.laid w) false (World.doorLaid Tryd.prog 400 os) #[.slice none 0 0, .int .i64 0, .int .u32 0] 8 rfl (World.shaped_of_RefB (by kernel_rfl) (by kernel_rfl)) (by kernel_rfl) (by kernel_rfl) (by kernel_rfl) (door_met os _)) ?_
  intro W base args ds gs before hval0 hW _ _ hL _
  have hval : ∀ (j : Nat) t v, Tryd.f5.params[j]? = some t → args[j]? = some v → Value.okWide Tryd.prog W .any base t v := hval0
  have hW' := hW
  obtain ⟨p, q, hA0, hV, rfl, hfz, hnd⟩ := hW
  have hA : DataW.TrodAll enc Tryd.prog W 0 (fun _ => true) true Tryd.f5.params.toList args.toList ds p := hA0
  rw [Tryd.params5] at hA hval
  obtain ⟨v0, vs0, d0, ds0, p0, q0, hargs, rfl, rfl, h0, r0⟩ := trodAll_cons hA
  obtain ⟨v1, vs1, d1, ds1, p1, q1, rfl, rfl, rfl, h1, r1⟩ := trodAll_cons r0
  obtain ⟨v2, vs2, d2, ds2, p2, q2, rfl, rfl, rfl, h2, r2⟩ := trodAll_cons r1
  obtain ⟨rfl, rfl, rfl⟩ := trodAll_nil r2
  obtain rfl : args = #[v0, v1, v2] := by cases args; simp_all
  obtain ⟨rfl, rfl⟩ := trodVars_none hV
  obtain ⟨l0, b0⟩ := open_bytes Tryd.underlying23 Tryd.underlying5 (by kernel_rfl) (hval 0 23 v0 rfl rfl) h0
  obtain ⟨a1, rfl, rfl, rfl, w1⟩ := open_int Tryd.underlying3 (hval 1 3 v1 rfl rfl) h1
  obtain ⟨a2, rfl, rfl, rfl, w2⟩ := open_int Tryd.underlying24 (hval 2 24 v2 rfl rfl) h2
  have hN := of_laid hL
  clear hA0 hval0
  refine (walk v0 l0 b0 a1 w1 a2 w2 W rfl hN).mono fun e W' ⟨he, hb⟩ => ?_
  subst he
  exact ⟨_, rfl, law_post hW' rfl laid (by kernel_rfl) rfl Tryd.underlying4 rfl hb⟩

theorem over : Rows.CrcBurstsSaid :=
  OpenClaim.holds_of_wide 5 Tryd.f5 rfl rfl rfl rfl rfl rfl rfl ⟨rfl, rfl, rfl, rfl, rfl⟩ rfl rfl rfl rfl rfl (by kernel_rfl) Tryd.func5 (by kernel_rfl)
    (of_decide_eq_true (by kernel_rfl)) (by unfold Func.isWrapper; first | (rw [if_pos (by decide +kernel)]; kernel_rfl) | (rw [if_neg (by decide +kernel)]; exact ⟨rfl, rfl⟩))
    (fun os started H enc _ => lifted os started H enc)
theorem proved : Rows.CrcBurstsCardSaid :=
  Claim7.holds_tied_plain_at .later [] [.data] true Rows.crcBurstsCard.stood.harness false
    over (fun _ h => by cases h) (by kernel_rfl) (fun _ h => by cases h) crcBursts_row_tie rfl ⟨rfl, rfl⟩ (by kernel_rfl) rfl
    (fun f fn hf hfn => by
      obtain rfl : f = 5 := Option.some.inj ((show Tryd.prog.funcNamed Rows.crcBurstsRow.func = some 5 by kernel_rfl).symm.trans hf) |>.symm
      obtain rfl : fn = Tryd.f5 := (Option.some.inj (Tryd.func5.symm.trans hfn)).symm
      exact ⟨by kernel_rfl, fun j t ht => by
        rw [Tryd.params5] at ht
        have hm : t ∈ [23, 3, 24] := by simpa using Array.mem_of_getElem? ht
        have hall : ([23, 3, 24].all fun u => !Tryd.prog.wantsStandIn u) = true := by kernel_rfl
        exact (show Tryd.prog.wantsStandIn t = false by simpa using List.all_eq_true.1 hall t hm)⟩)
    (by kernel_rfl)
end Go.Proofs.YtclenafidfpinaaDoor.lawCrcBursts
