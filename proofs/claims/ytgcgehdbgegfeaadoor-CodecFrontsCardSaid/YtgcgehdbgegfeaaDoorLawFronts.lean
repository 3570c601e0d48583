/- The law CodecFronts answers true for any kind, payload, cut and bytes behind: each front of a frame that is not whole ends too early, and what stands behind one is not read. Conditions: the table of package crc is laid as the program's text lays it. -/
import Derived.Test.YtgcgehdbgegfeaaDoorCdp
import Derived.Test.YtgcgehdbgegfeaaDoorCrl
import Derived.Test.YtgcgehdbgegfeaaDoorTie
import Derived.Test.YtgcgehdbgegfeaaDoorCards
import Derived.SevenTiedAt
import Derived.LaidMore
namespace Go.Proofs.YtgcgehdbgegfeaaDoor.lawCodecFronts
open Go.ChangeShapes Go.WideShapes Go.ChangeAt Go.RowKit
set_option linter.unusedSimpArgs false
set_option linter.unusedVariables false

theorem own : ownKnob Tryd.prog.godebug = none := by kernel_rfl
theorem laid : laidOutB Tryd.prog = true := by kernel_rfl

set_option maxRecDepth 100000 in
set_option maxHeartbeats 8000000 in
theorem walk {W0 : World} (kd : Int) (wk : (Lit.int .u8 kd).wf = true) (va : Value) (la : List UInt8) (hra : RdV W0 W0.heap.size va (bv la)) (cut : Int) (wc : (Lit.int .i64 cut).wf = true) (vb : Value) (lb : List UInt8) (hrb : RdV W0 W0.heap.size vb (bv lb)) (w : World) (hw : W0 = w) (hN : Nibs w) :
    Calls Tryd.prog 7 #[.int .u8 kd, va, .int .i64 cut, vb] w fun e w' => e = .returned (.bool true) ∧ Below w.heap.size w w' := by
  subst hw
  have hkr : 0 ≤ kd ∧ kd ≤ 255 := by simpa [Lit.wf, IntKind.min, IntKind.max, IntKind.signed, IntKind.bits] using wk
  obtain ⟨k, rfl⟩ : ∃ k : UInt8, kd = (k.toNat : Int) := ⟨UInt8.ofNat kd.toNat, by rw [UInt8.toNat_ofNat', Nat.mod_eq_of_lt (by omega)]; omega⟩
  have hcr : -9223372036854775808 ≤ cut ∧ cut ≤ 9223372036854775807 := by simpa [Lit.wf, IntKind.min, IntKind.max, IntKind.signed, IntKind.bits] using wc
  clear wk wc hkr
  have hraa := hra
  have hrbb := hrb
  obtain ⟨A, ca, rfl, hla, hma, hA⟩ := hra
  obtain ⟨Bq, cb, rfl, hlb, hmb, hB⟩ := hrb
  simp only [bv_length] at hla hlb hA hB hraa hrbb ⊢
  unfold maxLen at hma hmb
  have hk := kcodec_any W0 hN
  have HK := Lib.hid hk
  have HA := Lib.hid hraa
  have HB := Lib.hid hrbb
  have HN := Lib.hid hN
  clear hA hB hk hraa hrbb hN
  by_cases l1 : la.length ≤ 8192
  case neg =>
    go_enter Tryd.func7, Tryd.ntmps7
    go_wp2_with fail
    refine HK.out.mono ?_
    rintro e w1 ⟨rfl, hb1⟩
    go_wp2
    go_ret
    exact ⟨rfl, hb1⟩
  by_cases l2 : lb.length ≤ 8192
  case neg =>
    go_enter Tryd.func7, Tryd.ntmps7
    go_wp2_with fail
    refine HK.out.mono ?_
    rintro e w1 ⟨rfl, hb1⟩
    go_wp2
    go_ret
    exact ⟨rfl, hb1⟩
  obtain ⟨N, hN13⟩ : ∃ N, N = la.length + 13 := ⟨_, rfl⟩
  have hM : (0 : Int) < (N : Int) := by omega
  have t1 := Int.tmod_lt_of_pos cut hM
  have t2 : -(N : Int) < cut.tmod N := Int.lt_tmod_of_pos cut hM
  obtain ⟨t, ht⟩ : ∃ t, cut.tmod N = t := ⟨_, rfl⟩
  rw [ht] at t1 t2
  obtain ⟨c, hc, hct⟩ : ∃ c : Nat, c < N ∧ ((0 ≤ t ∧ t = c) ∨ (t < 0 ∧ t + N = c)) := by
    rcases Int.lt_or_le t 0 with h | h
    · exact ⟨(t + N).toNat, by omega, by omega⟩
    · exact ⟨t.toNat, by omega, by omega⟩
  have HNN := Lib.hid hN13
  have hNle : N ≤ 8205 := by omega
  have hNge : 13 ≤ N := by omega
  clear hM hN13
  go_enter Tryd.func7, Tryd.ntmps7
  go_wp2_with fail
  refine HK.out.mono ?_
  rintro e w1 ⟨rfl, hb1⟩
  have hz1 := hb1.size
  have f1 := frame_any k _ la (by omega) w1 _ hz1 (HA.out.below hb1) (HN.out.next hb1)
  have F1 := Lib.hid f1
  clear f1
  go_wp2_with fail
  refine F1.out.mono ?_
  rintro e w2 ⟨r2, rfl, ho2, hb2⟩
  have hB2 := nextB hb2 hb1
  have hz2 := hB2.size
  rw [show (frameL k la).length = N from (frameL_length k la).trans HNN.out.symm] at ho2
  obtain ⟨g2, cap2, rfl⟩ := Joins.ownsRow_form ho2 (by omega)
  have hR2 := RdV.own ho2
  obtain ⟨_, _, hq, hcap, hcapm, _⟩ := id hR2
  injection hq with hq1 hq2 hq3
  subst hq3
  rw [← hq2] at hcap
  unfold maxLen at hcapm
  have hRc := RdV.front hR2 c (by rw [bv_length, frameL_length, ← HNN.out]; omega)
  rw [bv_take] at hRc
  have rf1 := readframe_any _ ((frameL k la).take c) (by rw [List.length_take, frameL_length]; omega) w2 _ (Nat.le_refl _) hRc (HN.out.next hB2)
  have RF1 := Lib.hid rf1
  have R2 := Lib.hid hR2
  clear rf1 hRc ho2 hR2 hq1 hq2
  have ccap : c ≤ cap2 := by omega
  rcases hct with ⟨ht0, hct⟩ | ⟨ht0, hct⟩
  all_goals
    go_wp2_with fail
    refine RF1.out.mono ?_
    rintro e w3 hP
    obtain ⟨⟨x, hx1, hx2, rfl⟩, hb3⟩ := rfp_front (by omega) (by rw [← HNN.out]; exact hc) hP
    clear hP
    have hB3 := nextB hb3 hB2
    have hz3 := hB3.size
    have hr3 := ((R2.out.below hb3).alloc hb3.size (.cells #[] 5))
    have hE3 := Emp.new w3 5
    have hr3b := (HB.out.below hB3).alloc hz3 (.cells #[] 5)
    have hFl : (frameL k la).length = N := (frameL_length k la).trans HNN.out.symm
    have HR3 := Lib.hid hr3
    have HE3 := Lib.hid hE3
    have HFL := Lib.hid hFl
    have hB3a := hB3.alloc hz3 (.cells #[] 5)
    clear hr3 hE3 hFl hr3b
    go_wp2_with (first
      | (at_builtin; refine wpList_append_rd _ rfl (.tmp 54) (.tmp 55) 23 rfl W0.heap.size 5 (.int .u8 0) 1 Tryd.underlying23 Tryd.inf5 rfl _ 0 [] rfl (Emp.own HE3.out hz3) _ rfl _ (bv (frameL k la)) HR3.out (bv_one _) (by rw [bv_length, HFL.out]; omega) (by omega) (by simp; omega) ?_; intro v4 w4 ho4 hg4 _; have hg4' : (w3.alloc (.cells #[] 5)).grownBy w4 (some w3.heap.size) := hg4; have hB4 : Below W0.heap.size W0 w4 := hB3a.grown hg4' (by simp; omega) (by intro g hg; injection hg with hg; omega); have hrb4 := HB.out.below hB4; have hz4 := hB4.size)
      | (at_builtin; refine wpList_append_rd _ rfl (.tmp 56) (.tmp 57) 23 rfl W0.heap.size 5 (.int .u8 0) 1 Tryd.underlying23 Tryd.inf5 rfl v4 _ _ rfl ho4 _ rfl _ (bv lb) hrb4 (bv_one _) (by rw [bv_length, bv_length, HFL.out]; omega) (by omega) hz4 ?_; intro v5 w5 ho5 hg5 _; have hB5 : Below W0.heap.size W0 w5 := hB4.grown hg5 hz4 (fun g hg => (ho4.lt g hg).1)))
    have hR5 := RdV.own ho5
    rw [List.nil_append, ← bv_append] at hR5
    clear ho5 hg5 ho4 hg4 hrb4
    have rf2 := readframe_any _ (frameL k la ++ lb) (by rw [List.length_append, HFL.out]; omega) w5 _ (Nat.le_refl _) hR5 (HN.out.next hB5)
    have RF2 := Lib.hid rf2
    clear rf2 hR5
    refine RF2.out.mono ?_
    rintro e w6 hP
    obtain ⟨⟨r6, rfl, hr6⟩, hb6⟩ := rfp_good (by omega) hP
    rw [← HNN.out]
    have hB6 := nextB hb6 hB5
    have ha6 := HA.out.below hB6
    have x1 := run_conv_rd (P := Tryd.prog) w6 23 9 5 Tryd.underlying23 Tryd.underlying5 Tryd.underlying9 _ _ _ hr6
    have x2 := run_conv_rd (P := Tryd.prog) w6 23 9 5 Tryd.underlying23 Tryd.underlying5 Tryd.underlying9 _ _ _ ha6
    have hxn : ((x : Int) != 0) = true := by rw [bne_iff_ne]; omega
    clear hP hr6 ha6
    go_wp2
    go_ret
    exact ⟨rfl, hB6⟩

theorem door_met (os : Os) (args : Array Value) : laidMetH Tryd.prog Rows.codecFrontsRow.laid ((World.doorLaid Tryd.prog 400 os).forCall (fun _ _ => 0) ⟨#[], args, []⟩).memory :=
  laidMetH_of_parts3 (fuel := 8) (laidMet_of_run' 8 (by kernel_rfl) (by kernel_rfl)) (by kernel_rfl) (by kernel_rfl)
set_option maxRecDepth 100000 in
theorem lifted (os : Os) (started : os.Started) (H : Type) (enc : TypeId × Value → H) :
    ReturnsInHanded {} Tryd.checked os 7 .any (fun w args => (Rows.codecFrontsSpec.pre enc Tryd.prog Tryd.f7 [] false w args ∧ laidMetH Tryd.prog Rows.codecFrontsRow.laid w) ∧ sizedMet enc Tryd.prog Tryd.f7 (OpenSpec.ofChange Rows.codecFrontsSpec) false w args)
      (Rows.codecFrontsSpec.post enc Tryd.prog Tryd.f7 false true false false) := by
  refine returnsInHanded_of_change_and (C := Tryd.checked) (X := fun w _ => laidMetH Tryd.prog Rows.codecFrontsRow.laid w) (fun _ _ _ hh h => h.of_heap hh) own started (by kernel_rfl) Tryd.func7
    (ChangeSpec.witness_shaped (enc := enc) (C := Tryd.checked) (os := os) (X := fun w _ => laidMetH Tryd.prog Rows.codecFrontsRow.laid w) false (World.doorLaid Tryd.prog 400 os) #[.int .u8 0, .slice none 0 0, .int .i64 0, .slice none 0 0] 8 rfl (World.shaped_of_RefB (by kernel_rfl) (by kernel_rfl)) (by kernel_rfl) (by kernel_rfl) (by kernel_rfl) (door_met os _)) ?_
  intro W base args ds gs before hval0 hW _ _ hL _
  have hval : ∀ (j : Nat) t v, Tryd.f7.params[j]? = some t → args[j]? = some v → Value.okWide Tryd.prog W .any base t v := hval0
  have hW' := hW
  obtain ⟨p, q, hA0, hV, rfl, hfz, hnd⟩ := hW
  have hA : DataW.TrodAll enc Tryd.prog W 0 (fun _ => true) true Tryd.f7.params.toList args.toList ds p := hA0
  rw [Tryd.params7] at hA hval
  obtain ⟨v0, vs0, d0, ds0, p0, q0, hargs, rfl, rfl, h0, r0⟩ := trodAll_cons hA
  obtain ⟨v1, vs1, d1, ds1, p1, q1, rfl, rfl, rfl, h1, r1⟩ := trodAll_cons r0
  obtain ⟨v2, vs2, d2, ds2, p2, q2, rfl, rfl, rfl, h2, r2⟩ := trodAll_cons r1
  obtain ⟨v3, vs3, d3, ds3, p3, q3, rfl, rfl, rfl, h3, r3⟩ := trodAll_cons r2
  obtain ⟨rfl, rfl, rfl⟩ := trodAll_nil r3
  obtain rfl : args = #[v0, v1, v2, v3] := by cases args; simp_all
  obtain ⟨rfl, rfl⟩ := trodVars_none hV
  obtain ⟨a0, rfl, rfl, rfl, w0⟩ := open_int Tryd.underlying5 (hval 0 5 v0 rfl rfl) h0
  obtain ⟨l1, b1⟩ := open_bytes Tryd.underlying23 Tryd.underlying5 (by kernel_rfl) (hval 1 23 v1 rfl rfl) h1
  obtain ⟨a2, rfl, rfl, rfl, w2⟩ := open_int Tryd.underlying3 (hval 2 3 v2 rfl rfl) h2
  obtain ⟨l3, b3⟩ := open_bytes Tryd.underlying23 Tryd.underlying5 (by kernel_rfl) (hval 3 23 v3 rfl rfl) h3
  have hN := of_laid hL
  clear hA0 hval0
  refine (walk a0 w0 v1 l1 b1 a2 w2 v3 l3 b3 W rfl hN).mono fun e W' ⟨he, hb⟩ => ?_
  subst he
  exact ⟨_, rfl, law_post hW' rfl laid (by kernel_rfl) rfl Tryd.underlying4 rfl hb⟩

theorem over : Rows.CodecFrontsSaid :=
  OpenClaim.holds_of_wide 7 Tryd.f7 rfl rfl rfl rfl rfl rfl rfl ⟨rfl, rfl, rfl, rfl, rfl⟩ rfl rfl rfl rfl rfl (by kernel_rfl) Tryd.func7 (by kernel_rfl)
    (of_decide_eq_true (by kernel_rfl)) (by unfold Func.isWrapper; first | (rw [if_pos (by decide +kernel)]; kernel_rfl) | (rw [if_neg (by decide +kernel)]; exact ⟨rfl, rfl⟩))
    (fun os started H enc _ => lifted os started H enc)
theorem proved : Rows.CodecFrontsCardSaid :=
  Claim7.holds_tied_plain_at .later [] [.data] true Rows.codecFrontsCard.stood.harness Rows.codecFrontsCard.stood.looks
    over (fun _ h => by cases h) (by kernel_rfl) (fun _ h => by cases h) codecFronts_row_tie rfl ⟨rfl, rfl⟩ (by kernel_rfl) rfl
    (fun f fn hf hfn => by
      obtain rfl : f = 7 := Option.some.inj ((show Tryd.prog.funcNamed Rows.codecFrontsRow.func = some 7 by kernel_rfl).symm.trans hf) |>.symm
      obtain rfl : fn = Tryd.f7 := (Option.some.inj (Tryd.func7.symm.trans hfn)).symm
      exact ⟨by kernel_rfl, fun j t ht => by
        rw [Tryd.params7] at ht
        have hm : t ∈ [5, 23, 3, 23] := by simpa using Array.mem_of_getElem? ht
        have hall : ([5, 23, 3, 23].all fun u => !Tryd.prog.wantsStandIn u) = true := by kernel_rfl
        exact (show Tryd.prog.wantsStandIn t = false by simpa using List.all_eq_true.1 hall t hm)⟩)
    (by kernel_rfl)
end Go.Proofs.YtgcgehdbgegfeaaDoor.lawCodecFronts
