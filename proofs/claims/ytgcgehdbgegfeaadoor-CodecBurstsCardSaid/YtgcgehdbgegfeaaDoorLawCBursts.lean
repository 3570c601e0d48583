/- The law CodecBursts answers true for any kind, payload, place and pattern: a burst in the first nine bytes of a frame alone, or behind them alone, is found. Conditions: the table of package crc is laid as the program's text lays it. -/
import Derived.Test.YtgcgehdbgegfeaaDoorCdq
import Derived.Test.YtgcgehdbgegfeaaDoorCrl
import Derived.Test.YtgcgehdbgegfeaaDoorTie
import Derived.Test.YtgcgehdbgegfeaaDoorCards
import Derived.SevenTiedAt
import Derived.LaidMore
namespace Go.Proofs.YtgcgehdbgegfeaaDoor.lawCodecBursts
open Go.ChangeShapes Go.WideShapes Go.ChangeAt Go.RowKit
set_option linter.unusedSimpArgs false
set_option linter.unusedVariables false

theorem own : ownKnob Tryd.prog.godebug = none := by kernel_rfl
theorem laid : laidOutB Tryd.prog = true := by kernel_rfl

set_option maxRecDepth 100000 in
set_option maxHeartbeats 16000000 in
theorem walk {W0 : World} (kd : Int) (wk : (Lit.int .u8 kd).wf = true) (va : Value) (la : List UInt8) (hra : RdV W0 W0.heap.size va (bv la)) (bit : Int) (wb : (Lit.int .i64 bit).wf = true) (p : Int) (wp : (Lit.int .u32 p).wf = true) (head : Bool) (w : World) (hw : W0 = w) (hN : Nibs w) :
    Calls Tryd.prog 6 #[.int .u8 kd, va, .int .i64 bit, .int .u32 p, .bool head] w fun e w' => e = .returned (.bool true) ∧ Below w.heap.size w w' := by
  subst hw
  have hkr : 0 ≤ kd ∧ kd ≤ 255 := by simpa [Lit.wf, IntKind.min, IntKind.max, IntKind.signed, IntKind.bits] using wk
  obtain ⟨k, rfl⟩ : ∃ k : UInt8, kd = (k.toNat : Int) := ⟨UInt8.ofNat kd.toNat, by rw [UInt8.toNat_ofNat', Nat.mod_eq_of_lt (by omega)]; omega⟩
  have hbr : -9223372036854775808 ≤ bit ∧ bit ≤ 9223372036854775807 := by simpa [Lit.wf, IntKind.min, IntKind.max, IntKind.signed, IntKind.bits] using wb
  have hpr : 0 ≤ p ∧ p ≤ 4294967295 := by simpa [Lit.wf, IntKind.min, IntKind.max, IntKind.signed, IntKind.bits] using wp
  clear wk wb wp hkr
  obtain ⟨pn, rfl⟩ := Int.eq_ofNat_of_zero_le hpr.1
  have hraa := hra
  obtain ⟨A, ca, rfl, hla, hma, hA⟩ := hra
  simp only [bv_length] at hla hA hraa ⊢
  unfold maxLen at hma
  have hk := kcodec_any W0 hN
  have HK := Lib.hid hk
  have HA := Lib.hid hraa
  have HN := Lib.hid hN
  clear hA hk hraa hN
  by_cases l1 : la.length ≤ 8192
  case neg =>
    go_enter Tryd.func6, Tryd.ntmps6
    go_wp2_with fail
    refine HK.out.mono ?_
    rintro e w1 ⟨rfl, hb1⟩
    go_wp2
    go_ret
    exact ⟨rfl, hb1⟩
  obtain ⟨N, hN13⟩ : ∃ N, N = la.length + 13 := ⟨_, rfl⟩
  have HNN := Lib.hid hN13
  have hNle : N ≤ 8205 := by omega
  have hNge : 13 ≤ N := by omega
  have hNb : ((N : Int) != 13 + (la.length : Int)) = false := by rw [bne_eq_false_iff_eq]; omega
  clear hN13
  go_enter Tryd.func6, Tryd.ntmps6
  go_wp2_with fail
  refine HK.out.mono ?_
  rintro e w1 ⟨rfl, hb1⟩
  have hz1 := hb1.size
  have f1 := frame_any k _ la (by omega) w1 _ hz1 (HA.out.below hb1) (HN.out.next hb1)
  have F1 := Lib.hid f1
  clear f1
  go_wp2_with fail
  refine F1.out.mono ?_
  rintro e w2 ⟨r2, rfl, ho2, hb2⟩
  have hB2 := nextB hb2 hb1
  have hz2 := hB2.size
  rw [show (frameL k la).length = N from (frameL_length k la).trans HNN.out.symm] at ho2
  obtain ⟨g2, cap2, rfl⟩ := Joins.ownsRow_form ho2 (by omega)
  have hR2 := RdV.own ho2
  obtain ⟨_, _, hq, hcap, hcapm, _⟩ := id hR2
  injection hq with hq1 hq2 hq3
  subst hq3
  rw [← hq2] at hcap
  unfold maxLen at hcapm
  have hlF : (bv (frameL k la)).length = N := by rw [bv_length, frameL_length, HNN.out]
  have rh := RdV.front hR2 9 (by rw [hlF]; omega)
  have rt := RdV.part hR2 9 (N - 9) (by rw [hlF]; omega)
  rw [bv_take, (frame_parts k la).1] at rh
  rw [bv_drop, (frame_parts k la).2, bv_take, List.take_of_length_le (by rw [sealL_length, HNN.out]; omega), Nat.zero_add] at rt
  have hlH : (bv (headL k la.length)).length = 9 := by rw [bv_length, headL_length]
  have hlS : (bv (sealL la)).length = N - 9 := by rw [bv_length, sealL_length, HNN.out]; omega
  have RH := Lib.hid rh
  have RT := Lib.hid rt
  have R2 := Lib.hid hR2
  have HLH := Lib.hid hlH
  have HLS := Lib.hid hlS
  have hne9 : ¬ cap2 = 9 := by omega
  have c9 : 9 ≤ cap2 := by omega
  have hE2 := Emp.new w2 5
  have hB2a := hB2.alloc hz2 (.cells #[] 5)
  have rh2 := RH.out.alloc (Nat.le_refl _) (.cells #[] 5)
  have HE2 := Lib.hid hE2
  have RH2 := Lib.hid rh2
  clear rh rt hR2 ho2 hq1 hq2 hlF hlH hlS hE2 rh2
  cases head
  all_goals go_wp2_with (first
    | (at_builtin; refine wpList_append_rd _ rfl (.tmp 33) (.tmp 35) 23 rfl w2.heap.size 5 (.int .u8 0) 1 Tryd.underlying23 Tryd.inf5 rfl _ 0 [] rfl (Emp.own HE2.out (Nat.le_refl _)) _ rfl _ (bv (headL k la.length)) RH2.out (bv_one _) (by rw [HLH.out]; omega) (by omega) (by simp) ?_; intro v4 w4 ho4 hg4 _; have hg4' : (w2.alloc (.cells #[] 5)).grownBy w4 (some w2.heap.size) := hg4; have hb4 : Below w2.heap.size w2 w4 := ((Below.refl _ w2).alloc (Nat.le_refl _) _).grown hg4' (by simp) (by intro g hg; injection hg with hg; omega); have hB4 := nextB hb4 hB2; have hz4 := hB4.size; have hE4 := Emp.new w4 5; have HE4 := Lib.hid hE4; have hb4z := hb4.size; have O4 := Lib.hid (show w4.ownsRow w2.heap.size 5 1 v4 (headL k la.length).length (bv (headL k la.length)) by rw [Nat.zero_add, List.nil_append, bv_length] at ho4; exact ho4); have rt4 := (RT.out.below hb4).alloc hb4.size (.cells #[] 5); have RT4 := Lib.hid rt4; clear hE4 rt4 hg4 ho4)
    | (at_builtin; refine wpList_append_rd _ rfl (.tmp 37) (.tmp 39) 23 rfl W0.heap.size 5 (.int .u8 0) 1 Tryd.underlying23 Tryd.inf5 rfl _ 0 [] rfl (Emp.own HE4.out hz4) _ rfl _ (bv (sealL la)) RT4.out (bv_one _) (by rw [HLS.out]; omega) (by omega) (by simp; omega) ?_; intro v6 w6 ho6 hg6 _; have hg6' : (w4.alloc (.cells #[] 5)).grownBy w6 (some w4.heap.size) := hg6; have hb6 : Below w4.heap.size w4 w6 := ((Below.refl _ w4).alloc (Nat.le_refl _) _).grown hg6' (by simp) (by intro g hg; injection hg with hg; omega); have hB6 := nextB hb6 hB4; have hz6 := hB6.size; have O6 := Lib.hid (show w6.ownsRow W0.heap.size 5 1 v6 (sealL la).length (bv (sealL la)) by rw [Nat.zero_add, List.nil_append, bv_length] at ho6; exact ho6); have hb26 := hb4.trans (hb6.mono hb4.size); clear hg6 ho6))
  · have c7 := rburst_any v6 (sealL la) bit pn hbr.1 hbr.2 (by omega) (by first | (rw [headL_length]; omega) | (rw [sealL_length]; omega)) w6 _ (Nat.le_refl _) (RdV.own O6.out)
    have C7 := Lib.hid c7
    clear c7
    refine C7.out.mono ?_
    rintro e w7 ⟨r7, rfl, ho7, hb7⟩
    have hb27 := hb26.trans (hb7.mono hb26.size)
    have hB7 := nextB hb7 hB6
    have O7 := Lib.hid (own_below (own_below O4.out hb6) hb7)
    have S7 := Lib.hid (RdV.own ho7)
    clear ho7
    go_wp2_with (at_builtin; refine wpList_append_rd _ rfl (.tmp 50) (.tmp 51) 23 rfl w2.heap.size 5 (.int .u8 0) 1 Tryd.underlying23 Tryd.inf5 rfl v4 _ _ rfl O7.out _ rfl _ (bv (burst (sealL la) bit pn)) S7.out (bv_one _) (by rw [bv_length]; simp only [burst_length, headL_length, sealL_length]; omega) (by omega) hb27.size ?_; intro v8 w8 ho8 hg8 _)
    have hR8 := RdV.own ho8
    rw [← bv_append] at hR8
    have hb28 : Below w2.heap.size w2 w8 := hb27.grown hg8 hb27.size (fun g hg => (O7.out.lt g hg).1)
    have hB8 := nextB hb28 hB2
    have hlen8 : ((headL k la.length) ++ (burst (sealL la) bit pn)).length = N := by rw [List.length_append]; simp only [burst_length, headL_length, sealL_length]; have := HNN.out; omega
    have rf := readframe_any _ ((headL k la.length) ++ (burst (sealL la) bit pn)) (by rw [hlen8]; omega) w8 _ (Nat.le_refl _) hR8 (HN.out.next hB8)
    have RF := Lib.hid rf
    have R8 := Lib.hid hR8
    have HB28 := Lib.hid hb28
    clear rf hR8 ho8 hg8 hlen8
    refine RF.out.mono ?_
    rintro e w9 hP
    by_cases heq : (burst (sealL la) bit pn) = (sealL la)
    · rw [heq] at hP
      have hP2 : RFP w8 (frameL k la ++ []) e w9 := by rw [List.append_nil]; exact hP
      obtain ⟨⟨r9, rfl, hr9⟩, hb9⟩ := rfp_good (by omega) hP2
      have hB9 := nextB hb9 hB8
      have x1 := run_conv_rd (P := Tryd.prog) w9 23 9 5 Tryd.underlying23 Tryd.underlying5 Tryd.underlying9 _ _ _ (R2.out.below' (HB28.out.trans (hb9.mono HB28.out.size)) (Nat.le_refl _))
      have x2 := run_conv_rd (P := Tryd.prog) w9 23 9 5 Tryd.underlying23 Tryd.underlying5 Tryd.underlying9 _ _ _ (R8.out.below hb9)
      rw [heq] at x2
      have x3 : (convert 23 9 v8).run Tryd.prog w9 = .ok (.string ⟨(frameL k la).toArray⟩) w9 := x2
      clear hP hP2 hr9 x2 heq
      go_wp2
      go_ret
      exact ⟨rfl, hB9⟩
    · obtain ⟨⟨x, hx1, hx2, rfl⟩, hb9⟩ := rfp_rest (by omega) (by omega) heq hP
      have hB9 := nextB hb9 hB8
      have x1 := run_conv_rd (P := Tryd.prog) w9 23 9 5 Tryd.underlying23 Tryd.underlying5 Tryd.underlying9 _ _ _ (R2.out.below' (HB28.out.trans (hb9.mono HB28.out.size)) (Nat.le_refl _))
      have x2 := run_conv_rd (P := Tryd.prog) w9 23 9 5 Tryd.underlying23 Tryd.underlying5 Tryd.underlying9 _ _ _ (R8.out.below hb9)
      have hne : (frameL k la == ((headL k la.length) ++ (burst (sealL la) bit pn))) = false := by
        rw [beq_eq_false_iff_ne]
        intro h
        exact heq (List.append_cancel_left (show (headL k la.length) ++ (sealL la) = ((headL k la.length) ++ (burst (sealL la) bit pn)) from h)).symm
      have hxn : ((x : Int) != 0) = true := by rw [bne_iff_ne]; omega
      have hx0 : ((x : Int) == 0) = false := by rw [beq_eq_false_iff_ne]; omega
      generalize ((headL k la.length) ++ (burst (sealL la) bit pn)) = G at *
      clear hP heq
      go_wp2
      go_ret
      exact ⟨rfl, hB9⟩
  · have c7 := rburst_any v4 (headL k la.length) bit pn hbr.1 hbr.2 (by omega) (by first | (rw [headL_length]; omega) | (rw [sealL_length]; omega)) w6 _ hb6.size ((RdV.own O4.out).below hb6)
    have C7 := Lib.hid c7
    clear c7
    refine C7.out.mono ?_
    rintro e w7 ⟨r7, rfl, ho7, hb7⟩
    have hb27 := hb26.trans (hb7.mono hb26.size)
    have hB7 := nextB hb7 hB6
    have O7 := Lib.hid (Joins.ownsRow_le ho7 hb26.size)
    have S7 := Lib.hid ((RdV.own O6.out).below hb7)
    clear ho7
    go_wp2_with (at_builtin; refine wpList_append_rd _ rfl (.tmp 50) (.tmp 51) 23 rfl w2.heap.size 5 (.int .u8 0) 1 Tryd.underlying23 Tryd.inf5 rfl r7 _ _ rfl O7.out _ rfl _ (bv (sealL la)) S7.out (bv_one _) (by rw [bv_length]; simp only [burst_length, headL_length, sealL_length]; omega) (by omega) hb27.size ?_; intro v8 w8 ho8 hg8 _)
    have hR8 := RdV.own ho8
    rw [← bv_append] at hR8
    have hb28 : Below w2.heap.size w2 w8 := hb27.grown hg8 hb27.size (fun g hg => (O7.out.lt g hg).1)
    have hB8 := nextB hb28 hB2
    have hlen8 : ((burst (headL k la.length) bit pn) ++ (sealL la)).length = N := by rw [List.length_append]; simp only [burst_length, headL_length, sealL_length]; have := HNN.out; omega
    have rf := readframe_any _ ((burst (headL k la.length) bit pn) ++ (sealL la)) (by rw [hlen8]; omega) w8 _ (Nat.le_refl _) hR8 (HN.out.next hB8)
    have RF := Lib.hid rf
    have R8 := Lib.hid hR8
    have HB28 := Lib.hid hb28
    clear rf hR8 ho8 hg8 hlen8
    refine RF.out.mono ?_
    rintro e w9 hP
    by_cases heq : (burst (headL k la.length) bit pn) = (headL k la.length)
    · rw [heq] at hP
      have hP2 : RFP w8 (frameL k la ++ []) e w9 := by rw [List.append_nil]; exact hP
      obtain ⟨⟨r9, rfl, hr9⟩, hb9⟩ := rfp_good (by omega) hP2
      have hB9 := nextB hb9 hB8
      have x1 := run_conv_rd (P := Tryd.prog) w9 23 9 5 Tryd.underlying23 Tryd.underlying5 Tryd.underlying9 _ _ _ (R2.out.below' (HB28.out.trans (hb9.mono HB28.out.size)) (Nat.le_refl _))
      have x2 := run_conv_rd (P := Tryd.prog) w9 23 9 5 Tryd.underlying23 Tryd.underlying5 Tryd.underlying9 _ _ _ (R8.out.below hb9)
      rw [heq] at x2
      have x3 : (convert 23 9 v8).run Tryd.prog w9 = .ok (.string ⟨(frameL k la).toArray⟩) w9 := x2
      clear hP hP2 hr9 x2 heq
      go_wp2
      go_ret
      exact ⟨rfl, hB9⟩
    · obtain ⟨⟨x, hx1, hx2, rfl⟩, hb9⟩ := rfp_head (by omega) heq hP
      have hB9 := nextB hb9 hB8
      have x1 := run_conv_rd (P := Tryd.prog) w9 23 9 5 Tryd.underlying23 Tryd.underlying5 Tryd.underlying9 _ _ _ (R2.out.below' (HB28.out.trans (hb9.mono HB28.out.size)) (Nat.le_refl _))
      have x2 := run_conv_rd (P := Tryd.prog) w9 23 9 5 Tryd.underlying23 Tryd.underlying5 Tryd.underlying9 _ _ _ (R8.out.below hb9)
      have hne : (frameL k la == ((burst (headL k la.length) bit pn) ++ (sealL la))) = false := by
        rw [beq_eq_false_iff_ne]
        intro h
        exact heq (List.append_cancel_right (show (headL k la.length) ++ (sealL la) = ((burst (headL k la.length) bit pn) ++ (sealL la)) from h)).symm
      have hxn : ((x : Int) != 0) = true := by rw [bne_iff_ne]; omega
      have hx0 : ((x : Int) == 0) = false := by rw [beq_eq_false_iff_ne]; omega
      generalize ((burst (headL k la.length) bit pn) ++ (sealL la)) = G at *
      clear hP heq
      go_wp2
      go_ret
      exact ⟨rfl, hB9⟩

theorem door_met (os : Os) (args : Array Value) : laidMetH Tryd.prog Rows.codecBurstsRow.laid ((World.doorLaid Tryd.prog 400 os).forCall (fun _ _ => 0) ⟨#[], args, []⟩).memory :=
  laidMetH_of_parts3 (fuel := 8) (laidMet_of_run' 8 (by kernel_rfl) (by kernel_rfl)) (by kernel_rfl) (by kernel_rfl)
set_option maxRecDepth 100000 in
theorem lifted (os : Os) (started : os.Started) (H : Type) (enc : TypeId × Value → H) :
    ReturnsInHanded {} Tryd.checked os 6 .any (fun w args => (Rows.codecBurstsSpec.pre enc Tryd.prog Tryd.f6 [] false w args ∧ laidMetH Tryd.prog Rows.codecBurstsRow.laid w) ∧ sizedMet enc Tryd.prog Tryd.f6 (OpenSpec.ofChange Rows.codecBurstsSpec) false w args)
      (Rows.codecBurstsSpec.post enc Tryd.prog Tryd.f6 false true false false) := by
  refine returnsInHanded_of_change_and (C := Tryd.checked) (X := fun w _ => laidMetH Tryd.prog Rows.codecBurstsRow.laid w) (fun _ _ _ hh h => h.of_heap hh) own started (by kernel_rfl) Tryd.func6
    (ChangeSpec.witness_shaped (enc := enc) (C := Tryd.checked) (os := os) (X := fun w _ => laidMetH Tryd.prog Rows.codecBurstsRow.laid w) false (World.doorLaid Tryd.prog 400 os) #[.int .u8 0, .slice none 0 0, .int .i64 0, .int .u32 0, .bool false] 8 rfl (World.shaped_of_RefB (by kernel_rfl) (by kernel_rfl)) (by kernel_rfl) (by kernel_rfl) (by kernel_rfl) (door_met os _)) ?_
  intro W base args ds gs before hval0 hW _ _ hL _
  have hval : ∀ (j : Nat) t v, Tryd.f6.params[j]? = some t → args[j]? = some v → Value.okWide Tryd.prog W .any base t v := hval0
  have hW' := hW
  obtain ⟨p, q, hA0, hV, rfl, hfz, hnd⟩ := hW
  have hA : DataW.TrodAll enc Tryd.prog W 0 (fun _ => true) true Tryd.f6.params.toList args.toList ds p := hA0
  rw [Tryd.params6] at hA hval
  obtain ⟨v0, vs0, d0, ds0, p0, q0, hargs, rfl, rfl, h0, r0⟩ := trodAll_cons hA
  obtain ⟨v1, vs1, d1, ds1, p1, q1, rfl, rfl, rfl, h1, r1⟩ := trodAll_cons r0
  obtain ⟨v2, vs2, d2, ds2, p2, q2, rfl, rfl, rfl, h2, r2⟩ := trodAll_cons r1
  obtain ⟨v3, vs3, d3, ds3, p3, q3, rfl, rfl, rfl, h3, r3⟩ := trodAll_cons r2
  obtain ⟨v4, vs4, d4, ds4, p4, q4, rfl, rfl, rfl, h4, r4⟩ := trodAll_cons r3
  obtain ⟨rfl, rfl, rfl⟩ := trodAll_nil r4
  obtain rfl : args = #[v0, v1, v2, v3, v4] := by cases args; simp_all
  obtain ⟨rfl, rfl⟩ := trodVars_none hV
  obtain ⟨a0, rfl, rfl, rfl, w0⟩ := open_int Tryd.underlying5 (hval 0 5 v0 rfl rfl) h0
  obtain ⟨l1, b1⟩ := open_bytes Tryd.underlying23 Tryd.underlying5 (by kernel_rfl) (hval 1 23 v1 rfl rfl) h1
  obtain ⟨a2, rfl, rfl, rfl, w2⟩ := open_int Tryd.underlying3 (hval 2 3 v2 rfl rfl) h2
  obtain ⟨a3, rfl, rfl, rfl, w3⟩ := open_int Tryd.underlying52 (hval 3 52 v3 rfl rfl) h3
  obtain ⟨hd, rfl, rfl, rfl⟩ := open_bool Tryd.underlying4 (hval 4 4 v4 rfl rfl) h4
  have hN := of_laid hL
  clear hA0 hval0
  refine (walk a0 w0 v1 l1 b1 a2 w2 a3 w3 hd W rfl hN).mono fun e W' ⟨he, hb⟩ => ?_
  subst he
  exact ⟨_, rfl, law_post hW' rfl laid (by kernel_rfl) rfl Tryd.underlying4 rfl hb⟩

theorem over : Rows.CodecBurstsSaid :=
  OpenClaim.holds_of_wide 6 Tryd.f6 rfl rfl rfl rfl rfl rfl rfl ⟨rfl, rfl, rfl, rfl, rfl⟩ rfl rfl rfl rfl rfl (by kernel_rfl) Tryd.func6 (by kernel_rfl)
    (of_decide_eq_true (by kernel_rfl)) (by unfold Func.isWrapper; first | (rw [if_pos (by decide +kernel)]; kernel_rfl) | (rw [if_neg (by decide +kernel)]; exact ⟨rfl, rfl⟩))
    (fun os started H enc _ => lifted os started H enc)
theorem proved : Rows.CodecBurstsCardSaid :=
  Claim7.holds_tied_plain_at .later [] [.data] true Rows.codecBurstsCard.stood.harness Rows.codecBurstsCard.stood.looks
    over (fun _ h => by cases h) (by kernel_rfl) (fun _ h => by cases h) codecBursts_row_tie rfl ⟨rfl, rfl⟩ (by kernel_rfl) rfl
    (fun f fn hf hfn => by
      obtain rfl : f = 6 := Option.some.inj ((show Tryd.prog.funcNamed Rows.codecBurstsRow.func = some 6 by kernel_rfl).symm.trans hf) |>.symm
      obtain rfl : fn = Tryd.f6 := (Option.some.inj (Tryd.func6.symm.trans hfn)).symm
      exact ⟨by kernel_rfl, fun j t ht => by
        rw [Tryd.params6] at ht
        have hm : t ∈ [5, 23, 3, 52, 4] := by simpa using Array.mem_of_getElem? ht
        have hall : ([5, 23, 3, 52, 4].all fun u => !Tryd.prog.wantsStandIn u) = true := by kernel_rfl
        exact (show Tryd.prog.wantsStandIn t = false by simpa using List.all_eq_true.1 hall t hm)⟩)
    (by kernel_rfl)
end Go.Proofs.YtgcgehdbgegfeaaDoor.lawCodecBursts
