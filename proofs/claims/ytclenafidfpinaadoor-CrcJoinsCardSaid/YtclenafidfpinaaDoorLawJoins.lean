/- The law CrcJoins answers true for any two rows of bytes and any two numbers: the sum of two rows by theirs alone. Conditions: the table of the package is laid as the program's text lays it. -/
import Derived.Test.YtclenafidfpinaaDoorCrl
import Derived.Test.YtclenafidfpinaaDoorCrj
import Derived.Test.YtclenafidfpinaaDoorTie
import Derived.Test.YtclenafidfpinaaDoorCards
import Derived.SevenTiedAt
import Derived.LaidMore
namespace Go.Proofs.YtclenafidfpinaaDoor.lawCrcJoins
open Go.ChangeShapes Go.WideShapes Go.ChangeAt Go.RowKit
set_option linter.unusedSimpArgs false
set_option linter.unusedVariables false

theorem own : ownKnob Tryd.prog.godebug = none := by kernel_rfl
theorem laid : laidOutB Tryd.prog = true := by kernel_rfl

set_option maxRecDepth 100000 in
set_option maxHeartbeats 8000000 in
theorem walk {W0 : World} (va : Value) (la : List UInt8) (hra : RdV W0 W0.heap.size va (bv la)) (vb : Value) (lb : List UInt8) (hrb : RdV W0 W0.heap.size vb (bv lb)) (s : Int) (ws : (Lit.int .u32 s).wf = true) (t : Int) (wt : (Lit.int .u32 t).wf = true) (w : World) (hw : W0 = w) (hN : Nibs w) :
    Calls Tryd.prog 4 #[va, vb, .int .u32 s, .int .u32 t] w fun e w' => e = .returned (.bool true) ∧ Below w.heap.size w w' := by
  subst hw
  have hsr : 0 ≤ s ∧ s ≤ 4294967295 := by simpa [Lit.wf, IntKind.min, IntKind.max, IntKind.signed, IntKind.bits] using ws
  have htr : 0 ≤ t ∧ t ≤ 4294967295 := by simpa [Lit.wf, IntKind.min, IntKind.max, IntKind.signed, IntKind.bits] using wt
  clear ws wt
  obtain ⟨sn, rfl⟩ := Int.eq_ofNat_of_zero_le hsr.1
  obtain ⟨tn, rfl⟩ := Int.eq_ofNat_of_zero_le htr.1
  have hraa := hra
  have hrbb := hrb
  obtain ⟨A, ca, rfl, hla, hma, hA⟩ := hra
  obtain ⟨Bq, cb, rfl, hlb, hmb, hB⟩ := hrb
  simp only [bv_length] at hla hlb hA hB hraa hrbb ⊢
  unfold maxLen at hma hmb
  have hk := kcrc_any W0 hN
  have HK := Lib.hid hk
  have HA := Lib.hid hraa
  have HB := Lib.hid hrbb
  have HN := Lib.hid hN
  clear hA hB hk hraa hrbb hN
  by_cases l1 : la.length ≤ 8192
  case neg =>
    go_enter Tryd.func4, Tryd.ntmps4
    go_wp2_with fail
    refine HK.out.mono ?_
    rintro e w1 ⟨rfl, hb1⟩
    go_wp2
    go_ret
    exact ⟨rfl, hb1⟩
  by_cases l2 : lb.length ≤ 8192
  case neg =>
    go_enter Tryd.func4, Tryd.ntmps4
    go_wp2_with fail
    refine HK.out.mono ?_
    rintro e w1 ⟨rfl, hb1⟩
    go_wp2
    go_ret
    exact ⟨rfl, hb1⟩
  go_enter Tryd.func4, Tryd.ntmps4
  go_wp2_with fail
  refine HK.out.mono ?_
  rintro e w1 ⟨rfl, hb1⟩
  have hz1 := hb1.size
  have a1 := HA.out.below hb1
  have b1 := HB.out.below hb1
  have n1 := HN.out.next hb1
  have A1 := Lib.hid a1
  have B1 := Lib.hid b1
  clear a1 b1
  have s1 := sum_any _ _ _ _ (RdS.mk1 A1.out hz1 23) (n1.next ((Below.refl _ _).alloc (Nat.le_refl _) _))
  rw [show [la].flatten = la from by simp] at s1
  have hB2 : Below W0.heap.size W0 (w1.alloc (.cells #[.slice A la.length ca] 23)) := hb1.alloc hz1 _
  have N1 := Lib.hid n1
  have S1 := Lib.hid s1
  clear n1 s1
  go_wp2_with fail
  refine S1.out.mono ?_
  rintro e w2 ⟨rfl, rfl⟩
  have b2 := HB.out.below hB2
  have hz2 := hB2.size
  have hB3 := hB2.alloc hz2 (.cells #[.slice Bq lb.length cb] 23)
  have s2 := sum_any _ _ _ _ (RdS.mk1 b2 hz2 23) (HN.out.below hB3 HN.out.1)
  simp only [World.size_alloc, Nat.add_assoc, Nat.reduceAdd] at s2
  rw [show [lb].flatten = lb from by simp] at s2
  have S2 := Lib.hid s2
  clear s2 b2
  go_wp2_with fail
  refine S2.out.mono ?_
  rintro e w3 ⟨rfl, rfl⟩
  have a3 := HA.out.below hB3
  have b3 := HB.out.below hB3
  have hz3 := hB3.size
  have hB4 := hB3.alloc hz3 (.cells #[.slice A la.length ca, .slice Bq lb.length cb] 23)
  have s3 := sum_any _ _ _ _ (RdS.mk2 a3 b3 hz3 23) (HN.out.below hB4 HN.out.1)
  have la32 := Cr.sum_lt (u8n la) (u8n_lt la)
  have lb32 := Cr.sum_lt (u8n lb) (u8n_lt lb)
  have hap := Cr.sum_append (u8n la) (u8n lb)
  rw [← u8n_append, show (u8n lb).length = lb.length from by simp [u8n]] at hap
  have hJ : Calls Tryd.prog 18 #[.int .u32 (Cr.sum (u8n la)), .int .u32 (Cr.sum (u8n lb)), .int .i64 lb.length] ((w1.alloc (.cells #[.slice A la.length ca] 23)).alloc (.cells #[.slice Bq lb.length cb] 23)) fun e w' => e = .returned (.int .u32 (Cr.sum (u8n (la ++ lb)))) ∧ ((w1.alloc (.cells #[.slice A la.length ca] 23)).alloc (.cells #[.slice Bq lb.length cb] 23)) = w' := by
    by_cases h0 : lb.length = 0
    · have hnil : lb = [] := List.length_eq_zero_iff.1 h0
      subst hnil
      rw [List.append_nil]
      exact join_no _ _ _ (by simp) _
    · rw [hap]
      exact join_yes _ _ _ (by omega) (by omega) la32 lb32 _
  simp only [World.size_alloc, Nat.add_assoc, Nat.reduceAdd] at s3
  rw [show [la, lb].flatten = la ++ lb from by simp] at s3
  have S3 := Lib.hid s3
  have HJ := Lib.hid hJ
  have j1 := fun w1 => join_no sn tn 0 (by decide) w1
  have j2 := fun w1 => join_no sn tn (-1) (by decide) w1
  have J1 := Lib.hid j1
  have J2 := Lib.hid j2
  clear s3 hJ a3 b3 hap la32 lb32 j1 j2
  go_wp2_with fail
  refine HJ.out.mono ?_
  rintro e w4 ⟨rfl, rfl⟩
  go_wp2_with fail
  refine S3.out.mono ?_
  rintro e w4 ⟨rfl, rfl⟩
  go_wp2_with fail
  refine (J1.out _).mono ?_
  rintro e w5 ⟨rfl, rfl⟩
  go_wp2_with fail
  refine (J2.out _).mono ?_
  rintro e w5 ⟨rfl, rfl⟩
  go_wp2
  go_ret
  exact ⟨rfl, hB4⟩

theorem door_met (os : Os) (args : Array Value) : laidMetH Tryd.prog Rows.crcJoinsRow.laid ((World.doorLaid Tryd.prog 400 os).forCall (fun _ _ => 0) ⟨#[], args, []⟩).memory :=
  laidMetH_of_parts3 (fuel := 8) (laidMet_of_run' 8 (by kernel_rfl) (by kernel_rfl)) (by kernel_rfl) (by kernel_rfl)
set_option maxRecDepth 100000 in
theorem lifted (os : Os) (started : os.Started) (H : Type) (enc : TypeId × Value → H) :
    ReturnsInHanded {} Tryd.checked os 4 .any (fun w args => (Rows.crcJoinsSpec.pre enc Tryd.prog Tryd.f4 [] false w args ∧ laidMetH Tryd.prog Rows.crcJoinsRow.laid w) ∧ sizedMet enc Tryd.prog Tryd.f4 (OpenSpec.ofChange Rows.crcJoinsSpec) false w args)
      (Rows.crcJoinsSpec.post enc Tryd.prog Tryd.f4 false true false false) := by
  refine returnsInHanded_of_change_and (C := Tryd.checked) (X := fun w _ => laidMetH Tryd.prog Rows.crcJoinsRow.laid w) (fun _ _ _ hh h => h.of_heap hh) own started (by kernel_rfl) Tryd.func4
    (ChangeSpec.witness_shaped (enc := enc) (C := Tryd.checked) (os := os) (X := fun w _ => laidMetH Tryd.prog Rows.crcJoinsRow.laid w) false (World.doorLaid Tryd.prog 400 os) #[.slice none 0 0, .slice none 0 0, .int .u32 0, .int .u32 0] 8 rfl (World.shaped_of_RefB (by kernel_rfl) (by kernel_rfl)) (by kernel_rfl) (by kernel_rfl) (by kernel_rfl) (door_met os _)) ?_
  intro W base args ds gs before hval0 hW _ _ hL _
  have hval : ∀ (j : Nat) t v, Tryd.f4.params[j]? = some t → args[j]? = some v → Value.okWide Tryd.prog W .any base t v := hval0
  have hW' := hW
  obtain ⟨p, q, hA0, hV, rfl, hfz, hnd⟩ := hW
  have hA : DataW.TrodAll enc Tryd.prog W 0 (fun _ => true) true Tryd.f4.params.toList args.toList ds p := hA0
  rw [Tryd.params4] at hA hval
  obtain ⟨v0, vs0, d0, ds0, p0, q0, hargs, rfl, rfl, h0, r0⟩ := trodAll_cons hA
  obtain ⟨v1, vs1, d1, ds1, p1, q1, rfl, rfl, rfl, h1, r1⟩ := trodAll_cons r0
  obtain ⟨v2, vs2, d2, ds2, p2, q2, rfl, rfl, rfl, h2, r2⟩ := trodAll_cons r1
  obtain ⟨v3, vs3, d3, ds3, p3, q3, rfl, rfl, rfl, h3, r3⟩ := trodAll_cons r2
  obtain ⟨rfl, rfl, rfl⟩ := trodAll_nil r3
  obtain rfl : args = #[v0, v1, v2, v3] := by cases args; simp_all
  obtain ⟨rfl, rfl⟩ := trodVars_none hV
  obtain ⟨l0, b0⟩ := open_bytes Tryd.underlying23 Tryd.underlying5 (by kernel_rfl) (hval 0 23 v0 rfl rfl) h0
  obtain ⟨l1, b1⟩ := open_bytes Tryd.underlying23 Tryd.underlying5 (by kernel_rfl) (hval 1 23 v1 rfl rfl) h1
  obtain ⟨a2, rfl, rfl, rfl, w2⟩ := open_int Tryd.underlying24 (hval 2 24 v2 rfl rfl) h2
  obtain ⟨a3, rfl, rfl, rfl, w3⟩ := open_int Tryd.underlying24 (hval 3 24 v3 rfl rfl) h3
  have hN := of_laid hL
  clear hA0 hval0
  refine (walk v0 l0 b0 v1 l1 b1 a2 w2 a3 w3 W rfl hN).mono fun e W' ⟨he, hb⟩ => ?_
  subst he
  exact ⟨_, rfl, law_post hW' rfl laid (by kernel_rfl) rfl Tryd.underlying4 rfl hb⟩

theorem over : Rows.CrcJoinsSaid :=
  OpenClaim.holds_of_wide 4 Tryd.f4 rfl rfl rfl rfl rfl rfl rfl ⟨rfl, rfl, rfl, rfl, rfl⟩ rfl rfl rfl rfl rfl (by kernel_rfl) Tryd.func4 (by kernel_rfl)
    (of_decide_eq_true (by kernel_rfl)) (by unfold Func.isWrapper; first | (rw [if_pos (by decide +kernel)]; kernel_rfl) | (rw [if_neg (by decide +kernel)]; exact ⟨rfl, rfl⟩))
    (fun os started H enc _ => lifted os started H enc)
theorem proved : Rows.CrcJoinsCardSaid :=
  Claim7.holds_tied_plain_at .later [] [.data] true Rows.crcJoinsCard.stood.harness false
    over (fun _ h => by cases h) (by kernel_rfl) (fun _ h => by cases h) crcJoins_row_tie rfl ⟨rfl, rfl⟩ (by kernel_rfl) rfl
    (fun f fn hf hfn => by
      obtain rfl : f = 4 := Option.some.inj ((show Tryd.prog.funcNamed Rows.crcJoinsRow.func = some 4 by kernel_rfl).symm.trans hf) |>.symm
      obtain rfl : fn = Tryd.f4 := (Option.some.inj (Tryd.func4.symm.trans hfn)).symm
      exact ⟨by kernel_rfl, fun j t ht => by
        rw [Tryd.params4] at ht
        have hm : t ∈ [23, 23, 24, 24] := by simpa using Array.mem_of_getElem? ht
        have hall : ([23, 23, 24, 24].all fun u => !Tryd.prog.wantsStandIn u) = true := by kernel_rfl
        exact (show Tryd.prog.wantsStandIn t = false by simpa using List.all_eq_true.1 hall t hm)⟩)
    (by kernel_rfl)
end Go.Proofs.YtclenafidfpinaaDoor.lawCrcJoins
