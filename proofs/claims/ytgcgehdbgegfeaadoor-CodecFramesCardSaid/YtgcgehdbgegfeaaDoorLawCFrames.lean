/- The law CodecFrames answers true for any kind, payload and bytes: any payload framed; any bytes read as a frame. Conditions: the table of package crc is laid as the program's text lays it. -/
import Derived.Test.YtgcgehdbgegfeaaDoorCdf
import Derived.Test.YtgcgehdbgegfeaaDoorCrl
import Derived.Test.YtgcgehdbgegfeaaDoorInm
import Derived.Test.YtgcgehdbgegfeaaDoorTie
import Derived.Test.YtgcgehdbgegfeaaDoorCards
import Derived.Deep.RegionLaw
import Derived.SevenTiedAt
import Derived.LaidMore
namespace Go.Proofs.YtgcgehdbgegfeaaDoor.lawCodecFrames
open Go.ChangeShapes Go.WideShapes Go.ChangeAt Go.RowKit
set_option linter.unusedSimpArgs false
set_option linter.unusedVariables false

theorem own : ownKnob Tryd.prog.godebug = none := by kernel_rfl
theorem laid : laidOutB Tryd.prog = true := by kernel_rfl

def callsF (o : Oper) (f : Nat) : Bool := match o.op with
  | .call c => (match c.callee with | .value (.func g) => decide (g = f) | _ => false)
  | _ => false
theorem step_ifc {P : Program} {ops : Array Oper} {o : Oper} {a : Act} {w : World} {K : Act → World → Prop} {Q : Exit → Act → World → Prop} {E : Prop} (f : Nat) (ho : callsF o f = true) (hw : Region.wanted o (yielded ops a.tmps) = true) (h : Oper.wp P o a w K Q) :
    if Region.wanted o (yielded ops a.tmps) = true then Oper.wp P o a w K Q else E := by rw [if_pos hw]; exact h
set_option maxRecDepth 100000 in
set_option maxHeartbeats 16000000 in
theorem walk {W0 : World} (kd : Int) (wk : (Lit.int .u8 kd).wf = true) (va : Value) (la : List UInt8) (hra : RdV W0 W0.heap.size va (bv la)) (vb : Value) (lb : List UInt8) (hrb : RdV W0 W0.heap.size vb (bv lb)) (w : World) (hw : W0 = w) (hN : Nibs w) :
    Calls Tryd.prog 4 #[.int .u8 kd, va, vb] w fun e w' => e = .returned (.bool true) ∧ Below w.heap.size w w' := by
  subst hw
  have hkr : 0 ≤ kd ∧ kd ≤ 255 := by simpa [Lit.wf, IntKind.min, IntKind.max, IntKind.signed, IntKind.bits] using wk
  obtain ⟨k, rfl⟩ : ∃ k : UInt8, kd = (k.toNat : Int) := ⟨UInt8.ofNat kd.toNat, by rw [UInt8.toNat_ofNat', Nat.mod_eq_of_lt (by omega)]; omega⟩
  clear wk hkr
  have hraa := hra
  have hrbb := hrb
  obtain ⟨A, ca, rfl, hla, hma, hA⟩ := hra
  obtain ⟨Bq, cb, rfl, hlb, hmb, hB⟩ := hrb
  simp only [bv_length] at hla hlb hA hB hraa hrbb ⊢
  unfold maxLen at hma hmb
  have hk := kcodec_any W0 hN
  have HK := Lib.hid hk
  have HA := Lib.hid hraa
  have HB := Lib.hid hrbb
  have HN := Lib.hid hN
  clear hA hB hk hraa hrbb hN
  by_cases l1 : la.length ≤ 8192
  case neg =>
    go_enter Tryd.func4, Tryd.ntmps4
    go_wp2_with fail
    refine HK.out.mono ?_
    rintro e w1 ⟨rfl, hb1⟩
    go_wp2
    go_ret
    exact ⟨rfl, hb1⟩
  by_cases l2 : lb.length ≤ 8192
  case neg =>
    go_enter Tryd.func4, Tryd.ntmps4
    go_wp2_with fail
    refine HK.out.mono ?_
    rintro e w1 ⟨rfl, hb1⟩
    go_wp2
    go_ret
    exact ⟨rfl, hb1⟩
  go_enter Tryd.func4, Tryd.ntmps4
  go_wp2_with fail
  refine HK.out.mono ?_
  rintro e w1 ⟨rfl, hb1⟩
  have hz1 := hb1.size
  have q1 := readframe_any _ lb (by omega) w1 _ hz1 (HB.out.below hb1) (HN.out.next hb1)
  have q2 := fun w2 (h : Below W0.heap.size W0 w2) => rreadframe_any (.slice Bq lb.length cb) lb (by omega) w2 W0.heap.size h.size (HB.out.below h)
  have q3 := fun w2 (h : Below W0.heap.size W0 w2) => frame_any k (.slice A la.length ca) la (by omega) w2 W0.heap.size h.size (HA.out.below h) (HN.out.next h)
  have q4 := fun w2 (h : Below W0.heap.size W0 w2) => rframe_any k (.slice A la.length ca) la (by omega) w2 W0.heap.size h.size (HA.out.below h)
  have Q1 := Lib.hid q1
  have Q2 := Lib.hid q2
  have Q3 := Lib.hid q3
  have Q4 := Lib.hid q4
  clear q1 q2 q3 q4
  go_wp2_with fail
  refine Q1.out.mono ?_
  intro e w2 hP
  obtain ⟨kk, nn, ee, pl, v, rfl, hv, hb2, hdet⟩ := rfp_det hP
  have hB2 := nextB hb2 hb1
  have HV := Lib.hid hv
  have HD := Lib.hid hdet
  have hq2 := Q2.out w2 hB2
  have Q2' := Lib.hid hq2
  clear hP hv hdet hq2
  go_wp2_with fail
  refine Q2'.out.mono ?_
  intro e w3 hP
  obtain ⟨v2, rfl, hv2, hb3⟩ := HD.out _ _ _ hP
  have hB3 := nextB hb3 hB2
  have HV2 := Lib.hid hv2
  have HV1 := Lib.hid (HV.out.below hb3)
  clear hP hv2
  go_wp2
  have E := fun (w : World) => run_conv_rd (P := Tryd.prog) w 23 9 5 Tryd.underlying23 Tryd.underlying5 Tryd.underlying9
  have HE := Lib.hid E
  clear E
  refine region_inv [none, none, some (DRow (bv (frameL k la))), none, none, none, some (DRow (bv (frameL k la))), none, none, none, none, none, none, none, none, none, none, none, none, none, none, none, none, none, none, none, none, none, none, none, none, none] (by kernel_rfl) (by kernel_rfl) ⟨DRow.stable _, DRow.stable _, trivial⟩ (by kernel_rfl) ?_
  iterate 2 (refine inv_val (by rfl) (by intro w hg hl; clear hl; go_simp; with_reducible rfl) (fun K hK => ?_); go_simp; refine hK _ ?_; clear hK K)
  refine inv_any (by rfl) (by
    intro w hg hl
    clear hl
    refine gets_sem ?_
    go_simp
    refine Calls.mono (Q3.out w (hB3.trans (hg.mono hB3.size))) ?_
    rintro e w4 ⟨r4, rfl, ho4, hb4⟩
    exact ⟨r4, rfl, RdV.own ho4, hb4⟩) (fun v41 K hK => ?_)
  go_simp; refine hK _ ?_; clear hK K
  (refine inv_val (by rfl) (by intro w hg hl; have z := HE.out w _ _ _ (show RdV w w.heap.size v41 (bv (frameL k la)) from hl.at 2 41 (by kernel_rfl) rfl); clear hl; go_simp; with_reducible rfl) (fun K hK => ?_); go_simp; refine hK _ ?_; clear hK K)
  iterate 2 (refine inv_val (by rfl) (by intro w hg hl; clear hl; go_simp; with_reducible rfl) (fun K hK => ?_); go_simp; refine hK _ ?_; clear hK K)
  refine inv_any (by rfl) (by
    intro w hg hl
    clear hl
    refine gets_sem ?_
    go_simp
    refine Calls.mono (Q4.out w (hB3.trans (hg.mono hB3.size))) ?_
    rintro e w4 ⟨r4, rfl, ho4, hb4⟩
    exact ⟨r4, rfl, RdV.own ho4, hb4⟩) (fun v45 K hK => ?_)
  go_simp; refine hK _ ?_; clear hK K
  (refine inv_val (by rfl) (by intro w hg hl; have z := HE.out w _ _ _ (show RdV w w.heap.size v45 (bv (frameL k la)) from hl.at 6 45 (by kernel_rfl) rfl); clear hl; go_simp; with_reducible rfl) (fun K hK => ?_); go_simp; refine hK _ ?_; clear hK K)
  iterate 8 (refine inv_val (by rfl) (by intro w hg hl; clear hl; go_simp; with_reducible rfl) (fun K hK => ?_); go_simp; refine hK _ ?_; clear hK K)
  (refine inv_val (by rfl) (by intro w hg hl; have z := HE.out w _ _ _ (hg.rd HV1.out hb3.size); clear hl; go_simp; with_reducible rfl) (fun K hK => ?_); go_simp; refine hK _ ?_; clear hK K)
  (refine inv_val (by rfl) (by intro w hg hl; clear hl; go_simp; with_reducible rfl) (fun K hK => ?_); go_simp; refine hK _ ?_; clear hK K)
  (refine inv_val (by rfl) (by intro w hg hl; have z := HE.out w _ _ _ (hg.rd HV2.out (Nat.le_refl _)); clear hl; go_simp; with_reducible rfl) (fun K hK => ?_); go_simp; refine hK _ ?_; clear hK K)
  iterate 13 (refine inv_val (by rfl) (by intro w hg hl; clear hl; go_simp; with_reducible rfl) (fun K hK => ?_); go_simp; refine hK _ ?_; clear hK K)
  intro w4 hg hh
  clear hh
  go_wp2
  go_ret
  exact ⟨rfl, hB3.trans (hg.mono hB3.size)⟩

theorem door_met (os : Os) (args : Array Value) : laidMetH Tryd.prog Rows.codecFramesRow.laid ((World.doorLaid Tryd.prog 400 os).forCall (fun _ _ => 0) ⟨#[], args, []⟩).memory :=
  laidMetH_of_parts3 (fuel := 8) (laidMet_of_run' 8 (by kernel_rfl) (by kernel_rfl)) (by kernel_rfl) (by kernel_rfl)
set_option maxRecDepth 100000 in
theorem lifted (os : Os) (started : os.Started) (H : Type) (enc : TypeId × Value → H) :
    ReturnsInHanded {} Tryd.checked os 4 .any (fun w args => (Rows.codecFramesSpec.pre enc Tryd.prog Tryd.f4 [] false w args ∧ laidMetH Tryd.prog Rows.codecFramesRow.laid w) ∧ sizedMet enc Tryd.prog Tryd.f4 (OpenSpec.ofChange Rows.codecFramesSpec) false w args)
      (Rows.codecFramesSpec.post enc Tryd.prog Tryd.f4 false true false false) := by
  refine returnsInHanded_of_change_and (C := Tryd.checked) (X := fun w _ => laidMetH Tryd.prog Rows.codecFramesRow.laid w) (fun _ _ _ hh h => h.of_heap hh) own started (by kernel_rfl) Tryd.func4
    (ChangeSpec.witness_shaped (enc := enc) (C := Tryd.checked) (os := os) (X := fun w _ => laidMetH Tryd.prog Rows.codecFramesRow.laid w) false (World.doorLaid Tryd.prog 400 os) #[.int .u8 0, .slice none 0 0, .slice none 0 0] 8 rfl (World.shaped_of_RefB (by kernel_rfl) (by kernel_rfl)) (by kernel_rfl) (by kernel_rfl) (by kernel_rfl) (door_met os _)) ?_
  intro W base args ds gs before hval0 hW _ _ hL _
  have hval : ∀ (j : Nat) t v, Tryd.f4.params[j]? = some t → args[j]? = some v → Value.okWide Tryd.prog W .any base t v := hval0
  have hW' := hW
  obtain ⟨p, q, hA0, hV, rfl, hfz, hnd⟩ := hW
  have hA : DataW.TrodAll enc Tryd.prog W 0 (fun _ => true) true Tryd.f4.params.toList args.toList ds p := hA0
  rw [Tryd.params4] at hA hval
  obtain ⟨v0, vs0, d0, ds0, p0, q0, hargs, rfl, rfl, h0, r0⟩ := trodAll_cons hA
  obtain ⟨v1, vs1, d1, ds1, p1, q1, rfl, rfl, rfl, h1, r1⟩ := trodAll_cons r0
  obtain ⟨v2, vs2, d2, ds2, p2, q2, rfl, rfl, rfl, h2, r2⟩ := trodAll_cons r1
  obtain ⟨rfl, rfl, rfl⟩ := trodAll_nil r2
  obtain rfl : args = #[v0, v1, v2] := by cases args; simp_all
  obtain ⟨rfl, rfl⟩ := trodVars_none hV
  obtain ⟨a0, rfl, rfl, rfl, w0⟩ := open_int Tryd.underlying5 (hval 0 5 v0 rfl rfl) h0
  obtain ⟨l1, b1⟩ := open_bytes Tryd.underlying23 Tryd.underlying5 (by kernel_rfl) (hval 1 23 v1 rfl rfl) h1
  obtain ⟨l2, b2⟩ := open_bytes Tryd.underlying23 Tryd.underlying5 (by kernel_rfl) (hval 2 23 v2 rfl rfl) h2
  have hN := of_laid hL
  clear hA0 hval0
  refine (walk a0 w0 v1 l1 b1 v2 l2 b2 W rfl hN).mono fun e W' ⟨he, hb⟩ => ?_
  subst he
  exact ⟨_, rfl, law_post hW' rfl laid (by kernel_rfl) rfl Tryd.underlying4 rfl hb⟩

theorem over : Rows.CodecFramesSaid :=
  OpenClaim.holds_of_wide 4 Tryd.f4 rfl rfl rfl rfl rfl rfl rfl ⟨rfl, rfl, rfl, rfl, rfl⟩ rfl rfl rfl rfl rfl (by kernel_rfl) Tryd.func4 (by kernel_rfl)
    (of_decide_eq_true (by kernel_rfl)) (by unfold Func.isWrapper; first | (rw [if_pos (by decide +kernel)]; kernel_rfl) | (rw [if_neg (by decide +kernel)]; exact ⟨rfl, rfl⟩))
    (fun os started H enc _ => lifted os started H enc)
theorem proved : Rows.CodecFramesCardSaid :=
  Claim7.holds_tied_plain_at .later [] [.data] true Rows.codecFramesCard.stood.harness Rows.codecFramesCard.stood.looks
    over (fun _ h => by cases h) (by kernel_rfl) (fun _ h => by cases h) codecFrames_row_tie rfl ⟨rfl, rfl⟩ (by kernel_rfl) rfl
    (fun f fn hf hfn => by
      obtain rfl : f = 4 := Option.some.inj ((show Tryd.prog.funcNamed Rows.codecFramesRow.func = some 4 by kernel_rfl).symm.trans hf) |>.symm
      obtain rfl : fn = Tryd.f4 := (Option.some.inj (Tryd.func4.symm.trans hfn)).symm
      exact ⟨by kernel_rfl, fun j t ht => by
        rw [Tryd.params4] at ht
        have hm : t ∈ [5, 23, 23] := by simpa using Array.mem_of_getElem? ht
        have hall : ([5, 23, 23].all fun u => !Tryd.prog.wantsStandIn u) = true := by kernel_rfl
        exact (show Tryd.prog.wantsStandIn t = false by simpa using List.all_eq_true.1 hall t hm)⟩)
    (by kernel_rfl)
end Go.Proofs.YtgcgehdbgegfeaaDoor.lawCodecFrames
