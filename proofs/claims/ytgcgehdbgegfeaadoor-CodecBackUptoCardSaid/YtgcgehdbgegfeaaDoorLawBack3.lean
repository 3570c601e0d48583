/- The law CodecBack answers true for any items, kind, payload and bytes behind that hold together at most 1048576 values and letters. Conditions: that bound; the table of package crc is laid as the program's text lays it. -/
import Derived.Test.YtgcgehdbgegfeaaDoorBck
import Derived.Test.YtgcgehdbgegfeaaDoorCdp
import Derived.Test.YtgcgehdbgegfeaaDoorCrl
import Derived.Test.YtgcgehdbgegfeaaDoorRdi
import Derived.Test.YtgcgehdbgegfeaaDoorTie
import Derived.Test.YtgcgehdbgegfeaaDoorCards
import Derived.SevenTiedAt
import Derived.LaidMore
import Derived.Deep.DeepHandedRow
namespace Go.Proofs.YtgcgehdbgegfeaaDoor.lawCodecBack
open Go.ChangeShapes Go.WideShapes Go.ChangeAt Go.RowKit
set_option linter.unusedSimpArgs false
set_option linter.unusedVariables false

theorem own : ownKnob Tryd.prog.godebug = none := by kernel_rfl
theorem laid : laidOutB Tryd.prog = true := by kernel_rfl

set_option maxRecDepth 100000 in
set_option maxHeartbeats 16000000 in
theorem walk {W0 : World} (v : Value) (xs : List It) (hr : RdIt W0 W0.heap.size v xs) (hwf : ∀ x ∈ xs, x.wf) (hIts : Its xs ≤ 1048576) (kd : Int) (wk : (Lit.int .u8 kd).wf = true) (va : Value) (la : List UInt8) (hra : RdV W0 W0.heap.size va (bv la)) (hla0 : la.length ≤ 1048576) (vb : Value) (lb : List UInt8) (hrb : RdV W0 W0.heap.size vb (bv lb)) (hlb0 : lb.length ≤ 1048576) (w : World) (hw : W0 = w) (hN : Nibs w) :
    Calls Tryd.prog 5 #[v, .int .u8 kd, va, vb] w fun e w' => e = .returned (.bool true) ∧ Below w.heap.size w w' := by
  subst hw
  have hkr : 0 ≤ kd ∧ kd ≤ 255 := by simpa [Lit.wf, IntKind.min, IntKind.max, IntKind.signed, IntKind.bits] using wk
  obtain ⟨kk, rfl⟩ : ∃ k : UInt8, kd = (k.toNat : Int) := ⟨UInt8.ofNat kd.toNat, by rw [UInt8.toNat_ofNat', Nat.mod_eq_of_lt (by omega)]; omega⟩
  clear wk hkr
  obtain ⟨A, c, rfl, hc1, hc2, hc3⟩ := id hr
  clear hc3
  obtain ⟨A2, c2, rfl, hd1, hd2, hd3⟩ := id hra
  clear hd3
  obtain ⟨A3, c3, rfl, he1, he2, he3⟩ := id hrb
  clear he3
  rw [bv_length] at hd1 hra he1 hrb
  simp only [bv_length]
  unfold maxLen at hc2 hd2 he2
  have hk := kcodec_any W0 hN
  have hfew := fun w1 (hb : Below W0.heap.size W0 w1) => few_any w1 W0.heap.size _ xs (hr.below hb) (by omega)
  have hnl : xs.length ≤ 1048576 := by rw [its_eq] at hIts; omega
  have HK := Lib.hid hk
  have HF := Lib.hid hfew
  have HR := Lib.hid hr
  have HA := Lib.hid hra
  have HB := Lib.hid hrb
  have HN := Lib.hid hN
  clear hk hfew hr hra hrb hN
  by_cases l1 : Its xs ≤ 8192
  case neg =>
    have d1 : decide ((Its xs : Int) ≤ 8192) = false := decide_eq_false (by omega)
    rw [d1] at HF
    go_enter Tryd.func5, Tryd.ntmps5
    go_wp2_with fail
    refine HK.out.mono ?_
    rintro e w1 ⟨rfl, hb1⟩
    go_wp2_with fail
    refine (HF.out _ hb1).mono ?_
    rintro e w2 ⟨rfl, q, rfl⟩
    go_wp2
    go_ret
    exact ⟨rfl, belowN hb1 q⟩
  have d1 : decide ((Its xs : Int) ≤ 8192) = true := decide_eq_true (by omega)
  rw [d1] at HF
  clear d1
  by_cases l2 : la.length ≤ 8192
  case neg =>
    go_enter Tryd.func5, Tryd.ntmps5
    go_wp2_with fail
    refine HK.out.mono ?_
    rintro e w1 ⟨rfl, hb1⟩
    go_wp2_with fail
    refine (HF.out _ hb1).mono ?_
    rintro e w2 ⟨rfl, q, rfl⟩
    go_wp2
    go_ret
    exact ⟨rfl, belowN hb1 q⟩
  by_cases l3 : lb.length ≤ 8192
  case neg =>
    go_enter Tryd.func5, Tryd.ntmps5
    go_wp2_with fail
    refine HK.out.mono ?_
    rintro e w1 ⟨rfl, hb1⟩
    go_wp2_with fail
    refine (HF.out _ hb1).mono ?_
    rintro e w2 ⟨rfl, q, rfl⟩
    go_wp2
    go_ret
    exact ⟨rfl, belowN hb1 q⟩
  go_enter Tryd.func5, Tryd.ntmps5
  go_wp2_with fail
  refine HK.out.mono ?_
  rintro e w1 ⟨rfl, hb1⟩
  go_wp2_with fail
  refine (HF.out _ hb1).mono ?_
  rintro e w2 ⟨rfl, q, hq⟩
  have hb2 : Below W0.heap.size W0 w2 := by rw [hq]; exact belowN hb1 q
  clear hq hb1
  have hz2 := hb2.size
  have hwr := written_any w2 _ xs (RdIt.more (HR.out.below hb2) hz2) hwf (by omega)
  have HWR := Lib.hid hwr
  clear hwr
  go_wp2_with fail
  refine HWR.out.mono ?_
  rintro e w3 ⟨r1, r2, rfl, hr1, hr2, hb3'⟩
  have hb3 := nextB hb3' hb2
  have hen := encAll_length xs
  have hz3 := hb3.size
  have hnr := newreader_any r1 (encAll xs) (by omega) w3 _ (Nat.le_refl _) hr1
  have HNR := Lib.hid hnr
  clear hnr hr1 hr2 hb3'
  go_wp2_with fail
  refine HNR.out.mono ?_
  rintro e w4 ⟨kp, rfl, hkp, hx4, hb4'⟩
  have hb4 := nextB hb4' hb3
  have HX5 := Lib.hid hx4
  have HB5 := Lib.hid hb4
  have hkk : W0.heap.size ≤ kp := by omega
  clear hx4 hb4' hb4 hb3
  go_wp2_with fail
  go_loopw [12] (fun i wr => ∃ j : Nat, j ≤ xs.length ∧ i = .int .i64 j ∧ CBox wr kp (encAll (xs.drop j)) 0 ∧ Below W0.heap.size W0 wr) (fun i _ => xs.length - (intOf i).toNat)
  case atStart => exact ⟨0, by omega, rfl, by rw [List.drop_zero]; exact HX5.out, HB5.out⟩
  case round =>
    obtain ⟨j, hj, rfl, hx, hbel⟩ := hrel
    have hsz := hbel.size
    clear HX5 HB5
    by_cases hlt : j < xs.length
    · have hit := its_item xs j hlt
      obtain ⟨b, off, rfl, hb, a0, a1, ⟨u2, a2, r2⟩, ⟨u3, a3, r3⟩, _, _⟩ := (HR.out.below hbel).get hlt
      have hkeep : ∀ w1, Below W0.heap.size W0 w1 → ∀ k, k < W0.heap.size → w1.heap[k]? = wr.heap[k]? := fun w1 h k hk => (h.block k hk).trans (hbel.block k hk).symm
      have hcell : ∀ w1, Below W0.heap.size W0 w1 → ∀ o, w1.cell? ⟨b, o, none⟩ = wr.cell? ⟨b, o, none⟩ := fun w1 h o => by unfold World.cell?; rw [hkeep w1 h b hb]
      obtain ⟨xk, xv, xL, _, _⟩ := hwf xs[j] (List.getElem_mem hlt)
      rw [encAll_drop xs j hlt] at hx
      generalize xs[j] = x at *
      have htl : (encAll (xs.drop (j + 1))).length ≤ 20000000 := by
        have h1 := encAll_length (xs.drop (j + 1))
        have h2 : Its (xs.drop (j + 1)) ≤ Its xs := by
          unfold Its
          conv => rhs; rw [← List.take_append_drop (j + 1) xs]
          rw [List.map_append, List.sum_append]; omega
        omega
      have hex := encIt_length x
      obtain ⟨r, hrr⟩ : ∃ r, encAll (xs.drop (j + 1)) = r := ⟨_, rfl⟩
      rw [hrr] at hx htl
      have HRR := Lib.hid hrr
      clear hrr
      have HBL := Lib.hid hbel
      have HCELL := Lib.hid hcell
      have HKEEP := Lib.hid hkeep
      clear hbel hcell hkeep
      by_cases k1 : x.k = 1
      · rw [k1] at a0
        have hE : encIt x = encI x.v := by unfold encIt; rw [if_pos k1]
        rw [hE] at hx hex
        have hp := fun w1 (h : CBox w1 kp (encI x.v ++ r) 0) => rint_any w1 kp _ 0 h (by rw [List.length_append]; omega)
        rw [readV_enc x.v xv r] at hp
        have HP := Lib.hid hp
        have HX := Lib.hid hx
        dsimp only at HP
        clear hp hx a2 a3 r2 r3 k1 hE
        go_wp2
        first
          | go_region_law (first
            | (refine step_wanted _ rfl ?_; go_simp; go_at_call 13; refine Calls.mono (HP.out _ (by exact HX.out)) ?_; rintro e w5 ⟨rfl, hx5, hf5⟩; have hb5 := HBL.out.trans ((Frm.drew (Frm.refl (fun x => x = kp) wr)).trans hf5 |>.below (B := W0.heap.size) (by omega) hsz); have c1 := (HCELL.out w5 hb5 (off + j * 6 + 1)).trans a1; have HX6 := Lib.hid hx5; have HB6 := Lib.hid hb5; clear hx5 hf5 hb5)
            | fail)
          | fail
        all_goals (
          go_wp2
          go_roundw
          case rel => exact ⟨j + 1, by omega, by go_num, by rw [HRR.out]; exact HX6.out, HB6.out⟩
          case measure => simp [intOf]; omega)
      by_cases k2 : x.k = 2
      · rw [k2] at a0
        have hE : encIt x = encI x.B.length ++ x.B := by unfold encIt; rw [if_neg k1, if_pos k2]
        rw [hE] at hx hex
        have hp := fun w1 (h : CBox w1 kp (encI x.B.length ++ x.B ++ r) 0) => rbytes_any w1 kp _ 0 8192 (by omega) h (by rw [List.length_append]; omega)
        rw [readB_enc x.B (by omega) r] at hp
        have HP := Lib.hid hp
        have HX := Lib.hid hx
        have HR2 := Lib.hid r2
        have y0 := run_conv_rd (P := Tryd.prog) wr 23 9 5 Tryd.underlying23 Tryd.underlying5 Tryd.underlying9 _ _ _ (r2)
        have y1 := run_conv_rd (P := Tryd.prog) wr.drew 23 9 5 Tryd.underlying23 Tryd.underlying5 Tryd.underlying9 _ _ _ (r2.drew)
        clear hp hx a1 a3 r2 r3 k1 k2 hE
        go_wp2
        first
          | go_region_law (first
            | (refine step_wanted _ rfl ?_; go_simp; go_at_call 15; refine Calls.mono (HP.out _ (by exact HX.out)) ?_; rintro e w5 ⟨u5, rfl, hr5, hx5, hf5⟩; have hb5 := HBL.out.trans ((Frm.drew (Frm.refl (fun x => x = kp) wr)).trans hf5 |>.below (B := W0.heap.size) (by omega) hsz); have c1 := (HCELL.out w5 hb5 (off + j * 6 + 2)).trans a2; have z5 := run_conv_rd (P := Tryd.prog) w5 23 9 5 Tryd.underlying23 Tryd.underlying5 Tryd.underlying9 _ _ _ (hr5); have z6 := run_conv_rd (P := Tryd.prog) w5 23 9 5 Tryd.underlying23 Tryd.underlying5 Tryd.underlying9 _ _ _ (HR2.out.keep (HKEEP.out w5 hb5)); have HX6 := Lib.hid hx5; have HB6 := Lib.hid hb5; clear hr5 hx5 hf5 hb5)
            | fail)
          | fail
        all_goals (
          go_wp2
          go_roundw
          case rel => exact ⟨j + 1, by omega, by go_num, by rw [HRR.out]; exact HX6.out, HB6.out⟩
          case measure => simp [intOf]; omega)
      by_cases k3 : x.k = 3
      · rw [k3] at a0
        have hE : encIt x = encI x.L.length ++ encL x.L := by unfold encIt; rw [if_neg k1, if_neg k2, if_pos k3]
        rw [hE] at hx hex
        have hp := fun w1 (h : CBox w1 kp (encI x.L.length ++ encL x.L ++ r) 0) => rlist_any w1 kp _ 0 8192 (by omega) h (by rw [List.length_append]; omega)
        rw [readL_enc x.L (by omega) xL r] at hp
        have hxl : x.L.length ≤ 1000000 := by omega
        have HP := Lib.hid hp
        have HX := Lib.hid hx
        have HR3 := Lib.hid r3
        clear hp hx a1 a2 r2 r3 k1 k2 k3 hE
        go_wp2
        first
          | go_region_law (first
            | (refine step_wanted _ rfl ?_; go_simp; go_at_call 18; refine Calls.mono (HP.out _ (by exact HX.out)) ?_; rintro e w5 ⟨u5, rfl, ho5, hx5, hf5⟩; have hb5 := HBL.out.trans ((Frm.drew (Frm.refl (fun x => x = kp) wr)).trans hf5 |>.below (B := W0.heap.size) (by omega) hsz); have c1 := (HCELL.out w5 hb5 (off + j * 6 + 3)).trans a3; have hin := ints_any w5 w5.heap.size u5 u3 x.L (RdV.own ho5) ((HR3.out.keep (HKEEP.out w5 hb5)).more hb5.size) hxl; have HIN := Lib.hid hin; have HX6 := Lib.hid hx5; have HB6 := Lib.hid hb5; clear ho5 hx5 hf5 hb5 hin)
            | (refine step_wanted _ rfl ?_; go_simp; go_at_call 17; refine Calls.mono (HIN.out) ?_; rintro e w6 ⟨rfl, q, rfl⟩)
            | fail)
          | fail
        all_goals (
          go_wp2
          go_roundw
          case rel => exact ⟨j + 1, by omega, by go_num, by rw [HRR.out]; exact HX6.out.next (belowN (Below.refl _ _) q), belowN HB6.out q⟩
          case measure => simp [intOf]; omega)
      have hE : encIt x = [] := by unfold encIt; rw [if_neg k1, if_neg k2, if_neg k3]
      rw [hE, List.nil_append] at hx
      have HX := Lib.hid hx
      have e1 : (x.k == 1) = false := by rw [beq_eq_false_iff_ne]; exact k1
      have e2 : (x.k == 2) = false := by rw [beq_eq_false_iff_ne]; exact k2
      have e3 : (x.k == 3) = false := by rw [beq_eq_false_iff_ne]; exact k3
      clear a1 a2 a3 r2 r3 k1 k2 k3 hE hx
      go_wp2
      go_roundw
      case rel => exact ⟨j + 1, by omega, by go_num, by rw [HRR.out]; exact HX.out, HBL.out⟩
      case measure => simp [intOf]; omega
    · obtain rfl : j = xs.length := by omega
      rw [List.drop_length] at hx
      have f1 := frame_any kk _ la (by omega) wr _ hsz (HA.out.below hbel) (HN.out.next hbel)
      have hFl := frameL_length kk la
      have F1 := Lib.hid f1
      have HX := Lib.hid (show CBox wr kp [] 0 from hx)
      clear f1 hx
      go_wp2_with fail
      refine F1.out.mono ?_
      rintro e w5 ⟨rF, rfl, ho5, hb5'⟩
      have hb5 := nextB hb5' hbel
      have hz5 := hb5.size
      have hR5 := RdV.own ho5
      obtain ⟨AF, cF, rfl, hf1, hf2, _⟩ := id hR5
      rw [bv_length, hFl] at hf1 hR5
      simp only [bv_length, hFl]
      unfold maxLen at hf2
      have HX5 := Lib.hid (HX.out.next hb5')
      have HR5 := Lib.hid (hR5.alloc (Nat.le_refl _) (.cells #[] 5))
      have HE5 := Lib.hid (Emp.new w5 5)
      have hB5a := hb5.alloc hz5 (.cells #[] 5)
      clear ho5 hR5 hb5'
      go_wp2_with (first
        | (at_builtin; refine wpList_append_rd _ rfl (.tmp 88) (.tmp 89) 23 rfl w5.heap.size 5 (.int .u8 0) 1 Tryd.underlying23 Tryd.inf5 rfl _ 0 [] rfl (Emp.own HE5.out (Nat.le_refl _)) _ rfl _ (bv (frameL kk la)) HR5.out (bv_one _) (by (rw [bv_length, hFl]; try omega)) (by omega) (by (simp; try omega)) ?_; intro v4 w6 ho4 hg4 _; have hg4' : (w5.alloc (.cells #[] 5)).grownBy w6 (some w5.heap.size) := hg4; have hB6' : Below w5.heap.size w5 w6 := (((Below.refl _ w5).alloc (Nat.le_refl _) _).grown hg4' (by simp) (by intro g hg; injection hg with hg; omega)); have hB6 := nextB hB6' hb5; have hrb4 := HB.out.below hB6; have hz6 := hB6'.size)
        | (at_builtin; refine wpList_append_rd _ rfl (.tmp 90) (.tmp 91) 23 rfl w5.heap.size 5 (.int .u8 0) 1 Tryd.underlying23 Tryd.inf5 rfl v4 _ _ rfl ho4 _ rfl _ (bv lb) hrb4 (bv_one _) (by (rw [bv_length, bv_length, hFl]; try omega)) (by omega) (by omega) ?_; intro v5 w7 ho7 hg7 _; have hB7' : Below w5.heap.size w5 w7 := hB6'.grown hg7 (by omega) (fun g hg => (ho4.lt g hg).1)))
      have hB7 := nextB hB7' hb5
      have hR7 := RdV.own ho7
      rw [List.nil_append, ← bv_append] at hR7
      have rf := readframe_any v5 (frameL kk la ++ lb) (by rw [List.length_append, hFl]; omega) w7 _ (Nat.le_refl _) hR7 (HN.out.next hB7)
      have RF := Lib.hid rf
      clear ho7 hg7 ho4 hg4 hg4' hrb4 hR7 rf
      refine RF.out.mono ?_
      rintro e w8 hP
      obtain ⟨⟨r6, rfl, hr6⟩, hb8'⟩ := rfp_good (by omega) hP
      have hB8 := nextB hb8' hB7
      have x1 := run_conv_rd (P := Tryd.prog) w8 23 9 5 Tryd.underlying23 Tryd.underlying5 Tryd.underlying9 _ _ _ hr6
      have x2 := run_conv_rd (P := Tryd.prog) w8 23 9 5 Tryd.underlying23 Tryd.underlying5 Tryd.underlying9 _ _ _ (HA.out.below hB8)
      have he := end_any w8 kp [] 0 ((HX5.out.next hB7').next hb8')
      rw [if_neg (by simp)] at he
      have HEE := Lib.hid he
      clear hP hr6 he
      go_wp2_with fail
      refine HEE.out.mono ?_
      rintro e w9 ⟨rfl, rfl⟩
      go_wp2
      go_ret
      exact ⟨rfl, hB8⟩

theorem door_met (os : Os) (args : Array Value) : laidMetH Tryd.prog Rows.codecBackUptoRow.laid ((World.doorLaid Tryd.prog 400 os).forCall (fun _ _ => 0) ⟨#[], args, []⟩).memory :=
  laidMetH_of_parts3 (fuel := 8) (laidMet_of_run' 8 (by kernel_rfl) (by kernel_rfl)) (by kernel_rfl) (by kernel_rfl)
theorem reads (os : Os) {H : Type} (enc : TypeId × Value → H) : ∃ places, DataW.whole enc Tryd.prog ((World.doorLaid Tryd.prog 400 os).forCall (fun _ _ => 0) ⟨#[], #[.slice none 0 0, .int .u8 0, .slice none 0 0, .slice none 0 0], []⟩).memory Tryd.f5.params.toList Rows.codecBackSpec.vars false #[.slice none 0 0, .int .u8 0, .slice none 0 0, .slice none 0 0].toList 8 = some ([.nil, .lit (.int .u8 0), .nil, .nil], [], places) :=
  ⟨[], by kernel_rfl⟩
set_option maxRecDepth 100000 in
theorem lifted (os : Os) (started : os.Started) (H : Type) (enc : TypeId × Value → H) (F : Stop.Interp) :
    ReturnsInHanded {} Tryd.checked os 5 .any ((Rows.OpenSpec.upto Rows.codecBackSpec).preRow enc Tryd.prog Tryd.f5 Rows.codecBackUptoRow.domain false Rows.codecBackUptoRow.laid) (((Rows.OpenSpec.upto Rows.codecBackSpec).at F).post enc Tryd.prog Tryd.f5 false true false false) := by
  obtain ⟨places, hx⟩ := reads os enc
  refine returnsInHanded_of_row (C := Tryd.checked) (s := Rows.OpenSpec.upto Rows.codecBackSpec) own started (by kernel_rfl) Tryd.func5
    ⟨World.doorLaid Tryd.prog 400 os, fun _ _ => 0, ⟨#[], #[.slice none 0 0, .int .u8 0, .slice none 0 0, .slice none 0 0], []⟩, rfl, World.shaped_of_RefB (by kernel_rfl) (by kernel_rfl), rfl, (Input.okWide_of_okWideB (by kernel_rfl)).2,
      OpenSpec.preRow_of_cond 8 hx (by kernel_rfl) (fun k hk => by cases hk; kernel_rfl) (by kernel_rfl) (door_met os _), by
        simp only [Assume.holds]
        exact ⟨by simp, by simp, fun _ => Modest.zero, by simp, by simp⟩⟩ ?_
  intro W base args ds gs before hval0 hW _ hcond _ hL _ _
  have hval : ∀ (j : Nat) t v, Tryd.f5.params[j]? = some t → args[j]? = some v → Value.okWide Tryd.prog W .any base t v := hval0
  have hW' := hW
  obtain ⟨p, q, hA0, hV, rfl, hfz, hnd⟩ := hW
  have hA : DataW.TrodAll enc Tryd.prog W 0 (fun _ => true) true Tryd.f5.params.toList args.toList ds p := hA0
  rw [Tryd.params5] at hA hval
  obtain ⟨v0, vs0, d0, ds0, p0, q0, hargs, rfl, rfl, h0, r0⟩ := trodAll_cons hA
  obtain ⟨v1, vs1, d1, ds1, p1, q1, rfl, rfl, rfl, h1, r1⟩ := trodAll_cons r0
  obtain ⟨v2, vs2, d2, ds2, p2, q2, rfl, rfl, rfl, h2, r2⟩ := trodAll_cons r1
  obtain ⟨v3, vs3, d3, ds3, p3, q3, rfl, rfl, rfl, h3, r3⟩ := trodAll_cons r2
  obtain ⟨rfl, rfl, rfl⟩ := trodAll_nil r3
  obtain rfl : args = #[v0, v1, v2, v3] := by cases args; simp_all
  obtain ⟨rfl, rfl⟩ := trodVars_none hV
  have hbulk := bulk_of (hcond _ rfl)
  rw [List.append_nil] at hbulk
  obtain ⟨xs, hxs, hwf, m0⟩ := open_items Tryd.underlying22 Tryd.underlying35 (by kernel_rfl) rfl rfl rfl rfl rfl rfl (by kernel_rfl) (by kernel_rfl) (by kernel_rfl) (by kernel_rfl) (by kernel_rfl) (by kernel_rfl) Tryd.underlying3 Tryd.underlying2 Tryd.underlying23 Tryd.underlying33 Tryd.underlying3 Tryd.underlying3 Tryd.underlying5 Tryd.underlying3 (by kernel_rfl) (by kernel_rfl) (hval 0 22 v0 rfl rfl) h0
  obtain ⟨a1, rfl, rfl, rfl, w1⟩ := open_int Tryd.underlying5 (hval 1 5 v1 rfl rfl) h1
  obtain ⟨l2, b2⟩ := open_bytes Tryd.underlying23 Tryd.underlying5 (by kernel_rfl) (hval 2 23 v2 rfl rfl) h2
  have m2 := bytes_bulk Tryd.underlying23 Tryd.underlying5 (by kernel_rfl) (hval 2 23 v2 rfl rfl) h2 b2
  obtain ⟨l3, b3⟩ := open_bytes Tryd.underlying23 Tryd.underlying5 (by kernel_rfl) (hval 3 23 v3 rfl rfl) h3
  have m3 := bytes_bulk Tryd.underlying23 Tryd.underlying5 (by kernel_rfl) (hval 3 23 v3 rfl rfl) h3 b3
  simp only [Rows.uptoBulkAll] at hbulk
  have hN := of_laid hL
  clear hA0 hval0
  refine (walk v0 xs hxs hwf (by rw [its_eq]; omega) a1 w1 v2 l2 b2 (by omega) v3 l3 b3 (by omega) W rfl hN).mono fun e W' ⟨he, hb⟩ => ?_
  subst he
  exact ⟨_, rfl, law_post hW' rfl laid (by kernel_rfl) rfl Tryd.underlying4 rfl hb⟩

theorem over : Rows.CodecBackUptoSaid :=
  OpenClaim.holds_of_cond 5 Tryd.f5 rfl rfl rfl rfl rfl rfl rfl ⟨rfl, rfl, rfl, rfl, rfl⟩ rfl rfl rfl rfl rfl (by kernel_rfl) Tryd.func5 (by kernel_rfl)
    (of_decide_eq_true (by kernel_rfl)) (by unfold Func.isWrapper; first | (rw [if_pos (by decide +kernel)]; kernel_rfl) | (rw [if_neg (by decide +kernel)]; exact ⟨rfl, rfl⟩))
    (fun os started H enc _ F => by rw [OpenClaim.pre_eq_preRow]; exact lifted os started H enc F)
theorem proved : Rows.CodecBackUptoCardSaid :=
  Claim7.holds_tied_plain_at .later [] _ _ _ _
    over (fun _ h => by cases h) (by kernel_rfl) (fun _ h => by cases h) codecBackUpto_row_tie rfl ⟨rfl, rfl⟩ (by kernel_rfl) rfl
    (fun f fn hf hfn => by
      obtain rfl : f = 5 := Option.some.inj ((show Tryd.prog.funcNamed Rows.codecBackUptoRow.func = some 5 by kernel_rfl).symm.trans hf) |>.symm
      obtain rfl : fn = Tryd.f5 := (Option.some.inj (Tryd.func5.symm.trans hfn)).symm
      exact ⟨by kernel_rfl, fun j t ht => by
        rw [Tryd.params5] at ht
        have hm : t ∈ [22, 5, 23, 23] := by simpa using Array.mem_of_getElem? ht
        have hall : ([22, 5, 23, 23].all fun u => !Tryd.prog.wantsStandIn u) = true := by kernel_rfl
        exact (show Tryd.prog.wantsStandIn t = false by simpa using List.all_eq_true.1 hall t hm)⟩)
    (by kernel_rfl)
end Go.Proofs.YtgcgehdbgegfeaaDoor.lawCodecBack
