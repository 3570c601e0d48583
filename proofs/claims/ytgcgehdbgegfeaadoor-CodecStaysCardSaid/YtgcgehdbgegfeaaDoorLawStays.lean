/- The law CodecStays answers true for any bytes and number: behind the first error a reader tells zeros alone, and that error in the end. Conditions: the table of package crc is laid as the program's text lays it. -/
import Derived.Test.YtgcgehdbgegfeaaDoorCdw
import Derived.Test.YtgcgehdbgegfeaaDoorCdp
import Derived.Test.YtgcgehdbgegfeaaDoorCrl
import Derived.Test.YtgcgehdbgegfeaaDoorRdi
import Derived.Test.YtgcgehdbgegfeaaDoorTie
import Derived.Test.YtgcgehdbgegfeaaDoorCards
import Derived.SevenTiedAt
import Derived.LaidMore
namespace Go.Proofs.YtgcgehdbgegfeaaDoor.lawCodecStays
open Go.ChangeShapes Go.WideShapes Go.ChangeAt Go.RowKit
set_option linter.unusedSimpArgs false
set_option linter.unusedVariables false

theorem own : ownKnob Tryd.prog.godebug = none := by kernel_rfl
theorem laid : laidOutB Tryd.prog = true := by kernel_rfl

theorem rvN_pos {l : List UInt8} (h : Pu.rvE l = 0) : 1 ≤ Pu.rvN l := by unfold Pu.rvN; rw [if_pos h]; omega
theorem read_on {l : List UInt8} {e : Int} {n i : Nat} (h : e ≠ 0 ∨ (e = 0 ∧ l.length + i ≤ n)) (hl : l.length ≤ n) :
    ((readV e l (numO l)).2.2 ≠ 0 ∨ ((readV e l (numO l)).2.2 = 0 ∧ (readV e l (numO l)).2.1.length + (i + 1) ≤ n)) ∧ (readV e l (numO l)).2.1.length ≤ n := by
  unfold readV
  rcases h with h | ⟨rfl, h⟩
  · rw [if_pos h]; exact ⟨Or.inl h, hl⟩
  · rw [if_neg (by simp)]
    unfold numO
    by_cases hE : Pu.rvE l = 0
    · rw [if_pos hE]
      have h1 := rvN_pos hE
      have h2 := rvN_le l
      exact ⟨Or.inr ⟨rfl, by show (l.drop _).length + _ ≤ _; rw [List.length_drop]; omega⟩, by show (l.drop _).length ≤ _; rw [List.length_drop]; omega⟩
    · rw [if_neg hE]
      exact ⟨Or.inl (by show ((Pu.rvE l : Nat) : Int) ≠ 0; omega), hl⟩
theorem read_err {l : List UInt8} {e : Int} (h : e ≠ 0) : readV e l (numO l) = (0, l, e) := by unfold readV; rw [if_pos h]
set_option maxRecDepth 100000 in
set_option maxHeartbeats 8000000 in
theorem walk {W0 : World} (va : Value) (la : List UInt8) (hra : RdV W0 W0.heap.size va (bv la)) (most : Int) (wm : (Lit.int .i64 most).wf = true) (w : World) (hw : W0 = w) (hN : Nibs w) :
    Calls Tryd.prog 8 #[va, .int .i64 most] w fun e w' => e = .returned (.bool true) ∧ Below w.heap.size w w' := by
  subst hw
  have hraa := hra
  obtain ⟨A, ca, rfl, hla, hma, hA⟩ := hra
  simp only [bv_length] at hla hA hraa ⊢
  unfold maxLen at hma
  have hk := kcodec_any W0 hN
  have HK := Lib.hid hk
  have HA := Lib.hid hraa
  clear hA hk hraa hN
  by_cases l1 : la.length ≤ 8192
  case neg =>
    go_enter Tryd.func8, Tryd.ntmps8
    go_wp2_with fail
    refine HK.out.mono ?_
    rintro e w1 ⟨rfl, hb1⟩
    go_wp2
    go_ret
    exact ⟨rfl, hb1⟩
  go_enter Tryd.func8, Tryd.ntmps8
  go_wp2_with fail
  refine HK.out.mono ?_
  rintro e w1 ⟨rfl, hb1⟩
  have hz1 := hb1.size
  have q1 := newreader_any (.slice A la.length ca) la (by omega) w1 W0.heap.size hz1 (HA.out.below hb1)
  have Q1 := Lib.hid q1
  clear q1
  go_wp2_with fail
  refine Q1.out.mono ?_
  rintro e w2 ⟨k, rfl, hk1, hx2, hb2⟩
  have hB2 := nextB hb2 hb1
  have hks : W0.heap.size ≤ k := by omega
  have HX2 := Lib.hid hx2
  clear hx2
  go_wp2_with fail
  go_loopw [6] (fun i wr => ∃ (j : Nat) (l : List UInt8) (e : Int), j ≤ la.length + 1 ∧ i = .int .i64 j ∧ CBox wr k l e ∧ Hid (e ≠ 0 ∨ (e = 0 ∧ l.length + j ≤ la.length)) ∧ l.length ≤ la.length ∧ Below W0.heap.size W0 wr) (fun i _ => la.length + 1 - (intOf i).toNat)
  case atStart => exact ⟨0, la, 0, by omega, rfl, HX2.out, Lib.hid (Or.inr ⟨rfl, by omega⟩), by omega, hB2⟩
  case round =>
    obtain ⟨j, l, e0, hj, rfl, hx, HE, hll, hbel⟩ := hrel
    have hs := hbel.size
    have hri := rint_any _ k l e0 hx (by omega)
    have HRI := Lib.hid hri
    have HX := Lib.hid hx
    clear hri hx
    by_cases hlt : j ≤ la.length
    · obtain ⟨g1, g2⟩ := read_on HE.out hll
      have G1 := Lib.hid g1
      clear g1
      go_wp2_with fail
      refine HRI.out.mono ?_
      rintro e w5 ⟨rfl, hx5, hf5⟩
      have HX5 := Lib.hid hx5
      have hB5 := hbel.trans (hf5.below (B := W0.heap.size) (by omega) hs)
      clear hx5 hf5
      go_wp2
      go_roundw
      case rel => exact ⟨j + 1, _, _, by omega, by go_num, HX5.out, G1, g2, hB5⟩
      case measure => simp [intOf]; omega
    · have he : e0 ≠ 0 := by
        rcases HE.out with h | ⟨_, h⟩
        · exact h
        · omega
      have hb0 : (e0 != 0) = true := by rw [bne_iff_ne]; exact he
      have p1 := fun w1 (h : CBox w1 k l e0) => end_any w1 k l e0 h
      rw [if_neg (fun h => he h.1)] at p1
      have p2 := fun w1 (h : CBox w1 k l e0) => rint_any w1 k l e0 h (by omega)
      rw [read_err he] at p2
      have p3 := fun w1 (h : CBox w1 k l e0) => between_err w1 k l e0 1 5 h he
      have p4 := fun w1 (h : CBox w1 k l e0) => bytes_err w1 k l e0 most h he
      have p5 := fun w1 (h : CBox w1 k l e0) => list_err w1 k l e0 most h he
      have P1 := Lib.hid p1
      have P2 := Lib.hid p2
      have P3 := Lib.hid p3
      have P4 := Lib.hid p4
      have P5 := Lib.hid p5
      clear p1 p2 p3 p4 p5 he HRI
      go_wp2_with fail
      refine (P1.out _ HX.out).mono ?_
      rintro e w5 ⟨rfl, rfl⟩
      go_wp2_with fail
      refine (P2.out _ HX.out).mono ?_
      rintro e w6 ⟨rfl, hx6, hf6⟩
      have HX6 := Lib.hid hx6
      have hB6 := hbel.trans (hf6.below (B := W0.heap.size) (by omega) hs)
      have hs6 := hB6.size
      clear hx6 hf6
      go_wp2_with fail
      refine (P3.out _ HX6.out).mono ?_
      rintro e w7 ⟨rfl, hx7, hf7⟩
      have HX7 := Lib.hid hx7
      have hB7 := hB6.trans (hf7.below (B := W0.heap.size) (by omega) hs6)
      have hs7 := hB7.size
      clear hx7 hf7
      go_wp2_with fail
      refine (P4.out _ HX7.out).mono ?_
      rintro e w8 ⟨rfl, hx8, hf8⟩
      have HX8 := Lib.hid hx8
      have hB8 := hB7.trans (hf8.below (B := W0.heap.size) (by omega) hs7)
      have hs8 := hB8.size
      clear hx8 hf8
      go_wp2_with fail
      refine (P5.out _ HX8.out).mono ?_
      rintro e w9 ⟨rfl, hx9, hf9⟩
      have HX9 := Lib.hid hx9
      have hB9 := hB8.trans (hf9.below (B := W0.heap.size) (by omega) hs8)
      clear hx9 hf9
      go_wp2_with fail
      refine (P1.out _ HX9.out).mono ?_
      rintro e w10 ⟨rfl, rfl⟩
      go_wp2
      go_ret
      exact ⟨rfl, hB9⟩

theorem door_met (os : Os) (args : Array Value) : laidMetH Tryd.prog Rows.codecStaysRow.laid ((World.doorLaid Tryd.prog 400 os).forCall (fun _ _ => 0) ⟨#[], args, []⟩).memory :=
  laidMetH_of_parts3 (fuel := 8) (laidMet_of_run' 8 (by kernel_rfl) (by kernel_rfl)) (by kernel_rfl) (by kernel_rfl)
set_option maxRecDepth 100000 in
theorem lifted (os : Os) (started : os.Started) (H : Type) (enc : TypeId × Value → H) :
    ReturnsInHanded {} Tryd.checked os 8 .any (fun w args => (Rows.codecStaysSpec.pre enc Tryd.prog Tryd.f8 [] false w args ∧ laidMetH Tryd.prog Rows.codecStaysRow.laid w) ∧ sizedMet enc Tryd.prog Tryd.f8 (OpenSpec.ofChange Rows.codecStaysSpec) false w args)
      (Rows.codecStaysSpec.post enc Tryd.prog Tryd.f8 false true false false) := by
  refine returnsInHanded_of_change_and (C := Tryd.checked) (X := fun w _ => laidMetH Tryd.prog Rows.codecStaysRow.laid w) (fun _ _ _ hh h => h.of_heap hh) own started (by kernel_rfl) Tryd.func8
    (ChangeSpec.witness_shaped (enc := enc) (C := Tryd.checked) (os := os) (X := fun w _ => laidMetH Tryd.prog Rows.codecStaysRow.laid w) false (World.doorLaid Tryd.prog 400 os) #[.slice none 0 0, .int .i64 0] 8 rfl (World.shaped_of_RefB (by kernel_rfl) (by kernel_rfl)) (by kernel_rfl) (by kernel_rfl) (by kernel_rfl) (door_met os _)) ?_
  intro W base args ds gs before hval0 hW _ _ hL _
  have hval : ∀ (j : Nat) t v, Tryd.f8.params[j]? = some t → args[j]? = some v → Value.okWide Tryd.prog W .any base t v := hval0
  have hW' := hW
  obtain ⟨p, q, hA0, hV, rfl, hfz, hnd⟩ := hW
  have hA : DataW.TrodAll enc Tryd.prog W 0 (fun _ => true) true Tryd.f8.params.toList args.toList ds p := hA0
  rw [Tryd.params8] at hA hval
  obtain ⟨v0, vs0, d0, ds0, p0, q0, hargs, rfl, rfl, h0, r0⟩ := trodAll_cons hA
  obtain ⟨v1, vs1, d1, ds1, p1, q1, rfl, rfl, rfl, h1, r1⟩ := trodAll_cons r0
  obtain ⟨rfl, rfl, rfl⟩ := trodAll_nil r1
  obtain rfl : args = #[v0, v1] := by cases args; simp_all
  obtain ⟨rfl, rfl⟩ := trodVars_none hV
  obtain ⟨l0, b0⟩ := open_bytes Tryd.underlying23 Tryd.underlying5 (by kernel_rfl) (hval 0 23 v0 rfl rfl) h0
  obtain ⟨a1, rfl, rfl, rfl, w1⟩ := open_int Tryd.underlying3 (hval 1 3 v1 rfl rfl) h1
  have hN := of_laid hL
  clear hA0 hval0
  refine (walk v0 l0 b0 a1 w1 W rfl hN).mono fun e W' ⟨he, hb⟩ => ?_
  subst he
  exact ⟨_, rfl, law_post hW' rfl laid (by kernel_rfl) rfl Tryd.underlying4 rfl hb⟩

theorem over : Rows.CodecStaysSaid :=
  OpenClaim.holds_of_wide 8 Tryd.f8 rfl rfl rfl rfl rfl rfl rfl ⟨rfl, rfl, rfl, rfl, rfl⟩ rfl rfl rfl rfl rfl (by kernel_rfl) Tryd.func8 (by kernel_rfl)
    (of_decide_eq_true (by kernel_rfl)) (by unfold Func.isWrapper; first | (rw [if_pos (by decide +kernel)]; kernel_rfl) | (rw [if_neg (by decide +kernel)]; exact ⟨rfl, rfl⟩))
    (fun os started H enc _ => lifted os started H enc)
theorem proved : Rows.CodecStaysCardSaid :=
  Claim7.holds_tied_plain_at .later [] [.data] true Rows.codecStaysCard.stood.harness Rows.codecStaysCard.stood.looks
    over (fun _ h => by cases h) (by kernel_rfl) (fun _ h => by cases h) codecStays_row_tie rfl ⟨rfl, rfl⟩ (by kernel_rfl) rfl
    (fun f fn hf hfn => by
      obtain rfl : f = 8 := Option.some.inj ((show Tryd.prog.funcNamed Rows.codecStaysRow.func = some 8 by kernel_rfl).symm.trans hf) |>.symm
      obtain rfl : fn = Tryd.f8 := (Option.some.inj (Tryd.func8.symm.trans hfn)).symm
      exact ⟨by kernel_rfl, fun j t ht => by
        rw [Tryd.params8] at ht
        have hm : t ∈ [23, 3] := by simpa using Array.mem_of_getElem? ht
        have hall : ([23, 3].all fun u => !Tryd.prog.wantsStandIn u) = true := by kernel_rfl
        exact (show Tryd.prog.wantsStandIn t = false by simpa using List.all_eq_true.1 hall t hm)⟩)
    (by kernel_rfl)
end Go.Proofs.YtgcgehdbgegfeaaDoor.lawCodecStays
