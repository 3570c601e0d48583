/- The law GeomShapes answers true for any shape, any numbers: whether it may be; where its segments lie, how many blobs they hold. Conditions: none. -/
import Derived.Test.YtlbodandidopfaaGop
import Derived.Test.YtlbodandidopfaaGor
namespace Go.Proofs.Ytlbodandidopfaa.lawGeomShapes
open Go.ChangeShapes Go.WideShapes Go.ChangeAt Go.RowKit
set_option linter.unusedSimpArgs false
set_option linter.unusedVariables false

theorem own : ownKnob Try.prog.godebug = none := by kernel_rfl
theorem laid : laidOutB Try.prog = true := by kernel_rfl

theorem seg_same (c : Cfg) (k : Int) : ∃ a n e : Int, (∀ w, Calls Try.prog 14 #[c.val, .int .i64 k] w fun f w' => f = .returned (.tuple #[.int .i64 a, .int .i64 n, .int .i64 e]) ∧ Below w.heap.size w w') ∧
    (∀ w, Calls Try.prog 15 #[c.val, .int .i64 k] w fun f w' => f = .returned (.tuple #[.int .i64 a, .int .i64 n, .int .i64 e]) ∧ Below w.heap.size w w') := by
  by_cases h : checkB c = true ∧ 0 ≤ k ∧ k < segN c
  · refine ⟨_, _, _, fun w => segment_yes c k h.1 h.2.1 h.2.2 w, fun w => ?_⟩
    have := rsegment_any c k w
    rwa [if_pos h] at this
  · refine ⟨_, _, _, fun w => segment_no c k h w, fun w => ?_⟩
    have := rsegment_any c k w
    rwa [if_neg h] at this
set_option maxRecDepth 100000 in
set_option maxHeartbeats 16000000 in
theorem walk (c : Cfg) (hf : c.Fits) (k : Int) (wk : (Lit.int .i64 k).wf = true) (s : Int) (ws : (Lit.int .i64 s).wf = true) (b : Int) (wb : (Lit.int .i64 b).wf = true) (w : World) :
    Calls Try.prog 3 #[c.val, .int .i64 k, .int .i64 s, .int .i64 b] w fun e w' => e = .returned (.bool true) ∧ Below w.heap.size w w' := by
  obtain ⟨hs0, hs1⟩ : -9223372036854775808 ≤ s ∧ s ≤ 9223372036854775807 := by simpa [Lit.wf, IntKind.min, IntKind.max, IntKind.signed, IntKind.bits] using ws
  obtain ⟨hbb0, hbb1⟩ : -9223372036854775808 ≤ b ∧ b ≤ 9223372036854775807 := by simpa [Lit.wf, IntKind.min, IntKind.max, IntKind.signed, IntKind.bits] using wb
  clear ws wb wk hf
  have hbx := Boxed.new w c
  have hb0 : Below w.heap.size w (w.alloc (.cells (C9 c) 23)) := (Below.refl _ _).alloc (Nat.le_refl _) _
  have HB := Lib.hid hbx
  have HB0 := Lib.hid hb0
  clear hbx hb0
  obtain ⟨a, n, e3, g1, g2⟩ := seg_same c k
  have hc := fun w1 => check_any c w1
  have hd := fun w1 => rcheck_any c w1
  have hk := fun w1 => k_any c w1
  have hrk := fun w1 => rk_any c w1
  have G1 := Lib.hid g1
  have G2 := Lib.hid g2
  have HK := Lib.hid hk
  have HRK := Lib.hid hrk
  clear g1 g2 hk hrk
  by_cases h : checkB c = true
  · rw [if_pos h] at hc hd
    obtain ⟨hnum, hge, hle⟩ := checkB_true h
    obtain ⟨h1, h2, h3, h4, h5, h6, h7, h8, h9⟩ := numB_true hnum
    have HC := Lib.hid hc
    have HD := Lib.hid hd
    have H := Lib.hid h
    have HN := Lib.hid hnum
    clear hc hd h hnum hle hge
    have hval : c.val = c.val := rfl
    generalize kN c = kn at *
    by_cases d1 : b ≤ 1099511627776
    · have hs := fun w1 => segments_any c w1
      have hrs := fun w1 => rSegs_any c HN.out w1
      have ho := fun w1 => of_any c s HN.out hs0 hs1 w1
      have hro := fun w1 => rof_any6 c s H.out hs0 hs1 w1
      have hl := fun w1 => blob_any c b (by omega) (by omega) hbb0 hbb1 w1
      have hrl := fun w1 => rblob_any c b (by omega) (by omega) (by omega) hbb0 w1
      have hj := fun w1 => journal_any c w1
      have hrj := fun w1 => rjournal_any c w1
      have HS := Lib.hid hs
      have HRS := Lib.hid hrs
      have HO := Lib.hid ho
      have HRO := Lib.hid hro
      have HL := Lib.hid hl
      have HRL := Lib.hid hrl
      have HJ := Lib.hid hj
      have HRJ := Lib.hid hrj
      clear hs hrs ho hro hl hrl hj hrj H HN hval
      generalize segN c = sg at *
      generalize ofN c s = os at *
      generalize blobN c.sector b = bn at *
      unfold Cfg.val at HC HD HK HRK HS HRS HO HRO HL HRL HJ HRJ G1 G2 ⊢
      go_enter Try.func3, Try.ntmps3
      go_wp2_with fail
      refine (known_any _).mono ?_
      rintro e wP ⟨rfl, hbP⟩
      have HP := Lib.hid (Boxed.next hbP HB.out)
      have HBP := Lib.hid (nextB hbP HB0.out)
      obtain ⟨q0, q1, q2, q3, q4, q5, q6, q7, q8⟩ := HP.out.cells
      go_wp2_with fail
      refine (G1.out _).mono ?_
      rintro e w1 ⟨rfl, hb1⟩
      have HX1 := Lib.hid (Boxed.next hb1 HP.out)
      have HB1 := Lib.hid (nextB hb1 HBP.out)
      clear q0 q1 q2 q3 q4 q5 q6 q7 q8
      obtain ⟨q0, q1, q2, q3, q4, q5, q6, q7, q8⟩ := HX1.out.cells
      go_wp2_with fail
      refine (G2.out _).mono ?_
      rintro e w2 ⟨rfl, hb2⟩
      have HX2 := Lib.hid (Boxed.next hb2 HX1.out)
      have HB2 := Lib.hid (nextB hb2 HB1.out)
      clear q0 q1 q2 q3 q4 q5 q6 q7 q8
      obtain ⟨q0, q1, q2, q3, q4, q5, q6, q7, q8⟩ := HX2.out.cells
      clear q0 q1 q2 q3 q4 q5 q6 q7 q8
      go_wp2
      refine region_inv [none, some (DVal (.int .i64 0)), none, some (DVal (.int .i64 0)), none, none, none, none, none, none, none, none, none, none, none, none, none, none, none, none, none, none, some (DVal (.int .i64 kn)), none, some (DVal (.int .i64 kn)), none, none] (by kernel_rfl) (by kernel_rfl) ⟨DVal.stable _, DVal.stable _, DVal.stable _, DVal.stable _, trivial⟩ (by kernel_rfl) ?_
      (refine inv_val (by rfl) (by intro w hg hl; obtain ⟨k0, k1, k2, k3, k4, k5, k6, k7, k8⟩ := (Boxed.next hg HX2.out).cells; clear hl; go_simp; with_reducible rfl) (fun K hK => ?_); go_simp; refine hK _ ?_; clear hK K)
      refine inv_is (by rfl) (by rfl) (by
          intro w hg hl
          clear hl
          refine gets_sem ?_
          go_simp
          refine (HC.out _).mono ?_
          rintro e w5 ⟨rfl, hb5⟩
          exact ⟨_, rfl, rfl, hb5⟩) (fun K hK => ?_)
      go_simp; refine hK _ ?_; clear hK K
      (refine inv_val (by rfl) (by intro w hg hl; obtain ⟨k0, k1, k2, k3, k4, k5, k6, k7, k8⟩ := (Boxed.next hg HX2.out).cells; clear hl; go_simp; with_reducible rfl) (fun K hK => ?_); go_simp; refine hK _ ?_; clear hK K)
      refine inv_is (by rfl) (by rfl) (by
          intro w hg hl
          clear hl
          refine gets_sem ?_
          go_simp
          refine (HD.out _).mono ?_
          rintro e w5 ⟨rfl, hb5⟩
          exact ⟨_, rfl, rfl, hb5⟩) (fun K hK => ?_)
      go_simp; refine hK _ ?_; clear hK K
      iterate 17 (refine inv_val (by rfl) (by intro w hg hl; clear hl; go_simp; with_reducible rfl) (fun K hK => ?_); go_simp; refine hK _ ?_; clear hK K)
      (refine inv_val (by rfl) (by intro w hg hl; obtain ⟨k0, k1, k2, k3, k4, k5, k6, k7, k8⟩ := (Boxed.next hg HX2.out).cells; clear hl; go_simp; with_reducible rfl) (fun K hK => ?_); go_simp; refine hK _ ?_; clear hK K)
      refine inv_is (by rfl) (by rfl) (by
          intro w hg hl
          clear hl
          refine gets_sem ?_
          go_simp
          refine (HK.out _).mono ?_
          rintro e w5 ⟨rfl, hb5⟩
          exact ⟨_, rfl, rfl, hb5⟩) (fun K hK => ?_)
      go_simp; refine hK _ ?_; clear hK K
      (refine inv_val (by rfl) (by intro w hg hl; obtain ⟨k0, k1, k2, k3, k4, k5, k6, k7, k8⟩ := (Boxed.next hg HX2.out).cells; clear hl; go_simp; with_reducible rfl) (fun K hK => ?_); go_simp; refine hK _ ?_; clear hK K)
      refine inv_is (by rfl) (by rfl) (by
          intro w hg hl
          clear hl
          refine gets_sem ?_
          go_simp
          refine (HRK.out _).mono ?_
          rintro e w5 ⟨rfl, hb5⟩
          exact ⟨_, rfl, rfl, hb5⟩) (fun K hK => ?_)
      go_simp; refine hK _ ?_; clear hK K
      iterate 2 (refine inv_val (by rfl) (by intro w hg hl; clear hl; go_simp; with_reducible rfl) (fun K hK => ?_); go_simp; refine hK _ ?_; clear hK K)
      intro w3 hg hh
      clear hh
      have HX3 := Lib.hid (Boxed.next hg HX2.out)
      have HB3 := Lib.hid (nextB hg HB2.out)
      obtain ⟨q0, q1, q2, q3, q4, q5, q6, q7, q8⟩ := HX3.out.cells
      go_wp2_with fail
      refine (HD.out _).mono ?_
      rintro e w4 ⟨rfl, hb4⟩
      have HX4 := Lib.hid (Boxed.next hb4 HX3.out)
      have HB4 := Lib.hid (nextB hb4 HB3.out)
      clear q0 q1 q2 q3 q4 q5 q6 q7 q8
      obtain ⟨q0, q1, q2, q3, q4, q5, q6, q7, q8⟩ := HX4.out.cells
      go_wp2_with fail
      refine (HJ.out _).mono ?_
      rintro e w5 ⟨rfl, hb5⟩
      have HX5 := Lib.hid (Boxed.next hb5 HX4.out)
      have HB5 := Lib.hid (nextB hb5 HB4.out)
      clear q0 q1 q2 q3 q4 q5 q6 q7 q8
      obtain ⟨q0, q1, q2, q3, q4, q5, q6, q7, q8⟩ := HX5.out.cells
      go_wp2_with fail
      refine (HRJ.out _).mono ?_
      rintro e w6 ⟨rfl, hb6⟩
      have HX6 := Lib.hid (Boxed.next hb6 HX5.out)
      have HB6 := Lib.hid (nextB hb6 HB5.out)
      clear q0 q1 q2 q3 q4 q5 q6 q7 q8
      obtain ⟨q0, q1, q2, q3, q4, q5, q6, q7, q8⟩ := HX6.out.cells
      clear q0 q1 q2 q3 q4 q5 q6 q7 q8
      go_wp2
      refine region_inv [none, none, none, none, none, none, none, none, none, none, some (DVal (.int .i64 sg)), none, some (DVal (.int .i64 sg)), none, none, none, none, none, some (DVal (.int .i64 os)), none, none, some (DVal (.int .i64 os)), none, none, none, none, none, some (DVal (.int .i64 bn)), none, none, some (DVal (.int .i64 bn)), none, none, none] (by kernel_rfl) (by kernel_rfl) ⟨DVal.stable _, DVal.stable _, DVal.stable _, DVal.stable _, DVal.stable _, DVal.stable _, trivial⟩ (by kernel_rfl) ?_
      iterate 9 (refine inv_val (by rfl) (by intro w hg hl; clear hl; go_simp; with_reducible rfl) (fun K hK => ?_); go_simp; refine hK _ ?_; clear hK K)
      (refine inv_val (by rfl) (by intro w hg hl; obtain ⟨k0, k1, k2, k3, k4, k5, k6, k7, k8⟩ := (Boxed.next hg HX6.out).cells; clear hl; go_simp; with_reducible rfl) (fun K hK => ?_); go_simp; refine hK _ ?_; clear hK K)
      refine inv_is (by rfl) (by rfl) (by
          intro w hg hl
          clear hl
          refine gets_sem ?_
          go_simp
          refine (HS.out _).mono ?_
          rintro e w5 ⟨rfl, hb5⟩
          exact ⟨_, rfl, rfl, hb5⟩) (fun K hK => ?_)
      go_simp; refine hK _ ?_; clear hK K
      (refine inv_val (by rfl) (by intro w hg hl; obtain ⟨k0, k1, k2, k3, k4, k5, k6, k7, k8⟩ := (Boxed.next hg HX6.out).cells; clear hl; go_simp; with_reducible rfl) (fun K hK => ?_); go_simp; refine hK _ ?_; clear hK K)
      refine inv_is (by rfl) (by rfl) (by
          intro w hg hl
          clear hl
          refine gets_sem ?_
          go_simp
          refine (HRS.out _).mono ?_
          rintro e w5 ⟨rfl, hb5⟩
          exact ⟨_, rfl, rfl, hb5⟩) (fun K hK => ?_)
      go_simp; refine hK _ ?_; clear hK K
      iterate 3 (refine inv_val (by rfl) (by intro w hg hl; clear hl; go_simp; with_reducible rfl) (fun K hK => ?_); go_simp; refine hK _ ?_; clear hK K)
      (refine inv_val (by rfl) (by intro w hg hl; obtain ⟨k0, k1, k2, k3, k4, k5, k6, k7, k8⟩ := (Boxed.next hg HX6.out).cells; clear hl; go_simp; with_reducible rfl) (fun K hK => ?_); go_simp; refine hK _ ?_; clear hK K)
      (refine inv_val (by rfl) (by intro w hg hl; clear hl; go_simp; with_reducible rfl) (fun K hK => ?_); go_simp; refine hK _ ?_; clear hK K)
      refine inv_is (by rfl) (by rfl) (by
          intro w hg hl
          clear hl
          refine gets_sem ?_
          go_simp
          refine (HO.out _).mono ?_
          rintro e w5 ⟨rfl, hb5⟩
          exact ⟨_, rfl, rfl, hb5⟩) (fun K hK => ?_)
      go_simp; refine hK _ ?_; clear hK K
      (refine inv_val (by rfl) (by intro w hg hl; obtain ⟨k0, k1, k2, k3, k4, k5, k6, k7, k8⟩ := (Boxed.next hg HX6.out).cells; clear hl; go_simp; with_reducible rfl) (fun K hK => ?_); go_simp; refine hK _ ?_; clear hK K)
      (refine inv_val (by rfl) (by intro w hg hl; clear hl; go_simp; with_reducible rfl) (fun K hK => ?_); go_simp; refine hK _ ?_; clear hK K)
      refine inv_is (by rfl) (by rfl) (by
          intro w hg hl
          clear hl
          refine gets_sem ?_
          go_simp
          refine (HRO.out _).mono ?_
          rintro e w5 ⟨rfl, hb5⟩
          exact ⟨_, rfl, rfl, hb5⟩) (fun K hK => ?_)
      go_simp; refine hK _ ?_; clear hK K
      iterate 3 (refine inv_val (by rfl) (by intro w hg hl; clear hl; go_simp; with_reducible rfl) (fun K hK => ?_); go_simp; refine hK _ ?_; clear hK K)
      (refine inv_val (by rfl) (by intro w hg hl; obtain ⟨k0, k1, k2, k3, k4, k5, k6, k7, k8⟩ := (Boxed.next hg HX6.out).cells; clear hl; go_simp; with_reducible rfl) (fun K hK => ?_); go_simp; refine hK _ ?_; clear hK K)
      (refine inv_val (by rfl) (by intro w hg hl; clear hl; go_simp; with_reducible rfl) (fun K hK => ?_); go_simp; refine hK _ ?_; clear hK K)
      refine inv_is (by rfl) (by rfl) (by
          intro w hg hl
          clear hl
          refine gets_sem ?_
          go_simp
          refine (HL.out _).mono ?_
          rintro e w5 ⟨rfl, hb5⟩
          exact ⟨_, rfl, rfl, hb5⟩) (fun K hK => ?_)
      go_simp; refine hK _ ?_; clear hK K
      (refine inv_val (by rfl) (by intro w hg hl; obtain ⟨k0, k1, k2, k3, k4, k5, k6, k7, k8⟩ := (Boxed.next hg HX6.out).cells; clear hl; go_simp; with_reducible rfl) (fun K hK => ?_); go_simp; refine hK _ ?_; clear hK K)
      (refine inv_val (by rfl) (by intro w hg hl; clear hl; go_simp; with_reducible rfl) (fun K hK => ?_); go_simp; refine hK _ ?_; clear hK K)
      refine inv_is (by rfl) (by rfl) (by
          intro w hg hl
          clear hl
          refine gets_sem ?_
          go_simp
          refine (HRL.out _).mono ?_
          rintro e w5 ⟨rfl, hb5⟩
          exact ⟨_, rfl, rfl, hb5⟩) (fun K hK => ?_)
      go_simp; refine hK _ ?_; clear hK K
      iterate 3 (refine inv_val (by rfl) (by intro w hg hl; clear hl; go_simp; with_reducible rfl) (fun K hK => ?_); go_simp; refine hK _ ?_; clear hK K)
      intro w7 hg hh
      clear hh
      have HB7 := nextB hg HB6.out
      go_wp2
      go_ret
      exact ⟨rfl, HB7⟩
    · unfold Cfg.val at HC HD HK HRK G1 G2 ⊢
      clear hval
      go_enter Try.func3, Try.ntmps3
      go_wp2_with fail
      refine (known_any _).mono ?_
      rintro e wP ⟨rfl, hbP⟩
      have HP := Lib.hid (Boxed.next hbP HB.out)
      have HBP := Lib.hid (nextB hbP HB0.out)
      obtain ⟨q0, q1, q2, q3, q4, q5, q6, q7, q8⟩ := HP.out.cells
      go_wp2_with fail
      refine (G1.out _).mono ?_
      rintro e w1 ⟨rfl, hb1⟩
      have HX1 := Lib.hid (Boxed.next hb1 HP.out)
      have HB1 := Lib.hid (nextB hb1 HBP.out)
      clear q0 q1 q2 q3 q4 q5 q6 q7 q8
      obtain ⟨q0, q1, q2, q3, q4, q5, q6, q7, q8⟩ := HX1.out.cells
      go_wp2_with fail
      refine (G2.out _).mono ?_
      rintro e w2 ⟨rfl, hb2⟩
      have HX2 := Lib.hid (Boxed.next hb2 HX1.out)
      have HB2 := Lib.hid (nextB hb2 HB1.out)
      clear q0 q1 q2 q3 q4 q5 q6 q7 q8
      obtain ⟨q0, q1, q2, q3, q4, q5, q6, q7, q8⟩ := HX2.out.cells
      clear q0 q1 q2 q3 q4 q5 q6 q7 q8
      go_wp2
      refine region_inv [none, some (DVal (.int .i64 0)), none, some (DVal (.int .i64 0)), none, none, none, none, none, none, none, none, none, none, none, none, none, none, none, none, none, none, some (DVal (.int .i64 kn)), none, some (DVal (.int .i64 kn)), none, none] (by kernel_rfl) (by kernel_rfl) ⟨DVal.stable _, DVal.stable _, DVal.stable _, DVal.stable _, trivial⟩ (by kernel_rfl) ?_
      (refine inv_val (by rfl) (by intro w hg hl; obtain ⟨k0, k1, k2, k3, k4, k5, k6, k7, k8⟩ := (Boxed.next hg HX2.out).cells; clear hl; go_simp; with_reducible rfl) (fun K hK => ?_); go_simp; refine hK _ ?_; clear hK K)
      refine inv_is (by rfl) (by rfl) (by
          intro w hg hl
          clear hl
          refine gets_sem ?_
          go_simp
          refine (HC.out _).mono ?_
          rintro e w5 ⟨rfl, hb5⟩
          exact ⟨_, rfl, rfl, hb5⟩) (fun K hK => ?_)
      go_simp; refine hK _ ?_; clear hK K
      (refine inv_val (by rfl) (by intro w hg hl; obtain ⟨k0, k1, k2, k3, k4, k5, k6, k7, k8⟩ := (Boxed.next hg HX2.out).cells; clear hl; go_simp; with_reducible rfl) (fun K hK => ?_); go_simp; refine hK _ ?_; clear hK K)
      refine inv_is (by rfl) (by rfl) (by
          intro w hg hl
          clear hl
          refine gets_sem ?_
          go_simp
          refine (HD.out _).mono ?_
          rintro e w5 ⟨rfl, hb5⟩
          exact ⟨_, rfl, rfl, hb5⟩) (fun K hK => ?_)
      go_simp; refine hK _ ?_; clear hK K
      iterate 17 (refine inv_val (by rfl) (by intro w hg hl; clear hl; go_simp; with_reducible rfl) (fun K hK => ?_); go_simp; refine hK _ ?_; clear hK K)
      (refine inv_val (by rfl) (by intro w hg hl; obtain ⟨k0, k1, k2, k3, k4, k5, k6, k7, k8⟩ := (Boxed.next hg HX2.out).cells; clear hl; go_simp; with_reducible rfl) (fun K hK => ?_); go_simp; refine hK _ ?_; clear hK K)
      refine inv_is (by rfl) (by rfl) (by
          intro w hg hl
          clear hl
          refine gets_sem ?_
          go_simp
          refine (HK.out _).mono ?_
          rintro e w5 ⟨rfl, hb5⟩
          exact ⟨_, rfl, rfl, hb5⟩) (fun K hK => ?_)
      go_simp; refine hK _ ?_; clear hK K
      (refine inv_val (by rfl) (by intro w hg hl; obtain ⟨k0, k1, k2, k3, k4, k5, k6, k7, k8⟩ := (Boxed.next hg HX2.out).cells; clear hl; go_simp; with_reducible rfl) (fun K hK => ?_); go_simp; refine hK _ ?_; clear hK K)
      refine inv_is (by rfl) (by rfl) (by
          intro w hg hl
          clear hl
          refine gets_sem ?_
          go_simp
          refine (HRK.out _).mono ?_
          rintro e w5 ⟨rfl, hb5⟩
          exact ⟨_, rfl, rfl, hb5⟩) (fun K hK => ?_)
      go_simp; refine hK _ ?_; clear hK K
      iterate 2 (refine inv_val (by rfl) (by intro w hg hl; clear hl; go_simp; with_reducible rfl) (fun K hK => ?_); go_simp; refine hK _ ?_; clear hK K)
      intro w3 hg hh
      clear hh
      have HX3 := Lib.hid (Boxed.next hg HX2.out)
      have HB3 := Lib.hid (nextB hg HB2.out)
      obtain ⟨q0, q1, q2, q3, q4, q5, q6, q7, q8⟩ := HX3.out.cells
      go_wp2_with fail
      refine (HD.out _).mono ?_
      rintro e w4 ⟨rfl, hb4⟩
      have HX4 := Lib.hid (Boxed.next hb4 HX3.out)
      have HB4 := Lib.hid (nextB hb4 HB3.out)
      clear q0 q1 q2 q3 q4 q5 q6 q7 q8
      obtain ⟨q0, q1, q2, q3, q4, q5, q6, q7, q8⟩ := HX4.out.cells
      go_wp2
      go_ret
      exact ⟨rfl, HB4.out⟩
  · rw [if_neg h] at hc hd
    have hk0 : kN c = 0 := by unfold kN; rw [if_neg h]
    have HC := Lib.hid hc
    have HD := Lib.hid hd
    clear hc hd h hk0
    generalize kN c = kn at *
    unfold Cfg.val at HC HD HK HRK G1 G2 ⊢
    go_enter Try.func3, Try.ntmps3
    go_wp2_with fail
    refine (known_any _).mono ?_
    rintro e wP ⟨rfl, hbP⟩
    have HP := Lib.hid (Boxed.next hbP HB.out)
    have HBP := Lib.hid (nextB hbP HB0.out)
    obtain ⟨q0, q1, q2, q3, q4, q5, q6, q7, q8⟩ := HP.out.cells
    go_wp2_with fail
    refine (G1.out _).mono ?_
    rintro e w1 ⟨rfl, hb1⟩
    have HX1 := Lib.hid (Boxed.next hb1 HP.out)
    have HB1 := Lib.hid (nextB hb1 HBP.out)
    clear q0 q1 q2 q3 q4 q5 q6 q7 q8
    obtain ⟨q0, q1, q2, q3, q4, q5, q6, q7, q8⟩ := HX1.out.cells
    go_wp2_with fail
    refine (G2.out _).mono ?_
    rintro e w2 ⟨rfl, hb2⟩
    have HX2 := Lib.hid (Boxed.next hb2 HX1.out)
    have HB2 := Lib.hid (nextB hb2 HB1.out)
    clear q0 q1 q2 q3 q4 q5 q6 q7 q8
    obtain ⟨q0, q1, q2, q3, q4, q5, q6, q7, q8⟩ := HX2.out.cells
    clear q0 q1 q2 q3 q4 q5 q6 q7 q8
    go_wp2
    refine region_inv [none, some (DVal (.int .i64 1)), none, some (DVal (.int .i64 1)), none, none, none, none, none, none, none, none, none, none, none, none, none, none, none, none, none, none, some (DVal (.int .i64 kn)), none, some (DVal (.int .i64 kn)), none, none] (by kernel_rfl) (by kernel_rfl) ⟨DVal.stable _, DVal.stable _, DVal.stable _, DVal.stable _, trivial⟩ (by kernel_rfl) ?_
    (refine inv_val (by rfl) (by intro w hg hl; obtain ⟨k0, k1, k2, k3, k4, k5, k6, k7, k8⟩ := (Boxed.next hg HX2.out).cells; clear hl; go_simp; with_reducible rfl) (fun K hK => ?_); go_simp; refine hK _ ?_; clear hK K)
    refine inv_is (by rfl) (by rfl) (by
        intro w hg hl
        clear hl
        refine gets_sem ?_
        go_simp
        refine (HC.out _).mono ?_
        rintro e w5 ⟨rfl, hb5⟩
        exact ⟨_, rfl, rfl, hb5⟩) (fun K hK => ?_)
    go_simp; refine hK _ ?_; clear hK K
    (refine inv_val (by rfl) (by intro w hg hl; obtain ⟨k0, k1, k2, k3, k4, k5, k6, k7, k8⟩ := (Boxed.next hg HX2.out).cells; clear hl; go_simp; with_reducible rfl) (fun K hK => ?_); go_simp; refine hK _ ?_; clear hK K)
    refine inv_is (by rfl) (by rfl) (by
        intro w hg hl
        clear hl
        refine gets_sem ?_
        go_simp
        refine (HD.out _).mono ?_
        rintro e w5 ⟨rfl, hb5⟩
        exact ⟨_, rfl, rfl, hb5⟩) (fun K hK => ?_)
    go_simp; refine hK _ ?_; clear hK K
    iterate 17 (refine inv_val (by rfl) (by intro w hg hl; clear hl; go_simp; with_reducible rfl) (fun K hK => ?_); go_simp; refine hK _ ?_; clear hK K)
    (refine inv_val (by rfl) (by intro w hg hl; obtain ⟨k0, k1, k2, k3, k4, k5, k6, k7, k8⟩ := (Boxed.next hg HX2.out).cells; clear hl; go_simp; with_reducible rfl) (fun K hK => ?_); go_simp; refine hK _ ?_; clear hK K)
    refine inv_is (by rfl) (by rfl) (by
        intro w hg hl
        clear hl
        refine gets_sem ?_
        go_simp
        refine (HK.out _).mono ?_
        rintro e w5 ⟨rfl, hb5⟩
        exact ⟨_, rfl, rfl, hb5⟩) (fun K hK => ?_)
    go_simp; refine hK _ ?_; clear hK K
    (refine inv_val (by rfl) (by intro w hg hl; obtain ⟨k0, k1, k2, k3, k4, k5, k6, k7, k8⟩ := (Boxed.next hg HX2.out).cells; clear hl; go_simp; with_reducible rfl) (fun K hK => ?_); go_simp; refine hK _ ?_; clear hK K)
    refine inv_is (by rfl) (by rfl) (by
        intro w hg hl
        clear hl
        refine gets_sem ?_
        go_simp
        refine (HRK.out _).mono ?_
        rintro e w5 ⟨rfl, hb5⟩
        exact ⟨_, rfl, rfl, hb5⟩) (fun K hK => ?_)
    go_simp; refine hK _ ?_; clear hK K
    iterate 2 (refine inv_val (by rfl) (by intro w hg hl; clear hl; go_simp; with_reducible rfl) (fun K hK => ?_); go_simp; refine hK _ ?_; clear hK K)
    intro w3 hg hh
    clear hh
    have HX3 := Lib.hid (Boxed.next hg HX2.out)
    have HB3 := Lib.hid (nextB hg HB2.out)
    obtain ⟨q0, q1, q2, q3, q4, q5, q6, q7, q8⟩ := HX3.out.cells
    go_wp2_with fail
    refine (HD.out _).mono ?_
    rintro e w4 ⟨rfl, hb4⟩
    have HX4 := Lib.hid (Boxed.next hb4 HX3.out)
    have HB4 := Lib.hid (nextB hb4 HB3.out)
    clear q0 q1 q2 q3 q4 q5 q6 q7 q8
    obtain ⟨q0, q1, q2, q3, q4, q5, q6, q7, q8⟩ := HX4.out.cells
    go_wp2
    go_ret
    exact ⟨rfl, HB4.out⟩

set_option maxRecDepth 100000 in
theorem lifted (os : Os) (started : os.Started) (H : Type) (enc : TypeId × Value → H) :
    ReturnsInHanded {} Try.checked os 3 .any (Rows.geomShapesSpec.pre6 enc Try.prog Try.f3 Rows.geomShapesRow.domain false) (Rows.geomShapesSpec.post enc Try.prog Try.f3 false true false false) := by
  refine returnsInHanded_of_change (C := Try.checked) own started (by kernel_rfl) Try.func3
    (ChangeSpec.witness6 (enc := enc) (C := Try.checked) false ⟨#[], #[.agg #[.int .i64 0, .int .i64 0, .int .i64 0, .int .i64 0, .int .i64 0, .int .i64 0, .int .i64 0, .int .i64 0, .int .i64 0], .int .i64 0, .int .i64 0, .int .i64 0], []⟩ 8 (by kernel_rfl) (by kernel_rfl) (by kernel_rfl) (by kernel_rfl)) ?_
  intro W base args ds gs before hval0 hW hcnd _
  have hval : ∀ (j : Nat) t v, Try.f3.params[j]? = some t → args[j]? = some v → Value.okWide Try.prog W .any base t v := hval0
  have hW' := hW
  obtain ⟨p, q, hA0, hV, rfl, hfz, hnd⟩ := hW
  have hA : DataW.TrodAll enc Try.prog W 0 (fun _ => true) true Try.f3.params.toList args.toList ds p := hA0
  rw [Try.params3] at hA hval
  obtain ⟨v0, vs0, d0, ds0, p0, q0, hargs, rfl, rfl, h0, r0⟩ := trodAll_cons hA
  obtain ⟨v1, vs1, d1, ds1, p1, q1, rfl, rfl, rfl, h1, r1⟩ := trodAll_cons r0
  obtain ⟨v2, vs2, d2, ds2, p2, q2, rfl, rfl, rfl, h2, r2⟩ := trodAll_cons r1
  obtain ⟨v3, vs3, d3, ds3, p3, q3, rfl, rfl, rfl, h3, r3⟩ := trodAll_cons r2
  obtain ⟨rfl, rfl, rfl⟩ := trodAll_nil r3
  obtain rfl : args = #[v0, v1, v2, v3] := by cases args; simp_all
  obtain ⟨rfl, rfl⟩ := trodVars_none hV
  obtain ⟨c0, rfl, f0⟩ := open_cfg Try.underlying23 (by kernel_rfl) (by kernel_rfl) (by kernel_rfl) Try.underlying3 (by kernel_rfl) (hval 0 23 v0 rfl rfl) h0
  obtain ⟨a1, rfl, rfl, rfl, w1⟩ := open_int Try.underlying3 (hval 1 3 v1 rfl rfl) h1
  obtain ⟨a2, rfl, rfl, rfl, w2⟩ := open_int Try.underlying3 (hval 2 3 v2 rfl rfl) h2
  obtain ⟨a3, rfl, rfl, rfl, w3⟩ := open_int Try.underlying3 (hval 3 3 v3 rfl rfl) h3
  clear hA0 hval0
  refine (walk c0 f0 a1 w1 a2 w2 a3 w3 W).mono fun e W' ⟨he, hb⟩ => ?_
  subst he
  exact ⟨_, rfl, law_post hW' rfl laid (by kernel_rfl) rfl Try.underlying4 rfl hb⟩

theorem over : Rows.geomShapesRow.holds Try.pinned (OpenSpec.ofChange Rows.geomShapesSpec) :=
  OpenClaim.holds_of_wide 3 Try.f3 rfl rfl rfl rfl rfl rfl rfl ⟨rfl, rfl, rfl, rfl, rfl⟩ rfl rfl rfl rfl rfl (by kernel_rfl) Try.func3 (by kernel_rfl)
    (of_decide_eq_true (by kernel_rfl)) (by unfold Func.isWrapper; first | (rw [if_pos (by decide +kernel)]; kernel_rfl) | (rw [if_neg (by decide +kernel)]; exact ⟨rfl, rfl⟩))
    (fun os started H enc _ => lifted os started H enc)

theorem proved : Rows.GeomShapesSaid :=
  over
end Go.Proofs.Ytlbodandidopfaa.lawGeomShapes
