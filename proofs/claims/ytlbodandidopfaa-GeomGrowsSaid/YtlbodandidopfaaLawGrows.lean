/- The law GeomGrows answers true for any shape: with more sectors there are no fewer segments, nor a smaller K; where one segment ends the next begins. Conditions: none. -/
import Derived.Test.YtlbodandidopfaaGop
namespace Go.Proofs.Ytlbodandidopfaa.lawGeomGrows
open Go.ChangeShapes Go.WideShapes Go.ChangeAt Go.RowKit
set_option linter.unusedSimpArgs false
set_option linter.unusedVariables false

theorem own : ownKnob Try.prog.godebug = none := by kernel_rfl
theorem laid : laidOutB Try.prog = true := by kernel_rfl

def dc (c : Cfg) (m : Int) : Cfg := ⟨c.sectors + m, c.sector, c.journal, c.segment, c.page, c.frames, c.procs, c.regions, c.pages⟩
theorem dcells {w : World} {k : Nat} {c : Cfg} {m : Int} (h : Boxed w k (dc c m)) : (w.cell? ⟨k, 0, none⟩ = some (.int .i64 (c.sectors + m)) ∧ w.cell? ⟨k, 1, none⟩ = some (.int .i64 c.sector) ∧ w.cell? ⟨k, 2, none⟩ = some (.int .i64 c.journal) ∧ w.cell? ⟨k, 3, none⟩ = some (.int .i64 c.segment) ∧ w.cell? ⟨k, 4, none⟩ = some (.int .i64 c.page) ∧ w.cell? ⟨k, 5, none⟩ = some (.int .i64 c.frames) ∧ w.cell? ⟨k, 6, none⟩ = some (.int .i64 c.procs) ∧ w.cell? ⟨k, 7, none⟩ = some (.int .i64 c.regions) ∧ w.cell? ⟨k, 8, none⟩ = some (.int .i64 c.pages)) := h.cells
theorem segN_eq {c : Cfg} (h : numB c = true) (h16 : 16 ≤ segN c) : 0 ≤ c.sectors - 2 - c.journal ∧ segN c = (c.sectors - 2 - c.journal) / c.segment := by
  obtain ⟨h1, h2, h3, h4, h5, h6, h7, h8, h9⟩ := numB_true h
  have hs : segN c = (if c.sectors - 2 - c.journal < 0 then 0 else c.sectors - 2 - c.journal) / c.segment := by unfold segN; rw [if_pos h]
  by_cases hn : c.sectors - 2 - c.journal < 0
  · rw [if_pos hn] at hs
    have : (0 : Int) / c.segment = 0 := by simp
    omega
  · rw [if_neg hn] at hs
    exact ⟨by omega, hs⟩
theorem num_dc {c : Cfg} {m : Int} (h : numB c = true) (m0 : 0 ≤ m) (m1 : m ≤ 65536 - c.sectors) : numB (dc c m) = true := by
  obtain ⟨h1, h2, h3, h4, h5, h6, h7, h8, h9⟩ := numB_true h
  unfold numB dc
  simp only [Bool.and_eq_true, decide_eq_true_eq]
  refine ⟨⟨⟨⟨⟨⟨⟨⟨?_, h2⟩, h3⟩, h4⟩, h5⟩, h6⟩, h7⟩, h8⟩, h9⟩
  omega
theorem grows {c : Cfg} {m : Int} (h : checkB c = true) (m0 : 0 ≤ m) (m1 : m ≤ 65536 - c.sectors) :
    checkB (dc c m) = true ∧ segN c ≤ segN (dc c m) ∧ kN c ≤ kN (dc c m) ∧ segN (dc c m) = segN c + (m + (c.sectors - 2 - c.journal) % c.segment) / c.segment := by
  obtain ⟨hn, h16, hle⟩ := checkB_true h
  obtain ⟨hx0, hsc⟩ := segN_eq hn h16
  obtain ⟨h1, h2, h3, h4, h5, h6, h7, h8, h9⟩ := numB_true hn
  have hnd := num_dc hn m0 m1
  have hsd : segN (dc c m) = (c.sectors + m - 2 - c.journal) / c.segment := by
    unfold segN
    rw [if_pos hnd]
    show (if c.sectors + m - 2 - c.journal < 0 then 0 else c.sectors + m - 2 - c.journal) / c.segment = _
    rw [if_neg (by omega)]
  have hE : segN (dc c m) = segN c + (m + (c.sectors - 2 - c.journal) % c.segment) / c.segment := by
    rw [hsd, hsc]
    have hd := Int.mul_ediv_add_emod (c.sectors - 2 - c.journal) c.segment
    have e : c.sectors + m - 2 - c.journal = (m + (c.sectors - 2 - c.journal) % c.segment) + (c.sectors - 2 - c.journal) / c.segment * c.segment := by rw [Int.mul_comm] at hd; omega
    rw [e, Int.add_mul_ediv_right _ _ (by omega)]
    omega
  have hmod := Int.emod_nonneg (c.sectors - 2 - c.journal) (b := c.segment) (by omega)
  have hq := Int.ediv_nonneg (show 0 ≤ m + (c.sectors - 2 - c.journal) % c.segment by omega) (show 0 ≤ c.segment by omega)
  have hge : segN c ≤ segN (dc c m) := by omega
  have hck : checkB (dc c m) = true := by
    unfold checkB
    rw [hnd, decide_eq_true (show 16 ≤ segN (dc c m) by omega)]
    simp only [Bool.true_and]
    exact decide_eq_true hle
  refine ⟨hck, hge, ?_, hE⟩
  unfold kN
  rw [if_pos h, if_pos hck]
  show (segN c - 8) * (c.segment / blobN c.sector (c.page + 64)) / 24 ≤ (segN (dc c m) - 8) * (c.segment / blobN c.sector (c.page + 64)) / 24
  have hbp := blobN_pos (s := c.sector) (b := c.page + 64) (by omega)
  have he0 : 0 ≤ c.segment / blobN c.sector (c.page + 64) := Int.ediv_nonneg (by omega) (by omega)
  exact Int.ediv_le_ediv (by omega) (Int.mul_le_mul_of_nonneg_right (by omega) he0)
set_option maxRecDepth 100000 in
set_option maxHeartbeats 8000000 in
theorem walk (c : Cfg) (hf : c.Fits) (more : Int) (w1' : (Lit.int .i64 more).wf = true) (w : World) :
    Calls Try.prog 6 #[c.val, .int .i64 more] w fun e w' => e = .returned (.bool true) ∧ Below w.heap.size w w' := by
  obtain ⟨hm0, hm1⟩ : -9223372036854775808 ≤ more ∧ more ≤ 9223372036854775807 := by simpa [Lit.wf, IntKind.min, IntKind.max, IntKind.signed, IntKind.bits] using w1'
  have hck := fun w1 => check_any c w1
  have hbx := Boxed.new w c
  have hb0 : Below w.heap.size w (w.alloc (.cells (C9 c) 23)) := (Below.refl _ _).alloc (Nat.le_refl _) _
  have HB := Lib.hid hbx
  clear hbx
  unfold C9 at hb0
  by_cases h : checkB c = true
  · rw [if_pos h] at hck
    obtain ⟨hnum, hge, hle⟩ := checkB_true h
    obtain ⟨h1, h2, h3, h4, h5, h6, h7, h8, h9⟩ := numB_true hnum
    by_cases d1 : more < 0
    · have HCK := Lib.hid hck
      clear hck h hnum
      unfold Cfg.val at HCK ⊢
      go_enter Try.func6, Try.ntmps6
      go_wp2_with fail
      refine (known_any _).mono ?_
      rintro e wk ⟨rfl, hbk⟩
      have hxk : Boxed wk w.heap.size c := Boxed.next hbk HB.out
      have hBk : Below w.heap.size w wk := nextB hbk (by first | exact hb0 | exact hb0.drew | exact belowN hb0 _)
      have hck := hxk.cells
      obtain ⟨q0, q1, q2, q3, q4, q5, q6, q7, q8⟩ := hck
      go_wp2_with fail
      refine (HCK.out _).mono ?_
      rintro e w1 ⟨rfl, hb1⟩
      have hx1 : Boxed w1 w.heap.size c := Boxed.next hb1 hxk
      have hB1 : Below w.heap.size w w1 := nextB hb1 hBk
      have hc1 := hx1.cells
      obtain ⟨k0, k1, k2, k3, k4, k5, k6, k7, k8⟩ := hc1
      go_wp2
      go_ret
      exact ⟨rfl, hB1⟩
    by_cases d2 : 65536 - c.sectors < more
    · have HCK := Lib.hid hck
      clear hck h hnum
      unfold Cfg.val at HCK ⊢
      go_enter Try.func6, Try.ntmps6
      go_wp2_with fail
      refine (known_any _).mono ?_
      rintro e wk ⟨rfl, hbk⟩
      have hxk : Boxed wk w.heap.size c := Boxed.next hbk HB.out
      have hBk : Below w.heap.size w wk := nextB hbk (by first | exact hb0 | exact hb0.drew | exact belowN hb0 _)
      have hck := hxk.cells
      obtain ⟨q0, q1, q2, q3, q4, q5, q6, q7, q8⟩ := hck
      go_wp2_with fail
      refine (HCK.out _).mono ?_
      rintro e w1 ⟨rfl, hb1⟩
      have hx1 : Boxed w1 w.heap.size c := Boxed.next hb1 hxk
      have hB1 : Below w.heap.size w w1 := nextB hb1 hBk
      have hc1 := hx1.cells
      obtain ⟨k0, k1, k2, k3, k4, k5, k6, k7, k8⟩ := hc1
      go_wp2
      go_ret
      exact ⟨rfl, hB1⟩
    obtain ⟨g1, g2, g3, g4⟩ := grows h (show 0 ≤ more by omega) (show more ≤ 65536 - c.sectors by omega)
    obtain ⟨hx0, hsc⟩ := segN_eq hnum hge
    have hcd := fun w1 => check_any (dc c more) w1
    rw [if_pos g1] at hcd
    have hsgd := fun w1 => segments_any (dc c more) w1
    have hsgc := fun w1 => segments_any c w1
    have hkd := fun w1 => k_any (dc c more) w1
    have hkc := fun w1 => k_any c w1
    have hseg := fun k h0 h1 w1 => segment_yes c k h h0 h1 w1
    have hmod0 := Int.emod_nonneg (c.sectors - 2 - c.journal) (b := c.segment) (by omega)
    have hmod1 := Int.emod_lt_of_pos (c.sectors - 2 - c.journal) (b := c.segment) (by omega)
    have hq0 := Int.ediv_nonneg (show 0 ≤ more + (c.sectors - 2 - c.journal) % c.segment by omega) (show 0 ≤ c.segment by omega)
    have hq1 := Int.ediv_le_self c.segment (show 0 ≤ more + (c.sectors - 2 - c.journal) % c.segment by omega)
    have hsr := segN_rng c
    have hsr2 := segN_rng (dc c more)
    have hne : c.segment ≠ 0 := by omega
    have t0 : (c.segment == 0) = false := by rw [beq_eq_false_iff_ne]; omega
    generalize segN c = sc at *
    generalize segN (dc c more) = sd at *
    generalize kN c = kc at *
    generalize kN (dc c more) = kd at *
    have t1 : (sd != sc + (more + (c.sectors - 2 - c.journal) % c.segment) / c.segment) = false := by rw [bne_eq_false_iff_eq]; exact g4
    have E1 : IntKind.i64.wrap (c.sectors - 2) = c.sectors - 2 := IntWalk.i64_in _ (by omega)
    have E2 : IntKind.i64.wrap (c.sectors - 2 - c.journal) = c.sectors - 2 - c.journal := IntWalk.i64_in _ (by omega)
    have E3 : (c.sectors - 2 - c.journal).tmod c.segment = (c.sectors - 2 - c.journal) % c.segment := Int.tmod_eq_emod_of_nonneg hx0
    have E4 : IntKind.i64.wrap (more + (c.sectors - 2 - c.journal) % c.segment) = more + (c.sectors - 2 - c.journal) % c.segment := IntWalk.i64_in _ (by omega)
    have E5 : (more + (c.sectors - 2 - c.journal) % c.segment).tdiv c.segment = (more + (c.sectors - 2 - c.journal) % c.segment) / c.segment := Int.tdiv_eq_ediv_of_nonneg (by omega)
    have E6 : IntKind.i64.wrap ((more + (c.sectors - 2 - c.journal) % c.segment) / c.segment) = (more + (c.sectors - 2 - c.journal) % c.segment) / c.segment := IntWalk.i64_in _ (by omega)
    have E7 : IntKind.i64.wrap (sc + (more + (c.sectors - 2 - c.journal) % c.segment) / c.segment) = sc + (more + (c.sectors - 2 - c.journal) % c.segment) / c.segment := IntWalk.i64_in _ (by omega)
    have t4 : (sd != IntKind.i64.wrap (sc + IntKind.i64.wrap ((IntKind.i64.wrap (more + (IntKind.i64.wrap (IntKind.i64.wrap (c.sectors - 2) - c.journal)).tmod c.segment)).tdiv c.segment))) = false := by rw [E1, E2, E3, E4, E5, E6, E7]; exact t1
    clear E1 E2 E3 E4 E5 E6 E7
    have t2 : decide (sd < sc) = false := by simp; omega
    have t3 : decide (kd < kc) = false := by simp; omega
    have HCK := Lib.hid hck
    have HCD := Lib.hid hcd
    have HSD := Lib.hid hsgd
    have HSC := Lib.hid hsgc
    have HKD := Lib.hid hkd
    have HKC := Lib.hid hkc
    have HSEG := Lib.hid hseg
    clear hck hcd hsgd hsgc hkd hkc hseg h hnum g4 hsc g1
    unfold Cfg.val at HCK HCD HSD HSC HKD HKC HSEG ⊢
    unfold dc at HCD HSD HKD
    go_enter Try.func6, Try.ntmps6
    go_wp2_with fail
    refine (known_any _).mono ?_
    rintro e wk ⟨rfl, hbk⟩
    have hxk : Boxed wk w.heap.size c := Boxed.next hbk HB.out
    have hBk : Below w.heap.size w wk := nextB hbk (by first | exact hb0 | exact hb0.drew | exact belowN hb0 _)
    have hck := hxk.cells
    obtain ⟨q0, q1, q2, q3, q4, q5, q6, q7, q8⟩ := hck
    go_wp2_with fail
    refine (HCK.out _).mono ?_
    rintro e w1 ⟨rfl, hb1⟩
    have hx1 : Boxed w1 w.heap.size c := Boxed.next hb1 hxk
    have hB1 : Below w.heap.size w w1 := nextB hb1 hBk
    have hc1 := hx1.cells
    obtain ⟨k0, k1, k2, k3, k4, k5, k6, k7, k8⟩ := hc1
    have hlt := hx1.lt
    have e0 : (w1.alloc (.cells #[.int .i64 c.sectors, .int .i64 c.sector, .int .i64 c.journal, .int .i64 c.segment, .int .i64 c.page, .int .i64 c.frames, .int .i64 c.procs, .int .i64 c.regions, .int .i64 c.pages] 23)).cell? ⟨w.heap.size, 0, none⟩ = some (.int .i64 c.sectors) := (World.cell?_alloc_lt w1 _ _ hlt).trans k0
    have hxc0 : Boxed (w1.alloc (.cells (C9 (dc c more)) 23)) w.heap.size c := (Below.heap_alloc w1 _ _ hx1.lt).trans hx1
    have hxd0 := Boxed.new w1 (dc c more)
    have hBd : Below w.heap.size w (w1.alloc (.cells (C9 (dc c more)) 23)) := hB1.alloc hB1.size _
    unfold C9 dc at hBd
    go_wp2_with fail
    first
      | go_region_held3 (fun w' => (w'.cell? ⟨w.heap.size, 0, none⟩ = some (.int .i64 c.sectors) ∧ w'.cell? ⟨w.heap.size, 1, none⟩ = some (.int .i64 c.sector) ∧ w'.cell? ⟨w.heap.size, 2, none⟩ = some (.int .i64 c.journal) ∧ w'.cell? ⟨w.heap.size, 3, none⟩ = some (.int .i64 c.segment) ∧ w'.cell? ⟨w.heap.size, 4, none⟩ = some (.int .i64 c.page) ∧ w'.cell? ⟨w.heap.size, 5, none⟩ = some (.int .i64 c.frames) ∧ w'.cell? ⟨w.heap.size, 6, none⟩ = some (.int .i64 c.procs) ∧ w'.cell? ⟨w.heap.size, 7, none⟩ = some (.int .i64 c.regions) ∧ w'.cell? ⟨w.heap.size, 8, none⟩ = some (.int .i64 c.pages)) ∧ (w'.cell? ⟨w1.heap.size, 0, none⟩ = some (.int .i64 (c.sectors + more)) ∧ w'.cell? ⟨w1.heap.size, 1, none⟩ = some (.int .i64 c.sector) ∧ w'.cell? ⟨w1.heap.size, 2, none⟩ = some (.int .i64 c.journal) ∧ w'.cell? ⟨w1.heap.size, 3, none⟩ = some (.int .i64 c.segment) ∧ w'.cell? ⟨w1.heap.size, 4, none⟩ = some (.int .i64 c.page) ∧ w'.cell? ⟨w1.heap.size, 5, none⟩ = some (.int .i64 c.frames) ∧ w'.cell? ⟨w1.heap.size, 6, none⟩ = some (.int .i64 c.procs) ∧ w'.cell? ⟨w1.heap.size, 7, none⟩ = some (.int .i64 c.regions) ∧ w'.cell? ⟨w1.heap.size, 8, none⟩ = some (.int .i64 c.pages))) (first | assumption | exact And.intro hxc0.cells (dcells hxd0) | go_keep)
          (first
            | (go_at_call_of 16 (Value.int IntKind.i64 (c.sectors + more)); refine (HCD.out _).mono ?_; rintro e wn ⟨rfl, hbn⟩; have hxc : Boxed wn w.heap.size c := (by first | exact Boxed.next hbn (by assumption) | exact Boxed.next hbn hxc0); have hxd : Boxed wn w1.heap.size (dc c more) := (by first | exact Boxed.next hbn (by assumption) | exact Boxed.next hbn hxd0); have hS := And.intro hxc.cells (dcells hxd); have hBn : Below w.heap.size w wn := (by first | exact nextB hbn (by assumption) | exact nextB hbn hBd.drew | exact nextB hbn hBd | exact nextB hbn (belowN hBd _)))
            | (go_at_call_of 22 (Value.int IntKind.i64 (c.sectors + more)); refine (HSD.out _).mono ?_; rintro e wn ⟨rfl, hbn⟩; have hxc : Boxed wn w.heap.size c := (by first | exact Boxed.next hbn (by assumption) | exact Boxed.next hbn hxc0); have hxd : Boxed wn w1.heap.size (dc c more) := (by first | exact Boxed.next hbn (by assumption) | exact Boxed.next hbn hxd0); have hS := And.intro hxc.cells (dcells hxd); have hBn : Below w.heap.size w wn := (by first | exact nextB hbn (by assumption) | exact nextB hbn hBd.drew | exact nextB hbn hBd | exact nextB hbn (belowN hBd _)))
            | (go_at_call_of 22 (Value.int IntKind.i64 c.sectors); refine (HSC.out _).mono ?_; rintro e wn ⟨rfl, hbn⟩; have hxc : Boxed wn w.heap.size c := (by first | exact Boxed.next hbn (by assumption) | exact Boxed.next hbn hxc0); have hxd : Boxed wn w1.heap.size (dc c more) := (by first | exact Boxed.next hbn (by assumption) | exact Boxed.next hbn hxd0); have hS := And.intro hxc.cells (dcells hxd); have hBn : Below w.heap.size w wn := (by first | exact nextB hbn (by assumption) | exact nextB hbn hBd.drew | exact nextB hbn hBd | exact nextB hbn (belowN hBd _)))
            | (go_at_call_of 18 (Value.int IntKind.i64 (c.sectors + more)); refine (HKD.out _).mono ?_; rintro e wn ⟨rfl, hbn⟩; have hxc : Boxed wn w.heap.size c := (by first | exact Boxed.next hbn (by assumption) | exact Boxed.next hbn hxc0); have hxd : Boxed wn w1.heap.size (dc c more) := (by first | exact Boxed.next hbn (by assumption) | exact Boxed.next hbn hxd0); have hS := And.intro hxc.cells (dcells hxd); have hBn : Below w.heap.size w wn := (by first | exact nextB hbn (by assumption) | exact nextB hbn hBd.drew | exact nextB hbn hBd | exact nextB hbn (belowN hBd _)))
            | (go_at_call_of 18 (Value.int IntKind.i64 c.sectors); refine (HKC.out _).mono ?_; rintro e wn ⟨rfl, hbn⟩; have hxc : Boxed wn w.heap.size c := (by first | exact Boxed.next hbn (by assumption) | exact Boxed.next hbn hxc0); have hxd : Boxed wn w1.heap.size (dc c more) := (by first | exact Boxed.next hbn (by assumption) | exact Boxed.next hbn hxd0); have hS := And.intro hxc.cells (dcells hxd); have hBn : Below w.heap.size w wn := (by first | exact nextB hbn (by assumption) | exact nextB hbn hBd.drew | exact nextB hbn hBd | exact nextB hbn (belowN hBd _))))
      | fail
    all_goals
      go_wp2_with fail
      clear t1 t2 t3 t4 hq0 hq1 hmod0 hmod1 g2 g3
      go_loopw [6, 7] (fun la i wr => ∃ (k : Nat) (L : Int), (k : Int) ≤ sc ∧ k ≤ 200 ∧ i = .int .i64 k ∧ la = .int .i64 L ∧ (0 < k → L = 2 + c.journal + (k : Int) * c.segment) ∧ Boxed wr w.heap.size c ∧ Below w.heap.size w wr) (fun _ i _ => 200 - (intOf i).toNat)
      case atStart => exact ⟨0, 0, by omega, by omega, rfl, rfl, fun h => absurd h (by omega), hxc, hBn⟩
      case round =>
        obtain ⟨k, L, hk, hk2, rfl, rfl, hL, hxr, hBr⟩ := hrel
        have hcr := hxr.cells
        obtain ⟨r0, r1, r2, r3, r4, r5, r6, r7, r8⟩ := hcr
        have HL := Lib.hid hL
        clear hL
        go_wp2_with fail
        refine (HSC.out _).mono ?_
        rintro e wa ⟨rfl, hba⟩
        have hxa : Boxed wa w.heap.size c := Boxed.next hba hxr
        have hBa : Below w.heap.size w wa := nextB hba hBr
        have hca := hxa.cells
        obtain ⟨u0, u1, u2, u3, u4, u5, u6, u7, u8⟩ := hca
        by_cases hks : (k : Int) < sc
        · by_cases h200 : k < 200
          · have hp0 : 0 ≤ (k : Int) * c.segment := Int.mul_nonneg (by omega) (by omega)
            have hp1 : (k : Int) * c.segment ≤ 200 * 4096 := Int.mul_le_mul (by omega) (by omega) (by omega) (by omega)
            go_wp2_with fail
            refine (HSEG.out (k : Int) (by omega) hks _).mono ?_
            rintro e wb ⟨rfl, hbb⟩
            have hxb : Boxed wb w.heap.size c := Boxed.next hbb hxa
            have hBb : Below w.heap.size w wb := nextB hbb hBa
            by_cases hk0 : 0 < k
            · have hLk := HL.out hk0
              have t5 : ((2 + c.journal + (k : Int) * c.segment) != L) = false := by rw [bne_eq_false_iff_eq]; exact hLk.symm
              clear hLk
              go_wp2
              go_roundw
              case rel => exact ⟨k + 1, _, by omega, by omega, by go_num, rfl, fun _ => by rw [Int.natCast_add, Int.add_mul]; omega, hxb, hBb⟩
              case measure => simp [intOf]; omega
            · go_wp2
              go_roundw
              case rel => exact ⟨k + 1, _, by omega, by omega, by go_num, rfl, fun _ => by rw [Int.natCast_add, Int.add_mul]; omega, hxb, hBb⟩
              case measure => simp [intOf]; omega
          · go_wp2
            go_ret
            exact ⟨rfl, hBa⟩
        · go_wp2
          go_ret
          exact ⟨rfl, hBa⟩
  · rw [if_neg h] at hck
    have HCK := Lib.hid hck
    clear hck h
    unfold Cfg.val at HCK ⊢
    go_enter Try.func6, Try.ntmps6
    go_wp2_with fail
    refine (known_any _).mono ?_
    rintro e wk ⟨rfl, hbk⟩
    have hxk : Boxed wk w.heap.size c := Boxed.next hbk HB.out
    have hBk : Below w.heap.size w wk := nextB hbk (by first | exact hb0 | exact hb0.drew | exact belowN hb0 _)
    have hck := hxk.cells
    obtain ⟨q0, q1, q2, q3, q4, q5, q6, q7, q8⟩ := hck
    go_wp2_with fail
    refine (HCK.out _).mono ?_
    rintro e w1 ⟨rfl, hb1⟩
    have hx1 : Boxed w1 w.heap.size c := Boxed.next hb1 hxk
    have hB1 : Below w.heap.size w w1 := nextB hb1 hBk
    have hc1 := hx1.cells
    obtain ⟨k0, k1, k2, k3, k4, k5, k6, k7, k8⟩ := hc1
    go_wp2
    go_ret
    exact ⟨rfl, hB1⟩

set_option maxRecDepth 100000 in
theorem lifted (os : Os) (started : os.Started) (H : Type) (enc : TypeId × Value → H) :
    ReturnsInHanded {} Try.checked os 6 .any (Rows.geomGrowsSpec.pre6 enc Try.prog Try.f6 Rows.geomGrowsRow.domain false) (Rows.geomGrowsSpec.post enc Try.prog Try.f6 false true false false) := by
  refine returnsInHanded_of_change (C := Try.checked) own started (by kernel_rfl) Try.func6
    (ChangeSpec.witness6 (enc := enc) (C := Try.checked) false ⟨#[], #[.agg #[.int .i64 0, .int .i64 0, .int .i64 0, .int .i64 0, .int .i64 0, .int .i64 0, .int .i64 0, .int .i64 0, .int .i64 0], .int .i64 0], []⟩ 8 (by kernel_rfl) (by kernel_rfl) (by kernel_rfl) (by kernel_rfl)) ?_
  intro W base args ds gs before hval0 hW hcnd _
  have hval : ∀ (j : Nat) t v, Try.f6.params[j]? = some t → args[j]? = some v → Value.okWide Try.prog W .any base t v := hval0
  have hW' := hW
  obtain ⟨p, q, hA0, hV, rfl, hfz, hnd⟩ := hW
  have hA : DataW.TrodAll enc Try.prog W 0 (fun _ => true) true Try.f6.params.toList args.toList ds p := hA0
  rw [Try.params6] at hA hval
  obtain ⟨v0, vs0, d0, ds0, p0, q0, hargs, rfl, rfl, h0, r0⟩ := trodAll_cons hA
  obtain ⟨v1, vs1, d1, ds1, p1, q1, rfl, rfl, rfl, h1, r1⟩ := trodAll_cons r0
  obtain ⟨rfl, rfl, rfl⟩ := trodAll_nil r1
  obtain rfl : args = #[v0, v1] := by cases args; simp_all
  obtain ⟨rfl, rfl⟩ := trodVars_none hV
  obtain ⟨c0, rfl, f0⟩ := open_cfg Try.underlying23 (by kernel_rfl) (by kernel_rfl) (by kernel_rfl) Try.underlying3 (by kernel_rfl) (hval 0 23 v0 rfl rfl) h0
  obtain ⟨a1, rfl, rfl, rfl, w1⟩ := open_int Try.underlying3 (hval 1 3 v1 rfl rfl) h1
  clear hA0 hval0
  refine (walk c0 f0 a1 w1 W).mono fun e W' ⟨he, hb⟩ => ?_
  subst he
  exact ⟨_, rfl, law_post hW' rfl laid (by kernel_rfl) rfl Try.underlying4 rfl hb⟩

theorem over : Rows.geomGrowsRow.holds Try.pinned (OpenSpec.ofChange Rows.geomGrowsSpec) :=
  OpenClaim.holds_of_wide 6 Try.f6 rfl rfl rfl rfl rfl rfl rfl ⟨rfl, rfl, rfl, rfl, rfl⟩ rfl rfl rfl rfl rfl (by kernel_rfl) Try.func6 (by kernel_rfl)
    (of_decide_eq_true (by kernel_rfl)) (by unfold Func.isWrapper; first | (rw [if_pos (by decide +kernel)]; kernel_rfl) | (rw [if_neg (by decide +kernel)]; exact ⟨rfl, rfl⟩))
    (fun os started H enc _ => lifted os started H enc)

theorem proved : Rows.GeomGrowsSaid :=
  over
end Go.Proofs.Ytlbodandidopfaa.lawGeomGrows
