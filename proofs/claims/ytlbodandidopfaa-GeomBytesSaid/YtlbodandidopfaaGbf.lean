/- A shape in bytes: the document's Encode. Conditions: none of its own. -/
import Derived.Test.YtlbodandidopfaaGbe
namespace Go.Proofs.Ytlbodandidopfaa
open Go.ChangeShapes Go.WideShapes Go.ChangeAt Go.RowKit
set_option linter.unusedSimpArgs false
set_option linter.unusedVariables false
set_option maxRecDepth 100000 in
set_option maxHeartbeats 4000000 in
theorem rnumbers_any (c : Cfg) (w : World) : Calls Try.prog 82 #[c.val] w fun e w' => ∃ g, w.heap.size ≤ g ∧ e = .returned (.slice (some ⟨g, 0, none⟩) 9 9) ∧ w'.heap[g]? = some (.cells (C9 c) 3 (0, 0)) ∧ Below w.heap.size w w' := by
  have hbx : Boxed (w.alloc (.cells #[.int .i64 c.sectors, .int .i64 c.sector, .int .i64 c.journal, .int .i64 c.segment, .int .i64 c.page, .int .i64 c.frames, .int .i64 c.procs, .int .i64 c.regions, .int .i64 c.pages] 23)) w.heap.size c := Boxed.new w c
  have hb0 : Below w.heap.size w (w.alloc (.cells #[.int .i64 c.sectors, .int .i64 c.sector, .int .i64 c.journal, .int .i64 c.segment, .int .i64 c.page, .int .i64 c.frames, .int .i64 c.procs, .int .i64 c.regions, .int .i64 c.pages] 23)) := (Below.refl _ w).alloc (Nat.le_refl _) _
  have hs0 : (w.alloc (.cells #[.int .i64 c.sectors, .int .i64 c.sector, .int .i64 c.journal, .int .i64 c.segment, .int .i64 c.page, .int .i64 c.frames, .int .i64 c.procs, .int .i64 c.regions, .int .i64 c.pages] 23)).heap.size = w.heap.size + 1 := by simp
  unfold Cfg.val
  go_enter Try.func82, Try.ntmps82
  go_upto_region 1 with (fail)
  generalize w.alloc (.cells #[.int .i64 c.sectors, .int .i64 c.sector, .int .i64 c.journal, .int .i64 c.segment, .int .i64 c.page, .int .i64 c.frames, .int .i64 c.procs, .int .i64 c.regions, .int .i64 c.pages] 23) = w1 at hbx hb0 hs0 ⊢
  have hs1 : w.heap.size < w1.heap.size := by omega
  clear hs0
  have HB := Lib.hid (hb0.alloc (by omega) (.cells #[.int .i64 c.sectors, .int .i64 c.sector, .int .i64 c.journal, .int .i64 c.segment, .int .i64 c.page, .int .i64 c.frames, .int .i64 c.procs, .int .i64 c.regions, .int .i64 c.pages] 3))
  have HX := Lib.hid (show (w1.alloc (.cells #[.int .i64 c.sectors, .int .i64 c.sector, .int .i64 c.journal, .int .i64 c.segment, .int .i64 c.page, .int .i64 c.frames, .int .i64 c.procs, .int .i64 c.regions, .int .i64 c.pages] 3)).heap[w1.heap.size]? = some (.cells (C9 c) 3 (0, 0)) from heap_alloc_new w1 (.cells #[.int .i64 c.sectors, .int .i64 c.sector, .int .i64 c.journal, .int .i64 c.segment, .int .i64 c.page, .int .i64 c.frames, .int .i64 c.procs, .int .i64 c.regions, .int .i64 c.pages] 3))
  obtain ⟨k0, k1, k2, k3, k4, k5, k6, k7, k8⟩ := hbx.cells
  clear hbx hb0
  go_wp2
  go_ret
  exact ⟨w1.heap.size, by omega, rfl, HX.out, HB.out⟩
set_option maxRecDepth 100000 in
set_option maxHeartbeats 4000000 in
theorem rencode_any (c : Cfg) (hc : c.Fits) (w : World) : Calls Try.prog 31 #[c.val] w (TellsB w (encL (cfgL c))) := by
  have hbx : Boxed (w.alloc (.cells #[.int .i64 c.sectors, .int .i64 c.sector, .int .i64 c.journal, .int .i64 c.segment, .int .i64 c.page, .int .i64 c.frames, .int .i64 c.procs, .int .i64 c.regions, .int .i64 c.pages] 23)) w.heap.size c := Boxed.new w c
  have hb0 : Below w.heap.size w (w.alloc (.cells #[.int .i64 c.sectors, .int .i64 c.sector, .int .i64 c.journal, .int .i64 c.segment, .int .i64 c.page, .int .i64 c.frames, .int .i64 c.procs, .int .i64 c.regions, .int .i64 c.pages] 23)) := (Below.refl _ w).alloc (Nat.le_refl _) _
  have hs0 : (w.alloc (.cells #[.int .i64 c.sectors, .int .i64 c.sector, .int .i64 c.journal, .int .i64 c.segment, .int .i64 c.page, .int .i64 c.frames, .int .i64 c.procs, .int .i64 c.regions, .int .i64 c.pages] 23)).heap.size = w.heap.size + 1 := by simp
  have HC := Lib.hid hc
  have HN := fun w1 => Lib.hid (rnumbers_any c w1)
  unfold Cfg.val at HN
  unfold Cfg.val
  go_enter Try.func31, Try.ntmps31
  go_upto_region 2 with (fail)
  generalize w.alloc (.cells #[.int .i64 c.sectors, .int .i64 c.sector, .int .i64 c.journal, .int .i64 c.segment, .int .i64 c.page, .int .i64 c.frames, .int .i64 c.procs, .int .i64 c.regions, .int .i64 c.pages] 23) = w1 at hbx hb0 hs0 ⊢
  have hs1 : w.heap.size < w1.heap.size := by omega
  clear hs0 hc
  obtain ⟨k0, k1, k2, k3, k4, k5, k6, k7, k8⟩ := hbx.cells
  have HB0 := Lib.hid hb0
  clear hbx hb0
  go_wp2_with fail
  refine (HN w1).out.mono ?_
  rintro e w2 ⟨g, hg, rfl, hx, hb2⟩
  have hgl : g < w2.heap.size := by
    rcases Nat.lt_or_ge g w2.heap.size with h1 | h1
    · exact h1
    · rw [Array.getElem?_eq_none h1] at hx; cases hx
  have HX := Lib.hid hx
  have HB2 := Lib.hid (HB0.out.trans (hb2.mono (by omega)))
  clear hx hb2 HN HB0 k0 k1 k2 k3 k4 k5 k6 k7 k8
  go_wp2_with fail
  go_loopw [3, 5] (fun b i wx => ∃ q : Nat, q ≤ 9 ∧ i = .int .i64 q ∧ wx.ownsRow w2.heap.size 5 1 b (encQ c q).length (bv (encQ c q)) ∧ Below w2.heap.size w2 wx) (fun _ i wx => 9 - (intOf i).toNat)
  case atStart => exact ⟨0, by omega, rfl, ⟨by simp [encQ, encL, bv], Or.inl ⟨rfl, rfl⟩⟩, Below.refl _ _⟩
  case round =>
    obtain ⟨q, hq, rfl, ho, hb⟩ := hrel
    by_cases hlt : q < 9
    · have d1 : wr.cell? ⟨g, q, none⟩ = some (.int .i64 ((cfgL c).getD q 0)) := (cell_of_row wr g q _ _ (0, 0) ((hb.block g hgl).trans HX.out)).trans (c9_at c q hlt)
      have hj := cfgL_at c HC.out q hlt
      have hsz := hb.size
      have HE := Lib.hid (eint_any wr w2.heap.size hb.size _ (encQ c q) ((cfgL c).getD q 0) hj.1 hj.2 (by have := encQ_length c q; omega) ho)
      have HS := Lib.hid (encQ_succ c q hlt)
      have HB := Lib.hid hb
      generalize (cfgL c).getD q 0 = z at *
      clear ho hb hj
      go_wp2_with fail
      refine HE.out.mono ?_
      rintro e w4 ⟨r, rfl, ho4, hb4, _⟩
      have HO4 := Lib.hid (show w4.ownsRow w2.heap.size 5 1 r (encQ c (q + 1)).length (bv (encQ c (q + 1))) from by rw [HS.out]; exact ho4)
      have HB4 := Lib.hid (HB.out.trans hb4)
      clear ho4 hb4 HE d1
      go_wp2
      go_roundw
      case rel => exact ⟨q + 1, by omega, by go_num, HO4.out, HB4.out⟩
      case measure => simp [intOf]; omega
    · obtain rfl : q = 9 := by omega
      have HO := Lib.hid (RdV.own ho)
      have HB := Lib.hid (HB2.out.trans (hb.mono HB2.out.size))
      clear ho hb
      go_wp2
      go_ret
      exact ⟨_, rfl, HO.out, HB.out⟩
end Go.Proofs.Ytlbodandidopfaa
