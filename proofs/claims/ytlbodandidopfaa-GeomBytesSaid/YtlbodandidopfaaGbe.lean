/- A shape in bytes: the program's and the document's Encode. Conditions: none of its own. -/
import Derived.Test.YtlbodandidopfaaGby
import Derived.Test.YtlbodandidopfaaOrd
import Derived.Test.YtlbodandidopfaaNum
import Derived.Deep.RegionLaw
import Derived.Deep.DeepCutAuto
import Derived.Deep.DrawnRows
namespace Go.Proofs.Ytlbodandidopfaa
open Go.ChangeShapes Go.WideShapes Go.ChangeAt Go.RowKit
set_option linter.unusedSimpArgs false
set_option linter.unusedVariables false
def ptrs (k : Nat) : Array Value := #[.pointer (some ⟨k, 0, none⟩), .pointer (some ⟨k, 1, none⟩), .pointer (some ⟨k, 2, none⟩), .pointer (some ⟨k, 3, none⟩), .pointer (some ⟨k, 4, none⟩), .pointer (some ⟨k, 5, none⟩), .pointer (some ⟨k, 6, none⟩), .pointer (some ⟨k, 7, none⟩), .pointer (some ⟨k, 8, none⟩)]
theorem ptrs_at (k i : Nat) (hi : i < 9) : (ptrs k)[i]? = some (.pointer (some ⟨k, i, none⟩)) := by
  match i, hi with
  | 0, _ => rfl
  | 1, _ => rfl
  | 2, _ => rfl
  | 3, _ => rfl
  | 4, _ => rfl
  | 5, _ => rfl
  | 6, _ => rfl
  | 7, _ => rfl
  | 8, _ => rfl
theorem c9_at (c : Cfg) (i : Nat) (hi : i < 9) : (C9 c)[i]? = some (.int .i64 ((cfgL c).getD i 0)) := by
  match i, hi with
  | 0, _ => rfl
  | 1, _ => rfl
  | 2, _ => rfl
  | 3, _ => rfl
  | 4, _ => rfl
  | 5, _ => rfl
  | 6, _ => rfl
  | 7, _ => rfl
  | 8, _ => rfl
theorem cfgL_at (c : Cfg) (hc : c.Fits) (i : Nat) (hi : i < 9) : J64 ((cfgL c).getD i 0) := by
  match i, hi with
  | 0, _ => exact hc.1
  | 1, _ => exact hc.2
  | 2, _ => exact hc.3
  | 3, _ => exact hc.4
  | 4, _ => exact hc.5
  | 5, _ => exact hc.6
  | 6, _ => exact hc.7
  | 7, _ => exact hc.8
  | 8, _ => exact hc.9
def encQ (c : Cfg) (q : Nat) : List UInt8 := encL ((cfgL c).take q)
theorem encQ_succ (c : Cfg) (q : Nat) (hq : q < 9) : encQ c (q + 1) = encQ c q ++ encI ((cfgL c).getD q 0) := by
  have hl : q < (cfgL c).length := hq
  unfold encQ encL
  rw [List.take_succ_eq_append_getElem hl, List.flatMap_append, List.getD_eq_getElem?_getD, List.getElem?_eq_getElem hl]
  simp
theorem encQ_length (c : Cfg) (q : Nat) : (encQ c q).length ≤ 10 * q := by
  unfold encQ
  refine Nat.le_trans (encL_length _) ?_
  rw [List.length_take]
  omega
theorem encQ_all (c : Cfg) : encQ c 9 = encL (cfgL c) := rfl
set_option maxRecDepth 100000 in
set_option maxHeartbeats 4000000 in
theorem glist_any (k : Nat) (w : World) : Calls Try.prog 74 #[.pointer (some ⟨k, 0, none⟩)] w fun e w' => e = .returned (.slice (some ⟨w.heap.size, 0, none⟩) 9 9) ∧ w'.heap[w.heap.size]? = some (.cells (ptrs k) 105 (0, 0)) ∧ Below w.heap.size w w' := by
  have hB : Below w.heap.size w (w.alloc (.cells (ptrs k) 105)).drew := ((Below.refl _ w).alloc (Nat.le_refl _) _).drew
  have hx : (w.alloc (.cells (ptrs k) 105)).drew.heap[w.heap.size]? = some (.cells (ptrs k) 105 (0, 0)) := heap_alloc_new w _
  have HB := Lib.hid hB
  have HX := Lib.hid hx
  clear hB hx
  unfold ptrs at HB HX
  go_enter Try.func74, Try.ntmps74
  go_wp2_with fail
  refine region_ord (fun wz => True) [false, false, false, false, false, false, false, false, false, false, false, false, false, false, false, false, false, false, false, false, false, false, false, false, false, false, false, true, false] (by kernel_rfl) (by kernel_rfl) (by kernel_rfl) trivial ?_
  iterate 27 (refine ord_val (by rfl) (by intro w hi; clear hi; go_simp; with_reducible rfl) (fun K hK => ?_); go_simp; refine hK _ ?_; clear hK K)
  refine ord_eff (by rfl) (fun K hK => ?_)
  refine gets_sem ?_
  go_simp
  refine hK _ _ ?_
  clear hK K
  (refine ord_val (by rfl) (by intro w hi; clear hi; go_simp; with_reducible rfl) (fun K hK => ?_); go_simp; refine hK _ ?_; clear hK K)
  refine ord_nil ?_
  go_wp2
  go_ret
  exact ⟨rfl, HX.out, HB.out⟩
theorem Wr.wide {B : Nat} {O O' : Nat → Prop} {w : World} {k : Nat} {l : List UInt8} (h : Wr B O w k l) (hO : ∀ j, O j → O' j) : Wr B O' w k l := by
  obtain ⟨v, h1, h2, h3, h4, h5⟩ := h
  exact ⟨v, h1, h2, h3, h4, fun g hg => hO g (h5 g hg)⟩
set_option maxRecDepth 100000 in
set_option maxHeartbeats 4000000 in
theorem gencode_any (c : Cfg) (hc : c.Fits) (w : World) : Calls Try.prog 28 #[c.val] w (TellsB w (encL (cfgL c))) := by
  have hbx : Boxed (w.alloc (.cells #[.int .i64 c.sectors, .int .i64 c.sector, .int .i64 c.journal, .int .i64 c.segment, .int .i64 c.page, .int .i64 c.frames, .int .i64 c.procs, .int .i64 c.regions, .int .i64 c.pages] 23)) w.heap.size c := Boxed.new w c
  have hb0 : Below w.heap.size w (w.alloc (.cells #[.int .i64 c.sectors, .int .i64 c.sector, .int .i64 c.journal, .int .i64 c.segment, .int .i64 c.page, .int .i64 c.frames, .int .i64 c.procs, .int .i64 c.regions, .int .i64 c.pages] 23)) := (Below.refl _ w).alloc (Nat.le_refl _) _
  have hs0 : (w.alloc (.cells #[.int .i64 c.sectors, .int .i64 c.sector, .int .i64 c.journal, .int .i64 c.segment, .int .i64 c.page, .int .i64 c.frames, .int .i64 c.procs, .int .i64 c.regions, .int .i64 c.pages] 23)).heap.size = w.heap.size + 1 := by simp
  have HC := Lib.hid hc
  unfold Cfg.val
  go_enter Try.func28, Try.ntmps28
  go_upto_region 1 with (fail)
  generalize w.alloc (.cells #[.int .i64 c.sectors, .int .i64 c.sector, .int .i64 c.journal, .int .i64 c.segment, .int .i64 c.page, .int .i64 c.frames, .int .i64 c.procs, .int .i64 c.regions, .int .i64 c.pages] 23) = w1 at hbx hb0 hs0 ⊢
  have hs1 : w.heap.size < w1.heap.size := by omega
  clear hs0
  have HBX := Lib.hid hbx
  have HB0 := Lib.hid hb0
  have HW := Lib.hid (wnew_any w1)
  clear hbx hb0 hc
  go_wp2_with fail
  refine HW.out.mono ?_
  rintro e w2 ⟨rfl, hwr, hb2, hk2⟩
  have HWR := Lib.hid hwr
  have HB2 := Lib.hid (HB0.out.trans (hb2.mono (by omega)))
  have HBX2 := Lib.hid (HBX.out.next hb2)
  have hz2 := hb2.size
  have hlt2 := hwr.lt.2
  have HL := Lib.hid (glist_any w.heap.size w2)
  clear hwr hb2 hk2 HW HB0 HBX
  go_wp2_with fail
  refine HL.out.mono ?_
  rintro e w3 ⟨rfl, hx3, hb3⟩
  have hz3 : w2.heap.size < w3.heap.size := by
    rcases Nat.lt_or_ge w2.heap.size w3.heap.size with h1 | h1
    · exact h1
    · rw [Array.getElem?_eq_none h1] at hx3; cases hx3
  have HWR3 := Lib.hid (show Wr w1.heap.size (fun j => j ≠ w2.heap.size ∧ w1.heap.size ≤ j) w3 w1.heap.size [] from by
    obtain ⟨v, h1, h2, h3, h4, h5⟩ := HWR.out.next hb3
    obtain ⟨v', k1, k2, k3, k4, k5⟩ := HWR.out
    have hvv : v' = v := by
      have a := k2.cell
      have b := h2.cell
      have hc2 := (World.cell?_of_block (a := ⟨w1.heap.size, 0, none⟩) (hb3.block w1.heap.size hlt2))
      rw [hc2, a] at b
      injection b
    subst hvv
    refine ⟨v', h1, h2, h3, h4, fun g hg => ⟨?_, (h3.lt g hg).1⟩⟩
    have := (k3.lt g hg).2
    omega)
  have HB3 := Lib.hid (HB2.out.trans (hb3.mono HB2.out.size))
  have HBX3 := Lib.hid (HBX2.out.next hb3)
  have HX3 := Lib.hid hx3
  clear hx3 hb3 HL HWR HB2 HBX2
  go_wp2_with fail
  go_loopw [9, 5] (fun i _ wx => ∃ q : Nat, q ≤ 9 ∧ i = .int .i64 q ∧ Wr w1.heap.size (fun j => j ≠ w2.heap.size ∧ w1.heap.size ≤ j) wx w1.heap.size (encQ c q) ∧ wx.heap[w2.heap.size]? = some (.cells (ptrs w.heap.size) 105 (0, 0)) ∧ Boxed wx w.heap.size c ∧ Below w.heap.size w wx ∧ w3.heap.size ≤ wx.heap.size) (fun i _ wx => 9 - (intOf i).toNat)
  case atStart => exact ⟨0, by omega, rfl, HWR3.out, HX3.out, HBX3.out, HB3.out, Nat.le_refl _⟩
  case round =>
    clear HWR3 HX3 HBX3 HB3
    obtain ⟨q, hq, rfl, hwr, hx, hbx, hb, hz⟩ := hrel
    by_cases hlt : q < 9
    · have d1 : wr.cell? ⟨w2.heap.size, q, none⟩ = some (.pointer (some ⟨w.heap.size, q, none⟩)) := (cell_of_row wr w2.heap.size q _ _ (0, 0) hx).trans (ptrs_at _ q hlt)
      have d2 : wr.cell? ⟨w.heap.size, q, none⟩ = some (.int .i64 ((cfgL c).getD q 0)) := (hbx.cell q).trans (c9_at c q hlt)
      have hj := cfgL_at c HC.out q hlt
      have HWI := Lib.hid (wint_any wr w1.heap.size _ w1.heap.size (encQ c q) ((cfgL c).getD q 0) hj.1 hj.2 hwr (by have := encQ_length c q; omega))
      have HE := Lib.hid (encQ_succ c q hlt)
      have HX := Lib.hid hx
      have HBX := Lib.hid hbx
      have HB := Lib.hid hb
      have hwl := hwr.lt.2
      generalize (cfgL c).getD q 0 = z at *
      clear hwr hx hbx hb hj
      go_wp2_with fail
      refine HWI.out.mono ?_
      rintro e w4 ⟨rfl, hw4, hb4, hk4⟩
      have HW4 := Lib.hid (show Wr w1.heap.size (fun j => j ≠ w2.heap.size ∧ w1.heap.size ≤ j) w4 w1.heap.size (encQ c (q + 1)) from by
        rw [HE.out]
        exact hw4.wide fun j h => by
          rcases h with h | h
          · exact h
          · exact ⟨by omega, by omega⟩)
      have HX4 := Lib.hid ((hk4 w2.heap.size (by omega) (by omega) (fun h => h.1 rfl)).trans HX.out)
      have HBX4 := Lib.hid (HBX.out.below hb4 (by omega))
      have HB4 := Lib.hid (HB.out.trans (hb4.mono (by omega)))
      have hz4 := hb4.size
      clear hw4 hb4 hk4 HWI d1 d2
      go_wp2
      go_roundw
      case rel => exact ⟨q + 1, by omega, by go_num, HW4.out, HX4.out, HBX4.out, HB4.out, by omega⟩
      case measure => simp [intOf]; omega
    · obtain rfl : q = 9 := by omega
      have HD := Lib.hid (wdone_any wr w1.heap.size _ w1.heap.size (encQ c 9) hwr (by have := encQ_length c 9; omega))
      have HB := Lib.hid hb
      clear hwr hx hbx hb
      go_wp2_with fail
      refine HD.out.mono ?_
      rintro e w4 ⟨r, rfl, hr, hb4⟩
      have HR := Lib.hid hr
      have HB4 := Lib.hid (HB.out.trans (hb4.mono HB.out.size))
      clear hr hb4
      go_wp2
      go_ret
      exact ⟨r, rfl, HR.out, HB4.out⟩
end Go.Proofs.Ytlbodandidopfaa
