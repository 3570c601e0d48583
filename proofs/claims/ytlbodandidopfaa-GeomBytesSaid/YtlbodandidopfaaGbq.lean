/- A shape out of bytes: the document's Decode. Conditions: none of its own. -/
import Derived.Test.YtlbodandidopfaaGbd
import Derived.Test.YtlbodandidopfaaGor
namespace Go.Proofs.Ytlbodandidopfaa
open Go.ChangeShapes Go.WideShapes Go.ChangeAt Go.RowKit
set_option linter.unusedSimpArgs false
set_option linter.unusedVariables false
def Arr9 (w : World) (b : Nat) (c : Cfg) : Prop := w.heap[b]? = some (.cells (C9 c) 114 (0, 0))
theorem Arr9.put {w : World} {k : Nat} {v : Nat → Int} {q : Nat} (h : Arr9 w k (cfgP v q)) (hq : q < 9) : Arr9 (w.setCell ⟨k, q, none⟩ (.int .i64 (v q))) k (cfgP v (q + 1)) := by
  have := heap_setCell_same w k q _ _ (.int .i64 (v q)) h
  rw [cfgP_set v q hq] at this
  exact this
theorem Arr9.cell {w : World} {b : Nat} {c : Cfg} (h : Arr9 w b c) (i : Nat) (hi : i < 9) : w.cell? ⟨b, i, none⟩ = some (.int .i64 ((cfgL c).getD i 0)) := (cell_of_row w b i _ _ (0, 0) h).trans (c9_at c i hi)
set_option maxRecDepth 100000 in
set_option maxHeartbeats 4000000 in
theorem rdecode_any (vb : Value) (l : List UInt8) (hl : l.length < 4294967296) (w : World) (B : Nat) (hB : B ≤ w.heap.size) (hr : RdV w B vb (bv l)) :
    Calls Try.prog 30 #[vb] w (DecP w (decF ri l)) := by
  obtain ⟨A, cp, rfl, hc1, hc2, _⟩ := id hr
  rw [bv_length] at hc1 hr ⊢
  have hb1 : Below w.heap.size w (w.alloc (.cells #[.int .i64 0, .int .i64 0, .int .i64 0, .int .i64 0, .int .i64 0, .int .i64 0, .int .i64 0, .int .i64 0, .int .i64 0] 23)) := (Below.refl _ w).alloc (Nat.le_refl _) _
  have hx1 : Boxed (w.alloc (.cells #[.int .i64 0, .int .i64 0, .int .i64 0, .int .i64 0, .int .i64 0, .int .i64 0, .int .i64 0, .int .i64 0, .int .i64 0] 23)) w.heap.size cfgZ := Boxed.new w cfgZ
  have hs1 : (w.alloc (.cells #[.int .i64 0, .int .i64 0, .int .i64 0, .int .i64 0, .int .i64 0, .int .i64 0, .int .i64 0, .int .i64 0, .int .i64 0] 23)).heap.size = w.heap.size + 1 := by simp
  go_enter Try.func30, Try.ntmps30
  go_upto_region 1 with (fail)
  generalize w.alloc (.cells #[.int .i64 0, .int .i64 0, .int .i64 0, .int .i64 0, .int .i64 0, .int .i64 0, .int .i64 0, .int .i64 0, .int .i64 0] 23) = w1 at hb1 hx1 hs1 ⊢
  have hs1' : w.heap.size < w1.heap.size := by omega
  clear hs1
  have hb2 : Below w1.heap.size w1 (w1.alloc (.cells #[.slice A l.length cp, .int .i64 0] 113)) := (Below.refl _ w1).alloc (Nat.le_refl _) _
  have hq2 : QBox w.heap.size (w1.alloc (.cells #[.slice A l.length cp, .int .i64 0] 113)) w1.heap.size l 0 := ⟨A, l.length, cp, B, heap_alloc_new w1 _, (hr.below (hb1.mono hB)).below (hb2.mono (by omega)), by omega, by omega⟩
  have hs2 : (w1.alloc (.cells #[.slice A l.length cp, .int .i64 0] 113)).heap.size = w1.heap.size + 1 := by simp
  go_upto_region 2 with (fail)
  generalize w1.alloc (.cells #[.slice A l.length cp, .int .i64 0] 113) = w2 at hb2 hq2 hs2 ⊢
  have hs2' : w1.heap.size < w2.heap.size := by omega
  clear hs2
  have hb3 : Below w2.heap.size w2 (w2.alloc (.cells #[.int .i64 0, .int .i64 0, .int .i64 0, .int .i64 0, .int .i64 0, .int .i64 0, .int .i64 0, .int .i64 0, .int .i64 0] 114)) := (Below.refl _ w2).alloc (Nat.le_refl _) _
  have ha3 : Arr9 (w2.alloc (.cells #[.int .i64 0, .int .i64 0, .int .i64 0, .int .i64 0, .int .i64 0, .int .i64 0, .int .i64 0, .int .i64 0, .int .i64 0] 114)) w2.heap.size (cfgP (vl ri (l, 0)) 0) := heap_alloc_new w2 _
  have hs3 : (w2.alloc (.cells #[.int .i64 0, .int .i64 0, .int .i64 0, .int .i64 0, .int .i64 0, .int .i64 0, .int .i64 0, .int .i64 0, .int .i64 0] 114)).heap.size = w2.heap.size + 1 := by simp
  go_upto_region 3 with (fail)
  generalize w2.alloc (.cells #[.int .i64 0, .int .i64 0, .int .i64 0, .int .i64 0, .int .i64 0, .int .i64 0, .int .i64 0, .int .i64 0, .int .i64 0] 114) = w3 at hb3 ha3 hs3 ⊢
  have hs3' : w2.heap.size < w3.heap.size := by omega
  clear hs3
  have HB3 := Lib.hid ((hb1.trans (hb2.mono (by omega))).trans (hb3.mono (by omega)))
  have HX3 := Lib.hid (Boxed.next hb3 (Boxed.next hb2 hx1))
  have HQ3 := Lib.hid (hq2.next hb3)
  have HA3 := Lib.hid ha3
  clear hb1 hx1 hb2 hq2 hb3 ha3 hr hc1 hc2
  go_wp2_with fail
  go_loopw [6] (fun i wx => ∃ q : Nat, q ≤ 9 ∧ i = .int .i64 q ∧ QBox w.heap.size wx w1.heap.size (st ri (l, 0) q).1 (st ri (l, 0) q).2 ∧ Arr9 wx w2.heap.size (cfgP (vl ri (l, 0)) q) ∧ Boxed wx w.heap.size cfgZ ∧ Below w.heap.size w wx ∧ w3.heap.size ≤ wx.heap.size) (fun i wx => 9 - (intOf i).toNat)
  case atStart => exact ⟨0, by omega, rfl, HQ3.out, HA3.out, HX3.out, HB3.out, Nat.le_refl _⟩
  case round =>
    clear HQ3 HA3 HX3 HB3
    obtain ⟨q, hq, rfl, hc, ha, hx1, hb, hz⟩ := hrel
    by_cases hlt : q < 9
    · have HBW := Lib.hid (qint_any wr w1.heap.size (st ri (l, 0) q).1 (st ri (l, 0) q).2 hc (by have h5 : (st ri (l, 0) q).1.length ≤ l.length := st_len ri_len (l, 0) q; omega))
      have HX1 := Lib.hid hx1
      have HA := Lib.hid ha
      have HB := Lib.hid hb
      have hv : (readV (st ri (l, 0) q).2 (st ri (l, 0) q).1 (numO (st ri (l, 0) q).1)).1 = vl ri (l, 0) q := rfl
      have hss : (readV (st ri (l, 0) q).2 (st ri (l, 0) q).1 (numO (st ri (l, 0) q).1)).2 = st ri (l, 0) (q + 1) := rfl
      rw [hv, hss] at HBW
      have HPUT := fun wz (h : Arr9 wz w2.heap.size (cfgP (vl ri (l, 0)) q)) => Lib.hid (h.put hlt)
      have hj : J64 (vl ri (l, 0) q) := (readV_fits (lo := 0) (hi := 0)).1
      generalize vl ri (l, 0) q = z at *
      clear hc hx1 ha hb hv hss
      go_wp2_with fail
      refine HBW.out.mono ?_
      rintro e w5 ⟨rfl, hc5, hf5⟩
      have hz5 := hf5.size
      have ha5 : Arr9 w5 w2.heap.size _ := (hf5.block w2.heap.size (by omega) (by omega)).trans HA.out
      have g1 : w5.frozen? ⟨w2.heap.size, q, none⟩ = false := frozen_of_row w5 w2.heap.size q _ _ ha5
      have c1 := ha5.cell q hlt
      have hFs : Frm (· = w2.heap.size) w5 (w5.setCell ⟨w2.heap.size, q, none⟩ (.int .i64 z)) := (Frm.refl (fun x => x = w2.heap.size) w5).setCell w2.heap.size q (Or.inl rfl) _
      have HA6 := HPUT w5 ha5
      have HF6 := Lib.hid ((hf5.mono (O' := fun j => j = w1.heap.size ∨ j = w2.heap.size) fun j _ e => Or.inl e).trans (hFs.mono fun j _ e => Or.inr e))
      have HC6 := Lib.hid (hc5.frm hFs (fun j e => by omega))
      generalize hw6 : w5.setCell ⟨w2.heap.size, q, none⟩ (.int .i64 z) = w6 at *
      have HW6 := Lib.hid hw6
      have HX16 := Lib.hid (show Boxed w6 w.heap.size cfgZ from (HF6.out.block w.heap.size (by omega) (by rintro (e | e) <;> omega)).trans HX1.out)
      have HB6 := Lib.hid (HB.out.trans (HF6.out.below (B := w.heap.size) (fun j e => by rcases e with e | e <;> omega) (by omega)))
      have hz6 := HF6.out.size
      clear hc5 hf5 ha5 hFs HBW hw6 HPUT HX1 HA HB HF6
      go_wp2_with fail
      rw [HW6.out]
      go_roundw
      case rel => exact ⟨q + 1, by omega, by go_num, HC6.out, HA6.out, HX16.out, HB6.out, by omega⟩
      case measure => simp [intOf]; omega
    · obtain rfl : q = 9 := by omega
      rw [cfgP_all] at ha
      have hd : decF ri l = if st ri (l, 0) 9 = ([], 0) ∧ checkB (cfgV (vl ri (l, 0))) = true then some (cfgV (vl ri (l, 0))) else none := rfl
      have HD := Lib.hid hd
      generalize st ri (l, 0) 9 = s9' at *
      generalize cfgV (vl ri (l, 0)) = c9 at *
      obtain ⟨l9, e9⟩ := s9'
      obtain ⟨s1, s2, s3, s4, s5, s6, s7, s8, s9⟩ := c9
      have k0 : wr.cell? ⟨w2.heap.size, 0, none⟩ = some (.int .i64 s1) := ha.cell 0 (by omega)
      have k1 : wr.cell? ⟨w2.heap.size, 1, none⟩ = some (.int .i64 s2) := ha.cell 1 (by omega)
      have k2 : wr.cell? ⟨w2.heap.size, 2, none⟩ = some (.int .i64 s3) := ha.cell 2 (by omega)
      have k3 : wr.cell? ⟨w2.heap.size, 3, none⟩ = some (.int .i64 s4) := ha.cell 3 (by omega)
      have k4 : wr.cell? ⟨w2.heap.size, 4, none⟩ = some (.int .i64 s5) := ha.cell 4 (by omega)
      have k5 : wr.cell? ⟨w2.heap.size, 5, none⟩ = some (.int .i64 s6) := ha.cell 5 (by omega)
      have k6 : wr.cell? ⟨w2.heap.size, 6, none⟩ = some (.int .i64 s7) := ha.cell 6 (by omega)
      have k7 : wr.cell? ⟨w2.heap.size, 7, none⟩ = some (.int .i64 s8) := ha.cell 7 (by omega)
      have k8 : wr.cell? ⟨w2.heap.size, 8, none⟩ = some (.int .i64 s9) := ha.cell 8 (by omega)
      have hba : Below wr.heap.size wr (wr.alloc (.cells #[.int .i64 s1, .int .i64 s2, .int .i64 s3, .int .i64 s4, .int .i64 s5, .int .i64 s6, .int .i64 s7, .int .i64 s8, .int .i64 s9] 23)) := (Below.refl _ wr).alloc (Nat.le_refl _) _
      have hxa : Boxed (wr.alloc (.cells #[.int .i64 s1, .int .i64 s2, .int .i64 s3, .int .i64 s4, .int .i64 s5, .int .i64 s6, .int .i64 s7, .int .i64 s8, .int .i64 s9] 23)) wr.heap.size ⟨s1, s2, s3, s4, s5, s6, s7, s8, s9⟩ := Boxed.new wr ⟨s1, s2, s3, s4, s5, s6, s7, s8, s9⟩
      have hsa : (wr.alloc (.cells #[.int .i64 s1, .int .i64 s2, .int .i64 s3, .int .i64 s4, .int .i64 s5, .int .i64 s6, .int .i64 s7, .int .i64 s8, .int .i64 s9] 23)).heap.size = wr.heap.size + 1 := by simp
      have hca := hc.next hba
      have hx1a := Boxed.next hba hx1
      have hB7 := hb.trans (hba.mono (by omega))
      go_upto_region 8 with (fail)
      generalize wr.alloc (.cells #[.int .i64 s1, .int .i64 s2, .int .i64 s3, .int .i64 s4, .int .i64 s5, .int .i64 s6, .int .i64 s7, .int .i64 s8, .int .i64 s9] 23) = w7 at hba hxa hsa hca hx1a hB7 ⊢
      have hsa' : wr.heap.size < w7.heap.size := by omega
      clear hsa k0 k1 k2 k3 k4 k5 k6 k7 k8 hba ha hc hx1 hb hd
      have HE := Lib.hid (qend_any w7 w1.heap.size _ _ hca)
      have HX1 := Lib.hid hx1a
      have HB := Lib.hid hB7
      have HXA := Lib.hid hxa
      obtain ⟨k0, k1, k2, k3, k4, k5, k6, k7, k8⟩ := hxa.cells
      dsimp only at k0 k1 k2 k3 k4 k5 k6 k7 k8
      have HCK := Lib.hid (rcheck_any ⟨s1, s2, s3, s4, s5, s6, s7, s8, s9⟩ w7)
      unfold Cfg.val at HCK
      dsimp only at HCK
      clear hca hx1a hB7 hxa
      by_cases hee : e9 = 0 ∧ l9 = []
      · obtain ⟨rfl, rfl⟩ := hee
        rw [if_neg (fun h => h.2 rfl)] at HE
        cases hck : checkB ⟨s1, s2, s3, s4, s5, s6, s7, s8, s9⟩ with
        | true =>
          rw [hck] at HCK
          have HN := Lib.hid (show decF ri l = some ⟨s1, s2, s3, s4, s5, s6, s7, s8, s9⟩ from by rw [HD.out, if_pos ⟨by first | trivial | rfl, hck⟩])
          clear hck HD
          go_wp2_with fail
          refine HE.out.mono ?_
          rintro e w7' ⟨rfl, rfl⟩
          go_wp2_with fail
          refine HCK.out.mono ?_
          rintro e w8 ⟨rfl, hb8⟩
          clear k0 k1 k2 k3 k4 k5 k6 k7 k8
          have HX8 := Lib.hid (HX1.out.next hb8)
          have HB8 := Lib.hid (HB.out.trans (hb8.mono HB.out.size))
          obtain ⟨k0, k1, k2, k3, k4, k5, k6, k7, k8⟩ := (HXA.out.next hb8).cells
          dsimp only at k0 k1 k2 k3 k4 k5 k6 k7 k8
          clear hb8 HX1 HB HCK HE
          obtain ⟨z0, z1', z2, z3, z4, z5, z6, z7, z8⟩ := HX8.out.cells
          dsimp only [cfgZ] at z0 z1' z2 z3 z4 z5 z6 z7 z8
          have f0 := frozen_of_row w8 w.heap.size 0 _ _ HX8.out
          have f1 := frozen_of_row w8 w.heap.size 1 _ _ HX8.out
          have f2 := frozen_of_row w8 w.heap.size 2 _ _ HX8.out
          have f3 := frozen_of_row w8 w.heap.size 3 _ _ HX8.out
          have f4 := frozen_of_row w8 w.heap.size 4 _ _ HX8.out
          have f5 := frozen_of_row w8 w.heap.size 5 _ _ HX8.out
          have f6 := frozen_of_row w8 w.heap.size 6 _ _ HX8.out
          have f7 := frozen_of_row w8 w.heap.size 7 _ _ HX8.out
          have f8 := frozen_of_row w8 w.heap.size 8 _ _ HX8.out
          go_wp2
          have hE5 : (((((((((w8.setCell ⟨w.heap.size, 0, none⟩ (.int .i64 s1)).setCell ⟨w.heap.size, 1, none⟩ (.int .i64 s2)).setCell ⟨w.heap.size, 2, none⟩ (.int .i64 s3)).setCell ⟨w.heap.size, 3, none⟩ (.int .i64 s4)).setCell ⟨w.heap.size, 4, none⟩ (.int .i64 s5)).setCell ⟨w.heap.size, 5, none⟩ (.int .i64 s6)).setCell ⟨w.heap.size, 6, none⟩ (.int .i64 s7)).setCell ⟨w.heap.size, 7, none⟩ (.int .i64 s8)).setCell ⟨w.heap.size, 8, none⟩ (.int .i64 s9)) = putC w8 w.heap.size ⟨s1, s2, s3, s4, s5, s6, s7, s8, s9⟩ := rfl
          rw [hE5]
          obtain ⟨hO5, hF5⟩ := HX8.out.store ⟨s1, s2, s3, s4, s5, s6, s7, s8, s9⟩
          generalize putC w8 w.heap.size ⟨s1, s2, s3, s4, s5, s6, s7, s8, s9⟩ = w9 at hO5 hF5 ⊢
          refine bodyPost_ret (v := .tuple #[(⟨s1, s2, s3, s4, s5, s6, s7, s8, s9⟩ : Cfg).val, .int .i64 0]) ?_ rfl ?_
          · have hr := run_loadVar_row (P := Try.prog) w9 w.heap.size 23 23 (C9 ⟨s1, s2, s3, s4, s5, s6, s7, s8, s9⟩) (0, 0) _ hO5 Try.underlying23 rfl (by kernel_rfl)
            simp [results, Try.f30, asAddr, hr, Cfg.val, C9]
          · rw [HN.out]
            exact ⟨rfl, HB8.out.trans (hF5.below (fun j e => by omega) HB8.out.size)⟩
        | false =>
          rw [hck] at HCK
          have HN := Lib.hid (show decF ri l = none from by rw [HD.out, if_neg (fun h => by rw [hck] at h; cases h.2)])
          clear HD hck
          go_wp2_with fail
          refine HE.out.mono ?_
          rintro e w7' ⟨rfl, rfl⟩
          go_wp2_with fail
          refine HCK.out.mono ?_
          rintro e w8 ⟨rfl, hb8⟩
          have HX8 := Lib.hid (HX1.out.next hb8)
          have HB8 := Lib.hid (HB.out.trans (hb8.mono HB.out.size))
          clear hb8 HX1 HB HCK HE k0 k1 k2 k3 k4 k5 k6 k7 k8
          obtain ⟨z0, z1', z2, z3, z4, z5, z6, z7, z8⟩ := HX8.out.cells
          dsimp only [cfgZ] at z0 z1' z2 z3 z4 z5 z6 z7 z8
          have f0 := frozen_of_row w8 w.heap.size 0 _ _ HX8.out
          have f1 := frozen_of_row w8 w.heap.size 1 _ _ HX8.out
          have f2 := frozen_of_row w8 w.heap.size 2 _ _ HX8.out
          have f3 := frozen_of_row w8 w.heap.size 3 _ _ HX8.out
          have f4 := frozen_of_row w8 w.heap.size 4 _ _ HX8.out
          have f5 := frozen_of_row w8 w.heap.size 5 _ _ HX8.out
          have f6 := frozen_of_row w8 w.heap.size 6 _ _ HX8.out
          have f7 := frozen_of_row w8 w.heap.size 7 _ _ HX8.out
          have f8 := frozen_of_row w8 w.heap.size 8 _ _ HX8.out
          go_wp2
          have hE5 : (((((((((w8.setCell ⟨w.heap.size, 0, none⟩ (.int .i64 0)).setCell ⟨w.heap.size, 1, none⟩ (.int .i64 0)).setCell ⟨w.heap.size, 2, none⟩ (.int .i64 0)).setCell ⟨w.heap.size, 3, none⟩ (.int .i64 0)).setCell ⟨w.heap.size, 4, none⟩ (.int .i64 0)).setCell ⟨w.heap.size, 5, none⟩ (.int .i64 0)).setCell ⟨w.heap.size, 6, none⟩ (.int .i64 0)).setCell ⟨w.heap.size, 7, none⟩ (.int .i64 0)).setCell ⟨w.heap.size, 8, none⟩ (.int .i64 0)) = putC w8 w.heap.size cfgZ := rfl
          rw [hE5]
          obtain ⟨hO5, hF5⟩ := HX8.out.store cfgZ
          generalize putC w8 w.heap.size cfgZ = w9 at hO5 hF5 ⊢
          refine bodyPost_ret (v := .tuple #[cfgZ.val, .int .i64 22]) ?_ rfl ?_
          · have hr := run_loadVar_row (P := Try.prog) w9 w.heap.size 23 23 (C9 cfgZ) (0, 0) _ hO5 Try.underlying23 rfl (by kernel_rfl)
            simp [results, Try.f30, asAddr, hr, Cfg.val, C9]
          · rw [HN.out]
            exact ⟨rfl, HB8.out.trans (hF5.below (fun j e => by omega) HB8.out.size)⟩
      · have HN := Lib.hid (show decF ri l = none from by rw [HD.out, if_neg (fun h => hee (by have := h.1; injection this with h1 h2; exact ⟨h2, h1⟩))])
        have hne : ¬ (if e9 = 0 ∧ l9 ≠ [] then (22 : Int) else e9) = 0 := by
          split
          · decide
          · rename_i h1
            intro h2
            subst h2
            exact hee ⟨rfl, Classical.byContradiction fun h3 => h1 ⟨rfl, h3⟩⟩
        have hneb : ((if e9 = 0 ∧ l9 ≠ [] then (22 : Int) else e9) != 0) = true := by simp [bne, hne]
        have hneb2 : ((if e9 = 0 ∧ l9 ≠ [] then (22 : Int) else e9) == 0) = false := by rw [beq_eq_false_iff_ne]; exact hne
        have HX8 := HX1
        have HB8 := HB
        generalize (if e9 = 0 ∧ l9 ≠ [] then (22 : Int) else e9) = z9 at *
        clear hee HD HCK k0 k1 k2 k3 k4 k5 k6 k7 k8 HX1 HB hne
        go_wp2_with fail
        refine HE.out.mono ?_
        rintro e w7' ⟨rfl, rfl⟩
        obtain ⟨z0, z1', z2, z3, z4, z5, z6, z7, z8⟩ := HX8.out.cells
        dsimp only [cfgZ] at z0 z1' z2 z3 z4 z5 z6 z7 z8
        have f0 := frozen_of_row w7 w.heap.size 0 _ _ HX8.out
        have f1 := frozen_of_row w7 w.heap.size 1 _ _ HX8.out
        have f2 := frozen_of_row w7 w.heap.size 2 _ _ HX8.out
        have f3 := frozen_of_row w7 w.heap.size 3 _ _ HX8.out
        have f4 := frozen_of_row w7 w.heap.size 4 _ _ HX8.out
        have f5 := frozen_of_row w7 w.heap.size 5 _ _ HX8.out
        have f6 := frozen_of_row w7 w.heap.size 6 _ _ HX8.out
        have f7 := frozen_of_row w7 w.heap.size 7 _ _ HX8.out
        have f8 := frozen_of_row w7 w.heap.size 8 _ _ HX8.out
        go_wp2
        have hE5 : (((((((((w7.setCell ⟨w.heap.size, 0, none⟩ (.int .i64 0)).setCell ⟨w.heap.size, 1, none⟩ (.int .i64 0)).setCell ⟨w.heap.size, 2, none⟩ (.int .i64 0)).setCell ⟨w.heap.size, 3, none⟩ (.int .i64 0)).setCell ⟨w.heap.size, 4, none⟩ (.int .i64 0)).setCell ⟨w.heap.size, 5, none⟩ (.int .i64 0)).setCell ⟨w.heap.size, 6, none⟩ (.int .i64 0)).setCell ⟨w.heap.size, 7, none⟩ (.int .i64 0)).setCell ⟨w.heap.size, 8, none⟩ (.int .i64 0)) = putC w7 w.heap.size cfgZ := rfl
        rw [hE5]
        obtain ⟨hO5, hF5⟩ := HX8.out.store cfgZ
        generalize putC w7 w.heap.size cfgZ = w9 at hO5 hF5 ⊢
        refine bodyPost_ret (v := .tuple #[cfgZ.val, .int .i64 22]) ?_ rfl ?_
        · have hr := run_loadVar_row (P := Try.prog) w9 w.heap.size 23 23 (C9 cfgZ) (0, 0) _ hO5 Try.underlying23 rfl (by kernel_rfl)
          simp [results, Try.f30, asAddr, hr, Cfg.val, C9]
        · rw [HN.out]
          exact ⟨rfl, HB8.out.trans (hF5.below (fun j e => by omega) HB8.out.size)⟩
end Go.Proofs.Ytlbodandidopfaa
