/- The document's disk: a write is kept. Conditions: none. -/
import Derived.Test.YtldmamcalfmedaaDwa
import Derived.Test.YtldmamcalfmedaaDsl
import Derived.Test.YtldmamcalfmedaaOrd
namespace Go.Proofs.Ytldmamcalfmedaa
open Go.ChangeShapes Go.WideShapes Go.ChangeAt Go.RowKit Go.Maps
set_option linter.unusedSimpArgs false
set_option linter.unusedVariables false
set_option maxRecDepth 100000 in
set_option maxHeartbeats 4000000 in
theorem rkeep_any (rb rk rl : Nat) (d : Dk) (w : World) (h : RBox w rb rk rl d) (s : Nat) (hs : s < d.n) (v : Value) (bl : List UInt8) (hv : RdX (fun j => j = rk) w v (bv bl)) (hl : bl.length = d.size) :
    Calls Try.prog 40 #[.pointer (some ⟨rb, 0, none⟩), .agg #[.int .i64 (s : Nat), v]] w fun e w' => e = .returned (.tuple #[]) ∧ RBox w' rb rk rl { d with kept := layP d.size d.kept (s, bl) } ∧ Frm (fun j => j = rk) w w' := by
  have hlt := h.lt
  have hok := h.ok
  have hne := h.ne.1
  have hm : (s + 1) * d.size ≤ d.n * d.size := Nat.mul_le_mul_right _ hs
  rw [Nat.add_mul, Nat.one_mul, ← hok.kept] at hm
  have hkl : d.kept.length ≤ 300000000 := by
    rw [hok.kept]
    exact Nat.le_trans (Nat.mul_le_mul hok.n.2 hok.size.2) (by decide)
  obtain ⟨A, c, rfl, hc1, hc2, _⟩ := id hv
  rw [bv_length, hl] at hc1 hv ⊢
  have hfa : Frm (fun _ => False) w (w.alloc (.cells #[.int .i64 (s : Nat), .slice A d.size c] 78)) := (Frm.refl _ w).alloc _
  have hx := heap_alloc_new w (.cells #[.int .i64 (s : Nat), .slice A d.size c] 78)
  have HR1 := Lib.hid (h.next hfa)
  have HV1 := Lib.hid (hv.frm hfa (fun j h => h.elim))
  have HFA := Lib.hid hfa
  have HX := Lib.hid hx
  have hz := hfa.size
  have hzz : (w.alloc (.cells #[.int .i64 (s : Nat), .slice A d.size c] 78)).heap.size = w.heap.size + 1 := by simp
  obtain ⟨sz, hsz⟩ : ∃ sz, d.size = sz := ⟨_, rfl⟩
  rw [hsz] at hm hc1 hl ⊢
  have HSZ := Lib.hid hsz
  have HOK := Lib.hid hok
  clear h hv hfa hx hok hsz
  go_enter Try.func40, Try.ntmps40
  go_upto_region 1 with (fail)
  rw [HSZ.out] at HX HFA HR1 HV1 hz hzz
  generalize w.alloc (.cells #[.int .i64 (s : Nat), .slice A sz c] 78) = w1 at HX HFA HR1 HV1 hz hzz ⊢
  go_wp2
  go_loopw [4] (fun i wx => ∃ q : Nat, q ≤ sz ∧ i = .int .i64 q ∧ RBox wx rb rk rl { d with kept := layI sz d.kept s bl q } ∧ Frm (fun j => j = rk) w1 wx) (fun i wx => sz - (intOf i).toNat)
  case atStart => exact ⟨0, by omega, rfl, by rw [layI_zero]; exact HR1.out, Frm.refl _ _⟩
  case round =>
    obtain ⟨q, hq, rfl, hR, hF⟩ := hrel
    obtain ⟨keepV, lv, bc, r1, _, r3, r4, _, c0, c1, c2, c3, _, _, _, _, _, fr⟩ := hR.at
    rw [show ({ d with kept := layI sz d.kept s bl q } : Dk).size = d.size from rfl, HSZ.out] at c1
    rw [show ({ d with kept := layI sz d.kept s bl q } : Dk).kept = layI sz d.kept s bl q from rfl] at c2 r3
    have hK0 := HOK.out.kept
    rw [HSZ.out] at hK0
    have hLq : (layI sz d.kept s bl q).length = d.kept.length := by rw [layI_length hK0 hs hl q hq]; exact hK0.symm
    rw [hLq] at c2 r3
    by_cases hlq : q < sz
    · obtain ⟨M, hM⟩ : ∃ M, s * sz = M := ⟨_, rfl⟩
      obtain ⟨Z, hZ⟩ : ∃ Z, M + q = Z := ⟨_, rfl⟩
      rw [hM] at hm
      have P1 := Lib.hid (show IntKind.i64.wrap (((s : Nat) : Int) * ((sz : Nat) : Int)) = ((M : Nat) : Int) by rw [IntKind.wrap_i64, ← hM, Int.natCast_mul] <;> (have : ((s * sz : Nat) : Int) = (s : Int) * (sz : Int) := Int.natCast_mul _ _; omega))
      have P2 := Lib.hid (show IntKind.i64.wrap (((M : Nat) : Int) + ((q : Nat) : Int)) = ((Z : Nat) : Int) by rw [IntKind.wrap_i64]; omega)
      have hZl : Z < d.kept.length := by omega
      have hnx := layI_next (n := d.n) hK0 hs hl q hlq
      rw [hM, hZ] at hnx
      obtain ⟨b, off, rfl, hbB, hbm, hcell⟩ := (show ∃ b off, A = some ⟨b, off, none⟩ ∧ b < w1.heap.size ∧ b ≠ rk ∧ w1.cell? ⟨b, off + q, none⟩ = some (.int .u8 ((bl[q]'(by omega)).toNat : Int)) by
        obtain ⟨A', c', e1, _, _, g⟩ := HV1.out
        injection e1 with e1 _ _
        subst e1
        obtain ⟨b, off, e2, g1, g2, g3⟩ := g (by rw [bv_length]; omega)
        exact ⟨b, off, e2, g1, g2, g3 q _ (by unfold bv; rw [List.getElem?_map, List.getElem?_eq_getElem (by omega)]; rfl)⟩)
      have hcell0 := r3.cellAt Z (by omega)
      have hfr := r3.frozenAt Z
      have hst := (r3.stored Z (.int .u8 ((bl[q]'(by omega)).toNat : Int))).1
      rw [hnx] at hst
      obtain ⟨x0, hcz⟩ : ∃ x0 : Int, wr.drew.cell? ⟨rk, Z, none⟩ = some (.int .u8 x0) := ⟨((layI sz d.kept s bl q)[Z]'(by omega)).toNat, hcell0.trans (by unfold bv; rw [List.getElem?_map, List.getElem?_eq_getElem (by omega)]; rfl)⟩
      have hfz : wr.drew.frozen? ⟨rk, Z, none⟩ = false := hfr
      obtain ⟨y, hy⟩ : ∃ y, bl[q]'(by omega) = y := ⟨_, rfl⟩
      rw [hy] at hcell hst hnx
      have HC := Lib.hid (show ∀ w2, Frm (fun j => j = rk) wr.drew w2 → w2.cell? ⟨rb, 1, none⟩ = some (.int .i64 (sz : Nat)) ∧ w2.cell? ⟨rb, 2, none⟩ = some (.slice (some ⟨rk, 0, none⟩) d.kept.length bc) ∧ w2.cell? ⟨w.heap.size, 0, none⟩ = some (.int .i64 (s : Nat)) ∧ w2.cell? ⟨w.heap.size, 1, none⟩ = some (.slice (some ⟨b, off, none⟩) sz c) ∧ w2.cell? ⟨b, off + q, none⟩ = some (.int .u8 (y.toNat : Int)) from fun w2 hf => by
        have hF2 : Frm (fun j => j = rk) w1 w2 := hF.trans (((Frm.refl (fun j => j = rk) wr).drew).trans hf)
        have k1 : w2.heap[rb]? = wr.heap[rb]? := hf.block rb hR.lt.1 hne
        have k2 : w2.heap[w.heap.size]? = w1.heap[w.heap.size]? := hF2.block _ (by omega) (by show w.heap.size ≠ rk; omega)
        have k3 : w2.heap[b]? = w1.heap[b]? := hF2.block _ hbB hbm
        exact ⟨(World.cell?_of_block (a := ⟨rb, 1, none⟩) k1).trans c1, (World.cell?_of_block (a := ⟨rb, 2, none⟩) k1).trans c2, (World.cell?_of_block (a := ⟨w.heap.size, 0, none⟩) k2).trans (cell_of_row w1 w.heap.size 0 _ _ _ HX.out), (World.cell?_of_block (a := ⟨w.heap.size, 1, none⟩) k2).trans (cell_of_row w1 w.heap.size 1 _ _ _ HX.out), (World.cell?_of_block (a := ⟨b, off + q, none⟩) k3).trans hcell⟩)
      have HST := Lib.hid (And.intro hst ((Frm.refl (fun j => j = rk) wr.drew).setCell rk Z (Or.inl rfl) (.int .u8 (y.toNat : Int))))
      have HF := Lib.hid hF
      have HR := Lib.hid hR
      have HK0 := Lib.hid hK0
      have HLQ := Lib.hid hLq
      clear hK0 hLq
      clear hst hnx hcell hcell0 hfr hF hR r1 r3 r4 fr c0 c2 c3
      go_upto_region 4 with (fail)
      refine region_ord (Frm (fun j => j = rk) wr.drew) [false, false, false, false, false, false, false, false, false, false, false, false, false, false, false, false, false, false, false, true] (by kernel_rfl) (by kernel_rfl) (by kernel_rfl) ((Frm.refl _ _)) ?_
      iterate 3 (refine ord_val (by rfl) (by intro w hi; clear hi; go_simp; with_reducible rfl) (fun K hK => ?_); go_simp; refine hK _ ?_; clear hK K)
      (refine ord_val (by rfl) (by intro w hi; have z := (HC.out w hi).2.1; clear hi; go_simp; with_reducible rfl) (fun K hK => ?_); go_simp; refine hK _ ?_; clear hK K)
      (refine ord_val (by rfl) (by intro w hi; clear hi; go_simp; with_reducible rfl) (fun K hK => ?_); go_simp; refine hK _ ?_; clear hK K)
      (refine ord_val (by rfl) (by intro w hi; have z := (HC.out w hi).2.2.1; clear hi; go_simp; with_reducible rfl) (fun K hK => ?_); go_simp; refine hK _ ?_; clear hK K)
      iterate 3 (refine ord_val (by rfl) (by intro w hi; clear hi; go_simp; with_reducible rfl) (fun K hK => ?_); go_simp; refine hK _ ?_; clear hK K)
      (refine ord_val (by rfl) (by intro w hi; have z := (HC.out w hi).1; clear hi; go_simp; with_reducible rfl) (fun K hK => ?_); go_simp; refine hK _ ?_; clear hK K)
      (refine ord_val (by rfl) (by intro w hi; have p1 := P1.out; clear hi; go_simp; with_reducible rfl) (fun K hK => ?_); go_simp; refine hK _ ?_; clear hK K)
      (refine ord_val (by rfl) (by intro w hi; clear hi; go_simp; with_reducible rfl) (fun K hK => ?_); go_simp; refine hK _ ?_; clear hK K)
      (refine ord_val (by rfl) (by intro w hi; have p2 := P2.out; clear hi; go_simp; with_reducible rfl) (fun K hK => ?_); go_simp; refine hK _ ?_; clear hK K)
      (refine ord_val (by rfl) (by intro w hi; clear hi; go_simp; with_reducible rfl) (fun K hK => ?_); go_simp; refine hK _ ?_; clear hK K)
      (refine ord_val (by rfl) (by intro w hi; have z := (HC.out w hi).2.2.2.1; clear hi; go_simp; with_reducible rfl) (fun K hK => ?_); go_simp; refine hK _ ?_; clear hK K)
      iterate 2 (refine ord_val (by rfl) (by intro w hi; clear hi; go_simp; with_reducible rfl) (fun K hK => ?_); go_simp; refine hK _ ?_; clear hK K)
      (refine ord_val (by rfl) (by intro w hi; have z := (HC.out w hi).2.2.2.2; clear hi; go_simp; with_reducible rfl) (fun K hK => ?_); go_simp; refine hK _ ?_; clear hK K)
      (refine ord_val (by rfl) (by intro w hi; clear hi; go_simp; with_reducible rfl) (fun K hK => ?_); go_simp; refine hK _ ?_; clear hK K)
      refine ord_eff (by rfl) (fun K hK => ?_)
      refine gets_sem ?_
      go_simp
      refine ⟨HST.out.2, hK _ _ ?_⟩
      clear hK K
      refine ord_nil ?_
      go_wp2
      go_roundw
      case rel =>
        refine ⟨q + 1, by omega, by go_num, ?_, HF.out.trans (((Frm.refl (fun j => j = rk) wr).drew).trans HST.out.2)⟩
        refine HR.out.lay (((Frm.refl (fun j => j = rk) wr).drew).trans HST.out.2) (layI sz d.kept s bl (q + 1)) (by rw [layI_length HK0.out hs hl (q + 1) (by omega)]; show _ = (layI sz d.kept s bl q).length; rw [HLQ.out]; exact HK0.out.symm) ?_
        intro bc' ho'
        have ho2 : wr.ownsRow 0 5 1 (.slice (some ⟨rk, 0, none⟩) d.kept.length bc') d.kept.length (bv (layI sz d.kept s bl q)) := by
          have := ho'
          rw [show ({ d with kept := layI sz d.kept s bl q } : Dk).kept = layI sz d.kept s bl q from rfl, HLQ.out] at this
          exact this
        show (wr.drew.setCell ⟨rk, Z, none⟩ (.int .u8 (y.toNat : Int))).ownsRow 0 5 1 (.slice (some ⟨rk, 0, none⟩) (layI sz d.kept s bl q).length bc') (layI sz d.kept s bl q).length (bv (layI sz d.kept s bl (q + 1)))
        have hnx := layI_next (n := d.n) HK0.out hs hl q hlq
        rw [hM, hZ, hy] at hnx
        rw [HLQ.out, ← hnx]
        exact ((show wr.drew.ownsRow 0 5 1 (.slice (some ⟨rk, 0, none⟩) d.kept.length bc') d.kept.length (bv (layI sz d.kept s bl q)) from ho2).stored Z (.int .u8 (y.toNat : Int))).1
      case measure => simp [intOf]; omega
    · obtain rfl : q = sz := by omega
      have HR := Lib.hid hR
      have HF := Lib.hid hF
      clear hR hF r1 r3 r4 c0 c2 c3 fr
      go_wp2
      go_end0
      refine ⟨rfl, ?_, (HFA.out.mono (fun _ _ h => h.elim)).trans HF.out⟩
      have := HR.out
      rw [layI_all _ _ _ _ hl] at this
      rw [HSZ.out] at this
      exact this
end Go.Proofs.Ytldmamcalfmedaa
