/- The document's disk: Burst. Conditions: none. -/
import Derived.Test.YtldmamcalfmedaaDbb
namespace Go.Proofs.Ytldmamcalfmedaa
open Go.ChangeShapes Go.WideShapes Go.ChangeAt Go.RowKit Go.Maps
set_option linter.unusedSimpArgs false
set_option linter.unusedVariables false
section
variable (rb rk rl : Nat) (d : Dk) (w : World) (h : RBox w rb rk rl d)
include h
set_option maxRecDepth 100000 in
theorem rburst_bad (s bit : Int) (p : Nat) (hb : ¬ (0 ≤ s ∧ s < (d.n : Nat)) ∨ bit < 0) : Calls Try.prog 23 #[.pointer (some ⟨rb, 0, none⟩), .int .i64 s, .int .i64 bit, .int .u32 p] w fun e w' => e = .returned (.bool false) ∧ w' = w := by
  obtain ⟨_, _, _, _, _, _, _, _, c0, _⟩ := h.at
  clear h
  by_cases h1 : s < 0
  · clear hb
    go_enter Try.func23, Try.ntmps23
    go_wp2
    go_ret
    exact ⟨rfl, rfl⟩
  by_cases h2 : s < (d.n : Nat)
  · have hbit : bit < 0 := hb.resolve_left (fun x => x ⟨by omega, h2⟩)
    clear hb
    go_enter Try.func23, Try.ntmps23
    go_wp2
    go_ret
    exact ⟨rfl, rfl⟩
  · have h3 : ((d.n : Nat) : Int) ≤ s := by omega
    clear hb
    go_enter Try.func23, Try.ntmps23
    go_wp2
    go_ret
    exact ⟨rfl, rfl⟩
set_option maxRecDepth 100000 in
set_option maxHeartbeats 4000000 in
theorem rburst_ok (s : Nat) (hs : s < d.n) (bit : Int) (hb0 : 0 ≤ bit) (hb1 : bit ≤ 9223372036854775807) (p : Nat) (hp : p < 4294967296) (hpl : d.pend.length ≤ 1000000) : Calls Try.prog 23 #[.pointer (some ⟨rb, 0, none⟩), .int .i64 (s : Nat), .int .i64 bit, .int .u32 p] w fun e w' => e = .returned (.bool true) ∧ RBox w' rb rk rl (burstD d s bit p) ∧ Frm (fun j => j = rk ∨ j = rl) w w' := by
  have H := Lib.hid h
  have hsz := h.ok.size
  have hnn := h.ok.n
  have hlt := h.lt
  have hkl := h.ok.kept
  have hm : (s + 1) * d.size ≤ d.n * d.size := Nat.mul_le_mul_right _ hs
  rw [Nat.add_mul, Nat.one_mul, ← hkl] at hm
  have hkm : d.kept.length ≤ 300000000 := by
    rw [hkl]
    exact Nat.le_trans (Nat.mul_le_mul hnn.2 hsz.2) (by decide)
  have hsl : (slS d.size d.kept s).length = d.size := by unfold slS; rw [List.length_take, List.length_drop]; omega
  obtain ⟨_, _, bc0, _, _, q3, _, _, c0, c1, c2, _⟩ := h.at
  have hcap : d.kept.length ≤ bc0 ∧ bc0 ≤ maxLen := by
    obtain ⟨_, ⟨e, _⟩ | ⟨g, cap, cur, e, _, _, a, b, _⟩⟩ := q3
    · cases e
    · injection e with _ _ e
      subst e
      exact ⟨a, b⟩
  obtain ⟨M, hM⟩ : ∃ M, s * d.size = M := ⟨_, rfl⟩
  rw [hM] at hm
  obtain ⟨T, hT⟩ : ∃ T, M + d.size = T := ⟨_, rfl⟩
  have hTT : (s + 1) * d.size = T := by rw [Nat.add_mul, Nat.one_mul, hM, hT]
  have hMi : ((s : Nat) : Int) * ((d.size : Nat) : Int) = ((M : Nat) : Int) := by rw [← hM, Int.natCast_mul]
  have hTi : (((s : Nat) : Int) + 1) * ((d.size : Nat) : Int) = ((T : Nat) : Int) := by rw [← hTT, Int.natCast_mul]; rfl
  have P1 := Lib.hid (show IntKind.i64.wrap (((s : Nat) : Int) * ((d.size : Nat) : Int)) = ((M : Nat) : Int) by rw [IntKind.wrap_i64, hMi]; omega)
  have P2 := Lib.hid (show IntKind.i64.wrap (((s : Nat) : Int) + 1) = ((s : Nat) : Int) + 1 by rw [IntKind.wrap_i64]; omega)
  have P3 := Lib.hid (show IntKind.i64.wrap ((((s : Nat) : Int) + 1) * ((d.size : Nat) : Int)) = ((T : Nat) : Int) by rw [IntKind.wrap_i64, hTi]; omega)
  have hrow : RdV w w.heap.size (.slice (some ⟨rk, M, none⟩) d.size (bc0 - M)) (bv (slS d.size d.kept s)) := by
    obtain ⟨A', c', e1, g1, g2, g3⟩ := RdV.own q3
    injection e1 with e1 e2 e3
    subst e1 e3
    obtain ⟨b, off, e4, hbB, hc⟩ := g3 (by rw [bv_length]; omega)
    injection e4 with e4
    injection e4 with e5 e6 _
    subst e5 e6
    refine ⟨_, _, by rw [bv_length, hsl], by rw [bv_length, hsl]; omega, by have := hcap.2; unfold maxLen at *; omega, fun _ => ⟨rk, M, rfl, hbB, fun j u hu => ?_⟩⟩
    have hj : j < d.size := by have := (List.getElem?_eq_some_iff.1 hu).1; rw [bv_length, hsl] at this; exact this
    have := hc (M + j) u (by
      rw [← hu]
      unfold slS bv
      rw [List.map_take, List.map_drop, List.getElem?_take, if_pos hj, List.getElem?_drop, hM])
    rw [Nat.zero_add] at this
    exact this
  have HROW := Lib.hid hrow
  have HM := Lib.hid hM
  have HT := Lib.hid hT
  have HKL := Lib.hid hkl
  have HSL := Lib.hid hsl
  have hM1 : M ≤ T := by omega
  have hM2 : T ≤ bc0 := by omega
  have hM3 : T - M = d.size := by omega
  have hM4 : ¬ bc0 = M := by omega
  have HC := Lib.hid (show ∀ w2, Grow w.drew w2 → w2.cell? ⟨rb, 1, none⟩ = some (.int .i64 (d.size : Nat)) ∧ w2.cell? ⟨rb, 2, none⟩ = some (.slice (some ⟨rk, 0, none⟩) d.kept.length bc0) from fun w2 hg => by
    have hb : w2.heap[rb]? = w.heap[rb]? := hg.block rb hlt.1
    exact ⟨(World.cell?_of_block (a := ⟨rb, 1, none⟩) hb).trans c1, (World.cell?_of_block (a := ⟨rb, 2, none⟩) hb).trans c2⟩)
  clear h hkl hsl hrow hM hT hTT hMi hTi q3 c1 c2 hm hkm
  go_enter Try.func23, Try.ntmps23
  go_upto_region 3 with (fail)
  clear c0
  refine region_ord (Grow w.drew) [false, false, false, false, false, false, false, false, false, false, false, false, false, false, false, false, false, false, false, false, true, false] (by kernel_rfl) (by kernel_rfl) (by kernel_rfl) (Grow.refl _) ?_
  iterate 3 (refine ord_val (by rfl) (by intro w hi; clear hi; go_simp; with_reducible rfl) (fun K hK => ?_); go_simp; refine hK _ ?_; clear hK K)
  (refine ord_val (by rfl) (by intro w hi; have z := (HC.out w hi).2; clear hi; go_simp; with_reducible rfl) (fun K hK => ?_); go_simp; refine hK _ ?_; clear hK K)
  iterate 4 (refine ord_val (by rfl) (by intro w hi; clear hi; go_simp; with_reducible rfl) (fun K hK => ?_); go_simp; refine hK _ ?_; clear hK K)
  (refine ord_val (by rfl) (by intro w hi; have z := (HC.out w hi).1; clear hi; go_simp; with_reducible rfl) (fun K hK => ?_); go_simp; refine hK _ ?_; clear hK K)
  (refine ord_val (by rfl) (by intro w hi; have p1 := P1.out; clear hi; go_simp; with_reducible rfl) (fun K hK => ?_); go_simp; refine hK _ ?_; clear hK K)
  (refine ord_val (by rfl) (by intro w hi; clear hi; go_simp; with_reducible rfl) (fun K hK => ?_); go_simp; refine hK _ ?_; clear hK K)
  (refine ord_val (by rfl) (by intro w hi; have p2 := P2.out; clear hi; go_simp; with_reducible rfl) (fun K hK => ?_); go_simp; refine hK _ ?_; clear hK K)
  iterate 3 (refine ord_val (by rfl) (by intro w hi; clear hi; go_simp; with_reducible rfl) (fun K hK => ?_); go_simp; refine hK _ ?_; clear hK K)
  (refine ord_val (by rfl) (by intro w hi; have z := (HC.out w hi).1; clear hi; go_simp; with_reducible rfl) (fun K hK => ?_); go_simp; refine hK _ ?_; clear hK K)
  (refine ord_val (by rfl) (by intro w hi; have p3 := P3.out; clear hi; go_simp; with_reducible rfl) (fun K hK => ?_); go_simp; refine hK _ ?_; clear hK K)
  iterate 3 (refine ord_val (by rfl) (by intro w hi; clear hi; go_simp; with_reducible rfl) (fun K hK => ?_); go_simp; refine hK _ ?_; clear hK K)
  refine ord_eff (by rfl) (fun K hK => ?_)
  refine gets_sem ?_
  go_simp
  refine Calls.mono (rburst_any _ (slS d.size d.kept s) bit p (by omega) hb1 hp (by rw [HSL.out]; omega) w.drew w.drew.heap.size (Nat.le_refl _) HROW.out) ?_
  rintro e w4 ⟨vb, rfl, ho4, hb4⟩
  have hbl : (burst (slS d.size d.kept s) bit p).length = d.size := by rw [burst_length]; exact HSL.out
  have hF4 : Frm (fun _ => False) w w4 := ((Frm.refl (fun _ => False) w).drew).trans (Frm.of_below hb4)
  have HR4 := Lib.hid (H.out.next hF4)
  have HF4 := Lib.hid hF4
  have hx4 : RdX (fun j => j = rk) w4 vb (bv (burst (slS d.size d.kept s) bit p)) := RdX.of_own ho4 (fun j hj e => by have : w.heap.size ≤ j := hj; omega)
  rw [hbl] at ho4
  obtain ⟨g4, c4, rfl⟩ := own_form2 ho4 (by omega)
  have HKK := Lib.hid (rkeep_any rb rk rl d w4 HR4.out s hs _ _ hx4 hbl)
  refine ⟨_, rfl, hb4, hK _ _ ?_⟩
  clear hK K ho4 hb4 hF4 hx4
  (refine ord_val (by rfl) (by intro w hi; clear hi; go_simp; with_reducible rfl) (fun K hK => ?_); go_simp; refine hK _ ?_; clear hK K)
  refine ord_nil ?_
  go_wp2_with fail
  refine HKK.out.mono ?_
  rintro e w5 ⟨rfl, hR5, hF5⟩
  obtain ⟨K1, hK1⟩ : ∃ K1, layP d.size d.kept (s, burst (slS d.size d.kept s) bit p) = K1 := ⟨_, rfl⟩
  rw [hK1] at hR5
  have HK1 := Lib.hid hK1
  have HR5 := Lib.hid hR5
  have HF5 := Lib.hid ((HF4.out.mono (fun j _ h => h.elim)).trans hF5 : Frm (fun j => j = rk) w w5)
  clear hK1 hR5 hF5
  go_wp2
  go_loopw [10] (fun i wx => ∃ k : Nat, k ≤ d.pend.length ∧ i = .int .i64 k ∧ RBox wx rb rk rl { d with kept := K1, pend := pendK d.pend s bit p k } ∧ Frm (fun j => j = rk ∨ j = rl) w wx) (fun i wx => d.pend.length - (intOf i).toNat)
  case atStart => exact ⟨0, by omega, rfl, by rw [pendK_zero]; exact HR5.out, HF5.out.mono fun j _ h => Or.inl h⟩
  case round =>
    obtain ⟨k, hk, rfl, hR, hF⟩ := hrel
    obtain ⟨keepV, lv, bc, r1, r2, r3, r4, r5, x0, x1, x2, c3, _, _, _, _, _, fr⟩ := hR.at
    by_cases hlt2 : k < d.pend.length
    · have hqk : (pendK d.pend s bit p k)[k]? = some d.pend[k] := by rw [pendK_get, if_neg (Nat.lt_irrefl k), List.getElem?_eq_getElem hlt2]
      have hnx := pendK_next d.pend s bit p k hlt2
      have hkp := pendK_keep d.pend s bit p k hlt2
      obtain ⟨cap, v, e1, y0, y1, hv⟩ := PRowR.cells (show PRowR wr (Own3X d.away rb rk rl) rl lv (pendK d.pend s bit p k) from r4) hqk
      subst e1
      rw [pendK_length] at c3
      have hql := hR.ok.pend _ (List.mem_of_getElem? hqk)
      have hltr := hR.lt
      obtain ⟨A2, c2, rfl, v1, v2, _⟩ := id hv
      have HV := Lib.hid hv
      have HQK := Lib.hid hqk
      have HNX := Lib.hid hnx
      have HKP := Lib.hid hkp
      have HQL := Lib.hid hql
      have HF := Lib.hid hF
      have HR := Lib.hid hR
      rw [bv_length] at v1 y1 HV
      rw [hql.2] at v1 y1 HV
      clear hv hqk hnx hkp hql hF hR r1 r2 r3 r4 r5 x0 x1 x2 fr
      obtain ⟨q, hq⟩ : ∃ q, d.pend[k] = q := ⟨_, rfl⟩
      rw [hq] at y0 HV HQK HNX HKP HQL
      obtain ⟨q1, qb⟩ := q
      simp only at y0 HV HQK HNX HKP HQL
      simp only at y1
      clear hq
      by_cases hqs : q1 = s
      · subst hqs
        have hrll : rl < wr.heap.size := HR.out.small
        have HC9 := Lib.hid (show ∀ w2, Grow wr.drew w2 → w2.cell? ⟨rb, 3, none⟩ = some (.slice (some ⟨rl, 0, none⟩) d.pend.length cap) ∧ w2.cell? ⟨rl, k * 2 + 1, none⟩ = some (.slice A2 d.size c2) from fun w2 hg => by
          have h1 : w2.heap[rb]? = wr.heap[rb]? := hg.block rb hltr.1
          have h2 : w2.heap[rl]? = wr.heap[rl]? := hg.block rl hrll
          exact ⟨(World.cell?_of_block (a := ⟨rb, 3, none⟩) h1).trans c3, (World.cell?_of_block (a := ⟨rl, k * 2 + 1, none⟩) h2).trans y1⟩)
        go_upto_region 9 with (fail)
        refine region_ordL (Grow wr.drew) true [false, false, false, false, false, false, false, false, false, false, false, false, false, false, false, true, false, false, false] (by kernel_rfl) (by kernel_rfl) (by kernel_rfl) (by kernel_rfl) (Grow.refl _) ?_
        iterate 3 (refine ord_val (by rfl) (by intro w hi; clear hi; go_simp; with_reducible rfl) (fun K hK => ?_); go_simp; refine hK _ ?_; clear hK K)
        (refine ord_val (by rfl) (by intro w hi; have z := (HC9.out w hi).1; clear hi; go_simp; with_reducible rfl) (fun K hK => ?_); go_simp; refine hK _ ?_; clear hK K)
        iterate 4 (refine ord_val (by rfl) (by intro w hi; clear hi; go_simp; with_reducible rfl) (fun K hK => ?_); go_simp; refine hK _ ?_; clear hK K)
        (refine ord_val (by rfl) (by intro w hi; have z := (HC9.out w hi).1; clear hi; go_simp; with_reducible rfl) (fun K hK => ?_); go_simp; refine hK _ ?_; clear hK K)
        iterate 3 (refine ord_val (by rfl) (by intro w hi; clear hi; go_simp; with_reducible rfl) (fun K hK => ?_); go_simp; refine hK _ ?_; clear hK K)
        (refine ord_val (by rfl) (by intro w hi; have z := (HC9.out w hi).2; clear hi; go_simp; with_reducible rfl) (fun K hK => ?_); go_simp; refine hK _ ?_; clear hK K)
        iterate 2 (refine ord_val (by rfl) (by intro w hi; clear hi; go_simp; with_reducible rfl) (fun K hK => ?_); go_simp; refine hK _ ?_; clear hK K)
        refine ord_eff (by rfl) (fun K hK => ?_)
        refine gets_sem ?_
        go_simp
        refine Calls.mono (rburst_any _ qb bit p (by omega) hb1 hp (by have := HQL.out.2; omega) wr.drew wr.drew.heap.size (Nat.le_refl _) (HV.out.rd)) ?_
        rintro e w7 ⟨v7, rfl, ho7, hb7⟩
        have hbl7 : (burst qb bit p).length = d.size := by rw [burst_length]; exact HQL.out.2
        have hF7 : Frm (fun _ => False) wr w7 := ((Frm.refl (fun _ => False) wr).drew).trans (Frm.of_below hb7)
        have hs7 := HR.out.small
        have ha7 := HR.out.away
        have hv7 : RdX (Own3X d.away rb rk rl) w7 v7 (bv (burst qb bit p)) := RdX.of_own2 ho7 (fun j hj _ => by
          have hjj : wr.heap.size ≤ j := hj
          rintro (e | e)
          · unfold Own3 at e; omega
          · have := ha7 j e; omega)
        obtain ⟨hD8, hF8, fr8, u8, cu8⟩ := HR.out.repend HQK.out (q' := (q1, burst qb bit p)) rfl hbl7 hF7 hv7
        rw [hbl7] at ho7
        obtain ⟨g7, c7, rfl⟩ := own_form2 ho7 (by omega)
        have HD8 := Lib.hid hD8
        have HF8 := Lib.hid hF8
        have HF7 := Lib.hid hF7
        refine ⟨_, rfl, hb7, hK _ _ ?_⟩
        clear hK K ho7 hb7 hv7 hD8 hF8 hF7
        iterate 2 (refine ord_val (by rfl) (by intro w hi; clear hi; go_simp; with_reducible rfl) (fun K hK => ?_); go_simp; refine hK _ ?_; clear hK K)
        refine ord_last (by rfl) ?_
        refine gets_sem ?_
        go_simp
        go_wp2
        go_roundw
        case rel =>
          refine ⟨k + 1, by omega, by go_num, ?_, HF.out.trans ((HF7.out.mono (fun _ _ h => h.elim)).trans (HF8.out.mono fun j _ h => Or.inr h))⟩
          have := HD8.out
          rw [HNX.out]
          unfold burP
          rw [if_pos rfl]
          exact this
        case measure => simp [intOf]; omega
      · have hqf : (((q1 : Nat) : Int) == ((s : Nat) : Int)) = false := by rw [beq_eq_false_iff_ne]; omega
        have HQS := Lib.hid hqs
        clear hqs
        go_wp2
        go_roundw
        case rel =>
          refine ⟨k + 1, by omega, by go_num, ?_, HF.out⟩
          rw [HKP.out HQS.out]
          exact HR.out
        case measure => simp [intOf]; omega
    · obtain rfl : k = d.pend.length := by omega
      rw [pendK_all] at hR
      obtain ⟨A3, c3v, rfl⟩ : ∃ A c, lv = .slice A d.pend.length c := by
        obtain ⟨xs, ho, _⟩ := r4
        rw [show ({ d with kept := K1, pend := pendK d.pend s bit p d.pend.length } : Dk).pend.length = d.pend.length from pendK_length _ _ _ _ _] at ho
        obtain ⟨_, ⟨e, h0⟩ | ⟨g, cap, _, e, _⟩⟩ := ho
        · exact ⟨none, 0, by rw [e]; exact congrArg (fun n => Value.slice none n 0) h0.symm⟩
        · exact ⟨_, _, e⟩
      have HR := Lib.hid hR
      have HF := Lib.hid hF
      clear hR hF r1 r2 r3 r4 r5 fr
      go_wp2
      go_ret
      refine ⟨rfl, ?_, HF.out⟩
      unfold burstD
      rw [HK1.out]
      exact HR.out
end
end Go.Proofs.Ytldmamcalfmedaa
