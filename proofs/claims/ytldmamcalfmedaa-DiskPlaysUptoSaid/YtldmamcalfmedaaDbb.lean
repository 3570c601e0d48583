/- The program's disk: Burst. Conditions: none. -/
import Derived.Test.YtldmamcalfmedaaDba
namespace Go.Proofs.Ytldmamcalfmedaa
open Go.ChangeShapes Go.WideShapes Go.ChangeAt Go.RowKit Go.Maps
set_option linter.unusedSimpArgs false
set_option linter.unusedVariables false
section
variable (db kb mb pb mm : Nat) (d : Dk) (w : World) (h : DBox w db kb mb pb mm d)
include h
set_option maxRecDepth 100000 in
theorem dburst_bad (s bit : Int) (p : Nat) (hb : ¬ (0 ≤ s ∧ s < (d.n : Nat)) ∨ bit < 0) : Calls Try.prog 22 #[.pointer (some ⟨db, 0, none⟩), .int .i64 s, .int .i64 bit, .int .u32 p] w fun e w' => e = .returned (.bool false) ∧ ∃ k, w' = w.drewN k := by
  have HH := Lib.hid (has_any db kb mb pb mm d w h s)
  by_cases h0 : 0 ≤ s ∧ s < (d.n : Nat)
  · rw [decide_eq_true h0] at HH
    have hbit : bit < 0 := hb.resolve_left (fun x => x h0)
    clear h hb h0
    go_enter Try.func22, Try.ntmps22
    go_wp2_with fail
    refine HH.out.mono ?_
    rintro e w2 ⟨rfl, k, rfl⟩
    go_wp2
    go_ret
    exact ⟨rfl, k, rfl⟩
  · rw [decide_eq_false h0] at HH
    clear h hb h0
    go_enter Try.func22, Try.ntmps22
    go_wp2_with fail
    refine HH.out.mono ?_
    rintro e w2 ⟨rfl, k, rfl⟩
    go_wp2
    go_ret
    exact ⟨rfl, k, rfl⟩
set_option maxRecDepth 100000 in
set_option maxHeartbeats 4000000 in
theorem dburst_ok (s : Nat) (hs : s < d.n) (bit : Int) (hb0 : 0 ≤ bit) (hb1 : bit ≤ 9223372036854775807) (p : Nat) (hp : p < 4294967296) (hpl : d.pend.length ≤ 1000000) : Calls Try.prog 22 #[.pointer (some ⟨db, 0, none⟩), .int .i64 (s : Nat), .int .i64 bit, .int .u32 p] w fun e w' => e = .returned (.bool true) ∧ DBox w' db kb mb pb mm (burstD d s bit p) ∧ Frm (fun j => j = kb ∨ j = pb) w w' := by
  have HH := Lib.hid (has_any db kb mb pb mm d w h (s : Nat))
  rw [decide_eq_true (by omega)] at HH
  have H := Lib.hid h
  have hsz := h.ok.size
  have hlt := h.lt
  have hkl := h.ok.kept
  have hm : (s + 1) * d.size ≤ d.n * d.size := Nat.mul_le_mul_right _ hs
  rw [Nat.add_mul, Nat.one_mul, ← hkl] at hm
  have HM := Lib.hid hm
  have HKL := Lib.hid hkl
  have hsl : (slS d.size d.kept s).length = d.size := by unfold slS; rw [List.length_take, List.length_drop]; omega
  have HSL := Lib.hid hsl
  clear h hkl hm hsl
  go_enter Try.func22, Try.ntmps22
  go_wp2_with fail
  refine HH.out.mono ?_
  rintro e w1 ⟨rfl, k1, hk1⟩
  have hF1 : Frm (fun _ => False) w w1 := by rw [hk1]; exact Frm.drewN _ _
  have HD1 := Lib.hid (H.out.next hF1)
  have HF1 := Lib.hid hF1
  clear hk1 hF1
  go_upto_region 3 with (fail)
  refine wp_region_lit ?_
  iterate 2 (refine wpList_plain rfl fun K hK => ?_; go_simp; refine hK _ _ ?_; clear hK K)
  refine wpList_plain rfl fun K hK => ?_
  go_simp
  refine Calls.mono (at_any db kb mb pb mm d w1 HD1.out s hs) ?_
  rintro e w2 ⟨rfl, k2, hk2⟩
  have hF2 : Frm (fun _ => False) w1 w2 := by rw [hk2]; exact Frm.drewN _ _
  have HD2 := Lib.hid (HD1.out.next hF2)
  have HF2 := Lib.hid (HF1.out.trans hF2)
  clear hk2 hF2
  refine hK _ _ ?_
  clear hK K
  iterate 2 (refine wpList_plain rfl fun K hK => ?_; go_simp; refine hK _ _ ?_; clear hK K)
  refine wpList_plain rfl fun K hK => ?_
  go_simp
  refine Calls.mono (at_any db kb mb pb mm d w2 HD2.out s hs) ?_
  rintro e w3 ⟨rfl, k3, hk3⟩
  have hF3 : Frm (fun _ => False) w2 w3 := by rw [hk3]; exact Frm.drewN _ _
  have HD3 := Lib.hid (HD2.out.next hF3)
  have HF3 := Lib.hid (HF2.out.trans hF3)
  clear hk3 hF3
  refine hK _ _ ?_
  clear hK K
  iterate 2 (refine wpList_plain rfl fun K hK => ?_; go_simp; refine hK _ _ ?_; clear hK K)
  obtain ⟨keepV, pv, kc, q1, q2, q3, q4, q5, x0⟩ := HD3.out.at
  have hrow : RdV w3 w3.heap.size (.slice (some ⟨kb, s * d.size, none⟩) d.size d.size) (bv (slS d.size d.kept s)) := by
    have h1 := RdV.own q3
    have hcap : d.kept.length ≤ kc := by
      obtain ⟨_, ⟨e, _⟩ | ⟨g, cap, cur, e, _, _, a, b, _⟩⟩ := q3
      · cases e
      · injection e with _ _ e
        subst e
        exact a
    obtain ⟨A', c', e1, g1, g2, g3⟩ := id h1
    injection e1 with e1 e2 e3
    subst e1 e3
    have hmm := HM.out
    obtain ⟨b, off, e4, hbB, hc⟩ := g3 (by rw [bv_length]; omega)
    injection e4 with e4
    injection e4 with e5 e6 _
    subst e5 e6
    refine ⟨_, _, by rw [bv_length, HSL.out], by rw [bv_length, HSL.out]; exact Nat.le_refl _, by unfold maxLen; omega, fun _ => ⟨kb, s * d.size, rfl, hbB, fun j u hu => ?_⟩⟩
    have hj : j < d.size := by have := (List.getElem?_eq_some_iff.1 hu).1; rw [bv_length, HSL.out] at this; exact this
    have := hc (s * d.size + j) u (by
      rw [← hu]
      unfold slS bv
      rw [List.map_take, List.map_drop, List.getElem?_take, if_pos hj, List.getElem?_drop])
    rw [Nat.zero_add] at this
    exact this
  have HBU := Lib.hid (burst_any _ (slS d.size d.kept s) bit p (by omega) hb1 hp (by rw [HSL.out]; omega) w3 w3.heap.size (Nat.le_refl _) hrow)
  have Q3 := Lib.hid q3
  clear q1 q2 q3 q4 q5 x0 hrow
  refine wpList_plain rfl fun K hK => ?_
  go_simp
  refine Calls.mono HBU.out ?_
  rintro e w4 ⟨vb, rfl, ho4, hb4⟩
  have HF4 := Lib.hid (Frm.of_below hb4 : Frm (fun _ => False) w3 w4)
  have HD4 := Lib.hid (HD3.out.next HF4.out)
  have Q4 := Lib.hid (own_keep Q3.out (fun g hg => by injection hg with hg; subst hg; exact HF4.out.block _ HD3.out.lt.2.1 id))
  have HV4 := Lib.hid (RdV.own ho4)
  refine hK _ _ ?_
  clear hK K ho4 hb4
  have hbl : (burst (slS d.size d.kept s) bit p).length = d.size := by rw [burst_length]; exact HSL.out
  refine wpList_copy_mid rfl (.tmp 21) (.tmp 27) 32 32 (by rfl) 0 5 (.int .u8 0) 1 Try.underlying32 inf8 rfl kb (s * d.size) d.kept.length kc d.size d.size (bv d.kept) (by rfl) Q4.out vb (by rfl) w4.heap.size (bv (burst (slS d.size d.kept s) bit p)) HV4.out (by rw [bv_length]; exact hbl) (by omega) (by have := HM.out; omega) (bv_one _) ?_
  intro w5 ho5 hg5
  have hlay := bv_lay d.size d.kept (s, burst (slS d.size d.kept s) bit p)
  rw [← hlay] at ho5
  obtain ⟨K1, hK1⟩ : ∃ K1, layP d.size d.kept (s, burst (slS d.size d.kept s) bit p) = K1 := ⟨_, rfl⟩
  have hKl : K1.length = d.kept.length := by
    rw [← hK1]
    exact (layP_length (n := d.n) HKL.out hs hbl).trans HKL.out.symm
  rw [hK1] at ho5
  have hD5 : DBox w5 db kb mb pb mm { d with kept := K1 } := HD4.out.lay (Frm.of_grown hg5) K1 hKl (fun kc2 ho2 => by
    obtain rfl := own_cap_eq Q4.out ho2
    exact ho5)
  have HD5 := Lib.hid hD5
  have HF5 := Lib.hid ((HF3.out.trans HF4.out).mono (fun j _ h => h.elim) |>.trans (Frm.of_grown hg5) : Frm (fun j => j = kb) w w5)
  have HK1 := Lib.hid hK1
  clear hD5 hlay ho5 hg5 hK1 hKl
  refine wpList_nil ?_
  obtain ⟨keepV5, pv5, kc5, _, _, _, q45, _, _, _, _, _, _, _, c65, _⟩ := HD5.out.at
  obtain ⟨Ap, cp, rfl⟩ : ∃ A c, pv5 = .slice A d.pend.length c := by
    obtain ⟨xs, ho, _⟩ := q45
    obtain ⟨_, ⟨e, h0⟩ | ⟨g, cap, _, e, _⟩⟩ := ho
    · exact ⟨none, 0, by rw [e]; exact congrArg (fun n => Value.slice none n 0) (show d.pend.length = 0 from h0).symm⟩
    · exact ⟨_, _, e⟩
  clear q45
  have C65 := Lib.hid c65
  go_wp2
  clear c65
  go_loopw [34] (fun i wx => ∃ k : Nat, k ≤ d.pend.length ∧ i = .int .i64 k ∧ DBox wx db kb mb pb mm { d with kept := K1, pend := pendK d.pend s bit p k } ∧ wx.cell? ⟨db, 6, none⟩ = some (.slice Ap d.pend.length cp) ∧ Frm (fun j => j = kb ∨ j = pb) w wx) (fun i wx => d.pend.length - (intOf i).toNat)
  case atStart => exact ⟨0, by omega, rfl, by rw [pendK_zero]; exact HD5.out, C65.out, HF5.out.mono fun j _ h => Or.inl h⟩
  case round =>
    obtain ⟨k, hk, rfl, hD, hc6, hF⟩ := hrel
    by_cases hlt2 : k < d.pend.length
    · have hqk : (pendK d.pend s bit p k)[k]? = some d.pend[k] := by rw [pendK_get, if_neg (Nat.lt_irrefl k), List.getElem?_eq_getElem hlt2]
      have hnx := pendK_next d.pend s bit p k hlt2
      have hkp := pendK_keep d.pend s bit p k hlt2
      obtain ⟨keepV, pv, kc, r1, r2, r3, r4, r5, _, _, _, _, _, _, c6, _⟩ := hD.at
      obtain ⟨cap, v, e1, y0, y1, hv⟩ := PRow.cells (show PRow wr (OwnX d.away db kb mb pb) pb pv (pendK d.pend s bit p k) from r4) hqk
      have e2 := c6.symm.trans hc6
      rw [e1] at e2
      injection e2 with e2
      injection e2 with e2 e3 e4
      subst e2 e4
      have hql := hD.ok.pend _ (List.mem_of_getElem? hqk)
      have hne := (hD.ne.2.2.2 (fun e => by rw [show pendK d.pend s bit p k = [] from e] at hqk; cases hqk)).1
      have hltr := hD.lt
      have hfa : Frm (fun _ => False) wr (wr.alloc (.cells #[.int .i64 (d.pend[k].1 : Nat), v] 76)) := (Frm.refl (fun _ => False) wr).alloc _
      have hx := heap_alloc_new wr (.cells #[.int .i64 (d.pend[k].1 : Nat), v] 76)
      obtain ⟨A2, c2, rfl, v1, v2, _⟩ := id hv
      have HV := Lib.hid hv
      have HQK := Lib.hid hqk
      have HNX := Lib.hid hnx
      have HKP := Lib.hid hkp
      have HQL := Lib.hid hql
      have HFA := Lib.hid hfa
      have HX := Lib.hid hx
      have HF := Lib.hid hF
      have HD := Lib.hid hD
      rw [bv_length] at v1 y1 HX HFA HV
      rw [hql.2] at v1 y1 HX HFA HV
      clear hv hqk hnx hkp hql hfa hx hF hD r1 r2 r3 r4 r5 c6 e1 e3
      obtain ⟨q, hq⟩ : ∃ q, d.pend[k] = q := ⟨_, rfl⟩
      rw [hq] at y0 HX HFA HV HQK HNX HKP HQL
      obtain ⟨q1, qb⟩ := q
      simp only at y0 HX HFA HV HQK HNX HKP HQL
      clear hq
      by_cases hqs : q1 = s
      · subst hqs
        go_upto_region 8 with (fail)
        generalize wr.alloc (.cells #[.int .i64 (q1 : Nat), .slice A2 d.size c2] 76) = W6 at HX HFA ⊢
        have hzz := HFA.out.size
        have C6 := Lib.hid (show W6.cell? ⟨db, 6, none⟩ = some (.slice (some ⟨pb, 0, none⟩) d.pend.length cap) from (World.cell?_of_block (a := ⟨db, 6, none⟩) (HFA.out.block db hltr.1 id)).trans hc6)
        have T1 := Lib.hid (cell_of_row W6 wr.heap.size 1 _ _ _ HX.out)
        refine region_ordL (Grow W6.drew) true [false, false, false, false, false, false, false, false, false, true, false, false, false] (by kernel_rfl) (by kernel_rfl) (by kernel_rfl) (by kernel_rfl) (Grow.refl _) ?_
        iterate 3 (refine ord_val (by rfl) (by intro w hi; clear hi; go_simp; with_reducible rfl) (fun K hK => ?_); go_simp; refine hK _ ?_; clear hK K)
        (refine ord_val (by rfl) (by intro w hi; have z := (World.cell?_of_block (a := ⟨db, 6, none⟩) (hi.block db (show db < W6.heap.size by omega))).trans C6.out; clear hi; go_simp; with_reducible rfl) (fun K hK => ?_); go_simp; refine hK _ ?_; clear hK K)
        iterate 2 (refine ord_val (by rfl) (by intro w hi; clear hi; go_simp; with_reducible rfl) (fun K hK => ?_); go_simp; refine hK _ ?_; clear hK K)
        (refine ord_val (by rfl) (by intro w hi; have z := (World.cell?_of_block (a := ⟨wr.heap.size, 1, none⟩) (hi.block wr.heap.size (show wr.heap.size < W6.heap.size by have := lt_of_cell T1.out; exact this))).trans T1.out; clear hi; go_simp; with_reducible rfl) (fun K hK => ?_); go_simp; refine hK _ ?_; clear hK K)
        iterate 2 (refine ord_val (by rfl) (by intro w hi; clear hi; go_simp; with_reducible rfl) (fun K hK => ?_); go_simp; refine hK _ ?_; clear hK K)
        refine ord_eff (by rfl) (fun K hK => ?_)
        refine gets_sem ?_
        go_simp
        refine Calls.mono (burst_any _ qb bit p (by omega) hb1 hp (by have := HQL.out.2; omega) W6.drew W6.drew.heap.size (Nat.le_refl _) ((HV.out.frm HFA.out (fun j h => h.elim)).rd)) ?_
        rintro e w7 ⟨v7, rfl, ho7, hb7⟩
        have hbl7 : (burst qb bit p).length = d.size := by rw [burst_length]; exact HQL.out.2
        have hF7 : Frm (fun _ => False) wr w7 := HFA.out.trans (((Frm.refl (fun _ => False) W6).drew).trans (Frm.of_below hb7))
        have hs7 := HD.out.small
        have ha7 := HD.out.away
        have hv7 : RdX (OwnX d.away db kb mb pb) w7 v7 (bv (burst qb bit p)) := RdX.of_own2 ho7 (fun j hj _ => OwnX.no (by have : W6.heap.size ≤ j := hj; unfold Own; omega) (fun e => by have := ha7 j e; have : W6.heap.size ≤ j := hj; omega))
        obtain ⟨hD8, hF8, fr8, u8, cu8⟩ := HD.out.repend HQK.out (q' := (q1, burst qb bit p)) rfl hbl7 hF7 hv7
        rw [hbl7] at ho7
        obtain ⟨g7, c7, rfl⟩ := own_form2 ho7 (by omega)
        have HD8 := Lib.hid hD8
        have HF8 := Lib.hid hF8
        have HF7 := Lib.hid hF7
        refine ⟨_, rfl, hb7, hK _ _ ?_⟩
        clear hK K ho7 hb7 hv7 hD8 hF8 hF7
        iterate 2 (refine ord_val (by rfl) (by intro w hi; clear hi; go_simp; with_reducible rfl) (fun K hK => ?_); go_simp; refine hK _ ?_; clear hK K)
        refine ord_last (by rfl) ?_
        refine gets_sem ?_
        go_simp
        go_wp2
        go_roundw
        case rel =>
          refine ⟨k + 1, by omega, by go_num, ?_, ?_, HF.out.trans ((HF7.out.mono (fun _ _ h => h.elim)).trans (HF8.out.mono fun j _ h => Or.inr h))⟩
          · have := HD8.out
            rw [HNX.out]
            unfold burP
            rw [if_pos rfl]
            exact this
          · exact (World.cell?_of_block (a := ⟨db, 6, none⟩) ((HF8.out.block db (by have := HF7.out.size; omega) (fun e => hne e.symm)).trans (HF7.out.block db hltr.1 id))).trans hc6
        case measure => simp [intOf]; omega
      · have hqf : (((q1 : Nat) : Int) == ((s : Nat) : Int)) = false := by rw [beq_eq_false_iff_ne]; omega
        have HQS := Lib.hid hqs
        clear hqs
        go_wp2
        go_roundw
        case rel =>
          refine ⟨k + 1, by omega, by go_num, ?_, (World.cell?_of_block (a := ⟨db, 6, none⟩) (HFA.out.block db hltr.1 id)).trans hc6, HF.out.trans (HFA.out.mono (fun _ _ h => h.elim))⟩
          rw [HKP.out HQS.out]
          exact HD.out.next HFA.out
        case measure => simp [intOf]; omega
    · obtain rfl : k = d.pend.length := by omega
      rw [pendK_all] at hD
      have HD := Lib.hid hD
      have HF := Lib.hid hF
      clear hD hF
      go_wp2
      go_ret
      refine ⟨rfl, ?_, HF.out⟩
      unfold burstD
      rw [HK1.out]
      exact HD.out
end
end Go.Proofs.Ytldmamcalfmedaa
