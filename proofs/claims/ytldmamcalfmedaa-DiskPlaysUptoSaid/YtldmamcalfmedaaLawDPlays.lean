/- The law DiskPlays answers true for any shape and any acts that hold together at most 1048576 values: each answer, and what is kept, pending, read, behind each, is the document's. Conditions: that bound. -/
import Derived.Test.YtldmamcalfmedaaDkn
import Derived.Test.YtldmamcalfmedaaDpl
import Derived.JoinedCond
namespace Go.Proofs.Ytldmamcalfmedaa.lawDiskPlays
open Go.ChangeShapes Go.WideShapes Go.ChangeAt Go.RowKit Go.Maps
set_option linter.unusedSimpArgs false
set_option linter.unusedVariables false

theorem own : ownKnob Try.prog.godebug = none := by kernel_rfl
theorem laid : laidOutB Try.prog = true := by kernel_rfl

/-- the act that a play has taken out -/
def ActIn (tb : Nat) (x : Ac) (uB uK : Value) (w : World) : Prop := w.heap[tb]? = some (.cells #[.int .i64 x.op, .int .i64 x.sec, .int .u8 x.fill, uB, .int .i64 x.n, uK, .int .u32 x.pat] 36 (0, 0))
theorem ActIn.keep {tb : Nat} {x : Ac} {uB uK : Value} {w w' : World} (h : ActIn tb x uB uK w) (hk : w'.heap[tb]? = w.heap[tb]?) : ActIn tb x uB uK w' := hk.trans h
theorem ActIn.lt {tb : Nat} {x : Ac} {uB uK : Value} {w : World} (h : ActIn tb x uB uK w) : tb < w.heap.size := by
  rcases Nat.lt_or_ge tb w.heap.size with h5 | h5
  · exact h5
  · unfold ActIn at h; rw [Array.getElem?_eq_none h5] at h; cases h
theorem AcAt.below {w w' : World} {C b o : Nat} {x : Ac} {uB uK : Value} (h : AcAt w C b o x uB uK) (hbc : b < C) (hb : Below C w w') : AcAt w' C b o x uB uK := by
  obtain ⟨g0, g1, g2, g3, g4, g5, g6, rB, rK⟩ := h
  have hk : ∀ o, w'.cell? ⟨b, o, none⟩ = w.cell? ⟨b, o, none⟩ := fun o => World.cell?_of_block (a := ⟨b, o, none⟩) (hb.block b hbc)
  exact ⟨(hk _).trans g0, (hk _).trans g1, (hk _).trans g2, (hk _).trans g3, (hk _).trans g4, (hk _).trans g5, (hk _).trans g6, rB.below hb, rK.below hb⟩
theorem bdrewN {B : Nat} {w0 w : World} (h : Below B w0 w) (hB : B ≤ w.heap.size) (k : Nat) : Below B w0 (w.drewN k) := h.trans ((Frm.drewN (O := fun _ => False) _ k).below (fun _ h => h.elim) hB)
set_option maxRecDepth 100000 in
set_option maxHeartbeats 32000000 in
theorem walk {W0 : World} (sectors : Int) (ws : (Lit.int .i64 sectors).wf = true) (size : Int) (wz : (Lit.int .i64 size).wf = true) (v2 : Value) (l : List Ac) (hl : RdAc W0 W0.heap.size v2 l) (hwl : ∀ x ∈ l, x.wf) (hsl : acW l + l.length ≤ 1048576) (w : World) (hw : W0 = w) :
    Calls Try.prog 3 #[.int .i64 sectors, .int .i64 size, v2] w fun e w' => e = .returned (.bool true) ∧ Below w.heap.size w w' := by
  subst hw
  have HK := Lib.hid (known_any W0)
  have HL := Lib.hid hl
  obtain ⟨Al, cl, rfl, hl1, hl2, _⟩ := hl
  have hs' : -9223372036854775808 ≤ sectors ∧ sectors ≤ 9223372036854775807 := by simp [Lit.wf, IntKind.min, IntKind.max, IntKind.signed, IntKind.bits] at ws; omega
  have hz' : -9223372036854775808 ≤ size ∧ size ≤ 9223372036854775807 := by simp [Lit.wf, IntKind.min, IntKind.max, IntKind.signed, IntKind.bits] at wz; omega
  clear ws wz
  go_enter Try.func3, Try.ntmps3
  go_wp2_with fail
  refine HK.out.mono ?_
  rintro e w1 ⟨rfl, hbl1⟩
  have HB1 := Lib.hid hbl1
  have FL := few_any _ l w1 W0.heap.size (HL.out.below hbl1) hsl
  clear hbl1
  by_cases cl0 : ¬ (l.length ≤ 200 ∧ acW l ≤ 32768)
  · rw [decide_eq_false cl0] at FL
    have FL := Lib.hid FL
    clear cl0
    go_wp2_with fail
    refine FL.out.mono ?_
    rintro e w2 ⟨rfl, k, rfl⟩
    go_wp2
    go_ret
    exact ⟨rfl, bdrewN HB1.out HB1.out.size k⟩
  rw [Decidable.not_not] at cl0
  rw [decide_eq_true cl0] at FL
  have FL := Lib.hid FL
  go_wp2_with fail
  refine FL.out.mono ?_
  rintro e w2 ⟨rfl, k2, hk2⟩
  have HB2 := Lib.hid (show Below W0.heap.size W0 w2 by rw [hk2]; exact bdrewN HB1.out HB1.out.size k2)
  clear hk2
  by_cases s1 : 100 < sectors
  · by_cases s2 : sectors ≤ 65536
    · go_wp2
      go_ret
      exact ⟨rfl, HB2.out⟩
    · have hbad : badNew sectors size := Or.inr (Or.inl (by omega))
      by_cases z1 : 512 < size
      · by_cases z2 : size ≤ 4096
        · go_wp2
          go_ret
          exact ⟨rfl, HB2.out⟩
        · have HD := Lib.hid (dnew_bad sectors size hbad w2)
          have HR := Lib.hid (rnew_bad sectors size hbad w2)
          go_wp2_with fail
          refine HD.out.mono ?_
          rintro e w3 ⟨rfl, rfl⟩
          go_wp2_with fail
          refine HR.out.mono ?_
          rintro e w3 ⟨rfl, rfl⟩
          go_wp2
          go_ret
          exact ⟨rfl, HB2.out⟩
      · have HD := Lib.hid (dnew_bad sectors size hbad w2)
        have HR := Lib.hid (rnew_bad sectors size hbad w2)
        go_wp2_with fail
        refine HD.out.mono ?_
        rintro e w3 ⟨rfl, rfl⟩
        go_wp2_with fail
        refine HR.out.mono ?_
        rintro e w3 ⟨rfl, rfl⟩
        go_wp2
        go_ret
        exact ⟨rfl, HB2.out⟩
  by_cases z1 : 512 < size
  · by_cases z2 : size ≤ 4096
    · go_wp2
      go_ret
      exact ⟨rfl, HB2.out⟩
    · have hbad : badNew sectors size := Or.inr (Or.inr (Or.inr (by omega)))
      have HD := Lib.hid (dnew_bad sectors size hbad w2)
      have HR := Lib.hid (rnew_bad sectors size hbad w2)
      go_wp2_with fail
      refine HD.out.mono ?_
      rintro e w3 ⟨rfl, rfl⟩
      go_wp2_with fail
      refine HR.out.mono ?_
      rintro e w3 ⟨rfl, rfl⟩
      go_wp2
      go_ret
      exact ⟨rfl, HB2.out⟩
  by_cases hbad : badNew sectors size
  · have HD := Lib.hid (dnew_bad sectors size hbad w2)
    have HR := Lib.hid (rnew_bad sectors size hbad w2)
    go_wp2_with fail
    refine HD.out.mono ?_
    rintro e w3 ⟨rfl, rfl⟩
    go_wp2_with fail
    refine HR.out.mono ?_
    rintro e w3 ⟨rfl, rfl⟩
    go_wp2
    go_ret
    exact ⟨rfl, HB2.out⟩
  · have hg : 1 ≤ sectors ∧ 64 ≤ size := by unfold badNew at hbad; omega
    clear hbad
    obtain ⟨N, rfl⟩ := Int.eq_ofNat_of_zero_le (show 0 ≤ sectors by omega)
    obtain ⟨S, rfl⟩ := Int.eq_ofNat_of_zero_le (show 0 ≤ size by omega)
    have hN : 1 ≤ N ∧ N ≤ 100 := by omega
    have hS : 64 ≤ S ∧ S ≤ 512 := by omega
    have HD := Lib.hid (dnew_ok N S (by omega) (by omega) w2)
    go_wp2_with fail
    refine HD.out.mono ?_
    rintro e w3 ⟨db, kb, mb, g1, g2, g3, rfl, hD3, hb3⟩
    have HB3 := Lib.hid (HB2.out.trans (hb3.mono HB2.out.size))
    have HD3 := Lib.hid hD3
    have HR := Lib.hid (rnew_ok N S (by omega) (by omega) w3)
    have hl3 := hD3.lt
    have hm3 := hD3.small
    clear hD3 hb3
    go_wp2_with fail
    refine HR.out.mono ?_
    rintro e w4 ⟨rb, rk, k1, k2, rfl, hR4, hb4⟩
    have hz2 := HB2.out.size
    have hz3 := HB3.out.size
    have HB4 := Lib.hid (HB3.out.trans (hb4.mono HB3.out.size))
    have hJ4 := JBox.made (HD3.out.next (Frm.of_below hb4)) hR4 rfl rfl (by unfold Own Own3; omega)
    have HBS := Lib.hid (show Bases db kb mb rb rk W0.heap.size from ⟨by omega, by omega, by omega, by omega, by omega⟩)
    have hl4 := hR4.lt
    have HJ4 := Lib.hid hJ4
    clear hR4 hb4 hJ4
    have HP4 := Lib.hid (show PI0 db kb mb rb rk W0.heap.size N S (2 * 0) w4 from ⟨db, 0, rb, _, _, HJ4.out, Nat.le_refl _, by omega, by omega, rfl, rfl, Nat.le_refl _, (show (0 : Int) ≤ 0 ∧ (0 : Int) ≤ ((2 * 0 : Nat) : Int) by omega), (show (0 : Int) ≤ 0 ∧ (0 : Int) ≤ ((2 * 0 : Nat) : Int) by omega), fun e => (by cases e), by
      show ∀ j, Own db kb mb db j ∨ Own3 rb rk rb j → W0.heap.size ≤ j
      unfold Own Own3
      omega⟩)
    go_wp2
    go_loopw [11] (fun i wx => ∃ q : Nat, q ≤ l.length ∧ i = .int .i64 q ∧ PI0 db kb mb rb rk W0.heap.size N S (2 * q) wx ∧ Below W0.heap.size W0 wx) (fun i wx => l.length - (intOf i).toNat)
    case atStart => exact ⟨0, by omega, rfl, HP4.out, HB4.out⟩
    case round =>
      obtain ⟨q, hq, rfl, hP, hB⟩ := hrel
      by_cases hlt : q < l.length
      · have hwq := hwl l[q] (List.getElem_mem hlt)
        have hwk : l[q].B.length + l[q].K.length ≤ acW l := by
          have h1 := acW_take l q hlt
          have h2 := acW_le l (q + 1)
          omega
        obtain ⟨b, off, uB, uK, rfl, hbc, hA⟩ := HL.out.get (i := q) (x := l[q]) (List.getElem?_eq_getElem hlt)
        have hC := AcAt.below hA hbc hB
        obtain ⟨_, _, _, _, _, _, _, hrB, hrK⟩ := hA
        generalize l[q] = x at hwq hC hwk hrB hrK
        obtain ⟨op, sec, fill, B, nn, kl, pat⟩ := x
        obtain ⟨y0, y1, y2, y3, y4, y5, y6, _, _⟩ := hC
        obtain ⟨AB, cB, rfl, hcB, _⟩ := id hrB
        obtain ⟨AK, cK, rfl, hcK, _⟩ := id hrK
        simp only at y0 y1 y2 y3 y4 y5 y6 hrB hrK hwk
        rw [bv_length] at y3 hrB
        rw [boolV_length] at y5 hrK
        have HWF := Lib.hid hwq
        obtain ⟨i0, i1, i2, i3, i4⟩ := hwq
        simp only [I64] at i0 i1 i2 i3 i4
        obtain ⟨pt, rfl⟩ := Int.eq_ofNat_of_zero_le i4.1
        have HRB := Lib.hid hrB
        have HRK := Lib.hid hrK
        have HX := Lib.hid (heap_alloc_new wr (.cells #[.int .i64 op, .int .i64 sec, .int .u8 fill, .slice AB B.length cB, .int .i64 nn, .slice AK kl.length cK, .int .u32 (pt : Int)] 36))
        have HFA := Lib.hid ((Frm.refl (fun _ => False) wr).alloc (.cells #[.int .i64 op, .int .i64 sec, .int .u8 fill, .slice AB B.length cB, .int .i64 nn, .slice AK kl.length cK, .int .u32 (pt : Int)] 36))
        have HP6 := Lib.hid (hP.fresh (.cells #[.int .i64 op, .int .i64 sec, .int .u8 fill, .slice AB B.length cB, .int .i64 nn, .slice AK kl.length cK, .int .u32 (pt : Int)] 36))
        have HB6 := Lib.hid (hB.trans (HFA.out.below (B := W0.heap.size) (fun _ h => h.elim) hB.size))
        clear hrB hrK hP hB
        by_cases o1 : op = 1
        · subst o1
          go_upto_region 17 with (fail)
          generalize wr.alloc (.cells #[.int .i64 1, .int .i64 sec, .int .u8 fill, .slice AB B.length cB, .int .i64 nn, .slice AK kl.length cK, .int .u32 (pt : Int)] 36) = W6 at HX HFA HP6 HB6 ⊢
          have HA6 := Lib.hid (show ActIn wr.heap.size ⟨1, sec, fill, B, nn, kl, (pt : Int)⟩ (.slice AB B.length cB) (.slice AK kl.length cK) W6 from HX.out)
          have htb := ActIn.lt HA6.out
          have c0 := cell_of_row W6 wr.heap.size 0 _ _ _ (show W6.heap[wr.heap.size]? = some _ from HA6.out)
          obtain ⟨c, Mid, PW1, PW2⟩ := pwrite HBS.out HP6.out HB6.out.size (by omega) sec (dataB ⟨1, sec, fill, B, nn, kl, (pt : Int)⟩ S)
          refine region_ord (fun w => ActIn wr.heap.size ⟨1, sec, fill, B, nn, kl, (pt : Int)⟩ (.slice AB B.length cB) (.slice AK kl.length cK) w ∧ Below W0.heap.size W0 w) [false, false, false, false, false, true, true, false, false, false, false, false, true, true, false] (by kernel_rfl) (by kernel_rfl) (by kernel_rfl) (⟨HA6.out, HB6.out.drew⟩) ?_
          iterate 2 (refine ord_val (by rfl) (by intro w hi; clear hi; go_simp; with_reducible rfl) (fun K hK => ?_); go_simp; refine hK _ ?_; clear hK K)
          (refine ord_val (by rfl) (by intro w hi; have z := cell_of_row w wr.heap.size 1 _ _ _ (show w.heap[wr.heap.size]? = some _ from hi.1); clear hi; go_simp; with_reducible rfl) (fun K hK => ?_); go_simp; refine hK _ ?_; clear hK K)
          (refine ord_val (by rfl) (by intro w hi; have z0 := cell_of_row w wr.heap.size 0 _ _ _ (show w.heap[wr.heap.size]? = some _ from hi.1); have z1 := cell_of_row w wr.heap.size 1 _ _ _ (show w.heap[wr.heap.size]? = some _ from hi.1); have z2 := cell_of_row w wr.heap.size 2 _ _ _ (show w.heap[wr.heap.size]? = some _ from hi.1); have z3 := cell_of_row w wr.heap.size 3 _ _ _ (show w.heap[wr.heap.size]? = some _ from hi.1); have z4 := cell_of_row w wr.heap.size 4 _ _ _ (show w.heap[wr.heap.size]? = some _ from hi.1); have z5 := cell_of_row w wr.heap.size 5 _ _ _ (show w.heap[wr.heap.size]? = some _ from hi.1); have z6 := cell_of_row w wr.heap.size 6 _ _ _ (show w.heap[wr.heap.size]? = some _ from hi.1); clear hi; go_simp; with_reducible rfl) (fun K hK => ?_); go_simp; refine hK _ ?_; clear hK K)
          (refine ord_val (by rfl) (by intro w hi; clear hi; go_simp; with_reducible rfl) (fun K hK => ?_); go_simp; refine hK _ ?_; clear hK K)
          refine ord_eff (by rfl) (fun K hK => ?_)
          refine gets_sem ?_
          go_simp
          refine Calls.mono (data_any ⟨1, sec, fill, B, nn, kl, (pt : Int)⟩ HWF.out (.slice AB B.length cB) (.slice AK kl.length cK) S (by omega) W6.drew W0.heap.size HB6.out.drew.size (HRB.out.below HB6.out.drew)) ?_
          rintro e w7 ⟨v7, rfl, hx7, hb7⟩
          have hF7 : Frm (fun _ => False) W6 w7 := ((Frm.refl (fun _ => False) W6).drew).trans (Frm.of_below hb7)
          have HA7 := Lib.hid (ActIn.keep HA6.out (hF7.block _ htb id))
          have HB7 := Lib.hid (HB6.out.trans (hF7.below (B := W0.heap.size) (fun _ h => h.elim) HB6.out.size))
          have PW := Lib.hid (PW1 w7 v7 hF7 hx7)
          refine ⟨_, rfl, ⟨HA7.out, HB7.out⟩, hK _ _ ?_⟩
          clear hK K hx7 hb7
          refine ord_eff (by rfl) (fun K hK => ?_)
          refine gets_sem ?_
          go_simp
          refine Calls.mono PW.out ?_
          rintro e w8 ⟨rfl, hM8, hS8⟩
          have HM8 := Lib.hid hM8
          have HA8 := Lib.hid (ActIn.keep HA7.out hS8.2)
          have HB8 := Lib.hid (HB7.out.trans hS8.1)
          refine ⟨_, rfl, ⟨HA8.out, HB8.out⟩, hK _ _ ?_⟩
          clear hK K hM8 hS8
          iterate 2 (refine ord_val (by rfl) (by intro w hi; clear hi; go_simp; with_reducible rfl) (fun K hK => ?_); go_simp; refine hK _ ?_; clear hK K)
          (refine ord_val (by rfl) (by intro w hi; have z := cell_of_row w wr.heap.size 1 _ _ _ (show w.heap[wr.heap.size]? = some _ from hi.1); clear hi; go_simp; with_reducible rfl) (fun K hK => ?_); go_simp; refine hK _ ?_; clear hK K)
          (refine ord_val (by rfl) (by intro w hi; have z0 := cell_of_row w wr.heap.size 0 _ _ _ (show w.heap[wr.heap.size]? = some _ from hi.1); have z1 := cell_of_row w wr.heap.size 1 _ _ _ (show w.heap[wr.heap.size]? = some _ from hi.1); have z2 := cell_of_row w wr.heap.size 2 _ _ _ (show w.heap[wr.heap.size]? = some _ from hi.1); have z3 := cell_of_row w wr.heap.size 3 _ _ _ (show w.heap[wr.heap.size]? = some _ from hi.1); have z4 := cell_of_row w wr.heap.size 4 _ _ _ (show w.heap[wr.heap.size]? = some _ from hi.1); have z5 := cell_of_row w wr.heap.size 5 _ _ _ (show w.heap[wr.heap.size]? = some _ from hi.1); have z6 := cell_of_row w wr.heap.size 6 _ _ _ (show w.heap[wr.heap.size]? = some _ from hi.1); clear hi; go_simp; with_reducible rfl) (fun K hK => ?_); go_simp; refine hK _ ?_; clear hK K)
          (refine ord_val (by rfl) (by intro w hi; clear hi; go_simp; with_reducible rfl) (fun K hK => ?_); go_simp; refine hK _ ?_; clear hK K)
          refine ord_eff (by rfl) (fun K hK => ?_)
          refine gets_sem ?_
          go_simp
          refine Calls.mono (data_any ⟨1, sec, fill, B, nn, kl, (pt : Int)⟩ HWF.out (.slice AB B.length cB) (.slice AK kl.length cK) S (by omega) w8 W0.heap.size HB8.out.size (HRB.out.below HB8.out)) ?_
          rintro e w9 ⟨v9, rfl, hx9, hb9⟩
          have hF9 : Frm (fun _ => False) w8 w9 := Frm.of_below hb9
          have HA9 := Lib.hid (ActIn.keep HA8.out (hF9.block _ (ActIn.lt HA8.out) id))
          have HB9 := Lib.hid (HB8.out.trans (hF9.below (B := W0.heap.size) (fun _ h => h.elim) HB8.out.size))
          have PWr := Lib.hid (PW2 w8 w9 v9 HM8.out hF9 hx9)
          refine ⟨_, rfl, ⟨HA9.out, HB9.out⟩, hK _ _ ?_⟩
          clear hK K hx9 hb9
          refine ord_eff (by rfl) (fun K hK => ?_)
          refine gets_sem ?_
          go_simp
          refine Calls.mono PWr.out ?_
          rintro e w10 ⟨rfl, hP10, hS10⟩
          have HP10 := Lib.hid hP10
          have HA10 := Lib.hid (ActIn.keep HA9.out hS10.2)
          have HB10 := Lib.hid (HB9.out.trans hS10.1)
          refine ⟨_, rfl, ⟨HA10.out, HB10.out⟩, hK _ _ ?_⟩
          clear hK K hP10 hS10
          (refine ord_val (by rfl) (by intro w hi; clear hi; go_simp; with_reducible rfl) (fun K hK => ?_); go_simp; refine hK _ ?_; clear hK K)
          refine ord_nil ?_
          have cs20 := cell_of_row w10 wr.heap.size 1 _ _ _ (show w10.heap[wr.heap.size]? = some _ from HA10.out)
          have HSA := Lib.hid (psame HBS.out HP10.out HB10.out.size (by omega) sec)
          go_wp2_with fail
          refine HSA.out.mono ?_
          rintro e w20 ⟨rfl, hP20, hS20⟩
          have HP20 := Lib.hid hP20
          have HB20 := Lib.hid (HB10.out.trans hS20.1)
          clear hP20 hS20
          go_wp2
          go_roundw
          case rel => exact ⟨q + 1, by omega, by go_num, (HP20.out.more (q' := 2 * (q + 1)) (by omega)).zero, HB20.out⟩
          case measure => simp [intOf]; omega
        have f1 : (op == 1) = false := by rw [beq_eq_false_iff_ne]; exact o1
        by_cases o2 : op = 2
        · subst o2
          go_upto_region 20 with (fail)
          generalize wr.alloc (.cells #[.int .i64 2, .int .i64 sec, .int .u8 fill, .slice AB B.length cB, .int .i64 nn, .slice AK kl.length cK, .int .u32 (pt : Int)] 36) = W6 at HX HFA HP6 HB6 ⊢
          have HA6 := Lib.hid (show ActIn wr.heap.size ⟨2, sec, fill, B, nn, kl, (pt : Int)⟩ (.slice AB B.length cB) (.slice AK kl.length cK) W6 from HX.out)
          have htb := ActIn.lt HA6.out
          have c0 := cell_of_row W6 wr.heap.size 0 _ _ _ (show W6.heap[wr.heap.size]? = some _ from HA6.out)
          obtain ⟨x1, x2, Mid, ⟨rfl, c, rfl⟩, T1, T2⟩ := pflush HBS.out HP6.out HB6.out.size (by omega) 
          have HT1 := Lib.hid T1
          have HT2 := Lib.hid T2
          clear T1 T2
          go_wp2_with fail
          refine HT1.out.mono ?_
          rintro e w7 ⟨rfl, hM7, hS7⟩
          have HA7 := Lib.hid (ActIn.keep HA6.out hS7.2)
          have HB7 := Lib.hid (HB6.out.trans hS7.1)
          have HT2 := Lib.hid (HT2.out w7 hM7)
          clear hM7 hS7
          go_wp2_with fail
          refine HT2.out.mono ?_
          rintro e w8 ⟨rfl, hP8, hS8⟩
          have HP8 := Lib.hid hP8
          have HA8 := Lib.hid (ActIn.keep HA7.out hS8.2)
          have HB8 := Lib.hid (HB7.out.trans hS8.1)
          clear hP8 hS8
          have cs20 := cell_of_row w8 wr.heap.size 1 _ _ _ (show w8.heap[wr.heap.size]? = some _ from HA8.out)
          have HSA := Lib.hid (psame HBS.out HP8.out HB8.out.size (by omega) sec)
          go_wp2_with fail
          refine HSA.out.mono ?_
          rintro e w20 ⟨rfl, hP20, hS20⟩
          have HP20 := Lib.hid hP20
          have HB20 := Lib.hid (HB8.out.trans hS20.1)
          clear hP20 hS20
          go_wp2
          go_roundw
          case rel => exact ⟨q + 1, by omega, by go_num, (HP20.out.more (q' := 2 * (q + 1)) (by omega)).zero, HB20.out⟩
          case measure => simp [intOf]; omega
        have f2 : (op == 2) = false := by rw [beq_eq_false_iff_ne]; exact o2
        by_cases o3 : op = 3
        · subst o3
          go_upto_region 23 with (fail)
          generalize wr.alloc (.cells #[.int .i64 3, .int .i64 sec, .int .u8 fill, .slice AB B.length cB, .int .i64 nn, .slice AK kl.length cK, .int .u32 (pt : Int)] 36) = W6 at HX HFA HP6 HB6 ⊢
          have HA6 := Lib.hid (show ActIn wr.heap.size ⟨3, sec, fill, B, nn, kl, (pt : Int)⟩ (.slice AB B.length cB) (.slice AK kl.length cK) W6 from HX.out)
          have htb := ActIn.lt HA6.out
          have c0 := cell_of_row W6 wr.heap.size 0 _ _ _ (show W6.heap[wr.heap.size]? = some _ from HA6.out)
          obtain ⟨x1, x2, Mid, ⟨rfl, rfl⟩, T1, T2⟩ := parm HBS.out HP6.out HB6.out.size (by omega) nn (by omega) (.slice AK kl.length cK) kl (HRK.out.below HB6.out) (by omega)
          have HT1 := Lib.hid T1
          have HT2 := Lib.hid T2
          clear T1 T2
          have cW64 := cell_of_row W6 wr.heap.size 4 _ _ _ (show W6.heap[wr.heap.size]? = some _ from HA6.out)
          have cW65 := cell_of_row W6 wr.heap.size 5 _ _ _ (show W6.heap[wr.heap.size]? = some _ from HA6.out)
          go_wp2_with fail
          refine HT1.out.mono ?_
          rintro e w7 ⟨rfl, hM7, hS7⟩
          have HA7 := Lib.hid (ActIn.keep HA6.out hS7.2)
          have HB7 := Lib.hid (HB6.out.trans hS7.1)
          have HT2 := Lib.hid (HT2.out w7 hM7)
          clear hM7 hS7
          have cw74 := cell_of_row w7 wr.heap.size 4 _ _ _ (show w7.heap[wr.heap.size]? = some _ from HA7.out)
          have cw75 := cell_of_row w7 wr.heap.size 5 _ _ _ (show w7.heap[wr.heap.size]? = some _ from HA7.out)
          go_wp2_with fail
          refine HT2.out.mono ?_
          rintro e w8 ⟨rfl, hP8, hS8⟩
          have HP8 := Lib.hid hP8
          have HA8 := Lib.hid (ActIn.keep HA7.out hS8.2)
          have HB8 := Lib.hid (HB7.out.trans hS8.1)
          clear hP8 hS8
          have cs20 := cell_of_row w8 wr.heap.size 1 _ _ _ (show w8.heap[wr.heap.size]? = some _ from HA8.out)
          have HSA := Lib.hid (psame HBS.out HP8.out HB8.out.size (by omega) sec)
          go_wp2_with fail
          refine HSA.out.mono ?_
          rintro e w20 ⟨rfl, hP20, hS20⟩
          have HP20 := Lib.hid hP20
          have HB20 := Lib.hid (HB8.out.trans hS20.1)
          clear hP20 hS20
          go_wp2
          go_roundw
          case rel => exact ⟨q + 1, by omega, by go_num, (HP20.out.more (q' := 2 * (q + 1)) (by omega)).zero, HB20.out⟩
          case measure => simp [intOf]; omega
        have f3 : (op == 3) = false := by rw [beq_eq_false_iff_ne]; exact o3
        by_cases o4 : op = 4
        · subst o4
          go_upto_region 26 with (fail)
          generalize wr.alloc (.cells #[.int .i64 4, .int .i64 sec, .int .u8 fill, .slice AB B.length cB, .int .i64 nn, .slice AK kl.length cK, .int .u32 (pt : Int)] 36) = W6 at HX HFA HP6 HB6 ⊢
          have HA6 := Lib.hid (show ActIn wr.heap.size ⟨4, sec, fill, B, nn, kl, (pt : Int)⟩ (.slice AB B.length cB) (.slice AK kl.length cK) W6 from HX.out)
          have htb := ActIn.lt HA6.out
          have c0 := cell_of_row W6 wr.heap.size 0 _ _ _ (show W6.heap[wr.heap.size]? = some _ from HA6.out)
          obtain ⟨x1, x2, Mid, ⟨rfl, rfl⟩, T1, T2⟩ := pcut HBS.out HP6.out HB6.out.size (by omega) (.slice AK kl.length cK) kl (HRK.out.below HB6.out)
          have HT1 := Lib.hid T1
          have HT2 := Lib.hid T2
          clear T1 T2
          have cW65 := cell_of_row W6 wr.heap.size 5 _ _ _ (show W6.heap[wr.heap.size]? = some _ from HA6.out)
          go_wp2_with fail
          refine HT1.out.mono ?_
          rintro e w7 ⟨rfl, hM7, hS7⟩
          have HA7 := Lib.hid (ActIn.keep HA6.out hS7.2)
          have HB7 := Lib.hid (HB6.out.trans hS7.1)
          have HT2 := Lib.hid (HT2.out w7 hM7)
          clear hM7 hS7
          have cw75 := cell_of_row w7 wr.heap.size 5 _ _ _ (show w7.heap[wr.heap.size]? = some _ from HA7.out)
          go_wp2_with fail
          refine HT2.out.mono ?_
          rintro e w8 ⟨rfl, hP8, hS8⟩
          have HP8 := Lib.hid hP8
          have HA8 := Lib.hid (ActIn.keep HA7.out hS8.2)
          have HB8 := Lib.hid (HB7.out.trans hS8.1)
          clear hP8 hS8
          have cs20 := cell_of_row w8 wr.heap.size 1 _ _ _ (show w8.heap[wr.heap.size]? = some _ from HA8.out)
          have HSA := Lib.hid (psame HBS.out HP8.out HB8.out.size (by omega) sec)
          go_wp2_with fail
          refine HSA.out.mono ?_
          rintro e w20 ⟨rfl, hP20, hS20⟩
          have HP20 := Lib.hid hP20
          have HB20 := Lib.hid (HB8.out.trans hS20.1)
          clear hP20 hS20
          go_wp2
          go_roundw
          case rel => exact ⟨q + 1, by omega, by go_num, (HP20.out.more (q' := 2 * (q + 1)) (by omega)).zero, HB20.out⟩
          case measure => simp [intOf]; omega
        have f4 : (op == 4) = false := by rw [beq_eq_false_iff_ne]; exact o4
        by_cases o5 : op = 5
        · subst o5
          go_upto_region 29 with (fail)
          generalize wr.alloc (.cells #[.int .i64 5, .int .i64 sec, .int .u8 fill, .slice AB B.length cB, .int .i64 nn, .slice AK kl.length cK, .int .u32 (pt : Int)] 36) = W6 at HX HFA HP6 HB6 ⊢
          have HA6 := Lib.hid (show ActIn wr.heap.size ⟨5, sec, fill, B, nn, kl, (pt : Int)⟩ (.slice AB B.length cB) (.slice AK kl.length cK) W6 from HX.out)
          have htb := ActIn.lt HA6.out
          have c0 := cell_of_row W6 wr.heap.size 0 _ _ _ (show W6.heap[wr.heap.size]? = some _ from HA6.out)
          obtain ⟨Mid, T1, T2⟩ := pon HBS.out HP6.out HB6.out.size
          have HT1 := Lib.hid T1
          have HT2 := Lib.hid T2
          clear T1 T2
          go_wp2_with fail
          refine HT1.out.mono ?_
          rintro e w7 ⟨rfl, hM7, hS7⟩
          obtain ⟨⟨b4, c74⟩, f74, hP8, hS8⟩ := HT2.out w7 hM7
          have HA8 := Lib.hid (ActIn.keep (ActIn.keep HA6.out hS7.2) hS8.2)
          have HB8 := Lib.hid ((HB6.out.trans hS7.1).trans hS8.1)
          have HP8 := Lib.hid hP8
          clear hM7 hS7 hP8 hS8
          go_upto_region 34 with (fail)
          generalize w7.setCell ⟨rb, 4, none⟩ (.bool false) = w8 at HA8 HB8 HP8 ⊢
          have cs20 := cell_of_row w8 wr.heap.size 1 _ _ _ (show w8.heap[wr.heap.size]? = some _ from HA8.out)
          have HSA := Lib.hid (psame HBS.out HP8.out HB8.out.size (by omega) sec)
          go_wp2_with fail
          refine HSA.out.mono ?_
          rintro e w20 ⟨rfl, hP20, hS20⟩
          have HP20 := Lib.hid hP20
          have HB20 := Lib.hid (HB8.out.trans hS20.1)
          clear hP20 hS20
          go_wp2
          go_roundw
          case rel => exact ⟨q + 1, by omega, by go_num, (HP20.out.more (q' := 2 * (q + 1)) (by omega)).zero, HB20.out⟩
          case measure => simp [intOf]; omega
        have f5 : (op == 5) = false := by rw [beq_eq_false_iff_ne]; exact o5
        by_cases o6 : op = 6
        · subst o6
          go_upto_region 32 with (fail)
          generalize wr.alloc (.cells #[.int .i64 6, .int .i64 sec, .int .u8 fill, .slice AB B.length cB, .int .i64 nn, .slice AK kl.length cK, .int .u32 (pt : Int)] 36) = W6 at HX HFA HP6 HB6 ⊢
          have HA6 := Lib.hid (show ActIn wr.heap.size ⟨6, sec, fill, B, nn, kl, (pt : Int)⟩ (.slice AB B.length cB) (.slice AK kl.length cK) W6 from HX.out)
          have htb := ActIn.lt HA6.out
          have c0 := cell_of_row W6 wr.heap.size 0 _ _ _ (show W6.heap[wr.heap.size]? = some _ from HA6.out)
          obtain ⟨x1, x2, Mid, ⟨rfl, b, rfl⟩, T1, T2⟩ := pburst HBS.out (HP6.out.next ((Frm.refl (fun _ => False) W6).drew)) HB6.out.drew.size (by omega) sec nn (by omega) pt (by omega)
          have HT1 := Lib.hid T1
          have HT2 := Lib.hid T2
          clear T1 T2
          refine region_ord (fun w => ActIn wr.heap.size ⟨6, sec, fill, B, nn, kl, (pt : Int)⟩ (.slice AB B.length cB) (.slice AK kl.length cK) w ∧ Below W0.heap.size W0 w) [false, false, false, false, false, false, false, true, false, false, false, false, false, false, false, true, false] (by kernel_rfl) (by kernel_rfl) (by kernel_rfl) (⟨HA6.out, HB6.out.drew⟩) ?_
          iterate 2 (refine ord_val (by rfl) (by intro w hi; clear hi; go_simp; with_reducible rfl) (fun K hK => ?_); go_simp; refine hK _ ?_; clear hK K)
          (refine ord_val (by rfl) (by intro w hi; have z := cell_of_row w wr.heap.size 1 _ _ _ (show w.heap[wr.heap.size]? = some _ from hi.1); clear hi; go_simp; with_reducible rfl) (fun K hK => ?_); go_simp; refine hK _ ?_; clear hK K)
          (refine ord_val (by rfl) (by intro w hi; clear hi; go_simp; with_reducible rfl) (fun K hK => ?_); go_simp; refine hK _ ?_; clear hK K)
          (refine ord_val (by rfl) (by intro w hi; have z := cell_of_row w wr.heap.size 4 _ _ _ (show w.heap[wr.heap.size]? = some _ from hi.1); clear hi; go_simp; with_reducible rfl) (fun K hK => ?_); go_simp; refine hK _ ?_; clear hK K)
          (refine ord_val (by rfl) (by intro w hi; clear hi; go_simp; with_reducible rfl) (fun K hK => ?_); go_simp; refine hK _ ?_; clear hK K)
          (refine ord_val (by rfl) (by intro w hi; have z := cell_of_row w wr.heap.size 6 _ _ _ (show w.heap[wr.heap.size]? = some _ from hi.1); clear hi; go_simp; with_reducible rfl) (fun K hK => ?_); go_simp; refine hK _ ?_; clear hK K)
          refine ord_eff (by rfl) (fun K hK => ?_)
          refine gets_sem ?_
          go_simp
          refine Calls.mono HT1.out ?_
          rintro e w7 ⟨rfl, hM7, hS7⟩
          have HA7 := Lib.hid (ActIn.keep HA6.out hS7.2)
          have HB7 := Lib.hid (HB6.out.drew.trans hS7.1)
          have HT2 := Lib.hid (HT2.out w7 hM7)
          refine ⟨_, rfl, ⟨HA7.out, HB7.out⟩, hK _ _ ?_⟩
          clear hK K hM7 hS7
          iterate 2 (refine ord_val (by rfl) (by intro w hi; clear hi; go_simp; with_reducible rfl) (fun K hK => ?_); go_simp; refine hK _ ?_; clear hK K)
          (refine ord_val (by rfl) (by intro w hi; have z := cell_of_row w wr.heap.size 1 _ _ _ (show w.heap[wr.heap.size]? = some _ from hi.1); clear hi; go_simp; with_reducible rfl) (fun K hK => ?_); go_simp; refine hK _ ?_; clear hK K)
          (refine ord_val (by rfl) (by intro w hi; clear hi; go_simp; with_reducible rfl) (fun K hK => ?_); go_simp; refine hK _ ?_; clear hK K)
          (refine ord_val (by rfl) (by intro w hi; have z := cell_of_row w wr.heap.size 4 _ _ _ (show w.heap[wr.heap.size]? = some _ from hi.1); clear hi; go_simp; with_reducible rfl) (fun K hK => ?_); go_simp; refine hK _ ?_; clear hK K)
          (refine ord_val (by rfl) (by intro w hi; clear hi; go_simp; with_reducible rfl) (fun K hK => ?_); go_simp; refine hK _ ?_; clear hK K)
          (refine ord_val (by rfl) (by intro w hi; have z := cell_of_row w wr.heap.size 6 _ _ _ (show w.heap[wr.heap.size]? = some _ from hi.1); clear hi; go_simp; with_reducible rfl) (fun K hK => ?_); go_simp; refine hK _ ?_; clear hK K)
          refine ord_eff (by rfl) (fun K hK => ?_)
          refine gets_sem ?_
          go_simp
          refine Calls.mono HT2.out ?_
          rintro e w8 ⟨rfl, hP8, hS8⟩
          have HP8 := Lib.hid hP8
          have HA8 := Lib.hid (ActIn.keep HA7.out hS8.2)
          have HB8 := Lib.hid (HB7.out.trans hS8.1)
          refine ⟨_, rfl, ⟨HA8.out, HB8.out⟩, hK _ _ ?_⟩
          clear hK K hP8 hS8
          (refine ord_val (by rfl) (by intro w hi; clear hi; go_simp; with_reducible rfl) (fun K hK => ?_); go_simp; refine hK _ ?_; clear hK K)
          refine ord_nil ?_
          have cs20 := cell_of_row w8 wr.heap.size 1 _ _ _ (show w8.heap[wr.heap.size]? = some _ from HA8.out)
          have HSA := Lib.hid (psame HBS.out HP8.out HB8.out.size (by omega) sec)
          go_wp2_with fail
          refine HSA.out.mono ?_
          rintro e w20 ⟨rfl, hP20, hS20⟩
          have HP20 := Lib.hid hP20
          have HB20 := Lib.hid (HB8.out.trans hS20.1)
          clear hP20 hS20
          go_wp2
          go_roundw
          case rel => exact ⟨q + 1, by omega, by go_num, (HP20.out.more (q' := 2 * (q + 1)) (by omega)).zero, HB20.out⟩
          case measure => simp [intOf]; omega
        have f6 : (op == 6) = false := by rw [beq_eq_false_iff_ne]; exact o6
        clear o1 o2 o3 o4 o5 o6
        go_upto_region 34 with (fail)
        generalize wr.alloc (.cells #[.int .i64 op, .int .i64 sec, .int .u8 fill, .slice AB B.length cB, .int .i64 nn, .slice AK kl.length cK, .int .u32 (pt : Int)] 36) = W6 at HX HFA HP6 HB6 ⊢
        have HA6 := Lib.hid (show ActIn wr.heap.size ⟨op, sec, fill, B, nn, kl, (pt : Int)⟩ (.slice AB B.length cB) (.slice AK kl.length cK) W6 from HX.out)
        have htb := ActIn.lt HA6.out
        have c0 := cell_of_row W6 wr.heap.size 0 _ _ _ (show W6.heap[wr.heap.size]? = some _ from HA6.out)
        have cs20 := cell_of_row W6 wr.heap.size 1 _ _ _ (show W6.heap[wr.heap.size]? = some _ from HA6.out)
        have HSA := Lib.hid (psame HBS.out HP6.out HB6.out.size (by omega) sec)
        go_wp2_with fail
        refine HSA.out.mono ?_
        rintro e w20 ⟨rfl, hP20, hS20⟩
        have HP20 := Lib.hid hP20
        have HB20 := Lib.hid (HB6.out.trans hS20.1)
        clear hP20 hS20
        go_wp2
        go_roundw
        case rel => exact ⟨q + 1, by omega, by go_num, (HP20.out.more (q' := 2 * (q + 1)) (by omega)).zero, HB20.out⟩
        case measure => simp [intOf]; omega
      · obtain rfl : q = l.length := by omega
        obtain ⟨pb, mm, rl, d, kr, hJ, _, _, _, e4, e5, _⟩ := hP
        have SH := shape_any db kb mb pb mm d wr hJ.p
        rw [e4, e5] at SH
        have SH := Lib.hid SH
        have HB := Lib.hid hB
        clear hJ hB
        go_wp2_with fail
        refine SH.out.mono ?_
        rintro e w5 ⟨rfl, k, rfl⟩
        go_wp2
        go_ret
        exact ⟨rfl, bdrewN HB.out HB.out.size k⟩

set_option maxRecDepth 100000 in
theorem lifted (os : Os) (started : os.Started) (H : Type) (enc : TypeId × Value → H) (F : Stop.Interp) :
    ReturnsInHanded {} Try.checked os 3 .any ((Rows.OpenSpec.upto Rows.diskPlaysSpec).pre6 enc Try.prog Try.f3 Rows.diskPlaysUptoRow.domain false) (((Rows.OpenSpec.upto Rows.diskPlaysSpec).at F).post enc Try.prog Try.f3 false true false false) := by
  refine returnsInHanded_of_cond (C := Try.checked) (s := Rows.OpenSpec.upto Rows.diskPlaysSpec) (k := Rows.uptoSmall) rfl own started (by kernel_rfl) Try.func3
    (OpenSpec.witness (enc := enc) (C := Try.checked) (s := Rows.OpenSpec.upto Rows.diskPlaysSpec) (k := Rows.uptoSmall) rfl false ⟨#[], #[.int .i64 0, .int .i64 0, .slice none 0 0], []⟩ 8 (by kernel_rfl) (by kernel_rfl) (by kernel_rfl)
      (x := ([.lit (.int .i64 0), .lit (.int .i64 0), .nil], [], [])) (by kernel_rfl) rfl (by kernel_rfl)) ?_
  intro W base args ds gs before hval0 hW _ hk _
  have hval : ∀ (j : Nat) t v, Try.f3.params[j]? = some t → args[j]? = some v → Value.okWide Try.prog W .any base t v := hval0
  have hW' := hW
  obtain ⟨p, q, hA0, hV, rfl, hfz, hnd⟩ := hW
  have hA : DataW.TrodAll enc Try.prog W 0 (fun _ => true) true Try.f3.params.toList args.toList ds p := hA0
  rw [Try.params3] at hA hval
  obtain ⟨v0, vs0, d0, ds0, p0, q0, hargs, rfl, rfl, h0, r0⟩ := trodAll_cons hA
  obtain ⟨v1, vs1, d1, ds1, p1, q1, rfl, rfl, rfl, h1, r1⟩ := trodAll_cons r0
  obtain ⟨v2, vs2, d2, ds2, p2, q2, rfl, rfl, rfl, h2, r2⟩ := trodAll_cons r1
  obtain ⟨rfl, rfl, rfl⟩ := trodAll_nil r2
  obtain rfl : args = #[v0, v1, v2] := by cases args; simp_all
  obtain ⟨rfl, rfl⟩ := trodVars_none hV
  have hbulk := bulk_of hk
  rw [List.append_nil] at hbulk
  obtain ⟨a0, rfl, rfl, rfl, w0⟩ := open_int Try.underlying3 (hval 0 3 v0 rfl rfl) h0
  obtain ⟨a1, rfl, rfl, rfl, w1⟩ := open_int Try.underlying3 (hval 1 3 v1 rfl rfl) h1
  obtain ⟨y2, hy2, hw2, m2⟩ := open_dacts Try.underlying22 Try.underlying36 (by kernel_rfl) ⟨rfl, rfl, rfl, rfl, rfl, rfl, rfl⟩ ⟨by kernel_rfl, by kernel_rfl, by kernel_rfl, by kernel_rfl, by kernel_rfl, by kernel_rfl, by kernel_rfl⟩ Try.underlying3 Try.underlying3 Try.underlying5 Try.underlying32 Try.underlying3 Try.underlying33 Try.underlying34 Try.underlying5 Try.underlying4 (by kernel_rfl) (by kernel_rfl) (hval 2 22 v2 rfl rfl) h2
  clear hA0 hval0
  simp only [Rows.uptoBulkAll] at hbulk
  refine (walk a0 w0 a1 w1 v2 y2 hy2 hw2 (by unfold acW; omega) W rfl).mono fun e W' ⟨he, hb⟩ => ?_
  subst he
  exact ⟨_, rfl, law_post hW' rfl laid (by kernel_rfl) rfl Try.underlying4 rfl hb⟩

theorem over : Rows.diskPlaysUptoRow.holds Try.pinned (Rows.OpenSpec.upto Rows.diskPlaysSpec) :=
  OpenClaim.holds_of_cond 3 Try.f3 rfl rfl rfl rfl rfl rfl rfl ⟨rfl, rfl, rfl, rfl, rfl⟩ rfl rfl rfl rfl rfl (by kernel_rfl) Try.func3 (by kernel_rfl)
    (of_decide_eq_true (by kernel_rfl)) (by unfold Func.isWrapper; first | (rw [if_pos (by decide +kernel)]; kernel_rfl) | (rw [if_neg (by decide +kernel)]; exact ⟨rfl, rfl⟩))
    (fun os started H enc _ F => lifted os started H enc F)

theorem proved : Rows.DiskPlaysUptoSaid :=
  over
end Go.Proofs.Ytldmamcalfmedaa.lawDiskPlays
