/- The law DiskOutlasts answers true for any acts and any choice of what is kept that hold together at most 1048576 values: what was flushed outlasts a cut. Conditions: that bound. -/
import Derived.Test.YtldmamcalfmedaaDkn
import Derived.Test.YtldmamcalfmedaaDso
import Derived.Test.YtldmamcalfmedaaDwa
import Derived.Test.YtldmamcalfmedaaOrd
import Derived.JoinedCond
namespace Go.Proofs.Ytldmamcalfmedaa.lawDiskOutlasts
open Go.ChangeShapes Go.WideShapes Go.ChangeAt Go.RowKit Go.Maps
set_option linter.unusedSimpArgs false
set_option linter.unusedVariables false

theorem own : ownKnob Try.prog.godebug = none := by kernel_rfl
theorem laid : laidOutB Try.prog = true := by kernel_rfl

/-- where the play stands behind i writes -/
def OInv (db kb mb base : Nat) (vw : Value) (Kw K : List UInt8) (l : List Ac) (m i : Nat) (w : World) : Prop :=
  ∃ pb mm d, DBox w db kb mb pb mm d ∧ mm ≤ m + i ∧ base ≤ pb ∧ d.n = 8 ∧ d.size = 64 ∧ d.off = false ∧ d.armed = false ∧ d.kept = K ∧ d.pend = dataP 8 64 (l.take i) ∧ 0 ≤ d.writes ∧ d.writes ≤ ((m + i : Nat) : Int) ∧ d.reads = 0 ∧ d.away = (fun _ => False) ∧ RdX (OwnX (fun _ => False) db kb mb pb) w vw (bv Kw)
theorem OInv.next {db kb mb base : Nat} {vw : Value} {Kw K : List UInt8} {l : List Ac} {m i : Nat} {w w' : World} (h : OInv db kb mb base vw Kw K l m i w) (hF : Frm (fun _ => False) w w') : OInv db kb mb base vw Kw K l m i w' := by
  obtain ⟨pb, mm, d, hD, h1, h2, h3, h4, h5, h6, h7, h8, h9, h10, h11, h12, h13⟩ := h
  exact ⟨pb, mm, d, hD.next hF, h1, h2, h3, h4, h5, h6, h7, h8, h9, h10, h11, h12, h13.frm hF (fun j h => h.elim)⟩
theorem AcAt.below {w w' : World} {C b o : Nat} {x : Ac} {uB uK : Value} (h : AcAt w C b o x uB uK) (hbc : b < C) (hb : Below C w w') : AcAt w' C b o x uB uK := by
  obtain ⟨g0, g1, g2, g3, g4, g5, g6, rB, rK⟩ := h
  have hk : ∀ o, w'.cell? ⟨b, o, none⟩ = w.cell? ⟨b, o, none⟩ := fun o => World.cell?_of_block (a := ⟨b, o, none⟩) (hb.block b hbc)
  exact ⟨(hk _).trans g0, (hk _).trans g1, (hk _).trans g2, (hk _).trans g3, (hk _).trans g4, (hk _).trans g5, (hk _).trans g6, rB.below hb, rK.below hb⟩
theorem bdrewN {B : Nat} {w0 w : World} (h : Below B w0 w) (hB : B ≤ w.heap.size) (k : Nat) : Below B w0 (w.drewN k) := h.trans ((Frm.drewN (O := fun _ => False) _ k).below (fun _ h => h.elim) hB)
theorem owrite {db kb mb W : Nat} {vw : Value} {Kw K : List UInt8} {l : List Ac} {m i : Nat} {w0 w : World} (hd : W ≤ db ∧ W ≤ kb ∧ W ≤ mb) (h : OInv db kb mb W vw Kw K l m i w0) (hi : i < l.length) (hm : m + i ≤ 10000) (hB : W ≤ w0.heap.size) (hF : Frm (fun _ => False) w0 w) (v : Value)
    (hv : ∀ M : Nat → Prop, (∀ j, j < W → ¬ M j) → (∀ j, w0.heap.size ≤ j → j < w.heap.size → ¬ M j) → RdX M w v (bv (dataB l[i] 64))) :
    Calls Try.prog 12 #[.pointer (some ⟨db, 0, none⟩), .int .i64 l[i].sec, v] w fun e w' => (∃ c, e = .returned (.int .i64 c)) ∧ OInv db kb mb W vw Kw K l m (i + 1) w' ∧ Below W w w' := by
  have hz := hF.size
  obtain ⟨pb, mm, d, hD0, h1, h2, h3, h4, h5, h6, h7, h8, h9, h10, h11, h12, h13⟩ := h
  have hlt := hD0.lt
  have hsm := hD0.small
  have hD := hD0.next hF
  have hv1 : RdX (OwnX d.away db kb mb pb) w v (bv (dataB l[i] 64)) := hv _ (fun j hj => by rw [h12]; rintro (h | h); (unfold Own at h; omega); exact h) (fun j hj _ => by rw [h12]; rintro (h | h); (unfold Own at h; omega); exact h)
  have hpl : d.pend.length ≤ i := by rw [h8]; exact Nat.le_trans (dataP_length _ _ _) (by simp; omega)
  refine (write_all db kb mb pb mm d w hD (fun e => by rw [h6] at e; cases e) l[i].sec v (dataB l[i] 64) hv1 (by omega) (by omega) ⟨h9, by omega⟩).mono ?_
  rintro e w' ⟨rfl, pb', mm', hD', hm', hp', hF'⟩
  have hx : RdX (OwnX (fun _ => False) db kb mb pb') w' vw (bv Kw) := (h13.frm hF (fun j h => h.elim)).wrote hF' hp'
  have hb' : Below W w w' := hF'.below (by rintro j (h | h | h | h) <;> omega) (by omega)
  refine ⟨⟨_, rfl⟩, ?_, hb'⟩
  have htk : l.take (i + 1) = l.take i ++ [l[i]] := List.take_succ_eq_append_getElem hi
  unfold writeD at hD'
  rw [if_neg (by rw [h5]; simp)] at hD'
  by_cases hb : badW d l[i].sec (dataB l[i] 64)
  · rw [if_pos hb] at hD'
    refine ⟨pb', mm', d, hD', by omega, by omega, h3, h4, h5, h6, h7, ?_, h9, by omega, h11, h12, hx⟩
    rw [htk, dataP_snoc, if_neg, List.append_nil]
    · exact h8
    · unfold badW at hb
      rw [h3, h4] at hb
      rintro ⟨a, b, c⟩
      rcases hb with h | h
      · exact h ⟨a, b⟩
      · exact h c
  · rw [if_neg hb, if_neg (by rw [h6]; simp)] at hD'
    refine ⟨pb', mm', _, hD', by omega, by omega, h3, h4, h5, h6, h7, ?_, ?_, ?_, h11, h12, hx⟩
    · show d.pend ++ [(l[i].sec.toNat, dataB l[i] 64)] = _
      rw [htk, dataP_snoc, if_pos, h8]
      unfold badW at hb
      rw [h3, h4] at hb
      refine ⟨?_, ?_, ?_⟩
      · by_cases a : 0 ≤ l[i].sec
        · exact a
        · exact absurd (Or.inl (fun h => a h.1)) hb
      · by_cases a : l[i].sec < ((8 : Nat) : Int)
        · exact a
        · exact absurd (Or.inl (fun h => a h.2)) hb
      · by_cases a : (dataB l[i] 64).length = 64
        · exact a
        · exact absurd (Or.inr a) hb
    · show 0 ≤ d.writes + 1
      omega
    · show d.writes + 1 ≤ _
      omega
def RInv (db kb mb pb mm : Nat) (vw : Value) (K1 K : List UInt8) (i : Nat) (w : World) : Prop :=
  ∃ d, DBox w db kb mb pb mm d ∧ d.n = 8 ∧ d.size = 64 ∧ d.off = false ∧ d.kept = K ∧ d.pend = [] ∧ d.reads = (i : Nat) ∧ RdX (OwnX (fun _ => False) db kb mb pb) w vw (bv K1)
set_option maxRecDepth 100000 in
set_option maxHeartbeats 16000000 in
theorem walk {W0 : World} (v0 : Value) (xs : List Ac) (hxs : RdAc W0 W0.heap.size v0 xs) (hwx : ∀ x ∈ xs, x.wf) (hsx : acW xs + xs.length ≤ 1048576) (v1 : Value) (ys : List Ac) (hys : RdAc W0 W0.heap.size v1 ys) (hwy : ∀ x ∈ ys, x.wf) (hsy : acW ys + ys.length ≤ 1048576) (v2 : Value) (bs : List Bool) (hbs : RdV W0 W0.heap.size v2 (boolV bs)) (w : World) (hw : W0 = w) :
    Calls Try.prog 5 #[v0, v1, v2] w fun e w' => e = .returned (.bool true) ∧ Below w.heap.size w w' := by
  subst hw
  have HK := Lib.hid (known_any W0)
  have HX := Lib.hid hxs
  have HY := Lib.hid hys
  have HBS := Lib.hid hbs
  obtain ⟨Ax, cx, rfl, hx1, hx2, _⟩ := hxs
  obtain ⟨Ay, cy, rfl, hy1, hy2, _⟩ := hys
  obtain ⟨Ab, cb, rfl, hb1, hb2, _⟩ := hbs
  rw [boolV_length] at hb1 HBS ⊢
  go_enter Try.func5, Try.ntmps5
  go_wp2_with fail
  refine HK.out.mono ?_
  rintro e w1 ⟨rfl, hbl1⟩
  have HB1 := Lib.hid hbl1
  have FX := few_any _ xs w1 W0.heap.size (HX.out.below hbl1) hsx
  clear hbl1
  by_cases cx0 : ¬ (xs.length ≤ 200 ∧ acW xs ≤ 32768)
  · rw [decide_eq_false cx0] at FX
    have FX := Lib.hid FX
    clear cx0
    go_wp2_with fail
    refine FX.out.mono ?_
    rintro e w2 ⟨rfl, k, rfl⟩
    go_wp2
    go_ret
    exact ⟨rfl, bdrewN HB1.out HB1.out.size k⟩
  rw [Decidable.not_not] at cx0
  rw [decide_eq_true cx0] at FX
  have FX := Lib.hid FX
  go_wp2_with fail
  refine FX.out.mono ?_
  rintro e w2 ⟨rfl, k2, hk2⟩
  have HB2 := Lib.hid (show Below W0.heap.size W0 w2 by rw [hk2]; exact bdrewN HB1.out HB1.out.size k2)
  clear hk2
  have FY := few_any _ ys w2 W0.heap.size (HY.out.below HB2.out) hsy
  by_cases cy0 : ¬ (ys.length ≤ 200 ∧ acW ys ≤ 32768)
  · rw [decide_eq_false cy0] at FY
    have FY := Lib.hid FY
    clear cy0
    go_wp2_with fail
    refine FY.out.mono ?_
    rintro e w3 ⟨rfl, k, rfl⟩
    go_wp2
    go_ret
    exact ⟨rfl, bdrewN HB2.out HB2.out.size k⟩
  rw [Decidable.not_not] at cy0
  rw [decide_eq_true cy0] at FY
  have FY := Lib.hid FY
  go_wp2_with fail
  refine FY.out.mono ?_
  rintro e w3 ⟨rfl, k3, hk3⟩
  have HB3 := Lib.hid (show Below W0.heap.size W0 w3 by rw [hk3]; exact bdrewN HB2.out HB2.out.size k3)
  clear hk3
  by_cases cb0 : 1000 < bs.length
  · go_wp2
    go_ret
    exact ⟨rfl, HB3.out⟩
  have HN := Lib.hid (dnew_ok 8 64 (by omega) (by omega) w3)
  go_wp2_with fail
  refine HN.out.mono ?_
  rintro e w4 ⟨db, kb, mb, hd1, hd2, hd3, rfl, hD, hb4⟩
  have hz3 := HB3.out.size
  have hdk : W0.heap.size ≤ db ∧ W0.heap.size ≤ kb ∧ W0.heap.size ≤ mb := by omega
  have HB4 := Lib.hid (HB3.out.trans (hb4.mono hz3))
  have HI4 := Lib.hid (show OInv db kb mb W0.heap.size (.slice none 0 0) [] (List.replicate (8 * 64) 0) xs 0 0 w4 from ⟨db, 0, _, hD, Nat.le_refl _, by omega, rfl, rfl, rfl, rfl, rfl, rfl, by decide, by decide, rfl, rfl, RdX.nil_ _ _⟩)
  clear hD hb4 hd1 hd2 hd3
  obtain ⟨K0, hK0⟩ : ∃ K0, List.replicate (8 * 64) (0 : UInt8) = K0 := ⟨_, rfl⟩
  rw [hK0] at HI4
  clear hK0
  go_wp2
  go_loopw [9] (fun i wx => ∃ q : Nat, q ≤ xs.length ∧ i = .int .i64 q ∧ OInv db kb mb W0.heap.size (.slice none 0 0) [] K0 xs 0 q wx ∧ Below W0.heap.size W0 wx) (fun i wx => xs.length - (intOf i).toNat)
  case atStart => exact ⟨0, by omega, rfl, HI4.out, HB4.out⟩
  case round =>
    obtain ⟨q, hq, rfl, hI, hB⟩ := hrel
    by_cases hlt : q < xs.length
    · have HI := Lib.hid hI
      have HB := Lib.hid hB
      clear hI hB
      have hmq : 0 + q ≤ 10000 := by omega
      have hwq := hwx xs[q] (List.getElem_mem hlt)
      obtain ⟨b, off, uB, uK, rfl, hbc, hA⟩ := HX.out.get (i := q) (x := xs[q]) (List.getElem?_eq_getElem hlt)
      have HC := Lib.hid (fun (w : World) (hi : Below W0.heap.size W0 w) => AcAt.below hA hbc hi)
      obtain ⟨_, _, _, _, _, _, _, ⟨AB, cB, rfl, _⟩, ⟨AK, cK, rfl, _⟩⟩ := hA
      go_upto_region 11 with (fail)
      refine region_ord (Below W0.heap.size W0) [false, false, false, false, false, false, false, false, false, false, true, true] (by kernel_rfl) (by kernel_rfl) (by kernel_rfl) (HB.out.drew) ?_
      iterate 5 (refine ord_val (by rfl) (by intro w hi; clear hi; go_simp; with_reducible rfl) (fun K hK => ?_); go_simp; refine hK _ ?_; clear hK K)
      (refine ord_val (by rfl) (by intro w hi; have z := (HC.out w hi).2.1; clear hi; go_simp; with_reducible rfl) (fun K hK => ?_); go_simp; refine hK _ ?_; clear hK K)
      iterate 3 (refine ord_val (by rfl) (by intro w hi; clear hi; go_simp; with_reducible rfl) (fun K hK => ?_); go_simp; refine hK _ ?_; clear hK K)
      (refine ord_val (by rfl) (by intro w hi; obtain ⟨z0, z1, z2, z3, z4, z5, z6, _, _⟩ := (HC.out w hi); clear hi; go_simp; with_reducible rfl) (fun K hK => ?_); go_simp; refine hK _ ?_; clear hK K)
      refine ord_eff (by rfl) (fun K hK => ?_)
      refine gets_sem ?_
      go_simp
      refine Calls.mono (data_any xs[q] hwq _ _ 64 (by omega) wr.drew W0.heap.size HB.out.drew.size (HC.out _ HB.out.drew).2.2.2.2.2.2.2.1) ?_
      rintro e w5 ⟨v5, rfl, hx5, hb5⟩
      have HX5 := Lib.hid hx5
      have HF5 := Lib.hid ((Frm.refl (fun _ => False) wr).drew.trans (Frm.of_below hb5))
      have HB5 := Lib.hid (HB.out.drew.trans (hb5.mono HB.out.drew.size))
      clear hx5 hb5
      have OW := Lib.hid (owrite (W := W0.heap.size) hdk HI.out hlt hmq HB.out.size HF5.out v5 HX5.out)
      refine ⟨_, rfl, HB5.out, hK _ _ ?_⟩
      clear hK K
      refine ord_eff (by rfl) (fun K hK => ?_)
      refine gets_sem ?_
      go_simp
      refine Calls.mono OW.out ?_
      rintro e w6 ⟨⟨cc, rfl⟩, hI6, hb6⟩
      have HI6 := Lib.hid hI6
      have HB6 := Lib.hid (HB5.out.trans hb6)
      clear hI6 hb6
      refine ⟨_, rfl, HB6.out, hK _ _ ?_⟩
      clear hK K
      refine ord_nil ?_
      go_wp2
      go_roundw
      case rel => exact ⟨q + 1, by omega, by go_num, HI6.out, HB6.out⟩
      case measure => simp [intOf]; omega
    · obtain rfl : q = xs.length := by omega
      obtain ⟨pb, mm, d, hD, e1, e2, e3, e4, e5, e6, e7, e8, e9, e10, e11, e12, e13⟩ := hI
      have hpl : d.pend.length ≤ 200 := by rw [e8]; exact Nat.le_trans (dataP_length _ _ _) (by simp; omega)
      have FL := Lib.hid (flush_on db kb mb pb mm d wr hD e5 (by omega))
      have HB := Lib.hid hB
      have E12 := Lib.hid e12
      clear hD hB e8 e13 e12
      go_wp2_with fail
      refine FL.out.mono ?_
      rintro e w5 ⟨rfl, hD5, hF5⟩
      have HB5 := Lib.hid (HB.out.trans (hF5.below (B := W0.heap.size) (by rintro j (h | h | h) <;> omega) HB.out.size))
      have BY := Lib.hid (bytes_any db kb mb pb mm _ w5 hD5)
      have HD5 := Lib.hid hD5
      clear hD5 hF5
      go_wp2_with fail
      refine BY.out.mono ?_
      rintro e w6 ⟨vw, rfl, ho6, hb6⟩
      obtain ⟨K1, hK1⟩ : ∃ K1, (flushD d).kept = K1 := ⟨_, rfl⟩
      have hL1 : K1.length = 512 := by
        have h1 := HD5.out.ok.kept
        rw [hK1, show (flushD d).n = d.n from rfl, show (flushD d).size = d.size from rfl, e3, e4] at h1
        exact h1
      rw [hK1, hL1] at ho6
      have hl5 := HD5.out.lt
      have hs5 := HD5.out.small
      have hrx : RdX (OwnX (fun _ => False) db kb mb pb) w6 vw (bv K1) := RdX.of_own ho6 (fun j hj => by rintro (h | h); (unfold Own at h; omega); exact h)
      obtain ⟨gw, cw, rfl⟩ := own_form2 ho6 (by omega)
      have HI6 := Lib.hid (show OInv db kb mb W0.heap.size (.slice (some ⟨gw, 0, none⟩) 512 cw) K1 K1 ys 200 0 w6 from ⟨pb, mm, _, HD5.out.next (Frm.of_below hb6), by omega, e2, e3, e4, e5, e6, hK1, rfl, e9, by show d.writes ≤ _; omega, e11, E12.out, hrx⟩)
      have HB6 := Lib.hid (HB5.out.trans (hb6.mono HB5.out.size))
      clear hb6 ho6 hrx hK1 hl5 hs5 BY HD5 FL HB HB5 hpl e1 e2 e3 e4 e5 e6 e7 e9 e10 e11 E12
      go_wp2
      go_loopw [11] (fun i wx => ∃ q : Nat, q ≤ ys.length ∧ i = .int .i64 q ∧ OInv db kb mb W0.heap.size (.slice (some ⟨gw, 0, none⟩) 512 cw) K1 K1 ys 200 q wx ∧ Below W0.heap.size W0 wx) (fun i wx => ys.length - (intOf i).toNat)
      case atStart => exact ⟨0, by omega, rfl, HI6.out, HB6.out⟩
      case round =>
        obtain ⟨q, hq, rfl, hI, hB⟩ := hrel
        by_cases hlt : q < ys.length
        · have HI := Lib.hid hI
          have HB := Lib.hid hB
          clear hI hB
          have hmq : 200 + q ≤ 10000 := by omega
          have hwq := hwy ys[q] (List.getElem_mem hlt)
          obtain ⟨b, off, uB, uK, rfl, hbc, hA⟩ := HY.out.get (i := q) (x := ys[q]) (List.getElem?_eq_getElem hlt)
          have HC := Lib.hid (fun (w : World) (hi : Below W0.heap.size W0 w) => AcAt.below hA hbc hi)
          obtain ⟨_, _, _, _, _, _, _, ⟨AB, cB, rfl, _⟩, ⟨AK, cK, rfl, _⟩⟩ := hA
          go_upto_region 18 with (fail)
          refine region_ord (Below W0.heap.size W0) [false, false, false, false, false, false, false, false, false, false, true, true] (by kernel_rfl) (by kernel_rfl) (by kernel_rfl) (HB.out.drew) ?_
          iterate 5 (refine ord_val (by rfl) (by intro w hi; clear hi; go_simp; with_reducible rfl) (fun K hK => ?_); go_simp; refine hK _ ?_; clear hK K)
          (refine ord_val (by rfl) (by intro w hi; have z := (HC.out w hi).2.1; clear hi; go_simp; with_reducible rfl) (fun K hK => ?_); go_simp; refine hK _ ?_; clear hK K)
          iterate 3 (refine ord_val (by rfl) (by intro w hi; clear hi; go_simp; with_reducible rfl) (fun K hK => ?_); go_simp; refine hK _ ?_; clear hK K)
          (refine ord_val (by rfl) (by intro w hi; obtain ⟨z0, z1, z2, z3, z4, z5, z6, _, _⟩ := (HC.out w hi); clear hi; go_simp; with_reducible rfl) (fun K hK => ?_); go_simp; refine hK _ ?_; clear hK K)
          refine ord_eff (by rfl) (fun K hK => ?_)
          refine gets_sem ?_
          go_simp
          refine Calls.mono (data_any ys[q] hwq _ _ 64 (by omega) wr.drew W0.heap.size HB.out.drew.size (HC.out _ HB.out.drew).2.2.2.2.2.2.2.1) ?_
          rintro e w5 ⟨v5, rfl, hx5, hb5⟩
          have HX5 := Lib.hid hx5
          have HF5 := Lib.hid ((Frm.refl (fun _ => False) wr).drew.trans (Frm.of_below hb5))
          have HB5 := Lib.hid (HB.out.drew.trans (hb5.mono HB.out.drew.size))
          clear hx5 hb5
          have OW := Lib.hid (owrite (W := W0.heap.size) hdk HI.out hlt hmq HB.out.size HF5.out v5 HX5.out)
          refine ⟨_, rfl, HB5.out, hK _ _ ?_⟩
          clear hK K
          refine ord_eff (by rfl) (fun K hK => ?_)
          refine gets_sem ?_
          go_simp
          refine Calls.mono OW.out ?_
          rintro e w6 ⟨⟨cc, rfl⟩, hI6, hb6⟩
          have HI6 := Lib.hid hI6
          have HB6 := Lib.hid (HB5.out.trans hb6)
          clear hI6 hb6
          refine ⟨_, rfl, HB6.out, hK _ _ ?_⟩
          clear hK K
          refine ord_nil ?_
          go_wp2
          go_roundw
          case rel => exact ⟨q + 1, by omega, by go_num, HI6.out, HB6.out⟩
          case measure => simp [intOf]; omega
        · obtain rfl : q = ys.length := by omega
          obtain ⟨pb, mm, d, hD, e1, e2, e3, e4, e5, e6, e7, e8, e9, e10, e11, e12, e13⟩ := hI
          rw [List.take_length] at e8
          have hpl : d.pend.length ≤ 200 := by rw [e8]; exact Nat.le_trans (dataP_length _ _ _) (by omega)
          have hzr := hB.size
          have hkx : RdX (OwnX d.away db kb mb pb) wr (.slice Ab bs.length cb) (boolV bs) := RdX.of_rd (HBS.out.below hB) hzr (fun j hj => by rw [e12]; rintro (h | h); (unfold Own at h; omega); exact h)
          have CU := Lib.hid (cut_any db kb mb pb mm d wr hD _ bs hkx (by omega))
          have HB := Lib.hid hB
          have HP := Lib.hid hD.ok.pend
          have E13 := Lib.hid e13
          clear hD hB hkx e12 e13
          go_wp2_with fail
          refine CU.out.mono ?_
          rintro e w3 ⟨rfl, hD3, hF3⟩
          have HB3 := Lib.hid (HB.out.trans (hF3.below (B := W0.heap.size) (by rintro j (h | h | h) <;> omega) HB.out.size))
          have ON := Lib.hid (on_any db kb mb pb mm _ w3 hD3)
          have E13b := Lib.hid (E13.out.frm hF3 (by rintro j (h | h | h); exact Or.inl (Or.inl h); exact Or.inl (Or.inr (Or.inl h)); exact Or.inl (Or.inr (Or.inr (Or.inl h)))))
          clear hD3 hF3
          go_wp2_with fail
          refine ON.out.mono ?_
          rintro e w4 ⟨rfl, hD4, hF4⟩
          have HB4 := Lib.hid (HB3.out.trans (hF4.below (B := W0.heap.size) (by rintro j rfl; omega) HB3.out.size))
          have E13c := Lib.hid (E13b.out.frm hF4 (by rintro j h; exact Or.inl (Or.inl h)))
          obtain ⟨K2, hK2⟩ : ∃ K2, setL d.size (keeps bs) d.pend 0 d.kept = K2 := ⟨_, rfl⟩
          have HI4 := Lib.hid (show RInv db kb mb pb mm (.slice (some ⟨gw, 0, none⟩) 512 cw) K1 K2 0 w4 from ⟨_, hD4, e3, e4, rfl, hK2, rfl, e11, E13c.out⟩)
          have hsl : ∀ s, s < 8 → slS 64 K2 s = slS 64 K1 s ∨ ∃ y ∈ ys, y.sec = (s : Nat) ∧ dataB y 64 = slS 64 K2 s := by
            intro s hs
            rw [← hK2, e4]
            rcases slS_set 64 (keeps bs) 8 s hs d.pend 0 d.kept (by rw [e7, hL1]) (by have := HP.out; rw [e3, e4] at this; exact this) with h | ⟨p, hp, h1, h2⟩
            · rw [e7] at h ⊢
              exact Or.inl h
            · right
              rw [e8] at hp
              obtain ⟨y, hy, g1, g2⟩ := dataP_mem hp
              exact ⟨y, hy, by rw [g1, h1], by rw [g2, h2]⟩
          have hL2 : K2.length = 512 := by
            rw [← hK2, e4]
            exact setL_length (n := 8) (keeps bs) d.pend 0 d.kept (by rw [e7, hL1]) (by have := HP.out; rw [e3, e4] at this; exact this)
          have HSL := Lib.hid hsl
          clear hsl hK2 hD4 hF4 ON CU HP E13 E13b E13c HB HB3 e1 e2 e3 e4 e5 e6 e7 e8 e9 e10 e11 hpl hzr
          go_wp2
          go_loopw [12] (fun i wx => ∃ q : Nat, q ≤ 8 ∧ i = .int .i64 q ∧ RInv db kb mb pb mm (.slice (some ⟨gw, 0, none⟩) 512 cw) K1 K2 q wx ∧ Below W0.heap.size W0 wx) (fun i wx => 8 - (intOf i).toNat)
          case atStart => exact ⟨0, by omega, rfl, HI4.out, HB4.out⟩
          case round =>
            obtain ⟨s, hs, rfl, ⟨d, hD, e1, e2, e3, e4, e5, e6, e7⟩, hB⟩ := hrel
            by_cases hlt : s < 8
            · have RD := Lib.hid (read_ok db kb mb pb mm d wr hD e3 s (by omega) (by omega) (by rw [e5]; simp))
              have hrb : readB d s = slS 64 K2 s := by unfold readB; rw [e5, e4, e2]; rfl
              have HRB := Lib.hid hrb
              have HB := Lib.hid hB
              have E7 := Lib.hid e7
              have hl := hD.lt
              clear hD hB hrb e7
              go_wp2_with fail
              refine RD.out.mono ?_
              rintro e w5 ⟨vx, rfl, ho5, hD5, hF5⟩
              rw [HRB.out, e2] at ho5
              obtain ⟨gx, cx5, rfl⟩ := own_form2 ho5 (by omega)
              have HB5 := Lib.hid (HB.out.trans (hF5.below (B := W0.heap.size) (by rintro j rfl; omega) HB.out.size))
              have HX5 := Lib.hid (RdV.own ho5)
              have HW5 := Lib.hid (E7.out.frm hF5 (by rintro j h; exact Or.inl (Or.inl h)))
              have HD5 := Lib.hid hD5
              clear ho5 hD5 hF5
              have E := fun (w : World) => run_conv_rd (P := Try.prog) w 32 9 5 Try.underlying32 Try.underlying5 Try.underlying9
              have HE := Lib.hid E
              have hcw : 512 ≤ cw := by
                obtain ⟨_, _, ee, g, _⟩ := HW5.out
                injection ee with _ _ e3
                rw [bv_length, hL1] at g
                omega
              have P1 := Lib.hid (show IntKind.i64.wrap ((s : Int) + 1) = (s : Int) + 1 by rw [IntKind.wrap_i64]; omega)
              have P2 := Lib.hid (show IntKind.i64.wrap (((s : Int) + 1) * 64) = ((s * 64 + 64 : Nat) : Int) by rw [IntKind.wrap_i64]; omega)
              have P3 := Lib.hid (show IntKind.i64.wrap ((s : Int) * 64) = ((s * 64 : Nat) : Int) by rw [IntKind.wrap_i64]; omega)
              obtain ⟨T, hT⟩ : ∃ T, s * 64 + 64 = T := ⟨_, rfl⟩
              rw [hT] at P2
              obtain ⟨S, hS⟩ : ∃ S, s * 64 = S := ⟨_, rfl⟩
              rw [hS] at P3 hT
              have hT1 : T ≤ cw := by omega
              have hT2 : S ≤ T := by omega
              have hT3 : T - S = 64 := by omega
              have hT4 : ¬ cw = S := by omega
              have HW27 : ∀ (w : World), Grow w5 w → RdV w w5.heap.size (.slice (some ⟨gw, S, none⟩) 64 (cw - S)) (bv (slS 64 K1 s)) := by
                intro w hi
                have h := (hi.rd HW5.out.rd (Nat.le_refl _)).sliced S T cw hT2 (by omega) hT1 (Nat.le_refl _)
                have he : ((bv K1).drop S).take (T - S) = bv (slS 64 K1 s) := by
                  unfold slS bv
                  rw [hS, hT3, List.map_take, List.map_drop]
                rw [he] at h
                unfold Go.sliced at h
                rw [hT3, if_neg (by omega)] at h
                simp only [Option.map_some, Addr.add_lit, Nat.mul_one, Nat.zero_add] at h
                exact h
              have HTS := Lib.hid (And.intro hT hS)
              have HW27 := Lib.hid HW27
              clear hT hS
              clear E
              go_upto_region 27 with (fail)
              refine region_ord (Grow w5) [false, false, false, false, false, false, false, false, false, false, false, false] (by kernel_rfl) (by kernel_rfl) (by kernel_rfl) ((Grow.refl _).drew) ?_
              (refine ord_val (by rfl) (by intro w hi; clear hi; go_simp; with_reducible rfl) (fun K hK => ?_); go_simp; refine hK _ ?_; clear hK K)
              (refine ord_val (by rfl) (by intro w hi; have z := HE.out w _ _ _ (hi.rd HX5.out (Nat.le_refl _)); clear hi; go_simp; with_reducible rfl) (fun K hK => ?_); go_simp; refine hK _ ?_; clear hK K)
              iterate 2 (refine ord_val (by rfl) (by intro w hi; clear hi; go_simp; with_reducible rfl) (fun K hK => ?_); go_simp; refine hK _ ?_; clear hK K)
              (refine ord_val (by rfl) (by intro w hi; have p3 := P3.out; clear hi; go_simp; with_reducible rfl) (fun K hK => ?_); go_simp; refine hK _ ?_; clear hK K)
              (refine ord_val (by rfl) (by intro w hi; clear hi; go_simp; with_reducible rfl) (fun K hK => ?_); go_simp; refine hK _ ?_; clear hK K)
              (refine ord_val (by rfl) (by intro w hi; have p1 := P1.out; clear hi; go_simp; with_reducible rfl) (fun K hK => ?_); go_simp; refine hK _ ?_; clear hK K)
              (refine ord_val (by rfl) (by intro w hi; have p2 := P2.out; clear hi; go_simp; with_reducible rfl) (fun K hK => ?_); go_simp; refine hK _ ?_; clear hK K)
              (refine ord_val (by rfl) (by intro w hi; clear hi; go_simp; with_reducible rfl) (fun K hK => ?_); go_simp; refine hK _ ?_; clear hK K)
              (refine ord_val (by rfl) (by intro w hi; have z := HE.out w _ _ _ (HW27.out w hi); clear hi; go_simp; with_reducible rfl) (fun K hK => ?_); go_simp; refine hK _ ?_; clear hK K)
              iterate 2 (refine ord_val (by rfl) (by intro w hi; clear hi; go_simp; with_reducible rfl) (fun K hK => ?_); go_simp; refine hK _ ?_; clear hK K)
              refine ord_nil ?_
              obtain ⟨b0, hb0⟩ : ∃ b0, (slS 64 K2 s == slS 64 K1 s) = b0 := ⟨_, rfl⟩
              rw [hb0]
              have HI0 := Lib.hid (show b0 = true ↔ (slS 64 K2 s = slS 64 K1 s ∨ ∃ y ∈ ys.take 0, y.sec = ((s : Nat) : Int) ∧ dataB y 64 = slS 64 K2 s) by rw [← hb0]; simp)
              have HC0 := Lib.hid (fun (w : World) (hi : Grow w5 w) => HB5.out.trans (hi.mono HB5.out.size))
              have HL5 := Lib.hid HB5.out.size
              clear hb0
              go_wp2
              go_loopw [15, 16] (fun o i wx => ∃ (q : Nat) (b : Bool), q ≤ ys.length ∧ i = .int .i64 q ∧ o = .bool b ∧ (b = true ↔ (slS 64 K2 s = slS 64 K1 s ∨ ∃ y ∈ ys.take q, y.sec = ((s : Nat) : Int) ∧ dataB y 64 = slS 64 K2 s)) ∧ Grow w5 wx) (fun o i wx => ys.length - (intOf i).toNat)
              case atStart => exact ⟨0, b0, by omega, rfl, rfl, HI0.out, (Grow.refl _).drew⟩
              case round =>
                obtain ⟨q, b, hq, rfl, rfl, hbq, hG⟩ := hrel
                have HBQ := Lib.hid hbq
                have HG := Lib.hid hG
                clear hbq hG
                by_cases hlq : q < ys.length
                · have htk := Lib.hid (List.take_succ_eq_append_getElem hlq)
                  cases b with
                  | true =>
                    go_upto_region 31 with (fail)
                    refine region_ord (Grow w5) [false, false, false, false, false, false, false, false, false, false, false, false, false, false, false, false, false, false, false, false, false, false] (by kernel_rfl) (by kernel_rfl) (by kernel_rfl) (HG.out.drew) ?_
                    iterate 2 (refine ord_val (by rfl) (by intro w hi; clear hi; go_simp; with_reducible rfl) (fun K hK => ?_); go_simp; refine hK _ ?_; clear hK K)
                    (refine ord_not (by rfl) (fun K hK => ?_); go_simp; refine hK _ ?_; clear hK K)
                    (refine ord_not (by rfl) (fun K hK => ?_); go_simp; refine hK _ ?_; clear hK K)
                    (refine ord_not (by rfl) (fun K hK => ?_); go_simp; refine hK _ ?_; clear hK K)
                    (refine ord_not (by rfl) (fun K hK => ?_); go_simp; refine hK _ ?_; clear hK K)
                    (refine ord_not (by rfl) (fun K hK => ?_); go_simp; refine hK _ ?_; clear hK K)
                    (refine ord_not (by rfl) (fun K hK => ?_); go_simp; refine hK _ ?_; clear hK K)
                    (refine ord_not (by rfl) (fun K hK => ?_); go_simp; refine hK _ ?_; clear hK K)
                    (refine ord_not (by rfl) (fun K hK => ?_); go_simp; refine hK _ ?_; clear hK K)
                    (refine ord_not (by rfl) (fun K hK => ?_); go_simp; refine hK _ ?_; clear hK K)
                    (refine ord_not (by rfl) (fun K hK => ?_); go_simp; refine hK _ ?_; clear hK K)
                    (refine ord_not (by rfl) (fun K hK => ?_); go_simp; refine hK _ ?_; clear hK K)
                    (refine ord_not (by rfl) (fun K hK => ?_); go_simp; refine hK _ ?_; clear hK K)
                    (refine ord_not (by rfl) (fun K hK => ?_); go_simp; refine hK _ ?_; clear hK K)
                    (refine ord_not (by rfl) (fun K hK => ?_); go_simp; refine hK _ ?_; clear hK K)
                    (refine ord_not (by rfl) (fun K hK => ?_); go_simp; refine hK _ ?_; clear hK K)
                    (refine ord_not (by rfl) (fun K hK => ?_); go_simp; refine hK _ ?_; clear hK K)
                    (refine ord_not (by rfl) (fun K hK => ?_); go_simp; refine hK _ ?_; clear hK K)
                    (refine ord_not (by rfl) (fun K hK => ?_); go_simp; refine hK _ ?_; clear hK K)
                    iterate 2 (refine ord_val (by rfl) (by intro w hi; clear hi; go_simp; with_reducible rfl) (fun K hK => ?_); go_simp; refine hK _ ?_; clear hK K)
                    refine ord_nil ?_
                    go_wp2
                    go_roundw
                    case rel =>
                      refine ⟨q + 1, true, by omega, by go_num, rfl, ?_, HG.out.drew⟩
                      have h := HBQ.out.1 rfl
                      refine iff_of_true rfl (h.imp id ?_)
                      rintro ⟨y, hy, h1, h2⟩
                      exact ⟨y, by rw [htk.out]; exact List.mem_append_left _ hy, h1, h2⟩
                    case measure => simp [intOf]; omega
                  | false =>
                    have hwq := hwy ys[q] (List.getElem_mem hlq)
                    obtain ⟨b, off, uB, uK, rfl, hbc, hA⟩ := HY.out.get (i := q) (x := ys[q]) (List.getElem?_eq_getElem hlq)
                    have HC := Lib.hid (fun (w : World) (hi : Grow w5 w) => AcAt.below hA hbc (HC0.out w hi))
                    obtain ⟨_, _, _, _, _, _, _, ⟨AB, cB, rfl, _⟩, ⟨AK, cK, rfl, _⟩⟩ := hA
                    by_cases hsec : ys[q].sec = ((s : Nat) : Int)
                    · have HSEC := Lib.hid hsec
                      clear hsec
                      go_upto_region 31 with (fail)
                      refine region_ord (Grow w5) [false, false, false, false, false, false, false, false, false, false, false, false, false, false, true, true, false, false, false, false, false, false] (by kernel_rfl) (by kernel_rfl) (by kernel_rfl) (HG.out.drew) ?_
                      iterate 6 (refine ord_val (by rfl) (by intro w hi; clear hi; go_simp; with_reducible rfl) (fun K hK => ?_); go_simp; refine hK _ ?_; clear hK K)
                      (refine ord_val (by rfl) (by intro w hi; have z := (HC.out w hi).2.1; rw [HSEC.out] at z; clear hi; go_simp; with_reducible rfl) (fun K hK => ?_); go_simp; refine hK _ ?_; clear hK K)
                      iterate 6 (refine ord_val (by rfl) (by intro w hi; clear hi; go_simp; with_reducible rfl) (fun K hK => ?_); go_simp; refine hK _ ?_; clear hK K)
                      (refine ord_val (by rfl) (by intro w hi; obtain ⟨z0, z1, z2, z3, z4, z5, z6, _, _⟩ := (HC.out w hi); clear hi; go_simp; with_reducible rfl) (fun K hK => ?_); go_simp; refine hK _ ?_; clear hK K)
                      refine ord_eff (by rfl) (fun K hK => ?_)
                      refine gets_sem ?_
                      go_simp
                      refine Calls.mono (data_any ys[q] hwq _ _ 64 (by omega) wr.drew W0.heap.size (HC0.out _ HG.out.drew).size (HC.out _ HG.out.drew).2.2.2.2.2.2.2.1) ?_
                      rintro e w6 ⟨v6, rfl, hx6, hb6⟩
                      have hx7 := (hx6 (fun _ => False) (fun _ _ h => h) (fun _ _ _ h => h)).rd
                      have HG6 := Lib.hid (HG.out.drew.trans (c := w6) hb6)
                      have x6 := HE.out w6 _ _ _ hx7
                      refine ⟨_, rfl, HG6.out, hK _ _ ?_⟩
                      clear hK K hx6 hx7 hb6
                      refine ord_eff (by rfl) (fun K hK => ?_)
                      refine gets_sem ?_
                      go_simp
                      refine ⟨HG6.out, hK _ _ ?_⟩
                      clear hK K x6
                      (refine ord_val (by rfl) (by intro w hi; clear hi; go_simp; with_reducible rfl) (fun K hK => ?_); go_simp; refine hK _ ?_; clear hK K)
                      (refine ord_val (by rfl) (by intro w hi; have z := HE.out w _ _ _ (hi.rd HX5.out (Nat.le_refl _)); clear hi; go_simp; with_reducible rfl) (fun K hK => ?_); go_simp; refine hK _ ?_; clear hK K)
                      iterate 4 (refine ord_val (by rfl) (by intro w hi; clear hi; go_simp; with_reducible rfl) (fun K hK => ?_); go_simp; refine hK _ ?_; clear hK K)
                      refine ord_nil ?_
                      go_wp2
                      go_roundw
                      case rel =>
                        refine ⟨q + 1, _, by omega, by go_num, rfl, ?_, HG6.out⟩
                        have h := HBQ.out
                        rw [beq_iff_eq, htk.out]
                        constructor
                        · intro e
                          exact Or.inr ⟨ys[q], List.mem_append_right _ (List.mem_singleton.2 rfl), HSEC.out, e⟩
                        · rintro (e | ⟨y, hy, h1, h2⟩)
                          · exact absurd (h.2 (Or.inl e)) (by simp)
                          · rcases List.mem_append.1 hy with hy | hy
                            · exact absurd (h.2 (Or.inr ⟨y, hy, h1, h2⟩)) (by simp)
                            · rw [List.mem_singleton.1 hy] at h2; exact h2
                      case measure => simp [intOf]; omega
                    · have HSEC := Lib.hid hsec
                      have hse : (ys[q].sec == ((s : Nat) : Int)) = false := by rw [beq_eq_false_iff_ne]; exact hsec
                      clear hsec
                      go_upto_region 31 with (fail)
                      refine region_ord (Grow w5) [false, false, false, false, false, false, false, false, false, false, false, false, false, false, false, false, false, false, false, false, false, false] (by kernel_rfl) (by kernel_rfl) (by kernel_rfl) (HG.out.drew) ?_
                      iterate 6 (refine ord_val (by rfl) (by intro w hi; clear hi; go_simp; with_reducible rfl) (fun K hK => ?_); go_simp; refine hK _ ?_; clear hK K)
                      (refine ord_val (by rfl) (by intro w hi; have z := (HC.out w hi).2.1; clear hi; go_simp; with_reducible rfl) (fun K hK => ?_); go_simp; refine hK _ ?_; clear hK K)
                      iterate 3 (refine ord_val (by rfl) (by intro w hi; clear hi; go_simp; with_reducible rfl) (fun K hK => ?_); go_simp; refine hK _ ?_; clear hK K)
                      (refine ord_not (by rfl) (fun K hK => ?_); go_simp; refine hK _ ?_; clear hK K)
                      (refine ord_not (by rfl) (fun K hK => ?_); go_simp; refine hK _ ?_; clear hK K)
                      (refine ord_not (by rfl) (fun K hK => ?_); go_simp; refine hK _ ?_; clear hK K)
                      (refine ord_not (by rfl) (fun K hK => ?_); go_simp; refine hK _ ?_; clear hK K)
                      (refine ord_not (by rfl) (fun K hK => ?_); go_simp; refine hK _ ?_; clear hK K)
                      (refine ord_not (by rfl) (fun K hK => ?_); go_simp; refine hK _ ?_; clear hK K)
                      (refine ord_not (by rfl) (fun K hK => ?_); go_simp; refine hK _ ?_; clear hK K)
                      (refine ord_not (by rfl) (fun K hK => ?_); go_simp; refine hK _ ?_; clear hK K)
                      (refine ord_not (by rfl) (fun K hK => ?_); go_simp; refine hK _ ?_; clear hK K)
                      iterate 3 (refine ord_val (by rfl) (by intro w hi; clear hi; go_simp; with_reducible rfl) (fun K hK => ?_); go_simp; refine hK _ ?_; clear hK K)
                      refine ord_nil ?_
                      go_wp2
                      go_roundw
                      case rel =>
                        refine ⟨q + 1, false, by omega, by go_num, rfl, ?_, HG.out.drew⟩
                        have h := HBQ.out
                        rw [htk.out]
                        refine iff_of_false (by simp) ?_
                        rintro (e | ⟨y, hy, h1, h2⟩)
                        · exact absurd (h.2 (Or.inl e)) (by simp)
                        · rcases List.mem_append.1 hy with hy | hy
                          · exact absurd (h.2 (Or.inr ⟨y, hy, h1, h2⟩)) (by simp)
                          · rw [List.mem_singleton.1 hy] at h1; exact HSEC.out h1
                      case measure => simp [intOf]; omega
                · obtain rfl : q = ys.length := by omega
                  have hbt : b = true := by
                    refine HBQ.out.2 ?_
                    rw [List.take_length]
                    exact HSL.out s hlt
                  subst hbt
                  go_wp2
                  go_roundw
                  case rel => exact ⟨s + 1, by omega, by go_num, ⟨_, HD5.out.next (Frm.of_below HG.out), e1, e2, e3, e4, e5, by show d.reads + 1 = _; omega, HW5.out.frm (O := fun _ => False) (Frm.of_below HG.out) (fun j h => h.elim)⟩, HB5.out.trans (HG.out.mono HB5.out.size)⟩
                  case measure => simp [intOf]; omega
            · obtain rfl : s = 8 := by omega
              have PE := pending_any db kb mb pb mm d wr hD
              rw [e5] at PE
              have PE := Lib.hid PE
              have HB := Lib.hid hB
              clear hD hB
              go_wp2_with fail
              refine PE.out.mono ?_
              rintro e w5 ⟨rfl, rfl⟩
              go_wp2
              go_ret
              exact ⟨rfl, HB.out⟩

set_option maxRecDepth 100000 in
theorem lifted (os : Os) (started : os.Started) (H : Type) (enc : TypeId × Value → H) (F : Stop.Interp) :
    ReturnsInHanded {} Try.checked os 5 .any ((Rows.OpenSpec.upto Rows.diskOutlastsSpec).pre6 enc Try.prog Try.f5 Rows.diskOutlastsUptoRow.domain false) (((Rows.OpenSpec.upto Rows.diskOutlastsSpec).at F).post enc Try.prog Try.f5 false true false false) := by
  refine returnsInHanded_of_cond (C := Try.checked) (s := Rows.OpenSpec.upto Rows.diskOutlastsSpec) (k := Rows.uptoSmall) rfl own started (by kernel_rfl) Try.func5
    (OpenSpec.witness (enc := enc) (C := Try.checked) (s := Rows.OpenSpec.upto Rows.diskOutlastsSpec) (k := Rows.uptoSmall) rfl false ⟨#[], #[.slice none 0 0, .slice none 0 0, .slice none 0 0], []⟩ 8 (by kernel_rfl) (by kernel_rfl) (by kernel_rfl)
      (x := ([.nil, .nil, .nil], [], [])) (by kernel_rfl) rfl (by kernel_rfl)) ?_
  intro W base args ds gs before hval0 hW _ hk _
  have hval : ∀ (j : Nat) t v, Try.f5.params[j]? = some t → args[j]? = some v → Value.okWide Try.prog W .any base t v := hval0
  have hW' := hW
  obtain ⟨p, q, hA0, hV, rfl, hfz, hnd⟩ := hW
  have hA : DataW.TrodAll enc Try.prog W 0 (fun _ => true) true Try.f5.params.toList args.toList ds p := hA0
  rw [Try.params5] at hA hval
  obtain ⟨v0, vs0, d0, ds0, p0, q0, hargs, rfl, rfl, h0, r0⟩ := trodAll_cons hA
  obtain ⟨v1, vs1, d1, ds1, p1, q1, rfl, rfl, rfl, h1, r1⟩ := trodAll_cons r0
  obtain ⟨v2, vs2, d2, ds2, p2, q2, rfl, rfl, rfl, h2, r2⟩ := trodAll_cons r1
  obtain ⟨rfl, rfl, rfl⟩ := trodAll_nil r2
  obtain rfl : args = #[v0, v1, v2] := by cases args; simp_all
  obtain ⟨rfl, rfl⟩ := trodVars_none hV
  have hbulk := bulk_of hk
  rw [List.append_nil] at hbulk
  obtain ⟨y0, hy0, hw0, m0⟩ := open_dacts Try.underlying22 Try.underlying36 (by kernel_rfl) ⟨rfl, rfl, rfl, rfl, rfl, rfl, rfl⟩ ⟨by kernel_rfl, by kernel_rfl, by kernel_rfl, by kernel_rfl, by kernel_rfl, by kernel_rfl, by kernel_rfl⟩ Try.underlying3 Try.underlying3 Try.underlying5 Try.underlying32 Try.underlying3 Try.underlying33 Try.underlying34 Try.underlying5 Try.underlying4 (by kernel_rfl) (by kernel_rfl) (hval 0 22 v0 rfl rfl) h0
  obtain ⟨y1, hy1, hw1, m1⟩ := open_dacts Try.underlying22 Try.underlying36 (by kernel_rfl) ⟨rfl, rfl, rfl, rfl, rfl, rfl, rfl⟩ ⟨by kernel_rfl, by kernel_rfl, by kernel_rfl, by kernel_rfl, by kernel_rfl, by kernel_rfl, by kernel_rfl⟩ Try.underlying3 Try.underlying3 Try.underlying5 Try.underlying32 Try.underlying3 Try.underlying33 Try.underlying34 Try.underlying5 Try.underlying4 (by kernel_rfl) (by kernel_rfl) (hval 1 22 v1 rfl rfl) h1
  obtain ⟨bs, hbs⟩ := open_boolV Try.underlying33 Try.underlying4 (by kernel_rfl) (hval 2 33 v2 rfl rfl) h2
  clear hA0 hval0
  simp only [Rows.uptoBulkAll] at hbulk
  refine (walk v0 y0 hy0 hw0 (by unfold acW; omega) v1 y1 hy1 hw1 (by unfold acW; omega) v2 bs hbs W rfl).mono fun e W' ⟨he, hb⟩ => ?_
  subst he
  exact ⟨_, rfl, law_post hW' rfl laid (by kernel_rfl) rfl Try.underlying4 rfl hb⟩

theorem over : Rows.diskOutlastsUptoRow.holds Try.pinned (Rows.OpenSpec.upto Rows.diskOutlastsSpec) :=
  OpenClaim.holds_of_cond 5 Try.f5 rfl rfl rfl rfl rfl rfl rfl ⟨rfl, rfl, rfl, rfl, rfl⟩ rfl rfl rfl rfl rfl (by kernel_rfl) Try.func5 (by kernel_rfl)
    (of_decide_eq_true (by kernel_rfl)) (by unfold Func.isWrapper; first | (rw [if_pos (by decide +kernel)]; kernel_rfl) | (rw [if_neg (by decide +kernel)]; exact ⟨rfl, rfl⟩))
    (fun os started H enc _ F => lifted os started H enc F)

theorem proved : Rows.DiskOutlastsUptoSaid :=
  over
end Go.Proofs.Ytldmamcalfmedaa.lawDiskOutlasts
