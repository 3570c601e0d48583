/- The law CrcSums answers true for any parts, bytes, place and pattern that hold together at most 1048576 values and letters: any parts' sum; any bytes sealed, opened, turned. Conditions: that bound; the table of the package is laid as the program's text lays it. -/
import Derived.Test.YtclenafidfpinaaDoorCro
import Derived.Test.YtclenafidfpinaaDoorCrt
import Derived.Test.YtclenafidfpinaaDoorCrr
import Derived.Test.YtclenafidfpinaaDoorInm
import Derived.Test.YtclenafidfpinaaDoorBlk
import Derived.Test.YtclenafidfpinaaDoorTie
import Derived.Test.YtclenafidfpinaaDoorCards
import Derived.SevenTiedAt
import Derived.LaidMore
import Derived.Deep.DeepHandedRow
namespace Go.Proofs.YtclenafidfpinaaDoor.lawCrcSums
open Go.ChangeShapes Go.WideShapes Go.ChangeAt Go.RowKit
set_option linter.unusedSimpArgs false
set_option linter.unusedVariables false

theorem own : ownKnob Tryd.prog.godebug = none := by kernel_rfl
theorem laid : laidOutB Tryd.prog = true := by kernel_rfl

theorem sum_take (ls : List (List UInt8)) (k : Nat) (h : k < ls.length) : ((ls.take (k + 1)).map List.length).sum = ((ls.take k).map List.length).sum + ls[k].length := by
  rw [List.take_succ_eq_append_getElem h, List.map_append, List.sum_append]; simp
theorem sum_le (ls : List (List UInt8)) (k : Nat) : ((ls.take k).map List.length).sum ≤ (ls.map List.length).sum := by
  conv => rhs; rw [← List.take_append_drop k ls]
  rw [List.map_append, List.sum_append]; omega
theorem flat_len (ls : List (List UInt8)) : ls.flatten.length = (ls.map List.length).sum := by rw [List.length_flatten]
theorem flat_take (ls : List (List UInt8)) (k : Nat) (h : k < ls.length) : (ls.take (k + 1)).flatten = (ls.take k).flatten ++ ls[k] := by
  rw [List.take_succ_eq_append_getElem h, List.flatten_append]; simp
theorem elem_le (ls : List (List UInt8)) (k : Nat) (h : k < ls.length) : ls[k].length ≤ (ls.map List.length).sum := by
  have h1 := sum_take ls k h
  have h2 := sum_le ls (k + 1)
  omega
theorem op_det {w w' : World} {l : List UInt8} {e : Ending} (h : OpenP w l e w') :
    ∃ (ee : Int) (pl : List UInt8) (v : Value), e = .returned (.tuple #[v, .int .i64 ee]) ∧ RdV w' w'.heap.size v (bv pl) ∧ Below w.heap.size w w' ∧
      ∀ (u u' : World) (f : Ending), OpenP u l f u' → ∃ v2, f = .returned (.tuple #[v2, .int .i64 ee]) ∧ RdV u' u'.heap.size v2 (bv pl) ∧ Below u.heap.size u u' := by
  obtain ⟨h, hb⟩ := h
  rcases h with ⟨a1, e1⟩ | ⟨a1, a2, e1⟩ | ⟨a1, a2, r, e1, hr⟩
  · refine ⟨21, [], .slice none 0 0, e1, RdV.nil_ _ _, hb, fun u u' f g => ?_⟩
    obtain ⟨g, gb⟩ := g
    rcases g with ⟨c1, f1⟩ | ⟨c1, c2, f1⟩ | ⟨c1, c2, r2, f1, hr2⟩
    · exact ⟨_, f1, RdV.nil_ _ _, gb⟩
    · omega
    · omega
  · refine ⟨23, [], .slice none 0 0, e1, RdV.nil_ _ _, hb, fun u u' f g => ?_⟩
    obtain ⟨g, gb⟩ := g
    rcases g with ⟨c1, f1⟩ | ⟨c1, c2, f1⟩ | ⟨c1, c2, r2, f1, hr2⟩
    · omega
    · exact ⟨_, f1, RdV.nil_ _ _, gb⟩
    · exact absurd c2 a2
  · refine ⟨0, _, r, e1, hr, hb, fun u u' f g => ?_⟩
    obtain ⟨g, gb⟩ := g
    rcases g with ⟨c1, f1⟩ | ⟨c1, c2, f1⟩ | ⟨c1, c2, r2, f1, hr2⟩
    · omega
    · exact absurd a2 c2
    · exact ⟨_, f1, hr2, gb⟩
set_option maxRecDepth 100000 in
set_option maxHeartbeats 16000000 in
theorem walk {W0 : World} (vp : Value) (ls : List (List UInt8)) (hrp : RdS W0 W0.heap.size vp ls) (vb : Value) (lb : List UInt8) (hrb : RdV W0 W0.heap.size vb (bv lb)) (bit : Int) (wb : (Lit.int .i64 bit).wf = true) (pi : Int) (wp : (Lit.int .u32 pi).wf = true) (hbk : (ls.map List.length).sum + ls.length ≤ 1048576) (hbl : lb.length ≤ 1048576) (w : World) (hw : W0 = w) (hN : Nibs w) :
    Calls Tryd.prog 3 #[vp, vb, .int .i64 bit, .int .u32 pi] w fun e w' => e = .returned (.bool true) ∧ Below w.heap.size w w' := by
  subst hw
  obtain ⟨hb0, hb1⟩ : -9223372036854775808 ≤ bit ∧ bit ≤ 9223372036854775807 := by simpa [Lit.wf, IntKind.min, IntKind.max, IntKind.signed, IntKind.bits] using wb
  obtain ⟨hp0, hp1⟩ : 0 ≤ pi ∧ pi ≤ 4294967295 := by simpa [Lit.wf, IntKind.min, IntKind.max, IntKind.signed, IntKind.bits] using wp
  obtain ⟨p, rfl⟩ := Int.eq_ofNat_of_zero_le hp0
  have hp : p < 4294967296 := by omega
  clear wb wp hp0 hp1
  have hrpp := hrp
  have hrbb := hrb
  obtain ⟨vs, hv, hvl, hvr⟩ := hrp
  have hvv := hv
  obtain ⟨A, ca, rfl, hla, hma, hA⟩ := hv
  obtain ⟨Bq, cb, rfl, hlb, hmb, hB⟩ := hrb
  simp only [bv_length] at hlb hB hrbb ⊢
  simp only [hvl] at hla hA hvv hrpp ⊢
  unfold maxLen at hma hmb
  have hk := kcrc_any W0 hN
  have HK := Lib.hid hk
  have HP := Lib.hid hrpp
  have HV := Lib.hid hvv
  have HVL := Lib.hid hvl
  have HVR := Lib.hid hvr
  have HB := Lib.hid hrbb
  have HN := Lib.hid hN
  have hnl : ls.length ≤ 1048576 := by omega
  have hsum := sum_le ls
  have hst := sum_take ls
  have hel := elem_le ls
  have HSUM := Lib.hid hsum
  have HST := Lib.hid hst
  have HEL := Lib.hid hel
  clear hA hB hk hrpp hvv hvl hvr hrbb hN hsum hst hel
  generalize hTT : (ls.map List.length).sum = TT at *
  have HTT := Lib.hid hTT
  clear hTT
  go_enter Tryd.func3, Tryd.ntmps3
  go_wp2_with fail
  refine HK.out.mono ?_
  rintro e w1 ⟨rfl, hb1'⟩
  have hz1 := hb1'.size
  go_wp2_with fail
  go_loop [9, 10] (fun n i => ∃ k : Nat, k ≤ ls.length ∧ i = .int .i64 k ∧ n = .int .i64 (((ls.take k).map List.length).sum : Nat)) (fun _ i => ls.length - (intOf i).toNat)
  case atStart => exact ⟨0, by omega, rfl, by simp⟩
  case round =>
    obtain ⟨k, hk, rfl, rfl⟩ := hrel
    by_cases hlt : k < ls.length
    · have hkv : k < vs.length := by rw [HVL.out]; exact hlt
      obtain ⟨b1, o1, e1, hq1, hc1⟩ := RdV.get (HV.out.below hb1') (j := k) (u := vs[k]) (List.getElem?_eq_getElem hkv)
      have hrk := HVR.out k vs[k] ls[k] (List.getElem?_eq_getElem hkv) (List.getElem?_eq_getElem hlt)
      obtain ⟨Ak, ck, ek, _, _, _⟩ := hrk
      rw [bv_length] at ek
      rw [ek] at hc1
      subst e1
      have h1 := HST.out k hlt
      have h2 := HSUM.out (k + 1)
      rw [h1] at h2
      have h3 := HEL.out k hlt
      have HH1 := Lib.hid h1
      clear h1 ek hkv
      generalize ((ls.take k).map List.length).sum = s at *
      generalize ls[k].length = m at *
      go_wp2
      go_round
      case rel => exact ⟨k + 1, by omega, by go_num, by rw [HH1.out]; go_num⟩
      case measure => simp [intOf]; omega
    · obtain rfl : k = ls.length := by omega
      rw [List.take_length, HTT.out]
      by_cases d1 : TT ≤ 8192
      case neg =>
        go_wp2
        go_ret
        exact ⟨rfl, hb1'⟩
      by_cases d2 : lb.length ≤ 8192
      case neg =>
        go_wp2
        go_ret
        exact ⟨rfl, hb1'⟩
      by_cases d3 : ls.length ≤ 1000
      case neg =>
        go_wp2
        go_ret
        exact ⟨rfl, hb1'⟩
      clear hlt hk
      go_wp2_with fail
      go_loopw [11, 12] (fun v i wr => ∃ k : Nat, k ≤ ls.length ∧ i = .int .i64 k ∧ wr.ownsRow W0.heap.size 5 1 v (ls.take k).flatten.length (bv (ls.take k).flatten) ∧ Below W0.heap.size W0 wr) (fun _ i _ => ls.length - (intOf i).toNat)
      case atStart => exact ⟨0, by omega, rfl, ⟨by simp [bv], Or.inl ⟨rfl, rfl⟩⟩, hb1'⟩
      case round =>
        obtain ⟨k, hk, rfl, hown, hbel⟩ := hrel
        have hzr := hbel.size
        by_cases hlt : k < ls.length
        · have hkv : k < vs.length := by rw [HVL.out]; exact hlt
          obtain ⟨b1, o1, e1, hq1, hc1⟩ := RdV.get (HV.out.below hbel) (j := k) (u := vs[k]) (List.getElem?_eq_getElem hkv)
          have hrk := HVR.out k vs[k] ls[k] (List.getElem?_eq_getElem hkv) (List.getElem?_eq_getElem hlt)
          have HRK := Lib.hid (hrk.below hbel)
          have h1 := HST.out k hlt
          have h2 := HSUM.out (k + 1)
          rw [h1] at h2
          have hfl := flat_len (ls.take k)
          have hft := flat_take ls k hlt
          have HFT := Lib.hid hft
          have hsz : (ls.take k).flatten.length + ls[k].length ≤ 8192 := by omega
          have HOW := Lib.hid hown
          subst e1
          generalize vs[k] = x at *
          clear h1 h2 hfl hft hrk hkv hown
          go_wp2_with (at_builtin; refine wpList_append_rd _ rfl _ _ 23 rfl W0.heap.size 5 (.int .u8 0) 1 Tryd.underlying23 Tryd.inf5C rfl _ _ _ (by rfl) HOW.out _ (by rfl) _ (bv ls[k]) HRK.out (bv_one _) (by rw [bv_length]; omega) (by omega) hzr ?_; intro v2 w2 ho2 hg2 _; rw [bv_length, ← bv_append] at ho2)
          have hB2 : Below W0.heap.size W0 w2 := hbel.grown hg2 hzr (by intro g hg; exact (HOW.out.lt g hg).1)
          have hO2 : w2.ownsRow W0.heap.size 5 1 v2 (ls.take (k + 1)).flatten.length (bv (ls.take (k + 1)).flatten) := by rw [HFT.out, List.length_append]; exact ho2
          have HO2 := Lib.hid hO2
          clear ho2 hg2 hO2
          go_wp2
          go_roundw
          case rel => exact ⟨k + 1, by omega, by go_num, HO2.out, hB2⟩
          case measure => simp [intOf]; omega
        · obtain rfl : k = ls.length := by omega
          rw [List.take_length] at hown
          have hall := flat_len ls
          rw [HTT.out] at hall
          have hra := RdV.own hown
          obtain ⟨Al, cl, el, _, _, _⟩ := id hra
          rw [bv_length] at el
          subst el
          have q1 := fun w1 (h : Below W0.heap.size W0 w1) => sum_any w1 _ _ _ (HP.out.below h) (HN.out.next h)
          generalize hfl : ls.flatten = all at *
          have hal : all.length ≤ 8192 := by omega
          have HRA := Lib.hid hra
          have q7 := open_any (.slice Bq lb.length cb) lb (by omega) _ _ hzr (HB.out.below hbel) (HN.out.next hbel)
          have q8 := fun w1 (h : Below W0.heap.size W0 w1) => ropen_any (.slice Bq lb.length cb) lb (by omega) w1 _ h.size (HB.out.below h)
          have q5 := fun w1 (h : Below W0.heap.size W0 w1) => burst_any (.slice Bq lb.length cb) lb bit p hb0 hb1 hp (by omega) w1 _ h.size (HB.out.below h)
          have q6 := fun w1 (h : Below W0.heap.size W0 w1) => rburst_any (.slice Bq lb.length cb) lb bit p hb0 hb1 hp (by omega) w1 _ h.size (HB.out.below h)
          have Q1 := Lib.hid q1
          have Q7 := Lib.hid q7
          have Q8 := Lib.hid q8
          have Q5 := Lib.hid q5
          have Q6 := Lib.hid q6
          have HAL := Lib.hid hall
          clear q1 q7 q8 q5 q6 hra hown hlt hall hfl
          go_wp2_with fail
          refine Q7.out.mono ?_
          intro e w2 hP
          obtain ⟨ee, pl, v1, rfl, hv1, hb2, hdet⟩ := op_det hP
          have hB2 := nextB hb2 hbel
          have HX0 := Lib.hid hv1
          have HD := Lib.hid hdet
          have hq8 := Q8.out w2 hB2
          have Q8' := Lib.hid hq8
          clear hP hv1 hdet hq8
          go_wp2_with fail
          refine Q8'.out.mono ?_
          intro e w3 hP
          obtain ⟨v2, rfl, hv2, hb3⟩ := HD.out _ _ _ hP
          have hB3 := nextB hb3 hB2
          have HX2 := Lib.hid hv2
          have HX1 := Lib.hid (HX0.out.below hb3)
          have hsz1 := hb3.size
          have hb13 := nextB hb3 hb2
          have HRA3 := Lib.hid (HRA.out.below hb13)
          have hs13 := hb13.size
          have q2 := fun w (hg : Grow w3 w) => rsum_any w _ _ _ (hg.rd HRA3.out hs13)
          have q3 := fun w (hg : Grow w3 w) => seal_any _ all (by omega) w _ (Nat.le_trans hs13 hg.size) (hg.rd HRA3.out hs13) (HN.out.next (hB3.trans (hg.mono hB3.size)))
          have q4 := fun w (hg : Grow w3 w) => rseal_any _ all (by omega) w _ (Nat.le_trans hs13 hg.size) (hg.rd HRA3.out hs13)
          generalize Cr.sum (u8n all) = S1 at *
          have Q2 := Lib.hid q2
          have Q3 := Lib.hid q3
          have Q4 := Lib.hid q4
          have E := fun (w : World) => run_conv_rd (P := Tryd.prog) w 23 9 5 Tryd.underlying23 Tryd.underlying5 Tryd.underlying9
          have HE := Lib.hid E
          clear hP hv2 q2 q3 q4 E
          go_wp2
          refine region_inv [none, some (DVal (.int .u32 (S1 : Nat))), none, some (DVal (.int .u32 (S1 : Nat))), none, none, none, some (DRow (bv (sealL all))), none, none, some (DRow (bv (sealL all))), none, none, none, none, none, none, none, none, none, none, none, none, none, none, none, none, none, none, none, some (DRow (bv (burst lb bit p))), none, none, none, none, some (DRow (bv (burst lb bit p))), none, none, none, none] (by kernel_rfl) (by kernel_rfl) ⟨DVal.stable _, DVal.stable _, DRow.stable _, DRow.stable _, DRow.stable _, DRow.stable _, trivial⟩ (by kernel_rfl) ?_
          (refine inv_val (by rfl) (by intro w hg hl; clear hl; go_simp; with_reducible rfl) (fun K hK => ?_); go_simp; refine hK _ ?_; clear hK K)
          refine inv_is (by rfl) (by rfl) (by
              intro w hg hl
              clear hl
              refine gets_sem ?_
              go_simp
              refine ((Q1.out w (hB3.trans (hg.mono hB3.size)))).mono ?_
              rintro e w5 ⟨rfl, rfl⟩
              exact ⟨_, rfl, rfl, Grow.refl _⟩) (fun K hK => ?_)
          go_simp; refine hK _ ?_; clear hK K
          (refine inv_val (by rfl) (by intro w hg hl; clear hl; go_simp; with_reducible rfl) (fun K hK => ?_); go_simp; refine hK _ ?_; clear hK K)
          refine inv_is (by rfl) (by rfl) (by
              intro w hg hl
              clear hl
              refine gets_sem ?_
              go_simp
              refine ((Q2.out w hg)).mono ?_
              rintro e w5 ⟨rfl, rfl⟩
              exact ⟨_, rfl, rfl, Grow.refl _⟩) (fun K hK => ?_)
          go_simp; refine hK _ ?_; clear hK K
          iterate 3 (refine inv_val (by rfl) (by intro w hg hl; clear hl; go_simp; with_reducible rfl) (fun K hK => ?_); go_simp; refine hK _ ?_; clear hK K)
          refine inv_any (by rfl) (by rfl) (by
              intro w hg hl
              clear hl
              refine gets_sem ?_
              go_simp
              refine ((Q3.out w hg)).mono ?_
              rintro e w5 ⟨r5, rfl, ho5, hb5⟩
              exact ⟨r5, rfl, ho5, hb5⟩) (fun v73 hv K hK => ?_)
          clear hv
          go_simp; refine hK _ ?_; clear hK K
          (refine inv_val (by rfl) (by intro w hg hl; have z := HE.out w _ _ _ (show RdV w w.heap.size v73 (bv (sealL all)) from hl.at 7 73 (by kernel_rfl) rfl); clear hl; go_simp; with_reducible rfl) (fun K hK => ?_); go_simp; refine hK _ ?_; clear hK K)
          (refine inv_val (by rfl) (by intro w hg hl; clear hl; go_simp; with_reducible rfl) (fun K hK => ?_); go_simp; refine hK _ ?_; clear hK K)
          refine inv_any (by rfl) (by rfl) (by
              intro w hg hl
              clear hl
              refine gets_sem ?_
              go_simp
              refine ((Q4.out w hg)).mono ?_
              rintro e w5 ⟨r5, rfl, ho5, hb5⟩
              exact ⟨r5, rfl, RdV.own ho5, hb5⟩) (fun v76 hv K hK => ?_)
          clear hv
          go_simp; refine hK _ ?_; clear hK K
          (refine inv_val (by rfl) (by intro w hg hl; have z := HE.out w _ _ _ (show RdV w w.heap.size v76 (bv (sealL all)) from hl.at 10 76 (by kernel_rfl) rfl); clear hl; go_simp; with_reducible rfl) (fun K hK => ?_); go_simp; refine hK _ ?_; clear hK K)
          iterate 4 (refine inv_val (by rfl) (by intro w hg hl; clear hl; go_simp; with_reducible rfl) (fun K hK => ?_); go_simp; refine hK _ ?_; clear hK K)
          (refine inv_val (by rfl) (by intro w hg hl; have z := HE.out w _ _ _ (hg.rd HX1.out (Nat.le_trans hsz1 (Nat.le_refl _))); clear hl; go_simp; with_reducible rfl) (fun K hK => ?_); go_simp; refine hK _ ?_; clear hK K)
          (refine inv_val (by rfl) (by intro w hg hl; clear hl; go_simp; with_reducible rfl) (fun K hK => ?_); go_simp; refine hK _ ?_; clear hK K)
          (refine inv_val (by rfl) (by intro w hg hl; have z := HE.out w _ _ _ (hg.rd HX2.out (Nat.le_refl _)); clear hl; go_simp; with_reducible rfl) (fun K hK => ?_); go_simp; refine hK _ ?_; clear hK K)
          iterate 11 (refine inv_val (by rfl) (by intro w hg hl; clear hl; go_simp; with_reducible rfl) (fun K hK => ?_); go_simp; refine hK _ ?_; clear hK K)
          refine inv_any (by rfl) (by rfl) (by
              intro w hg hl
              clear hl
              refine gets_sem ?_
              go_simp
              refine ((Q5.out w (hB3.trans (hg.mono hB3.size)))).mono ?_
              rintro e w5 ⟨r5, rfl, ho5, hb5⟩
              exact ⟨r5, rfl, ho5, hb5⟩) (fun v96 hv K hK => ?_)
          clear hv
          go_simp; refine hK _ ?_; clear hK K
          (refine inv_val (by rfl) (by intro w hg hl; have z := HE.out w _ _ _ (show RdV w w.heap.size v96 (bv (burst lb bit p)) from hl.at 30 96 (by kernel_rfl) rfl); clear hl; go_simp; with_reducible rfl) (fun K hK => ?_); go_simp; refine hK _ ?_; clear hK K)
          iterate 3 (refine inv_val (by rfl) (by intro w hg hl; clear hl; go_simp; with_reducible rfl) (fun K hK => ?_); go_simp; refine hK _ ?_; clear hK K)
          refine inv_any (by rfl) (by rfl) (by
              intro w hg hl
              clear hl
              refine gets_sem ?_
              go_simp
              refine ((Q6.out w (hB3.trans (hg.mono hB3.size)))).mono ?_
              rintro e w5 ⟨r5, rfl, ho5, hb5⟩
              exact ⟨r5, rfl, RdV.own ho5, hb5⟩) (fun v101 hv K hK => ?_)
          clear hv
          go_simp; refine hK _ ?_; clear hK K
          (refine inv_val (by rfl) (by intro w hg hl; have z := HE.out w _ _ _ (show RdV w w.heap.size v101 (bv (burst lb bit p)) from hl.at 35 101 (by kernel_rfl) rfl); clear hl; go_simp; with_reducible rfl) (fun K hK => ?_); go_simp; refine hK _ ?_; clear hK K)
          iterate 3 (refine inv_val (by rfl) (by intro w hg hl; clear hl; go_simp; with_reducible rfl) (fun K hK => ?_); go_simp; refine hK _ ?_; clear hK K)
          intro w4 hg hh
          clear hh
          have hB4 := hB3.trans (hg.mono hB3.size)
          go_wp2
          go_ret
          exact ⟨rfl, hB4⟩

theorem door_met (os : Os) (args : Array Value) : laidMetH Tryd.prog Rows.crcSumsUptoRow.laid ((World.doorLaid Tryd.prog 400 os).forCall (fun _ _ => 0) ⟨#[], args, []⟩).memory :=
  laidMetH_of_parts3 (fuel := 8) (laidMet_of_run' 8 (by kernel_rfl) (by kernel_rfl)) (by kernel_rfl) (by kernel_rfl)
theorem reads (os : Os) {H : Type} (enc : TypeId × Value → H) : ∃ places, DataW.whole enc Tryd.prog ((World.doorLaid Tryd.prog 400 os).forCall (fun _ _ => 0) ⟨#[], #[.slice none 0 0, .slice none 0 0, .int .i64 0, .int .u32 0], []⟩).memory Tryd.f3.params.toList Rows.crcSumsSpec.vars false #[.slice none 0 0, .slice none 0 0, .int .i64 0, .int .u32 0].toList 8 = some ([.nil, .nil, .lit (.int .i64 0), .lit (.int .u32 0)], [], places) :=
  ⟨[], by kernel_rfl⟩
set_option maxRecDepth 100000 in
theorem lifted (os : Os) (started : os.Started) (H : Type) (enc : TypeId × Value → H) (F : Stop.Interp) :
    ReturnsInHanded {} Tryd.checked os 3 .any ((Rows.OpenSpec.upto Rows.crcSumsSpec).preRow enc Tryd.prog Tryd.f3 Rows.crcSumsUptoRow.domain false Rows.crcSumsUptoRow.laid) (((Rows.OpenSpec.upto Rows.crcSumsSpec).at F).post enc Tryd.prog Tryd.f3 false true false false) := by
  obtain ⟨places, hx⟩ := reads os enc
  refine returnsInHanded_of_row (C := Tryd.checked) (s := Rows.OpenSpec.upto Rows.crcSumsSpec) own started (by kernel_rfl) Tryd.func3
    ⟨World.doorLaid Tryd.prog 400 os, fun _ _ => 0, ⟨#[], #[.slice none 0 0, .slice none 0 0, .int .i64 0, .int .u32 0], []⟩, rfl, World.shaped_of_RefB (by kernel_rfl) (by kernel_rfl), rfl, (Input.okWide_of_okWideB (by kernel_rfl)).2,
      OpenSpec.preRow_of_cond 8 hx (by kernel_rfl) (fun k hk => by cases hk; kernel_rfl) (by kernel_rfl) (door_met os _), by
        simp only [Assume.holds]
        exact ⟨by simp, by simp, fun _ => Modest.zero, by simp, by simp⟩⟩ ?_
  intro W base args ds gs before hval0 hW _ hcond _ hL _ _
  have hval : ∀ (j : Nat) t v, Tryd.f3.params[j]? = some t → args[j]? = some v → Value.okWide Tryd.prog W .any base t v := hval0
  have hW' := hW
  obtain ⟨p, q, hA0, hV, rfl, hfz, hnd⟩ := hW
  have hA : DataW.TrodAll enc Tryd.prog W 0 (fun _ => true) true Tryd.f3.params.toList args.toList ds p := hA0
  rw [Tryd.params3] at hA hval
  obtain ⟨v0, vs0, d0, ds0, p0, q0, hargs, rfl, rfl, h0, r0⟩ := trodAll_cons hA
  obtain ⟨v1, vs1, d1, ds1, p1, q1, rfl, rfl, rfl, h1, r1⟩ := trodAll_cons r0
  obtain ⟨v2, vs2, d2, ds2, p2, q2, rfl, rfl, rfl, h2, r2⟩ := trodAll_cons r1
  obtain ⟨v3, vs3, d3, ds3, p3, q3, rfl, rfl, rfl, h3, r3⟩ := trodAll_cons r2
  obtain ⟨rfl, rfl, rfl⟩ := trodAll_nil r3
  obtain rfl : args = #[v0, v1, v2, v3] := by cases args; simp_all
  obtain ⟨rfl, rfl⟩ := trodVars_none hV
  have hbulk := bulk_of (hcond _ rfl)
  rw [List.append_nil] at hbulk
  obtain ⟨ls, hls, m0⟩ := open_byterows Tryd.underlying22 Tryd.underlying23 Tryd.underlying5 (by kernel_rfl) (by kernel_rfl) (hval 0 22 v0 rfl rfl) h0
  obtain ⟨l1, b1⟩ := open_bytes Tryd.underlying23 Tryd.underlying5 (by kernel_rfl) (hval 1 23 v1 rfl rfl) h1
  have m1 := bytes_bulk Tryd.underlying23 Tryd.underlying5 (by kernel_rfl) (hval 1 23 v1 rfl rfl) h1 b1
  obtain ⟨a2, rfl, rfl, rfl, w2⟩ := open_int Tryd.underlying3 (hval 2 3 v2 rfl rfl) h2
  obtain ⟨a3, rfl, rfl, rfl, w3⟩ := open_int Tryd.underlying24 (hval 3 24 v3 rfl rfl) h3
  simp only [Rows.uptoBulkAll] at hbulk
  have hN := of_laid hL
  clear hA0 hval0
  refine (walk v0 ls hls v1 l1 b1 a2 w2 a3 w3 (by omega) (by omega) W rfl hN).mono fun e W' ⟨he, hb⟩ => ?_
  subst he
  exact ⟨_, rfl, law_post hW' rfl laid (by kernel_rfl) rfl Tryd.underlying4 rfl hb⟩

theorem over : Rows.CrcSumsUptoSaid :=
  OpenClaim.holds_of_cond 3 Tryd.f3 rfl rfl rfl rfl rfl rfl rfl ⟨rfl, rfl, rfl, rfl, rfl⟩ rfl rfl rfl rfl rfl (by kernel_rfl) Tryd.func3 (by kernel_rfl)
    (of_decide_eq_true (by kernel_rfl)) (by unfold Func.isWrapper; first | (rw [if_pos (by decide +kernel)]; kernel_rfl) | (rw [if_neg (by decide +kernel)]; exact ⟨rfl, rfl⟩))
    (fun os started H enc _ F => by rw [OpenClaim.pre_eq_preRow]; exact lifted os started H enc F)
theorem proved : Rows.CrcSumsUptoCardSaid :=
  Claim7.holds_tied_plain_at .later [] _ _ _ _
    over (fun _ h => by cases h) (by kernel_rfl) (fun _ h => by cases h) crcSumsUpto_row_tie rfl ⟨rfl, rfl⟩ (by kernel_rfl) rfl
    (fun f fn hf hfn => by
      obtain rfl : f = 3 := Option.some.inj ((show Tryd.prog.funcNamed Rows.crcSumsUptoRow.func = some 3 by kernel_rfl).symm.trans hf) |>.symm
      obtain rfl : fn = Tryd.f3 := (Option.some.inj (Tryd.func3.symm.trans hfn)).symm
      exact ⟨by kernel_rfl, fun j t ht => by
        rw [Tryd.params3] at ht
        have hm : t ∈ [22, 23, 3, 24] := by simpa using Array.mem_of_getElem? ht
        have hall : ([22, 23, 3, 24].all fun u => !Tryd.prog.wantsStandIn u) = true := by kernel_rfl
        exact (show Tryd.prog.wantsStandIn t = false by simpa using List.all_eq_true.1 hall t hm)⟩)
    (by kernel_rfl)
end Go.Proofs.YtclenafidfpinaaDoor.lawCrcSums
