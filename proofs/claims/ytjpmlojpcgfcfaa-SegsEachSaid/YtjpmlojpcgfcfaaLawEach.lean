/- The law SegsEach answers true for any size, any acts, any end: each segment is asked of, rising, till no is said; the states count up to all. Conditions: none. -/
import Derived.Test.YtjpmlojpcgfcfaaSgx
import Derived.Test.YtjpmlojpcgfcfaaSgz
import Derived.Test.YtjpmlojpcgfcfaaSgh
namespace Go.Proofs.Ytjpmlojpcgfcfaa.lawSegsEach
open Go.ChangeShapes Go.WideShapes Go.ChangeAt Go.RowKit
set_option linter.unusedSimpArgs false
set_option linter.unusedVariables false

theorem own : ownKnob Try.prog.godebug = none := by kernel_rfl
theorem laid : laidOutB Try.prog = true := by kernel_rfl

theorem Frm.drewN {O : Nat → Prop} (w : World) (n : Nat) : Frm O w (w.drewN n) := ⟨rfl, rfl, rfl, Nat.le_refl _, fun _ _ _ => rfl⟩
set_option maxRecDepth 100000 in
set_option maxHeartbeats 16000000 in
theorem walk (n st : Int) (v : Value) (l : List (List Int)) (w : World) (hr : RdA 4 w w.heap.size v l) (hz : ∀ x ∈ l, x.length = 4 ∧ ∀ z ∈ x, (Lit.int .i64 z).wf = true) :
    Calls Try.prog 4 #[.int .i64 n, v, .int .i64 st] w fun e w' => e = .returned (.bool true) ∧ Below w.heap.size w w' := by
  have hraa := hr
  obtain ⟨A, c, rfl, hc1, hc2, hc3⟩ := hr
  have HR := Lib.hid hraa
  have HZ := Lib.hid hz
  have hb0 : Below w.heap.size w ((w.alloc (.cells #[.int .i64 n] 3)).alloc (.cells #[.int .i64 st] 3)) := ((Below.refl _ w).alloc (Nat.le_refl _) _).alloc (by simp) _
  have hn0 : One ((w.alloc (.cells #[.int .i64 n] 3)).alloc (.cells #[.int .i64 st] 3)) w.heap.size (.int .i64 n) 3 := (One.new w _ _).next ((Below.refl _ _).alloc (Nat.le_refl _) _)
  have hs0 : One ((w.alloc (.cells #[.int .i64 n] 3)).alloc (.cells #[.int .i64 st] 3)) (w.heap.size + 1) (.int .i64 st) 3 := by
    have := One.new (w.alloc (.cells #[.int .i64 n] 3)) (.int .i64 st) 3
    rwa [World.size_alloc] at this
  have HB0 := Lib.hid hb0
  have HN0 := Lib.hid hn0
  have HS0 := Lib.hid hs0
  have HK := Lib.hid (known_any ((w.alloc (.cells #[.int .i64 n] 3)).alloc (.cells #[.int .i64 st] 3)))
  clear hc3 hraa hz hb0 hn0 hs0
  by_cases c0 : 300 < l.length
  · go_enter Try.func4, Try.ntmps4
    go_wp2_with fail
    refine HK.out.mono ?_
    rintro e w1 ⟨rfl, hb1⟩
    have x1 := (HN0.out.next hb1).cell
    have x2 := (HS0.out.next hb1).cell
    have HB := Lib.hid (HB0.out.trans (hb1.mono HB0.out.size))
    clear hb1
    go_wp2
    go_ret
    exact ⟨rfl, HB.out⟩
  by_cases c1 : n < 1
  · go_enter Try.func4, Try.ntmps4
    go_wp2_with fail
    refine HK.out.mono ?_
    rintro e w1 ⟨rfl, hb1⟩
    have x1 := (HN0.out.next hb1).cell
    have x2 := (HS0.out.next hb1).cell
    have HB := Lib.hid (HB0.out.trans (hb1.mono HB0.out.size))
    clear hb1
    go_wp2
    go_ret
    exact ⟨rfl, HB.out⟩
  by_cases c2 : 200 < n
  · go_enter Try.func4, Try.ntmps4
    go_wp2_with fail
    refine HK.out.mono ?_
    rintro e w1 ⟨rfl, hb1⟩
    have x1 := (HN0.out.next hb1).cell
    have x2 := (HS0.out.next hb1).cell
    have HB := Lib.hid (HB0.out.trans (hb1.mono HB0.out.size))
    clear hb1
    go_wp2
    go_ret
    exact ⟨rfl, HB.out⟩
  obtain ⟨N, rfl⟩ := Int.eq_ofNat_of_zero_le (show 0 ≤ n by omega)
  have hN : 1 ≤ N ∧ N ≤ 200 := by omega
  go_enter Try.func4, Try.ntmps4
  go_wp2_with fail
  refine HK.out.mono ?_
  rintro e w1 ⟨rfl, hb1⟩
  have x1 := (HN0.out.next hb1).cell
  have x2 := (HS0.out.next hb1).cell
  have HB1 := Lib.hid (HB0.out.trans (hb1.mono HB0.out.size))
  have HN1 := Lib.hid (HN0.out.next hb1)
  have HS1 := Lib.hid (HS0.out.next hb1)
  have hlt1 := (HS0.out.next hb1).lt
  have NW := Lib.hid (new_any N w1)
  clear hb1
  go_wp2_with fail
  refine NW.out.mono ?_
  rintro e w2 (⟨h, _⟩ | ⟨_, tb, b, htb, hbb, rfl, hT, hb2⟩)
  · omega
  have HT := Lib.hid hT
  have HB2 := Lib.hid (nextB hb2 HB1.out)
  have hN2 := HN1.out.next hb2
  have hS2 := HS1.out.next hb2
  have x3 := hN2.cell
  have HN2 := Lib.hid hN2
  have HS2 := Lib.hid hS2
  have hl1 := hT.box.lt
  have hl2 := hT.box.map.lt
  have RN := Lib.hid (rnew_any N (by omega) w2)
  clear hT hb2 hN2 hS2
  go_wp2_with fail
  refine RN.out.mono ?_
  rintro e w3 ⟨rb, gb, hrb, hgb, rfl, hRT, hb3⟩
  have hl3 := hRT.lt
  have hb3' : Below w3.heap.size w3 (w3.alloc (.cells #[.pointer (some ⟨rb, 0, none⟩)] 29)) := (Below.refl _ _).alloc (Nat.le_refl _) _
  have hBT : BTab tb b rb gb N 200 (w3.alloc (.cells #[.pointer (some ⟨rb, 0, none⟩)] 29)) noEnt := ⟨⟨0, 0, by omega, (HT.out.next hb3).next hb3'⟩, hRT.next hb3', Good.no, by omega⟩
  have hB4 := nextB hb3' (nextB hb3 HB2.out)
  have hz3 := hb3.size
  have hN4 := (HN2.out.next hb3).next hb3'
  have hS4 := (HS2.out.next hb3).next hb3'
  have hP4 := One.new w3 (.pointer (some ⟨rb, 0, none⟩)) 29
  generalize hW4 : w3.alloc (.cells #[.pointer (some ⟨rb, 0, none⟩)] 29) = w4 at hBT hB4 hN4 hS4 hP4
  have hz4 : w4.heap.size = w3.heap.size + 1 := by rw [← hW4]; simp
  have HW4 := Lib.hid hW4
  have HBT := Lib.hid hBT
  have HB4 := Lib.hid hB4
  have HN4 := Lib.hid hN4
  have HS4 := Lib.hid hS4
  have HP4 := Lib.hid hP4
  clear hRT hb3 hb3' hBT hB4 hN4 hS4 hP4 hW4
  go_upto_region 7 with (fail)
  rw [HW4.out]
  go_wp2
  go_loopw [11] (fun i wr => ∃ q : Nat, q ≤ l.length ∧ i = .int .i64 q ∧ (∃ f', BTab tb b rb gb N (200 + q * 201) wr f') ∧ Frm (fun j => j = tb ∨ j = b ∨ j = gb) w4 wr) (fun i wr => l.length - (intOf i).toNat)
  case atStart => exact ⟨0, by omega, rfl, ⟨_, HBT.out⟩, Frm.refl _ _⟩
  case round =>
    obtain ⟨q, hq, rfl, ⟨f', hT⟩, hF⟩ := hrel
    have hB := HB4.out.trans (hF.below (B := w.heap.size) (by rintro j (rfl | rfl | rfl) <;> (have := HB1.out.size; have := HB2.out.size; omega)) HB4.out.size)
    have hPr := HP4.out.frm hF (by omega)
    have hNr := HN4.out.frm hF (by omega)
    have hSr := HS4.out.frm hF (by omega)
    by_cases hlt : q < l.length
    · obtain ⟨ab, aoff, a0, a1, a2, a3, rfl, hab, hx, hcell⟩ := HR.out.get4 hlt
      have hz1 := (HZ.out _ (List.getElem_mem hlt)).2
      rw [hx] at hz1
      have hw1 : (Lit.int .i64 a1).wf = true := hz1 a1 (by simp)
      obtain ⟨y0, y1, y2, y3⟩ := hcell wr hB
      have y4 := hPr.cell
      have ST := Lib.hid (step_any tb b rb gb N (200 + q * 201) f' wr.drew hT.drew (by omega) a0 a1 a2 a3 hw1)
      have HF := Lib.hid hF
      clear hT hB hcell hz1 hx hF hPr hNr hSr
      go_wp2_with fail
      go_region_law (first
        | (refine step_wanted _ rfl ?_; go_simp; go_at_call 12; refine Calls.mono ST.out ?_; rintro e w5 ⟨rfl, ⟨f2, hT5⟩, hF5⟩)
        | fail)
      all_goals
        have HT5 := Lib.hid hT5
        have HF5 := Lib.hid (HF.out.drew.trans hF5)
        clear hT5 hF5
        go_wp2
        go_roundw
        case rel => exact ⟨q + 1, by omega, by go_num, ⟨f2, HT5.out.more (by omega)⟩, HF5.out⟩
        case measure => simp [intOf]; omega
    · obtain rfl : q = l.length := by omega
      obtain ⟨m, lo, hm, hTab⟩ := hT.tab
      have hap := hT.apart
      have hl5 := hTab.box.lt
      have hl6 := hTab.box.map.lt
      have hl7 := hT.ref.lt
      have hwr := hF.size
      have hb5 : Below wr.heap.size wr ((wr.alloc (.cells #[.int .i64 0] 3)).alloc (.cells #[.bool true] 4)) := ((Below.refl _ wr).alloc (Nat.le_refl _) _).alloc (by simp) _
      have hk5 : One ((wr.alloc (.cells #[.int .i64 0] 3)).alloc (.cells #[.bool true] 4)) wr.heap.size (.int .i64 0) 3 := (One.new wr _ _).next ((Below.refl _ _).alloc (Nat.le_refl _) _)
      have ho5 : One ((wr.alloc (.cells #[.int .i64 0] 3)).alloc (.cells #[.bool true] 4)) (wr.heap.size + 1) (.bool true) 4 := by
        have := One.new (wr.alloc (.cells #[.int .i64 0] 3)) (.bool true) 4
        rwa [World.size_alloc] at this
      have hu : Unlike (wr.heap.size + 1) wr.heap.size w.heap.size w3.heap.size (w.heap.size + 1) rb gb := by unfold Unlike; omega
      have hE := each_any tb b m lo (wr.heap.size + 1) wr.heap.size w.heap.size w3.heap.size (w.heap.size + 1) rb gb N f' st _ (hTab.next hb5) hN.1 ⟨ho5, hk5, hNr.next hb5, hPr.next hb5, hSr.next hb5, hT.ref.next hb5⟩ hu
      unfold clsV at hE
      have HE := Lib.hid hE
      have HTab := Lib.hid (hTab.next hb5)
      have HB5 := Lib.hid (nextB hb5 hB)
      clear hE hTab hT hB hF hPr hNr hSr hb5 hk5 ho5 hu
      go_wp2_with fail
      refine HE.out.mono ?_
      rintro e w6 ⟨rfl, hI6, hF6⟩
      have hT6 := HTab.out.frm hF6 (by omega) (by omega)
      have z1 := hI6.ok.cell
      have z2 := hI6.k.cell
      have z3 := hI6.n.cell
      have z4 := hI6.s.cell
      have hg : ∀ (i : Int) (hi : 0 ≤ i ∧ i < 4) (n : Nat), Calls Try.prog 19 #[.pointer (some ⟨tb, 0, none⟩), .int .i64 i] (w6.drewN n) fun e w' => e = .returned (.int .i64 (cntF N f' i.toNat)) ∧ w' = w6.drewN n := fun i hi n => by
        have := count_same tb b m N f' lo (w6.drewN n) (hT6.frm (O := fun _ => False) (Frm.drewN w6 n) id id) i.toNat (by omega)
        rw [show ((i.toNat : Nat) : Int) = i from by omega] at this
        exact this.mono fun _ _ h => ⟨h.1, h.2.symm⟩
      have hsum := cnt_sum N f' hT6.kind
      obtain ⟨cF, hcF⟩ : ∃ cF : Int → Int, ∀ i, cntF N f' i.toNat = cF i := ⟨_, fun _ => rfl⟩
      have d0 := cntF_bound N f' 0
      have d1 := cntF_bound N f' 1
      have d2 := cntF_bound N f' 2
      have d3 := cntF_bound N f' 3
      rw [show cntF N f' 0 = cF 0 from hcF 0] at hsum d0
      rw [show cntF N f' 1 = cF 1 from hcF 1] at hsum d1
      rw [show cntF N f' 2 = cF 2 from hcF 2] at hsum d2
      rw [show cntF N f' 3 = cF 3 from hcF 3] at hsum d3
      simp only [hcF] at hg
      have HG := Lib.hid hg
      have HB6 := Lib.hid (HB5.out.trans (hF6.below (B := w.heap.size) (by rintro j (rfl | rfl) <;> (have := HB4.out.size; omega)) HB5.out.size))
      clear hT6 hI6 hF6 hg hcF
      by_cases s1 : st < 0
      · have hwn : wantN N st = 1 := by unfold wantN; rw [if_pos s1]
        rw [hwn] at z2
        have s2 : st < (N : Int) := by omega
        clear hwn
        go_wp2_with fail
        go_quiet (first | (go_at_call 19; refine Calls.quiet_of_same (HG.out _ (by omega) _)))
        go_wp2
        go_ret
        exact ⟨rfl, ⟨HB6.out.os, HB6.out.tape, HB6.out.output, HB6.out.size, HB6.out.block⟩⟩
      by_cases s2 : st < (N : Int)
      · have hwn : wantN N st = st + 1 := by unfold wantN; rw [if_neg s1, if_pos s2]
        rw [hwn] at z2
        clear hwn
        go_wp2_with fail
        go_quiet (first | (go_at_call 19; refine Calls.quiet_of_same (HG.out _ (by omega) _)))
        go_wp2
        go_ret
        exact ⟨rfl, ⟨HB6.out.os, HB6.out.tape, HB6.out.output, HB6.out.size, HB6.out.block⟩⟩
      · have hwn : wantN N st = (N : Int) := by unfold wantN; rw [if_neg s1, if_neg s2]
        rw [hwn] at z2
        clear hwn
        go_wp2_with fail
        go_quiet (first | (go_at_call 19; refine Calls.quiet_of_same (HG.out _ (by omega) _)))
        go_wp2
        go_ret
        exact ⟨rfl, ⟨HB6.out.os, HB6.out.tape, HB6.out.output, HB6.out.size, HB6.out.block⟩⟩

set_option maxRecDepth 100000 in
theorem lifted (os : Os) (started : os.Started) (H : Type) (enc : TypeId × Value → H) :
    ReturnsInHanded {} Try.checked os 4 .any (Rows.segsEachSpec.pre6 enc Try.prog Try.f4 Rows.segsEachRow.domain false) (Rows.segsEachSpec.post enc Try.prog Try.f4 false true false false) := by
  refine returnsInHanded_of_change (C := Try.checked) own started (by kernel_rfl) Try.func4
    (ChangeSpec.witness6 (enc := enc) (C := Try.checked) false ⟨#[], #[.int .i64 0, .slice none 0 0, .int .i64 0], []⟩ 8 (by kernel_rfl) (by kernel_rfl) (by kernel_rfl) (by kernel_rfl)) ?_
  intro W base args ds gs before hval0 hW hcnd _
  have hval : ∀ (j : Nat) t v, Try.f4.params[j]? = some t → args[j]? = some v → Value.okWide Try.prog W .any base t v := hval0
  have hW' := hW
  obtain ⟨p, q, hA0, hV, rfl, hfz, hnd⟩ := hW
  have hA : DataW.TrodAll enc Try.prog W 0 (fun _ => true) true Try.f4.params.toList args.toList ds p := hA0
  rw [Try.params4] at hA hval
  obtain ⟨v0, vs0, d0, ds0, p0, q0, hargs, rfl, rfl, h0, r0⟩ := trodAll_cons hA
  obtain ⟨v1, vs1, d1, ds1, p1, q1, rfl, rfl, rfl, h1, r1⟩ := trodAll_cons r0
  obtain ⟨v2, vs2, d2, ds2, p2, q2, rfl, rfl, rfl, h2, r2⟩ := trodAll_cons r1
  obtain ⟨rfl, rfl, rfl⟩ := trodAll_nil r2
  obtain rfl : args = #[v0, v1, v2] := by cases args; simp_all
  obtain ⟨rfl, rfl⟩ := trodVars_none hV
  obtain ⟨a0, rfl, rfl, rfl, w0⟩ := open_int Try.underlying3 (hval 0 3 v0 rfl rfl) h0
  obtain ⟨l1, hr1, hz1⟩ := open_acts Try.underlying23 Try.underlying36 (by kernel_rfl) (by kernel_rfl) (by decide) Try.underlying3 (by kernel_rfl) (hval 1 23 v1 rfl rfl) h1
  obtain ⟨a2, rfl, rfl, rfl, w2⟩ := open_int Try.underlying3 (hval 2 3 v2 rfl rfl) h2
  clear hA0 hval0
  refine (walk a0 a2 v1 l1 W hr1 hz1).mono fun e W' ⟨he, hb⟩ => ?_
  subst he
  exact ⟨_, rfl, law_post hW' rfl laid (by kernel_rfl) rfl Try.underlying4 rfl hb⟩

theorem over : Rows.segsEachRow.holds Try.pinned (OpenSpec.ofChange Rows.segsEachSpec) :=
  OpenClaim.holds_of_wide 4 Try.f4 rfl rfl rfl rfl rfl rfl rfl ⟨rfl, rfl, rfl, rfl, rfl⟩ rfl rfl rfl rfl rfl (by kernel_rfl) Try.func4 (by kernel_rfl)
    (of_decide_eq_true (by kernel_rfl)) (by unfold Func.isWrapper; first | (rw [if_pos (by decide +kernel)]; kernel_rfl) | (rw [if_neg (by decide +kernel)]; exact ⟨rfl, rfl⟩))
    (fun os started H enc _ => lifted os started H enc)

theorem proved : Rows.SegsEachSaid :=
  over
end Go.Proofs.Ytjpmlojpcgfcfaa.lawSegsEach
