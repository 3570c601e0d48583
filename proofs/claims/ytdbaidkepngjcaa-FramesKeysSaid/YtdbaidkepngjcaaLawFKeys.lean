/- The law FramesKeys answers true for any size and any acts: at no time do two frames have one key, and what is given up was used and not pinned. Conditions: none. -/
import Derived.Test.YtdbaidkepngjcaaFsd
import Derived.Test.YtdbaidkepngjcaaFrl
namespace Go.Proofs.Ytdbaidkepngjcaa.lawFramesKeys
open Go.ChangeShapes Go.WideShapes Go.ChangeAt Go.RowKit Go.Maps
set_option linter.unusedSimpArgs false
set_option linter.unusedVariables false

theorem own : ownKnob Try.prog.godebug = none := by kernel_rfl
theorem laid : laidOutB Try.prog = true := by kernel_rfl

set_option maxRecDepth 100000 in
set_option maxHeartbeats 16000000 in
theorem walk (n : Int) (w0 : (Lit.int .i64 n).wf = true) (v : Value) (l : List (List Value)) (w : World) (hr : RdC 4 w w.heap.size v l) (hz : ∀ x ∈ l, FOk x) :
    Calls Try.prog 4 #[.int .i64 n, v] w fun e w' => e = .returned (.bool true) ∧ Below w.heap.size w w' := by
  have hraa := hr
  obtain ⟨A, c, rfl, hc1, hc2, hc3⟩ := hr
  have HK := Lib.hid (known_any w)
  have HR := Lib.hid hraa
  have HZ := Lib.hid hz
  clear hc3 hraa hz
  by_cases c0 : 300 < l.length
  · go_enter Try.func4, Try.ntmps4
    go_wp2_with fail
    refine HK.out.mono ?_
    rintro e w1 ⟨rfl, hb1⟩
    have HB1 := Lib.hid (Below.of_frm hb1)
    clear hb1
    go_wp2
    go_ret
    exact ⟨rfl, HB1.out⟩
  by_cases c1 : n < 1
  · go_enter Try.func4, Try.ntmps4
    go_wp2_with fail
    refine HK.out.mono ?_
    rintro e w1 ⟨rfl, hb1⟩
    have HB1 := Lib.hid (Below.of_frm hb1)
    clear hb1
    go_wp2
    go_ret
    exact ⟨rfl, HB1.out⟩
  by_cases c2 : 50 < n
  · go_enter Try.func4, Try.ntmps4
    go_wp2_with fail
    refine HK.out.mono ?_
    rintro e w1 ⟨rfl, hb1⟩
    have HB1 := Lib.hid (Below.of_frm hb1)
    clear hb1
    go_wp2
    go_ret
    exact ⟨rfl, HB1.out⟩
  obtain ⟨N, rfl⟩ : ∃ N : Nat, n = N := ⟨n.toNat, by omega⟩
  have hN : 1 ≤ N ∧ N ≤ 4096 := by omega
  have hN50 : N ≤ 50 := by omega
  clear c1 c2
  · go_enter Try.func4, Try.ntmps4
    go_wp2_with fail
    refine HK.out.mono ?_
    rintro e w1 ⟨rfl, hb1⟩
    have HN := Lib.hid (new_ok N hN w1)
    have HF1 := Lib.hid hb1
    clear hb1
    go_wp2_with fail
    refine HN.out.mono ?_
    rintro e w2 ⟨pb, lb, mb, k1, k2, k3, rfl, hP2, hF2⟩
    have hIm := IBox.new w2
    have hFm : Frm (fun _ => False) w2 (w2.alloc (.map #[] 0)) := (Frm.refl _ w2).alloc _
    have hPm := hP2.next hFm
    have hlt2 := hP2.lt
    have hz1 := HF1.out.size
    have hz2 := hF2.size
    have hAp : ¬ Own pb lb mb w2.heap.size := by rintro (e | e | e) <;> omega
    have HI := Lib.hid (show KI pb lb mb w2.heap.size N 0 (w2.alloc (.map #[] 0)) from ⟨0, 0, newP N, _, Nat.le_refl _, Nat.le_refl _, hPm, by show IBox _ _ 0 _ (usedN (List.replicate N Fr.zero)); rw [usedN_zero]; exact hIm, Wok.none_ N, by simp [newP]⟩)
    have HB3 := Lib.hid (Below.of_frm ((HF1.out.trans hF2).trans hFm))
    have HOO := Lib.hid (show ∀ j, Own pb lb mb j → w.heap.size ≤ j from by rintro j (e | e | e) <;> omega)
    have hbb : w.heap.size ≤ w2.heap.size := by omega
    have hmm := @run_makeMap Try.prog
    clear hP2 hF2 hIm hPm hFm HN HF1
    go_upto_region 9 with (fail)
    generalize w2.alloc (.map #[] 0) = w3 at HI HB3 ⊢
    generalize w2.heap.size = hb at *
    clear hmm k1 k2 k3 hlt2 hz2 hz1
    go_wp2_with fail
    go_loopw [8] (fun i wx => ∃ q : Nat, q ≤ l.length ∧ i = .int .i64 q ∧ KI pb lb mb hb N q wx ∧ Below w.heap.size w wx) (fun i wx => l.length - (intOf i).toNat)
    case atStart => exact ⟨0, by omega, rfl, HI.out, HB3.out⟩
    case round =>
      clear HI HB3
      obtain ⟨q, hq, rfl, hI, hB⟩ := hrel
      by_cases hlt : q < l.length
      · obtain ⟨ab, aoff, op, key, fr, wrb, rfl, hab, hw1, hw2, hcell⟩ := HR.out.getF HZ.out hlt
        obtain ⟨y0, y1, y2, y3⟩ := hcell wr hB
        have hFa : Frm (fun _ => False) wr (wr.alloc (.cells #[.int .i64 op, .int .i64 key, .int .i64 fr, .bool wrb] 33)) := (Frm.refl _ wr).alloc _
        have hxa := heap_alloc_new wr (.cells #[.int .i64 op, .int .i64 key, .int .i64 fr, .bool wrb] 33)
        have hsz : (wr.alloc (.cells #[.int .i64 op, .int .i64 key, .int .i64 fr, .bool wrb] 33)).heap.size = wr.heap.size + 1 := by simp
        have HLT := Lib.hid hI.lt
        have hI1 := hI.next hFa
        have HB1 := Lib.hid (hB.trans ((Below.of_frm hFa).mono hB.size))
        clear hI hB hcell hFa
        go_upto_region 13 with (fail)
        generalize wr.alloc (.cells #[.int .i64 op, .int .i64 key, .int .i64 fr, .bool wrb] 33) = w1 at hxa hsz hI1 HB1 ⊢
        clear y0 y1 y2 y3
        have y0 : w1.cell? ⟨wr.heap.size, 0, none⟩ = some (.int .i64 op) := cell_of_row w1 wr.heap.size 0 _ _ _ hxa
        have y1 : w1.cell? ⟨wr.heap.size, 1, none⟩ = some (.int .i64 key) := cell_of_row w1 wr.heap.size 1 _ _ _ hxa
        have y2 : w1.cell? ⟨wr.heap.size, 2, none⟩ = some (.int .i64 fr) := cell_of_row w1 wr.heap.size 2 _ _ _ hxa
        have y3 : w1.cell? ⟨wr.heap.size, 3, none⟩ = some (.bool wrb) := cell_of_row w1 wr.heap.size 3 _ _ _ hxa
        have HCELL := Lib.hid (show ∀ (wa : World), wa.heap[wr.heap.size]? = w1.heap[wr.heap.size]? → ∀ {wz : World}, wz.heap[wr.heap.size]? = wa.heap[wr.heap.size]? → wz.cell? ⟨wr.heap.size, 1, none⟩ = some (.int .i64 key) ∧ wz.cell? ⟨wr.heap.size, 2, none⟩ = some (.int .i64 fr) from fun wa ha wz hz => by
          have hzz := (hz.trans ha).trans hxa
          exact ⟨cell_of_row wz wr.heap.size 1 _ _ _ hzz, cell_of_row wz wr.heap.size 2 _ _ _ hzz⟩)
        have HK1 := Lib.hid hI1
        obtain ⟨m, m2, p, W, hmq, hm2q, hP1, hI1, hW1, hL1⟩ := hI1
        have HP1 := Lib.hid hP1
        have HI1 := Lib.hid hI1
        have HW1 := Lib.hid hW1
        have HL1 := Lib.hid hL1
        clear hP1 hI1 hW1 hL1 hxa
        by_cases p1 : op = 1
        · subst p1
          have hlook := HI1.out.look key hw1
          rcases ktake (n := N) (by omega) HP1.out HW1.out HL1.out key hw1 with ⟨hWk, hC⟩ | ⟨hWk, i, p2, hiN, hWi, hW2, hL2, hS2, hC⟩ | ⟨hWk, i, xk, xd, p2, hiN, hwxk, hWx, hWi, hW2, hL2, hS2, hS3, hC⟩ | ⟨hWk, hC⟩
          · rw [hWk] at hlook
            generalize (W key).getD 0 = g0 at hlook
            have HC := Lib.hid hC
            clear hC hWk
            rw [show frV Fr.zero = .agg #[.int .i64 0, .bool false, .bool false, .bool false, .int .i64 0] from rfl] at HC
            go_wp2_with fail
            refine HC.out.mono ?_
            rintro e w2 ⟨rfl, hP2, hF2⟩
            clear hlook
            have hz2 := hF2.size
            have hFa : Frm (fun _ => False) w2 (w2.alloc (.cells #[.int .i64 0, .bool false, .bool false, .bool false, .int .i64 0] 38)) := (Frm.refl _ w2).alloc _
            have hxa := heap_alloc_new w2 (.cells #[.int .i64 0, .bool false, .bool false, .bool false, .int .i64 0] 38)
            have hsa : (w2.alloc (.cells #[.int .i64 0, .bool false, .bool false, .bool false, .int .i64 0] 38)).heap.size = w2.heap.size + 1 := by simp
            have hP3 := hP2.next hFa
            have hI3 := (HI1.out.keep (hF2.block hb HI1.out.lt hAp)).keep (hFa.block hb (by have := HI1.out.lt; omega) id)
            have hF3 : Frm (Own pb lb mb) w1 (w2.alloc (.cells #[.int .i64 0, .bool false, .bool false, .bool false, .int .i64 0] 38)) := hF2.trans (hFa.mono fun j _ e => e.elim)
            clear hFa hP2 hF2
            go_upto_region 17 with (fail)
            generalize w2.alloc (.cells #[.int .i64 0, .bool false, .bool false, .bool false, .int .i64 0] 38) = w3 at hxa hsa hP3 hI3 hF3 ⊢
            have hsb : w2.heap.size < w3.heap.size := by omega
            clear hsa
            have HP3 := Lib.hid hP3
            have HI3 := Lib.hid hI3
            have HB3 := Lib.hid (HB1.out.trans (hF3.below HOO.out HB1.out.size))
            have HA3 := Lib.hid (show ∀ (O : Nat → Prop) wz, Frm O w3 wz → ¬ O wr.heap.size → wz.cell? ⟨wr.heap.size, 1, none⟩ = some (.int .i64 key) ∧ wz.cell? ⟨wr.heap.size, 2, none⟩ = some (.int .i64 fr) from fun O wz hF hO => HCELL.out w3 (hF3.block wr.heap.size (by omega) (fun e => by have := HLT.out _ (Or.inl e); omega)) (hF.block wr.heap.size (by have := hF3.size; omega) hO))
            clear hxa hP3 hI3 hF3
            have HK := Lib.hid (show KI pb lb mb hb N (q + 1) w3 from ⟨m, m2, p, W, by omega, by omega, HP3.out, HI3.out, HW1.out, HL1.out⟩)
            clear HP3 HI3 HA3
            go_wp2
            go_roundw
            case rel => exact ⟨q + 1, by omega, by go_num, HK.out, HB3.out⟩
            case measure => simp [intOf]; omega
          · rw [hWk] at hlook
            have hlook : (Instr.lookup 35 (.map (some hb)) (.int .i64 key) true).run Try.prog w1 = .ok (.tuple #[.int .i64 ((0 : Nat) : Int), .bool false]) w1 := hlook
            have HC := Lib.hid hC
            have HN := Lib.hid hWk
            have HNI := Lib.hid (show ∀ x j, W x = some j → j ≠ i from fun x j hj e => hWi x (by rw [← e]; exact hj))
            have HW4 := Lib.hid hW2
            have HL4 := Lib.hid hL2
            have HS4 := Lib.hid hS2
            clear hC hWk hWi hW2 hL2 hS2
            rw [show frV Fr.zero = .agg #[.int .i64 0, .bool false, .bool false, .bool false, .int .i64 0] from rfl] at HC
            go_wp2_with fail
            refine HC.out.mono ?_
            rintro e w2 ⟨rfl, hP2, hF2⟩
            clear hlook
            have hz2 := hF2.size
            have hFa : Frm (fun _ => False) w2 (w2.alloc (.cells #[.int .i64 0, .bool false, .bool false, .bool false, .int .i64 0] 38)) := (Frm.refl _ w2).alloc _
            have hxa := heap_alloc_new w2 (.cells #[.int .i64 0, .bool false, .bool false, .bool false, .int .i64 0] 38)
            have hsa : (w2.alloc (.cells #[.int .i64 0, .bool false, .bool false, .bool false, .int .i64 0] 38)).heap.size = w2.heap.size + 1 := by simp
            have hP3 := hP2.next hFa
            have hI3 := (HI1.out.keep (hF2.block hb HI1.out.lt hAp)).keep (hFa.block hb (by have := HI1.out.lt; omega) id)
            have hF3 : Frm (Own pb lb mb) w1 (w2.alloc (.cells #[.int .i64 0, .bool false, .bool false, .bool false, .int .i64 0] 38)) := hF2.trans (hFa.mono fun j _ e => e.elim)
            clear hFa hP2 hF2
            go_upto_region 17 with (fail)
            generalize w2.alloc (.cells #[.int .i64 0, .bool false, .bool false, .bool false, .int .i64 0] 38) = w3 at hxa hsa hP3 hI3 hF3 ⊢
            have hsb : w2.heap.size < w3.heap.size := by omega
            clear hsa
            have HP3 := Lib.hid hP3
            have HI3 := Lib.hid hI3
            have HB3 := Lib.hid (HB1.out.trans (hF3.below HOO.out HB1.out.size))
            have HA3 := Lib.hid (show ∀ (O : Nat → Prop) wz, Frm O w3 wz → ¬ O wr.heap.size → wz.cell? ⟨wr.heap.size, 1, none⟩ = some (.int .i64 key) ∧ wz.cell? ⟨wr.heap.size, 2, none⟩ = some (.int .i64 fr) from fun O wz hF hO => HCELL.out w3 (hF3.block wr.heap.size (by omega) (fun e => by have := HLT.out _ (Or.inl e); omega)) (hF.block wr.heap.size (by have := hF3.size; omega) hO))
            have hlw := hP3.lt
            clear hxa hP3 hF3
            have HP4 := HP3
            have HI4 := HI3
            have HB4 := HB3
            have HA4 := Lib.hid (show ∀ wz, Frm (fun j => j = w3.heap.size) w3 wz → wz.cell? ⟨wr.heap.size, 1, none⟩ = some (.int .i64 key) ∧ wz.cell? ⟨wr.heap.size, 2, none⟩ = some (.int .i64 fr) from fun wz hF => HA3.out _ wz hF (by omega))
            clear hI3 HP3 HI3 HA3 HC
            obtain ⟨D, hown, hTe⟩ := HI4.out
            have HTE := Lib.hid hTe
            have hbl := hown.lt
            clear hTe
            go_wp2_with (first
              | (at_range; refine wpList_range_own _ rfl _ 35 rfl 3 3 keyedI Try.underlying35 _ hb m2 D rfl hown ?_; intro w0 hrg0 hg0 hs0)
              | go_in)
            go_frame
            have hF0 : Frm (fun _ => False) w3 w0 := Frm.of_below ((Below.refl _ _).grown hg0 (Nat.le_refl _) (by intro g h; cases h))
            have HF0 := Lib.hid hF0
            have hz0 := hF0.size
            clear hF0 hg0 hown hs0
            go_loopw [19] (fun _ wx => ∃ (left : Lit → Bool) (cnt : Nat), wx.ranges Try.prog 3 (plainElem Try.prog 3) hb w3.heap.size m2 D left cnt ∧ (∀ z, left z = true → Maps.has D z = true) ∧ Frm (fun j => j = w3.heap.size) w0 wx) (fun _ wx => wx.rangeLeft hb w3.heap.size)
            case atStart => exact ⟨_, _, hrg0, fun z hz => hz, Frm.refl _ _⟩
            case round =>
              clear hrg0
              obtain ⟨left, cnt, hrg, hsub, hFr⟩ := hrel
              go_wp2_with (first
                | (at_next; refine wpList_next_ranges_ii _ rfl _ rfl 3 3 .i64 .i64 keyedI Try.underlying3 Try.underlying3 hb w3.heap.size m2 _ _ _ rfl hrg ?_ ?_)
                | go_in)
              · intro hc0 hl0
                have hIx : IBox _ hb m2 W (usedN p.L) := ⟨D, hrg.owns, HTE.out⟩
                have hPx := (HP4.out.next HF0.out).foreign hFr (by have := HP4.out.lt; omega) (by have := HP4.out.lt; omega) (by have := HP4.out.lt; omega)
                obtain ⟨wS, hrunS, hIS, hTS⟩ := hIx.store (by omega) key hw1 HN.out i (by omega)
                have hFS := Frm.of_grown hTS.grown
                have HPz := Lib.hid (hPx.foreign hFS (fun e => hAp (Or.inl e.symm)) (fun e => hAp (Or.inr (Or.inl e.symm))) (fun e => hAp (Or.inr (Or.inr e.symm))))
                have HIz := Lib.hid (show IBox wS hb (m2 + 1) (mset W key (some i)) (usedN p2.L) from by rw [HS4.out]; exact hIS)
                have HWz := HW4
                have HLz := HL4
                have hFx : Frm (fun j => j = w3.heap.size) w3 _ := (HF0.out.mono fun j _ e => e.elim).trans hFr
                have a1 := (HA4.out _ hFx).1
                have HBz := Lib.hid (show Below w.heap.size w wS from HB4.out.trans (((hFx.below (B := w.heap.size) (fun j e => by have := HB4.out.size; omega) HB4.out.size).trans (hFS.below (fun j e => by subst e; exact hbb) (by have := HB4.out.size; have := hFx.size; omega)))))
                clear hIx hPx hIS hTS hFS hrg hFr hsub hc0 hl0 HTE hFx HF0 HP4 HI4 HA4 HB4
                go_upto_region 41 with (fail)
                have CN := Lib.hid (count_any pb lb mb (m + 1) p2 wS HPz.out)
                go_wp2_with fail
                refine CN.out.mono ?_
                rintro e wy ⟨rfl, hFy⟩
                have hIy := HIz.out.keep (hFy.block hb HIz.out.lt id)
                have HK := Lib.hid (show KI pb lb mb hb N (q + 1) wy from ⟨(m + 1), (m2 + 1), p2, (mset W key (some i)), by omega, by omega, HPz.out.next hFy, hIy, HWz.out, HLz.out⟩)
                have hun := usedN_le p2.L
                rw [HLz.out] at hun
                have hlen := hIy.len 3
                obtain ⟨u, hu⟩ : ∃ u, usedN p2.L = u := ⟨_, rfl⟩
                have hcu : cU p2.L = u := hu
                rw [hu] at hlen hun
                rw [hcu]
                generalize cD p2.L = cd1
                generalize cP p2.L = cp1
                have HBy := Lib.hid (HBz.out.trans ((Below.of_frm hFy).mono HBz.out.size))
                clear hu hcu hIy hFy CN HPz HIz HWz HLz HBz
                go_wp2
                go_roundw
                case rel => exact ⟨q + 1, by omega, by go_num, HK.out, HBy.out⟩
                case measure => simp [intOf]; omega
              · intro x cc w1' cnt1 hwx hwc hlx hat hrg1 hlt1 hg1 hs1 hen
                obtain ⟨j, hfj, rfl⟩ := TellsI.entry HTE.out hwx (hsub _ hlx) hat
                have hji := HNI.out x j hfj
                have hjb : (((j : Nat) : Int) == ((i : Nat) : Int)) = false := by rw [beq_eq_false_iff_ne]; omega
                have hF1 : Frm (fun j => j = w3.heap.size) w0 w1' := hFr.trans (Frm.of_grown hg1)
                have HF1 := Lib.hid hF1
                have HRG := Lib.hid hrg
                have HRG1 := Lib.hid hrg1
                have HSUB := Lib.hid (show ∀ z, (left z && !z.sameKey (Lit.int .i64 x)) = true → Maps.has D z = true from fun z hz => hsub z (by simp only [Bool.and_eq_true] at hz; exact hz.1))
                clear hFr hF1 hg1 hrg hrg1 hsub hat hlx hfj
                go_wp2
                go_roundw
                case rel => exact ⟨_, cnt1, HRG1.out, HSUB.out, HF1.out⟩
                case measure => rw [HRG1.out.left_eq, HRG.out.left_eq]; exact hlt1
          · rw [hWk] at hlook
            have hlook : (Instr.lookup 35 (.map (some hb)) (.int .i64 key) true).run Try.prog w1 = .ok (.tuple #[.int .i64 ((0 : Nat) : Int), .bool false]) w1 := hlook
            have HC := Lib.hid hC
            have HN := Lib.hid (show mset W xk none key = none from by unfold mset; split; rfl; exact hWk)
            have HNI := Lib.hid (show ∀ x j, mset W xk none x = some j → j ≠ i from fun x j hj e => by
              unfold mset at hj
              split at hj
              · cases hj
              · rename_i hne
                exact hWi x hne (by rw [← e]; exact hj))
            have HW4 := Lib.hid hW2
            have HL4 := Lib.hid hL2
            have HS4 := Lib.hid (show usedN p2.L = usedN p.L - 1 + 1 from by omega)
            have HWX := Lib.hid hWx
            clear hC hWk hWi hW2 hL2 hS2 hWx
            rw [show frV ⟨xk, true, false, xd, 0⟩ = .agg #[.int .i64 xk, .bool true, .bool false, .bool xd, .int .i64 0] from rfl] at HC
            go_wp2_with fail
            refine HC.out.mono ?_
            rintro e w2 ⟨rfl, hP2, hF2⟩
            clear hlook
            have hz2 := hF2.size
            have hFa : Frm (fun _ => False) w2 (w2.alloc (.cells #[.int .i64 xk, .bool true, .bool false, .bool xd, .int .i64 0] 38)) := (Frm.refl _ w2).alloc _
            have hxa := heap_alloc_new w2 (.cells #[.int .i64 xk, .bool true, .bool false, .bool xd, .int .i64 0] 38)
            have hsa : (w2.alloc (.cells #[.int .i64 xk, .bool true, .bool false, .bool xd, .int .i64 0] 38)).heap.size = w2.heap.size + 1 := by simp
            have hP3 := hP2.next hFa
            have hI3 := (HI1.out.keep (hF2.block hb HI1.out.lt hAp)).keep (hFa.block hb (by have := HI1.out.lt; omega) id)
            have hF3 : Frm (Own pb lb mb) w1 (w2.alloc (.cells #[.int .i64 xk, .bool true, .bool false, .bool xd, .int .i64 0] 38)) := hF2.trans (hFa.mono fun j _ e => e.elim)
            clear hFa hP2 hF2
            go_upto_region 17 with (fail)
            generalize w2.alloc (.cells #[.int .i64 xk, .bool true, .bool false, .bool xd, .int .i64 0] 38) = w3 at hxa hsa hP3 hI3 hF3 ⊢
            have hsb : w2.heap.size < w3.heap.size := by omega
            clear hsa
            have HP3 := Lib.hid hP3
            have HI3 := Lib.hid hI3
            have HB3 := Lib.hid (HB1.out.trans (hF3.below HOO.out HB1.out.size))
            have HA3 := Lib.hid (show ∀ (O : Nat → Prop) wz, Frm O w3 wz → ¬ O wr.heap.size → wz.cell? ⟨wr.heap.size, 1, none⟩ = some (.int .i64 key) ∧ wz.cell? ⟨wr.heap.size, 2, none⟩ = some (.int .i64 fr) from fun O wz hF hO => HCELL.out w3 (hF3.block wr.heap.size (by omega) (fun e => by have := HLT.out _ (Or.inl e); omega)) (hF.block wr.heap.size (by have := hF3.size; omega) hO))
            have hlw := hP3.lt
            have x0 : w3.cell? ⟨w2.heap.size, 0, none⟩ = some (.int .i64 xk) := cell_of_row w3 w2.heap.size 0 _ _ _ hxa
            have x1 : w3.cell? ⟨w2.heap.size, 1, none⟩ = some (.bool true) := cell_of_row w3 w2.heap.size 1 _ _ _ hxa
            have x2 : w3.cell? ⟨w2.heap.size, 2, none⟩ = some (.bool false) := cell_of_row w3 w2.heap.size 2 _ _ _ hxa
            have x4 : w3.cell? ⟨w2.heap.size, 4, none⟩ = some (.int .i64 0) := cell_of_row w3 w2.heap.size 4 _ _ _ hxa
            have hlook := hI3.look xk hwxk
            rw [HWX.out] at hlook
            have hlook : (Instr.lookup 35 (.map (some hb)) (.int .i64 xk) true).run Try.prog w3 = .ok (.tuple #[.int .i64 ((i : Nat) : Int), .bool true]) w3 := hlook
            obtain ⟨w4, hrun4, hI4, hT4⟩ := hI3.drop xk hwxk (by rw [HWX.out]; rfl) 0
            have hF4 := Frm.of_grown hT4.grown
            have HP4 := Lib.hid (hP3.foreign hF4 (fun e => hAp (Or.inl e.symm)) (fun e => hAp (Or.inr (Or.inl e.symm))) (fun e => hAp (Or.inr (Or.inr e.symm))))
            have HI4 := Lib.hid hI4
            have HB4 := Lib.hid (HB3.out.trans (hF4.below (fun j e => by subst e; exact hbb) HB3.out.size))
            have hz4 := hF4.size
            have hz3 := hF3.size
            have HA4 := Lib.hid (show ∀ wz, Frm (fun j => j = w4.heap.size) w4 wz → wz.cell? ⟨wr.heap.size, 1, none⟩ = some (.int .i64 key) ∧ wz.cell? ⟨wr.heap.size, 2, none⟩ = some (.int .i64 fr) from fun wz hF => HA3.out (fun j => j = hb ∨ j = w4.heap.size) wz ((hF4.mono fun j _ e => Or.inl e).trans (hF.mono fun j _ e => Or.inr e)) (by have := HLT.out hb (Or.inr rfl); omega))
            clear hxa hP3 hF3 hI4 hT4 hF4 hI3 HP3 HI3 HA3 HC
            go_upto_region 25 with (fail)
            clear hlook hrun4 x0 x1 x2 x4
            obtain ⟨D, hown, hTe⟩ := HI4.out
            have HTE := Lib.hid hTe
            have hbl := hown.lt
            clear hTe
            go_wp2_with (first
              | (at_range; refine wpList_range_own _ rfl _ 35 rfl 3 3 keyedI Try.underlying35 _ hb m2 D rfl hown ?_; intro w0 hrg0 hg0 hs0)
              | go_in)
            go_frame
            have hF0 : Frm (fun _ => False) w4 w0 := Frm.of_below ((Below.refl _ _).grown hg0 (Nat.le_refl _) (by intro g h; cases h))
            have HF0 := Lib.hid hF0
            have hz0 := hF0.size
            clear hF0 hg0 hown hs0
            go_loopw [19] (fun _ wx => ∃ (left : Lit → Bool) (cnt : Nat), wx.ranges Try.prog 3 (plainElem Try.prog 3) hb w4.heap.size m2 D left cnt ∧ (∀ z, left z = true → Maps.has D z = true) ∧ Frm (fun j => j = w4.heap.size) w0 wx) (fun _ wx => wx.rangeLeft hb w4.heap.size)
            case atStart => exact ⟨_, _, hrg0, fun z hz => hz, Frm.refl _ _⟩
            case round =>
              clear hrg0
              obtain ⟨left, cnt, hrg, hsub, hFr⟩ := hrel
              go_wp2_with (first
                | (at_next; refine wpList_next_ranges_ii _ rfl _ rfl 3 3 .i64 .i64 keyedI Try.underlying3 Try.underlying3 hb w4.heap.size m2 _ _ _ rfl hrg ?_ ?_)
                | go_in)
              · intro hc0 hl0
                have hIx : IBox _ hb m2 (mset W xk none) (usedN p.L - 1) := ⟨D, hrg.owns, HTE.out⟩
                have hPx := (HP4.out.next HF0.out).foreign hFr (by have := HP4.out.lt; omega) (by have := HP4.out.lt; omega) (by have := HP4.out.lt; omega)
                obtain ⟨wS, hrunS, hIS, hTS⟩ := hIx.store (by omega) key hw1 HN.out i (by omega)
                have hFS := Frm.of_grown hTS.grown
                have HPz := Lib.hid (hPx.foreign hFS (fun e => hAp (Or.inl e.symm)) (fun e => hAp (Or.inr (Or.inl e.symm))) (fun e => hAp (Or.inr (Or.inr e.symm))))
                have HIz := Lib.hid (show IBox wS hb (m2 + 1) (mset (mset W xk none) key (some i)) (usedN p2.L) from by rw [HS4.out]; exact hIS)
                have HWz := HW4
                have HLz := HL4
                have hFx : Frm (fun j => j = w4.heap.size) w4 _ := (HF0.out.mono fun j _ e => e.elim).trans hFr
                have a1 := (HA4.out _ hFx).1
                have HBz := Lib.hid (show Below w.heap.size w wS from HB4.out.trans (((hFx.below (B := w.heap.size) (fun j e => by have := HB4.out.size; omega) HB4.out.size).trans (hFS.below (fun j e => by subst e; exact hbb) (by have := HB4.out.size; have := hFx.size; omega)))))
                clear hIx hPx hIS hTS hFS hrg hFr hsub hc0 hl0 HTE hFx HF0 HP4 HI4 HA4 HB4
                go_upto_region 41 with (fail)
                have CN := Lib.hid (count_any pb lb mb (m + 1) p2 wS HPz.out)
                go_wp2_with fail
                refine CN.out.mono ?_
                rintro e wy ⟨rfl, hFy⟩
                have hIy := HIz.out.keep (hFy.block hb HIz.out.lt id)
                have HK := Lib.hid (show KI pb lb mb hb N (q + 1) wy from ⟨(m + 1), (m2 + 1), p2, (mset (mset W xk none) key (some i)), by omega, by omega, HPz.out.next hFy, hIy, HWz.out, HLz.out⟩)
                have hun := usedN_le p2.L
                rw [HLz.out] at hun
                have hlen := hIy.len 3
                obtain ⟨u, hu⟩ : ∃ u, usedN p2.L = u := ⟨_, rfl⟩
                have hcu : cU p2.L = u := hu
                rw [hu] at hlen hun
                rw [hcu]
                generalize cD p2.L = cd1
                generalize cP p2.L = cp1
                have HBy := Lib.hid (HBz.out.trans ((Below.of_frm hFy).mono HBz.out.size))
                clear hu hcu hIy hFy CN HPz HIz HWz HLz HBz
                go_wp2
                go_roundw
                case rel => exact ⟨q + 1, by omega, by go_num, HK.out, HBy.out⟩
                case measure => simp [intOf]; omega
              · intro x cc w1' cnt1 hwx hwc hlx hat hrg1 hlt1 hg1 hs1 hen
                obtain ⟨j, hfj, rfl⟩ := TellsI.entry HTE.out hwx (hsub _ hlx) hat
                have hji := HNI.out x j hfj
                have hjb : (((j : Nat) : Int) == ((i : Nat) : Int)) = false := by rw [beq_eq_false_iff_ne]; omega
                have hF1 : Frm (fun j => j = w4.heap.size) w0 w1' := hFr.trans (Frm.of_grown hg1)
                have HF1 := Lib.hid hF1
                have HRG := Lib.hid hrg
                have HRG1 := Lib.hid hrg1
                have HSUB := Lib.hid (show ∀ z, (left z && !z.sameKey (Lit.int .i64 x)) = true → Maps.has D z = true from fun z hz => hsub z (by simp only [Bool.and_eq_true] at hz; exact hz.1))
                clear hFr hF1 hg1 hrg hrg1 hsub hat hlx hfj
                go_wp2
                go_roundw
                case rel => exact ⟨_, cnt1, HRG1.out, HSUB.out, HF1.out⟩
                case measure => rw [HRG1.out.left_eq, HRG.out.left_eq]; exact hlt1
          · rw [hWk] at hlook
            have hlook : (Instr.lookup 35 (.map (some hb)) (.int .i64 key) true).run Try.prog w1 = .ok (.tuple #[.int .i64 ((0 : Nat) : Int), .bool false]) w1 := hlook
            have HC := Lib.hid hC
            clear hC hWk
            rw [show frV Fr.zero = .agg #[.int .i64 0, .bool false, .bool false, .bool false, .int .i64 0] from rfl] at HC
            go_wp2_with fail
            refine HC.out.mono ?_
            rintro e w2 ⟨rfl, hP2, hF2⟩
            clear hlook
            have hz2 := hF2.size
            have hFa : Frm (fun _ => False) w2 (w2.alloc (.cells #[.int .i64 0, .bool false, .bool false, .bool false, .int .i64 0] 38)) := (Frm.refl _ w2).alloc _
            have hxa := heap_alloc_new w2 (.cells #[.int .i64 0, .bool false, .bool false, .bool false, .int .i64 0] 38)
            have hsa : (w2.alloc (.cells #[.int .i64 0, .bool false, .bool false, .bool false, .int .i64 0] 38)).heap.size = w2.heap.size + 1 := by simp
            have hP3 := hP2.next hFa
            have hI3 := (HI1.out.keep (hF2.block hb HI1.out.lt hAp)).keep (hFa.block hb (by have := HI1.out.lt; omega) id)
            have hF3 : Frm (Own pb lb mb) w1 (w2.alloc (.cells #[.int .i64 0, .bool false, .bool false, .bool false, .int .i64 0] 38)) := hF2.trans (hFa.mono fun j _ e => e.elim)
            clear hFa hP2 hF2
            go_upto_region 17 with (fail)
            generalize w2.alloc (.cells #[.int .i64 0, .bool false, .bool false, .bool false, .int .i64 0] 38) = w3 at hxa hsa hP3 hI3 hF3 ⊢
            have hsb : w2.heap.size < w3.heap.size := by omega
            clear hsa
            have HP3 := Lib.hid hP3
            have HI3 := Lib.hid hI3
            have HB3 := Lib.hid (HB1.out.trans (hF3.below HOO.out HB1.out.size))
            have HA3 := Lib.hid (show ∀ (O : Nat → Prop) wz, Frm O w3 wz → ¬ O wr.heap.size → wz.cell? ⟨wr.heap.size, 1, none⟩ = some (.int .i64 key) ∧ wz.cell? ⟨wr.heap.size, 2, none⟩ = some (.int .i64 fr) from fun O wz hF hO => HCELL.out w3 (hF3.block wr.heap.size (by omega) (fun e => by have := HLT.out _ (Or.inl e); omega)) (hF.block wr.heap.size (by have := hF3.size; omega) hO))
            clear hxa hP3 hI3 hF3
            have HK := Lib.hid (show KI pb lb mb hb N (q + 1) w3 from ⟨m, m2, p, W, by omega, by omega, HP3.out, HI3.out, HW1.out, HL1.out⟩)
            clear HP3 HI3 HA3
            go_wp2
            go_roundw
            case rel => exact ⟨q + 1, by omega, by go_num, HK.out, HB3.out⟩
            case measure => simp [intOf]; omega
        have t1 : (op == 1) = false := by rw [beq_eq_false_iff_ne]; exact p1
        by_cases p6 : op = 6
        · subst p6
          obtain ⟨x, z, hAt, hDr⟩ := kdrop HK1.out fr hw2
          obtain ⟨xk, xu, xr, xd, xp⟩ := x
          rw [show frV ⟨xk, xu, xr, xd, xp⟩ = .agg #[.int .i64 xk, .bool xu, .bool xr, .bool xd, .int .i64 (xp : Nat)] from rfl] at hAt
          have T1 := Lib.hid (hAt w1 (Frm.refl _ _))
          have HDR := Lib.hid hDr
          clear hAt hDr
          go_wp2_with fail
          refine T1.out.mono ?_
          rintro e w2 ⟨⟨cd, rfl⟩, hF2⟩
          have hFa : Frm (fun _ => False) w2 (w2.alloc (.cells #[.int .i64 xk, .bool xu, .bool xr, .bool xd, .int .i64 (xp : Nat)] 38)) := (Frm.refl _ w2).alloc _
          have hxa := heap_alloc_new w2 (.cells #[.int .i64 xk, .bool xu, .bool xr, .bool xd, .int .i64 (xp : Nat)] 38)
          have hF3 := hF2.trans hFa
          have hz2 := hF2.size
          clear hFa hF2 T1
          go_upto_region 33 with (fail)
          generalize w2.alloc (.cells #[.int .i64 xk, .bool xu, .bool xr, .bool xd, .int .i64 (xp : Nat)] 38) = w3 at hxa hF3 ⊢
          have hcc := HCELL.out w3 (hF3.block wr.heap.size (by omega) id) (wz := w3) rfl
          have z2 := hcc.2
          have HF3 := Lib.hid hF3
          have HB3 := Lib.hid (HB1.out.trans ((Below.of_frm hF3).mono HB1.out.size))
          rcases HDR.out with ⟨hzn, hD⟩ | ⟨hz0, hwx, m', m2', p0, p', W', k1, k2, k4, kW, k5, k6, k7, hD⟩
          · have T2 := Lib.hid (hD w3 hF3)
            have hzb : (z == 0) = false := by rw [beq_eq_false_iff_ne]; exact hzn
            have HPz := Lib.hid (HP1.out.next hF3)
            have HIz := Lib.hid (HI1.out.keep (hF3.block hb HI1.out.lt id))
            have HWz := HW1
            have HLz := HL1
            have HBz := HB3
            clear hD hxa hF3 HDR hcc HF3 hzn
            go_wp2_with fail
            refine T2.out.mono ?_
            rintro e w4 ⟨rfl, rfl⟩
            clear T2
            have CN := Lib.hid (count_any pb lb mb m p w4 HPz.out)
            go_wp2_with fail
            refine CN.out.mono ?_
            rintro e wy ⟨rfl, hFy⟩
            have hIy := HIz.out.keep (hFy.block hb HIz.out.lt id)
            have HK := Lib.hid (show KI pb lb mb hb N (q + 1) wy from ⟨m, m2, p, W, by omega, by omega, HPz.out.next hFy, hIy, HWz.out, HLz.out⟩)
            have hun := usedN_le p.L
            rw [HLz.out] at hun
            have hlen := hIy.len 3
            obtain ⟨u, hu⟩ : ∃ u, usedN p.L = u := ⟨_, rfl⟩
            have hcu : cU p.L = u := hu
            rw [hu] at hlen hun
            rw [hcu]
            generalize cD p.L = cd1
            generalize cP p.L = cp1
            have HBy := Lib.hid (HBz.out.trans ((Below.of_frm hFy).mono HBz.out.size))
            clear hu hcu hIy hFy CN HPz HIz HWz HLz HBz
            go_wp2
            go_roundw
            case rel => exact ⟨q + 1, by omega, by go_num, HK.out, HBy.out⟩
            case measure => simp [intOf]; omega
          · subst hz0
            have T2 := Lib.hid (hD w3 hF3)
            have hI3 := k4.keep (hF3.block hb k4.lt id)
            have HI3 := Lib.hid hI3
            have HWz := Lib.hid k5
            have HLz := Lib.hid k6
            have K7 := Lib.hid k7
            have KW := Lib.hid kW
            have hz3 := hF3.size
            clear hD hF3 HDR hcc HF3 k4 hI3 k5 k6 k7 kW
            go_wp2_with fail
            refine T2.out.mono ?_
            rintro e w4 ⟨rfl, hP4, hF4⟩
            have hI4 := HI3.out.keep (hF4.block hb HI3.out.lt hAp)
            obtain ⟨w5, hrun5, hI5, hT5⟩ := hI4.drop xk hwx KW.out 0
            have hF5 := Frm.of_grown hT5.grown
            have hxl : w2.heap.size < w3.heap.size := by
              rcases Nat.lt_or_ge w2.heap.size w3.heap.size with h5 | h5
              · exact h5
              · rw [Array.getElem?_eq_none h5] at hxa; cases hxa
            have hx4 := (hF4.block w2.heap.size hxl (fun e => by have := HLT.out _ (Or.inl e); omega)).trans hxa
            have x0 : w4.cell? ⟨w2.heap.size, 0, none⟩ = some (.int .i64 xk) := cell_of_row w4 w2.heap.size 0 _ _ _ hx4
            have HPz := Lib.hid (hP4.foreign hF5 (fun e => hAp (Or.inl e.symm)) (fun e => hAp (Or.inr (Or.inl e.symm))) (fun e => hAp (Or.inr (Or.inr e.symm))))
            have HIz := Lib.hid (show IBox w5 hb m2' (mset W' xk none) (usedN p'.L) from by rw [K7.out]; exact hI5)
            have HBz := Lib.hid ((HB3.out.trans (hF4.below HOO.out HB3.out.size)).trans (hF5.below (fun j e => by subst e; exact hbb) (by have := HB3.out.size; have := hF4.size; omega)))
            clear hP4 hF4 hI4 hI5 hT5 hF5 hxl hx4 hxa T2 z2
            go_upto_region 41 with (fail)
            clear hrun5 x0
            have CN := Lib.hid (count_any pb lb mb m' p' w5 HPz.out)
            go_wp2_with fail
            refine CN.out.mono ?_
            rintro e wy ⟨rfl, hFy⟩
            have hIy := HIz.out.keep (hFy.block hb HIz.out.lt id)
            have HK := Lib.hid (show KI pb lb mb hb N (q + 1) wy from ⟨m', m2', p', (mset W' xk none), by omega, by omega, HPz.out.next hFy, hIy, HWz.out, HLz.out⟩)
            have hun := usedN_le p'.L
            rw [HLz.out] at hun
            have hlen := hIy.len 3
            obtain ⟨u, hu⟩ : ∃ u, usedN p'.L = u := ⟨_, rfl⟩
            have hcu : cU p'.L = u := hu
            rw [hu] at hlen hun
            rw [hcu]
            generalize cD p'.L = cd1
            generalize cP p'.L = cp1
            have HBy := Lib.hid (HBz.out.trans ((Below.of_frm hFy).mono HBz.out.size))
            clear hu hcu hIy hFy CN HPz HIz HWz HLz HBz
            go_wp2
            go_roundw
            case rel => exact ⟨q + 1, by omega, by go_num, HK.out, HBy.out⟩
            case measure => simp [intOf]; omega
        have t6 : (op == 6) = false := by rw [beq_eq_false_iff_ne]; exact p6
        by_cases p2 : op = 2
        · subst p2
          have TK := Lib.hid (ktouch hAp HK1.out fr hw2 wrb)
          go_wp2_with fail
          refine TK.out.mono ?_
          rintro e w2 ⟨⟨z, rfl⟩, ⟨m', m2', p', W', k1, k2, k3, k4, k5, k6⟩, hF2⟩
          have HPz := Lib.hid k3
          have HIz := Lib.hid k4
          have HWz := Lib.hid k5
          have HLz := Lib.hid k6
          have HBz := Lib.hid (HB1.out.trans (hF2.below HOO.out HB1.out.size))
          clear k3 k4 k5 k6 hF2 TK
          have CN := Lib.hid (count_any pb lb mb m' p' w2 HPz.out)
          go_wp2_with fail
          refine CN.out.mono ?_
          rintro e wy ⟨rfl, hFy⟩
          have hIy := HIz.out.keep (hFy.block hb HIz.out.lt id)
          have HK := Lib.hid (show KI pb lb mb hb N (q + 1) wy from ⟨m', m2', p', W', by omega, by omega, HPz.out.next hFy, hIy, HWz.out, HLz.out⟩)
          have hun := usedN_le p'.L
          rw [HLz.out] at hun
          have hlen := hIy.len 3
          obtain ⟨u, hu⟩ : ∃ u, usedN p'.L = u := ⟨_, rfl⟩
          have hcu : cU p'.L = u := hu
          rw [hu] at hlen hun
          rw [hcu]
          generalize cD p'.L = cd1
          generalize cP p'.L = cp1
          have HBy := Lib.hid (HBz.out.trans ((Below.of_frm hFy).mono HBz.out.size))
          clear hu hcu hIy hFy CN HPz HIz HWz HLz HBz
          go_wp2
          go_roundw
          case rel => exact ⟨q + 1, by omega, by go_num, HK.out, HBy.out⟩
          case measure => simp [intOf]; omega
        have t2 : (op == 2) = false := by rw [beq_eq_false_iff_ne]; exact p2
        by_cases p4 : op = 4
        · subst p4
          have TK := Lib.hid (kpin hAp HK1.out fr hw2 )
          go_wp2_with fail
          refine TK.out.mono ?_
          rintro e w2 ⟨⟨z, rfl⟩, ⟨m', m2', p', W', k1, k2, k3, k4, k5, k6⟩, hF2⟩
          have HPz := Lib.hid k3
          have HIz := Lib.hid k4
          have HWz := Lib.hid k5
          have HLz := Lib.hid k6
          have HBz := Lib.hid (HB1.out.trans (hF2.below HOO.out HB1.out.size))
          clear k3 k4 k5 k6 hF2 TK
          have CN := Lib.hid (count_any pb lb mb m' p' w2 HPz.out)
          go_wp2_with fail
          refine CN.out.mono ?_
          rintro e wy ⟨rfl, hFy⟩
          have hIy := HIz.out.keep (hFy.block hb HIz.out.lt id)
          have HK := Lib.hid (show KI pb lb mb hb N (q + 1) wy from ⟨m', m2', p', W', by omega, by omega, HPz.out.next hFy, hIy, HWz.out, HLz.out⟩)
          have hun := usedN_le p'.L
          rw [HLz.out] at hun
          have hlen := hIy.len 3
          obtain ⟨u, hu⟩ : ∃ u, usedN p'.L = u := ⟨_, rfl⟩
          have hcu : cU p'.L = u := hu
          rw [hu] at hlen hun
          rw [hcu]
          generalize cD p'.L = cd1
          generalize cP p'.L = cp1
          have HBy := Lib.hid (HBz.out.trans ((Below.of_frm hFy).mono HBz.out.size))
          clear hu hcu hIy hFy CN HPz HIz HWz HLz HBz
          go_wp2
          go_roundw
          case rel => exact ⟨q + 1, by omega, by go_num, HK.out, HBy.out⟩
          case measure => simp [intOf]; omega
        have t4 : (op == 4) = false := by rw [beq_eq_false_iff_ne]; exact p4
        by_cases p5 : op = 5
        · subst p5
          have TK := Lib.hid (kunpin hAp HK1.out fr hw2 )
          go_wp2_with fail
          refine TK.out.mono ?_
          rintro e w2 ⟨⟨z, rfl⟩, ⟨m', m2', p', W', k1, k2, k3, k4, k5, k6⟩, hF2⟩
          have HPz := Lib.hid k3
          have HIz := Lib.hid k4
          have HWz := Lib.hid k5
          have HLz := Lib.hid k6
          have HBz := Lib.hid (HB1.out.trans (hF2.below HOO.out HB1.out.size))
          clear k3 k4 k5 k6 hF2 TK
          have CN := Lib.hid (count_any pb lb mb m' p' w2 HPz.out)
          go_wp2_with fail
          refine CN.out.mono ?_
          rintro e wy ⟨rfl, hFy⟩
          have hIy := HIz.out.keep (hFy.block hb HIz.out.lt id)
          have HK := Lib.hid (show KI pb lb mb hb N (q + 1) wy from ⟨m', m2', p', W', by omega, by omega, HPz.out.next hFy, hIy, HWz.out, HLz.out⟩)
          have hun := usedN_le p'.L
          rw [HLz.out] at hun
          have hlen := hIy.len 3
          obtain ⟨u, hu⟩ : ∃ u, usedN p'.L = u := ⟨_, rfl⟩
          have hcu : cU p'.L = u := hu
          rw [hu] at hlen hun
          rw [hcu]
          generalize cD p'.L = cd1
          generalize cP p'.L = cp1
          have HBy := Lib.hid (HBz.out.trans ((Below.of_frm hFy).mono HBz.out.size))
          clear hu hcu hIy hFy CN HPz HIz HWz HLz HBz
          go_wp2
          go_roundw
          case rel => exact ⟨q + 1, by omega, by go_num, HK.out, HBy.out⟩
          case measure => simp [intOf]; omega
        have t5 : (op == 5) = false := by rw [beq_eq_false_iff_ne]; exact p5
        have HPz := HP1
        have HIz := HI1
        have HWz := HW1
        have HLz := HL1
        have HBz := HB1
        have CN := Lib.hid (count_any pb lb mb m p w1 HPz.out)
        go_wp2_with fail
        refine CN.out.mono ?_
        rintro e wy ⟨rfl, hFy⟩
        have hIy := HIz.out.keep (hFy.block hb HIz.out.lt id)
        have HK := Lib.hid (show KI pb lb mb hb N (q + 1) wy from ⟨m, m2, p, W, by omega, by omega, HPz.out.next hFy, hIy, HWz.out, HLz.out⟩)
        have hun := usedN_le p.L
        rw [HLz.out] at hun
        have hlen := hIy.len 3
        obtain ⟨u, hu⟩ : ∃ u, usedN p.L = u := ⟨_, rfl⟩
        have hcu : cU p.L = u := hu
        rw [hu] at hlen hun
        rw [hcu]
        generalize cD p.L = cd1
        generalize cP p.L = cp1
        have HBy := Lib.hid (HBz.out.trans ((Below.of_frm hFy).mono HBz.out.size))
        clear hu hcu hIy hFy CN HPz HIz HWz HLz HBz
        go_wp2
        go_roundw
        case rel => exact ⟨q + 1, by omega, by go_num, HK.out, HBy.out⟩
        case measure => simp [intOf]; omega
      · have HB := Lib.hid hB
        clear hB hI
        go_wp2
        go_ret
        exact ⟨rfl, HB.out⟩

set_option maxRecDepth 100000 in
theorem lifted (os : Os) (started : os.Started) (H : Type) (enc : TypeId × Value → H) :
    ReturnsInHanded {} Try.checked os 4 .any (Rows.framesKeysSpec.pre6 enc Try.prog Try.f4 Rows.framesKeysRow.domain false) (Rows.framesKeysSpec.post enc Try.prog Try.f4 false true false false) := by
  refine returnsInHanded_of_change (C := Try.checked) own started (by kernel_rfl) Try.func4
    (ChangeSpec.witness6 (enc := enc) (C := Try.checked) false ⟨#[], #[.int .i64 0, .slice none 0 0], []⟩ 8 (by kernel_rfl) (by kernel_rfl) (by kernel_rfl) (by kernel_rfl)) ?_
  intro W base args ds gs before hval0 hW hcnd _
  have hval : ∀ (j : Nat) t v, Try.f4.params[j]? = some t → args[j]? = some v → Value.okWide Try.prog W .any base t v := hval0
  have hW' := hW
  obtain ⟨p, q, hA0, hV, rfl, hfz, hnd⟩ := hW
  have hA : DataW.TrodAll enc Try.prog W 0 (fun _ => true) true Try.f4.params.toList args.toList ds p := hA0
  rw [Try.params4] at hA hval
  obtain ⟨v0, vs0, d0, ds0, p0, q0, hargs, rfl, rfl, h0, r0⟩ := trodAll_cons hA
  obtain ⟨v1, vs1, d1, ds1, p1, q1, rfl, rfl, rfl, h1, r1⟩ := trodAll_cons r0
  obtain ⟨rfl, rfl, rfl⟩ := trodAll_nil r1
  obtain rfl : args = #[v0, v1] := by cases args; simp_all
  obtain ⟨rfl, rfl⟩ := trodVars_none hV
  obtain ⟨a0, rfl, rfl, rfl, w0⟩ := open_int Try.underlying3 (hval 0 3 v0 rfl rfl) h0
  obtain ⟨l1, hr1, hz1⟩ := open_cells Try.underlying22 Try.underlying33 (by kernel_rfl) (by kernel_rfl) (by decide) (hval 1 22 v1 rfl rfl) h1
  have hz2 : ∀ x ∈ l1, FOk x := fun x hx => fok_of Try.underlying33 (hz1 x hx).1 (hz1 x hx).2
  clear hA0 hval0
  refine (walk a0 w0 v1 l1 W hr1 hz2).mono fun e W' ⟨he, hb⟩ => ?_
  subst he
  exact ⟨_, rfl, law_post hW' rfl laid (by kernel_rfl) rfl Try.underlying4 rfl hb⟩

theorem over : Rows.framesKeysRow.holds Try.pinned (OpenSpec.ofChange Rows.framesKeysSpec) :=
  OpenClaim.holds_of_wide 4 Try.f4 rfl rfl rfl rfl rfl rfl rfl ⟨rfl, rfl, rfl, rfl, rfl⟩ rfl rfl rfl rfl rfl (by kernel_rfl) Try.func4 (by kernel_rfl)
    (of_decide_eq_true (by kernel_rfl)) (by unfold Func.isWrapper; first | (rw [if_pos (by decide +kernel)]; kernel_rfl) | (rw [if_neg (by decide +kernel)]; exact ⟨rfl, rfl⟩))
    (fun os started H enc _ => lifted os started H enc)

theorem proved : Rows.FramesKeysSaid :=
  over
end Go.Proofs.Ytdbaidkepngjcaa.lawFramesKeys
