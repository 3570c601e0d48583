/- The law SegsPlays answers true for any size, any full segments, any acts: the program's table answers as the document's, and tells the same behind each act. Conditions: none. -/
import Derived.Test.YtjpmlojpcgfcfaaSgx
import Derived.Test.YtjpmlojpcgfcfaaSgy
import Derived.Test.YtjpmlojpcgfcfaaSgh
import Derived.Test.YtjpmlojpcgfcfaaOpb
namespace Go.Proofs.Ytjpmlojpcgfcfaa.lawSegsPlays
open Go.ChangeShapes Go.WideShapes Go.ChangeAt Go.RowKit
set_option linter.unusedSimpArgs false
set_option linter.unusedVariables false

theorem own : ownKnob Try.prog.godebug = none := by kernel_rfl
theorem laid : laidOutB Try.prog = true := by kernel_rfl

set_option maxRecDepth 100000 in
set_option maxHeartbeats 1000000 in
theorem new_bad (n : Int) (hn : n < 1 ∨ 65536 < n) (w : World) : Calls Try.prog 8 #[.int .i64 n] w fun e w' => e = .returned (.tuple #[.pointer none, .int .i64 1]) ∧ w = w' := by
  by_cases h1 : n < 1
  · clear hn
    go_enter Try.func8, Try.ntmps8
    go_wp2
    go_ret2
    exact ⟨rfl, rfl⟩
  · have h2 : 65536 < n := by omega
    clear hn
    go_enter Try.func8, Try.ntmps8
    go_wp2
    go_ret2
    exact ⟨rfl, rfl⟩
def AnyP (w : World) (e : Ending) (w' : World) : Prop := ∃ A x, e = .returned (.tuple #[.pointer A, .int .i64 x]) ∧ Below w.heap.size w w'
theorem new_w (n : Int) (w : World) : Calls Try.prog 8 #[.int .i64 n] w (AnyP w) := by
  by_cases hn : n < 1 ∨ 65536 < n
  · exact (new_bad n hn w).mono fun e w' h => by obtain ⟨rfl, rfl⟩ := h; exact ⟨_, _, rfl, Below.refl _ _⟩
  · obtain ⟨N, rfl⟩ := Int.eq_ofNat_of_zero_le (show 0 ≤ n by omega)
    refine (new_any N w).mono ?_
    rintro e w' (⟨h, _⟩ | ⟨_, tb, b, _, _, rfl, _, hb⟩)
    · omega
    · exact ⟨_, _, rfl, hb⟩
theorem rnew_w (n : Int) (w : World) : Calls Try.prog 9 #[.int .i64 n] w (AnyP w) := by
  by_cases hn : n < 1 ∨ 65536 < n
  · exact (rnew_bad n hn w).mono fun e w' h => by obtain ⟨rfl, rfl⟩ := h; exact ⟨_, _, rfl, Below.refl _ _⟩
  · obtain ⟨N, rfl⟩ := Int.eq_ofNat_of_zero_le (show 0 ≤ n by omega)
    refine (rnew_any N (by omega) w).mono ?_
    rintro e w' ⟨rb, gb, _, _, rfl, _, hb⟩
    exact ⟨_, _, rfl, hb⟩
set_option maxRecDepth 100000 in
set_option maxHeartbeats 16000000 in
theorem walk (n : Int) (vf : Value) (bs : List Bool) (ld : Bool) (v : Value) (l : List (List Int)) (w : World) (hrf : RdV w w.heap.size vf (boolV bs)) (hr : RdA 4 w w.heap.size v l) (hz : ∀ x ∈ l, x.length = 4 ∧ ∀ z ∈ x, (Lit.int .i64 z).wf = true) :
    Calls Try.prog 3 #[.int .i64 n, vf, .bool ld, v] w fun e w' => e = .returned (.bool true) ∧ Below w.heap.size w w' := by
  have hraa := hr
  obtain ⟨A, c, rfl, hc1, hc2, hc3⟩ := hr
  have hrff := hrf
  obtain ⟨Af, cf, rfl, hcf1, hcf2, hcf3⟩ := hrf
  rw [boolV_length] at hcf1 hrff ⊢
  have HK := Lib.hid (known_any w)
  have HR := Lib.hid hraa
  have HRF := Lib.hid hrff
  have HZ := Lib.hid hz
  clear hc3 hraa hz hcf3 hrff
  by_cases c0 : 300 < l.length
  · go_enter Try.func3, Try.ntmps3
    go_wp2_with fail
    refine HK.out.mono ?_
    rintro e w1 ⟨rfl, hb1⟩
    go_wp2
    go_ret
    exact ⟨rfl, hb1⟩
  by_cases c1 : 200 < bs.length
  · go_enter Try.func3, Try.ntmps3
    go_wp2_with fail
    refine HK.out.mono ?_
    rintro e w1 ⟨rfl, hb1⟩
    go_wp2
    go_ret
    exact ⟨rfl, hb1⟩
  by_cases c3 : 200 < n ∧ n ≤ 65536
  · obtain ⟨c3, c4⟩ := c3
    go_enter Try.func3, Try.ntmps3
    go_wp2_with fail
    refine HK.out.mono ?_
    rintro e w1 ⟨rfl, hb1⟩
    go_wp2
    go_ret
    exact ⟨rfl, hb1⟩
  cases ld with
  | false =>
    by_cases c5 : n < 1
    · have HN := fun w => Lib.hid (new_bad n (Or.inl c5) w)
      have HRN := fun w => Lib.hid (rnew_bad n (Or.inl c5) w)
      have c6 : ¬ 200 < n := by omega
      clear c3
      go_enter Try.func3, Try.ntmps3
      go_wp2_with fail
      refine HK.out.mono ?_
      rintro e w1 ⟨rfl, hb1⟩
      have HB1 := Lib.hid hb1
      clear hb1
      go_wp2_with fail
      refine (HN _).out.mono ?_
      rintro e w2 ⟨rfl, rfl⟩
      go_wp2_with fail
      refine (HRN _).out.mono ?_
      rintro e w3 ⟨rfl, rfl⟩
      go_wp2
      go_ret
      exact ⟨rfl, HB1.out⟩
    by_cases c5 : 65536 < n
    · have HN := fun w => Lib.hid (new_bad n (Or.inr c5) w)
      have HRN := fun w => Lib.hid (rnew_bad n (Or.inr c5) w)
      have c6 : 200 < n := by omega
      clear c3
      go_enter Try.func3, Try.ntmps3
      go_wp2_with fail
      refine HK.out.mono ?_
      rintro e w1 ⟨rfl, hb1⟩
      have HB1 := Lib.hid hb1
      clear hb1
      go_wp2_with fail
      refine (HN _).out.mono ?_
      rintro e w2 ⟨rfl, rfl⟩
      go_wp2_with fail
      refine (HRN _).out.mono ?_
      rintro e w3 ⟨rfl, rfl⟩
      go_wp2
      go_ret
      exact ⟨rfl, HB1.out⟩
    · obtain ⟨N, rfl⟩ := Int.eq_ofNat_of_zero_le (show 0 ≤ n by omega)
      have hN : 1 ≤ N ∧ N ≤ 200 := by omega
      clear c3
      go_enter Try.func3, Try.ntmps3
      go_wp2_with fail
      refine HK.out.mono ?_
      rintro e w1 ⟨rfl, hb1⟩
      have HN := Lib.hid (new_any N w1)
      have HB1 := Lib.hid hb1
      clear hb1
      go_wp2_with fail
      refine HN.out.mono ?_
      rintro e w2 (⟨h, _⟩ | ⟨_, tb, b, htb, hbb, rfl, hT, hb2⟩)
      · omega
      have HRN := Lib.hid (rnew_any N (by omega) w2)
      have HT := Lib.hid hT
      have HB2 := Lib.hid (nextB hb2 HB1.out)
      have hlt1 := hT.box.lt
      have hlt2 := hT.box.map.lt
      clear hT hb2
      go_wp2_with fail
      refine HRN.out.mono ?_
      rintro e w3 ⟨rb, gb, hrb, hgb, rfl, hRT, hb3⟩
      have hBT : BTab tb b rb gb N 200 w3 noEnt := ⟨⟨0, 0, by omega, HT.out.next hb3⟩, hRT, Good.no, by omega⟩
      have hBB := nextB hb3 HB2.out
      have HOO := Lib.hid (show ∀ j, (j = tb ∨ j = b ∨ j = gb) → w.heap.size ≤ j by have := HB1.out.size; have := HB2.out.size; omega)
      clear hRT hb3
      have HBT := Lib.hid hBT
      have HBB := Lib.hid hBB
      clear hBT hBB
      go_wp2
      go_loopw [13] (fun i wr => ∃ q : Nat, q ≤ l.length ∧ i = .int .i64 q ∧ (∃ f', BTab tb b rb gb N (200 + q * 201) wr f') ∧ Below w.heap.size w wr) (fun i wr => l.length - (intOf i).toNat)
      case atStart => exact ⟨0, by omega, rfl, ⟨_, HBT.out⟩, HBB.out⟩
      case round =>
        obtain ⟨q, hq, rfl, ⟨f', hT⟩, hB⟩ := hrel
        by_cases hlt : q < l.length
        · obtain ⟨ab, aoff, a0, a1, a2, a3, rfl, hab, hx, hcell⟩ := HR.out.get4 hlt
          have hz1 := (HZ.out _ (List.getElem_mem hlt)).2
          rw [hx] at hz1
          have hw1 : (Lit.int .i64 a1).wf = true := hz1 a1 (by simp)
          obtain ⟨y0, y1, y2, y3⟩ := hcell wr hB
          have ST := Lib.hid (step_any tb b rb gb N (200 + q * 201) f' wr hT (by omega) a0 a1 a2 a3 hw1)
          have HB := Lib.hid hB
          have HC := Lib.hid hcell
          clear hT hB hcell hz1 hx
          go_wp2_with fail
          refine ST.out.mono ?_
          rintro e w5 ⟨rfl, ⟨f2, hT5⟩, hF5⟩
          have hB5 := HB.out.trans (hF5.below HOO.out HB.out.size)
          obtain ⟨z0, z1, z2, z3⟩ := HC.out w5 hB5
          have LK := Lib.hid (looks_any tb b rb gb N _ f2 w5 hT5 a1 hw1)
          have HT5 := Lib.hid hT5
          have HB5 := Lib.hid hB5
          clear hT5 hB5 hF5
          go_wp2_with fail
          refine LK.out.mono ?_
          rintro e w6 ⟨rfl, hb6⟩
          have HT6 := Lib.hid (HT5.out.next hb6)
          have HB6 := Lib.hid (nextB hb6 HB5.out)
          clear hb6
          go_wp2
          go_roundw
          case rel => exact ⟨q + 1, by omega, by go_num, ⟨f2, HT6.out.more (by omega)⟩, HB6.out⟩
          case measure => simp [intOf]; omega
        · obtain rfl : q = l.length := by omega
          obtain ⟨m, lo, hm, hTab⟩ := hT.tab
          have FU := Lib.hid (fulls_any tb b m N f' lo wr hTab)
          have HT := Lib.hid hT
          have HB := Lib.hid hB
          clear hT hB hTab
          go_wp2_with fail
          refine FU.out.mono ?_
          rintro e w5 ⟨v5, rfl, ho, hb5⟩
          obtain ⟨A5, c5, rfl, hd1, hd2, _⟩ := RdV.own ho
          have hfl : (boolV (fulL N f')).length = N := by rw [boolV_length, fulL_length]
          rw [hfl] at hd1 ho ⊢
          have hR5 := HT.out.ref.next hb5
          have hc5 := hR5.cell
          have HO := Lib.hid ho
          have HR5 := Lib.hid hR5
          have HB5 := Lib.hid (nextB hb5 HB.out)
          have hNb := hR5.bound
          clear ho hb5 hfl hR5
          go_wp2
          go_loopw [15] (fun i wx => ∃ j : Nat, j ≤ N ∧ i = .int .i64 j ∧ Frm (fun _ => False) w5 wx) (fun i wx => N - (intOf i).toNat)
          case atStart => exact ⟨0, by omega, rfl, Frm.refl _ _⟩
          case round =>
            obtain ⟨j, hj, rfl, hF⟩ := hrel
            by_cases hjl : j < N
            · obtain ⟨b0, off, rfl, hbB, hcx⟩ := (RdV.own (own_frm HO.out hF (fun _ h => h.elim))).get (j := j) (u := .bool (!decide ((f' (j : Nat)).st = 0))) (by unfold boolV fulL; rw [List.getElem?_map, List.getElem?_map, List.getElem?_range hjl]; rfl)
              have hRx := HR5.out.frm hF id id
              have hcr := hRx.cell
              obtain ⟨ee, hs, _⟩ := hRx.at j hjl
              have HF := Lib.hid hF
              clear hF hRx
              generalize (f' (j : Nat)).st = st at hcx hs
              by_cases hst : st = 0
              · subst hst
                have hcx' : wr.cell? _ = some (.bool false) := hcx
                clear hcx
                go_wp2_with fail
                go_region_law (fail)
                all_goals go_wp2_with fail
                all_goals refine ⟨⟨j + 1, by omega, by go_num, HF.out.drew⟩, ?_⟩
                all_goals (simp [intOf]; omega)
              · have t0 : (st == 0) = false := by rw [beq_eq_false_iff_ne]; exact hst
                have t1 : (st != 0) = true := by simp [bne, t0]
                rw [show (!decide (st = 0)) = true from by simp [hst]] at hcx
                clear hst
                go_wp2_with fail
                go_region_law (fail)
                all_goals go_wp2_with fail
                all_goals refine ⟨⟨j + 1, by omega, by go_num, HF.out.drew⟩, ?_⟩
                all_goals (simp [intOf]; omega)
            · obtain rfl : j = N := by omega
              have HF := Lib.hid (HB5.out.trans (hF.below (B := w.heap.size) (fun _ h => h.elim) HB5.out.size))
              clear hF
              go_wp2
              go_ret
              exact ⟨rfl, HF.out⟩
  | true =>
    by_cases c5 : n ≤ 200
    · clear c3
      have HN := fun w => Lib.hid (new_w n w)
      have HRN := fun w => Lib.hid (rnew_w n w)
      by_cases hN : 1 ≤ bs.length ∧ bs.length ≤ 65536
      · go_enter Try.func3, Try.ntmps3
        go_wp2_with fail
        refine HK.out.mono ?_
        rintro e w1 ⟨rfl, hb1⟩
        have HB1 := Lib.hid hb1
        clear hb1
        go_wp2_with fail
        refine (HN _).out.mono ?_
        rintro e wa ⟨Aa, xa, rfl, hba⟩
        have HBa := Lib.hid (nextB hba HB1.out)
        clear hba
        go_wp2_with fail
        refine (HRN _).out.mono ?_
        rintro e wb ⟨Ab, xb, rfl, hbb⟩
        have HBb := Lib.hid (nextB hbb HBa.out)
        clear hbb
        have LD := Lib.hid (load_any _ bs w.heap.size wb (HRF.out.below HBb.out) HBb.out.size)
        go_wp2_with fail
        refine LD.out.mono ?_
        rintro e w2 (⟨h, _⟩ | ⟨_, tb, b, m0, htb, hbb, hmm, rfl, hT, hb2⟩)
        · exact absurd hN h
        have HB2 := Lib.hid (nextB hb2 HBb.out)
        have RL := Lib.hid (rload_any _ bs w.heap.size w2 (HRF.out.below HB2.out) HB2.out.size hN)
        have HT := Lib.hid hT
        have hlt1 := hT.box.lt
        have hlt2 := hT.box.map.lt
        clear hT hb2
        go_wp2_with fail
        refine RL.out.mono ?_
        rintro e w3 ⟨rb, gb, hrb, hgb, rfl, hRT, hb3⟩
        have hBT : BTab tb b rb gb bs.length 200 w3 (ldF bs bs.length) := ⟨⟨m0, 0, by omega, HT.out.next hb3⟩, hRT, Good.ld _ _, by omega⟩
        have hBB := nextB hb3 HB2.out
        have HOO := Lib.hid (show ∀ j, (j = tb ∨ j = b ∨ j = gb) → w.heap.size ≤ j by have := HBb.out.size; have := HB2.out.size; omega)
        obtain ⟨N, hNN⟩ : ∃ N, bs.length = N := ⟨_, rfl⟩
        rw [hNN] at hBT hN c1 hcf1 ⊢
        generalize ldF bs N = fl at hBT
        clear hRT hb3 hNN LD RL HT
        have HBT := Lib.hid hBT
        have HBB := Lib.hid hBB
        clear hBT hBB
        go_wp2
        go_loopw [13] (fun i wr => ∃ q : Nat, q ≤ l.length ∧ i = .int .i64 q ∧ (∃ f', BTab tb b rb gb N (200 + q * 201) wr f') ∧ Below w.heap.size w wr) (fun i wr => l.length - (intOf i).toNat)
        case atStart => exact ⟨0, by omega, rfl, ⟨_, HBT.out⟩, HBB.out⟩
        case round =>
          obtain ⟨q, hq, rfl, ⟨f', hT⟩, hB⟩ := hrel
          by_cases hlt : q < l.length
          · obtain ⟨ab, aoff, a0, a1, a2, a3, rfl, hab, hx, hcell⟩ := HR.out.get4 hlt
            have hz1 := (HZ.out _ (List.getElem_mem hlt)).2
            rw [hx] at hz1
            have hw1 : (Lit.int .i64 a1).wf = true := hz1 a1 (by simp)
            obtain ⟨y0, y1, y2, y3⟩ := hcell wr hB
            have ST := Lib.hid (step_any tb b rb gb N (200 + q * 201) f' wr hT (by omega) a0 a1 a2 a3 hw1)
            have HB := Lib.hid hB
            have HC := Lib.hid hcell
            clear hT hB hcell hz1 hx
            go_wp2_with fail
            refine ST.out.mono ?_
            rintro e w5 ⟨rfl, ⟨f2, hT5⟩, hF5⟩
            have hB5 := HB.out.trans (hF5.below HOO.out HB.out.size)
            obtain ⟨z0, z1, z2, z3⟩ := HC.out w5 hB5
            have LK := Lib.hid (looks_any tb b rb gb N _ f2 w5 hT5 a1 hw1)
            have HT5 := Lib.hid hT5
            have HB5 := Lib.hid hB5
            clear hT5 hB5 hF5
            go_wp2_with fail
            refine LK.out.mono ?_
            rintro e w6 ⟨rfl, hb6⟩
            have HT6 := Lib.hid (HT5.out.next hb6)
            have HB6 := Lib.hid (nextB hb6 HB5.out)
            clear hb6
            go_wp2
            go_roundw
            case rel => exact ⟨q + 1, by omega, by go_num, ⟨f2, HT6.out.more (by omega)⟩, HB6.out⟩
            case measure => simp [intOf]; omega
          · obtain rfl : q = l.length := by omega
            obtain ⟨m, lo, hm, hTab⟩ := hT.tab
            have FU := Lib.hid (fulls_any tb b m N f' lo wr hTab)
            have HT := Lib.hid hT
            have HB := Lib.hid hB
            clear hT hB hTab
            go_wp2_with fail
            refine FU.out.mono ?_
            rintro e w5 ⟨v5, rfl, ho, hb5⟩
            obtain ⟨A5, c5, rfl, hd1, hd2, _⟩ := RdV.own ho
            have hfl : (boolV (fulL N f')).length = N := by rw [boolV_length, fulL_length]
            rw [hfl] at hd1 ho ⊢
            have hR5 := HT.out.ref.next hb5
            have hc5 := hR5.cell
            have HO := Lib.hid ho
            have HR5 := Lib.hid hR5
            have HB5 := Lib.hid (nextB hb5 HB.out)
            have hNb := hR5.bound
            clear ho hb5 hfl hR5
            go_wp2
            go_loopw [15] (fun i wx => ∃ j : Nat, j ≤ N ∧ i = .int .i64 j ∧ Frm (fun _ => False) w5 wx) (fun i wx => N - (intOf i).toNat)
            case atStart => exact ⟨0, by omega, rfl, Frm.refl _ _⟩
            case round =>
              obtain ⟨j, hj, rfl, hF⟩ := hrel
              by_cases hjl : j < N
              · obtain ⟨b0, off, rfl, hbB, hcx⟩ := (RdV.own (own_frm HO.out hF (fun _ h => h.elim))).get (j := j) (u := .bool (!decide ((f' (j : Nat)).st = 0))) (by unfold boolV fulL; rw [List.getElem?_map, List.getElem?_map, List.getElem?_range hjl]; rfl)
                have hRx := HR5.out.frm hF id id
                have hcr := hRx.cell
                obtain ⟨ee, hs, _⟩ := hRx.at j hjl
                have HF := Lib.hid hF
                clear hF hRx
                generalize (f' (j : Nat)).st = st at hcx hs
                by_cases hst : st = 0
                · subst hst
                  have hcx' : wr.cell? _ = some (.bool false) := hcx
                  clear hcx
                  go_wp2_with fail
                  go_region_law (fail)
                  all_goals go_wp2_with fail
                  all_goals refine ⟨⟨j + 1, by omega, by go_num, HF.out.drew⟩, ?_⟩
                  all_goals (simp [intOf]; omega)
                · have t0 : (st == 0) = false := by rw [beq_eq_false_iff_ne]; exact hst
                  have t1 : (st != 0) = true := by simp [bne, t0]
                  rw [show (!decide (st = 0)) = true from by simp [hst]] at hcx
                  clear hst
                  go_wp2_with fail
                  go_region_law (fail)
                  all_goals go_wp2_with fail
                  all_goals refine ⟨⟨j + 1, by omega, by go_num, HF.out.drew⟩, ?_⟩
                  all_goals (simp [intOf]; omega)
              · obtain rfl : j = N := by omega
                have HF := Lib.hid (HB5.out.trans (hF.below (B := w.heap.size) (fun _ h => h.elim) HB5.out.size))
                clear hF
                go_wp2
                go_ret
                exact ⟨rfl, HF.out⟩
      · go_enter Try.func3, Try.ntmps3
        go_wp2_with fail
        refine HK.out.mono ?_
        rintro e w1 ⟨rfl, hb1⟩
        have HB1 := Lib.hid hb1
        clear hb1
        go_wp2_with fail
        refine (HN _).out.mono ?_
        rintro e wa ⟨Aa, xa, rfl, hba⟩
        have HBa := Lib.hid (nextB hba HB1.out)
        clear hba
        go_wp2_with fail
        refine (HRN _).out.mono ?_
        rintro e wb ⟨Ab, xb, rfl, hbb⟩
        have HBb := Lib.hid (nextB hbb HBa.out)
        clear hbb
        have LD := Lib.hid (load_any _ bs w.heap.size wb (HRF.out.below HBb.out) HBb.out.size)
        go_wp2_with fail
        refine LD.out.mono ?_
        rintro e w2 (⟨_, rfl, hb2⟩ | ⟨h, _⟩)
        · have HB2 := Lib.hid (nextB hb2 HBb.out)
          have RL := Lib.hid (rload_bad _ bs w.heap.size w2 (HRF.out.below HB2.out) hN)
          clear hb2
          go_wp2_with fail
          refine RL.out.mono ?_
          rintro e w3 ⟨rfl, rfl⟩
          go_wp2
          go_ret
          exact ⟨rfl, HB2.out⟩
        · exact absurd h hN
    · have c6 : 65536 < n := by omega
      clear c3
      have HN := fun w => Lib.hid (new_w n w)
      have HRN := fun w => Lib.hid (rnew_w n w)
      by_cases hN : 1 ≤ bs.length ∧ bs.length ≤ 65536
      · go_enter Try.func3, Try.ntmps3
        go_wp2_with fail
        refine HK.out.mono ?_
        rintro e w1 ⟨rfl, hb1⟩
        have HB1 := Lib.hid hb1
        clear hb1
        go_wp2_with fail
        refine (HN _).out.mono ?_
        rintro e wa ⟨Aa, xa, rfl, hba⟩
        have HBa := Lib.hid (nextB hba HB1.out)
        clear hba
        go_wp2_with fail
        refine (HRN _).out.mono ?_
        rintro e wb ⟨Ab, xb, rfl, hbb⟩
        have HBb := Lib.hid (nextB hbb HBa.out)
        clear hbb
        have LD := Lib.hid (load_any _ bs w.heap.size wb (HRF.out.below HBb.out) HBb.out.size)
        go_wp2_with fail
        refine LD.out.mono ?_
        rintro e w2 (⟨h, _⟩ | ⟨_, tb, b, m0, htb, hbb, hmm, rfl, hT, hb2⟩)
        · exact absurd hN h
        have HB2 := Lib.hid (nextB hb2 HBb.out)
        have RL := Lib.hid (rload_any _ bs w.heap.size w2 (HRF.out.below HB2.out) HB2.out.size hN)
        have HT := Lib.hid hT
        have hlt1 := hT.box.lt
        have hlt2 := hT.box.map.lt
        clear hT hb2
        go_wp2_with fail
        refine RL.out.mono ?_
        rintro e w3 ⟨rb, gb, hrb, hgb, rfl, hRT, hb3⟩
        have hBT : BTab tb b rb gb bs.length 200 w3 (ldF bs bs.length) := ⟨⟨m0, 0, by omega, HT.out.next hb3⟩, hRT, Good.ld _ _, by omega⟩
        have hBB := nextB hb3 HB2.out
        have HOO := Lib.hid (show ∀ j, (j = tb ∨ j = b ∨ j = gb) → w.heap.size ≤ j by have := HBb.out.size; have := HB2.out.size; omega)
        obtain ⟨N, hNN⟩ : ∃ N, bs.length = N := ⟨_, rfl⟩
        rw [hNN] at hBT hN c1 hcf1 ⊢
        generalize ldF bs N = fl at hBT
        clear hRT hb3 hNN LD RL HT
        have HBT := Lib.hid hBT
        have HBB := Lib.hid hBB
        clear hBT hBB
        go_wp2
        go_loopw [13] (fun i wr => ∃ q : Nat, q ≤ l.length ∧ i = .int .i64 q ∧ (∃ f', BTab tb b rb gb N (200 + q * 201) wr f') ∧ Below w.heap.size w wr) (fun i wr => l.length - (intOf i).toNat)
        case atStart => exact ⟨0, by omega, rfl, ⟨_, HBT.out⟩, HBB.out⟩
        case round =>
          obtain ⟨q, hq, rfl, ⟨f', hT⟩, hB⟩ := hrel
          by_cases hlt : q < l.length
          · obtain ⟨ab, aoff, a0, a1, a2, a3, rfl, hab, hx, hcell⟩ := HR.out.get4 hlt
            have hz1 := (HZ.out _ (List.getElem_mem hlt)).2
            rw [hx] at hz1
            have hw1 : (Lit.int .i64 a1).wf = true := hz1 a1 (by simp)
            obtain ⟨y0, y1, y2, y3⟩ := hcell wr hB
            have ST := Lib.hid (step_any tb b rb gb N (200 + q * 201) f' wr hT (by omega) a0 a1 a2 a3 hw1)
            have HB := Lib.hid hB
            have HC := Lib.hid hcell
            clear hT hB hcell hz1 hx
            go_wp2_with fail
            refine ST.out.mono ?_
            rintro e w5 ⟨rfl, ⟨f2, hT5⟩, hF5⟩
            have hB5 := HB.out.trans (hF5.below HOO.out HB.out.size)
            obtain ⟨z0, z1, z2, z3⟩ := HC.out w5 hB5
            have LK := Lib.hid (looks_any tb b rb gb N _ f2 w5 hT5 a1 hw1)
            have HT5 := Lib.hid hT5
            have HB5 := Lib.hid hB5
            clear hT5 hB5 hF5
            go_wp2_with fail
            refine LK.out.mono ?_
            rintro e w6 ⟨rfl, hb6⟩
            have HT6 := Lib.hid (HT5.out.next hb6)
            have HB6 := Lib.hid (nextB hb6 HB5.out)
            clear hb6
            go_wp2
            go_roundw
            case rel => exact ⟨q + 1, by omega, by go_num, ⟨f2, HT6.out.more (by omega)⟩, HB6.out⟩
            case measure => simp [intOf]; omega
          · obtain rfl : q = l.length := by omega
            obtain ⟨m, lo, hm, hTab⟩ := hT.tab
            have FU := Lib.hid (fulls_any tb b m N f' lo wr hTab)
            have HT := Lib.hid hT
            have HB := Lib.hid hB
            clear hT hB hTab
            go_wp2_with fail
            refine FU.out.mono ?_
            rintro e w5 ⟨v5, rfl, ho, hb5⟩
            obtain ⟨A5, c5, rfl, hd1, hd2, _⟩ := RdV.own ho
            have hfl : (boolV (fulL N f')).length = N := by rw [boolV_length, fulL_length]
            rw [hfl] at hd1 ho ⊢
            have hR5 := HT.out.ref.next hb5
            have hc5 := hR5.cell
            have HO := Lib.hid ho
            have HR5 := Lib.hid hR5
            have HB5 := Lib.hid (nextB hb5 HB.out)
            have hNb := hR5.bound
            clear ho hb5 hfl hR5
            go_wp2
            go_loopw [15] (fun i wx => ∃ j : Nat, j ≤ N ∧ i = .int .i64 j ∧ Frm (fun _ => False) w5 wx) (fun i wx => N - (intOf i).toNat)
            case atStart => exact ⟨0, by omega, rfl, Frm.refl _ _⟩
            case round =>
              obtain ⟨j, hj, rfl, hF⟩ := hrel
              by_cases hjl : j < N
              · obtain ⟨b0, off, rfl, hbB, hcx⟩ := (RdV.own (own_frm HO.out hF (fun _ h => h.elim))).get (j := j) (u := .bool (!decide ((f' (j : Nat)).st = 0))) (by unfold boolV fulL; rw [List.getElem?_map, List.getElem?_map, List.getElem?_range hjl]; rfl)
                have hRx := HR5.out.frm hF id id
                have hcr := hRx.cell
                obtain ⟨ee, hs, _⟩ := hRx.at j hjl
                have HF := Lib.hid hF
                clear hF hRx
                generalize (f' (j : Nat)).st = st at hcx hs
                by_cases hst : st = 0
                · subst hst
                  have hcx' : wr.cell? _ = some (.bool false) := hcx
                  clear hcx
                  go_wp2_with fail
                  go_region_law (fail)
                  all_goals go_wp2_with fail
                  all_goals refine ⟨⟨j + 1, by omega, by go_num, HF.out.drew⟩, ?_⟩
                  all_goals (simp [intOf]; omega)
                · have t0 : (st == 0) = false := by rw [beq_eq_false_iff_ne]; exact hst
                  have t1 : (st != 0) = true := by simp [bne, t0]
                  rw [show (!decide (st = 0)) = true from by simp [hst]] at hcx
                  clear hst
                  go_wp2_with fail
                  go_region_law (fail)
                  all_goals go_wp2_with fail
                  all_goals refine ⟨⟨j + 1, by omega, by go_num, HF.out.drew⟩, ?_⟩
                  all_goals (simp [intOf]; omega)
              · obtain rfl : j = N := by omega
                have HF := Lib.hid (HB5.out.trans (hF.below (B := w.heap.size) (fun _ h => h.elim) HB5.out.size))
                clear hF
                go_wp2
                go_ret
                exact ⟨rfl, HF.out⟩
      · go_enter Try.func3, Try.ntmps3
        go_wp2_with fail
        refine HK.out.mono ?_
        rintro e w1 ⟨rfl, hb1⟩
        have HB1 := Lib.hid hb1
        clear hb1
        go_wp2_with fail
        refine (HN _).out.mono ?_
        rintro e wa ⟨Aa, xa, rfl, hba⟩
        have HBa := Lib.hid (nextB hba HB1.out)
        clear hba
        go_wp2_with fail
        refine (HRN _).out.mono ?_
        rintro e wb ⟨Ab, xb, rfl, hbb⟩
        have HBb := Lib.hid (nextB hbb HBa.out)
        clear hbb
        have LD := Lib.hid (load_any _ bs w.heap.size wb (HRF.out.below HBb.out) HBb.out.size)
        go_wp2_with fail
        refine LD.out.mono ?_
        rintro e w2 (⟨_, rfl, hb2⟩ | ⟨h, _⟩)
        · have HB2 := Lib.hid (nextB hb2 HBb.out)
          have RL := Lib.hid (rload_bad _ bs w.heap.size w2 (HRF.out.below HB2.out) hN)
          clear hb2
          go_wp2_with fail
          refine RL.out.mono ?_
          rintro e w3 ⟨rfl, rfl⟩
          go_wp2
          go_ret
          exact ⟨rfl, HB2.out⟩
        · exact absurd h hN

set_option maxRecDepth 100000 in
theorem lifted (os : Os) (started : os.Started) (H : Type) (enc : TypeId × Value → H) :
    ReturnsInHanded {} Try.checked os 3 .any (Rows.segsPlaysSpec.pre6 enc Try.prog Try.f3 Rows.segsPlaysRow.domain false) (Rows.segsPlaysSpec.post enc Try.prog Try.f3 false true false false) := by
  refine returnsInHanded_of_change (C := Try.checked) own started (by kernel_rfl) Try.func3
    (ChangeSpec.witness6 (enc := enc) (C := Try.checked) false ⟨#[], #[.int .i64 0, .slice none 0 0, .bool false, .slice none 0 0], []⟩ 8 (by kernel_rfl) (by kernel_rfl) (by kernel_rfl) (by kernel_rfl)) ?_
  intro W base args ds gs before hval0 hW hcnd _
  have hval : ∀ (j : Nat) t v, Try.f3.params[j]? = some t → args[j]? = some v → Value.okWide Try.prog W .any base t v := hval0
  have hW' := hW
  obtain ⟨p, q, hA0, hV, rfl, hfz, hnd⟩ := hW
  have hA : DataW.TrodAll enc Try.prog W 0 (fun _ => true) true Try.f3.params.toList args.toList ds p := hA0
  rw [Try.params3] at hA hval
  obtain ⟨v0, vs0, d0, ds0, p0, q0, hargs, rfl, rfl, h0, r0⟩ := trodAll_cons hA
  obtain ⟨v1, vs1, d1, ds1, p1, q1, rfl, rfl, rfl, h1, r1⟩ := trodAll_cons r0
  obtain ⟨v2, vs2, d2, ds2, p2, q2, rfl, rfl, rfl, h2, r2⟩ := trodAll_cons r1
  obtain ⟨v3, vs3, d3, ds3, p3, q3, rfl, rfl, rfl, h3, r3⟩ := trodAll_cons r2
  obtain ⟨rfl, rfl, rfl⟩ := trodAll_nil r3
  obtain rfl : args = #[v0, v1, v2, v3] := by cases args; simp_all
  obtain ⟨rfl, rfl⟩ := trodVars_none hV
  obtain ⟨a0, rfl, rfl, rfl, w0⟩ := open_int Try.underlying3 (hval 0 3 v0 rfl rfl) h0
  obtain ⟨b1, hr1⟩ := open_boolV Try.underlying22 Try.underlying4 (by kernel_rfl) (hval 1 22 v1 rfl rfl) h1
  obtain ⟨ld, rfl, rfl, rfl⟩ := open_bool Try.underlying4 (hval 2 4 v2 rfl rfl) h2
  obtain ⟨l3, hr3, hz3⟩ := open_acts Try.underlying23 Try.underlying36 (by kernel_rfl) (by kernel_rfl) (by decide) Try.underlying3 (by kernel_rfl) (hval 3 23 v3 rfl rfl) h3
  clear hA0 hval0
  refine (walk a0 v1 b1 ld v3 l3 W hr1 hr3 hz3).mono fun e W' ⟨he, hb⟩ => ?_
  subst he
  exact ⟨_, rfl, law_post hW' rfl laid (by kernel_rfl) rfl Try.underlying4 rfl hb⟩

theorem over : Rows.segsPlaysRow.holds Try.pinned (OpenSpec.ofChange Rows.segsPlaysSpec) :=
  OpenClaim.holds_of_wide 3 Try.f3 rfl rfl rfl rfl rfl rfl rfl ⟨rfl, rfl, rfl, rfl, rfl⟩ rfl rfl rfl rfl rfl (by kernel_rfl) Try.func3 (by kernel_rfl)
    (of_decide_eq_true (by kernel_rfl)) (by unfold Func.isWrapper; first | (rw [if_pos (by decide +kernel)]; kernel_rfl) | (rw [if_neg (by decide +kernel)]; exact ⟨rfl, rfl⟩))
    (fun os started H enc _ => lifted os started H enc)

theorem proved : Rows.SegsPlaysSaid :=
  over
end Go.Proofs.Ytjpmlojpcgfcfaa.lawSegsPlays
