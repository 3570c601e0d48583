/- The law SegsHeld answers true for any size, any segment, any epoch, any acts: a segment that is held is not taken till its epoch is released. Conditions: none. -/
import Derived.Test.YtjpmlojpcgfcfaaSgh
namespace Go.Proofs.Ytjpmlojpcgfcfaa.lawSegsHeld
open Go.ChangeShapes Go.WideShapes Go.ChangeAt Go.RowKit
set_option linter.unusedSimpArgs false
set_option linter.unusedVariables false

theorem own : ownKnob Try.prog.godebug = none := by kernel_rfl
theorem laid : laidOutB Try.prog = true := by kernel_rfl

set_option maxRecDepth 100000 in
set_option maxHeartbeats 8000000 in
theorem walk (n k ep : Int) (v : Value) (l : List (List Int)) (w : World) (hk0 : (Lit.int .i64 k).wf = true) (hr : RdA 4 w w.heap.size v l) (hz : ∀ x ∈ l, x.length = 4 ∧ ∀ z ∈ x, (Lit.int .i64 z).wf = true) :
    Calls Try.prog 5 #[.int .i64 n, .int .i64 k, .int .i64 ep, v] w fun e w' => e = .returned (.bool true) ∧ Below w.heap.size w w' := by
  have hraa := hr
  obtain ⟨A, c, rfl, hc1, hc2, hc3⟩ := hr
  have HK := Lib.hid (known_any w)
  have HR := Lib.hid hraa
  have HZ := Lib.hid hz
  clear hc3 hraa hz
  by_cases c0 : 300 < l.length
  · go_enter Try.func5, Try.ntmps5
    go_wp2_with fail
    refine HK.out.mono ?_
    rintro e w1 ⟨rfl, hb1⟩
    go_wp2
    go_ret
    exact ⟨rfl, hb1⟩
  by_cases c1 : n < 1
  · go_enter Try.func5, Try.ntmps5
    go_wp2_with fail
    refine HK.out.mono ?_
    rintro e w1 ⟨rfl, hb1⟩
    go_wp2
    go_ret
    exact ⟨rfl, hb1⟩
  by_cases c2 : 100 < n
  · go_enter Try.func5, Try.ntmps5
    go_wp2_with fail
    refine HK.out.mono ?_
    rintro e w1 ⟨rfl, hb1⟩
    go_wp2
    go_ret
    exact ⟨rfl, hb1⟩
  by_cases c3 : k < 0
  · go_enter Try.func5, Try.ntmps5
    go_wp2_with fail
    refine HK.out.mono ?_
    rintro e w1 ⟨rfl, hb1⟩
    go_wp2
    go_ret
    exact ⟨rfl, hb1⟩
  by_cases c4 : n ≤ k
  · go_enter Try.func5, Try.ntmps5
    go_wp2_with fail
    refine HK.out.mono ?_
    rintro e w1 ⟨rfl, hb1⟩
    go_wp2
    go_ret
    exact ⟨rfl, hb1⟩
  by_cases c5 : ep < -1099511627776
  · go_enter Try.func5, Try.ntmps5
    go_wp2_with fail
    refine HK.out.mono ?_
    rintro e w1 ⟨rfl, hb1⟩
    go_wp2
    go_ret
    exact ⟨rfl, hb1⟩
  by_cases c6 : 1099511627776 < ep
  · go_enter Try.func5, Try.ntmps5
    go_wp2_with fail
    refine HK.out.mono ?_
    rintro e w1 ⟨rfl, hb1⟩
    go_wp2
    go_ret
    exact ⟨rfl, hb1⟩
  obtain ⟨N, rfl⟩ := Int.eq_ofNat_of_zero_le (show 0 ≤ n by omega)
  obtain ⟨K, rfl⟩ := Int.eq_ofNat_of_zero_le (show 0 ≤ k by omega)
  go_enter Try.func5, Try.ntmps5
  go_wp2_with fail
  refine HK.out.mono ?_
  rintro e w1 ⟨rfl, hb1⟩
  have HN := Lib.hid (new_any N w1)
  have HB1 := Lib.hid hb1
  clear hb1
  go_wp2_with fail
  refine HN.out.mono ?_
  rintro e w2 (⟨h, _⟩ | ⟨_, tb, b, htb, hbb, rfl, hT, hb2⟩)
  · exact absurd ⟨by omega, by omega⟩ h
  have hz1 := HB1.out.size
  have hOO : ∀ j, (j = tb ∨ j = b) → w.heap.size ≤ j := by omega
  have HOO := Lib.hid hOO
  have HB2 := Lib.hid (nextB hb2 HB1.out)
  have HT2 := Lib.hid hT
  clear hT hb2 hOO
  go_wp2
  go_loopw [11] (fun i wr => ∃ j lo : Nat, j ≤ K + 1 ∧ i = .int .i64 j ∧ Tab wr tb b j N (tkN j) lo ∧ Below w.heap.size w wr) (fun i wr => K + 1 - (intOf i).toNat)
  case atStart => exact ⟨0, 0, by omega, rfl, by rw [tkN_zero]; exact HT2.out, HB2.out⟩
  case round =>
    obtain ⟨j, lo, hj, rfl, hT, hB⟩ := hrel
    by_cases hlt : j ≤ K
    · have TK := Lib.hid (take_any tb b j N (tkN j) lo wr hT (by omega))
      have HB := Lib.hid hB
      clear hT hB
      go_wp2_with fail
      refine TK.out.mono ?_
      intro e w3 h3
      obtain ⟨rfl, hT3, hF3⟩ := take_is h3 j (j : Nat) rfl (by omega) (tkN_free j) (fun i hi => by rw [tkN_open j i hi]; omega)
      rw [tkN_next] at hT3
      have HT3 := Lib.hid hT3
      have HB3 := Lib.hid (HB.out.trans (hF3.below HOO.out HB.out.size))
      clear hT3 hF3 h3
      go_wp2
      go_roundw
      case rel => exact ⟨j + 1, j, by omega, by go_num, HT3.out, HB3.out⟩
      case measure => simp [intOf]; omega
    · obtain rfl : j = K + 1 := by omega
      have FL := Lib.hid (fill_any tb b (K + 1) N (tkN (K + 1)) lo wr hT (K : Nat) hk0 (by omega))
      have HB := Lib.hid hB
      clear hT hB
      go_wp2_with fail
      refine FL.out.mono ?_
      intro e w3 h3
      obtain ⟨rfl, hT3, hF3⟩ := turn_is h3 (by omega) (tkN_open (K + 1) K (by omega))
      have HB3 := Lib.hid (HB.out.trans (hF3.below HOO.out HB.out.size))
      have HO := Lib.hid (hold_any tb b (K + 1 + 1) N _ lo w3 hT3 (K : Nat) hk0 ep (by omega))
      clear hT3 hF3 h3
      go_wp2_with fail
      refine HO.out.mono ?_
      intro e w4 h4
      obtain ⟨rfl, hT4, hF4⟩ := turn_is h4 (by omega) (by rw [put_same]; rfl)
      have hH : HTab tb b (K + 3) N (K : Nat) ep w4 := ⟨_, _, lo, Nat.le_refl _, hT4, ⟨by rw [put_same]; rfl, by rw [put_same], fun j => by
        unfold put
        simp only [if_true]
        split <;> (first | (rw [tkN_us]; decide) | (split <;> (rw [tkN_us]; decide)))⟩⟩
      have HH := Lib.hid hH
      have HB4 := Lib.hid (HB3.out.trans (hF4.below HOO.out HB3.out.size))
      clear hT4 hF4 h4 hH
      go_wp2
      go_loopw [12] (fun i wr => ∃ q : Nat, q ≤ l.length ∧ i = .int .i64 q ∧ HTab tb b (K + 3 + q * 102) N (K : Nat) ep wr ∧ Below w.heap.size w wr) (fun i wr => l.length - (intOf i).toNat)
      case atStart => exact ⟨0, by omega, rfl, HH.out.more (by omega), HB4.out⟩
      case round =>
        obtain ⟨q, hq, rfl, hT, hB⟩ := hrel
        by_cases hlt : q < l.length
        · obtain ⟨ab, aoff, a0, a1, a2, a3, rfl, hab, hx, hcell⟩ := HR.out.get4 hlt
          have hz1 := (HZ.out _ (List.getElem_mem hlt)).2
          rw [hx] at hz1
          have hw1 : (Lit.int .i64 a1).wf = true := hz1 a1 (by simp)
          obtain ⟨y0, y1, y2, y3⟩ := hcell wr hB
          have HT := Lib.hid hT
          have HB := Lib.hid hB
          have HC := Lib.hid hcell
          clear hT hB hcell hz1 hx
          by_cases p1 : a0 = 1
          · subst p1
            have TK := Lib.hid (htake HT.out (by omega))
            go_wp2_with fail
            refine TK.out.mono ?_
            rintro e w3 ⟨x, y, rfl, hne, hy, hT3, hF3⟩
            have HT := Lib.hid hT3
            have HB := Lib.hid (HB.out.trans (hF3.below HOO.out HB.out.size))
            clear hT3 hF3
            rcases hy with rfl | rfl
            · have hne := hne (by simp)
              have hst := hstate HT.out ⟨by omega, by omega⟩ (by omega)
              have HST := Lib.hid hst
              clear hst
              go_wp2_with fail
              refine HST.out.mono ?_
              rintro e w4 ⟨rfl, hb4⟩
              have HT4 := Lib.hid (HT.out.next hb4)
              have HB4 := Lib.hid (nextB hb4 HB.out)
              clear hb4
              go_wp2
              go_roundw
              case rel => exact ⟨q + 1, by omega, by go_num, HT4.out.more (by omega), HB4.out⟩
              case measure => simp [intOf]; omega
            · clear hne
              have hst := hstate HT.out ⟨by omega, by omega⟩ (by omega)
              have HST := Lib.hid hst
              clear hst
              go_wp2_with fail
              refine HST.out.mono ?_
              rintro e w4 ⟨rfl, hb4⟩
              have HT4 := Lib.hid (HT.out.next hb4)
              have HB4 := Lib.hid (nextB hb4 HB.out)
              clear hb4
              go_wp2
              go_roundw
              case rel => exact ⟨q + 1, by omega, by go_num, HT4.out.more (by omega), HB4.out⟩
              case measure => simp [intOf]; omega
          by_cases p2 : a0 = 4
          · subst p2
            by_cases p3 : ep ≤ a2
            · go_wp2
              go_roundw
              case rel => exact ⟨q + 1, by omega, by go_num, HT.out.more (by omega), HB.out⟩
              case measure => simp [intOf]; omega
            · have TK := Lib.hid (hrel (N := N) HT.out (by omega) a2 (by omega))
              go_wp2_with fail
              refine TK.out.mono ?_
              rintro e w3 ⟨v, L, rfl, ho, hne, hLN, hT3, hF3⟩
              obtain ⟨A', c', rfl, hd1, hd2, _⟩ := RdV.own ho
              have hil : (intsV L).length = L.length := by simp [intsV]
              rw [hil] at hd1 ho ⊢
              have HO := Lib.hid ho
              have HNE := Lib.hid hne
              have HT := Lib.hid hT3
              have HB := Lib.hid (HB.out.trans (hF3.below HOO.out HB.out.size))
              clear hT3 hF3 ho hne
              go_wp2
              go_loopw [16] (fun i wx => ∃ j : Nat, j ≤ L.length ∧ i = .int .i64 j ∧ w3 = wx) (fun i wx => L.length - (intOf i).toNat)
              case atStart => exact ⟨0, by omega, rfl, rfl⟩
              case round =>
                obtain ⟨j, hj, rfl, rfl⟩ := hrel
                by_cases hjl : j < L.length
                · obtain ⟨b0, off, rfl, hbB, hcell⟩ := (RdV.own HO.out).get (j := j) (u := .int .i64 (L[j] : Nat)) (by unfold intsV; rw [List.getElem?_map, List.getElem?_eq_getElem hjl]; rfl)
                  have hne := HNE.out _ (List.getElem_mem hjl)
                  obtain ⟨r, hr⟩ : ∃ r, L[j] = r := ⟨_, rfl⟩
                  rw [hr] at hcell hne
                  clear hr
                  go_wp2
                  go_roundw
                  case rel => exact ⟨j + 1, by omega, by go_num, trivial⟩
                  case measure => simp [intOf]; omega
                · obtain rfl : j = L.length := by omega
                  have hst := hstate HT.out ⟨by omega, by omega⟩ (by omega)
                  have HST := Lib.hid hst
                  clear hst
                  go_wp2_with fail
                  refine HST.out.mono ?_
                  rintro e w4 ⟨rfl, hb4⟩
                  have HT4 := Lib.hid (HT.out.next hb4)
                  have HB4 := Lib.hid (nextB hb4 HB.out)
                  clear hb4
                  go_wp2
                  go_roundw
                  case rel => exact ⟨q + 1, by omega, by go_num, HT4.out.more (by omega), HB4.out⟩
                  case measure => simp [intOf]; omega
          by_cases p3 : a0 = 2 ∨ a0 = 5
          · have FL := Lib.hid (hfill HT.out (by omega) a1 hw1)
            obtain ⟨hp3, hp4⟩ : (a0 == 1) = false ∧ (a0 == 4) = false := by simp; omega
            rcases p3 with rfl | rfl
            · clear p1 p2 hp3 hp4
              go_wp2_with fail
              refine FL.out.mono ?_
              rintro e w3 ⟨x, rfl, hT3, hF3⟩
              have hB3 := HB.out.trans (hF3.below HOO.out HB.out.size)
              obtain ⟨z0, z1, z2, z3⟩ := HC.out w3.drew hB3.drew
              have AD := Lib.hid (hadd hT3.drew (by omega) a1 (a3.tmod 100) hw1)
              have HB := Lib.hid hB3
              clear hT3 hF3 hB3 HT
              go_wp2_with fail
              go_region_law (first
                | (refine step_wanted _ rfl ?_; go_simp; go_at_call 24; refine Calls.mono AD.out ?_; rintro e w4 ⟨x4, rfl, hT4, hF4⟩)
                | fail)
              all_goals
                have HT := Lib.hid hT4
                have HB := Lib.hid (HB.out.drew.trans (hF4.below HOO.out HB.out.size))
                clear hT4 hF4
                have hst := hstate HT.out ⟨by omega, by omega⟩ (by omega)
                have HST := Lib.hid hst
                clear hst
                go_wp2_with fail
                refine HST.out.mono ?_
                rintro e w4 ⟨rfl, hb4⟩
                have HT4 := Lib.hid (HT.out.next hb4)
                have HB4 := Lib.hid (nextB hb4 HB.out)
                clear hb4
                go_wp2
                go_roundw
                case rel => exact ⟨q + 1, by omega, by go_num, HT4.out.more (by omega), HB4.out⟩
                case measure => simp [intOf]; omega
            · clear p1 p2 hp3 hp4
              go_wp2_with fail
              refine FL.out.mono ?_
              rintro e w3 ⟨x, rfl, hT3, hF3⟩
              have hB3 := HB.out.trans (hF3.below HOO.out HB.out.size)
              obtain ⟨z0, z1, z2, z3⟩ := HC.out w3.drew hB3.drew
              have AD := Lib.hid (hadd hT3.drew (by omega) a1 (a3.tmod 100) hw1)
              have HB := Lib.hid hB3
              clear hT3 hF3 hB3 HT
              go_wp2_with fail
              go_region_law (first
                | (refine step_wanted _ rfl ?_; go_simp; go_at_call 24; refine Calls.mono AD.out ?_; rintro e w4 ⟨x4, rfl, hT4, hF4⟩)
                | fail)
              all_goals
                have HT := Lib.hid hT4
                have HB := Lib.hid (HB.out.drew.trans (hF4.below HOO.out HB.out.size))
                clear hT4 hF4
                have hst := hstate HT.out ⟨by omega, by omega⟩ (by omega)
                have HST := Lib.hid hst
                clear hst
                go_wp2_with fail
                refine HST.out.mono ?_
                rintro e w4 ⟨rfl, hb4⟩
                have HT4 := Lib.hid (HT.out.next hb4)
                have HB4 := Lib.hid (nextB hb4 HB.out)
                clear hb4
                go_wp2
                go_roundw
                case rel => exact ⟨q + 1, by omega, by go_num, HT4.out.more (by omega), HB4.out⟩
                case measure => simp [intOf]; omega
          obtain ⟨p4, p5⟩ : a0 ≠ 2 ∧ a0 ≠ 5 := by omega
          have t1 : (a0 == 1) = false := by rw [beq_eq_false_iff_ne]; exact p1
          have t4 : (a0 == 4) = false := by rw [beq_eq_false_iff_ne]; exact p2
          have t2 : (a0 == 2) = false := by rw [beq_eq_false_iff_ne]; exact p4
          have t5 : (a0 == 5) = false := by rw [beq_eq_false_iff_ne]; exact p5
          clear p1 p2 p3 p4 p5
          have hst := hstate HT.out ⟨by omega, by omega⟩ (by omega)
          have HST := Lib.hid hst
          clear hst
          go_wp2_with fail
          refine HST.out.mono ?_
          rintro e w4 ⟨rfl, hb4⟩
          have HT4 := Lib.hid (HT.out.next hb4)
          have HB4 := Lib.hid (nextB hb4 HB.out)
          clear hb4
          go_wp2
          go_roundw
          case rel => exact ⟨q + 1, by omega, by go_num, HT4.out.more (by omega), HB4.out⟩
          case measure => simp [intOf]; omega
        · obtain rfl : q = l.length := by omega
          obtain ⟨m, f, lo, hm, hT, hH⟩ := hT
          have RL := Lib.hid (release_any tb b m N f lo wr hT ep (by omega))
          have HB := Lib.hid hB
          have hmem : K ∈ relN f ep N := relN_mem.2 ⟨by omega, hH.st, by rw [hH.ep]; exact Int.le_refl _⟩
          clear hT hB hH
          go_wp2_with fail
          refine RL.out.mono ?_
          rintro e w3 ⟨v, m', lo', rfl, ho, hm', hT3, hF3⟩
          have hLN := relN_len f ep N
          generalize relN f ep N = L at ho hT3 hmem hLN
          obtain ⟨A', c', rfl, hd1, hd2, _⟩ := RdV.own ho
          have hil : (intsV L).length = L.length := by simp [intsV]
          rw [hil] at hd1 ho ⊢
          have hrp : relP f L (K : Nat) = ⟨0, 0, 0⟩ := by unfold relP; rw [if_pos ⟨by omega, by simpa using hmem⟩]
          have hst := state_any tb b m' N _ lo' w3 hT3 (K : Nat) hk0
          rw [if_pos ⟨by omega, by omega⟩, hrp] at hst
          have hus := fun w4 hb4 => used_any tb b m' N _ lo' w4 (hT3.next hb4) (K : Nat) hk0
          rw [hrp] at hus
          have HST := Lib.hid hst
          have HUS := Lib.hid hus
          have HO := Lib.hid ho
          have HMEM := Lib.hid hmem
          have HB := Lib.hid (HB.out.trans (hF3.below HOO.out HB.out.size))
          clear hT3 hF3 ho hmem hrp hst hus
          go_wp2
          go_loopw [18] (fun i wx => ∃ j : Nat, j ≤ L.length ∧ i = .int .i64 j ∧ w3 = wx ∧ ∀ r, r < j → L[r]? ≠ some K) (fun i wx => L.length - (intOf i).toNat)
          case atStart => exact ⟨0, by omega, rfl, rfl, fun r hr => absurd hr (by omega)⟩
          case round =>
            obtain ⟨j, hj, rfl, rfl, hbelow⟩ := hrel
            by_cases hjl : j < L.length
            · obtain ⟨b0, off, rfl, hbB, hcell⟩ := (RdV.own HO.out).get (j := j) (u := .int .i64 (L[j] : Nat)) (by unfold intsV; rw [List.getElem?_map, List.getElem?_eq_getElem hjl]; rfl)
              have HBL := Lib.hid hbelow
              have hLj : L[j]? = some L[j] := List.getElem?_eq_getElem hjl
              have HLJ := Lib.hid hLj
              clear hbelow hLj
              obtain ⟨r, hr⟩ : ∃ r, L[j] = r := ⟨_, rfl⟩
              rw [hr] at hcell HLJ
              clear hr
              by_cases he : r = K
              · subst he
                clear HLJ HBL
                go_wp2_with fail
                refine HST.out.mono ?_
                rintro e w4 ⟨rfl, hb4⟩
                have HU := Lib.hid (HUS.out w4 hb4)
                have HB4 := Lib.hid (nextB hb4 HB.out)
                clear hb4
                go_wp2_with fail
                refine HU.out.mono ?_
                rintro e w5 ⟨rfl, hb5⟩
                have HB5 := Lib.hid (nextB hb5 HB4.out)
                clear hb5
                go_wp2
                go_ret
                exact ⟨rfl, HB5.out⟩
              · have t0 : ((r : Int) == (K : Int)) = false := by rw [beq_eq_false_iff_ne]; omega
                have HE := Lib.hid he
                clear he
                go_wp2
                go_roundw
                case rel => exact ⟨j + 1, by omega, by go_num, trivial, fun i hi => by
                  rcases Nat.lt_or_ge i j with h | h
                  · exact HBL.out i h
                  · obtain rfl : i = j := by omega
                    rw [HLJ.out]; simpa using HE.out⟩
                case measure => simp [intOf]; omega
            · obtain rfl : j = L.length := by omega
              obtain ⟨i, hi, hiK⟩ := List.getElem_of_mem HMEM.out
              exact absurd (by rw [List.getElem?_eq_getElem hi, hiK]) (hbelow i hi)

set_option maxRecDepth 100000 in
theorem lifted (os : Os) (started : os.Started) (H : Type) (enc : TypeId × Value → H) :
    ReturnsInHanded {} Try.checked os 5 .any (Rows.segsHeldSpec.pre6 enc Try.prog Try.f5 Rows.segsHeldRow.domain false) (Rows.segsHeldSpec.post enc Try.prog Try.f5 false true false false) := by
  refine returnsInHanded_of_change (C := Try.checked) own started (by kernel_rfl) Try.func5
    (ChangeSpec.witness6 (enc := enc) (C := Try.checked) false ⟨#[], #[.int .i64 0, .int .i64 0, .int .i64 0, .slice none 0 0], []⟩ 8 (by kernel_rfl) (by kernel_rfl) (by kernel_rfl) (by kernel_rfl)) ?_
  intro W base args ds gs before hval0 hW hcnd _
  have hval : ∀ (j : Nat) t v, Try.f5.params[j]? = some t → args[j]? = some v → Value.okWide Try.prog W .any base t v := hval0
  have hW' := hW
  obtain ⟨p, q, hA0, hV, rfl, hfz, hnd⟩ := hW
  have hA : DataW.TrodAll enc Try.prog W 0 (fun _ => true) true Try.f5.params.toList args.toList ds p := hA0
  rw [Try.params5] at hA hval
  obtain ⟨v0, vs0, d0, ds0, p0, q0, hargs, rfl, rfl, h0, r0⟩ := trodAll_cons hA
  obtain ⟨v1, vs1, d1, ds1, p1, q1, rfl, rfl, rfl, h1, r1⟩ := trodAll_cons r0
  obtain ⟨v2, vs2, d2, ds2, p2, q2, rfl, rfl, rfl, h2, r2⟩ := trodAll_cons r1
  obtain ⟨v3, vs3, d3, ds3, p3, q3, rfl, rfl, rfl, h3, r3⟩ := trodAll_cons r2
  obtain ⟨rfl, rfl, rfl⟩ := trodAll_nil r3
  obtain rfl : args = #[v0, v1, v2, v3] := by cases args; simp_all
  obtain ⟨rfl, rfl⟩ := trodVars_none hV
  obtain ⟨a0, rfl, rfl, rfl, w0⟩ := open_int Try.underlying3 (hval 0 3 v0 rfl rfl) h0
  obtain ⟨a1, rfl, rfl, rfl, w1⟩ := open_int Try.underlying3 (hval 1 3 v1 rfl rfl) h1
  obtain ⟨a2, rfl, rfl, rfl, w2⟩ := open_int Try.underlying3 (hval 2 3 v2 rfl rfl) h2
  obtain ⟨l3, hr3, hz3⟩ := open_acts Try.underlying23 Try.underlying36 (by kernel_rfl) (by kernel_rfl) (by decide) Try.underlying3 (by kernel_rfl) (hval 3 23 v3 rfl rfl) h3
  clear hA0 hval0
  refine (walk a0 a1 a2 v3 l3 W w1 hr3 hz3).mono fun e W' ⟨he, hb⟩ => ?_
  subst he
  exact ⟨_, rfl, law_post hW' rfl laid (by kernel_rfl) rfl Try.underlying4 rfl hb⟩

theorem over : Rows.segsHeldRow.holds Try.pinned (OpenSpec.ofChange Rows.segsHeldSpec) :=
  OpenClaim.holds_of_wide 5 Try.f5 rfl rfl rfl rfl rfl rfl rfl ⟨rfl, rfl, rfl, rfl, rfl⟩ rfl rfl rfl rfl rfl (by kernel_rfl) Try.func5 (by kernel_rfl)
    (of_decide_eq_true (by kernel_rfl)) (by unfold Func.isWrapper; first | (rw [if_pos (by decide +kernel)]; kernel_rfl) | (rw [if_neg (by decide +kernel)]; exact ⟨rfl, rfl⟩))
    (fun os started H enc _ => lifted os started H enc)

theorem proved : Rows.SegsHeldSaid :=
  over
end Go.Proofs.Ytjpmlojpcgfcfaa.lawSegsHeld
