/- The law ProcsLeast answers true for any size and any numbers: what is taken is the least that was free; taken and freed again all is as it was. Conditions: none. -/
import Derived.Test.YtlbodandidopfaaPrk
import Derived.Test.YtlbodandidopfaaNum
namespace Go.Proofs.Ytlbodandidopfaa.lawProcsLeast
open Go.ChangeShapes Go.WideShapes Go.ChangeAt Go.RowKit
set_option linter.unusedSimpArgs false
set_option linter.unusedVariables false

theorem own : ownKnob Try.prog.godebug = none := by kernel_rfl
theorem laid : laidOutB Try.prog = true := by kernel_rfl

theorem hb_low (b k : Nat) (h : Pm.hb b k = false) (hb : b < 18446744073709551616) : (bits .and .u64 ((b : Int) / 2 ^ k) 1 == 0) = true := by
  have e : ((b : Int) / 2 ^ k) = ((b / 2 ^ k : Nat) : Int) := by simp
  have hle : b / 2 ^ k ≤ b := Nat.div_le_self _ _
  rw [e, show (1 : Int) = ((1 : Nat) : Int) from rfl, u64_and_nat _ _ (by omega) (by decide), nat_mask1]
  rw [Pm.hb_eq] at h
  have h2 := of_decide_eq_false h
  rw [beq_iff_eq]
  omega
set_option maxRecDepth 100000 in
set_option maxHeartbeats 8000000 in
theorem walk (n : Int) (pv : Value) (zs : List Int) (w : World) (hn0 : (Lit.int .i64 n).wf = true) (hr : RdV w w.heap.size pv (iv .i64 zs)) (hz : ∀ z ∈ zs, (Lit.int .i64 z).wf = true) : Calls Try.prog 12 #[.int .i64 n, pv] w fun e w' => e = .returned (.bool true) ∧ Below w.heap.size w w' := by
  have hrr := hr
  obtain ⟨A, c, rfl, hlc, hcm, hA⟩ := hr
  rw [iv_length] at *
  unfold maxLen at hcm
  have hkn := kprocs_any
  have HK := Lib.hid hkn
  have HR := Lib.hid hrr
  clear hA hkn hrr
  by_cases hlen : zs.length ≤ 100
  case neg =>
    clear hz HR hn0
    by_cases h1 : 1 ≤ n
    · by_cases h2 : n ≤ 64
      · go_enter Try.func12, Try.ntmps12
        go_wp2_with fail
        refine (HK.out _).mono ?_
        rintro e w1 ⟨rfl, hb1⟩
        go_wp2
        go_ret
        exact ⟨rfl, hb1⟩
      · go_enter Try.func12, Try.ntmps12
        go_wp2_with fail
        refine (HK.out _).mono ?_
        rintro e w1 ⟨rfl, hb1⟩
        go_wp2
        go_ret
        exact ⟨rfl, hb1⟩
    · go_enter Try.func12, Try.ntmps12
      go_wp2_with fail
      refine (HK.out _).mono ?_
      rintro e w1 ⟨rfl, hb1⟩
      go_wp2
      go_ret
      exact ⟨rfl, hb1⟩
  by_cases h1 : 1 ≤ n
  case neg =>
    clear hz HR hn0
    go_enter Try.func12, Try.ntmps12
    go_wp2_with fail
    refine (HK.out _).mono ?_
    rintro e w1 ⟨rfl, hb1⟩
    go_wp2
    go_ret
    exact ⟨rfl, hb1⟩
  by_cases h2 : n ≤ 64
  case neg =>
    clear hz HR hn0
    go_enter Try.func12, Try.ntmps12
    go_wp2_with fail
    refine (HK.out _).mono ?_
    rintro e w1 ⟨rfl, hb1⟩
    go_wp2
    go_ret
    exact ⟨rfl, hb1⟩
  obtain ⟨m, rfl⟩ := Int.eq_ofNat_of_zero_le (show 0 ≤ n by omega)
  have m1 : 1 ≤ m := by omega
  have m2 : m ≤ 64 := by omega
  have hp2 : 2 ^ m ≤ 18446744073709551616 := Nat.pow_le_pow_right (n := 2) (by decide) (show m ≤ 64 from m2)
  have HP2 := Lib.hid hp2
  clear hp2
  have hnew := fun w1 => pnew_yes m m1 m2 w1
  have HN := Lib.hid hnew
  have HZ := Lib.hid hz
  clear hnew hz
  go_enter Try.func12, Try.ntmps12
  go_wp2_with fail
  refine (HK.out _).mono ?_
  rintro e w1 ⟨rfl, hb1⟩
  go_wp2_with fail
  refine (HN.out _).mono ?_
  rintro e w2 ⟨rfl, rfl⟩
  have hk : w.heap.size ≤ w1.heap.size := hb1.size
  have hx0 := SBox.new w1 m 0
  have hB0 : Below w.heap.size w (w1.alloc (.cells (S2 m 0) 122)) := hb1.alloc hk _
  generalize w1.heap.size = k at *
  generalize w1.alloc (.cells (S2 m 0) 122) = w2 at *
  go_wp2_with fail
  go_loopw [7] (fun i wr => ∃ (j b : Nat), j ≤ m ∧ i = .int .i64 j ∧ b < 2 ^ m ∧ SBox wr k m b ∧ Below w.heap.size w wr) (fun i _ => m - (intOf i).toNat)
  case atStart => exact ⟨0, 0, by omega, rfl, Nat.two_pow_pos m, hx0, hB0⟩
  case round =>
    obtain ⟨j, b, hj, rfl, hb, hx, hB⟩ := hrel
    have hb64 : b < 18446744073709551616 := Nat.lt_of_lt_of_le hb HP2.out
    have H3 := Lib.hid hb
    clear hb
    by_cases hlt : j < m
    · go_wp2_with fail
      refine (ptake_any wr k m b hx m2 hb64).mono ?_
      rintro e w3 (⟨p, hp, ha, hf, rfl, hs, hb3⟩ | ⟨ha, rfl, rfl⟩)
      · go_wp2
        go_roundw
        case rel => exact ⟨j + 1, Pm.put b p, by omega, by go_num, Pm.put_lt H3.out hp, hs, hB.trans (hb3 _ hk)⟩
        case measure => simp [intOf]; omega
      · clear ha
        go_wp2
        go_roundw
        case rel => exact ⟨j + 1, b, by omega, by go_num, H3.out, hx, hB⟩
        case measure => simp [intOf]; omega
    · obtain rfl : j = m := by omega
      clear hlt hj hx0 hB0
      go_wp2_with fail
      go_loopw [8] (fun i wr => ∃ (q b : Nat), q ≤ zs.length ∧ i = .int .i64 q ∧ b < 2 ^ j ∧ SBox wr k j b ∧ Below w.heap.size w wr) (fun i _ => zs.length - (intOf i).toNat)
      case atStart => exact ⟨0, b, by omega, rfl, H3.out, hx, hB⟩
      case round =>
        clear hb64 H3 hx hB b
        obtain ⟨q, b, hq, rfl, hb, hx, hB⟩ := hrel
        have hb64 : b < 18446744073709551616 := Nat.lt_of_lt_of_le hb HP2.out
        have H3 := Lib.hid hb
        clear hb
        by_cases hlt : q < zs.length
        · have hwf := HZ.out zs[q] (List.getElem_mem hlt)
          have hget : (iv .i64 zs)[q]? = some (.int .i64 zs[q]) := by rw [iv_get, List.getElem?_eq_getElem hlt]; rfl
          obtain ⟨bq, oq, rfl, hbq, hcq⟩ := RdV.get (HR.out.below hB) hget
          generalize zs[q] = z at *
          clear hget
          have hzr : -9223372036854775808 ≤ z ∧ z ≤ 9223372036854775807 := by simpa [Lit.wf, IntKind.min, IntKind.max, IntKind.signed, IntKind.bits] using hwf
          clear hwf
          go_wp2_with fail
          refine (pfree_any _ k j b z hx m2 hb64).mono ?_
          rintro e w3 (⟨p, rfl, hp, ht, rfl, hs, hb3⟩ | ⟨hno, rfl, rfl⟩)
          · have hlt2 : Pm.cut b p < 2 ^ j := Nat.lt_of_le_of_lt (Pm.cut_le b p) H3.out
            have H4 := Lib.hid hlt2
            clear hlt2 ht
            go_wp2
            go_roundw
            case rel => exact ⟨q + 1, Pm.cut b p, by omega, by go_num, H4.out, hs, hB.trans (hb3 _ hk)⟩
            case measure => simp [intOf]; omega
          · clear hno
            go_wp2
            go_roundw
            case rel => exact ⟨q + 1, b, by omega, by go_num, H3.out, hx, hB⟩
            case measure => simp [intOf]; omega
        · obtain rfl : q = zs.length := by omega
          clear hlt hq
          go_wp2_with fail
          refine (pbits_any _ k j b hx).mono ?_
          rintro e w3 ⟨rfl, rfl⟩
          go_wp2_with fail
          refine (ptake_any _ k j b hx m2 hb64).mono ?_
          rintro e w3 (⟨p, hp, ha, hf, rfl, hs, hb3⟩ | ⟨ha, rfl, rfl⟩)
          · have hB3 := hB.trans (hb3 _ hk)
            have hput : Pm.put b p < 18446744073709551616 := Nat.lt_of_lt_of_le (Pm.put_lt H3.out hp) HP2.out
            have hq2 : ∀ q, q < p → Pm.hb (Pm.put b p) q = true := fun q hq => by rw [Pm.hb_put, ha q hq]; rfl
            have hpp : Pm.hb (Pm.put b p) p = true := by rw [Pm.hb_put]; simp
            have hlo := hb_low b p hf hb64
            have hcp := Pm.cut_put (b := b) (p := p) (by omega) hb64 hf
            have hor := or_walk b p hb64 (by omega)
            have h3 := fun q (hq : q < p) => phas_in w3 k j (Pm.put b p) q hs m2 hput (by omega)
            have h3' := fun q (hq : q < p) => by have h := h3 q hq; rw [hq2 q hq] at h; exact h
            have h4 := pbits_any w3 k j (Pm.put b p) hs
            have h5 := pfree_yes w3 k j (Pm.put b p) p hs m2 hput hp hpp
            rw [hcp] at h5
            have G3 := Lib.hid h3'
            have G4 := Lib.hid h4
            have G5 := Lib.hid h5
            have GL := Lib.hid hlo
            have GO := Lib.hid hor
            clear ha hf hq2 hpp hlo hcp hor h3 h3' h4 h5 hb64
            go_wp2_with fail
            go_loop [12] (fun i => ∃ q : Nat, q ≤ p ∧ i = .int .i64 q) (fun i => p - (intOf i).toNat)
            case atStart => exact ⟨0, by omega, rfl⟩
            case round =>
              obtain ⟨q, hq, rfl⟩ := hrel
              by_cases hlt : q < p
              · have h := G3.out q hlt
                have G := Lib.hid h
                clear h
                go_wp2_with fail
                refine G.out.mono ?_
                rintro e w4 ⟨rfl, rfl⟩
                go_wp2
                go_round
                case rel => exact ⟨q + 1, by omega, by go_num⟩
                case measure => simp [intOf]; omega
              · obtain rfl : q = p := by omega
                clear hlt hq
                have hlo := GL.out
                go_wp2_with fail
                refine G4.out.mono ?_
                rintro e w4 ⟨rfl, rfl⟩
                have hor := GO.out
                go_wp2_with fail
                refine G5.out.mono ?_
                rintro e w4 ⟨rfl, hs5, hb5⟩
                have hB5 := hB3.trans (hb5 _ hk)
                go_wp2_with fail
                refine (pbits_any _ _ _ _ hs5).mono ?_
                rintro e w5 ⟨rfl, rfl⟩
                go_wp2
                go_ret
                exact ⟨rfl, hB5⟩
          · have hful := Pm.full H3.out ha
            have hl := plen_any _ k j b hx hb64
            rw [hful, Pm.pop_ones] at hl
            have HL := Lib.hid hl
            clear ha hful hl
            go_wp2_with fail
            refine HL.out.mono ?_
            rintro e w3 ⟨rfl, rfl⟩
            go_wp2_with fail
            refine (pbits_any _ k j b hx).mono ?_
            rintro e w3 ⟨rfl, rfl⟩
            go_wp2
            go_ret
            exact ⟨rfl, hB⟩

set_option maxRecDepth 100000 in
theorem lifted (os : Os) (started : os.Started) (H : Type) (enc : TypeId × Value → H) :
    ReturnsInHanded {} Try.checked os 12 .any (Rows.procsLeastSpec.pre6 enc Try.prog Try.f12 Rows.procsLeastRow.domain false) (Rows.procsLeastSpec.post enc Try.prog Try.f12 false true false false) := by
  refine returnsInHanded_of_change (C := Try.checked) own started (by kernel_rfl) Try.func12
    (ChangeSpec.witness6 (enc := enc) (C := Try.checked) false ⟨#[], #[.int .i64 0, .slice none 0 0], []⟩ 8 (by kernel_rfl) (by kernel_rfl) (by kernel_rfl) (by kernel_rfl)) ?_
  intro W base args ds gs before hval0 hW hcnd _
  have hval : ∀ (j : Nat) t v, Try.f12.params[j]? = some t → args[j]? = some v → Value.okWide Try.prog W .any base t v := hval0
  have hW' := hW
  obtain ⟨p, q, hA0, hV, rfl, hfz, hnd⟩ := hW
  have hA : DataW.TrodAll enc Try.prog W 0 (fun _ => true) true Try.f12.params.toList args.toList ds p := hA0
  rw [Try.params12] at hA hval
  obtain ⟨v0, vs0, d0, ds0, p0, q0, hargs, rfl, rfl, h0, r0⟩ := trodAll_cons hA
  obtain ⟨v1, vs1, d1, ds1, p1, q1, rfl, rfl, rfl, h1, r1⟩ := trodAll_cons r0
  obtain ⟨rfl, rfl, rfl⟩ := trodAll_nil r1
  obtain rfl : args = #[v0, v1] := by cases args; simp_all
  obtain ⟨rfl, rfl⟩ := trodVars_none hV
  obtain ⟨a0, rfl, rfl, rfl, w0⟩ := open_int Try.underlying3 (hval 0 3 v0 rfl rfl) h0
  obtain ⟨zs, hr, hz⟩ := open_nums Try.underlying69 Try.underlying3 (by kernel_rfl) (hval 1 69 v1 rfl rfl) h1
  clear hA0 hval0
  refine (walk a0 v1 zs W w0 hr hz).mono fun e W' ⟨he, hb⟩ => ?_
  subst he
  exact ⟨_, rfl, law_post hW' rfl laid (by kernel_rfl) rfl Try.underlying4 rfl hb⟩

theorem over : Rows.procsLeastRow.holds Try.pinned (OpenSpec.ofChange Rows.procsLeastSpec) :=
  OpenClaim.holds_of_wide 12 Try.f12 rfl rfl rfl rfl rfl rfl rfl ⟨rfl, rfl, rfl, rfl, rfl⟩ rfl rfl rfl rfl rfl (by kernel_rfl) Try.func12 (by kernel_rfl)
    (of_decide_eq_true (by kernel_rfl)) (by unfold Func.isWrapper; first | (rw [if_pos (by decide +kernel)]; kernel_rfl) | (rw [if_neg (by decide +kernel)]; exact ⟨rfl, rfl⟩))
    (fun os started H enc _ => lifted os started H enc)

theorem proved : Rows.ProcsLeastSaid :=
  over
end Go.Proofs.Ytlbodandidopfaa.lawProcsLeast
