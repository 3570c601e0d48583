/- The law FramesTouched answers true for any two numbers: of frames that are not pinned one that was touched behind the others is not given up while there is one that was not. Conditions: none. -/
import Derived.Test.YtdbaidkepngjcaaFrm
namespace Go.Proofs.Ytdbaidkepngjcaa.lawFramesTouched
open Go.ChangeShapes Go.WideShapes Go.ChangeAt Go.RowKit
set_option linter.unusedSimpArgs false
set_option linter.unusedVariables false

theorem own : ownKnob Try.prog.godebug = none := by kernel_rfl
theorem laid : laidOutB Try.prog = true := by kernel_rfl

set_option maxRecDepth 100000 in
set_option maxHeartbeats 8000000 in
theorem walk (a0 : Int) (w0 : (Lit.int .i64 a0).wf = true) (a1 : Int) (w1 : (Lit.int .i64 a1).wf = true) (w : World) :
    Calls Try.prog 5 #[.int .i64 a0, .int .i64 a1] w fun e w' => e = .returned (.bool true) ∧ Below w.heap.size w w' := by
  have HK := Lib.hid (known_any w)
  by_cases hr : a0 < 2 ∨ 64 < a0 ∨ a1 < 0 ∨ a0 ≤ a1
  · go_enter Try.func5, Try.ntmps5
    go_wp2_with fail
    refine HK.out.mono ?_
    rintro e wk ⟨rfl, hFk⟩
    have HFK := Lib.hid hFk
    clear hFk HK
    rcases Classical.em (a0 < 2) with h1 | h1
    · go_wp2
      go_ret
      exact ⟨rfl, Below.of_frm HFK.out⟩
    rcases Classical.em (64 < a0) with h2 | h2
    · go_wp2
      go_ret
      exact ⟨rfl, Below.of_frm HFK.out⟩
    rcases Classical.em (a1 < 0) with h3 | h3
    · go_wp2
      go_ret
      exact ⟨rfl, Below.of_frm HFK.out⟩
    have h4 : a0 ≤ a1 := by omega
    go_wp2
    go_ret
    exact ⟨rfl, Below.of_frm HFK.out⟩
  obtain ⟨n, rfl⟩ : ∃ n : Nat, a0 = n := ⟨a0.toNat, by omega⟩
  obtain ⟨keep, rfl⟩ : ∃ n : Nat, a1 = n := ⟨a1.toNat, by omega⟩
  have hn : 2 ≤ n ∧ n ≤ 64 := by omega
  have hkn : keep < n := by omega
  clear hr w0 w1
  go_enter Try.func5, Try.ntmps5
  go_wp2_with fail
  refine HK.out.mono ?_
  rintro e wk ⟨rfl, hFk⟩
  have HFK := Lib.hid hFk
  have HN := Lib.hid (new_ok n (by omega) wk)
  clear hFk HK
  go_wp2_with fail
  refine HN.out.mono ?_
  rintro e v1 ⟨pb, lb, mb, k1, k2, k3, rfl, hP1, hF1⟩
  have hzk := HFK.out.size
  have HF1 := Lib.hid (HFK.out.trans hF1)
  have hP1 : PBox v1 pb lb mb 0 ⟨fl n (G1 0), 0, 0⟩ := by
    have : List.replicate n Fr.zero = fl n (G1 0) := fl_ext (by simp) fun j hj => by simp [G1, hj]
    rw [← this]
    exact hP1
  have HP1 := Lib.hid hP1
  have hsub : ∀ j, Own pb lb mb j → (fun _ => False) j ∨ w.heap.size ≤ j := fun j e => Or.inr (by rcases e with e | e | e <;> omega)
  have HSUB := Lib.hid hsub
  clear hF1 hP1 HN HFK hsub
  go_wp2
  go_loopw [7] (fun i wx => ∃ q : Nat, q ≤ n ∧ i = .int .i64 q ∧ (∃ mm low, mm ≤ q ∧ PBox wx pb lb mb mm ⟨fl n (G1 q), 0, low⟩) ∧ Frm (fun _ => False) w wx) (fun i wx => n - (intOf i).toNat)
  case atStart => exact ⟨0, by omega, rfl, ⟨0, 0, Nat.le_refl _, HP1.out⟩, HF1.out⟩
  case round =>
    obtain ⟨q, hq, rfl, ⟨mm, low, hmm, hP⟩, hF⟩ := hrel
    by_cases hlt : q < n
    · have HT := Lib.hid (take_next pb lb mb mm (by omega) _ wr hP (q : Nat) (by rw [wf_i64]; omega) (by
        intro x hx hu
        obtain ⟨j, hj, rfl⟩ := fl_mem hx
        unfold G1 at hu ⊢
        by_cases h : j < q
        · rw [if_pos h]
          show ((j : Nat) : Int) ≠ _
          omega
        · rw [if_neg h] at hu
          cases hu) q (by rw [fl_length]; exact hlt) (fun a ha => by rw [fl_at]; unfold G1; rw [if_pos ha]) (by rw [fl_at]; unfold G1; rw [if_neg (Nat.lt_irrefl q)]; rfl))
      have HF := Lib.hid hF
      clear hP hF
      go_wp2_with fail
      refine HT.out.mono ?_
      rintro e w2 ⟨rfl, hP2, hF2⟩
      have hP2 : PBox w2 pb lb mb (mm + 1) ⟨(fl n (G1 q)).set q ⟨(q : Nat), true, true, false, 0⟩, 0, q⟩ := hP2
      rw [G1_set n q hlt] at hP2
      have HP2 := Lib.hid hP2
      have HF2 := Lib.hid (HF.out.sub hF2 HSUB.out)
      clear hP2 hF2 HT
      go_wp2
      go_roundw
      case rel => exact ⟨q + 1, by omega, by go_num, ⟨_, _, by omega, HP2.out⟩, HF2.out⟩
      case measure => simp [intOf]; omega
    · have : q = n := by omega
      subst this
      have HF := Lib.hid hF
      have hall : ∀ x ∈ fl q (G1 q), x.used = true := by
        intro x hx
        obtain ⟨j, hj, rfl⟩ := fl_mem hx
        unfold G1
        rw [if_pos hj]
      have HT := Lib.hid (take_full pb lb mb mm (by omega) _ wr hP 100 (by decide) (by
        intro x hx hu
        obtain ⟨j, hj, rfl⟩ := fl_mem hx
        unfold G1
        rw [if_pos hj]
        show ((j : Nat) : Int) ≠ _
        omega) hall)
      clear hP hF hall
      go_wp2_with fail
      refine HT.out.mono ?_
      rintro e w2 ⟨hc, hF2⟩
      have HF2 := Lib.hid (HF.out.sub hF2 HSUB.out)
      clear hF2 HT HF
      have hl : (fl q (G1 q)).length = q := fl_length _ _
      have hat : ∀ r, r < q → (fl q (G1 q))[r]? = some ⟨(r : Nat), true, true, false, 0⟩ := fun r hr => by rw [fl_get _ _ _ hr]; unfold G1; rw [if_pos hr]
      have hz : cand ⟨fl q (G1 q), 0, low⟩ q = true := by
        rw [cand_at (j := 0) (k := 0) (r := true) (by show (0 + q) % (fl q (G1 q)).length = 0; rw [hl]; simp) (hat 0 (by omega))]
        show (_ || decide ((fl q (G1 q)).length ≤ q)) = true
        rw [hl]
        simp
      have hzn : ∀ r, r < q → cand ⟨fl q (G1 q), 0, low⟩ r = false := fun r hr => by
        rw [cand_at (j := r) (by show (0 + r) % (fl q (G1 q)).length = r; rw [hl, Nat.zero_add, Nat.mod_eq_of_lt hr]) (hat r hr)]
        show (_ || decide ((fl q (G1 q)).length ≤ r)) = false
        rw [hl]
        simp
        omega
      obtain ⟨z, x, hzl, hcd, hno, hx, rfl, hP3⟩ | ⟨hall, _, _⟩ := hc
      case inr =>
        have := hall q (by show q < 2 * (fl q (G1 q)).length; rw [hl]; omega)
        rw [hz] at this
        cases this
      obtain rfl := cand_first hcd hno hz hzn
      have h00 : (0 + z) % z = 0 := by rw [Nat.zero_add, Nat.mod_self]
      have hx : (fl z (G1 z))[(0 + z) % (fl z (G1 z)).length]? = some x := hx
      rw [hl, h00, hat 0 (by omega)] at hx
      injection hx with hx
      subst hx
      have hP3 : PBox w2 pb lb mb (mm + 1) ⟨(passL (fl z (G1 z)) 0 (z + 1)).set ((0 + z) % (fl z (G1 z)).length) ⟨100, true, true, false, 0⟩, (0 + z + 1) % (fl z (G1 z)).length, low⟩ := hP3
      rw [hl] at hP3
      have hS := Fti.start (keep := 0) (low := low) hn.1
      have HP3 := Lib.hid hP3
      have HS := Lib.hid hS
      rw [show ((((({ L := fl z (G1 z), hand := 0, low := low } : Pl).hand + z) % ({ L := fl z (G1 z), hand := 0, low := low } : Pl).L.length : Nat)) : Int) = 0 from by show (((0 + z) % (fl z (G1 z)).length : Nat) : Int) = 0; rw [hl, h00]; rfl]
      rw [show frV (clr ⟨((0 : Nat) : Int), true, true, false, 0⟩) = .agg #[.int .i64 0, .bool true, .bool false, .bool false, .int .i64 0] from rfl]
      clear hcd hno hz hzn hat hl hP3 hS hzl HP1 HF1
      generalize hpd : (⟨(passL (fl z (G1 z)) 0 (z + 1)).set ((0 + z) % z) ⟨100, true, true, false, 0⟩, (0 + z + 1) % z, low⟩ : Pl) = p at HP3 HS
      clear hpd
      go_upto_region 15 with (fail)
      have hF3 : Frm (fun _ => False) w2 (w2.alloc (.cells #[.int .i64 0, .bool true, .bool false, .bool false, .int .i64 0] 38)) := (Frm.refl _ w2).alloc _
      have hP3 := HP3.out.next hF3
      have hF3 := HF2.out.trans hF3
      generalize w2.alloc (.cells #[.int .i64 0, .bool true, .bool false, .bool false, .int .i64 0] 38) = w3 at hP3 hF3 ⊢
      have HQ3 := Lib.hid hP3
      have HF3 := Lib.hid hF3
      clear hP3 hF3 HP3 HF2
      have hkL : keep < p.L.length := by rw [HS.out.len]; exact hkn
      have hku : p.L[keep].used = true := by
        obtain ⟨r, h1, _⟩ := HS.out.all keep hkn
        rw [List.getElem?_eq_getElem hkL] at h1
        injection h1 with h1
        rw [h1]
      have HT := Lib.hid (touch_yes pb lb mb _ p w3 HQ3.out keep false hkL hku)
      have HTT := Lib.hid (fun hk : 0 < keep => HS.out.touch ⟨hk, hkn⟩ hkL)
      clear hku
      rcases Nat.eq_zero_or_pos keep with hk0 | hk0
      · subst hk0
        simp only [Int.ofNat_zero, Int.lt_irrefl, decide_false, Bool.or_false, Bool.false_or, Int.natCast_zero, Int.cast_ofNat_Int]
        have HS4 := Lib.hid (show Fti z 0 1 p from HS.out)
        have HP4 := Lib.hid (show PBox w3 pb lb mb (mm + 1) ⟨p.L, p.hand, p.low⟩ from HQ3.out)
        have HF4 := HF3
        clear HQ3 HF3 HS HT HTT hkL
        go_wp2
        go_loopw [12] (fun i wx => ∃ q : Nat, 1 ≤ q ∧ q ≤ z ∧ i = .int .i64 q ∧ (∃ mm p, mm ≤ z + 1 + q ∧ PBox wx pb lb mb mm p ∧ Fti z 0 q p) ∧ Frm (fun _ => False) w wx) (fun i wx => z - (intOf i).toNat)
        case atStart => exact ⟨1, Nat.le_refl _, by omega, rfl, ⟨_, _, by omega, HP4.out, HS4.out⟩, HF4.out⟩
        case round =>
          clear HP4 HS4 HF4
          obtain ⟨q, hq1, hq, rfl, ⟨mm, p, hmm, hP, hS⟩, hF⟩ := hrel
          have HF := Lib.hid hF
          by_cases hlt : q < z
          · by_cases hqk : q = 0
            · exfalso; omega
              /-subst hqk
              have HP := Lib.hid hP
              have HS := Lib.hid (hS.skip (by omega) hlt)
              clear hP hS hF
              go_wp2
              go_roundw
              case rel => exact ⟨q + 1, by omega, by omega, by go_num, ⟨_, _, by omega, HP.out, HS.out⟩, HF.out⟩
              case measure => simp [intOf]; omega -/
            · obtain ⟨y, hy2, hyn, hcy, hny, hyq, hy1, hy0⟩ := hS.first ⟨hq1, hlt⟩ hqk
              have HT := Lib.hid (take_full pb lb mb mm (by omega) _ wr hP (200 + (q : Nat) : Int) (by rw [wf_i64]; omega) (by
                intro x hx hu
                obtain ⟨j, r, hj, rfl⟩ := hS.get hx
                show tkey 0 q j ≠ _
                unfold tkey
                split
                · omega
                · split <;> omega) (by
                intro x hx
                obtain ⟨j, r, hj, rfl⟩ := hS.get hx
                rfl))
              have HS := Lib.hid hS
              have HCY := Lib.hid hcy
              have HNY := Lib.hid hny
              have HTK := Lib.hid (hS.took ⟨hq1, hlt⟩ hqk y hyq hy0 (fun h => hy1 ⟨h.2, h.1⟩) hyn)
              clear hP hS hF hcy hny hy1 hy0
              go_wp2_with fail
              refine HT.out.mono ?_
              rintro e w5 ⟨hc, hF5⟩
              have HF5 := Lib.hid (HF.out.sub hF5 HSUB.out)
              clear hF5 HT HF
              obtain ⟨y', x, hzl, hcd, hno, hx, rfl, hP5⟩ | ⟨hall, _, _⟩ := hc
              case inr =>
                have h1 := hall y (by have := HS.out.len; omega)
                rw [HCY.out] at h1
                cases h1
              obtain rfl := cand_first hcd hno HCY.out HNY.out
              rw [HS.out.len, hyq] at hx ⊢
              have hx2 : x = ⟨(q : Nat), true, false, false, 0⟩ := by
                obtain ⟨r, h1, _, h3⟩ := HS.out.all q hlt
                rw [hx] at h1
                injection h1 with h1
                rw [h1, h3 (Nat.le_refl _) hqk]
                congr 1
                unfold tkey
                rw [if_neg (by omega), if_neg (by omega)]
              subst hx2
              rw [show frV (clr ⟨((q : Nat) : Int), true, false, false, 0⟩) = .agg #[.int .i64 (q : Nat), .bool true, .bool false, .bool false, .int .i64 0] from rfl]
              have hP6 := hP5.next ((Frm.refl (fun _ => False) w5).alloc (.cells #[.int .i64 (q : Nat), .bool true, .bool false, .bool false, .int .i64 0] 38))
              have HP6 := Lib.hid hP6
              have HF6 := Lib.hid (HF5.out.alloc (.cells #[.int .i64 (q : Nat), .bool true, .bool false, .bool false, .int .i64 0] 38))
              clear hcd hno hx hP5 hP6 HF5 HCY HNY
              go_wp2
              go_roundw
              case rel => exact ⟨q + 1, by omega, by omega, by go_num, ⟨_, _, by omega, HP6.out, HTK.out⟩, HF6.out⟩
              case measure => simp [intOf]; omega
          · have : q = z := by omega
            subst this
            have HFI := Lib.hid (find_no pb lb mb mm p wr hP 0 (by decide) (by
              intro x hx hu
              obtain ⟨j, r, hj, rfl⟩ := hS.get hx
              show tkey 0 q j ≠ _
              unfold tkey
              split
              · omega
              · split <;> omega))
            clear hP hS hF
            go_wp2_with fail
            refine HFI.out.mono ?_
            rintro e w5 ⟨rfl, rfl⟩
            clear HFI
            go_wp2
            go_ret
            exact ⟨rfl, Below.of_frm HF.out⟩
        
      · go_wp2_with fail
        refine HT.out.mono ?_
        rintro e w4 ⟨rfl, hP4, hF4⟩
        have HS4 := Lib.hid (HTT.out hk0)
        have HP4 := Lib.hid hP4
        have HF4 := Lib.hid (HF3.out.sub hF4 (fun j e => HSUB.out j (Or.inr (Or.inl e))))
        clear hP4 hF4 HF3 HS HT HTT HQ3
        go_wp2
        go_loopw [12] (fun i wx => ∃ q : Nat, 1 ≤ q ∧ q ≤ z ∧ i = .int .i64 q ∧ (∃ mm p, mm ≤ z + 1 + q ∧ PBox wx pb lb mb mm p ∧ Fti z keep q p) ∧ Frm (fun _ => False) w wx) (fun i wx => z - (intOf i).toNat)
        case atStart => exact ⟨1, Nat.le_refl _, by omega, rfl, ⟨_, _, by omega, HP4.out, HS4.out⟩, HF4.out⟩
        case round =>
          clear HP4 HS4 HF4
          obtain ⟨q, hq1, hq, rfl, ⟨mm, p, hmm, hP, hS⟩, hF⟩ := hrel
          have HF := Lib.hid hF
          by_cases hlt : q < z
          · by_cases hqk : q = keep
            · subst hqk
              have HP := Lib.hid hP
              have HS := Lib.hid (hS.skip (by omega) hlt)
              clear hP hS hF
              go_wp2
              go_roundw
              case rel => exact ⟨q + 1, by omega, by omega, by go_num, ⟨_, _, by omega, HP.out, HS.out⟩, HF.out⟩
              case measure => simp [intOf]; omega
            · obtain ⟨y, hy2, hyn, hcy, hny, hyq, hy1, hy0⟩ := hS.first ⟨hq1, hlt⟩ hqk
              have HT := Lib.hid (take_full pb lb mb mm (by omega) _ wr hP (200 + (q : Nat) : Int) (by rw [wf_i64]; omega) (by
                intro x hx hu
                obtain ⟨j, r, hj, rfl⟩ := hS.get hx
                show tkey keep q j ≠ _
                unfold tkey
                split
                · omega
                · split <;> omega) (by
                intro x hx
                obtain ⟨j, r, hj, rfl⟩ := hS.get hx
                rfl))
              have HS := Lib.hid hS
              have HCY := Lib.hid hcy
              have HNY := Lib.hid hny
              have HTK := Lib.hid (hS.took ⟨hq1, hlt⟩ hqk y hyq hy0 (fun h => hy1 ⟨h.2, h.1⟩) hyn)
              clear hP hS hF hcy hny hy1 hy0
              go_wp2_with fail
              refine HT.out.mono ?_
              rintro e w5 ⟨hc, hF5⟩
              have HF5 := Lib.hid (HF.out.sub hF5 HSUB.out)
              clear hF5 HT HF
              obtain ⟨y', x, hzl, hcd, hno, hx, rfl, hP5⟩ | ⟨hall, _, _⟩ := hc
              case inr =>
                have h1 := hall y (by have := HS.out.len; omega)
                rw [HCY.out] at h1
                cases h1
              obtain rfl := cand_first hcd hno HCY.out HNY.out
              rw [HS.out.len, hyq] at hx ⊢
              have hx2 : x = ⟨(q : Nat), true, false, false, 0⟩ := by
                obtain ⟨r, h1, _, h3⟩ := HS.out.all q hlt
                rw [hx] at h1
                injection h1 with h1
                rw [h1, h3 (Nat.le_refl _) hqk]
                congr 1
                unfold tkey
                rw [if_neg (by omega), if_neg (by omega)]
              subst hx2
              rw [show frV (clr ⟨((q : Nat) : Int), true, false, false, 0⟩) = .agg #[.int .i64 (q : Nat), .bool true, .bool false, .bool false, .int .i64 0] from rfl]
              have hP6 := hP5.next ((Frm.refl (fun _ => False) w5).alloc (.cells #[.int .i64 (q : Nat), .bool true, .bool false, .bool false, .int .i64 0] 38))
              have HP6 := Lib.hid hP6
              have HF6 := Lib.hid (HF5.out.alloc (.cells #[.int .i64 (q : Nat), .bool true, .bool false, .bool false, .int .i64 0] 38))
              clear hcd hno hx hP5 hP6 HF5 HCY HNY
              go_wp2
              go_roundw
              case rel => exact ⟨q + 1, by omega, by omega, by go_num, ⟨_, _, by omega, HP6.out, HTK.out⟩, HF6.out⟩
              case measure => simp [intOf]; omega
          · have : q = z := by omega
            subst this
            obtain ⟨r, h1, _⟩ := hS.all keep hkn
            have HFI := Lib.hid (find_yes pb lb mb mm p wr hP (keep : Nat) (by rw [wf_i64]; omega) keep _ h1 rfl (by
              show tkey keep q keep = _
              unfold tkey
              rw [if_neg (by omega), if_neg (by omega)]))
            clear hP hS hF h1
            go_wp2_with fail
            refine HFI.out.mono ?_
            rintro e w5 ⟨rfl, rfl⟩
            clear HFI
            go_wp2
            go_ret
            exact ⟨rfl, Below.of_frm HF.out⟩

set_option maxRecDepth 100000 in
theorem lifted (os : Os) (started : os.Started) (H : Type) (enc : TypeId × Value → H) :
    ReturnsInHanded {} Try.checked os 5 .any (Rows.framesTouchedSpec.pre6 enc Try.prog Try.f5 Rows.framesTouchedRow.domain false) (Rows.framesTouchedSpec.post enc Try.prog Try.f5 false true false false) := by
  refine returnsInHanded_of_change (C := Try.checked) own started (by kernel_rfl) Try.func5
    (ChangeSpec.witness6 (enc := enc) (C := Try.checked) false ⟨#[], #[.int .i64 0, .int .i64 0], []⟩ 8 (by kernel_rfl) (by kernel_rfl) (by kernel_rfl) (by kernel_rfl)) ?_
  intro W base args ds gs before hval0 hW hcnd _
  have hval : ∀ (j : Nat) t v, Try.f5.params[j]? = some t → args[j]? = some v → Value.okWide Try.prog W .any base t v := hval0
  have hW' := hW
  obtain ⟨p, q, hA0, hV, rfl, hfz, hnd⟩ := hW
  have hA : DataW.TrodAll enc Try.prog W 0 (fun _ => true) true Try.f5.params.toList args.toList ds p := hA0
  rw [Try.params5] at hA hval
  obtain ⟨v0, vs0, d0, ds0, p0, q0, hargs, rfl, rfl, h0, r0⟩ := trodAll_cons hA
  obtain ⟨v1, vs1, d1, ds1, p1, q1, rfl, rfl, rfl, h1, r1⟩ := trodAll_cons r0
  obtain ⟨rfl, rfl, rfl⟩ := trodAll_nil r1
  obtain rfl : args = #[v0, v1] := by cases args; simp_all
  obtain ⟨rfl, rfl⟩ := trodVars_none hV
  obtain ⟨a0, rfl, rfl, rfl, w0⟩ := open_int Try.underlying3 (hval 0 3 v0 rfl rfl) h0
  obtain ⟨a1, rfl, rfl, rfl, w1⟩ := open_int Try.underlying3 (hval 1 3 v1 rfl rfl) h1
  clear hA0 hval0
  refine (walk a0 w0 a1 w1 W).mono fun e W' ⟨he, hb⟩ => ?_
  subst he
  exact ⟨_, rfl, law_post hW' rfl laid (by kernel_rfl) rfl Try.underlying4 rfl hb⟩

theorem over : Rows.framesTouchedRow.holds Try.pinned (OpenSpec.ofChange Rows.framesTouchedSpec) :=
  OpenClaim.holds_of_wide 5 Try.f5 rfl rfl rfl rfl rfl rfl rfl ⟨rfl, rfl, rfl, rfl, rfl⟩ rfl rfl rfl rfl rfl (by kernel_rfl) Try.func5 (by kernel_rfl)
    (of_decide_eq_true (by kernel_rfl)) (by unfold Func.isWrapper; first | (rw [if_pos (by decide +kernel)]; kernel_rfl) | (rw [if_neg (by decide +kernel)]; exact ⟨rfl, rfl⟩))
    (fun os started H enc _ => lifted os started H enc)

theorem proved : Rows.FramesTouchedSaid :=
  over
end Go.Proofs.Ytdbaidkepngjcaa.lawFramesTouched
