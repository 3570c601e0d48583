/- The law ProcsPlays answers true for any size, any numbers taken first and any acts. Conditions: none. -/
import Derived.Test.YtlbodandidopfaaPri
import Derived.Test.YtlbodandidopfaaInm
import Derived.Deep.DeepCutAuto
import Derived.Deep.CutRange
import Derived.Deep.RegionLaw
namespace Go.Proofs.Ytlbodandidopfaa.lawProcsPlays
open Go.ChangeShapes Go.WideShapes Go.ChangeAt Go.RowKit
set_option linter.unusedSimpArgs false
set_option linter.unusedVariables false

theorem own : ownKnob Try.prog.godebug = none := by kernel_rfl
theorem laid : laidOutB Try.prog = true := by kernel_rfl

def callsF (o : Oper) (f : Nat) : Bool := match o.op with
  | .call c => (match c.callee with | .value (.func g) => decide (g = f) | _ => false)
  | _ => false
theorem step_ifc {P : Program} {ops : Array Oper} {o : Oper} {a : Act} {w : World} {K : Act → World → Prop} {Q : Exit → Act → World → Prop} {E : Prop} (f : Nat) (ho : callsF o f = true) (hw : Region.wanted o (yielded ops a.tmps) = true) (h : Oper.wp P o a w K Q) :
    if Region.wanted o (yielded ops a.tmps) = true then Oper.wp P o a w K Q else E := by rw [if_pos hw]; exact h
theorem heap_at (w : World) (o : Obj) (k : Nat) (h : k = w.heap.size) : (w.alloc o).heap[k]? = some o := by subst h; exact heap_alloc_new w o
theorem sr_ne {w : World} {q k g m b n c : Nat} (hx : SBox w q m b) (hr : RBox w k g n c) : k ≠ q ∧ g ≠ q := by
  constructor
  · intro h; subst h; have h1 := hx.symm.trans hr.1; simp at h1
  · intro h; subst h; have h1 := hx.symm.trans hr.2.1; simp at h1
theorem rfree_yes (w : World) (k g m b p : Nat) (hx : RBox w k g m b) (hm : m ≤ 64) (hb : b < 2 ^ 64) (hp : p < m) (ht : Pm.hb b p = true) :
    Calls Try.prog 57 #[.pointer (some ⟨k, 0, none⟩), .int .i64 p] w fun e w' => e = .returned (.int .i64 0) ∧ RTo w k g m (Pm.cut b p) w' := by
  refine (rfree_any w k g m b p hx hm hb).mono ?_
  rintro e w' (⟨p2, h1, h2, h3, h4, h5⟩ | ⟨h1, _⟩)
  · obtain rfl : p2 = p := by omega
    exact ⟨h4, h5⟩
  · exact absurd ⟨p, rfl, hp, ht⟩ h1
theorem rfree_no2 (w : World) (k g m b : Nat) (z : Int) (hx : RBox w k g m b) (hm : m ≤ 64) (hb : b < 2 ^ 64) (hno : ¬ ∃ p : Nat, z = p ∧ p < m ∧ Pm.hb b p = true) :
    Calls Try.prog 57 #[.pointer (some ⟨k, 0, none⟩), .int .i64 z] w fun e w' => e = .returned (.int .i64 2) ∧ w = w' := by
  refine (rfree_any w k g m b z hx hm hb).mono ?_
  rintro e w' (⟨p2, h1, h2, h3, h4, h5⟩ | ⟨_, h1, h2⟩)
  · exact absurd ⟨p2, h1, h2, h3⟩ hno
  · exact ⟨h1, h2⟩
theorem pfree_no2 (w : World) (k m b : Nat) (z : Int) (hx : SBox w k m b) (hm : m ≤ 64) (hb : b < 18446744073709551616) (hno : ¬ ∃ p : Nat, z = p ∧ p < m ∧ Pm.hb b p = true) :
    Calls Try.prog 56 #[.pointer (some ⟨k, 0, none⟩), .int .i64 z] w fun e w' => e = .returned (.int .i64 2) ∧ w = w' := by
  refine (pfree_any w k m b z hx hm hb).mono ?_
  rintro e w' (⟨p2, h1, h2, h3, h4, h5⟩ | ⟨_, h1, h2⟩)
  · exact absurd ⟨p2, h1, h2, h3⟩ hno
  · exact ⟨h1, h2⟩
theorem has_both (m b k g q : Nat) (z : Int) (hm : m ≤ 64) (hb : b < 18446744073709551616) : ∃ h : Bool,
    (∀ W, SBox W q m b → Calls Try.prog 63 #[.pointer (some ⟨q, 0, none⟩), .int .i64 z] W fun e w' => e = .returned (.bool h) ∧ W = w') ∧
    (∀ W, RBox W k g m b → Calls Try.prog 64 #[.pointer (some ⟨k, 0, none⟩), .int .i64 z] W fun e w' => e = .returned (.bool h) ∧ W = w') := by
  by_cases hz : z < 0 ∨ (m : Int) ≤ z
  · exact ⟨false, fun W h => phas_out W q m b z h hm hb hz, fun W h => rhas_out W k g m b z h hm hz⟩
  · obtain ⟨p, rfl⟩ := Int.eq_ofNat_of_zero_le (show 0 ≤ z by omega)
    exact ⟨Pm.hb b p, fun W h => phas_in W q m b p h hm hb (by omega), fun W h => rhas_in W k g m b p h hm (by omega)⟩
set_option maxRecDepth 100000 in
set_option maxHeartbeats 16000000 in
theorem walk {W0 : World} (n : Int) (wn : (Lit.int .i64 n).wf = true) (fv : Value) (zs : List Int) (hrz : RdV W0 W0.heap.size fv (iv .i64 zs)) (hz : ∀ z ∈ zs, (Lit.int .i64 z).wf = true) (of_ : Bool) (av : Value) (ys : List Int) (hry : RdV W0 W0.heap.size av (iv .i64 ys)) (hy : ∀ z ∈ ys, (Lit.int .i64 z).wf = true) (st : Int) (ws : (Lit.int .i64 st).wf = true) (w : World) (hw : W0 = w) :
    Calls Try.prog 11 #[.int .i64 n, fv, .bool of_, av, .int .i64 st] w fun e w' => e = .returned (.bool true) ∧ Below w.heap.size w w' := by
  subst hw
  have hrzz := hrz
  have hryy := hry
  obtain ⟨A, ca, rfl, hla, hma, hA⟩ := hrz
  obtain ⟨Y, cy, rfl, hly, hmy, hY⟩ := hry
  simp only [iv_length] at hla hly hA hY hrzz hryy ⊢
  unfold maxLen at hma hmy
  have hb0 : Below W0.heap.size W0 (W0.alloc (.cells #[.int .i64 st] 3)) := (Below.refl _ _).alloc (Nat.le_refl _) _
  have hk := kprocs_any (W0.alloc (.cells #[.int .i64 st] 3))
  have hbox : (W0.alloc (.cells #[.int .i64 st] 3)).heap[W0.heap.size]? = some (.cells #[.int .i64 st] 3 (0, 0)) := heap_alloc_new W0 _
  have HK := Lib.hid hk
  have HZ := Lib.hid hrzz
  have HY := Lib.hid hryy
  have HB0 := Lib.hid hb0
  have HBX := Lib.hid hbox
  clear hA hY hk hrzz hryy hb0 hbox
  by_cases l1 : ys.length ≤ 400
  case neg =>
    go_enter Try.func11, Try.ntmps11
    go_wp2_with fail
    refine HK.out.mono ?_
    rintro e w1 ⟨rfl, hb1⟩
    have hB1 := nextB hb1 HB0.out
    go_wp2
    go_ret
    exact ⟨rfl, hB1⟩
  by_cases l2 : zs.length ≤ 100
  case neg =>
    go_enter Try.func11, Try.ntmps11
    go_wp2_with fail
    refine HK.out.mono ?_
    rintro e w1 ⟨rfl, hb1⟩
    have hB1 := nextB hb1 HB0.out
    go_wp2
    go_ret
    exact ⟨rfl, hB1⟩
  go_enter Try.func11, Try.ntmps11
  go_wp2_with fail
  refine HK.out.mono ?_
  rintro e w1 ⟨rfl, hb1⟩
  have hs0 : W0.heap.size < (W0.alloc (.cells #[.int .i64 st] 3)).heap.size := by simp
  have HZ' := Lib.hid ((HZ.out.below HB0.out).more (Nat.le_of_lt hs0))
  have HY' := Lib.hid ((HY.out.below HB0.out).more (Nat.le_of_lt hs0))
  clear HZ HY HK
  generalize (W0.alloc (.cells #[.int .i64 st] 3)) = W1 at *
  have hB1 := hb1
  by_cases hn : n < 1 ∨ 64 < n
  · have p1 := fun w => pnew_no n hn w
    have p2 := fun w => rnew_no n hn w
    have p3 := fun w => pof_bad w (.slice A zs.length ca) A zs.length ca rfl (by omega) n hn
    have p4 := fun w => rof_bad w (.slice A zs.length ca) A zs.length ca rfl (by omega) n hn
    have P1 := Lib.hid p1
    have P2 := Lib.hid p2
    have P3 := Lib.hid p3
    have P4 := Lib.hid p4
    clear p1 p2 p3 p4 hn
    go_wp2_with fail
    refine (P1.out _).mono ?_
    rintro e w2 ⟨rfl, rfl⟩
    go_wp2_with fail
    refine (P2.out _).mono ?_
    rintro e w2 ⟨rfl, rfl⟩
    cases of_ with
    | false =>
      go_wp2
      go_ret
      exact ⟨rfl, nextB hB1 HB0.out⟩
    | true =>
      go_wp2_with fail
      refine (P3.out _).mono ?_
      rintro e w2 ⟨rfl, rfl⟩
      go_wp2_with fail
      refine (P4.out _).mono ?_
      rintro e w2 ⟨rfl, rfl⟩
      go_wp2
      go_ret
      exact ⟨rfl, nextB hB1 HB0.out⟩
  · obtain ⟨m, rfl⟩ := Int.eq_ofNat_of_zero_le (show 0 ≤ n by omega)
    have m1 : 1 ≤ m := by omega
    have m2 : m ≤ 64 := by omega
    have p1 := fun w => pnew_yes m m1 m2 w
    have p2 := fun w => rnew_yes m m1 m2 w
    have p3 := fun w (h : Below W1.heap.size W1 w) => pof_any w W1.heap.size (.slice A zs.length ca) zs m m1 m2 h.size (HZ'.out.below h) hz
    have p4 := fun w (h : Below W1.heap.size W1 w) => rof_any w W1.heap.size (.slice A zs.length ca) zs m m1 m2 h.size (HZ'.out.below h) hz
    have P1 := Lib.hid p1
    have P2 := Lib.hid p2
    have P3 := Lib.hid p3
    have P4 := Lib.hid p4
    have HYW := Lib.hid hy
    clear p1 p2 p3 p4 hn hz hy wn
    go_wp2_with fail
    refine (P1.out _).mono ?_
    rintro e w2 ⟨rfl, rfl⟩
    have hk1 := hB1.size
    have hx2 := SBox.new w1 m 0
    have hB2 := hB1.alloc hk1 (.cells (S2 m 0) 122)
    generalize hw2 : w1.alloc (.cells (S2 m 0) 122) = w2 at *
    generalize w1.heap.size = q at *
    have HX2 := Lib.hid hx2
    clear hw2 hx2
    go_wp2_with fail
    refine (P2.out _).mono ?_
    rintro e w3 ⟨k, g, rfl, hr3, hg3, hb3⟩
    have hB3 := nextB hb3 hB2
    have HX3 := Lib.hid (HX2.out.next hb3)
    have HR3 := Lib.hid hr3
    clear hr3
    go_upto_if 44 with (fail)
    go_cut [11, 12, 13, 14] from 35 to 56 (fun s e r f wx => Below W1.heap.size W1 wx ∧ ((s = .pointer none ∧ e = .int .i64 1 ∧ r = .pointer none ∧ f = .int .i64 1) ∨ ∃ q k g b : Nat, s = .pointer (some ⟨q, 0, none⟩) ∧ e = .int .i64 0 ∧ r = .pointer (some ⟨k, 0, none⟩) ∧ f = .int .i64 0 ∧ SBox wx q m b ∧ RBox wx k g m b ∧ Hid (b < 2 ^ m) ∧ W1.heap.size ≤ q ∧ W1.heap.size ≤ g))
    case first =>
      cases of_ with
      | false =>
        go_wp2
        go_meet
        case rel => exact ⟨hB3, Or.inr ⟨q, k, g, 0, rfl, rfl, rfl, rfl, HX3.out, HR3.out, Lib.hid (Nat.two_pow_pos m), hk1, by have := hB2.size; omega⟩⟩
      | true =>
        have o3 := P3.out w3 hB3
        have O3 := Lib.hid o3
        clear o3
        go_wp2_with fail
        refine O3.out.mono ?_
        intro e w4 hP
        obtain ⟨hc, hb4⟩ := hP
        have hB4 := nextB hb4 hB3
        have o4 := P4.out w4 hB4
        have O4 := Lib.hid o4
        clear o4
        rcases hc with ⟨hno, rfl⟩ | ⟨b, q4, hyes, rfl, hx4, hq4, hb2⟩
        · have HNO := Lib.hid hno
          clear hno
          go_wp2_with fail
          refine O4.out.mono ?_
          intro e w5 hP
          obtain ⟨hc5, hb5⟩ := hP
          have hB5 := nextB hb5 hB4
          rcases hc5 with ⟨_, rfl⟩ | ⟨b5, k5, g5, hyes5, _⟩
          · go_wp2
            go_meet
            case rel => exact ⟨hB5, Or.inl ⟨rfl, rfl, rfl, rfl⟩⟩
          · exact absurd (HNO.out.symm.trans hyes5) (by simp)
        · have HYE := Lib.hid hyes
          have HX4 := Lib.hid hx4
          have HB2 := Lib.hid hb2
          clear hyes hx4 hb2
          go_wp2_with fail
          refine O4.out.mono ?_
          intro e w5 hP
          obtain ⟨hc5, hb5⟩ := hP
          have hB5 := nextB hb5 hB4
          rcases hc5 with ⟨hno5, _⟩ | ⟨b5, k5, g5, hyes5, rfl, hr5, hg5, _⟩
          · exact absurd (HYE.out.symm.trans hno5) (by simp)
          · obtain rfl : b5 = b := by rw [HYE.out] at hyes5; injection hyes5 with h; exact h.symm
            have HR5 := Lib.hid hr5
            clear hyes5 hr5
            go_wp2
            go_meet
            case rel => exact ⟨hB5, Or.inr ⟨q4, k5, g5, b5, rfl, rfl, rfl, rfl, HX4.out.next hb5, HR5.out, HB2, by have := hB3.size; omega, by have := hB4.size; omega⟩⟩
    case rest =>
      obtain ⟨hBc, ⟨rfl, rfl, rfl, rfl⟩ | ⟨q, k, g, b, rfl, rfl, rfl, rfl, hx, hr, HL, hq, hg⟩⟩ := hcut
      · go_wp2
        go_ret
        exact ⟨rfl, nextB hBc HB0.out⟩
      · go_wp2_with fail
        go_loopw [15] (fun i wr => ∃ j b : Nat, j ≤ ys.length ∧ i = .int .i64 j ∧ Hid (b < 2 ^ m) ∧ SBox wr q m b ∧ RBox wr k g m b ∧ Below W1.heap.size W1 wr) (fun i _ => ys.length - (intOf i).toNat)
        case atStart => exact ⟨0, b, by omega, rfl, HL, hx, hr, hBc⟩
        case round =>
          clear HL hx hr hBc b
          obtain ⟨j, b, hj, rfl, HL, hx, hr, hbel⟩ := hrel
          have hp2 : 2 ^ m ≤ 18446744073709551616 := Nat.pow_le_pow_right (n := 2) (by decide) (show m ≤ 64 from m2)
          have hb64 : b < 18446744073709551616 := Nat.lt_of_lt_of_le HL.out hp2
          have HP2 := Lib.hid hp2
          clear hp2
          have HX := Lib.hid hx
          have HR := Lib.hid hr
          clear hx hr
          by_cases hlt : j < ys.length
          · have hwf := HYW.out ys[j] (List.getElem_mem hlt)
            obtain ⟨bq, oq, rfl, hbq, hcq⟩ := RdV.get (HY'.out.below hbel) (j := j) (u := .int .i64 ys[j]) (by rw [iv_get, List.getElem?_eq_getElem hlt]; rfl)
            have hyc := fun W (h : Below W1.heap.size W1 W) => (RdV.get (HY'.out.below h) (j := j) (u := .int .i64 ys[j]) (by rw [iv_get, List.getElem?_eq_getElem hlt]; rfl))
            have hzr : -9223372036854775808 ≤ ys[j] ∧ ys[j] ≤ 9223372036854775807 := by simpa [Lit.wf, IntKind.min, IntKind.max, IntKind.signed, IntKind.bits] using hwf
            generalize ys[j] = z at *
            have HYC := Lib.hid hyc
            clear hwf hyc
            go_upto_if 79 with (fail)
            go_cut [] from 75 to 110 (fun wx => ∃ b : Nat, Hid (b < 2 ^ m) ∧ SBox wx q m b ∧ RBox wx k g m b ∧ Below W1.heap.size W1 wx)
            case first =>
              by_cases hz1 : z = -1
              · subst hz1
                have t1 := ptake_any wr q m b HX.out m2 hb64
                have T1 := Lib.hid t1
                clear t1
                go_wp2_with fail
                refine T1.out.mono ?_
                rintro e w5 (⟨p, hp, ha, hf, rfl, hs5, hb5, ho5⟩ | ⟨ha, rfl, rfl⟩)
                · obtain ⟨ne1, ne2⟩ := sr_ne HX.out HR.out
                  have hr5 : RBox w5 k g m b := ⟨(ho5 k ne1).trans HR.out.1, (ho5 g ne2).trans HR.out.2.1, HR.out.2.2⟩
                  have t2 := rtake_any w5 k g m b hr5 m2
                  have T2 := Lib.hid t2
                  have hB5 := hbel.trans (hb5 _ hq)
                  have HA := Lib.hid ha
                  have HF := Lib.hid hf
                  have HS5 := Lib.hid hs5
                  clear t2 ha hf hs5 hb5 ho5 hr5
                  go_wp2_with fail
                  refine T2.out.mono ?_
                  rintro e w6 (⟨p2, hp2, ha2, hf2, rfl, hr6, hb6, ho6⟩ | ⟨ha2, rfl, rfl⟩)
                  · obtain rfl : p2 = p := by
                      rcases Nat.lt_trichotomy p2 p with h | h | h
                      · rw [HA.out p2 h] at hf2; cases hf2
                      · exact h
                      · have := ha2 p h; rw [HF.out] at this; cases this
                    have hs6 : SBox w6 q m (Pm.put b p2) := (ho6 q (fun e => ne2 e.symm)).trans HS5.out
                    have hB6 := hB5.trans (hb6 _ hg)
                    have HS6 := Lib.hid hs6
                    have HR6 := Lib.hid hr6
                    have HPL := Lib.hid (Pm.put_lt HL.out hp)
                    clear ha2 hf2 hr6 hb6 ho6 hs6
                    go_wp2
                    go_meet
                    case rel => exact ⟨_, HPL, HS6.out, HR6.out, hB6⟩
                  · exact absurd (ha2 p hp) (by rw [HF.out]; simp)
                · have t2 := rtake_any wr k g m b HR.out m2
                  have T2 := Lib.hid t2
                  have HA := Lib.hid ha
                  clear t2 ha
                  go_wp2_with fail
                  refine T2.out.mono ?_
                  rintro e w6 (⟨p2, hp2, ha2, hf2, rfl, hr6, hb6, ho6⟩ | ⟨ha2, rfl, rfl⟩)
                  · exact absurd (HA.out p2 hp2) (by rw [hf2]; simp)
                  · clear ha2
                    go_wp2
                    go_meet
                    case rel => exact ⟨b, HL, HX.out, HR.out, hbel⟩
              · have hzn : (z == -1) = false := by rw [beq_eq_false_iff_ne]; exact hz1
                obtain ⟨ne1, ne2⟩ := sr_ne HX.out HR.out
                by_cases hin : ∃ p : Nat, z = p ∧ p < m ∧ Pm.hb b p = true
                · obtain ⟨p, rfl, hpm, htp⟩ := hin
                  have f1 := fun W (h : SBox W q m b) => pfree_yes W q m b p h m2 hb64 hpm htp
                  have f2 := fun W (h : RBox W k g m b) => rfree_yes W k g m b p h m2 hb64 hpm htp
                  have F1 := Lib.hid f1
                  have F2 := Lib.hid f2
                  have hcl : Pm.cut b p < 2 ^ m := Nat.lt_of_le_of_lt (Pm.cut_le b p) HL.out
                  have HCL := Lib.hid hcl
                  clear f1 f2 hcl htp
                  go_wp2
                  first
                    | go_region_law (first
                      | (refine step_ifc 56 (by rfl) (by rfl) ?_; go_simp; go_at_call 56; refine Calls.mono (F1.out _ (by exact HX.out)) ?_; rintro e w5 ⟨rfl, hs5, hb5', ho5'⟩; have hb5 : ∀ B, B ≤ q → Below B wr w5 := fun B h => ((Below.refl B wr).drew).trans (hb5' B h); have hB5 := hbel.trans (hb5 _ hq); have hr5 : RBox w5 k g m b := ⟨(ho5' k ne1).trans HR.out.1, (ho5' g ne2).trans HR.out.2.1, HR.out.2.2⟩; have HS5 := Lib.hid hs5; have HR5 := Lib.hid hr5; have c5 : w5.cell? ⟨bq, oq + j, none⟩ = some (.int .i64 p) := (hB5.cell (p := ⟨bq, oq + j, none⟩) hbq).trans ((hbel.cell (p := ⟨bq, oq + j, none⟩) hbq).symm.trans hcq); clear hs5 hr5 hb5 hb5' ho5')
                      | (refine step_ifc 57 (by rfl) (by rfl) ?_; go_simp; go_at_call 57; refine Calls.mono (F2.out _ (by exact HR5.out)) ?_; rintro e w6 ⟨rfl, hr6, hb6, ho6⟩; have hs6 : SBox w6 q m (Pm.cut b p) := (ho6 q (fun e => ne2 e.symm)).trans HS5.out; have hB6 := hB5.trans (hb6 _ hg); have HS6 := Lib.hid hs6; have HR6 := Lib.hid hr6; clear hs6 hr6 hb6 ho6)
                      | fail)
                    | fail
                  all_goals go_wp2
                  all_goals go_meet
                  all_goals exact ⟨_, HCL, HS6.out, HR6.out, hB6⟩
                · have f1 := fun W (h : SBox W q m b) => pfree_no2 W q m b z h m2 hb64 hin
                  have f2 := fun W (h : RBox W k g m b) => rfree_no2 W k g m b z h m2 hb64 hin
                  have F1 := Lib.hid f1
                  have F2 := Lib.hid f2
                  have hbq2 : bq < wr.heap.size := lt_of_cell hcq
                  clear f1 f2 hin
                  go_wp2
                  refine region_inv [none, none, none, none, none, some (DVal (.int .i64 2)), none, none, none, none, none, some (DVal (.int .i64 2)), none] (by kernel_rfl) (by kernel_rfl) ⟨DVal.stable _, DVal.stable _, trivial⟩ (by kernel_rfl) ?_
                  iterate 4 (refine inv_val (by rfl) (by intro w hg hl; clear hl; go_simp; with_reducible rfl) (fun K hK => ?_); go_simp; refine hK _ ?_; clear hK K)
                  (refine inv_val (by rfl) (by intro w hg hl; have hcw := (hg.cell (p := ⟨bq, oq + j, none⟩) hbq2).trans hcq; clear hl; go_simp; with_reducible rfl) (fun K hK => ?_); go_simp; refine hK _ ?_; clear hK K)
                  refine inv_is (by rfl) (by rfl) (by
                      intro w hg hl
                      clear hl
                      refine gets_sem ?_
                      go_simp
                      refine Calls.mono (F1.out w (HX.out.next hg)) ?_
                      rintro e w5 ⟨rfl, rfl⟩
                      exact ⟨_, rfl, rfl, Grow.refl _⟩) (fun K hK => ?_)
                  go_simp; refine hK _ ?_; clear hK K
                  iterate 4 (refine inv_val (by rfl) (by intro w hg hl; clear hl; go_simp; with_reducible rfl) (fun K hK => ?_); go_simp; refine hK _ ?_; clear hK K)
                  (refine inv_val (by rfl) (by intro w hg hl; have hcw := (hg.cell (p := ⟨bq, oq + j, none⟩) hbq2).trans hcq; clear hl; go_simp; with_reducible rfl) (fun K hK => ?_); go_simp; refine hK _ ?_; clear hK K)
                  refine inv_is (by rfl) (by rfl) (by
                      intro w hg hl
                      clear hl
                      refine gets_sem ?_
                      go_simp
                      refine Calls.mono (F2.out w (HR.out.next hg)) ?_
                      rintro e w5 ⟨rfl, rfl⟩
                      exact ⟨_, rfl, rfl, Grow.refl _⟩) (fun K hK => ?_)
                  go_simp; refine hK _ ?_; clear hK K
                  (refine inv_val (by rfl) (by intro w hg hl; clear hl; go_simp; with_reducible rfl) (fun K hK => ?_); go_simp; refine hK _ ?_; clear hK K)
                  intro w7 hg hh
                  clear hh
                  have HXb := Lib.hid (HX.out.next hg)
                  have HRb := Lib.hid (HR.out.next hg)
                  have hBb := hbel.trans (hg.mono hbel.size)
                  go_wp2
                  go_meet
                  exact ⟨b, HL, HXb.out, HRb.out, hBb⟩
            case rest =>
              obtain ⟨b, HL2, hx2, hr2, hB2⟩ := hcut
              have hb642 : b < 18446744073709551616 := Nat.lt_of_lt_of_le HL2.out HP2.out
              have HX2 := Lib.hid hx2
              have HR2 := Lib.hid hr2
              have HBS := Lib.hid (bits_same m b m2 HL2.out)
              have HPL := Lib.hid (len_pop m b HL2.out)
              obtain ⟨hz, hh1, hh2⟩ := has_both m b k g q z m2 hb642
              have H1 := Lib.hid hh1
              have H2 := Lib.hid hh2
              obtain ⟨bq2, oq2, eq2, hbq3, hcq2⟩ := HYC.out _ hB2
              obtain ⟨rfl, rfl⟩ : bq2 = bq ∧ oq2 = oq := by injection eq2 with h; injection h with h1 h2 _; exact ⟨h1.symm, h2.symm⟩
              have hbq2 : bq2 < _ := lt_of_cell hcq2
              clear hh1 hh2 hx2 hr2 eq2 hbq3 hbel HX HR HL hcq hb64
              go_wp2
              refine region_inv [none, some (DRow (iv .i64 (bitsTo b m))), none, some (DRow (iv .i64 (bitsTo b m))), some (DVal (.bool true)), none, none, none, some (DVal (.int .u64 (b : Nat))), none, some (DVal (.int .u64 (b : Nat))), none, none, none, none, none, none, none, none, some (DVal (.bool hz)), none, none, none, none, none, some (DVal (.bool hz)), none, none, none, none, some (DVal (.int .i64 (Pm.pop b : Nat))), none, some (DRow (iv .i64 (bitsTo b m))), none, none, none] (by kernel_rfl) (by kernel_rfl) ⟨DRow.stable _, DRow.stable _, DVal.stable _, DVal.stable _, DVal.stable _, DVal.stable _, DVal.stable _, DVal.stable _, DRow.stable _, trivial⟩ (by kernel_rfl) ?_
              (refine inv_val (by rfl) (by intro w hg hl; clear hl; go_simp; with_reducible rfl) (fun K hK => ?_); go_simp; refine hK _ ?_; clear hK K)
              refine inv_any (by rfl) (by rfl) (by
                  intro w hg hl
                  clear hl
                  refine gets_sem ?_
                  go_simp
                  refine Calls.mono (plist_any w q m b (HX2.out.next hg) hb642) ?_
                  rintro e w5 ⟨r5, rfl, ho5, hb5⟩
                  rw [HBS.out] at ho5
                  exact ⟨r5, rfl, RdV.own ho5, hb5⟩) (fun v112 hv K hK => ?_)
              clear hv
              go_simp; refine hK _ ?_; clear hK K
              (refine inv_val (by rfl) (by intro w hg hl; clear hl; go_simp; with_reducible rfl) (fun K hK => ?_); go_simp; refine hK _ ?_; clear hK K)
              refine inv_any (by rfl) (by rfl) (by
                  intro w hg hl
                  clear hl
                  refine gets_sem ?_
                  go_simp
                  refine Calls.mono (rlist_any w k g m b (HR2.out.next hg) m2) ?_
                  rintro e w5 ⟨r5, rfl, ho5, hb5⟩
                  exact ⟨r5, rfl, RdV.own ho5, hb5⟩) (fun v114 hv K hK => ?_)
              clear hv
              go_simp; refine hK _ ?_; clear hK K
              refine inv_is (by rfl) (by rfl) (by
                  intro w hg hl
                  have r1 : RdV w w.heap.size v112 (iv .i64 (bitsTo b m)) := hl.at 1 112 (by kernel_rfl) rfl
                  have r2 : RdV w w.heap.size v114 (iv .i64 (bitsTo b m)) := hl.at 3 114 (by kernel_rfl) rfl
                  clear hl
                  refine gets_sem ?_
                  go_simp
                  refine Calls.mono (ints_any w _ _ _ _ r1 r2 (by have := bitsTo_len b m; omega)) ?_
                  rintro e w5 ⟨rfl, nq, rfl⟩
                  exact ⟨_, rfl, rfl, belowN (Below.refl _ _) nq⟩) (fun K hK => ?_)
              go_simp; refine hK _ ?_; clear hK K
              iterate 3 (refine inv_val (by rfl) (by intro w hg hl; clear hl; go_simp; with_reducible rfl) (fun K hK => ?_); go_simp; refine hK _ ?_; clear hK K)
              refine inv_is (by rfl) (by rfl) (by
                  intro w hg hl
                  clear hl
                  refine gets_sem ?_
                  go_simp
                  refine Calls.mono (pbits_any w q m b (HX2.out.next hg)) ?_
                  rintro e w5 ⟨rfl, rfl⟩
                  exact ⟨_, rfl, rfl, Grow.refl _⟩) (fun K hK => ?_)
              go_simp; refine hK _ ?_; clear hK K
              (refine inv_val (by rfl) (by intro w hg hl; clear hl; go_simp; with_reducible rfl) (fun K hK => ?_); go_simp; refine hK _ ?_; clear hK K)
              refine inv_is (by rfl) (by rfl) (by
                  intro w hg hl
                  clear hl
                  refine gets_sem ?_
                  go_simp
                  refine Calls.mono (rbits_any w k g m b (HR2.out.next hg) m2 hb642 HL2.out) ?_
                  rintro e w5 ⟨rfl, rfl⟩
                  exact ⟨_, rfl, rfl, Grow.refl _⟩) (fun K hK => ?_)
              go_simp; refine hK _ ?_; clear hK K
              iterate 7 (refine inv_val (by rfl) (by intro w hg hl; clear hl; go_simp; with_reducible rfl) (fun K hK => ?_); go_simp; refine hK _ ?_; clear hK K)
              (refine inv_val (by rfl) (by intro w hg hl; have hcw := (hg.cell (p := ⟨bq2, oq2 + j, none⟩) hbq2).trans hcq2; clear hl; go_simp; with_reducible rfl) (fun K hK => ?_); go_simp; refine hK _ ?_; clear hK K)
              refine inv_is (by rfl) (by rfl) (by
                  intro w hg hl
                  clear hl
                  refine gets_sem ?_
                  go_simp
                  refine Calls.mono (H1.out w (HX2.out.next hg)) ?_
                  rintro e w5 ⟨rfl, rfl⟩
                  exact ⟨_, rfl, rfl, Grow.refl _⟩) (fun K hK => ?_)
              go_simp; refine hK _ ?_; clear hK K
              iterate 4 (refine inv_val (by rfl) (by intro w hg hl; clear hl; go_simp; with_reducible rfl) (fun K hK => ?_); go_simp; refine hK _ ?_; clear hK K)
              (refine inv_val (by rfl) (by intro w hg hl; have hcw := (hg.cell (p := ⟨bq2, oq2 + j, none⟩) hbq2).trans hcq2; clear hl; go_simp; with_reducible rfl) (fun K hK => ?_); go_simp; refine hK _ ?_; clear hK K)
              refine inv_is (by rfl) (by rfl) (by
                  intro w hg hl
                  clear hl
                  refine gets_sem ?_
                  go_simp
                  refine Calls.mono (H2.out w (HR2.out.next hg)) ?_
                  rintro e w5 ⟨rfl, rfl⟩
                  exact ⟨_, rfl, rfl, Grow.refl _⟩) (fun K hK => ?_)
              go_simp; refine hK _ ?_; clear hK K
              iterate 4 (refine inv_val (by rfl) (by intro w hg hl; clear hl; go_simp; with_reducible rfl) (fun K hK => ?_); go_simp; refine hK _ ?_; clear hK K)
              refine inv_is (by rfl) (by rfl) (by
                  intro w hg hl
                  clear hl
                  refine gets_sem ?_
                  go_simp
                  refine Calls.mono (plen_any w q m b (HX2.out.next hg) hb642) ?_
                  rintro e w5 ⟨rfl, rfl⟩
                  exact ⟨_, rfl, rfl, Grow.refl _⟩) (fun K hK => ?_)
              go_simp; refine hK _ ?_; clear hK K
              (refine inv_val (by rfl) (by intro w hg hl; clear hl; go_simp; with_reducible rfl) (fun K hK => ?_); go_simp; refine hK _ ?_; clear hK K)
              refine inv_any (by rfl) (by rfl) (by
                  intro w hg hl
                  clear hl
                  refine gets_sem ?_
                  go_simp
                  refine Calls.mono (rlist_any w k g m b (HR2.out.next hg) m2) ?_
                  rintro e w5 ⟨r5, rfl, ho5, hb5⟩
                  exact ⟨r5, rfl, RdV.own ho5, hb5⟩) (fun v143 hv K hK => ?_)
              obtain ⟨A4, c4, e4, f1, f2⟩ := DRow.form hv
              rw [iv_length, HPL.out] at e4
              subst e4
              clear hv f1 f2
              go_simp; refine hK _ ?_; clear hK K
              iterate 3 (refine inv_val (by rfl) (by intro w hg hl; clear hl; go_simp; with_reducible rfl) (fun K hK => ?_); go_simp; refine hK _ ?_; clear hK K)
              intro w7 hg hh
              clear hh
              have HXb := Lib.hid (HX2.out.next hg)
              have HRb := Lib.hid (HR2.out.next hg)
              have hBb := hB2.trans (hg.mono hB2.size)
              go_wp2
              go_roundw
              case rel => exact ⟨j + 1, b, by omega, by go_num, HL2, HXb.out, HRb.out, hBb⟩
              case measure => simp [intOf]; omega
          · obtain rfl : j = ys.length := by omega
            have hbx := (hbel.block W0.heap.size hs0).trans HBX.out
            have HBXr := Lib.hid hbx
            clear hbx
            have o1 := rlist_any wr k g m b HR.out m2
            have O1 := Lib.hid o1
            clear o1
            have hlq : q < wr.heap.size := HX.out.lt
            have hsw : W0.heap.size < wr.heap.size := by have := hbel.size; omega
            go_wp2_with fail
            refine O1.out.mono ?_
            rintro e w5 ⟨v5, rfl, ho5, hb5⟩
            have hr5 := RdV.own ho5
            have hB5 := nextB hb5 hbel
            have hx5 := HX.out.next hb5
            have hbx5 := (hb5.block W0.heap.size hsw).trans HBXr.out
            have hs5 := hb5.size
            clear ho5
            obtain ⟨A5, c5, e5, f1, f2, f3⟩ := id hr5
            have hbl := bitsTo_len b m
            rw [iv_length] at e5 f1 f3
            generalize hLL : bitsTo b m = L at *
            subst e5
            have hB6 := hB5.alloc (by omega) (.cells #[.slice A5 L.length c5] 69)
            have hW8 : ∃ W8, ((w5.alloc (.cells #[.slice A5 L.length c5] 69)).alloc (.cells #[.int .i64 0] 3)).alloc (.cells #[.bool true] 4) = W8 := ⟨_, rfl⟩
            obtain ⟨W8, hW8⟩ := hW8
            have hz8 : W8.heap.size = w5.heap.size + 3 := by rw [← hW8]; simp
            have hb58 : Below w5.heap.size w5 W8 := by rw [← hW8]; exact (((Below.refl _ _).alloc (Nat.le_refl _) _).alloc (by simp) _).alloc (by simp; omega) _
            have g0 : W8.heap[w5.heap.size]? = some (.cells #[.slice A5 L.length c5] 69 (0, 0)) := by
              rw [← hW8, Below.heap_alloc _ _ _ (by simp; omega), Below.heap_alloc _ _ _ (by simp)]; exact heap_alloc_new _ _
            have g1 : W8.heap[w5.heap.size + 1]? = some (.cells #[.int .i64 0] 3 (0, 0)) := by
              rw [← hW8, Below.heap_alloc _ _ _ (by simp)]; exact heap_at _ _ _ (by simp)
            have g2 : W8.heap[w5.heap.size + 1 + 1]? = some (.cells #[.bool true] 4 (0, 0)) := by
              rw [← hW8]; exact heap_at _ _ _ (by simp)
            have hC : Cap W8 (w5.heap.size + 1 + 1) (w5.heap.size + 1) w5.heap.size W0.heap.size 0 st L :=
              ⟨g2, g1, ⟨_, g0, w5.heap.size, hr5.below hb58, by omega, by omega⟩, (hb58.block _ (by omega)).trans hbx5, by omega, by omega, by omega, by omega, by omega, by omega⟩
            have hx8 : SBox W8 q m b := hx5.next hb58
            have hst : -9223372036854775808 ≤ st ∧ st ≤ 9223372036854775807 := by simpa [Lit.wf, IntKind.min, IntKind.max, IntKind.signed, IntKind.bits] using ws
            have hE := peach_any W8 q m b _ _ _ _ st hx8 m2 hb64 HL.out (by rw [hLL]; exact hC) hst.1 hst.2
            rw [hLL] at hE
            have hB8 : Below W1.heap.size W1 W8 := hB5.trans (hb58.mono (by omega))
            have HE := Lib.hid hE
            have HW8 := Lib.hid hW8
            have HC := Lib.hid hC
            clear hE hW8 hC g0 g1 g2 hx8 hr5 hx5 hbx5 f3 hB6
            go_wp2_with fail
            rw [HW8.out]
            refine HE.out.mono ?_
            rintro e w9 ⟨rfl, ⟨k1, k2, ⟨u, k3, C, k5, _, _⟩, k4, _⟩, hb9⟩
            have hB9 : Below W1.heap.size W1 w9 := hB8.trans (hb9 _ (by omega) (by omega))
            obtain ⟨A9, c9, e9, y1, y2, y3⟩ := k5
            rw [iv_length] at e9
            subst e9
            have d1 : w9.cell? ⟨w5.heap.size + 1 + 1, 0, none⟩ = some (.bool true) := cell_of_row w9 _ 0 _ _ (0, 0) k1
            have d2 : w9.cell? ⟨w5.heap.size + 1, 0, none⟩ = some (.int .i64 (mostN st L.length : Nat)) := cell_of_row w9 _ 0 _ _ (0, 0) k2
            have d3 : w9.cell? ⟨w5.heap.size, 0, none⟩ = some (.slice A9 L.length c9) := cell_of_row w9 _ 0 _ _ (0, 0) k3
            have d4 : w9.cell? ⟨W0.heap.size, 0, none⟩ = some (.int .i64 st) := cell_of_row w9 _ 0 _ _ (0, 0) k4
            clear k1 k2 k3 k4 y3 hb9
            obtain ⟨hs1, hs2⟩ := hst
            have hLm : L.length ≤ 64 := by omega
            have hmn : (st < 0 → L.length = 0 → mostN st L.length = 0) ∧ (st < 0 → 0 < L.length → mostN st L.length = 1) ∧ (0 ≤ st → (L.length : Int) ≤ st → mostN st L.length = L.length) ∧ (0 ≤ st → st < (L.length : Int) → ((mostN st L.length : Nat) : Int) = st + 1) := by
              unfold mostN
              refine ⟨fun h1 h2 => ?_, fun h1 h2 => ?_, fun h1 h2 => ?_, fun h1 h2 => ?_⟩
              · rw [if_pos h1, if_pos h2]
              · rw [if_pos h1, if_neg (by omega)]
              · rw [if_neg (by omega), if_pos h2]
              · rw [if_neg (by omega), if_neg (by omega)]; omega
            obtain ⟨q1, q2, q3, q4⟩ := hmn
            generalize mostN st L.length = mn at *
            generalize L.length = ln at *
            have HB9 := Lib.hid (nextB hB9 HB0.out)
            by_cases t1 : st < 0
            · by_cases t2 : ln = 0
              · obtain rfl := q1 t1 t2
                subst t2
                clear q1 q2 q3 q4
                go_wp2
                all_goals go_ret
                all_goals exact ⟨rfl, HB9.out⟩
              · obtain rfl := q2 t1 (by omega)
                have t3 : 1 ≤ ln := by omega
                clear q1 q2 q3 q4 t2
                go_wp2
                all_goals go_ret
                all_goals exact ⟨rfl, HB9.out⟩
            · have t3 : 0 ≤ st := by omega
              by_cases t2 : (ln : Int) ≤ st
              · obtain rfl := q3 t3 t2
                clear q1 q2 q3 q4
                go_wp2
                all_goals go_ret
                all_goals exact ⟨rfl, HB9.out⟩
              · have q := q4 t3 (by omega)
                obtain rfl : st = (mn : Int) - 1 := by omega
                clear q1 q2 q3 q4 q
                go_wp2
                all_goals go_ret
                all_goals exact ⟨rfl, HB9.out⟩

set_option maxRecDepth 100000 in
theorem lifted (os : Os) (started : os.Started) (H : Type) (enc : TypeId × Value → H) :
    ReturnsInHanded {} Try.checked os 11 .any (Rows.procsPlaysSpec.pre6 enc Try.prog Try.f11 Rows.procsPlaysRow.domain false) (Rows.procsPlaysSpec.post enc Try.prog Try.f11 false true false false) := by
  refine returnsInHanded_of_change (C := Try.checked) own started (by kernel_rfl) Try.func11
    (ChangeSpec.witness6 (enc := enc) (C := Try.checked) false ⟨#[], #[.int .i64 0, .slice none 0 0, .bool false, .slice none 0 0, .int .i64 0], []⟩ 8 (by kernel_rfl) (by kernel_rfl) (by kernel_rfl) (by kernel_rfl)) ?_
  intro W base args ds gs before hval0 hW hcnd _
  have hval : ∀ (j : Nat) t v, Try.f11.params[j]? = some t → args[j]? = some v → Value.okWide Try.prog W .any base t v := hval0
  have hW' := hW
  obtain ⟨p, q, hA0, hV, rfl, hfz, hnd⟩ := hW
  have hA : DataW.TrodAll enc Try.prog W 0 (fun _ => true) true Try.f11.params.toList args.toList ds p := hA0
  rw [Try.params11] at hA hval
  obtain ⟨v0, vs0, d0, ds0, p0, q0, hargs, rfl, rfl, h0, r0⟩ := trodAll_cons hA
  obtain ⟨v1, vs1, d1, ds1, p1, q1, rfl, rfl, rfl, h1, r1⟩ := trodAll_cons r0
  obtain ⟨v2, vs2, d2, ds2, p2, q2, rfl, rfl, rfl, h2, r2⟩ := trodAll_cons r1
  obtain ⟨v3, vs3, d3, ds3, p3, q3, rfl, rfl, rfl, h3, r3⟩ := trodAll_cons r2
  obtain ⟨v4, vs4, d4, ds4, p4, q4, rfl, rfl, rfl, h4, r4⟩ := trodAll_cons r3
  obtain ⟨rfl, rfl, rfl⟩ := trodAll_nil r4
  obtain rfl : args = #[v0, v1, v2, v3, v4] := by cases args; simp_all
  obtain ⟨rfl, rfl⟩ := trodVars_none hV
  obtain ⟨a0, rfl, rfl, rfl, w0⟩ := open_int Try.underlying3 (hval 0 3 v0 rfl rfl) h0
  obtain ⟨zs, hrz, hz⟩ := open_nums Try.underlying69 Try.underlying3 (by kernel_rfl) (hval 1 69 v1 rfl rfl) h1
  obtain ⟨ofb, rfl, rfl, rfl⟩ := open_bool Try.underlying4 (hval 2 4 v2 rfl rfl) h2
  obtain ⟨ys, hry, hy⟩ := open_nums Try.underlying69 Try.underlying3 (by kernel_rfl) (hval 3 69 v3 rfl rfl) h3
  obtain ⟨a4, rfl, rfl, rfl, w4⟩ := open_int Try.underlying3 (hval 4 3 v4 rfl rfl) h4
  clear hA0 hval0
  refine (walk a0 w0 v1 zs hrz hz ofb v3 ys hry hy a4 w4 W rfl).mono fun e W' ⟨he, hb⟩ => ?_
  subst he
  exact ⟨_, rfl, law_post hW' rfl laid (by kernel_rfl) rfl Try.underlying4 rfl hb⟩

theorem over : Rows.procsPlaysRow.holds Try.pinned (OpenSpec.ofChange Rows.procsPlaysSpec) :=
  OpenClaim.holds_of_wide 11 Try.f11 rfl rfl rfl rfl rfl rfl rfl ⟨rfl, rfl, rfl, rfl, rfl⟩ rfl rfl rfl rfl rfl (by kernel_rfl) Try.func11 (by kernel_rfl)
    (of_decide_eq_true (by kernel_rfl)) (by unfold Func.isWrapper; first | (rw [if_pos (by decide +kernel)]; kernel_rfl) | (rw [if_neg (by decide +kernel)]; exact ⟨rfl, rfl⟩))
    (fun os started H enc _ => lifted os started H enc)

theorem proved : Rows.ProcsPlaysSaid :=
  over
end Go.Proofs.Ytlbodandidopfaa.lawProcsPlays
