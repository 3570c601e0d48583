/- The document's Unpack where there is no room, for a most below 0. Conditions: the row is shorter than 2^32. -/
import Derived.Test.YtkgmelhigjjbbaaLzr
namespace Go.Proofs.Ytkgmelhigjjbbaa
open Go.ChangeShapes Go.WideShapes Go.ChangeAt Go.RowKit
set_option linter.unusedSimpArgs false
set_option linter.unusedVariables false
set_option maxRecDepth 100000 in
set_option maxHeartbeats 4000000 in
theorem rtoksN (b off c : Nat) (most : Int) (hm : most < 0) (t : List UInt8) (hx : t.length < 4294967296) (w : World) (hr : RdV w w.heap.size (.slice (some ⟨b, off, none⟩) (t.length + 1) (c + 1)) (bv (1 :: t))) (hbB : b < w.heap.size) (k0 : w.cell? ⟨b, off, none⟩ = some (.int .u8 1)) (hc1 : t.length ≤ c) (hc2 : c + 1 ≤ 9223372036854775807) (hc : c ≠ 0) :
    Calls Try.prog 10 #[.slice (some ⟨b, off, none⟩) (t.length + 1) (c + 1), .int .i64 most] w (RUnP 0 (1 :: t) w) := by
  have hry := hr.part 1 t.length (by rw [bv_length, List.length_cons]; omega)
  rw [show ((bv (1 :: t)).drop 1).take t.length = bv t from by simp [bv, List.take_of_length_le], Nat.add_sub_cancel] at hry
  have hstop : ∀ ev : Nat, Lz.step 0 ⟨t, [], 0⟩ = .stop ev → ev ≠ 0 → ∀ e wz, e = Ending.returned (.tuple #[.slice none 0 0, .int .i64 0, .int .i64 (ev : Nat)]) → Below w.heap.size w wz → RUnP 0 (1 :: t) w e wz := fun ev h h0 e wz h1 h2 => ⟨[], 0, ev, _, .toks (.stop h), by rw [if_neg h0]; exact h1, by rw [if_neg h0]; exact RdV.nil_ _ _, by simp, by simp, h2⟩
  have hend : t = [] → RUnP 0 (1 :: t) w (.returned (.tuple #[.slice none 0 0, .int .i64 0, .int .i64 0])) w := fun h => ⟨[], 0, 0, _, .toks (s := ⟨[], [], 0⟩) (by subst h; exact .stop (by unfold Lz.step; rw [if_pos rfl])), by rfl, RdV.nil_ _ _, by simp, by simp, Below.refl _ _⟩
  have HST := Lib.hid hstop
  have HEND := Lib.hid hend
  have t0 : ((t.length : Int) + 1 == 0) = false := by rw [beq_eq_false_iff_ne]; omega
  clear hr hstop hend
  go_enter Try.func10, Try.ntmps10
  go_wp2_with fail
  go_loopw [7, 8, 9] (fun u i r wr => u = .slice none 0 0 ∧ i = .int .i64 0 ∧ r = .slice (some ⟨b, off + 1, none⟩) t.length c ∧ w = wr) (fun _ _ r _ => lenV r)
  case atStart => exact ⟨rfl, rfl, by rfl, rfl⟩
  case round =>
    obtain ⟨rfl, rfl, rfl, rfl⟩ := hrel
    by_cases hy0 : t = []
    · subst hy0
      go_wp2
      go_ret3
      exact HEND.out (by trivial)
    have hyl : 0 < t.length := by rcases t with _ | ⟨a, t⟩; exact absurd rfl hy0; simp
    have hv := rreadvar_any (.slice (some ⟨b, off + 1, none⟩) t.length c) t (by omega) w w.heap.size hry
    by_cases hE : Pu.rvE t = 0
    rotate_left
    · have hs : Lz.step 0 ⟨t, [], 0⟩ = .stop (Pu.rvE t) := by unfold Lz.step; rw [if_neg hy0, if_pos hE]
      have t1 : ((Pu.rvE t : Int) == 0) = false := by rw [beq_eq_false_iff_ne]; omega
      have HS := Lib.hid hs
      have HV := Lib.hid hv
      have HE0 := Lib.hid hE
      clear hs hv hy0 hE
      generalize Pu.rvE t = ev at *
      go_wp2_with fail
      refine HV.out.mono ?_
      rintro e w1 ⟨rfl, rfl⟩
      go_wp2
      go_ret3
      exact HST.out _ HS.out HE0.out _ _ (by rfl) (Below.refl _ _)
    have hNp := rvN_pos hE
    have hNl := rvN_le t
    have hVl := rvV_lt t
    rw [hE] at hv
    have hyd : (t.drop (Pu.rvN t)).length = t.length - Pu.rvN t := List.length_drop ..
    have hlet : ∀ k q : Nat, Pu.rvV t / 2 = k → Pu.rvV t % 2 = q → Lz.step 0 ⟨t, [], 0⟩ = (if k = 0 then .stop 22 else if q = 1 then
        (if Pu.rvE (t.drop (Pu.rvN t)) ≠ 0 then .stop (Pu.rvE (t.drop (Pu.rvN t))) else .stop 22)
      else .stop 24) := by
      intro k q h1 h2
      subst h1 h2
      unfold Lz.step
      dsimp only
      rw [if_neg hy0, if_neg (by rw [hE]; simp)]
      by_cases hk : Pu.rvV t / 2 = 0
      · rw [if_pos hk, if_pos hk]
      · rw [if_neg hk, if_neg hk]
        by_cases hq : Pu.rvV t % 2 = 1
        · rw [if_pos hq, if_pos hq]
          by_cases hz : Pu.rvE (t.drop (Pu.rvN t)) ≠ 0
          · rw [if_pos hz, if_pos hz]
          · rw [if_neg hz, if_neg hz, if_pos (by simp; omega)]
        · rw [if_neg hq, if_neg hq, if_pos (by simp; omega)]
    have HV := Lib.hid hv
    have HLET := Lib.hid hlet
    clear hv hE hy0 hlet
    generalize Pu.rvV t = V at *
    generalize Pu.rvN t = N at *
    generalize hz : t.drop N = z at *
    have hbz : (bv t).drop N = bv z := by rw [← hz]; simp [bv]
    have HBZ := Lib.hid hbz
    clear hz hbz
    obtain ⟨k, hk⟩ : ∃ k, V / 2 = k := ⟨_, rfl⟩
    have HK := Lib.hid hk
    have hkl : (k : Int) ≤ 9223372036854775807 := by omega
    obtain ⟨q, hqq⟩ : ∃ q, V % 2 = q := ⟨_, rfl⟩
    have hq : q = 1 ∨ q = 0 := by omega
    have hmod : (V : Int) % 2 = (q : Int) := by omega
    have HQ := Lib.hid hqq
    have hdiv : (V : Int) / 2 = (k : Int) := by omega
    clear hk hqq
    by_cases hcN : N = c
    · obtain rfl : N = c := hcN
      have hz0 : z = [] := List.eq_nil_of_length_eq_zero (by omega)
      have hE2 : Pu.rvE z = 21 := by rw [hz0]; rfl
      have hv2 := rreadvar_any (.slice (some ⟨b, off + 1, none⟩) 0 0) z (by omega) w w.heap.size (by rw [hz0]; exact RdV.zeroC w _ _ 0 (by omega))
      rw [hE2] at hv2
      have HV2 := Lib.hid hv2
      have HE2 := Lib.hid hE2
      clear hv2 hE2 hz0 hyd
      by_cases hk0 : k = 0
      · have HS := Lib.hid ((HLET.out k q HK.out HQ.out).trans (if_pos hk0))
        have t2 : ((k : Int) == 0) = true := by rw [beq_iff_eq]; omega
        clear hk0 hq hkl
        go_wp2_with fail
        refine HV.out.mono ?_
        rintro e w1 ⟨rfl, rfl⟩
        go_wp2
        all_goals go_ret3
        all_goals exact HST.out _ HS.out (by omega) _ _ (by rfl) (Below.refl _ _)
      have t2 : ((k : Int) == 0) = false := by rw [beq_eq_false_iff_ne]; omega

      rcases hq with rfl | rfl
      · have HS := Lib.hid ((HLET.out k 1 HK.out HQ.out).trans ((if_neg hk0).trans ((if_pos rfl).trans ((if_pos (by rw [HE2.out]; simp)).trans (by rw [HE2.out])))))
        clear hk0
        go_wp2_with fail
        refine HV.out.mono ?_
        rintro e w1 ⟨rfl, rfl⟩
        go_wp2_with fail
        refine HV2.out.mono ?_
        rintro e w1 ⟨rfl, rfl⟩
        go_wp2
        all_goals go_ret3
        all_goals exact HST.out _ HS.out (by omega) _ _ (by rfl) (Below.refl _ _)
      · have HS := Lib.hid ((HLET.out k 0 HK.out HQ.out).trans ((if_neg hk0).trans (if_neg (by simp))))
        have hkp : (0 : Int) < (k : Int) := by omega
        clear hk0
        go_wp2_with fail
        refine HV.out.mono ?_
        rintro e w1 ⟨rfl, rfl⟩
        go_wp2
        all_goals go_ret3
        all_goals exact HST.out _ HS.out (by omega) _ _ (by rfl) (Below.refl _ _)
    · have hu := hry.part N (t.length - N) (by rw [bv_length]; omega)
      rw [HBZ.out, List.take_of_length_le (by rw [bv_length]; omega)] at hu
      have hv2 := rreadvar_any _ z (by omega) w w.heap.size hu
      have HU := Lib.hid hu
      have HYD := Lib.hid hyd
      clear hu hyd
      by_cases hk0 : k = 0
      · have HS := Lib.hid ((HLET.out k q HK.out HQ.out).trans (if_pos hk0))
        have t2 : ((k : Int) == 0) = true := by rw [beq_iff_eq]; omega
        clear hk0 hq hkl
        go_wp2_with fail
        refine HV.out.mono ?_
        rintro e w1 ⟨rfl, rfl⟩
        go_wp2
        all_goals go_ret3
        all_goals exact HST.out _ HS.out (by omega) _ _ (by rfl) (Below.refl _ _)
      have t2 : ((k : Int) == 0) = false := by rw [beq_eq_false_iff_ne]; omega

      rcases hq with rfl | rfl
      · have hstep := (HLET.out k 1 HK.out HQ.out).trans ((if_neg hk0).trans (if_pos rfl))
        by_cases hE2 : Pu.rvE z = 0
        rotate_left
        · have HS := Lib.hid (hstep.trans (if_pos hE2))
          have t1 : ((Pu.rvE z : Int) == 0) = false := by rw [beq_eq_false_iff_ne]; omega
          have HE9 := Lib.hid hE2
          have HV2 := Lib.hid hv2
          clear hstep hk0 hE2 hv2
          generalize Pu.rvE z = ev at *
          go_wp2_with fail
          refine HV.out.mono ?_
          rintro e w1 ⟨rfl, rfl⟩
          go_wp2_with fail
          refine HV2.out.mono ?_
          rintro e w1 ⟨rfl, rfl⟩
          go_wp2
          all_goals go_ret3
          all_goals exact HST.out _ HS.out HE9.out _ _ (by rfl) (Below.refl _ _)
        replace hstep := hstep.trans (if_neg (by simp [hE2]))
        have HS := Lib.hid hstep
        have hMl := rvN_le z
        have hyd := HYD.out
        have hDl := rvV_lt z
        rw [hE2] at hv2
        have HV2 := Lib.hid hv2
        have hMl2 : Pu.rvN z ≤ t.length - N := by omega
        clear hv2 hstep hE2 hyd
        generalize Pu.rvN z = M at *
        generalize Pu.rvV z = D at *
        by_cases hD : D = 0
        · subst hD
          clear hk0
          go_wp2_with fail
          refine HV.out.mono ?_
          rintro e w1 ⟨rfl, rfl⟩
          go_wp2_with fail
          refine HV2.out.mono ?_
          rintro e w1 ⟨rfl, rfl⟩
          go_wp2
          all_goals go_ret3
          all_goals exact HST.out _ HS.out (by omega) _ _ (by rfl) (Below.refl _ _)
        · have t3 : ((D : Int) == 0) = false := by rw [beq_eq_false_iff_ne]; omega
          have hDp : (0 : Int) < (D : Int) := by omega
          clear hk0 hD
          go_wp2_with fail
          refine HV.out.mono ?_
          rintro e w1 ⟨rfl, rfl⟩
          go_wp2_with fail
          refine HV2.out.mono ?_
          rintro e w1 ⟨rfl, rfl⟩
          go_wp2
          all_goals go_ret3
          all_goals exact HST.out _ HS.out (by omega) _ _ (by rfl) (Below.refl _ _)
      · have HS := Lib.hid ((HLET.out k 0 HK.out HQ.out).trans ((if_neg hk0).trans (if_neg (by simp))))
        have hkp : (0 : Int) < (k : Int) := by omega
        clear hk0
        go_wp2_with fail
        refine HV.out.mono ?_
        rintro e w1 ⟨rfl, rfl⟩
        go_wp2
        all_goals go_ret3
        all_goals exact HST.out _ HS.out (by omega) _ _ (by rfl) (Below.refl _ _)

set_option maxRecDepth 100000 in
set_option maxHeartbeats 1000000 in
theorem runpackN_any (vb : Value) (x : List UInt8) (hx : x.length < 4294967296) (most : Int) (hm : most < 0) (w : World) (hr : RdV w w.heap.size vb (bv x)) :
    Calls Try.prog 10 #[vb, .int .i64 most] w (RUnP 0 x w) := by
  obtain ⟨A, c, rfl, hc1, hc2, hc3⟩ := id hr
  rw [bv_length] at hc1 hc3 hr ⊢
  unfold maxLen at hc2
  clear hc3
  have hfin : ∀ (o : List UInt8) (n ev : Nat) (r : Value), Lz.Walks 0 x o n ev → o.length ≤ 0 → n ≤ o.length → ∀ e w', e = Ending.returned (.tuple #[r, .int .i64 ((if ev = 0 then n else 0 : Nat) : Int), .int .i64 (ev : Nat)]) → RdV w' w'.heap.size r (bv (if ev = 0 then o else [])) → Below w.heap.size w w' → RUnP 0 x w e w' :=
    fun o n ev r h1 h4 h5 e w' h2 h3 hb => ⟨o, n, ev, r, h1, h2, h3, h4, h5, hb⟩
  rcases x with _ | ⟨a, t⟩
  · have HF := Lib.hid (hfin [] 0 21 (.slice none 0 0) .nil (by simp) (by simp))
    clear hfin hr
    go_enter Try.func10, Try.ntmps10
    go_wp2
    go_ret3
    exact HF.out _ _ (by rfl) (RdV.nil_ _ _) (Below.refl _ _)
  · obtain ⟨b, off, rfl, hbB, hcell⟩ := hr.get (j := 0) (u := .int .u8 (a.toNat : Int)) (by simp [bv])
    have hal := a.toNat_lt
    have hc1' : t.length + 1 ≤ c := hc1
    have hx' : t.length + 1 < 4294967296 := hx
    have hlen : (a :: t).length = t.length + 1 := rfl
    rw [hlen] at *
    have k0 : w.cell? ⟨b, off, none⟩ = some (.int .u8 (a.toNat : Int)) := by simpa using hcell
    have ha : a.toNat = 0 ∨ a.toNat = 1 ∨ 1 < a.toNat := by omega
    have HA : Hid (∀ q : UInt8, a.toNat = q.toNat → a = q) := fun q h => UInt8.toNat_inj.1 h
    have htl : t.length ≤ 4294967295 := by omega
    have HF := Lib.hid hfin
    have HR := Lib.hid hr
    clear hcell hlen hc1 hx hfin hr
    generalize ha2 : a.toNat = an at *
    have HA2 := Lib.hid ha2
    clear ha2
    rcases ha with h0 | h0 | h0
    · have ea := HA.out 0 (by rw [h0]; rfl)
      subst h0
      subst ea
      by_cases hlen : 0 < t.length
      · have HW := Lib.hid (HF.out [] 0 24 (.slice none 0 0) (by exact .long hlen) (by simp) (by simp))
        go_enter Try.func10, Try.ntmps10
        go_wp2
        go_ret3
        exact HW.out _ _ (by rfl) (RdV.nil_ _ _) (Below.refl _ _)
      · have HW := Lib.hid (fun r => HF.out t t.length 0 r (by exact .raw (by omega)) (by omega) (Nat.le_refl _))
        obtain rfl : t = [] := List.eq_nil_of_length_eq_zero (by omega)
        by_cases hc : c = 1
        · subst hc
          go_enter Try.func10, Try.ntmps10
          go_wp2_with (at_builtin; refine wpList_append_rd _ rfl _ _ 22 rfl w.heap.size 5 (.int .u8 0) 1 Try.underlying22 Try.inf5 rfl _ 0 [] rfl (Emp.own (Emp.new w 5) (Nat.le_refl _)) _ rfl _ _ (RdV.zeroC _ 0 _ 0 (by omega)) (by intro u hu; simp at hu) (by simp) (by omega) (by simp) ?_; intro v2 w2 ho2 hg2 hv2; have hg' : (w.alloc (.cells #[] 5)).grownBy w2 (some w.heap.size) := hg2; have HRV := Lib.hid (RdV.own ho2); have HB2 := Lib.hid (((Below.refl w.heap.size w).alloc (Nat.le_refl _) (.cells #[] 5)).grown hg' (by simp) (fun g hg => by injection hg with hg; omega)); clear ho2 hg2 hg' hv2)
          go_ret3
          exact HW.out _ _ _ (by rfl) (by simpa [bv] using HRV.out) HB2.out
        · have hrt : RdV w w.heap.size (.slice (some ⟨b, off + 1, none⟩) 0 (c - 1)) (bv []) := RdV.zeroC _ _ _ _ (by omega)
          have hrt2 := hrt.alloc (Nat.le_refl _) (.cells #[] 5)
          have HRT := Lib.hid hrt2
          have hx5 : (0 + (bv []).length) * 1 ≤ 140737488355328 := by rw [bv_length]; omega
          have HX5 := Lib.hid hx5
          have t2 : ((0 : Int) + 1 == 0) = false := by rfl
          clear hrt hrt2 hx5
          go_enter Try.func10, Try.ntmps10
          go_wp2_with (at_builtin; refine wpList_append_rd _ rfl _ _ 22 rfl w.heap.size 5 (.int .u8 0) 1 Try.underlying22 Try.inf5 rfl _ 0 [] rfl (Emp.own (Emp.new w 5) (Nat.le_refl _)) _ rfl _ _ HRT.out (bv_one []) HX5.out (by omega) (by simp) ?_; intro v2 w2 ho2 hg2 hv2; have hg' : (w.alloc (.cells #[] 5)).grownBy w2 (some w.heap.size) := hg2; have HRV := Lib.hid (RdV.own ho2); have HB2 := Lib.hid (((Below.refl w.heap.size w).alloc (Nat.le_refl _) (.cells #[] 5)).grown hg' (by simp) (fun g hg => by injection hg with hg; omega)); clear ho2 hg2 hg' hv2)
          go_ret3
          exact HW.out _ _ _ (by first | rfl | go_num) (by simpa using HRV.out) HB2.out
    · have ea := HA.out 1 (by rw [h0]; rfl)
      subst h0
      subst ea
      by_cases hc : c = 1
      · subst hc
        obtain rfl : t = [] := List.eq_nil_of_length_eq_zero (by omega)
        have HW := Lib.hid (HF.out [] 0 0 (.slice none 0 0) (by exact .toks (s := ⟨[], [], 0⟩) (.stop (by unfold Lz.step; rw [if_pos rfl]))) (by simp) (by simp))
        go_enter Try.func10, Try.ntmps10
        go_wp2_with fail
        go_loopw [7, 8, 9] (fun u i r wr => u = .slice none 0 0 ∧ i = .int .i64 0 ∧ r = .slice (some ⟨b, off, none⟩) 0 0 ∧ wr = w) (fun _ _ r _ => lenV r)
        case atStart => exact ⟨rfl, rfl, by simp, rfl⟩
        case round =>
          obtain ⟨rfl, rfl, rfl, rfl⟩ := hrel
          go_wp2
          go_ret3
          exact HW.out _ _ (by rfl) (RdV.nil_ _ _) (Below.refl _ _)
      · obtain ⟨c, rfl⟩ : ∃ d, c = d + 1 := ⟨c - 1, by omega⟩
        exact rtoksN b off c most hm t (by omega) w HR.out hbB (by simpa using k0) (by omega) (by omega) (by omega)
    · have t1 : ((an : Int) == 0) = false := by rw [beq_eq_false_iff_ne]; omega
      have HW := Lib.hid (HF.out [] 0 22 (.slice none 0 0) (.form (by rw [HA2.out]; exact h0)) (by simp) (by simp))
      go_enter Try.func10, Try.ntmps10
      go_wp2
      go_ret3
      exact HW.out _ _ (by rfl) (RdV.nil_ _ _) (Below.refl _ _)
end Go.Proofs.Ytkgmelhigjjbbaa
