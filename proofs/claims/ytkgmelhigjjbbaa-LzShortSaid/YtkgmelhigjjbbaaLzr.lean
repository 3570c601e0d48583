/- The document's Unpack tells what packed bytes come to. Conditions: the row is shorter than 2^32, there is room for less than 2^31 bytes. -/
import Derived.Test.YtkgmelhigjjbbaaLzu
namespace Go.Proofs.Ytkgmelhigjjbbaa
open Go.ChangeShapes Go.WideShapes Go.ChangeAt Go.RowKit
set_option linter.unusedSimpArgs false
set_option linter.unusedVariables false
def RUnP (room : Nat) (x : List UInt8) (w : World) (e : Ending) (w' : World) : Prop :=
  ∃ (o : List UInt8) (n ev : Nat) (r : Value), Lz.Walks room x o n ev ∧ e = .returned (.tuple #[r, .int .i64 ((if ev = 0 then n else 0 : Nat) : Int), .int .i64 (ev : Nat)]) ∧ RdV w' w'.heap.size r (bv (if ev = 0 then o else [])) ∧ o.length ≤ room ∧ n ≤ o.length ∧ Below w.heap.size w w'
def RRel (room : Nat) (t : List UInt8) (w : World) (u i r : Value) (wr : World) : Prop :=
  ∃ (y o : List UInt8) (n : Nat), RdV wr w.heap.size r (bv y) ∧ wr.ownsRow w.heap.size 5 1 u o.length (bv o) ∧ i = .int .i64 (n : Nat) ∧ o.length ≤ room ∧ n ≤ o.length ∧ y.length ≤ t.length ∧ Below w.heap.size w wr ∧ Hid (∀ s e, Lz.Ends room ⟨y, o, n⟩ s e → Lz.Ends room ⟨t, [], 0⟩ s e)

set_option maxRecDepth 100000 in
set_option maxHeartbeats 4000000 in
theorem rtoks (b off c room : Nat) (t : List UInt8) (hx : t.length < 4294967296) (hroom : room ≤ 2147483647) (w : World) (hr : RdV w w.heap.size (.slice (some ⟨b, off, none⟩) (t.length + 1) c) (bv (1 :: t))) (hbB : b < w.heap.size) (k0 : w.cell? ⟨b, off, none⟩ = some (.int .u8 1)) (hc1 : t.length + 1 ≤ c) (hc2 : c ≤ 9223372036854775807) (hc : c ≠ 1) :
    Calls Try.prog 10 #[.slice (some ⟨b, off, none⟩) (t.length + 1) c, .int .i64 (room : Nat)] w (RUnP room (1 :: t) w) := by
  have hrt := hr.part 1 t.length (by rw [bv_length, List.length_cons]; omega)
  rw [show ((bv (1 :: t)).drop 1).take t.length = bv t from by simp [bv, List.take_of_length_le]] at hrt
  have HRT := Lib.hid hrt
  clear hr hrt
  have t0 : ((t.length : Int) + 1 == 0) = false := by rw [beq_eq_false_iff_ne]; omega
  go_enter Try.func10, Try.ntmps10
  go_wp2_with fail
  go_loopw [7, 8, 9] (fun u i r wr => RRel room t w u i r wr) (fun _ _ r _ => lenV r)
  case atStart => exact ⟨t, [], 0, by first | exact HRT.out | (split; exact HRT0.out (by assumption); exact HRT1.out (by assumption)), ⟨by simp [bv], Or.inl ⟨rfl, rfl⟩⟩, by rfl, by simp, by simp, by omega, Below.refl _ _, Lib.hid (fun _ _ h => h)⟩
  case round =>
    obtain ⟨y, o, n, hry, how, rfl, hor, hno, hyx, hbel, HE⟩ := hrel
    have hsz := hbel.size
    obtain ⟨A, c, rfl, hc1, hc2, hc3⟩ := id hry
    rw [bv_length] at hc1 hc3 hry ⊢
    unfold maxLen at hc2
    clear hc3
    obtain ⟨Ao, co, rfl, ho1, ho2, _⟩ := id (RdV.own how)
    rw [bv_length] at ho1 how ⊢
    unfold maxLen at ho2
    have hstop : ∀ ev : Nat, Lz.step room ⟨y, o, n⟩ = .stop ev → ∀ e wz, e = Ending.returned (.tuple #[.slice none 0 0, .int .i64 0, .int .i64 (ev : Nat)]) → Below w.heap.size w wz → ev ≠ 0 → RUnP room (1 :: t) w e wz := fun ev h e wz h1 h2 h0 => ⟨o, n, ev, _, .toks (HE.out _ _ (.stop h)), by rw [if_neg h0]; exact h1, by rw [if_neg h0]; exact RdV.nil_ _ _, hor, hno, h2⟩
    have hend : Lz.step room ⟨y, o, n⟩ = .stop 0 → RUnP room (1 :: t) w (.returned (.tuple #[.slice Ao o.length co, .int .i64 (n : Nat), .int .i64 0])) wr := fun h => ⟨o, n, 0, _, .toks (HE.out _ _ (.stop h)), by rfl, by rw [if_pos rfl]; exact RdV.own how, hor, hno, hbel⟩
    have hnext : ∀ s', Lz.step room ⟨y, o, n⟩ = .next s' → ∀ s e, Lz.Ends room s' s e → Lz.Ends room ⟨t, [], 0⟩ s e := fun s' h s e k => HE.out _ _ (.next h k)
    have HST0 := Lib.hid hstop
    have HEND := Lib.hid hend
    have HNX := Lib.hid hnext
    have HBEL := Lib.hid hbel
    have HOW := Lib.hid how
    clear hstop hend hnext hbel how HE
    by_cases hy0 : y = []
    · have hs : Lz.step room ⟨y, o, n⟩ = .stop 0 := by unfold Lz.step; rw [if_pos hy0]
      have HS := Lib.hid hs
      have hyl : y.length = 0 := by rw [hy0]; rfl
      clear hs hy0 hry
      go_wp2
      go_ret3
      exact HEND.out HS.out
    have hyl : 0 < y.length := by rcases y with _ | ⟨a, t⟩; exact absurd rfl hy0; simp
    have hv := rreadvar_any (.slice A y.length c) y (by omega) wr w.heap.size hry
    by_cases hE : Pu.rvE y = 0
    rotate_left
    · have hs : Lz.step room ⟨y, o, n⟩ = .stop (Pu.rvE y) := by unfold Lz.step; rw [if_neg hy0, if_pos hE]
      have t1 : ((Pu.rvE y : Int) == 0) = false := by rw [beq_eq_false_iff_ne]; omega
      have HS := Lib.hid hs
      have HV := Lib.hid hv
      have HE0 := Lib.hid hE
      clear hs hv hy0 hry hE
      generalize Pu.rvE y = ev at *
      go_wp2_with fail
      refine HV.out.mono ?_
      rintro e w1 ⟨rfl, rfl⟩
      go_wp2
      go_ret3
      exact HST0.out _ HS.out _ _ (by rfl) HBEL.out HE0.out
    have HST : Hid (∀ ev : Nat, Lz.step room ⟨y, o, n⟩ = .stop ev → ∀ e wz, e = Ending.returned (.tuple #[.slice none 0 0, .int .i64 0, .int .i64 (ev : Nat)]) → Below w.heap.size w wz → RUnP room (1 :: t) w e wz) := fun ev h e wz h1 h2 => HST0.out ev h e wz h1 h2 (by
      intro h0
      rw [h0] at h
      unfold Lz.step at h
      rw [if_neg hy0, if_neg (by rw [hE]; simp)] at h
      repeat' split at h
      all_goals first
        | (cases h; done)
        | (injection h with h; contradiction))
    have hNp := rvN_pos hE
    have hNl := rvN_le y
    have hVl := rvV_lt y
    rw [hE] at hv
    have hyd : (y.drop (Pu.rvN y)).length = y.length - Pu.rvN y := List.length_drop ..
    have hlet : ∀ k q : Nat, Pu.rvV y / 2 = k → Pu.rvV y % 2 = q → Lz.step room ⟨y, o, n⟩ = (if k = 0 then .stop 22 else if q = 1 then
        (if Pu.rvE (y.drop (Pu.rvN y)) ≠ 0 then .stop (Pu.rvE (y.drop (Pu.rvN y))) else
        if Pu.rvV (y.drop (Pu.rvN y)) = 0 ∨ o.length < Pu.rvV (y.drop (Pu.rvN y)) then .stop 22 else
        if room - o.length < k then .stop 24 else
        .next ⟨(y.drop (Pu.rvN y)).drop (Pu.rvN (y.drop (Pu.rvN y))), Lz.back k (Pu.rvV (y.drop (Pu.rvN y))) o, n⟩)
      else
        (if room - o.length < k then .stop 24 else
        if (y.drop (Pu.rvN y)).length < k then .stop 21 else
        .next ⟨(y.drop (Pu.rvN y)).drop k, o ++ (y.drop (Pu.rvN y)).take k, n + k⟩)) := by
      intro k q h1 h2
      subst h1 h2
      unfold Lz.step
      rw [if_neg hy0, if_neg (by rw [hE]; simp)]
    have HV := Lib.hid hv
    have HLET := Lib.hid hlet
    clear hv hE hy0 hlet
    generalize Pu.rvV y = V at *
    generalize Pu.rvN y = N at *
    generalize hz : y.drop N = z at *
    have hbz : (bv y).drop N = bv z := by rw [← hz]; simp [bv]
    have HBZ := Lib.hid hbz
    clear hz hbz
    obtain ⟨k, hk⟩ : ∃ k, V / 2 = k := ⟨_, rfl⟩
    have HK := Lib.hid hk
    have hkl : (k : Int) ≤ 9223372036854775807 := by omega
    obtain ⟨q, hqq⟩ : ∃ q, V % 2 = q := ⟨_, rfl⟩
    have hq : q = 1 ∨ q = 0 := by omega
    have hmod : (V : Int) % 2 = (q : Int) := by omega
    have HQ := Lib.hid hqq
    have hdiv : (V : Int) / 2 = (k : Int) := by omega
    clear hk hqq
    obtain ⟨b, off, rfl, hbB, _⟩ := hry.get (j := 0) (u := .int .u8 (y[0].toNat : Int)) (by rw [bv_get, List.getElem?_eq_getElem hyl]; rfl)
    by_cases hcN : N = c
    · obtain rfl : N = c := hcN
      have hz0 : z = [] := List.eq_nil_of_length_eq_zero (by omega)
      have hE2 : Pu.rvE z = 21 := by rw [hz0]; rfl
      have hv2 := rreadvar_any (.slice (some ⟨b, off, none⟩) 0 0) z (by omega) wr w.heap.size (by rw [hz0]; exact RdV.zeroC wr _ _ 0 (by omega))
      rw [hE2] at hv2
      have HV2 := Lib.hid hv2
      have HE2 := Lib.hid hE2
      have HZL := Lib.hid (show z.length = 0 by omega)
      clear hv2 hE2 hz0 hyd
      by_cases hk0 : k = 0
      · have HS := Lib.hid ((HLET.out k q HK.out HQ.out).trans (if_pos hk0))
        have t2 : ((k : Int) == 0) = true := by rw [beq_iff_eq]; omega
        clear hk0 hq hkl
        go_wp2_with fail
        refine HV.out.mono ?_
        rintro e w1 ⟨rfl, rfl⟩
        go_wp2
        all_goals go_ret3
        all_goals exact HST.out _ HS.out _ _ (by rfl) HBEL.out
      have t2 : ((k : Int) == 0) = false := by rw [beq_eq_false_iff_ne]; omega

      rcases hq with rfl | rfl
      · have HS := Lib.hid ((HLET.out k 1 HK.out HQ.out).trans ((if_neg hk0).trans ((if_pos rfl).trans ((if_pos (by rw [HE2.out]; simp)).trans (by rw [HE2.out])))))
        clear hk0
        go_wp2_with fail
        refine HV.out.mono ?_
        rintro e w1 ⟨rfl, rfl⟩
        go_wp2_with fail
        refine HV2.out.mono ?_
        rintro e w1 ⟨rfl, rfl⟩
        go_wp2
        all_goals go_ret3
        all_goals exact HST.out _ HS.out _ _ (by rfl) HBEL.out
      · by_cases hrl : room - o.length < k
        · have HS := Lib.hid ((HLET.out k 0 HK.out HQ.out).trans ((if_neg hk0).trans ((if_neg (by simp)).trans (if_pos hrl))))
          have hr2 : (room : Int) - (o.length : Int) < (k : Int) := by omega
          clear hk0 hrl
          go_wp2_with fail
          refine HV.out.mono ?_
          rintro e w1 ⟨rfl, rfl⟩
          go_wp2
          all_goals go_ret3
          all_goals exact HST.out _ HS.out _ _ (by rfl) HBEL.out
        · have HS := Lib.hid ((HLET.out k 0 HK.out HQ.out).trans ((if_neg hk0).trans ((if_neg (by simp)).trans ((if_neg hrl).trans (if_pos (by have := HZL.out; omega))))))
          have hr2 : (k : Int) ≤ (room : Int) - (o.length : Int) := by omega
          have hkp : (0 : Int) < (k : Int) := by omega
          clear hk0 hrl
          go_wp2_with fail
          refine HV.out.mono ?_
          rintro e w1 ⟨rfl, rfl⟩
          go_wp2
          all_goals go_ret3
          all_goals exact HST.out _ HS.out _ _ (by rfl) HBEL.out
    · have hu := hry.part N (y.length - N) (by rw [bv_length]; omega)
      rw [HBZ.out, List.take_of_length_le (by rw [bv_length]; omega)] at hu
      have hv2 := rreadvar_any _ z (by omega) wr w.heap.size hu
      have HU := Lib.hid hu
      have HYD := Lib.hid hyd
      clear hu hyd
      by_cases hk0 : k = 0
      · have HS := Lib.hid ((HLET.out k q HK.out HQ.out).trans (if_pos hk0))
        have t2 : ((k : Int) == 0) = true := by rw [beq_iff_eq]; omega
        clear hk0 hq hkl
        go_wp2_with fail
        refine HV.out.mono ?_
        rintro e w1 ⟨rfl, rfl⟩
        go_wp2
        all_goals go_ret3
        all_goals exact HST.out _ HS.out _ _ (by rfl) HBEL.out
      have t2 : ((k : Int) == 0) = false := by rw [beq_eq_false_iff_ne]; omega

      rcases hq with rfl | rfl
      · have hstep := (HLET.out k 1 HK.out HQ.out).trans ((if_neg hk0).trans (if_pos rfl))
        by_cases hE2 : Pu.rvE z = 0
        rotate_left
        · have HS := Lib.hid (hstep.trans (if_pos hE2))
          have t1 : ((Pu.rvE z : Int) == 0) = false := by rw [beq_eq_false_iff_ne]; omega
          have HV2 := Lib.hid hv2
          clear hstep hk0 hE2 hv2
          generalize Pu.rvE z = ev at *
          go_wp2_with fail
          refine HV.out.mono ?_
          rintro e w1 ⟨rfl, rfl⟩
          go_wp2_with fail
          refine HV2.out.mono ?_
          rintro e w1 ⟨rfl, rfl⟩
          go_wp2
          all_goals go_ret3
          all_goals exact HST.out _ HS.out _ _ (by rfl) HBEL.out
        replace hstep := hstep.trans (if_neg (by simp [hE2]))
        have hMp := rvN_pos hE2
        have hMl := rvN_le z
        have hyd := HYD.out
        have hDl := rvV_lt z
        rw [hE2] at hv2
        have HV2 := Lib.hid hv2
        have hmore := HU.out.part (Pu.rvN z) (z.length - Pu.rvN z) (by rw [bv_length]; omega)
        rw [show (bv z).drop (Pu.rvN z) = bv (z.drop (Pu.rvN z)) from by simp [bv], List.take_of_length_le (by rw [bv_length, List.length_drop]; omega)] at hmore
        have hnone : c - N = Pu.rvN z → z.drop (Pu.rvN z) = [] := fun h => List.drop_eq_nil_of_le (by omega)
        have hzl : (z.drop (Pu.rvN z)).length = z.length - Pu.rvN z := List.length_drop ..
        have HM := Lib.hid hmore
        have HNO := Lib.hid hnone
        have HST2 := Lib.hid hstep
        have hMl2 : Pu.rvN z ≤ y.length - N := by omega
        clear hv2 hmore hnone hstep hE2 hyd
        generalize Pu.rvN z = M at *
        generalize Pu.rvV z = D at *
        generalize z.drop M = z2 at *
        by_cases hD : D = 0 ∨ o.length < D
        · have HS := Lib.hid (HST2.out.trans (if_pos hD))
          rcases hD with rfl | hD
          · clear hk0
            go_wp2_with fail
            refine HV.out.mono ?_
            rintro e w1 ⟨rfl, rfl⟩
            go_wp2_with fail
            refine HV2.out.mono ?_
            rintro e w1 ⟨rfl, rfl⟩
            go_wp2
            all_goals go_ret3
            all_goals exact HST.out _ HS.out _ _ (by rfl) HBEL.out
          · have t3 : ((D : Int) == 0) = false := by rw [beq_eq_false_iff_ne]; omega
            clear hk0
            go_wp2_with fail
            refine HV.out.mono ?_
            rintro e w1 ⟨rfl, rfl⟩
            go_wp2_with fail
            refine HV2.out.mono ?_
            rintro e w1 ⟨rfl, rfl⟩
            go_wp2
            all_goals go_ret3
            all_goals exact HST.out _ HS.out _ _ (by rfl) HBEL.out
        · have hs3 := HST2.out.trans (if_neg hD)
          have t3 : ((D : Int) == 0) = false := by rw [beq_eq_false_iff_ne]; omega
          have hD2 : D ≤ o.length := by omega
          have hD0 : 0 < D := by omega
          by_cases hrl : room - o.length < k
          · have HS := Lib.hid (hs3.trans (if_pos hrl))
            have hr2 : (room : Int) - (o.length : Int) < (k : Int) := by omega
            clear hk0 hrl hs3 hD
            go_wp2_with fail
            refine HV.out.mono ?_
            rintro e w1 ⟨rfl, rfl⟩
            go_wp2_with fail
            refine HV2.out.mono ?_
            rintro e w1 ⟨rfl, rfl⟩
            go_wp2
            all_goals go_ret3
            all_goals exact HST.out _ HS.out _ _ (by rfl) HBEL.out
          · have HS := Lib.hid (hs3.trans (if_neg hrl))
            have hr2 : (k : Int) ≤ (room : Int) - (o.length : Int) := by omega
            have HKP := Lib.hid (show 0 < k by omega)
            clear hk0 hrl hs3 hD
            have hrel2 : ∀ (u v i : Value) (w2 : World), i = .int .i64 (n : Nat) → RdV wr w.heap.size v (bv z2) → w2.ownsRow w.heap.size 5 1 u (o.length + k) (bv (Lz.back k D o)) → Below w.heap.size wr w2 → RRel room t w u i v w2 := fun u v i w2 h1 h2 h3 h4 =>
              ⟨z2, Lz.back k D o, n, h2.below h4, by rw [Lz.back_len]; exact h3, h1, by rw [Lz.back_len]; omega, by rw [Lz.back_len]; omega, by have := HYD.out; omega, HBEL.out.trans h4, Lib.hid (HNX.out _ HS.out)⟩
            have hm0 : c - N = M → ∀ (A : Option Addr) (n0 c0 : Nat), n0 = 0 → c0 ≤ 9223372036854775807 → RdV wr w.heap.size (.slice A n0 c0) (bv z2) := fun h A n0 c0 hn hc0 => by subst hn; rw [HNO.out h]; exact RdV.zeroC wr _ _ c0 (by omega)
            have HREL := Lib.hid hrel2
            have HM0 := Lib.hid hm0
            have hzl3 : z.length - M = y.length - N - M := by rw [HYD.out]
            have hmm := HM.out
            rw [hzl3] at hmm
            have HM := Lib.hid hmm
            clear hrel2 hm0 hzl3 hmm
            go_wp2_with fail
            refine HV.out.mono ?_
            rintro e w1 ⟨rfl, rfl⟩
            go_wp2_with fail
            refine HV2.out.mono ?_
            rintro e w1 ⟨rfl, rfl⟩
            go_wp2_with fail
            all_goals go_loopw [7, 17] (fun u i wq => ∃ a : Nat, a ≤ k ∧ i = .int .u64 (a : Nat) ∧ wq.ownsRow w.heap.size 5 1 u (o.length + a) (bv (Lz.back a D o)) ∧ Below w.heap.size wr wq) (fun _ i _ => k - (intOf i).toNat)
            all_goals first
              | (case atStart => exact ⟨0, by omega, by rfl, HOW.out, Below.refl _ _⟩)
              | skip
            all_goals (case round =>
              obtain ⟨a, hak, rfl, how2, hbel2⟩ := hrel
              have hsz2 := hbel2.size
              by_cases hlt : a < k
              · obtain ⟨g2, cap2, rfl, hg2⟩ := own_form how2 (by omega)
                have hbl := Lz.back_len a D o
                obtain ⟨j, hj⟩ : ∃ j, o.length + a - D = j := ⟨_, rfl⟩
                have hji : (o.length : Int) + (a : Int) - (D : Int) = (j : Int) := by omega
                have hjl : j < (Lz.back a D o).length := by omega
                have hbk : Lz.back (a + 1) D o = Lz.back a D o ++ [(Lz.back a D o)[j]] := by
                  rw [Lz.back, hbl, hj]
                  simp [List.getD, List.getElem?_eq_getElem hjl]
                obtain ⟨b3, off3, hbo, hbB3, hcell⟩ := (RdV.own how2).get (j := j) (u := .int .u8 (((Lz.back a D o)[j]).toNat : Int)) (by rw [bv_get, List.getElem?_eq_getElem hjl]; rfl)
                injection hbo with hbo
                injection hbo with hb1 hb2
                subst hb1 hb2
                rw [Nat.zero_add] at hcell
                have hbt := ((Lz.back a D o)[j]).toNat_lt
                have hjlt : j < o.length + a := by omega
                generalize hB : (Lz.back a D o)[j] = bt at *
                have HBK := Lib.hid hbk
                have HOW2 := Lib.hid how2
                have HBEL2 := Lib.hid hbel2
                clear hbk hbl how2 hbel2 hjl hB hj
                go_wp2_with (at_builtin; refine wpList_append_rd _ rfl _ _ 22 rfl w.heap.size 5 (.int .u8 0) 1 Try.underlying22 Try.inf5 rfl _ _ _ rfl (HOW2.out.alloc _) _ rfl _ _ (RdV.one _ _ _) (by intro u hu; simp at hu; subst hu; rfl) (by simp; omega) (by omega) (by simp; omega) ?_; intro o' w1 ho1' hg1' _; have HS1 := Lib.hid (own_step (b := bt) HBEL2.out (by omega) HOW2.out _ ho1' hg1' rfl rfl); clear ho1' hg1')
                go_roundw
                case rel => exact ⟨a + 1, by omega, by go_num, by rw [HBK.out]; exact HS1.out.1, HS1.out.2⟩
                case measure => simp [intOf]; omega
              · obtain rfl : a = k := by omega
                have HOW2 := Lib.hid how2
                have HBEL2 := Lib.hid hbel2
                clear how2 hbel2 hlt
                go_wp2
                all_goals go_roundw
                all_goals first
                  | (case measure => simp [lenV]; omega)
                  | (case rel => exact HREL.out _ _ _ _ (by rfl) (by first | exact HM.out | exact HM0.out (by omega) _ _ _ (by omega) (by omega) | (split; exact HM0.out (by omega) _ _ _ (by omega) (by omega); exact HM.out)) HOW2.out HBEL2.out))
      · by_cases hrl : room - o.length < k
        · have HS := Lib.hid ((HLET.out k 0 HK.out HQ.out).trans ((if_neg hk0).trans ((if_neg (by simp)).trans (if_pos hrl))))
          have hr2 : (room : Int) - (o.length : Int) < (k : Int) := by omega
          clear hk0 hrl
          go_wp2_with fail
          refine HV.out.mono ?_
          rintro e w1 ⟨rfl, rfl⟩
          go_wp2
          all_goals go_ret3
          all_goals exact HST.out _ HS.out _ _ (by rfl) HBEL.out
        have hs3 := (HLET.out k 0 HK.out HQ.out).trans ((if_neg hk0).trans ((if_neg (by simp)).trans (if_neg hrl)))
        have hkp : (0 : Int) < (k : Int) := by omega
        have hr2 : (k : Int) ≤ (room : Int) - (o.length : Int) := by omega
        by_cases hzs : z.length < k
        · have HS := Lib.hid (hs3.trans (if_pos hzs))
          have hzs2 : ((y.length - N : Nat) : Int) < (k : Int) := by have := HYD.out; omega
          clear hk0 hrl hs3 hzs
          go_wp2_with fail
          refine HV.out.mono ?_
          rintro e w1 ⟨rfl, rfl⟩
          go_wp2
          all_goals go_ret3
          all_goals exact HST.out _ HS.out _ _ (by rfl) HBEL.out
        have HS := Lib.hid (hs3.trans (if_neg hzs))
        have hky : k ≤ y.length - N := by have := HYD.out; omega
        have hpc := HU.out.front k (by rw [bv_length]; omega)
        rw [show (bv z).take k = bv (z.take k) from by simp [bv]] at hpc
        have hpl : (z.take k).length = k := by rw [List.length_take]; omega
        have hmm := HU.out.part k (z.length - k) (by rw [bv_length]; omega)
        rw [show (bv z).drop k = bv (z.drop k) from by simp [bv], List.take_of_length_le (by rw [bv_length, List.length_drop]; omega)] at hmm
        have hm0 : c - N = k → ∀ (A : Option Addr) (n0 c0 : Nat), n0 = 0 → c0 ≤ 9223372036854775807 → RdV wr w.heap.size (.slice A n0 c0) (bv (z.drop k)) := fun h A n0 c0 hn hc0 => by
          subst hn
          rw [List.drop_eq_nil_of_le (by have := HYD.out; omega)]
          exact RdV.zeroC wr _ _ c0 (by omega)
        have hzl : (z.drop k).length = z.length - k := List.length_drop ..
        have hrel2 : ∀ (u v i : Value) (w2 : World), i = .int .i64 ((n : Int) + (k : Int)) → RdV wr w.heap.size v (bv (z.drop k)) → w2.ownsRow w.heap.size 5 1 u (o.length + (bv (z.take k)).length) (bv o ++ bv (z.take k)) → Below w.heap.size wr w2 → RRel room t w u i v w2 := fun u v i w2 h1 h2 h3 h4 =>
          ⟨z.drop k, o ++ z.take k, n + k, h2.below h4, by rw [bv_length] at h3; rw [List.length_append, bv_append]; exact h3, by rw [h1, Int.natCast_add], by rw [List.length_append, hpl]; omega, by rw [List.length_append, hpl]; omega, by have := HYD.out; omega, HBEL.out.trans h4, Lib.hid (HNX.out _ HS.out)⟩
        have hzl3 : z.length - k = y.length - N - k := by rw [HYD.out]
        rw [hzl3] at hmm
        have hx5 : (o.length + (bv (z.take k)).length) * 1 ≤ 140737488355328 := by rw [bv_length, hpl]; omega
        have HM := Lib.hid hmm
        have HM0 := Lib.hid hm0
        have HP := Lib.hid hpc
        have HREL := Lib.hid hrel2
        have HX5 := Lib.hid hx5
        have hcn0 : ¬ (c - N = 0) := by omega
        have hok : o.length + k ≤ 2147483647 := by omega
        clear hpc hmm hm0 hrel2 hzl3 hzl hzs hs3 hk0 hrl hpl hx5
        have hzb : z.length ≤ y.length - N := by have := HYD.out; omega
        by_cases hck : c - N = k
        · have hp9 := HP.out
          rw [hck] at hp9
          have HP := Lib.hid hp9
          clear hp9
          go_wp2_with fail
          refine HV.out.mono ?_
          rintro e w1 ⟨rfl, rfl⟩
          go_wp2_with (at_builtin; refine wpList_append_rd _ rfl _ _ 22 rfl w.heap.size 5 (.int .u8 0) 1 Try.underlying22 Try.inf5 rfl _ _ _ (by rfl) HOW.out _ (by rfl) _ _ HP.out (bv_one _) HX5.out (by omega) (by omega) ?_; intro v2 w2 ho2 hg2 hv2; have HO2 := Lib.hid ho2; have HB2 := Lib.hid ((Below.refl w.heap.size wr).grown hg2 (by omega) (fun g hg => (HOW.out.lt g hg).1)); clear ho2 hg2 hv2)
          all_goals go_roundw
          all_goals first
            | (case measure => simp [lenV]; omega)
            | (case rel => exact HREL.out _ _ _ _ (by rfl) (by first | exact HM.out | exact HM0.out (by omega) _ _ _ (by omega) (by omega) | (split; exact HM0.out (by omega) _ _ _ (by omega) (by omega); exact HM.out)) HO2.out HB2.out)
        · go_wp2_with fail
          refine HV.out.mono ?_
          rintro e w1 ⟨rfl, rfl⟩
          go_wp2_with (at_builtin; refine wpList_append_rd _ rfl _ _ 22 rfl w.heap.size 5 (.int .u8 0) 1 Try.underlying22 Try.inf5 rfl _ _ _ (by rfl) HOW.out _ (by rfl) _ _ HP.out (bv_one _) HX5.out (by omega) (by omega) ?_; intro v2 w2 ho2 hg2 hv2; have HO2 := Lib.hid ho2; have HB2 := Lib.hid ((Below.refl w.heap.size wr).grown hg2 (by omega) (fun g hg => (HOW.out.lt g hg).1)); clear ho2 hg2 hv2)
          all_goals go_roundw
          all_goals first
            | (case measure => simp [lenV]; omega)
            | (case rel => exact HREL.out _ _ _ _ (by rfl) (by first | exact HM.out | exact HM0.out (by omega) _ _ _ (by omega) (by omega) | (split; exact HM0.out (by omega) _ _ _ (by omega) (by omega); exact HM.out)) HO2.out HB2.out)

set_option maxRecDepth 100000 in
set_option maxHeartbeats 1000000 in
theorem runpack_any (vb : Value) (x : List UInt8) (hx : x.length < 4294967296) (room : Nat) (hroom : room ≤ 2147483647) (w : World) (hr : RdV w w.heap.size vb (bv x)) :
    Calls Try.prog 10 #[vb, .int .i64 (room : Nat)] w (RUnP room x w) := by
  obtain ⟨A, c, rfl, hc1, hc2, hc3⟩ := id hr
  rw [bv_length] at hc1 hc3 hr ⊢
  unfold maxLen at hc2
  clear hc3
  have hfin : ∀ (o : List UInt8) (n ev : Nat) (r : Value), Lz.Walks room x o n ev → o.length ≤ room → n ≤ o.length → ∀ e w', e = Ending.returned (.tuple #[r, .int .i64 ((if ev = 0 then n else 0 : Nat) : Int), .int .i64 (ev : Nat)]) → RdV w' w'.heap.size r (bv (if ev = 0 then o else [])) → Below w.heap.size w w' → RUnP room x w e w' :=
    fun o n ev r h1 h4 h5 e w' h2 h3 hb => ⟨o, n, ev, r, h1, h2, h3, h4, h5, hb⟩
  rcases x with _ | ⟨a, t⟩
  · have HF := Lib.hid (hfin [] 0 21 (.slice none 0 0) .nil (by simp) (by simp))
    clear hfin hr
    go_enter Try.func10, Try.ntmps10
    go_wp2
    go_ret3
    exact HF.out _ _ (by rfl) (RdV.nil_ _ _) (Below.refl _ _)
  · obtain ⟨b, off, rfl, hbB, hcell⟩ := hr.get (j := 0) (u := .int .u8 (a.toNat : Int)) (by simp [bv])
    have hal := a.toNat_lt
    have hc1' : t.length + 1 ≤ c := hc1
    have hx' : t.length + 1 < 4294967296 := hx
    have hlen : (a :: t).length = t.length + 1 := rfl
    rw [hlen] at *
    have k0 : w.cell? ⟨b, off, none⟩ = some (.int .u8 (a.toNat : Int)) := by simpa using hcell
    have ha : a.toNat = 0 ∨ a.toNat = 1 ∨ 1 < a.toNat := by omega
    have HA : Hid (∀ q : UInt8, a.toNat = q.toNat → a = q) := fun q h => UInt8.toNat_inj.1 h
    have htl : t.length ≤ 4294967295 := by omega
    have HF := Lib.hid hfin
    have HR := Lib.hid hr
    clear hcell hlen hc1 hx hfin hr
    generalize ha2 : a.toNat = an at *
    have HA2 := Lib.hid ha2
    clear ha2
    rcases ha with h0 | h0 | h0
    · have ea := HA.out 0 (by rw [h0]; rfl)
      subst h0
      subst ea
      by_cases hlen : room < t.length
      · have HW := Lib.hid (HF.out [] 0 24 (.slice none 0 0) (by exact .long hlen) (by simp) (by simp))
        go_enter Try.func10, Try.ntmps10
        go_wp2
        go_ret3
        exact HW.out _ _ (by rfl) (RdV.nil_ _ _) (Below.refl _ _)
      · have HW := Lib.hid (fun r => HF.out t t.length 0 r (by exact .raw (by omega)) (by omega) (Nat.le_refl _))
        by_cases hc : c = 1
        · subst hc
          obtain rfl : t = [] := List.eq_nil_of_length_eq_zero (by omega)
          go_enter Try.func10, Try.ntmps10
          go_wp2_with (at_builtin; refine wpList_append_rd _ rfl _ _ 22 rfl w.heap.size 5 (.int .u8 0) 1 Try.underlying22 Try.inf5 rfl _ 0 [] rfl (Emp.own (Emp.new w 5) (Nat.le_refl _)) _ rfl _ _ (RdV.zeroC _ 0 _ 0 (by omega)) (by intro u hu; simp at hu) (by simp) (by omega) (by simp) ?_; intro v2 w2 ho2 hg2 hv2; have hg' : (w.alloc (.cells #[] 5)).grownBy w2 (some w.heap.size) := hg2; have HRV := Lib.hid (RdV.own ho2); have HB2 := Lib.hid (((Below.refl w.heap.size w).alloc (Nat.le_refl _) (.cells #[] 5)).grown hg' (by simp) (fun g hg => by injection hg with hg; omega)); clear ho2 hg2 hg' hv2)
          go_ret3
          exact HW.out _ _ _ (by rfl) (by simpa [bv] using HRV.out) HB2.out
        · have hrt := HR.out.part 1 t.length (by rw [bv_length, List.length_cons]; omega)
          rw [show ((bv (0 :: t)).drop 1).take t.length = bv t from by simp [bv, List.take_of_length_le]] at hrt
          have hrt2 := hrt.alloc (Nat.le_refl _) (.cells #[] 5)
          have HRT := Lib.hid hrt2
          have hx5 : (0 + (bv t).length) * 1 ≤ 140737488355328 := by rw [bv_length]; omega
          have HX5 := Lib.hid hx5
          have t2 : ((t.length : Int) + 1 == 0) = false := by rw [beq_eq_false_iff_ne]; omega
          clear hrt hrt2 hx5
          go_enter Try.func10, Try.ntmps10
          go_wp2_with (at_builtin; refine wpList_append_rd _ rfl _ _ 22 rfl w.heap.size 5 (.int .u8 0) 1 Try.underlying22 Try.inf5 rfl _ 0 [] rfl (Emp.own (Emp.new w 5) (Nat.le_refl _)) _ rfl _ _ HRT.out (bv_one t) HX5.out (by omega) (by simp) ?_; intro v2 w2 ho2 hg2 hv2; have hg' : (w.alloc (.cells #[] 5)).grownBy w2 (some w.heap.size) := hg2; have HRV := Lib.hid (RdV.own ho2); have HB2 := Lib.hid (((Below.refl w.heap.size w).alloc (Nat.le_refl _) (.cells #[] 5)).grown hg' (by simp) (fun g hg => by injection hg with hg; omega)); clear ho2 hg2 hg' hv2)
          go_ret3
          exact HW.out _ _ _ (by first | rfl | go_num) (by simpa using HRV.out) HB2.out
    · have ea := HA.out 1 (by rw [h0]; rfl)
      subst h0
      subst ea
      by_cases hc : c = 1
      · subst hc
        obtain rfl : t = [] := List.eq_nil_of_length_eq_zero (by omega)
        have HW := Lib.hid (HF.out [] 0 0 (.slice none 0 0) (by exact .toks (s := ⟨[], [], 0⟩) (.stop (by unfold Lz.step; rw [if_pos rfl]))) (by simp) (by simp))
        go_enter Try.func10, Try.ntmps10
        go_wp2_with fail
        go_loopw [7, 8, 9] (fun u i r wr => u = .slice none 0 0 ∧ i = .int .i64 0 ∧ r = .slice (some ⟨b, off, none⟩) 0 0 ∧ wr = w) (fun _ _ r _ => lenV r)
        case atStart => exact ⟨rfl, rfl, by simp, rfl⟩
        case round =>
          obtain ⟨rfl, rfl, rfl, rfl⟩ := hrel
          go_wp2
          go_ret3
          exact HW.out _ _ (by rfl) (RdV.nil_ _ _) (Below.refl _ _)
      · exact rtoks b off c room t (by omega) hroom w HR.out hbB (by simpa using k0) hc1' (by omega) hc
    · have t1 : ((an : Int) == 0) = false := by rw [beq_eq_false_iff_ne]; omega
      have HW := Lib.hid (HF.out [] 0 22 (.slice none 0 0) (.form (by rw [HA2.out]; exact h0)) (by simp) (by simp))
      go_enter Try.func10, Try.ntmps10
      go_wp2
      go_ret3
      exact HW.out _ _ (by rfl) (RdV.nil_ _ _) (Below.refl _ _)
end Go.Proofs.Ytkgmelhigjjbbaa
