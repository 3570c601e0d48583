/- The walk through packed bytes hands on what the document's tokens are, and ends with its error. Conditions: the row is shorter than 2^32, there is room for 2^40 bytes at most. -/
import Derived.Test.YtkgmelhigjjbbaaBox
import Derived.Test.YtkgmelhigjjbbaaRvr
import Derived.Test.YtkgmelhigjjbbaaLzp
import Derived.Test.YtkgmelhigjjbbaaCut
namespace Go.Proofs.Ytkgmelhigjjbbaa
open Go.ChangeShapes Go.WideShapes Go.ChangeAt Go.RowKit
set_option linter.unusedSimpArgs false
set_option linter.unusedVariables false
theorem rvN_le (l : List UInt8) : Pu.rvN l ≤ l.length := by
  unfold Pu.rvN
  split
  · rename_i h; have := Pu.rvE_zero h; omega
  · omega
theorem rvN_pos {l : List UInt8} (h : Pu.rvE l = 0) : 0 < Pu.rvN l := by unfold Pu.rvN; rw [if_pos h]; omega
theorem rvV_lt (l : List UInt8) : Pu.rvV l < 18446744073709551616 := by
  unfold Pu.rvV
  split
  · rename_i h; exact Pu.rv_lt h
  · omega
theorem rvE_small (l : List UInt8) : Pu.rvE l = 0 ∨ Pu.rvE l = 21 ∨ Pu.rvE l = 22 := by
  unfold Pu.rvE
  split
  · exact Or.inr (Or.inr rfl)
  · split
    · exact Or.inr (Or.inl rfl)
    · split
      · exact Or.inr (Or.inr rfl)
      · exact Or.inl rfl
def lenV : Value → Nat
  | .slice _ n _ => n
  | _ => 0
/-- the slots of the walk: what is left, and how many bytes are done -/
def WRel (B : Nat) (I : List UInt8 → Nat → World → Prop) (room : Nat) (x : List UInt8) (w : World) (r d : Value) (wr : World) : Prop :=
  ∃ (y o : List UInt8) (n : Nat), RdV wr B r (bv y) ∧ d = .int .i64 (o.length : Nat) ∧ I o n wr ∧ o.length ≤ room ∧ y.length ≤ x.length ∧ Below B w wr ∧ Hid (∀ s e, Lz.Ends room ⟨y, o, n⟩ s e → Lz.Ends room ⟨x, [], 0⟩ s e)
def WPost (B : Nat) (I : List UInt8 → Nat → World → Prop) (room : Nat) (x : List UInt8) (w : World) (e : Ending) (w' : World) : Prop :=
  ∃ (s : Lz.St) (ev : Nat), Lz.Ends room ⟨x, [], 0⟩ s ev ∧ e = .returned (.int .i64 (ev : Nat)) ∧ I s.out s.lit w' ∧ s.out.length ≤ room ∧ Below B w w'
def WalkP (B : Nat) (I : List UInt8 → Nat → World → Prop) (room : Nat) (x : List UInt8) (w : World) (e : Ending) (w' : World) : Prop :=
  ∃ (o : List UInt8) (n ev : Nat), Lz.Walks room x o n ev ∧ e = .returned (.int .i64 (ev : Nat)) ∧ I o n w' ∧ o.length ≤ room ∧ Below B w w'
def LitC (fn : Nat) (cap : Value) (B : Nat) (I : List UInt8 → Nat → World → Prop) (room : Nat) (P : Program) : Prop :=
  ∀ (w1 : World) (o : List UInt8) (n : Nat) (v : Value) (p : List UInt8), B ≤ w1.heap.size → I o n w1 → RdV w1 B v (bv p) → o.length + p.length ≤ room →
    Calls P fn #[v, cap] w1 fun e w2 => e = .returned (.tuple #[]) ∧ I (o ++ p) (n + p.length) w2 ∧ Below B w1 w2
def CopC (fn : Nat) (cap : Value) (B : Nat) (I : List UInt8 → Nat → World → Prop) (room : Nat) (P : Program) : Prop :=
  ∀ (w1 : World) (o : List UInt8) (n k d : Nat), B ≤ w1.heap.size → I o n w1 → 0 < k → 0 < d → d ≤ o.length → o.length + k ≤ room →
    Calls P fn #[.int .i64 k, .int .i64 d, cap] w1 fun e w2 => e = .returned (.tuple #[]) ∧ I (Lz.back k d o) n w2 ∧ Below B w1 w2

set_option maxRecDepth 100000 in
set_option maxHeartbeats 4000000 in
theorem tokens_C (capL capC : Value) (B : Nat) (I : List UInt8 → Nat → World → Prop) (room : Nat) (hroom : room ≤ 1099511627776) (hL : LitC 19 capL B I room Try.prog) (hC : CopC 20 capC B I room Try.prog)
    (vb : Value) (x : List UInt8) (hx : x.length < 4294967296) (w : World) (hB : B ≤ w.heap.size) (hr : RdV w B vb (bv x)) (hI : I [] 0 w) :
    Calls Try.prog 28 #[vb, .int .i64 (room : Nat), .func (Fn.func 19) #[] #[capL], .func (Fn.func 20) #[] #[capC]] w (WPost B I room x w) := by
  have HL := Lib.hid hL
  have HC := Lib.hid hC
  have HR := Lib.hid hr
  have HI := Lib.hid hI
  clear hL hC hr hI
  go_enter Try.func28, Try.ntmps28
  go_wp2_with fail
  go_loopw [0, 9] (fun r d wr => WRel B I room x w r d wr) (fun r _ _ => lenV r)
  case atStart => exact ⟨x, [], 0, HR.out, by go_num, HI.out, by simp, by omega, Below.refl _ _, Lib.hid (fun _ _ h => h)⟩
  case round =>
    obtain ⟨y, o, n, hry, rfl, hio, hor, hyx, hbel, HE⟩ := hrel
    have hsz := hbel.size
    obtain ⟨A, c, rfl, hc1, hc2, hc3⟩ := id hry
    rw [bv_length] at hc1 hc3 hry ⊢
    unfold maxLen at hc2
    clear hc3
    have hstop : ∀ ev : Nat, Lz.step room ⟨y, o, n⟩ = .stop ev → ∀ e wz, e = Ending.returned (.int .i64 (ev : Nat)) → I o n wz → Below B w wz → WPost B I room x w e wz := fun ev h e wz h1 h2 h3 => ⟨_, ev, HE.out _ _ (.stop h), h1, h2, hor, h3⟩
    have hnext : ∀ s', Lz.step room ⟨y, o, n⟩ = .next s' → ∀ s e, Lz.Ends room s' s e → Lz.Ends room ⟨x, [], 0⟩ s e := fun s' h s e k => HE.out _ _ (.next h k)
    have HST := Lib.hid hstop
    have HNX := Lib.hid hnext
    have HBEL := Lib.hid hbel
    have HIO := Lib.hid hio
    clear hstop hnext hbel hio HE
    by_cases hy0 : y = []
    · have hs : Lz.step room ⟨y, o, n⟩ = .stop 0 := by unfold Lz.step; rw [if_pos hy0]
      have HS := Lib.hid hs
      have hyl : y.length = 0 := by rw [hy0]; rfl
      clear hs hy0 hry
      go_wp2
      go_ret
      exact HST.out 0 HS.out _ _ (by rfl) HIO.out HBEL.out
    have hyl : 0 < y.length := by rcases y with _ | ⟨a, t⟩; exact absurd rfl hy0; simp
    have hv := readvar_any (.slice A y.length c) y (by omega) wr B hry
    by_cases hE : Pu.rvE y = 0
    rotate_left
    · have hs : Lz.step room ⟨y, o, n⟩ = .stop (Pu.rvE y) := by unfold Lz.step; rw [if_neg hy0, if_pos hE]
      have t1 : ((Pu.rvE y : Int) == 0) = false := by rw [beq_eq_false_iff_ne]; omega
      have HS := Lib.hid hs
      have HV := Lib.hid hv
      clear hs hv hy0 hry hE
      generalize Pu.rvE y = ev at *
      go_wp2_with fail
      refine HV.out.mono ?_
      rintro e w1 ⟨rfl, rfl⟩
      go_wp2
      go_ret
      exact HST.out _ HS.out _ _ (by rfl) HIO.out HBEL.out
    have hNp := rvN_pos hE
    have hNl := rvN_le y
    have hVl := rvV_lt y
    rw [hE] at hv
    have hyd : (y.drop (Pu.rvN y)).length = y.length - Pu.rvN y := List.length_drop ..
    have hlet : ∀ k q : Nat, Pu.rvV y / 2 = k → Pu.rvV y % 2 = q → Lz.step room ⟨y, o, n⟩ = (if k = 0 then .stop 22 else if q = 1 then
        (if Pu.rvE (y.drop (Pu.rvN y)) ≠ 0 then .stop (Pu.rvE (y.drop (Pu.rvN y))) else
        if Pu.rvV (y.drop (Pu.rvN y)) = 0 ∨ o.length < Pu.rvV (y.drop (Pu.rvN y)) then .stop 22 else
        if room - o.length < k then .stop 24 else
        .next ⟨(y.drop (Pu.rvN y)).drop (Pu.rvN (y.drop (Pu.rvN y))), Lz.back k (Pu.rvV (y.drop (Pu.rvN y))) o, n⟩)
      else
        (if room - o.length < k then .stop 24 else
        if (y.drop (Pu.rvN y)).length < k then .stop 21 else
        .next ⟨(y.drop (Pu.rvN y)).drop k, o ++ (y.drop (Pu.rvN y)).take k, n + k⟩)) := by
      intro k q h1 h2
      subst h1 h2
      unfold Lz.step
      rw [if_neg hy0, if_neg (by rw [hE]; simp)]
    have HV := Lib.hid hv
    have HLET := Lib.hid hlet
    clear hv hE hy0 hlet
    generalize Pu.rvV y = V at *
    generalize Pu.rvN y = N at *
    generalize hz : y.drop N = z at *
    have hbz : (bv y).drop N = bv z := by rw [← hz]; simp [bv]
    have HBZ := Lib.hid hbz
    clear hz hbz
    obtain ⟨k, hk⟩ : ∃ k, V / 2 = k := ⟨_, rfl⟩
    have HK := Lib.hid hk
    have hkl : (k : Int) ≤ 9223372036854775807 := by omega
    have hq : V % 2 = 1 ∨ V % 2 = 0 := by omega
    have hand : bits .and .u64 (V : Int) 1 = ((V % 2 : Nat) : Int) := Pu.u64_mask1 V hVl
    obtain ⟨q, hqq⟩ : ∃ q, V % 2 = q := ⟨_, rfl⟩
    rw [hqq] at hand hq
    have HQ := Lib.hid hqq
    have hdiv : (V : Int) / 2 = (k : Int) := by omega
    clear hk hqq
    obtain ⟨b, off, rfl, hbB, _⟩ := hry.get (j := 0) (u := .int .u8 (y[0].toNat : Int)) (by rw [bv_get, List.getElem?_eq_getElem hyl]; rfl)
    by_cases hcN : N = c
    · obtain rfl : N = c := hcN
      have hy2 : y.length = N := by omega
      have hz0 : z = [] := List.eq_nil_of_length_eq_zero (by omega)
      have hE2 : Pu.rvE z = 21 := by rw [hz0]; rfl
      have hv2 := readvar_any (.slice (some ⟨b, off, none⟩) 0 0) z (by omega) wr B (by rw [hz0]; exact RdV.zeroC wr B _ 0 (by omega))
      rw [hE2] at hv2
      have HV2 := Lib.hid hv2
      have HE2 := Lib.hid hE2
      have HZL := Lib.hid (show z.length = 0 by omega)
      clear hv2 hE2 hz0 hy2 hyd
      by_cases hk0 : k = 0
      · have HS := Lib.hid ((HLET.out k q HK.out HQ.out).trans (if_pos hk0))
        have t2 : ((k : Int) == 0) = true := by rw [beq_iff_eq]; omega
        clear hk0 hq hkl
        go_wp2_with fail
        refine HV.out.mono ?_
        rintro e w1 ⟨rfl, rfl⟩
        go_wp2
        all_goals go_ret
        all_goals exact HST.out _ HS.out _ _ (by rfl) HIO.out HBEL.out
      have t2 : ((k : Int) == 0) = false := by rw [beq_eq_false_iff_ne]; omega

      rcases hq with rfl | rfl
      · have hand1 : bits .and .u64 (V : Int) 1 = 1 := by rw [hand]; rfl
        clear hand
        have HS := Lib.hid ((HLET.out k 1 HK.out HQ.out).trans ((if_neg hk0).trans ((if_pos rfl).trans ((if_pos (by rw [HE2.out]; simp)).trans (by rw [HE2.out])))))
        clear hk0
        go_wp2_with fail
        refine HV.out.mono ?_
        rintro e w1 ⟨rfl, rfl⟩
        go_wp2_with fail
        refine HV2.out.mono ?_
        rintro e w1 ⟨rfl, rfl⟩
        go_wp2
        all_goals go_ret
        all_goals exact HST.out _ HS.out _ _ (by rfl) HIO.out HBEL.out
      · have hand1 : bits .and .u64 (V : Int) 1 = 0 := by rw [hand]; rfl
        clear hand
        by_cases hrl : room - o.length < k
        · have HS := Lib.hid ((HLET.out k 0 HK.out HQ.out).trans ((if_neg hk0).trans ((if_neg (by simp)).trans (if_pos hrl))))
          have hr2 : (room : Int) - (o.length : Int) < (k : Int) := by omega
          clear hk0 hrl
          go_wp2_with fail
          refine HV.out.mono ?_
          rintro e w1 ⟨rfl, rfl⟩
          go_wp2
          all_goals go_ret
          all_goals exact HST.out _ HS.out _ _ (by rfl) HIO.out HBEL.out
        · have HS := Lib.hid ((HLET.out k 0 HK.out HQ.out).trans ((if_neg hk0).trans ((if_neg (by simp)).trans ((if_neg hrl).trans (if_pos (by have := HZL.out; omega))))))
          have hr2 : (k : Int) ≤ (room : Int) - (o.length : Int) := by omega
          have hkp : (0 : Int) < (k : Int) := by omega
          clear hk0 hrl
          go_wp2_with fail
          refine HV.out.mono ?_
          rintro e w1 ⟨rfl, rfl⟩
          go_wp2
          all_goals go_ret
          all_goals exact HST.out _ HS.out _ _ (by rfl) HIO.out HBEL.out
    · have hu := hry.part N (y.length - N) (by rw [bv_length]; omega)
      rw [HBZ.out, List.take_of_length_le (by rw [bv_length]; omega)] at hu
      have hv2 := readvar_any _ z (by omega) wr B hu
      have HU := Lib.hid hu
      have HYD := Lib.hid hyd
      clear hu hyd
      by_cases hk0 : k = 0
      · have HS := Lib.hid ((HLET.out k q HK.out HQ.out).trans (if_pos hk0))
        have t2 : ((k : Int) == 0) = true := by rw [beq_iff_eq]; omega
        clear hk0 hq hkl
        go_wp2_with fail
        refine HV.out.mono ?_
        rintro e w1 ⟨rfl, rfl⟩
        go_wp2
        all_goals go_ret
        all_goals exact HST.out _ HS.out _ _ (by rfl) HIO.out HBEL.out
      have t2 : ((k : Int) == 0) = false := by rw [beq_eq_false_iff_ne]; omega

      rcases hq with rfl | rfl
      · have hand1 : bits .and .u64 (V : Int) 1 = 1 := by rw [hand]; rfl
        clear hand
        have hstep := (HLET.out k 1 HK.out HQ.out).trans ((if_neg hk0).trans (if_pos rfl))
        by_cases hE2 : Pu.rvE z = 0
        rotate_left
        · have HS := Lib.hid (hstep.trans (if_pos hE2))
          have t1 : ((Pu.rvE z : Int) == 0) = false := by rw [beq_eq_false_iff_ne]; omega
          have HV2 := Lib.hid hv2
          clear hstep hk0 hE2 hv2
          generalize Pu.rvE z = ev at *
          go_wp2_with fail
          refine HV.out.mono ?_
          rintro e w1 ⟨rfl, rfl⟩
          go_wp2_with fail
          refine HV2.out.mono ?_
          rintro e w1 ⟨rfl, rfl⟩
          go_wp2
          all_goals go_ret
          all_goals exact HST.out _ HS.out _ _ (by rfl) HIO.out HBEL.out
        replace hstep := hstep.trans (if_neg (by simp [hE2]))
        have hMp := rvN_pos hE2
        have hMl := rvN_le z
        have hyd := HYD.out
        have hDl := rvV_lt z
        rw [hE2] at hv2
        have HV2 := Lib.hid hv2
        have hmore := HU.out.part (Pu.rvN z) (z.length - Pu.rvN z) (by rw [bv_length]; omega)
        rw [show (bv z).drop (Pu.rvN z) = bv (z.drop (Pu.rvN z)) from by simp [bv], List.take_of_length_le (by rw [bv_length, List.length_drop]; omega)] at hmore
        have hnone : c - N = Pu.rvN z → z.drop (Pu.rvN z) = [] := fun h => List.drop_eq_nil_of_le (by omega)
        have hzl : (z.drop (Pu.rvN z)).length = z.length - Pu.rvN z := List.length_drop ..
        have HM := Lib.hid hmore
        have HNO := Lib.hid hnone
        have HST2 := Lib.hid hstep
        have hMl2 : Pu.rvN z ≤ y.length - N := by omega
        clear hv2 hmore hnone hstep hE2 hyd
        generalize Pu.rvN z = M at *
        generalize Pu.rvV z = D at *
        generalize z.drop M = z2 at *
        by_cases hD : D = 0 ∨ o.length < D
        · have HS := Lib.hid (HST2.out.trans (if_pos hD))
          rcases hD with rfl | hD
          · clear hk0
            go_wp2_with fail
            refine HV.out.mono ?_
            rintro e w1 ⟨rfl, rfl⟩
            go_wp2_with fail
            refine HV2.out.mono ?_
            rintro e w1 ⟨rfl, rfl⟩
            go_wp2
            all_goals go_ret
            all_goals exact HST.out _ HS.out _ _ (by rfl) HIO.out HBEL.out
          · have t3 : ((D : Int) == 0) = false := by rw [beq_eq_false_iff_ne]; omega
            clear hk0
            go_wp2_with fail
            refine HV.out.mono ?_
            rintro e w1 ⟨rfl, rfl⟩
            go_wp2_with fail
            refine HV2.out.mono ?_
            rintro e w1 ⟨rfl, rfl⟩
            go_wp2
            all_goals go_ret
            all_goals exact HST.out _ HS.out _ _ (by rfl) HIO.out HBEL.out
        · have hs3 := HST2.out.trans (if_neg hD)
          have t3 : ((D : Int) == 0) = false := by rw [beq_eq_false_iff_ne]; omega
          have hD2 : D ≤ o.length := by omega
          have hD0 : 0 < D := by omega
          by_cases hrl : room - o.length < k
          · have HS := Lib.hid (hs3.trans (if_pos hrl))
            have hr2 : (room : Int) - (o.length : Int) < (k : Int) := by omega
            clear hk0 hrl hs3 hD
            go_wp2_with fail
            refine HV.out.mono ?_
            rintro e w1 ⟨rfl, rfl⟩
            go_wp2_with fail
            refine HV2.out.mono ?_
            rintro e w1 ⟨rfl, rfl⟩
            go_wp2
            all_goals go_ret
            all_goals exact HST.out _ HS.out _ _ (by rfl) HIO.out HBEL.out
          · have HS := Lib.hid (hs3.trans (if_neg hrl))
            have hr2 : (k : Int) ≤ (room : Int) - (o.length : Int) := by omega
            have HKP := Lib.hid (show 0 < k by omega)
            have hrel2 : ∀ (v d : Value) (w2 : World), d = .int .i64 ((o.length : Int) + (k : Int)) → RdV wr B v (bv z2) → I (Lz.back k D o) n w2 → Below B wr w2 → WRel B I room x w v d w2 := fun v d w2 h1 h2 h3 h4 =>
              ⟨z2, Lz.back k D o, n, h2.below h4, by rw [h1, Lz.back_len, Int.natCast_add], h3, by rw [Lz.back_len]; omega, by have := HYD.out; omega, HBEL.out.trans h4, Lib.hid (HNX.out _ HS.out)⟩
            have hm0 : c - N = M → ∀ (A : Option Addr) (n0 : Nat), n0 = 0 → RdV wr B (.slice A n0 0) (bv z2) := fun h A n0 hn => by subst hn; rw [HNO.out h]; exact RdV.zeroC wr B _ 0 (by omega)
            have HREL := Lib.hid hrel2
            have HM0 := Lib.hid hm0
            have hzl3 : z.length - M = y.length - N - M := by rw [HYD.out]
            have hmm := HM.out
            rw [hzl3] at hmm
            have HM := Lib.hid hmm
            clear hrel2 hm0 hzl3 hmm
            clear hk0 hrl hs3 hD
            have hcc := HC.out wr o n k D (by omega) HIO.out HKP.out hD0 hD2 (by omega)
            have HCC := Lib.hid hcc
            clear hcc
            go_wp2_with fail
            refine HV.out.mono ?_
            rintro e w1 ⟨rfl, rfl⟩
            go_wp2_with fail
            refine HV2.out.mono ?_
            rintro e w1 ⟨rfl, rfl⟩
            go_wp2_with fail
            all_goals (refine HCC.out.mono ?_; rintro e w2 ⟨rfl, hi2, hb2⟩)
            all_goals (go_wp2; go_roundw)
            all_goals first
              | (case measure => simp [lenV]; omega)
              | (case rel => exact HREL.out _ _ _ (by rfl) (by first | exact HM.out | exact HM0.out (by omega) _ _ (by omega)) hi2 hb2)
      · have hand1 : bits .and .u64 (V : Int) 1 = 0 := by rw [hand]; rfl
        clear hand
        by_cases hrl : room - o.length < k
        · have HS := Lib.hid ((HLET.out k 0 HK.out HQ.out).trans ((if_neg hk0).trans ((if_neg (by simp)).trans (if_pos hrl))))
          have hr2 : (room : Int) - (o.length : Int) < (k : Int) := by omega
          clear hk0 hrl
          go_wp2_with fail
          refine HV.out.mono ?_
          rintro e w1 ⟨rfl, rfl⟩
          go_wp2
          all_goals go_ret
          all_goals exact HST.out _ HS.out _ _ (by rfl) HIO.out HBEL.out
        have hs3 := (HLET.out k 0 HK.out HQ.out).trans ((if_neg hk0).trans ((if_neg (by simp)).trans (if_neg hrl)))
        have hkp : (0 : Int) < (k : Int) := by omega
        have hr2 : (k : Int) ≤ (room : Int) - (o.length : Int) := by omega
        by_cases hzs : z.length < k
        · have HS := Lib.hid (hs3.trans (if_pos hzs))
          have hzs2 : ((y.length - N : Nat) : Int) < (k : Int) := by have := HYD.out; omega
          clear hk0 hrl hs3 hzs
          go_wp2_with fail
          refine HV.out.mono ?_
          rintro e w1 ⟨rfl, rfl⟩
          go_wp2
          all_goals go_ret
          all_goals exact HST.out _ HS.out _ _ (by rfl) HIO.out HBEL.out
        have HS := Lib.hid (hs3.trans (if_neg hzs))
        have hkz : k ≤ z.length := by omega
        have hky : k ≤ y.length - N := by have := HYD.out; omega
        have hpc := RdV.sliced HU.out 0 k k (by omega) (by have := HYD.out; omega) (by omega) (by omega)
        unfold Go.sliced at hpc
        rw [if_neg (by omega), Nat.sub_zero, List.drop_zero, show (bv z).take k = bv (z.take k) from by simp [bv]] at hpc
        simp only [Option.map, Addr.add, Nat.zero_mul, Nat.add_zero] at hpc
        have hpl : (z.take k).length = k := by rw [List.length_take]; omega
        have hcc := HL.out wr o n _ (z.take k) (by omega) HIO.out hpc (by rw [hpl]; omega)
        rw [hpl] at hcc
        have hmm := HU.out.part k (z.length - k) (by rw [bv_length]; omega)
        rw [show (bv z).drop k = bv (z.drop k) from by simp [bv], List.take_of_length_le (by rw [bv_length, List.length_drop]; omega)] at hmm
        have hzl : (z.drop k).length = z.length - k := List.length_drop ..
        have hm0 : c - N = k → ∀ (A : Option Addr) (n0 c0 : Nat), n0 = 0 → c0 ≤ 9223372036854775807 → RdV wr B (.slice A n0 c0) (bv (z.drop k)) := fun h A n0 c0 hn hc0 => by
          subst hn
          rw [List.drop_eq_nil_of_le (by have := HYD.out; omega)]
          exact RdV.zeroC wr B _ c0 (by omega)
        have hrel2 : ∀ (v d : Value) (w2 : World), d = .int .i64 ((o.length : Int) + (k : Int)) → RdV wr B v (bv (z.drop k)) → I (o ++ z.take k) (n + k) w2 → Below B wr w2 → WRel B I room x w v d w2 := fun v d w2 h1 h2 h3 h4 =>
          ⟨z.drop k, o ++ z.take k, n + k, h2.below h4, by rw [h1, List.length_append, hpl, Int.natCast_add], h3, by rw [List.length_append, hpl]; omega, by have := HYD.out; omega, HBEL.out.trans h4, Lib.hid (HNX.out _ HS.out)⟩
        have hzl3 : z.length - k = y.length - N - k := by rw [HYD.out]
        rw [hzl3] at hmm
        have HM := Lib.hid hmm
        have HM0 := Lib.hid hm0
        have HCC := Lib.hid hcc
        have HREL := Lib.hid hrel2
        clear hpc hcc hmm hm0 hrel2 hzl3 hzl hkz hzs hs3 hk0 hrl hpl
        go_wp2_with fail
        refine HV.out.mono ?_
        rintro e w1 ⟨rfl, rfl⟩
        go_wp2_with fail
        refine HCC.out.mono ?_
        rintro e w2 ⟨rfl, hi2, hb2⟩
        go_wp2
        all_goals go_roundw
        all_goals first
          | (case measure => simp [lenV]; omega)
          | (case rel => exact HREL.out _ _ _ (by rfl) (by first | exact HM.out | exact HM0.out (by omega) _ _ _ (by omega) (by omega) | (split; exact HM0.out (by omega) _ _ _ (by omega) (by omega); exact HM.out)) hi2 hb2)


set_option maxRecDepth 100000 in
set_option maxHeartbeats 4000000 in
theorem walk_C (capL capC : Value) (B : Nat) (I : List UInt8 → Nat → World → Prop) (most : Int) (m0 : -9223372036854775808 ≤ most) (hmost : most ≤ 1099511627776) (hL : LitC 19 capL B I most.toNat Try.prog) (hC : CopC 20 capC B I most.toNat Try.prog)
    (vb : Value) (x : List UInt8) (hx : x.length < 4294967296) (w : World) (hB : B ≤ w.heap.size) (hr : RdV w B vb (bv x)) (hI : I [] 0 w) :
    Calls Try.prog 14 #[vb, .int .i64 most, .func (Fn.func 19) #[] #[capL], .func (Fn.func 20) #[] #[capC]] w (WalkP B I most.toNat x w) := by
  obtain ⟨room, hroom⟩ : ∃ room, most.toNat = room := ⟨_, rfl⟩
  have hrm : (room : Int) ≤ 1099511627776 := by omega
  have hmax : 0 ≤ most ∧ most = (room : Int) ∨ most < 0 ∧ room = 0 := by omega
  rw [hroom] at hL hC ⊢
  clear hroom
  obtain ⟨A, c, rfl, hc1, hc2, hc3⟩ := id hr
  rw [bv_length] at hc1 hc3 hr ⊢
  unfold maxLen at hc2
  clear hc3
  have hfin : ∀ (o : List UInt8) (n ev : Nat), Lz.Walks room x o n ev → o.length ≤ room → ∀ e w', e = Ending.returned (.int .i64 (ev : Nat)) → I o n w' → Below B w w' → WalkP B I room x w e w' := fun o n ev h1 h4 e w' h2 h3 hb => ⟨o, n, ev, h1, h2, h3, h4, hb⟩
  rcases x with _ | ⟨a, t⟩
  · have HF := Lib.hid (hfin [] 0 21 .nil (by simp))
    have HI := Lib.hid hI
    clear hfin hI hr hL hC
    go_enter Try.func14, Try.ntmps14
    go_wp2
    go_ret
    exact HF.out _ _ (by rfl) HI.out (Below.refl _ _)
  · obtain ⟨b, off, rfl, hbB, hcell⟩ := hr.get (j := 0) (u := .int .u8 (a.toNat : Int)) (by simp [bv])
    have hal := a.toNat_lt
    have hrest : ∃ v : Value, (if c = 1 then Value.slice (some ⟨b, off, none⟩) 0 0 else Value.slice (some ⟨b, off + 1, none⟩) t.length (c - 1)) = v ∧ RdV w B v (bv t) := by
      refine ⟨_, rfl, ?_⟩
      have htl : (a :: t).length = t.length + 1 := rfl
      by_cases h : c = 1
      · rw [if_pos h, show t = [] from List.eq_nil_of_length_eq_zero (by omega)]
        exact RdV.zeroC w B _ 0 (by omega)
      · have := hr.part 1 t.length (by rw [bv_length]; omega)
        rw [if_neg h]
        simpa [bv, List.take_of_length_le] using this
    obtain ⟨v, hv, hrv⟩ := hrest
    have hlen : (a :: t).length = t.length + 1 := rfl
    rw [hlen] at *
    have HR := Lib.hid hrv
    have HI := Lib.hid hI
    have HL := Lib.hid hL
    have HC := Lib.hid hC
    have HF := Lib.hid hfin
    clear hr hrv hL hC hI hfin
    have hc1' : t.length + 1 ≤ c := hc1
    have hx' : t.length + 1 < 4294967296 := hx
    have htl : t.length ≤ 4294967295 := by omega
    have k0 : w.cell? ⟨b, off, none⟩ = some (.int .u8 (a.toNat : Int)) := by simpa using hcell
    clear hc1 hx hlen hcell
    have ha : a.toNat = 0 ∨ a.toNat = 1 ∨ 1 < a.toNat := by omega
    have HA : Hid (∀ q : UInt8, a.toNat = q.toNat → a = q) := fun q h => UInt8.toNat_inj.1 h
    have htk := tokens_C capL capC B I room (by omega) HL.out HC.out v t (by omega) w hB HR.out HI.out
    have hlit := HL.out w [] 0 v t hB HI.out HR.out
    have HT := Lib.hid htk
    have HLIT := Lib.hid hlit
    clear htk hlit
    generalize ha2 : a.toNat = an at *
    have HA2 := Lib.hid ha2
    clear ha2
    by_cases hc : c = 1
    · rw [if_pos hc] at hv
      subst hv
      subst hc
      have ht0 : t.length = 0 := by omega
      have ht1 : t = [] := List.eq_nil_of_length_eq_zero ht0
      subst ht1
      rcases hmax with ⟨hm0, rfl⟩ | ⟨hm0, rfl⟩
      · rcases ha with h0 | h0 | h0
        · have ea := HA.out 0 (by rw [h0]; rfl)
          subst h0
          have HW := Lib.hid (HF.out [] 0 0 (by rw [ea]; exact .raw (r := []) (by simp)) (by simp))
          have hl := HLIT.out (by simp)
          simp only [List.nil_append, Nat.zero_add, List.length_nil] at hl
          have HLL := Lib.hid hl
          clear hl
          go_enter Try.func14, Try.ntmps14
          go_wp2_with fail
          refine HLL.out.mono ?_
          rintro e w2 ⟨rfl, hi2, hb2⟩
          go_wp2
          go_ret
          exact HW.out _ _ (by rfl) hi2 hb2
        · have ea := HA.out 1 (by rw [h0]; rfl)
          subst h0
          go_enter Try.func14, Try.ntmps14
          go_wp2_with fail
          refine HT.out.mono ?_
          rintro e w2 ⟨s, ev, h1, rfl, h3, h4, h5⟩
          go_wp2
          go_ret
          exact HF.out s.out s.lit ev (by rw [ea]; exact .toks h1) h4 _ _ (by rfl) h3 h5
        · have t1 : ((an : Int) == 0) = false := by rw [beq_eq_false_iff_ne]; omega
          have t2 : ((an : Int) == 1) = false := by rw [beq_eq_false_iff_ne]; omega
          have HW := Lib.hid (HF.out [] 0 22 (.form (by rw [HA2.out]; exact h0)) (by simp))
          go_enter Try.func14, Try.ntmps14
          go_wp2
          go_ret
          exact HW.out _ _ (by rfl) HI.out (Below.refl _ _)
      · rcases ha with h0 | h0 | h0
        · have ea := HA.out 0 (by rw [h0]; rfl)
          subst h0
          have HW := Lib.hid (HF.out [] 0 0 (by rw [ea]; exact .raw (r := []) (by simp)) (by simp))
          have hl := HLIT.out (by simp)
          simp only [List.nil_append, Nat.zero_add, List.length_nil] at hl
          have HLL := Lib.hid hl
          clear hl
          go_enter Try.func14, Try.ntmps14
          go_wp2_with fail
          refine HLL.out.mono ?_
          rintro e w2 ⟨rfl, hi2, hb2⟩
          go_wp2
          go_ret
          exact HW.out _ _ (by rfl) hi2 hb2
        · have ea := HA.out 1 (by rw [h0]; rfl)
          subst h0
          go_enter Try.func14, Try.ntmps14
          go_wp2_with fail
          refine HT.out.mono ?_
          rintro e w2 ⟨s, ev, h1, rfl, h3, h4, h5⟩
          go_wp2
          go_ret
          exact HF.out s.out s.lit ev (by rw [ea]; exact .toks h1) h4 _ _ (by rfl) h3 h5
        · have t1 : ((an : Int) == 0) = false := by rw [beq_eq_false_iff_ne]; omega
          have t2 : ((an : Int) == 1) = false := by rw [beq_eq_false_iff_ne]; omega
          have HW := Lib.hid (HF.out [] 0 22 (.form (by rw [HA2.out]; exact h0)) (by simp))
          go_enter Try.func14, Try.ntmps14
          go_wp2
          go_ret
          exact HW.out _ _ (by rfl) HI.out (Below.refl _ _)
    · rw [if_neg hc] at hv
      subst hv
      rcases hmax with ⟨hm0, rfl⟩ | ⟨hm0, rfl⟩
      · rcases ha with h0 | h0 | h0
        · have ea := HA.out 0 (by rw [h0]; rfl)
          subst h0
          by_cases hlen : room < t.length
          · have HW := Lib.hid (HF.out [] 0 24 (by rw [ea]; exact .long hlen) (by simp))
            go_enter Try.func14, Try.ntmps14
            go_wp2
            go_ret
            exact HW.out _ _ (by rfl) HI.out (Below.refl _ _)
          · have HW := Lib.hid (HF.out t t.length 0 (by rw [ea]; exact .raw (by omega)) (by omega))
            have hl := HLIT.out (by simp; omega)
            rw [List.nil_append, Nat.zero_add] at hl
            have HLL := Lib.hid hl
            clear hl
            go_enter Try.func14, Try.ntmps14
            go_wp2_with fail
            refine HLL.out.mono ?_
            rintro e w2 ⟨rfl, hi2, hb2⟩
            go_wp2
            go_ret
            exact HW.out _ _ (by rfl) hi2 hb2
        · have ea := HA.out 1 (by rw [h0]; rfl)
          subst h0
          go_enter Try.func14, Try.ntmps14
          go_wp2_with fail
          refine HT.out.mono ?_
          rintro e w2 ⟨s, ev, h1, rfl, h3, h4, h5⟩
          go_wp2
          go_ret
          exact HF.out s.out s.lit ev (by rw [ea]; exact .toks h1) h4 _ _ (by rfl) h3 h5
        · have t1 : ((an : Int) == 0) = false := by rw [beq_eq_false_iff_ne]; omega
          have t2 : ((an : Int) == 1) = false := by rw [beq_eq_false_iff_ne]; omega
          have HW := Lib.hid (HF.out [] 0 22 (.form (by rw [HA2.out]; exact h0)) (by simp))
          go_enter Try.func14, Try.ntmps14
          go_wp2
          go_ret
          exact HW.out _ _ (by rfl) HI.out (Below.refl _ _)
      · rcases ha with h0 | h0 | h0
        · have ea := HA.out 0 (by rw [h0]; rfl)
          subst h0
          by_cases hlen : 0 < t.length
          · have HW := Lib.hid (HF.out [] 0 24 (by rw [ea]; exact .long hlen) (by simp))
            go_enter Try.func14, Try.ntmps14
            go_wp2
            go_ret
            exact HW.out _ _ (by rfl) HI.out (Below.refl _ _)
          · obtain rfl : t = [] := List.eq_nil_of_length_eq_zero (by omega)
            have HW := Lib.hid (HF.out [] 0 0 (by rw [ea]; exact .raw (r := []) (by simp)) (by simp))
            have hl := HLIT.out (by simp)
            simp only [List.nil_append, Nat.zero_add, List.length_nil] at hl
            have HLL := Lib.hid hl
            clear hl
            go_enter Try.func14, Try.ntmps14
            go_wp2_with fail
            refine HLL.out.mono ?_
            rintro e w2 ⟨rfl, hi2, hb2⟩
            go_wp2
            go_ret
            exact HW.out _ _ (by rfl) hi2 hb2
        · have ea := HA.out 1 (by rw [h0]; rfl)
          subst h0
          go_enter Try.func14, Try.ntmps14
          go_wp2_with fail
          refine HT.out.mono ?_
          rintro e w2 ⟨s, ev, h1, rfl, h3, h4, h5⟩
          go_wp2
          go_ret
          exact HF.out s.out s.lit ev (by rw [ea]; exact .toks h1) h4 _ _ (by rfl) h3 h5
        · have t1 : ((an : Int) == 0) = false := by rw [beq_eq_false_iff_ne]; omega
          have t2 : ((an : Int) == 1) = false := by rw [beq_eq_false_iff_ne]; omega
          have HW := Lib.hid (HF.out [] 0 22 (.form (by rw [HA2.out]; exact h0)) (by simp))
          go_enter Try.func14, Try.ntmps14
          go_wp2
          go_ret
          exact HW.out _ _ (by rfl) HI.out (Below.refl _ _)


set_option maxRecDepth 100000 in
set_option maxHeartbeats 4000000 in
theorem tokens_U (capL capC : Value) (B : Nat) (I : List UInt8 → Nat → World → Prop) (room : Nat) (hroom : room ≤ 1099511627776) (hL : LitC 15 capL B I room Try.prog) (hC : CopC 16 capC B I room Try.prog)
    (vb : Value) (x : List UInt8) (hx : x.length < 4294967296) (w : World) (hB : B ≤ w.heap.size) (hr : RdV w B vb (bv x)) (hI : I [] 0 w) :
    Calls Try.prog 28 #[vb, .int .i64 (room : Nat), .func (Fn.func 15) #[] #[capL], .func (Fn.func 16) #[] #[capC]] w (WPost B I room x w) := by
  have HL := Lib.hid hL
  have HC := Lib.hid hC
  have HR := Lib.hid hr
  have HI := Lib.hid hI
  clear hL hC hr hI
  go_enter Try.func28, Try.ntmps28
  go_wp2_with fail
  go_loopw [0, 9] (fun r d wr => WRel B I room x w r d wr) (fun r _ _ => lenV r)
  case atStart => exact ⟨x, [], 0, HR.out, by go_num, HI.out, by simp, by omega, Below.refl _ _, Lib.hid (fun _ _ h => h)⟩
  case round =>
    obtain ⟨y, o, n, hry, rfl, hio, hor, hyx, hbel, HE⟩ := hrel
    have hsz := hbel.size
    obtain ⟨A, c, rfl, hc1, hc2, hc3⟩ := id hry
    rw [bv_length] at hc1 hc3 hry ⊢
    unfold maxLen at hc2
    clear hc3
    have hstop : ∀ ev : Nat, Lz.step room ⟨y, o, n⟩ = .stop ev → ∀ e wz, e = Ending.returned (.int .i64 (ev : Nat)) → I o n wz → Below B w wz → WPost B I room x w e wz := fun ev h e wz h1 h2 h3 => ⟨_, ev, HE.out _ _ (.stop h), h1, h2, hor, h3⟩
    have hnext : ∀ s', Lz.step room ⟨y, o, n⟩ = .next s' → ∀ s e, Lz.Ends room s' s e → Lz.Ends room ⟨x, [], 0⟩ s e := fun s' h s e k => HE.out _ _ (.next h k)
    have HST := Lib.hid hstop
    have HNX := Lib.hid hnext
    have HBEL := Lib.hid hbel
    have HIO := Lib.hid hio
    clear hstop hnext hbel hio HE
    by_cases hy0 : y = []
    · have hs : Lz.step room ⟨y, o, n⟩ = .stop 0 := by unfold Lz.step; rw [if_pos hy0]
      have HS := Lib.hid hs
      have hyl : y.length = 0 := by rw [hy0]; rfl
      clear hs hy0 hry
      go_wp2
      go_ret
      exact HST.out 0 HS.out _ _ (by rfl) HIO.out HBEL.out
    have hyl : 0 < y.length := by rcases y with _ | ⟨a, t⟩; exact absurd rfl hy0; simp
    have hv := readvar_any (.slice A y.length c) y (by omega) wr B hry
    by_cases hE : Pu.rvE y = 0
    rotate_left
    · have hs : Lz.step room ⟨y, o, n⟩ = .stop (Pu.rvE y) := by unfold Lz.step; rw [if_neg hy0, if_pos hE]
      have t1 : ((Pu.rvE y : Int) == 0) = false := by rw [beq_eq_false_iff_ne]; omega
      have HS := Lib.hid hs
      have HV := Lib.hid hv
      clear hs hv hy0 hry hE
      generalize Pu.rvE y = ev at *
      go_wp2_with fail
      refine HV.out.mono ?_
      rintro e w1 ⟨rfl, rfl⟩
      go_wp2
      go_ret
      exact HST.out _ HS.out _ _ (by rfl) HIO.out HBEL.out
    have hNp := rvN_pos hE
    have hNl := rvN_le y
    have hVl := rvV_lt y
    rw [hE] at hv
    have hyd : (y.drop (Pu.rvN y)).length = y.length - Pu.rvN y := List.length_drop ..
    have hlet : ∀ k q : Nat, Pu.rvV y / 2 = k → Pu.rvV y % 2 = q → Lz.step room ⟨y, o, n⟩ = (if k = 0 then .stop 22 else if q = 1 then
        (if Pu.rvE (y.drop (Pu.rvN y)) ≠ 0 then .stop (Pu.rvE (y.drop (Pu.rvN y))) else
        if Pu.rvV (y.drop (Pu.rvN y)) = 0 ∨ o.length < Pu.rvV (y.drop (Pu.rvN y)) then .stop 22 else
        if room - o.length < k then .stop 24 else
        .next ⟨(y.drop (Pu.rvN y)).drop (Pu.rvN (y.drop (Pu.rvN y))), Lz.back k (Pu.rvV (y.drop (Pu.rvN y))) o, n⟩)
      else
        (if room - o.length < k then .stop 24 else
        if (y.drop (Pu.rvN y)).length < k then .stop 21 else
        .next ⟨(y.drop (Pu.rvN y)).drop k, o ++ (y.drop (Pu.rvN y)).take k, n + k⟩)) := by
      intro k q h1 h2
      subst h1 h2
      unfold Lz.step
      rw [if_neg hy0, if_neg (by rw [hE]; simp)]
    have HV := Lib.hid hv
    have HLET := Lib.hid hlet
    clear hv hE hy0 hlet
    generalize Pu.rvV y = V at *
    generalize Pu.rvN y = N at *
    generalize hz : y.drop N = z at *
    have hbz : (bv y).drop N = bv z := by rw [← hz]; simp [bv]
    have HBZ := Lib.hid hbz
    clear hz hbz
    obtain ⟨k, hk⟩ : ∃ k, V / 2 = k := ⟨_, rfl⟩
    have HK := Lib.hid hk
    have hkl : (k : Int) ≤ 9223372036854775807 := by omega
    have hq : V % 2 = 1 ∨ V % 2 = 0 := by omega
    have hand : bits .and .u64 (V : Int) 1 = ((V % 2 : Nat) : Int) := Pu.u64_mask1 V hVl
    obtain ⟨q, hqq⟩ : ∃ q, V % 2 = q := ⟨_, rfl⟩
    rw [hqq] at hand hq
    have HQ := Lib.hid hqq
    have hdiv : (V : Int) / 2 = (k : Int) := by omega
    clear hk hqq
    obtain ⟨b, off, rfl, hbB, _⟩ := hry.get (j := 0) (u := .int .u8 (y[0].toNat : Int)) (by rw [bv_get, List.getElem?_eq_getElem hyl]; rfl)
    by_cases hcN : N = c
    · obtain rfl : N = c := hcN
      have hy2 : y.length = N := by omega
      have hz0 : z = [] := List.eq_nil_of_length_eq_zero (by omega)
      have hE2 : Pu.rvE z = 21 := by rw [hz0]; rfl
      have hv2 := readvar_any (.slice (some ⟨b, off, none⟩) 0 0) z (by omega) wr B (by rw [hz0]; exact RdV.zeroC wr B _ 0 (by omega))
      rw [hE2] at hv2
      have HV2 := Lib.hid hv2
      have HE2 := Lib.hid hE2
      have HZL := Lib.hid (show z.length = 0 by omega)
      clear hv2 hE2 hz0 hy2 hyd
      by_cases hk0 : k = 0
      · have HS := Lib.hid ((HLET.out k q HK.out HQ.out).trans (if_pos hk0))
        have t2 : ((k : Int) == 0) = true := by rw [beq_iff_eq]; omega
        clear hk0 hq hkl
        go_wp2_with fail
        refine HV.out.mono ?_
        rintro e w1 ⟨rfl, rfl⟩
        go_wp2
        all_goals go_ret
        all_goals exact HST.out _ HS.out _ _ (by rfl) HIO.out HBEL.out
      have t2 : ((k : Int) == 0) = false := by rw [beq_eq_false_iff_ne]; omega

      rcases hq with rfl | rfl
      · have hand1 : bits .and .u64 (V : Int) 1 = 1 := by rw [hand]; rfl
        clear hand
        have HS := Lib.hid ((HLET.out k 1 HK.out HQ.out).trans ((if_neg hk0).trans ((if_pos rfl).trans ((if_pos (by rw [HE2.out]; simp)).trans (by rw [HE2.out])))))
        clear hk0
        go_wp2_with fail
        refine HV.out.mono ?_
        rintro e w1 ⟨rfl, rfl⟩
        go_wp2_with fail
        refine HV2.out.mono ?_
        rintro e w1 ⟨rfl, rfl⟩
        go_wp2
        all_goals go_ret
        all_goals exact HST.out _ HS.out _ _ (by rfl) HIO.out HBEL.out
      · have hand1 : bits .and .u64 (V : Int) 1 = 0 := by rw [hand]; rfl
        clear hand
        by_cases hrl : room - o.length < k
        · have HS := Lib.hid ((HLET.out k 0 HK.out HQ.out).trans ((if_neg hk0).trans ((if_neg (by simp)).trans (if_pos hrl))))
          have hr2 : (room : Int) - (o.length : Int) < (k : Int) := by omega
          clear hk0 hrl
          go_wp2_with fail
          refine HV.out.mono ?_
          rintro e w1 ⟨rfl, rfl⟩
          go_wp2
          all_goals go_ret
          all_goals exact HST.out _ HS.out _ _ (by rfl) HIO.out HBEL.out
        · have HS := Lib.hid ((HLET.out k 0 HK.out HQ.out).trans ((if_neg hk0).trans ((if_neg (by simp)).trans ((if_neg hrl).trans (if_pos (by have := HZL.out; omega))))))
          have hr2 : (k : Int) ≤ (room : Int) - (o.length : Int) := by omega
          have hkp : (0 : Int) < (k : Int) := by omega
          clear hk0 hrl
          go_wp2_with fail
          refine HV.out.mono ?_
          rintro e w1 ⟨rfl, rfl⟩
          go_wp2
          all_goals go_ret
          all_goals exact HST.out _ HS.out _ _ (by rfl) HIO.out HBEL.out
    · have hu := hry.part N (y.length - N) (by rw [bv_length]; omega)
      rw [HBZ.out, List.take_of_length_le (by rw [bv_length]; omega)] at hu
      have hv2 := readvar_any _ z (by omega) wr B hu
      have HU := Lib.hid hu
      have HYD := Lib.hid hyd
      clear hu hyd
      by_cases hk0 : k = 0
      · have HS := Lib.hid ((HLET.out k q HK.out HQ.out).trans (if_pos hk0))
        have t2 : ((k : Int) == 0) = true := by rw [beq_iff_eq]; omega
        clear hk0 hq hkl
        go_wp2_with fail
        refine HV.out.mono ?_
        rintro e w1 ⟨rfl, rfl⟩
        go_wp2
        all_goals go_ret
        all_goals exact HST.out _ HS.out _ _ (by rfl) HIO.out HBEL.out
      have t2 : ((k : Int) == 0) = false := by rw [beq_eq_false_iff_ne]; omega

      rcases hq with rfl | rfl
      · have hand1 : bits .and .u64 (V : Int) 1 = 1 := by rw [hand]; rfl
        clear hand
        have hstep := (HLET.out k 1 HK.out HQ.out).trans ((if_neg hk0).trans (if_pos rfl))
        by_cases hE2 : Pu.rvE z = 0
        rotate_left
        · have HS := Lib.hid (hstep.trans (if_pos hE2))
          have t1 : ((Pu.rvE z : Int) == 0) = false := by rw [beq_eq_false_iff_ne]; omega
          have HV2 := Lib.hid hv2
          clear hstep hk0 hE2 hv2
          generalize Pu.rvE z = ev at *
          go_wp2_with fail
          refine HV.out.mono ?_
          rintro e w1 ⟨rfl, rfl⟩
          go_wp2_with fail
          refine HV2.out.mono ?_
          rintro e w1 ⟨rfl, rfl⟩
          go_wp2
          all_goals go_ret
          all_goals exact HST.out _ HS.out _ _ (by rfl) HIO.out HBEL.out
        replace hstep := hstep.trans (if_neg (by simp [hE2]))
        have hMp := rvN_pos hE2
        have hMl := rvN_le z
        have hyd := HYD.out
        have hDl := rvV_lt z
        rw [hE2] at hv2
        have HV2 := Lib.hid hv2
        have hmore := HU.out.part (Pu.rvN z) (z.length - Pu.rvN z) (by rw [bv_length]; omega)
        rw [show (bv z).drop (Pu.rvN z) = bv (z.drop (Pu.rvN z)) from by simp [bv], List.take_of_length_le (by rw [bv_length, List.length_drop]; omega)] at hmore
        have hnone : c - N = Pu.rvN z → z.drop (Pu.rvN z) = [] := fun h => List.drop_eq_nil_of_le (by omega)
        have hzl : (z.drop (Pu.rvN z)).length = z.length - Pu.rvN z := List.length_drop ..
        have HM := Lib.hid hmore
        have HNO := Lib.hid hnone
        have HST2 := Lib.hid hstep
        have hMl2 : Pu.rvN z ≤ y.length - N := by omega
        clear hv2 hmore hnone hstep hE2 hyd
        generalize Pu.rvN z = M at *
        generalize Pu.rvV z = D at *
        generalize z.drop M = z2 at *
        by_cases hD : D = 0 ∨ o.length < D
        · have HS := Lib.hid (HST2.out.trans (if_pos hD))
          rcases hD with rfl | hD
          · clear hk0
            go_wp2_with fail
            refine HV.out.mono ?_
            rintro e w1 ⟨rfl, rfl⟩
            go_wp2_with fail
            refine HV2.out.mono ?_
            rintro e w1 ⟨rfl, rfl⟩
            go_wp2
            all_goals go_ret
            all_goals exact HST.out _ HS.out _ _ (by rfl) HIO.out HBEL.out
          · have t3 : ((D : Int) == 0) = false := by rw [beq_eq_false_iff_ne]; omega
            clear hk0
            go_wp2_with fail
            refine HV.out.mono ?_
            rintro e w1 ⟨rfl, rfl⟩
            go_wp2_with fail
            refine HV2.out.mono ?_
            rintro e w1 ⟨rfl, rfl⟩
            go_wp2
            all_goals go_ret
            all_goals exact HST.out _ HS.out _ _ (by rfl) HIO.out HBEL.out
        · have hs3 := HST2.out.trans (if_neg hD)
          have t3 : ((D : Int) == 0) = false := by rw [beq_eq_false_iff_ne]; omega
          have hD2 : D ≤ o.length := by omega
          have hD0 : 0 < D := by omega
          by_cases hrl : room - o.length < k
          · have HS := Lib.hid (hs3.trans (if_pos hrl))
            have hr2 : (room : Int) - (o.length : Int) < (k : Int) := by omega
            clear hk0 hrl hs3 hD
            go_wp2_with fail
            refine HV.out.mono ?_
            rintro e w1 ⟨rfl, rfl⟩
            go_wp2_with fail
            refine HV2.out.mono ?_
            rintro e w1 ⟨rfl, rfl⟩
            go_wp2
            all_goals go_ret
            all_goals exact HST.out _ HS.out _ _ (by rfl) HIO.out HBEL.out
          · have HS := Lib.hid (hs3.trans (if_neg hrl))
            have hr2 : (k : Int) ≤ (room : Int) - (o.length : Int) := by omega
            have HKP := Lib.hid (show 0 < k by omega)
            have hrel2 : ∀ (v d : Value) (w2 : World), d = .int .i64 ((o.length : Int) + (k : Int)) → RdV wr B v (bv z2) → I (Lz.back k D o) n w2 → Below B wr w2 → WRel B I room x w v d w2 := fun v d w2 h1 h2 h3 h4 =>
              ⟨z2, Lz.back k D o, n, h2.below h4, by rw [h1, Lz.back_len, Int.natCast_add], h3, by rw [Lz.back_len]; omega, by have := HYD.out; omega, HBEL.out.trans h4, Lib.hid (HNX.out _ HS.out)⟩
            have hm0 : c - N = M → ∀ (A : Option Addr) (n0 : Nat), n0 = 0 → RdV wr B (.slice A n0 0) (bv z2) := fun h A n0 hn => by subst hn; rw [HNO.out h]; exact RdV.zeroC wr B _ 0 (by omega)
            have HREL := Lib.hid hrel2
            have HM0 := Lib.hid hm0
            have hzl3 : z.length - M = y.length - N - M := by rw [HYD.out]
            have hmm := HM.out
            rw [hzl3] at hmm
            have HM := Lib.hid hmm
            clear hrel2 hm0 hzl3 hmm
            clear hk0 hrl hs3 hD
            have hcc := HC.out wr o n k D (by omega) HIO.out HKP.out hD0 hD2 (by omega)
            have HCC := Lib.hid hcc
            clear hcc
            go_wp2_with fail
            refine HV.out.mono ?_
            rintro e w1 ⟨rfl, rfl⟩
            go_wp2_with fail
            refine HV2.out.mono ?_
            rintro e w1 ⟨rfl, rfl⟩
            go_wp2_with fail
            all_goals (refine HCC.out.mono ?_; rintro e w2 ⟨rfl, hi2, hb2⟩)
            all_goals (go_wp2; go_roundw)
            all_goals first
              | (case measure => simp [lenV]; omega)
              | (case rel => exact HREL.out _ _ _ (by rfl) (by first | exact HM.out | exact HM0.out (by omega) _ _ (by omega)) hi2 hb2)
      · have hand1 : bits .and .u64 (V : Int) 1 = 0 := by rw [hand]; rfl
        clear hand
        by_cases hrl : room - o.length < k
        · have HS := Lib.hid ((HLET.out k 0 HK.out HQ.out).trans ((if_neg hk0).trans ((if_neg (by simp)).trans (if_pos hrl))))
          have hr2 : (room : Int) - (o.length : Int) < (k : Int) := by omega
          clear hk0 hrl
          go_wp2_with fail
          refine HV.out.mono ?_
          rintro e w1 ⟨rfl, rfl⟩
          go_wp2
          all_goals go_ret
          all_goals exact HST.out _ HS.out _ _ (by rfl) HIO.out HBEL.out
        have hs3 := (HLET.out k 0 HK.out HQ.out).trans ((if_neg hk0).trans ((if_neg (by simp)).trans (if_neg hrl)))
        have hkp : (0 : Int) < (k : Int) := by omega
        have hr2 : (k : Int) ≤ (room : Int) - (o.length : Int) := by omega
        by_cases hzs : z.length < k
        · have HS := Lib.hid (hs3.trans (if_pos hzs))
          have hzs2 : ((y.length - N : Nat) : Int) < (k : Int) := by have := HYD.out; omega
          clear hk0 hrl hs3 hzs
          go_wp2_with fail
          refine HV.out.mono ?_
          rintro e w1 ⟨rfl, rfl⟩
          go_wp2
          all_goals go_ret
          all_goals exact HST.out _ HS.out _ _ (by rfl) HIO.out HBEL.out
        have HS := Lib.hid (hs3.trans (if_neg hzs))
        have hkz : k ≤ z.length := by omega
        have hky : k ≤ y.length - N := by have := HYD.out; omega
        have hpc := RdV.sliced HU.out 0 k k (by omega) (by have := HYD.out; omega) (by omega) (by omega)
        unfold Go.sliced at hpc
        rw [if_neg (by omega), Nat.sub_zero, List.drop_zero, show (bv z).take k = bv (z.take k) from by simp [bv]] at hpc
        simp only [Option.map, Addr.add, Nat.zero_mul, Nat.add_zero] at hpc
        have hpl : (z.take k).length = k := by rw [List.length_take]; omega
        have hcc := HL.out wr o n _ (z.take k) (by omega) HIO.out hpc (by rw [hpl]; omega)
        rw [hpl] at hcc
        have hmm := HU.out.part k (z.length - k) (by rw [bv_length]; omega)
        rw [show (bv z).drop k = bv (z.drop k) from by simp [bv], List.take_of_length_le (by rw [bv_length, List.length_drop]; omega)] at hmm
        have hzl : (z.drop k).length = z.length - k := List.length_drop ..
        have hm0 : c - N = k → ∀ (A : Option Addr) (n0 c0 : Nat), n0 = 0 → c0 ≤ 9223372036854775807 → RdV wr B (.slice A n0 c0) (bv (z.drop k)) := fun h A n0 c0 hn hc0 => by
          subst hn
          rw [List.drop_eq_nil_of_le (by have := HYD.out; omega)]
          exact RdV.zeroC wr B _ c0 (by omega)
        have hrel2 : ∀ (v d : Value) (w2 : World), d = .int .i64 ((o.length : Int) + (k : Int)) → RdV wr B v (bv (z.drop k)) → I (o ++ z.take k) (n + k) w2 → Below B wr w2 → WRel B I room x w v d w2 := fun v d w2 h1 h2 h3 h4 =>
          ⟨z.drop k, o ++ z.take k, n + k, h2.below h4, by rw [h1, List.length_append, hpl, Int.natCast_add], h3, by rw [List.length_append, hpl]; omega, by have := HYD.out; omega, HBEL.out.trans h4, Lib.hid (HNX.out _ HS.out)⟩
        have hzl3 : z.length - k = y.length - N - k := by rw [HYD.out]
        rw [hzl3] at hmm
        have HM := Lib.hid hmm
        have HM0 := Lib.hid hm0
        have HCC := Lib.hid hcc
        have HREL := Lib.hid hrel2
        clear hpc hcc hmm hm0 hrel2 hzl3 hzl hkz hzs hs3 hk0 hrl hpl
        go_wp2_with fail
        refine HV.out.mono ?_
        rintro e w1 ⟨rfl, rfl⟩
        go_wp2_with fail
        refine HCC.out.mono ?_
        rintro e w2 ⟨rfl, hi2, hb2⟩
        go_wp2
        all_goals go_roundw
        all_goals first
          | (case measure => simp [lenV]; omega)
          | (case rel => exact HREL.out _ _ _ (by rfl) (by first | exact HM.out | exact HM0.out (by omega) _ _ _ (by omega) (by omega) | (split; exact HM0.out (by omega) _ _ _ (by omega) (by omega); exact HM.out)) hi2 hb2)


set_option maxRecDepth 100000 in
set_option maxHeartbeats 4000000 in
theorem walk_U (capL capC : Value) (B : Nat) (I : List UInt8 → Nat → World → Prop) (most : Int) (m0 : -9223372036854775808 ≤ most) (hmost : most ≤ 1099511627776) (hL : LitC 15 capL B I most.toNat Try.prog) (hC : CopC 16 capC B I most.toNat Try.prog)
    (vb : Value) (x : List UInt8) (hx : x.length < 4294967296) (w : World) (hB : B ≤ w.heap.size) (hr : RdV w B vb (bv x)) (hI : I [] 0 w) :
    Calls Try.prog 14 #[vb, .int .i64 most, .func (Fn.func 15) #[] #[capL], .func (Fn.func 16) #[] #[capC]] w (WalkP B I most.toNat x w) := by
  obtain ⟨room, hroom⟩ : ∃ room, most.toNat = room := ⟨_, rfl⟩
  have hrm : (room : Int) ≤ 1099511627776 := by omega
  have hmax : 0 ≤ most ∧ most = (room : Int) ∨ most < 0 ∧ room = 0 := by omega
  rw [hroom] at hL hC ⊢
  clear hroom
  obtain ⟨A, c, rfl, hc1, hc2, hc3⟩ := id hr
  rw [bv_length] at hc1 hc3 hr ⊢
  unfold maxLen at hc2
  clear hc3
  have hfin : ∀ (o : List UInt8) (n ev : Nat), Lz.Walks room x o n ev → o.length ≤ room → ∀ e w', e = Ending.returned (.int .i64 (ev : Nat)) → I o n w' → Below B w w' → WalkP B I room x w e w' := fun o n ev h1 h4 e w' h2 h3 hb => ⟨o, n, ev, h1, h2, h3, h4, hb⟩
  rcases x with _ | ⟨a, t⟩
  · have HF := Lib.hid (hfin [] 0 21 .nil (by simp))
    have HI := Lib.hid hI
    clear hfin hI hr hL hC
    go_enter Try.func14, Try.ntmps14
    go_wp2
    go_ret
    exact HF.out _ _ (by rfl) HI.out (Below.refl _ _)
  · obtain ⟨b, off, rfl, hbB, hcell⟩ := hr.get (j := 0) (u := .int .u8 (a.toNat : Int)) (by simp [bv])
    have hal := a.toNat_lt
    have hrest : ∃ v : Value, (if c = 1 then Value.slice (some ⟨b, off, none⟩) 0 0 else Value.slice (some ⟨b, off + 1, none⟩) t.length (c - 1)) = v ∧ RdV w B v (bv t) := by
      refine ⟨_, rfl, ?_⟩
      have htl : (a :: t).length = t.length + 1 := rfl
      by_cases h : c = 1
      · rw [if_pos h, show t = [] from List.eq_nil_of_length_eq_zero (by omega)]
        exact RdV.zeroC w B _ 0 (by omega)
      · have := hr.part 1 t.length (by rw [bv_length]; omega)
        rw [if_neg h]
        simpa [bv, List.take_of_length_le] using this
    obtain ⟨v, hv, hrv⟩ := hrest
    have hlen : (a :: t).length = t.length + 1 := rfl
    rw [hlen] at *
    have HR := Lib.hid hrv
    have HI := Lib.hid hI
    have HL := Lib.hid hL
    have HC := Lib.hid hC
    have HF := Lib.hid hfin
    clear hr hrv hL hC hI hfin
    have hc1' : t.length + 1 ≤ c := hc1
    have hx' : t.length + 1 < 4294967296 := hx
    have htl : t.length ≤ 4294967295 := by omega
    have k0 : w.cell? ⟨b, off, none⟩ = some (.int .u8 (a.toNat : Int)) := by simpa using hcell
    clear hc1 hx hlen hcell
    have ha : a.toNat = 0 ∨ a.toNat = 1 ∨ 1 < a.toNat := by omega
    have HA : Hid (∀ q : UInt8, a.toNat = q.toNat → a = q) := fun q h => UInt8.toNat_inj.1 h
    have htk := tokens_U capL capC B I room (by omega) HL.out HC.out v t (by omega) w hB HR.out HI.out
    have hlit := HL.out w [] 0 v t hB HI.out HR.out
    have HT := Lib.hid htk
    have HLIT := Lib.hid hlit
    clear htk hlit
    generalize ha2 : a.toNat = an at *
    have HA2 := Lib.hid ha2
    clear ha2
    by_cases hc : c = 1
    · rw [if_pos hc] at hv
      subst hv
      subst hc
      have ht0 : t.length = 0 := by omega
      have ht1 : t = [] := List.eq_nil_of_length_eq_zero ht0
      subst ht1
      rcases hmax with ⟨hm0, rfl⟩ | ⟨hm0, rfl⟩
      · rcases ha with h0 | h0 | h0
        · have ea := HA.out 0 (by rw [h0]; rfl)
          subst h0
          have HW := Lib.hid (HF.out [] 0 0 (by rw [ea]; exact .raw (r := []) (by simp)) (by simp))
          have hl := HLIT.out (by simp)
          simp only [List.nil_append, Nat.zero_add, List.length_nil] at hl
          have HLL := Lib.hid hl
          clear hl
          go_enter Try.func14, Try.ntmps14
          go_wp2_with fail
          refine HLL.out.mono ?_
          rintro e w2 ⟨rfl, hi2, hb2⟩
          go_wp2
          go_ret
          exact HW.out _ _ (by rfl) hi2 hb2
        · have ea := HA.out 1 (by rw [h0]; rfl)
          subst h0
          go_enter Try.func14, Try.ntmps14
          go_wp2_with fail
          refine HT.out.mono ?_
          rintro e w2 ⟨s, ev, h1, rfl, h3, h4, h5⟩
          go_wp2
          go_ret
          exact HF.out s.out s.lit ev (by rw [ea]; exact .toks h1) h4 _ _ (by rfl) h3 h5
        · have t1 : ((an : Int) == 0) = false := by rw [beq_eq_false_iff_ne]; omega
          have t2 : ((an : Int) == 1) = false := by rw [beq_eq_false_iff_ne]; omega
          have HW := Lib.hid (HF.out [] 0 22 (.form (by rw [HA2.out]; exact h0)) (by simp))
          go_enter Try.func14, Try.ntmps14
          go_wp2
          go_ret
          exact HW.out _ _ (by rfl) HI.out (Below.refl _ _)
      · rcases ha with h0 | h0 | h0
        · have ea := HA.out 0 (by rw [h0]; rfl)
          subst h0
          have HW := Lib.hid (HF.out [] 0 0 (by rw [ea]; exact .raw (r := []) (by simp)) (by simp))
          have hl := HLIT.out (by simp)
          simp only [List.nil_append, Nat.zero_add, List.length_nil] at hl
          have HLL := Lib.hid hl
          clear hl
          go_enter Try.func14, Try.ntmps14
          go_wp2_with fail
          refine HLL.out.mono ?_
          rintro e w2 ⟨rfl, hi2, hb2⟩
          go_wp2
          go_ret
          exact HW.out _ _ (by rfl) hi2 hb2
        · have ea := HA.out 1 (by rw [h0]; rfl)
          subst h0
          go_enter Try.func14, Try.ntmps14
          go_wp2_with fail
          refine HT.out.mono ?_
          rintro e w2 ⟨s, ev, h1, rfl, h3, h4, h5⟩
          go_wp2
          go_ret
          exact HF.out s.out s.lit ev (by rw [ea]; exact .toks h1) h4 _ _ (by rfl) h3 h5
        · have t1 : ((an : Int) == 0) = false := by rw [beq_eq_false_iff_ne]; omega
          have t2 : ((an : Int) == 1) = false := by rw [beq_eq_false_iff_ne]; omega
          have HW := Lib.hid (HF.out [] 0 22 (.form (by rw [HA2.out]; exact h0)) (by simp))
          go_enter Try.func14, Try.ntmps14
          go_wp2
          go_ret
          exact HW.out _ _ (by rfl) HI.out (Below.refl _ _)
    · rw [if_neg hc] at hv
      subst hv
      rcases hmax with ⟨hm0, rfl⟩ | ⟨hm0, rfl⟩
      · rcases ha with h0 | h0 | h0
        · have ea := HA.out 0 (by rw [h0]; rfl)
          subst h0
          by_cases hlen : room < t.length
          · have HW := Lib.hid (HF.out [] 0 24 (by rw [ea]; exact .long hlen) (by simp))
            go_enter Try.func14, Try.ntmps14
            go_wp2
            go_ret
            exact HW.out _ _ (by rfl) HI.out (Below.refl _ _)
          · have HW := Lib.hid (HF.out t t.length 0 (by rw [ea]; exact .raw (by omega)) (by omega))
            have hl := HLIT.out (by simp; omega)
            rw [List.nil_append, Nat.zero_add] at hl
            have HLL := Lib.hid hl
            clear hl
            go_enter Try.func14, Try.ntmps14
            go_wp2_with fail
            refine HLL.out.mono ?_
            rintro e w2 ⟨rfl, hi2, hb2⟩
            go_wp2
            go_ret
            exact HW.out _ _ (by rfl) hi2 hb2
        · have ea := HA.out 1 (by rw [h0]; rfl)
          subst h0
          go_enter Try.func14, Try.ntmps14
          go_wp2_with fail
          refine HT.out.mono ?_
          rintro e w2 ⟨s, ev, h1, rfl, h3, h4, h5⟩
          go_wp2
          go_ret
          exact HF.out s.out s.lit ev (by rw [ea]; exact .toks h1) h4 _ _ (by rfl) h3 h5
        · have t1 : ((an : Int) == 0) = false := by rw [beq_eq_false_iff_ne]; omega
          have t2 : ((an : Int) == 1) = false := by rw [beq_eq_false_iff_ne]; omega
          have HW := Lib.hid (HF.out [] 0 22 (.form (by rw [HA2.out]; exact h0)) (by simp))
          go_enter Try.func14, Try.ntmps14
          go_wp2
          go_ret
          exact HW.out _ _ (by rfl) HI.out (Below.refl _ _)
      · rcases ha with h0 | h0 | h0
        · have ea := HA.out 0 (by rw [h0]; rfl)
          subst h0
          by_cases hlen : 0 < t.length
          · have HW := Lib.hid (HF.out [] 0 24 (by rw [ea]; exact .long hlen) (by simp))
            go_enter Try.func14, Try.ntmps14
            go_wp2
            go_ret
            exact HW.out _ _ (by rfl) HI.out (Below.refl _ _)
          · obtain rfl : t = [] := List.eq_nil_of_length_eq_zero (by omega)
            have HW := Lib.hid (HF.out [] 0 0 (by rw [ea]; exact .raw (r := []) (by simp)) (by simp))
            have hl := HLIT.out (by simp)
            simp only [List.nil_append, Nat.zero_add, List.length_nil] at hl
            have HLL := Lib.hid hl
            clear hl
            go_enter Try.func14, Try.ntmps14
            go_wp2_with fail
            refine HLL.out.mono ?_
            rintro e w2 ⟨rfl, hi2, hb2⟩
            go_wp2
            go_ret
            exact HW.out _ _ (by rfl) hi2 hb2
        · have ea := HA.out 1 (by rw [h0]; rfl)
          subst h0
          go_enter Try.func14, Try.ntmps14
          go_wp2_with fail
          refine HT.out.mono ?_
          rintro e w2 ⟨s, ev, h1, rfl, h3, h4, h5⟩
          go_wp2
          go_ret
          exact HF.out s.out s.lit ev (by rw [ea]; exact .toks h1) h4 _ _ (by rfl) h3 h5
        · have t1 : ((an : Int) == 0) = false := by rw [beq_eq_false_iff_ne]; omega
          have t2 : ((an : Int) == 1) = false := by rw [beq_eq_false_iff_ne]; omega
          have HW := Lib.hid (HF.out [] 0 22 (.form (by rw [HA2.out]; exact h0)) (by simp))
          go_enter Try.func14, Try.ntmps14
          go_wp2
          go_ret
          exact HW.out _ _ (by rfl) HI.out (Below.refl _ _)


set_option maxRecDepth 100000 in
set_option maxHeartbeats 4000000 in
theorem tokens_P (capL capC : Value) (B : Nat) (I : List UInt8 → Nat → World → Prop) (room : Nat) (hroom : room ≤ 1099511627776) (hL : LitC 21 capL B I room Try.prog) (hC : CopC 22 capC B I room Try.prog)
    (vb : Value) (x : List UInt8) (hx : x.length < 4294967296) (w : World) (hB : B ≤ w.heap.size) (hr : RdV w B vb (bv x)) (hI : I [] 0 w) :
    Calls Try.prog 28 #[vb, .int .i64 (room : Nat), .func (Fn.func 21) #[] #[capL], .func (Fn.func 22) #[] #[capC]] w (WPost B I room x w) := by
  have HL := Lib.hid hL
  have HC := Lib.hid hC
  have HR := Lib.hid hr
  have HI := Lib.hid hI
  clear hL hC hr hI
  go_enter Try.func28, Try.ntmps28
  go_wp2_with fail
  go_loopw [0, 9] (fun r d wr => WRel B I room x w r d wr) (fun r _ _ => lenV r)
  case atStart => exact ⟨x, [], 0, HR.out, by go_num, HI.out, by simp, by omega, Below.refl _ _, Lib.hid (fun _ _ h => h)⟩
  case round =>
    obtain ⟨y, o, n, hry, rfl, hio, hor, hyx, hbel, HE⟩ := hrel
    have hsz := hbel.size
    obtain ⟨A, c, rfl, hc1, hc2, hc3⟩ := id hry
    rw [bv_length] at hc1 hc3 hry ⊢
    unfold maxLen at hc2
    clear hc3
    have hstop : ∀ ev : Nat, Lz.step room ⟨y, o, n⟩ = .stop ev → ∀ e wz, e = Ending.returned (.int .i64 (ev : Nat)) → I o n wz → Below B w wz → WPost B I room x w e wz := fun ev h e wz h1 h2 h3 => ⟨_, ev, HE.out _ _ (.stop h), h1, h2, hor, h3⟩
    have hnext : ∀ s', Lz.step room ⟨y, o, n⟩ = .next s' → ∀ s e, Lz.Ends room s' s e → Lz.Ends room ⟨x, [], 0⟩ s e := fun s' h s e k => HE.out _ _ (.next h k)
    have HST := Lib.hid hstop
    have HNX := Lib.hid hnext
    have HBEL := Lib.hid hbel
    have HIO := Lib.hid hio
    clear hstop hnext hbel hio HE
    by_cases hy0 : y = []
    · have hs : Lz.step room ⟨y, o, n⟩ = .stop 0 := by unfold Lz.step; rw [if_pos hy0]
      have HS := Lib.hid hs
      have hyl : y.length = 0 := by rw [hy0]; rfl
      clear hs hy0 hry
      go_wp2
      go_ret
      exact HST.out 0 HS.out _ _ (by rfl) HIO.out HBEL.out
    have hyl : 0 < y.length := by rcases y with _ | ⟨a, t⟩; exact absurd rfl hy0; simp
    have hv := readvar_any (.slice A y.length c) y (by omega) wr B hry
    by_cases hE : Pu.rvE y = 0
    rotate_left
    · have hs : Lz.step room ⟨y, o, n⟩ = .stop (Pu.rvE y) := by unfold Lz.step; rw [if_neg hy0, if_pos hE]
      have t1 : ((Pu.rvE y : Int) == 0) = false := by rw [beq_eq_false_iff_ne]; omega
      have HS := Lib.hid hs
      have HV := Lib.hid hv
      clear hs hv hy0 hry hE
      generalize Pu.rvE y = ev at *
      go_wp2_with fail
      refine HV.out.mono ?_
      rintro e w1 ⟨rfl, rfl⟩
      go_wp2
      go_ret
      exact HST.out _ HS.out _ _ (by rfl) HIO.out HBEL.out
    have hNp := rvN_pos hE
    have hNl := rvN_le y
    have hVl := rvV_lt y
    rw [hE] at hv
    have hyd : (y.drop (Pu.rvN y)).length = y.length - Pu.rvN y := List.length_drop ..
    have hlet : ∀ k q : Nat, Pu.rvV y / 2 = k → Pu.rvV y % 2 = q → Lz.step room ⟨y, o, n⟩ = (if k = 0 then .stop 22 else if q = 1 then
        (if Pu.rvE (y.drop (Pu.rvN y)) ≠ 0 then .stop (Pu.rvE (y.drop (Pu.rvN y))) else
        if Pu.rvV (y.drop (Pu.rvN y)) = 0 ∨ o.length < Pu.rvV (y.drop (Pu.rvN y)) then .stop 22 else
        if room - o.length < k then .stop 24 else
        .next ⟨(y.drop (Pu.rvN y)).drop (Pu.rvN (y.drop (Pu.rvN y))), Lz.back k (Pu.rvV (y.drop (Pu.rvN y))) o, n⟩)
      else
        (if room - o.length < k then .stop 24 else
        if (y.drop (Pu.rvN y)).length < k then .stop 21 else
        .next ⟨(y.drop (Pu.rvN y)).drop k, o ++ (y.drop (Pu.rvN y)).take k, n + k⟩)) := by
      intro k q h1 h2
      subst h1 h2
      unfold Lz.step
      rw [if_neg hy0, if_neg (by rw [hE]; simp)]
    have HV := Lib.hid hv
    have HLET := Lib.hid hlet
    clear hv hE hy0 hlet
    generalize Pu.rvV y = V at *
    generalize Pu.rvN y = N at *
    generalize hz : y.drop N = z at *
    have hbz : (bv y).drop N = bv z := by rw [← hz]; simp [bv]
    have HBZ := Lib.hid hbz
    clear hz hbz
    obtain ⟨k, hk⟩ : ∃ k, V / 2 = k := ⟨_, rfl⟩
    have HK := Lib.hid hk
    have hkl : (k : Int) ≤ 9223372036854775807 := by omega
    have hq : V % 2 = 1 ∨ V % 2 = 0 := by omega
    have hand : bits .and .u64 (V : Int) 1 = ((V % 2 : Nat) : Int) := Pu.u64_mask1 V hVl
    obtain ⟨q, hqq⟩ : ∃ q, V % 2 = q := ⟨_, rfl⟩
    rw [hqq] at hand hq
    have HQ := Lib.hid hqq
    have hdiv : (V : Int) / 2 = (k : Int) := by omega
    clear hk hqq
    obtain ⟨b, off, rfl, hbB, _⟩ := hry.get (j := 0) (u := .int .u8 (y[0].toNat : Int)) (by rw [bv_get, List.getElem?_eq_getElem hyl]; rfl)
    by_cases hcN : N = c
    · obtain rfl : N = c := hcN
      have hy2 : y.length = N := by omega
      have hz0 : z = [] := List.eq_nil_of_length_eq_zero (by omega)
      have hE2 : Pu.rvE z = 21 := by rw [hz0]; rfl
      have hv2 := readvar_any (.slice (some ⟨b, off, none⟩) 0 0) z (by omega) wr B (by rw [hz0]; exact RdV.zeroC wr B _ 0 (by omega))
      rw [hE2] at hv2
      have HV2 := Lib.hid hv2
      have HE2 := Lib.hid hE2
      have HZL := Lib.hid (show z.length = 0 by omega)
      clear hv2 hE2 hz0 hy2 hyd
      by_cases hk0 : k = 0
      · have HS := Lib.hid ((HLET.out k q HK.out HQ.out).trans (if_pos hk0))
        have t2 : ((k : Int) == 0) = true := by rw [beq_iff_eq]; omega
        clear hk0 hq hkl
        go_wp2_with fail
        refine HV.out.mono ?_
        rintro e w1 ⟨rfl, rfl⟩
        go_wp2
        all_goals go_ret
        all_goals exact HST.out _ HS.out _ _ (by rfl) HIO.out HBEL.out
      have t2 : ((k : Int) == 0) = false := by rw [beq_eq_false_iff_ne]; omega

      rcases hq with rfl | rfl
      · have hand1 : bits .and .u64 (V : Int) 1 = 1 := by rw [hand]; rfl
        clear hand
        have HS := Lib.hid ((HLET.out k 1 HK.out HQ.out).trans ((if_neg hk0).trans ((if_pos rfl).trans ((if_pos (by rw [HE2.out]; simp)).trans (by rw [HE2.out])))))
        clear hk0
        go_wp2_with fail
        refine HV.out.mono ?_
        rintro e w1 ⟨rfl, rfl⟩
        go_wp2_with fail
        refine HV2.out.mono ?_
        rintro e w1 ⟨rfl, rfl⟩
        go_wp2
        all_goals go_ret
        all_goals exact HST.out _ HS.out _ _ (by rfl) HIO.out HBEL.out
      · have hand1 : bits .and .u64 (V : Int) 1 = 0 := by rw [hand]; rfl
        clear hand
        by_cases hrl : room - o.length < k
        · have HS := Lib.hid ((HLET.out k 0 HK.out HQ.out).trans ((if_neg hk0).trans ((if_neg (by simp)).trans (if_pos hrl))))
          have hr2 : (room : Int) - (o.length : Int) < (k : Int) := by omega
          clear hk0 hrl
          go_wp2_with fail
          refine HV.out.mono ?_
          rintro e w1 ⟨rfl, rfl⟩
          go_wp2
          all_goals go_ret
          all_goals exact HST.out _ HS.out _ _ (by rfl) HIO.out HBEL.out
        · have HS := Lib.hid ((HLET.out k 0 HK.out HQ.out).trans ((if_neg hk0).trans ((if_neg (by simp)).trans ((if_neg hrl).trans (if_pos (by have := HZL.out; omega))))))
          have hr2 : (k : Int) ≤ (room : Int) - (o.length : Int) := by omega
          have hkp : (0 : Int) < (k : Int) := by omega
          clear hk0 hrl
          go_wp2_with fail
          refine HV.out.mono ?_
          rintro e w1 ⟨rfl, rfl⟩
          go_wp2
          all_goals go_ret
          all_goals exact HST.out _ HS.out _ _ (by rfl) HIO.out HBEL.out
    · have hu := hry.part N (y.length - N) (by rw [bv_length]; omega)
      rw [HBZ.out, List.take_of_length_le (by rw [bv_length]; omega)] at hu
      have hv2 := readvar_any _ z (by omega) wr B hu
      have HU := Lib.hid hu
      have HYD := Lib.hid hyd
      clear hu hyd
      by_cases hk0 : k = 0
      · have HS := Lib.hid ((HLET.out k q HK.out HQ.out).trans (if_pos hk0))
        have t2 : ((k : Int) == 0) = true := by rw [beq_iff_eq]; omega
        clear hk0 hq hkl
        go_wp2_with fail
        refine HV.out.mono ?_
        rintro e w1 ⟨rfl, rfl⟩
        go_wp2
        all_goals go_ret
        all_goals exact HST.out _ HS.out _ _ (by rfl) HIO.out HBEL.out
      have t2 : ((k : Int) == 0) = false := by rw [beq_eq_false_iff_ne]; omega

      rcases hq with rfl | rfl
      · have hand1 : bits .and .u64 (V : Int) 1 = 1 := by rw [hand]; rfl
        clear hand
        have hstep := (HLET.out k 1 HK.out HQ.out).trans ((if_neg hk0).trans (if_pos rfl))
        by_cases hE2 : Pu.rvE z = 0
        rotate_left
        · have HS := Lib.hid (hstep.trans (if_pos hE2))
          have t1 : ((Pu.rvE z : Int) == 0) = false := by rw [beq_eq_false_iff_ne]; omega
          have HV2 := Lib.hid hv2
          clear hstep hk0 hE2 hv2
          generalize Pu.rvE z = ev at *
          go_wp2_with fail
          refine HV.out.mono ?_
          rintro e w1 ⟨rfl, rfl⟩
          go_wp2_with fail
          refine HV2.out.mono ?_
          rintro e w1 ⟨rfl, rfl⟩
          go_wp2
          all_goals go_ret
          all_goals exact HST.out _ HS.out _ _ (by rfl) HIO.out HBEL.out
        replace hstep := hstep.trans (if_neg (by simp [hE2]))
        have hMp := rvN_pos hE2
        have hMl := rvN_le z
        have hyd := HYD.out
        have hDl := rvV_lt z
        rw [hE2] at hv2
        have HV2 := Lib.hid hv2
        have hmore := HU.out.part (Pu.rvN z) (z.length - Pu.rvN z) (by rw [bv_length]; omega)
        rw [show (bv z).drop (Pu.rvN z) = bv (z.drop (Pu.rvN z)) from by simp [bv], List.take_of_length_le (by rw [bv_length, List.length_drop]; omega)] at hmore
        have hnone : c - N = Pu.rvN z → z.drop (Pu.rvN z) = [] := fun h => List.drop_eq_nil_of_le (by omega)
        have hzl : (z.drop (Pu.rvN z)).length = z.length - Pu.rvN z := List.length_drop ..
        have HM := Lib.hid hmore
        have HNO := Lib.hid hnone
        have HST2 := Lib.hid hstep
        have hMl2 : Pu.rvN z ≤ y.length - N := by omega
        clear hv2 hmore hnone hstep hE2 hyd
        generalize Pu.rvN z = M at *
        generalize Pu.rvV z = D at *
        generalize z.drop M = z2 at *
        by_cases hD : D = 0 ∨ o.length < D
        · have HS := Lib.hid (HST2.out.trans (if_pos hD))
          rcases hD with rfl | hD
          · clear hk0
            go_wp2_with fail
            refine HV.out.mono ?_
            rintro e w1 ⟨rfl, rfl⟩
            go_wp2_with fail
            refine HV2.out.mono ?_
            rintro e w1 ⟨rfl, rfl⟩
            go_wp2
            all_goals go_ret
            all_goals exact HST.out _ HS.out _ _ (by rfl) HIO.out HBEL.out
          · have t3 : ((D : Int) == 0) = false := by rw [beq_eq_false_iff_ne]; omega
            clear hk0
            go_wp2_with fail
            refine HV.out.mono ?_
            rintro e w1 ⟨rfl, rfl⟩
            go_wp2_with fail
            refine HV2.out.mono ?_
            rintro e w1 ⟨rfl, rfl⟩
            go_wp2
            all_goals go_ret
            all_goals exact HST.out _ HS.out _ _ (by rfl) HIO.out HBEL.out
        · have hs3 := HST2.out.trans (if_neg hD)
          have t3 : ((D : Int) == 0) = false := by rw [beq_eq_false_iff_ne]; omega
          have hD2 : D ≤ o.length := by omega
          have hD0 : 0 < D := by omega
          by_cases hrl : room - o.length < k
          · have HS := Lib.hid (hs3.trans (if_pos hrl))
            have hr2 : (room : Int) - (o.length : Int) < (k : Int) := by omega
            clear hk0 hrl hs3 hD
            go_wp2_with fail
            refine HV.out.mono ?_
            rintro e w1 ⟨rfl, rfl⟩
            go_wp2_with fail
            refine HV2.out.mono ?_
            rintro e w1 ⟨rfl, rfl⟩
            go_wp2
            all_goals go_ret
            all_goals exact HST.out _ HS.out _ _ (by rfl) HIO.out HBEL.out
          · have HS := Lib.hid (hs3.trans (if_neg hrl))
            have hr2 : (k : Int) ≤ (room : Int) - (o.length : Int) := by omega
            have HKP := Lib.hid (show 0 < k by omega)
            have hrel2 : ∀ (v d : Value) (w2 : World), d = .int .i64 ((o.length : Int) + (k : Int)) → RdV wr B v (bv z2) → I (Lz.back k D o) n w2 → Below B wr w2 → WRel B I room x w v d w2 := fun v d w2 h1 h2 h3 h4 =>
              ⟨z2, Lz.back k D o, n, h2.below h4, by rw [h1, Lz.back_len, Int.natCast_add], h3, by rw [Lz.back_len]; omega, by have := HYD.out; omega, HBEL.out.trans h4, Lib.hid (HNX.out _ HS.out)⟩
            have hm0 : c - N = M → ∀ (A : Option Addr) (n0 : Nat), n0 = 0 → RdV wr B (.slice A n0 0) (bv z2) := fun h A n0 hn => by subst hn; rw [HNO.out h]; exact RdV.zeroC wr B _ 0 (by omega)
            have HREL := Lib.hid hrel2
            have HM0 := Lib.hid hm0
            have hzl3 : z.length - M = y.length - N - M := by rw [HYD.out]
            have hmm := HM.out
            rw [hzl3] at hmm
            have HM := Lib.hid hmm
            clear hrel2 hm0 hzl3 hmm
            clear hk0 hrl hs3 hD
            have hcc := HC.out wr o n k D (by omega) HIO.out HKP.out hD0 hD2 (by omega)
            have HCC := Lib.hid hcc
            clear hcc
            go_wp2_with fail
            refine HV.out.mono ?_
            rintro e w1 ⟨rfl, rfl⟩
            go_wp2_with fail
            refine HV2.out.mono ?_
            rintro e w1 ⟨rfl, rfl⟩
            go_wp2_with fail
            all_goals (refine HCC.out.mono ?_; rintro e w2 ⟨rfl, hi2, hb2⟩)
            all_goals (go_wp2; go_roundw)
            all_goals first
              | (case measure => simp [lenV]; omega)
              | (case rel => exact HREL.out _ _ _ (by rfl) (by first | exact HM.out | exact HM0.out (by omega) _ _ (by omega)) hi2 hb2)
      · have hand1 : bits .and .u64 (V : Int) 1 = 0 := by rw [hand]; rfl
        clear hand
        by_cases hrl : room - o.length < k
        · have HS := Lib.hid ((HLET.out k 0 HK.out HQ.out).trans ((if_neg hk0).trans ((if_neg (by simp)).trans (if_pos hrl))))
          have hr2 : (room : Int) - (o.length : Int) < (k : Int) := by omega
          clear hk0 hrl
          go_wp2_with fail
          refine HV.out.mono ?_
          rintro e w1 ⟨rfl, rfl⟩
          go_wp2
          all_goals go_ret
          all_goals exact HST.out _ HS.out _ _ (by rfl) HIO.out HBEL.out
        have hs3 := (HLET.out k 0 HK.out HQ.out).trans ((if_neg hk0).trans ((if_neg (by simp)).trans (if_neg hrl)))
        have hkp : (0 : Int) < (k : Int) := by omega
        have hr2 : (k : Int) ≤ (room : Int) - (o.length : Int) := by omega
        by_cases hzs : z.length < k
        · have HS := Lib.hid (hs3.trans (if_pos hzs))
          have hzs2 : ((y.length - N : Nat) : Int) < (k : Int) := by have := HYD.out; omega
          clear hk0 hrl hs3 hzs
          go_wp2_with fail
          refine HV.out.mono ?_
          rintro e w1 ⟨rfl, rfl⟩
          go_wp2
          all_goals go_ret
          all_goals exact HST.out _ HS.out _ _ (by rfl) HIO.out HBEL.out
        have HS := Lib.hid (hs3.trans (if_neg hzs))
        have hkz : k ≤ z.length := by omega
        have hky : k ≤ y.length - N := by have := HYD.out; omega
        have hpc := RdV.sliced HU.out 0 k k (by omega) (by have := HYD.out; omega) (by omega) (by omega)
        unfold Go.sliced at hpc
        rw [if_neg (by omega), Nat.sub_zero, List.drop_zero, show (bv z).take k = bv (z.take k) from by simp [bv]] at hpc
        simp only [Option.map, Addr.add, Nat.zero_mul, Nat.add_zero] at hpc
        have hpl : (z.take k).length = k := by rw [List.length_take]; omega
        have hcc := HL.out wr o n _ (z.take k) (by omega) HIO.out hpc (by rw [hpl]; omega)
        rw [hpl] at hcc
        have hmm := HU.out.part k (z.length - k) (by rw [bv_length]; omega)
        rw [show (bv z).drop k = bv (z.drop k) from by simp [bv], List.take_of_length_le (by rw [bv_length, List.length_drop]; omega)] at hmm
        have hzl : (z.drop k).length = z.length - k := List.length_drop ..
        have hm0 : c - N = k → ∀ (A : Option Addr) (n0 c0 : Nat), n0 = 0 → c0 ≤ 9223372036854775807 → RdV wr B (.slice A n0 c0) (bv (z.drop k)) := fun h A n0 c0 hn hc0 => by
          subst hn
          rw [List.drop_eq_nil_of_le (by have := HYD.out; omega)]
          exact RdV.zeroC wr B _ c0 (by omega)
        have hrel2 : ∀ (v d : Value) (w2 : World), d = .int .i64 ((o.length : Int) + (k : Int)) → RdV wr B v (bv (z.drop k)) → I (o ++ z.take k) (n + k) w2 → Below B wr w2 → WRel B I room x w v d w2 := fun v d w2 h1 h2 h3 h4 =>
          ⟨z.drop k, o ++ z.take k, n + k, h2.below h4, by rw [h1, List.length_append, hpl, Int.natCast_add], h3, by rw [List.length_append, hpl]; omega, by have := HYD.out; omega, HBEL.out.trans h4, Lib.hid (HNX.out _ HS.out)⟩
        have hzl3 : z.length - k = y.length - N - k := by rw [HYD.out]
        rw [hzl3] at hmm
        have HM := Lib.hid hmm
        have HM0 := Lib.hid hm0
        have HCC := Lib.hid hcc
        have HREL := Lib.hid hrel2
        clear hpc hcc hmm hm0 hrel2 hzl3 hzl hkz hzs hs3 hk0 hrl hpl
        go_wp2_with fail
        refine HV.out.mono ?_
        rintro e w1 ⟨rfl, rfl⟩
        go_wp2_with fail
        refine HCC.out.mono ?_
        rintro e w2 ⟨rfl, hi2, hb2⟩
        go_wp2
        all_goals go_roundw
        all_goals first
          | (case measure => simp [lenV]; omega)
          | (case rel => exact HREL.out _ _ _ (by rfl) (by first | exact HM.out | exact HM0.out (by omega) _ _ _ (by omega) (by omega) | (split; exact HM0.out (by omega) _ _ _ (by omega) (by omega); exact HM.out)) hi2 hb2)


set_option maxRecDepth 100000 in
set_option maxHeartbeats 4000000 in
theorem walk_P (capL capC : Value) (B : Nat) (I : List UInt8 → Nat → World → Prop) (most : Int) (m0 : -9223372036854775808 ≤ most) (hmost : most ≤ 1099511627776) (hL : LitC 21 capL B I most.toNat Try.prog) (hC : CopC 22 capC B I most.toNat Try.prog)
    (vb : Value) (x : List UInt8) (hx : x.length < 4294967296) (w : World) (hB : B ≤ w.heap.size) (hr : RdV w B vb (bv x)) (hI : I [] 0 w) :
    Calls Try.prog 14 #[vb, .int .i64 most, .func (Fn.func 21) #[] #[capL], .func (Fn.func 22) #[] #[capC]] w (WalkP B I most.toNat x w) := by
  obtain ⟨room, hroom⟩ : ∃ room, most.toNat = room := ⟨_, rfl⟩
  have hrm : (room : Int) ≤ 1099511627776 := by omega
  have hmax : 0 ≤ most ∧ most = (room : Int) ∨ most < 0 ∧ room = 0 := by omega
  rw [hroom] at hL hC ⊢
  clear hroom
  obtain ⟨A, c, rfl, hc1, hc2, hc3⟩ := id hr
  rw [bv_length] at hc1 hc3 hr ⊢
  unfold maxLen at hc2
  clear hc3
  have hfin : ∀ (o : List UInt8) (n ev : Nat), Lz.Walks room x o n ev → o.length ≤ room → ∀ e w', e = Ending.returned (.int .i64 (ev : Nat)) → I o n w' → Below B w w' → WalkP B I room x w e w' := fun o n ev h1 h4 e w' h2 h3 hb => ⟨o, n, ev, h1, h2, h3, h4, hb⟩
  rcases x with _ | ⟨a, t⟩
  · have HF := Lib.hid (hfin [] 0 21 .nil (by simp))
    have HI := Lib.hid hI
    clear hfin hI hr hL hC
    go_enter Try.func14, Try.ntmps14
    go_wp2
    go_ret
    exact HF.out _ _ (by rfl) HI.out (Below.refl _ _)
  · obtain ⟨b, off, rfl, hbB, hcell⟩ := hr.get (j := 0) (u := .int .u8 (a.toNat : Int)) (by simp [bv])
    have hal := a.toNat_lt
    have hrest : ∃ v : Value, (if c = 1 then Value.slice (some ⟨b, off, none⟩) 0 0 else Value.slice (some ⟨b, off + 1, none⟩) t.length (c - 1)) = v ∧ RdV w B v (bv t) := by
      refine ⟨_, rfl, ?_⟩
      have htl : (a :: t).length = t.length + 1 := rfl
      by_cases h : c = 1
      · rw [if_pos h, show t = [] from List.eq_nil_of_length_eq_zero (by omega)]
        exact RdV.zeroC w B _ 0 (by omega)
      · have := hr.part 1 t.length (by rw [bv_length]; omega)
        rw [if_neg h]
        simpa [bv, List.take_of_length_le] using this
    obtain ⟨v, hv, hrv⟩ := hrest
    have hlen : (a :: t).length = t.length + 1 := rfl
    rw [hlen] at *
    have HR := Lib.hid hrv
    have HI := Lib.hid hI
    have HL := Lib.hid hL
    have HC := Lib.hid hC
    have HF := Lib.hid hfin
    clear hr hrv hL hC hI hfin
    have hc1' : t.length + 1 ≤ c := hc1
    have hx' : t.length + 1 < 4294967296 := hx
    have htl : t.length ≤ 4294967295 := by omega
    have k0 : w.cell? ⟨b, off, none⟩ = some (.int .u8 (a.toNat : Int)) := by simpa using hcell
    clear hc1 hx hlen hcell
    have ha : a.toNat = 0 ∨ a.toNat = 1 ∨ 1 < a.toNat := by omega
    have HA : Hid (∀ q : UInt8, a.toNat = q.toNat → a = q) := fun q h => UInt8.toNat_inj.1 h
    have htk := tokens_P capL capC B I room (by omega) HL.out HC.out v t (by omega) w hB HR.out HI.out
    have hlit := HL.out w [] 0 v t hB HI.out HR.out
    have HT := Lib.hid htk
    have HLIT := Lib.hid hlit
    clear htk hlit
    generalize ha2 : a.toNat = an at *
    have HA2 := Lib.hid ha2
    clear ha2
    by_cases hc : c = 1
    · rw [if_pos hc] at hv
      subst hv
      subst hc
      have ht0 : t.length = 0 := by omega
      have ht1 : t = [] := List.eq_nil_of_length_eq_zero ht0
      subst ht1
      rcases hmax with ⟨hm0, rfl⟩ | ⟨hm0, rfl⟩
      · rcases ha with h0 | h0 | h0
        · have ea := HA.out 0 (by rw [h0]; rfl)
          subst h0
          have HW := Lib.hid (HF.out [] 0 0 (by rw [ea]; exact .raw (r := []) (by simp)) (by simp))
          have hl := HLIT.out (by simp)
          simp only [List.nil_append, Nat.zero_add, List.length_nil] at hl
          have HLL := Lib.hid hl
          clear hl
          go_enter Try.func14, Try.ntmps14
          go_wp2_with fail
          refine HLL.out.mono ?_
          rintro e w2 ⟨rfl, hi2, hb2⟩
          go_wp2
          go_ret
          exact HW.out _ _ (by rfl) hi2 hb2
        · have ea := HA.out 1 (by rw [h0]; rfl)
          subst h0
          go_enter Try.func14, Try.ntmps14
          go_wp2_with fail
          refine HT.out.mono ?_
          rintro e w2 ⟨s, ev, h1, rfl, h3, h4, h5⟩
          go_wp2
          go_ret
          exact HF.out s.out s.lit ev (by rw [ea]; exact .toks h1) h4 _ _ (by rfl) h3 h5
        · have t1 : ((an : Int) == 0) = false := by rw [beq_eq_false_iff_ne]; omega
          have t2 : ((an : Int) == 1) = false := by rw [beq_eq_false_iff_ne]; omega
          have HW := Lib.hid (HF.out [] 0 22 (.form (by rw [HA2.out]; exact h0)) (by simp))
          go_enter Try.func14, Try.ntmps14
          go_wp2
          go_ret
          exact HW.out _ _ (by rfl) HI.out (Below.refl _ _)
      · rcases ha with h0 | h0 | h0
        · have ea := HA.out 0 (by rw [h0]; rfl)
          subst h0
          have HW := Lib.hid (HF.out [] 0 0 (by rw [ea]; exact .raw (r := []) (by simp)) (by simp))
          have hl := HLIT.out (by simp)
          simp only [List.nil_append, Nat.zero_add, List.length_nil] at hl
          have HLL := Lib.hid hl
          clear hl
          go_enter Try.func14, Try.ntmps14
          go_wp2_with fail
          refine HLL.out.mono ?_
          rintro e w2 ⟨rfl, hi2, hb2⟩
          go_wp2
          go_ret
          exact HW.out _ _ (by rfl) hi2 hb2
        · have ea := HA.out 1 (by rw [h0]; rfl)
          subst h0
          go_enter Try.func14, Try.ntmps14
          go_wp2_with fail
          refine HT.out.mono ?_
          rintro e w2 ⟨s, ev, h1, rfl, h3, h4, h5⟩
          go_wp2
          go_ret
          exact HF.out s.out s.lit ev (by rw [ea]; exact .toks h1) h4 _ _ (by rfl) h3 h5
        · have t1 : ((an : Int) == 0) = false := by rw [beq_eq_false_iff_ne]; omega
          have t2 : ((an : Int) == 1) = false := by rw [beq_eq_false_iff_ne]; omega
          have HW := Lib.hid (HF.out [] 0 22 (.form (by rw [HA2.out]; exact h0)) (by simp))
          go_enter Try.func14, Try.ntmps14
          go_wp2
          go_ret
          exact HW.out _ _ (by rfl) HI.out (Below.refl _ _)
    · rw [if_neg hc] at hv
      subst hv
      rcases hmax with ⟨hm0, rfl⟩ | ⟨hm0, rfl⟩
      · rcases ha with h0 | h0 | h0
        · have ea := HA.out 0 (by rw [h0]; rfl)
          subst h0
          by_cases hlen : room < t.length
          · have HW := Lib.hid (HF.out [] 0 24 (by rw [ea]; exact .long hlen) (by simp))
            go_enter Try.func14, Try.ntmps14
            go_wp2
            go_ret
            exact HW.out _ _ (by rfl) HI.out (Below.refl _ _)
          · have HW := Lib.hid (HF.out t t.length 0 (by rw [ea]; exact .raw (by omega)) (by omega))
            have hl := HLIT.out (by simp; omega)
            rw [List.nil_append, Nat.zero_add] at hl
            have HLL := Lib.hid hl
            clear hl
            go_enter Try.func14, Try.ntmps14
            go_wp2_with fail
            refine HLL.out.mono ?_
            rintro e w2 ⟨rfl, hi2, hb2⟩
            go_wp2
            go_ret
            exact HW.out _ _ (by rfl) hi2 hb2
        · have ea := HA.out 1 (by rw [h0]; rfl)
          subst h0
          go_enter Try.func14, Try.ntmps14
          go_wp2_with fail
          refine HT.out.mono ?_
          rintro e w2 ⟨s, ev, h1, rfl, h3, h4, h5⟩
          go_wp2
          go_ret
          exact HF.out s.out s.lit ev (by rw [ea]; exact .toks h1) h4 _ _ (by rfl) h3 h5
        · have t1 : ((an : Int) == 0) = false := by rw [beq_eq_false_iff_ne]; omega
          have t2 : ((an : Int) == 1) = false := by rw [beq_eq_false_iff_ne]; omega
          have HW := Lib.hid (HF.out [] 0 22 (.form (by rw [HA2.out]; exact h0)) (by simp))
          go_enter Try.func14, Try.ntmps14
          go_wp2
          go_ret
          exact HW.out _ _ (by rfl) HI.out (Below.refl _ _)
      · rcases ha with h0 | h0 | h0
        · have ea := HA.out 0 (by rw [h0]; rfl)
          subst h0
          by_cases hlen : 0 < t.length
          · have HW := Lib.hid (HF.out [] 0 24 (by rw [ea]; exact .long hlen) (by simp))
            go_enter Try.func14, Try.ntmps14
            go_wp2
            go_ret
            exact HW.out _ _ (by rfl) HI.out (Below.refl _ _)
          · obtain rfl : t = [] := List.eq_nil_of_length_eq_zero (by omega)
            have HW := Lib.hid (HF.out [] 0 0 (by rw [ea]; exact .raw (r := []) (by simp)) (by simp))
            have hl := HLIT.out (by simp)
            simp only [List.nil_append, Nat.zero_add, List.length_nil] at hl
            have HLL := Lib.hid hl
            clear hl
            go_enter Try.func14, Try.ntmps14
            go_wp2_with fail
            refine HLL.out.mono ?_
            rintro e w2 ⟨rfl, hi2, hb2⟩
            go_wp2
            go_ret
            exact HW.out _ _ (by rfl) hi2 hb2
        · have ea := HA.out 1 (by rw [h0]; rfl)
          subst h0
          go_enter Try.func14, Try.ntmps14
          go_wp2_with fail
          refine HT.out.mono ?_
          rintro e w2 ⟨s, ev, h1, rfl, h3, h4, h5⟩
          go_wp2
          go_ret
          exact HF.out s.out s.lit ev (by rw [ea]; exact .toks h1) h4 _ _ (by rfl) h3 h5
        · have t1 : ((an : Int) == 0) = false := by rw [beq_eq_false_iff_ne]; omega
          have t2 : ((an : Int) == 1) = false := by rw [beq_eq_false_iff_ne]; omega
          have HW := Lib.hid (HF.out [] 0 22 (.form (by rw [HA2.out]; exact h0)) (by simp))
          go_enter Try.func14, Try.ntmps14
          go_wp2
          go_ret
          exact HW.out _ _ (by rfl) HI.out (Below.refl _ _)

end Go.Proofs.Ytkgmelhigjjbbaa
