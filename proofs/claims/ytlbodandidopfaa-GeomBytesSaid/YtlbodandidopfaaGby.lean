/- A shape's nine numbers in bytes, and back: plain facts. Conditions: none of its own. -/
import Derived.Test.YtlbodandidopfaaGwk
import Derived.Test.YtlbodandidopfaaGek
namespace Go.Proofs.Ytlbodandidopfaa
open Go.ChangeShapes Go.WideShapes Go.ChangeAt Go.RowKit
set_option linter.unusedSimpArgs false
set_option linter.unusedVariables false
def J64 (z : Int) : Prop := -9223372036854775808 ≤ z ∧ z ≤ 9223372036854775807
theorem numO_encJ (z : Int) (hz : J64 z) (r : List UInt8) : numO (encI z ++ r) = .ok z r := by
  have zl := Pu.zig_lo z
  have zh := Pu.zig_hi z hz.1 hz.2
  obtain ⟨h1, h2, h3⟩ := Pu.readvar_var (Pu.zig z).toNat (by omega) r
  unfold numO encI
  rw [if_pos h1, h2, h3, List.drop_append_of_le_length (Nat.le_refl _), List.drop_length, List.nil_append]
  rw [Int.toNat_of_nonneg zl, Pu.zag_zig]
abbrev St := List UInt8 × Int
def ri (s : St) : Int × St := readV s.2 s.1 (numO s.1)
def bi (s : St) : Int × St := readV s.2 s.1 (within 1 65536 (numO s.1))
def st (f : St → Int × St) (s : St) : Nat → St
  | 0 => s
  | q + 1 => (f (st f s q)).2
def vl (f : St → Int × St) (s : St) (q : Nat) : Int := (f (st f s q)).1
def cfgV (v : Nat → Int) : Cfg := ⟨v 0, v 1, v 2, v 3, v 4, v 5, v 6, v 7, v 8⟩
def decF (f : St → Int × St) (l : List UInt8) : Option Cfg := if st f (l, 0) 9 = ([], 0) ∧ checkB (cfgV (vl f (l, 0))) = true then some (cfgV (vl f (l, 0))) else none
theorem readV_err {s : St} (h : s.2 ≠ 0) (o : Out) : readV s.2 s.1 o = (0, s.1, s.2) := by unfold readV; rw [if_pos h]
theorem bi_ok {s : St} (h : (bi s).2.2 = 0) : bi s = ri s ∧ s.2 = 0 := by
  by_cases he : s.2 = 0
  · refine ⟨?_, he⟩
    unfold bi ri at *
    unfold readV at *
    rw [if_neg (by simp [he])] at *
    cases ho : numO s.1 with
    | bad ev l => rw [ho] at h; simp only [within] at h ⊢; rw [if_neg (by simp [he])]
    | ok v l =>
      rw [ho] at h
      simp only [within] at h ⊢
      by_cases hr : 1 ≤ v ∧ v ≤ 65536
      · rw [if_pos hr]
        rw [if_neg (by simp [he])]
      · rw [if_neg hr] at h
        simp at h
  · exfalso
    unfold bi at h
    rw [readV_err he] at h
    exact he h
theorem ri_ok {s : St} (h : (ri s).2.2 = 0) (hv : 1 ≤ (ri s).1 ∧ (ri s).1 ≤ 65536) : bi s = ri s ∧ s.2 = 0 := by
  by_cases he : s.2 = 0
  · refine ⟨?_, he⟩
    unfold bi ri at *
    unfold readV at *
    rw [if_neg (by simp [he])] at *
    cases ho : numO s.1 with
    | bad ev l => rw [ho] at hv; simp at hv
    | ok v l =>
      rw [ho] at hv
      simp only [within] at hv ⊢
      rw [if_pos hv]
      rw [if_neg (by simp [he])]
  · exfalso
    unfold ri at h
    rw [readV_err he] at h
    exact he h
theorem st_bi (s : St) : ∀ q, (st bi s q).2 = 0 → st bi s q = st ri s q ∧ ∀ i, i < q → vl bi s i = vl ri s i
  | 0, _ => ⟨rfl, fun i hi => by omega⟩
  | q + 1, h => by
    obtain ⟨h1, h2⟩ := bi_ok (s := st bi s q) h
    obtain ⟨h3, h4⟩ := st_bi s q h2
    refine ⟨?_, fun i hi => ?_⟩
    · show (bi (st bi s q)).2 = (ri (st ri s q)).2
      rw [h1, h3]
    · rcases Nat.lt_or_ge i q with h5 | h5
      · exact h4 i h5
      · obtain rfl : i = q := by omega
        show (bi (st bi s i)).1 = (ri (st ri s i)).1
        rw [h1, h3]
theorem ri_keep {s : St} (h : (ri s).2.2 = 0) : s.2 = 0 := by
  by_cases he : s.2 = 0
  · exact he
  · unfold ri at h
    rw [readV_err he] at h
    exact h
theorem st_ri (s : St) : ∀ q, (st ri s q).2 = 0 → (∀ i, i < q → 1 ≤ vl ri s i ∧ vl ri s i ≤ 65536) → st bi s q = st ri s q ∧ ∀ i, i < q → vl bi s i = vl ri s i
  | 0, _, _ => ⟨rfl, fun i hi => by omega⟩
  | q + 1, h, hv => by
    obtain ⟨h1, h2⟩ := ri_ok (s := st ri s q) h (hv q (by omega))
    obtain ⟨h3, h4⟩ := st_ri s q h2 fun i hi => hv i (by omega)
    refine ⟨?_, fun i hi => ?_⟩
    · show (bi (st bi s q)).2 = (ri (st ri s q)).2
      rw [h3, h1]
    · rcases Nat.lt_or_ge i q with h5 | h5
      · exact h4 i h5
      · obtain rfl : i = q := by omega
        show (bi (st bi s i)).1 = (ri (st ri s i)).1
        rw [h3, h1]
theorem cfgV_congr {v u : Nat → Int} (h : ∀ i, i < 9 → v i = u i) : cfgV v = cfgV u := by
  unfold cfgV
  rw [h 0 (by omega), h 1 (by omega), h 2 (by omega), h 3 (by omega), h 4 (by omega), h 5 (by omega), h 6 (by omega), h 7 (by omega), h 8 (by omega)]
theorem dec_same (l : List UInt8) : decF bi l = decF ri l := by
  unfold decF
  by_cases h1 : st bi (l, 0) 9 = ([], 0)
  · obtain ⟨h2, h3⟩ := st_bi (l, 0) 9 (by rw [h1])
    rw [← h2, cfgV_congr h3]
  · rw [if_neg (fun h => h1 h.1)]
    by_cases h2 : st ri (l, 0) 9 = ([], 0) ∧ checkB (cfgV (vl ri (l, 0))) = true
    · exfalso
      obtain ⟨a, b⟩ := h2
      obtain ⟨hn, _⟩ := checkB_true b
      obtain ⟨n1, n2, n3, n4, n5, n6, n7, n8, n9⟩ := numB_true hn
      have hv : ∀ i, i < 9 → 1 ≤ vl ri (l, 0) i ∧ vl ri (l, 0) i ≤ 65536 := by
        intro i hi
        simp only [cfgV] at n1 n2 n3 n4 n5 n6 n7 n8 n9
        match i, hi with
        | 0, _ => omega
        | 1, _ => omega
        | 2, _ => omega
        | 3, _ => omega
        | 4, _ => omega
        | 5, _ => omega
        | 6, _ => omega
        | 7, _ => omega
        | 8, _ => omega
      have h3 := (st_ri (l, 0) 9 (by rw [a]) hv).1
      exact h1 (h3.trans a)
    · rw [if_neg h2]
def cfgL (c : Cfg) : List Int := [c.sectors, c.sector, c.journal, c.segment, c.page, c.frames, c.procs, c.regions, c.pages]
theorem ri_enc (z : Int) (hz : J64 z) (r : List UInt8) : ri (encI z ++ r, 0) = (z, r, 0) := by
  unfold ri readV
  rw [if_neg (by simp), numO_encJ z hz r]
theorem ri_step {s0 : St} {q : Nat} {z : Int} {r : List UInt8} (hs : st ri s0 q = (encI z ++ r, 0)) (hz : J64 z) : vl ri s0 q = z ∧ st ri s0 (q + 1) = (r, 0) := by
  have h := ri_enc z hz r
  rw [← hs] at h
  refine ⟨?_, ?_⟩
  · show (ri (st ri s0 q)).1 = z
    rw [h]
  · show (ri (st ri s0 q)).2 = _
    rw [h]
theorem dec_enc (c : Cfg) (hc : c.Fits) : decF ri (encL (cfgL c)) = if checkB c = true then some c else none := by
  obtain ⟨s1, s2, s3, s4, s5, s6, s7, s8, s9⟩ := c
  obtain ⟨h1, h2, h3, h4, h5, h6, h7, h8, h9⟩ := hc
  have e : encL (cfgL ⟨s1, s2, s3, s4, s5, s6, s7, s8, s9⟩) = encI s1 ++ (encI s2 ++ (encI s3 ++ (encI s4 ++ (encI s5 ++ (encI s6 ++ (encI s7 ++ (encI s8 ++ (encI s9 ++ [])))))))) := by simp [encL, cfgL]
  unfold decF
  rw [e]
  generalize hl : encI s1 ++ (encI s2 ++ (encI s3 ++ (encI s4 ++ (encI s5 ++ (encI s6 ++ (encI s7 ++ (encI s8 ++ (encI s9 ++ [])))))))) = l
  have t0 : st ri (l, 0) 0 = (encI s1 ++ (encI s2 ++ (encI s3 ++ (encI s4 ++ (encI s5 ++ (encI s6 ++ (encI s7 ++ (encI s8 ++ (encI s9 ++ [])))))))), 0) := by rw [hl]; rfl
  obtain ⟨v0, t1⟩ := ri_step t0 h1
  obtain ⟨v1, t2⟩ := ri_step t1 h2
  obtain ⟨v2, t3⟩ := ri_step t2 h3
  obtain ⟨v3, t4⟩ := ri_step t3 h4
  obtain ⟨v4, t5⟩ := ri_step t4 h5
  obtain ⟨v5, t6⟩ := ri_step t5 h6
  obtain ⟨v6, t7⟩ := ri_step t6 h7
  obtain ⟨v7, t8⟩ := ri_step t7 h8
  obtain ⟨v8, t9⟩ := ri_step t8 h9
  have hc : cfgV (vl ri (l, 0)) = ⟨s1, s2, s3, s4, s5, s6, s7, s8, s9⟩ := by
    unfold cfgV
    rw [v0, v1, v2, v3, v4, v5, v6, v7, v8]
  rw [hc, t9]
  by_cases hk : checkB ⟨s1, s2, s3, s4, s5, s6, s7, s8, s9⟩ = true
  · rw [if_pos ⟨rfl, hk⟩, if_pos hk]
  · rw [if_neg (fun h => hk h.2), if_neg hk]
end Go.Proofs.Ytlbodandidopfaa
