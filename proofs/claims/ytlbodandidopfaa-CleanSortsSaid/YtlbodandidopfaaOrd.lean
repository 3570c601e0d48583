/- A statement whose order is open, walked once, in the order of its text, where calls may change memory: each call is shown in the world that it finds; all else is shown in every world of which a condition holds that the calls keep. Conditions: of two operations marked as such one must come ahead of the other, in every order. -/
import Derived.Test.YtlbodandidopfaaInv
namespace Go.Proofs.Ytlbodandidopfaa
open Go Go.RowKit
set_option linter.unusedVariables false
set_option linter.unusedSimpArgs false
section
variable {P : Program}
theorem Gets.mono {o : Oper} {a : Act} {w : World} {R R' : Value → World → Prop} (h : Gets P o a w R) (hr : ∀ u w', R u w' → R' u w') : Gets P o a w R' := by
  unfold Gets at *
  generalize (execOp a.eval o).run P w = r at *
  cases r with
  | ok n w' =>
    cases n <;> simp only at h ⊢
    case value u => exact hr _ _ h
    case skip => exact hr _ _ h
    case enter f args => exact Calls.mono h fun e w'' ⟨u, he, hx⟩ => ⟨u, he, hr _ _ hx⟩
    case row row args => exact Rows.mono h fun u w'' hx => hr _ _ hx
  | halt x w' => exact h.elim

theorem gets_run {o : Oper} {a : Act} {w w' : World} {R : Value → World → Prop} {v : Value} (he : (execOp a.eval o).run P w = .ok (.value v) w') (h : R v w') : Gets P o a w R := by
  unfold Gets
  rw [he]
  exact h
variable {ops : Array Oper} {Inv : World → Prop} {Ef : Nat → Bool} {La : Bool}
/-- the closed conditions of a region -/
def regW (md : Region.Mode) (ops : Array Oper) : Bool :=
  Region.noSelect ops && (List.range ops.size).all fun j => match ops[j]? with
    | none => true
    | some oj => (oj.after.all fun e => !Region.binds md e || decide (e.on < j)) && (List.range ops.size).all fun i => match ops[i]? with
      | none => true
      | some oi => match oi.dst with
        | none => true
        | some t => (i == j || !(oj.looksAt ops).contains t || (oj.after.any fun e => Region.binds md e && e.on == i) || (oi.after.any fun e => Region.binds md e && e.on == j)) && (i == j || oj.dst != some t)
structure RegW (md : Region.Mode) (ops : Array Oper) : Prop where
  sel : Region.noSelect ops = true
  back : ∀ (j : Nat) (oj : Oper), ops[j]? = some oj → ∀ e ∈ oj.after, Region.binds md e = true → e.on < j
  dep : ∀ (i j : Nat) (oi oj : Oper) (t : Tmp), i ≠ j → ops[i]? = some oi → ops[j]? = some oj → oi.dst = some t → t ∈ oj.looksAt ops → (∃ e ∈ oj.after, Region.binds md e = true ∧ e.on = i) ∨ (∃ e ∈ oi.after, Region.binds md e = true ∧ e.on = j)
  dist : ∀ (i j : Nat) (oi oj : Oper) (t : Tmp), ops[i]? = some oi → ops[j]? = some oj → oi.dst = some t → oj.dst = some t → i = j
theorem regW_ok {md : Region.Mode} (h : regW md ops = true) : RegW md ops := by
  unfold regW at h
  rw [Bool.and_eq_true, List.all_eq_true] at h
  obtain ⟨hs, h⟩ := h
  have hj : ∀ (j : Nat) (oj : Oper), ops[j]? = some oj → (oj.after.all fun e => !Region.binds md e || decide (e.on < j)) = true ∧ ∀ (i : Nat) (oi : Oper) (t : Tmp), ops[i]? = some oi → oi.dst = some t →
      (i == j || !(oj.looksAt ops).contains t || (oj.after.any fun e => Region.binds md e && e.on == i) || (oi.after.any fun e => Region.binds md e && e.on == j)) = true ∧ (i == j || oj.dst != some t) = true := by
    intro j oj hj
    have h1 := h j (List.mem_range.2 (Array.getElem?_eq_some_iff.1 hj).1)
    simp only [hj, Bool.and_eq_true] at h1
    refine ⟨h1.1, fun i oi t hi ht => ?_⟩
    have h2 := List.all_eq_true.1 h1.2 i (List.mem_range.2 (Array.getElem?_eq_some_iff.1 hi).1)
    simp only [hi, ht, Bool.and_eq_true] at h2
    exact h2
  refine ⟨hs, fun j oj ho e he hb => ?_, fun i j oi oj t hne hi ho ht hl => ?_, fun i j oi oj t hi ho ht hd => ?_⟩
  · have := Array.all_eq_true_iff_forall_mem.1 (hj j oj ho).1 e he
    simpa [hb] using this
  · have := ((hj j oj ho).2 i oi t hi ht).1
    rw [Bool.or_eq_true, Bool.or_eq_true, Bool.or_eq_true] at this
    rcases this with ((h1 | h1) | h1) | h1
    · exact absurd (by simpa using h1) hne
    · simp [hl] at h1
    · left
      obtain ⟨e, he, hb⟩ := Array.any_eq_true'.1 h1
      simp only [Bool.and_eq_true, beq_iff_eq] at hb
      exact ⟨e, he, hb.1, hb.2⟩
    · right
      obtain ⟨e, he, hb⟩ := Array.any_eq_true'.1 h1
      simp only [Bool.and_eq_true, beq_iff_eq] at hb
      exact ⟨e, he, hb.1, hb.2⟩
  · have := ((hj j oj ho).2 i oi t hi ht).2
    simpa [hd] using this
theorem readyW {md : Region.Mode} (hok : RegW md ops) {listed : Array Bool} (hls : listed.size = ops.size) (hr : Region.ready md ops listed = []) : ∀ i, i < ops.size → listed.getD i false = true := by
  intro i
  induction i using Nat.strongRecOn with
  | ind i ih =>
    intro hi
    cases hf : listed.getD i false with
    | true => rfl
    | false =>
      exfalso
      have hm : i ∈ Region.ready md ops listed := by
        refine mem_ready.2 ⟨?_, ops[i], Array.getElem?_eq_getElem hi, fun e he hb => ?_⟩
        · have : i < listed.size := by omega
          simp [this] at hf ⊢; exact hf
        · have hlt := hok.back i ops[i] (Array.getElem?_eq_getElem hi) e he hb
          exact ih e.on hlt (by omega)
      rw [hr] at hm
      cases hm

/-- what it yields in every world of which the condition holds -/
def Still (P : Program) (Inv : World → Prop) (ops : Array Oper) (o : Oper) (a : Act) (v : Value) : Prop :=
  (Region.wanted o (yielded ops a.tmps) = false ∧ v = undef) ∨ (Region.wanted o (yielded ops a.tmps) = true ∧ ∀ w, Inv w → (execOp a.eval o).run P w = .ok (.value v) w)

def bOp (P : Program) (Inv : World → Prop) (Ef : Nat → Bool) (La : Bool) (ops : Array Oper) (i : Nat) (K : Array Bool → Act → World → Prop) (listed : Array Bool) (a : Act) (w : World) : Prop :=
  ∃ o, ops[i]? = some o ∧ ((∃ v, Still P Inv ops o a v ∧ K (listed.setIfInBounds i true) (a.put o.dst v) w) ∨
    (Region.wanted o (yielded ops a.tmps) = true ∧ Ef i = true ∧ Gets P o a w fun u w' => Inv w' ∧ K (listed.setIfInBounds i true) (a.put o.dst u) w') ∨
    (Region.wanted o (yielded ops a.tmps) = true ∧ La = true ∧ i + 1 = ops.size ∧ Gets P o a w fun u w' => K (listed.setIfInBounds i true) (a.put o.dst u) w'))

theorem bOp_mono {i : Nat} {K K' : Array Bool → Act → World → Prop} {listed : Array Bool} {a : Act} {w : World} (hw : Inv w) (h : bOp P Inv Ef La ops i K listed a w)
    (hk : ∀ o v w', ops[i]? = some o → (Inv w' ∨ i + 1 = ops.size) → K (listed.setIfInBounds i true) (a.put o.dst v) w' → K' (listed.setIfInBounds i true) (a.put o.dst v) w') : bOp P Inv Ef La ops i K' listed a w := by
  obtain ⟨o, ho, ⟨v, hs, hK⟩ | ⟨h1, h2, h3⟩ | ⟨h1, h2, h4, h3⟩⟩ := h
  · exact ⟨o, ho, .inl ⟨v, hs, hk o v w ho (.inl hw) hK⟩⟩
  · exact ⟨o, ho, .inr (.inl ⟨h1, h2, h3.mono fun u w' ⟨hi, hK⟩ => ⟨hi, hk o u w' ho (.inl hi) hK⟩⟩)⟩
  · exact ⟨o, ho, .inr (.inr ⟨h1, h2, h4, h3.mono fun u w' hK => hk o u w' ho (.inr h4) hK⟩)⟩

section
variable {md : Region.Mode}
theorem Still.congr (hok : RegW md ops) {i : Nat} {o : Oper} {a : Act} {u : Value} {d : Option Tmp} {v : Value} (ho : ops[i]? = some o) (h : ∀ t, d = some t → t ∉ o.looksAt ops) :
    Still P Inv ops o (a.put d v) u ↔ Still P Inv ops o a u := by
  have he : execOp (a.put d v).eval o = execOp a.eval o := execOp_put o (fun cs b => Region.noSelect_spec hok.sel i o cs b ho) a d v (fun t ht => h t ht)
  have hw : Region.wanted o (yielded ops (a.put d v).tmps) = Region.wanted o (yielded ops a.tmps) := wanted_put o a d v (fun t ht => h t ht)
  unfold Still
  rw [he, hw]
theorem Still.same {o : Oper} {a : Act} {u v : Value} {w : World} (hw : Inv w) (h : Still P Inv ops o a u) (h' : Still P Inv ops o a v) : u = v := by
  rcases h with ⟨h1, rfl⟩ | ⟨h1, h2⟩ <;> rcases h' with ⟨k1, rfl⟩ | ⟨k1, k2⟩
  · rfl
  · rw [h1] at k1; cases k1
  · rw [h1] at k1; cases k1
  · have e := (h2 w hw).symm.trans (k2 w hw)
    injection e with e _
    injection e with e

theorem bOp_comm (hok : RegW md ops) {k j : Nat} {K : Array Bool → Act → World → Prop} {listed : Array Bool} {a : Act} {w : World} (hw : Inv w) (hkj : k ≠ j)
    (hE : ¬ (Ef k = true ∧ Ef j = true)) (hLk : ¬ k + 1 = ops.size) (hLj : La = true → ¬ j + 1 = ops.size)
    (hap : ∀ ok oj, ops[k]? = some ok → ops[j]? = some oj → (∀ t, ok.dst = some t → t ∉ oj.looksAt ops) ∧ (∀ t, oj.dst = some t → t ∉ ok.looksAt ops))
    (h : bOp P Inv Ef La ops k (bOp P Inv Ef La ops j K) listed a w) : bOp P Inv Ef La ops j (bOp P Inv Ef La ops k K) listed a w := by
  have hc : (listed.setIfInBounds j true).setIfInBounds k true = (listed.setIfInBounds k true).setIfInBounds j true := Array.setIfInBounds_comm _ _ (Ne.symm hkj)
  obtain ⟨ok, hok1, ⟨v, hs, oj, hoj, h⟩ | ⟨h1, h2, h3⟩ | ⟨_, _, h4, _⟩⟩ := h
  · obtain ⟨hA, hB⟩ := hap ok oj hok1 hoj
    have hd : ∀ t, ok.dst = some t → oj.dst ≠ some t := fun t ht e => hkj (hok.dist k j ok oj t hok1 hoj ht e)
    have hp : ∀ u, (a.put oj.dst u).put ok.dst v = (a.put ok.dst v).put oj.dst u := fun u => (Act.put_comm a v u hd).symm
    rcases h with ⟨u, hu, hK⟩ | ⟨g1, g2, g3⟩ | ⟨_, g2, g4, _⟩
    · exact ⟨oj, hoj, .inl ⟨u, (Still.congr hok hoj hA).1 hu, ok, hok1, .inl ⟨v, (Still.congr hok hok1 hB).2 hs, by rw [hc, hp]; exact hK⟩⟩⟩
    · have he : execOp (a.put ok.dst v).eval oj = execOp a.eval oj := execOp_put oj (fun cs b => Region.noSelect_spec hok.sel j oj cs b hoj) a ok.dst v (fun t ht => hA t ht)
      have hww : Region.wanted oj (yielded ops (a.put ok.dst v).tmps) = Region.wanted oj (yielded ops a.tmps) := wanted_put oj a ok.dst v (fun t ht => hA t ht)
      exact ⟨oj, hoj, .inr (.inl ⟨hww ▸ g1, g2, (Gets.congr he.symm g3).mono fun u w' ⟨hi, hK⟩ => ⟨hi, ok, hok1, .inl ⟨v, (Still.congr hok hok1 hB).2 hs, by rw [hc, hp]; exact hK⟩⟩⟩)⟩
    · exact absurd g4 (hLj g2)
  · obtain ⟨u0, w0, hi0, oj, hoj, hx⟩ := h3.some
    obtain ⟨hA, hB⟩ := hap ok oj hok1 hoj
    have hd : ∀ t, ok.dst = some t → oj.dst ≠ some t := fun t ht e => hkj (hok.dist k j ok oj t hok1 hoj ht e)
    rcases hx with ⟨v, hv, _⟩ | ⟨_, g2, _⟩ | ⟨_, g2, g4, _⟩
    · have hv' := (Still.congr hok hoj hA).1 hv
      have he : execOp (a.put oj.dst v).eval ok = execOp a.eval ok := execOp_put ok (fun cs b => Region.noSelect_spec hok.sel k ok cs b hok1) a oj.dst v (fun t ht => hB t ht)
      have hww : Region.wanted ok (yielded ops (a.put oj.dst v).tmps) = Region.wanted ok (yielded ops a.tmps) := wanted_put ok a oj.dst v (fun t ht => hB t ht)
      refine ⟨oj, hoj, .inl ⟨v, hv', ok, hok1, .inr (.inl ⟨hww.symm ▸ h1, h2, Gets.congr he (h3.mono fun u w' ⟨hi, hb⟩ => ⟨hi, ?_⟩)⟩)⟩⟩
      obtain ⟨oj', hoj', ⟨v', hv1, hK⟩ | ⟨_, g2, _⟩ | ⟨_, g2, g4, _⟩⟩ := hb
      · rw [hoj] at hoj'
        cases hoj'
        have : v' = v := Still.same hi ((Still.congr hok hoj hA).1 hv1) hv'
        subst this
        rw [hc, (Act.put_comm a u v' hd).symm]
        exact hK
      · exact absurd ⟨h2, g2⟩ hE
      · exact absurd g4 (hLj g2)
    · exact absurd ⟨h2, g2⟩ hE
    · exact absurd g4 (hLj g2)
  · exact absurd h4 hLk

/-- the walk of those that have not come up, in the order of the text -/
def walkB (P : Program) (Inv : World → Prop) (Ef : Nat → Bool) (La : Bool) (ops : Array Oper) (Qf : Act → World → Prop) : Nat → Nat → Array Bool → Act → World → Prop
  | 0, _, _, a, w => Qf a w
  | m + 1, k, listed, a, w => if listed.getD k true = true then walkB P Inv Ef La ops Qf m (k + 1) listed a w else bOp P Inv Ef La ops k (walkB P Inv Ef La ops Qf m (k + 1)) listed a w

theorem walkB_move (hok : RegW md ops) {Qf : Act → World → Prop} {j : Nat} {oj : Oper} (hoj : ops[j]? = some oj) : ∀ (m k : Nat) (listed : Array Bool) (a : Act) (w : World),
    listed.size = ops.size → k + m = ops.size → k ≤ j → listed.getD j false = false → (∀ i, i < k → listed.getD i false = true ∨ j ≤ i) →
    (∀ e ∈ oj.after, Region.binds md e = true → listed.getD e.on false = true) → (∀ i, i < j → Ef i = true → Ef j = true → listed.getD i false = true) → (La = true → j + 1 = ops.size → ∀ i, i < j → listed.getD i false = true) → Inv w →
    walkB P Inv Ef La ops Qf m k listed a w → bOp P Inv Ef La ops j (walkB P Inv Ef La ops Qf m k) listed a w := by
  intro m
  induction m with
  | zero =>
    intro k listed a w hls hkm hkj hj _ _ _ _ _ _
    have := (Array.getElem?_eq_some_iff.1 hoj).1
    omega
  | succ m ih =>
    intro k listed a w hls hkm hkj hj hbelow hrd hE hL hw h
    have hjs : j < ops.size := (Array.getElem?_eq_some_iff.1 hoj).1
    rcases Nat.lt_or_ge k j with hlt | hge
    · by_cases hl : listed.getD k true = true
      · simp only [walkB, hl, if_true] at h
        have hb' : ∀ i, i < k + 1 → listed.getD i false = true ∨ j ≤ i := by
          intro i hi
          rcases Nat.lt_or_ge i k with h1 | h1
          · exact hbelow i h1
          · have : i = k := by omega
            subst this
            left
            have hks : i < listed.size := by omega
            simp [hks] at hl ⊢
            exact hl
        refine bOp_mono hw (ih (k + 1) listed a w hls (by omega) (by omega) hj hb' hrd hE hL hw h) fun o v w' ho hi hx => ?_
        have hne : j ≠ k := by omega
        simp only [walkB, getD_setD hne, hl, if_true]
        exact hx
      · simp only [walkB, hl] at h
        have hks : k < listed.size := by omega
        have hkf : listed.getD k false = false := getD_ne_true hks hl
        have hne : k ≠ j := by omega
        have hbk : ∀ i, i < k → listed.getD i false = true := fun i hi => (hbelow i hi).resolve_right (by omega)
        have h1 : bOp P Inv Ef La ops k (bOp P Inv Ef La ops j (walkB P Inv Ef La ops Qf m (k + 1))) listed a w := by
          refine bOp_mono hw h fun o v w' ho hi hx => ?_
          refine ih (k + 1) _ _ w' (by simp [hls]) (by omega) (by omega) (by rw [getD_setD hne]; exact hj) ?_ ?_ ?_ ?_ (hi.resolve_right (by omega)) hx
          · intro i hi
            rcases Nat.lt_or_ge i k with h1 | h1
            · left
              rw [getD_setD (by omega)]
              exact hbk i h1
            · have : i = k := by omega
              subst this
              left
              exact getD_self hks _
          · intro e he hb
            by_cases hek : k = e.on
            · subst hek; exact getD_self hks _
            · rw [getD_setD hek]; exact hrd e he hb
          · intro i hi h1 h2
            by_cases hek : k = i
            · subst hek; exact getD_self hks _
            · rw [getD_setD hek]; exact hE i hi h1 h2
          · intro h1 h2 i hi
            by_cases hek : k = i
            · subst hek; exact getD_self hks _
            · rw [getD_setD hek]; exact hL h1 h2 i hi
        have h2 := bOp_comm hok hw hne (fun ⟨e1, e2⟩ => by have := hE k hlt e1 e2; rw [hkf] at this; cases this) (by omega) (fun e1 e2 => by have := hL e1 e2 k hlt; rw [hkf] at this; cases this) (fun ok oj' hk1 hj1 => ⟨(fun t ht hlk => by
            rw [hoj] at hj1
            cases hj1
            rcases hok.dep k j ok oj t hne hk1 hoj ht hlk with ⟨e, he, hb, he2⟩ | ⟨e, he, hb, he2⟩
            · have := hrd e he hb
              rw [he2, hkf] at this
              exact absurd this (by simp)
            · have := hok.back k ok hk1 e he hb
              omega), (fun t ht hlk => by
            rw [hoj] at hj1
            cases hj1
            rcases hok.dep j k oj ok t (Ne.symm hne) hoj hk1 ht hlk with ⟨e, he, hb, he2⟩ | ⟨e, he, hb, he2⟩
            · have := hok.back k ok hk1 e he hb
              omega
            · have := hrd e he hb
              rw [he2, hkf] at this
              exact absurd this (by simp))⟩) h1
        refine bOp_mono hw h2 fun o v w' ho hi hx => ?_
        have hl' : ¬ (listed.setIfInBounds j true).getD k true = true := by rw [getD_setD (Ne.symm hne)]; exact hl
        simp only [walkB, hl']
        exact hx
    · have hkj' : k = j := by omega
      subst hkj'
      have hl : ¬ listed.getD k true = true := by
        have hks : k < listed.size := by omega
        simp [hks] at hj ⊢; exact hj
      simp only [walkB, hl] at h
      refine bOp_mono hw h fun o v w' ho hi hx => ?_
      have hl' : (listed.setIfInBounds k true).getD k true = true := getD_self (by omega) _
      simp only [walkB, hl', if_true]
      exact hx

theorem walkB_done {Qf : Act → World → Prop} : ∀ (m k : Nat) (listed : Array Bool) (a : Act) (w : World), k + m = ops.size → listed.size = ops.size → (∀ i, i < ops.size → listed.getD i false = true) → walkB P Inv Ef La ops Qf m k listed a w → Qf a w
  | 0, _, _, _, _, _, _, _, h => h
  | m + 1, k, listed, a, w, hkm, hls, hall, h => by
    have hl : listed.getD k true = true := by
      have h1 := hall k (by omega)
      have hks : k < listed.size := by omega
      simp [hks] at h1 ⊢; exact h1
    simp only [walkB, hl, if_true] at h
    exact walkB_done m (k + 1) listed a w (by omega) hls hall h

/-- what has come up is closed towards what must come ahead -/
def Down (md : Region.Mode) (ops : Array Oper) (listed : Array Bool) : Prop := ∀ (j : Nat) (oj : Oper), listed.getD j false = true → ops[j]? = some oj → ∀ e ∈ oj.after, Region.binds md e = true → listed.getD e.on false = true
/-- i comes ahead of all that A marks -/
def ancB (md : Region.Mode) (ops : Array Oper) (i : Nat) (A : Array Bool) : Bool :=
  (List.range ops.size).all fun j => !(A.getD j false) || j == i || (match ops[j]? with | none => false | some o => o.after.any fun e => Region.binds md e && A.getD e.on false)
theorem anc_listed (hok : RegW md ops) {listed A : Array Bool} (hd : Down md ops listed) {i : Nat} (hA : ancB md ops i A = true) : ∀ j, j < ops.size → A.getD j false = true → listed.getD j false = true → listed.getD i false = true := by
  intro j
  induction j using Nat.strongRecOn with
  | ind j ih =>
    intro hj ha hl
    have h := List.all_eq_true.1 hA j (List.mem_range.2 hj)
    rw [ha] at h
    simp only [Bool.not_true, Bool.false_or, Bool.or_eq_true, beq_iff_eq] at h
    rcases h with rfl | h
    · exact hl
    · rw [Array.getElem?_eq_getElem hj] at h
      simp only at h
      obtain ⟨e, he, hb⟩ := Array.any_eq_true'.1 h
      rw [Bool.and_eq_true] at hb
      have hlt := hok.back j ops[j] (Array.getElem?_eq_getElem hj) e he hb.1
      exact ih e.on hlt (by omega) hb.2 (hd j ops[j] hl (Array.getElem?_eq_getElem hj) e he hb.1)
theorem anc_ready (hok : RegW md ops) {listed A : Array Bool} (hd : Down md ops listed) {i j : Nat} {oj : Oper} (hoj : ops[j]? = some oj) (hij : i ≠ j) (hr : ∀ e ∈ oj.after, Region.binds md e = true → listed.getD e.on false = true) (hA : ancB md ops i A = true) (ha : A.getD j false = true) : listed.getD i false = true := by
  obtain ⟨hj, he0⟩ := Array.getElem?_eq_some_iff.1 hoj
  have h := List.all_eq_true.1 hA j (List.mem_range.2 hj)
  rw [ha] at h
  simp only [Bool.not_true, Bool.false_or, Bool.or_eq_true, beq_iff_eq] at h
  rcases h with rfl | h
  · exact absurd rfl hij
  · rw [hoj] at h
    simp only at h
    obtain ⟨e, he, hb⟩ := Array.any_eq_true'.1 h
    rw [Bool.and_eq_true] at hb
    have hlt := hok.back j oj hoj e he hb.1
    exact anc_listed hok hd hA e.on (by omega) hb.2 (hr e he hb.1)
def reachA (md : Region.Mode) (ops : Array Oper) (i : Nat) : Array Bool :=
  (List.range ops.size).foldl (fun A j => A.push (j == i || (match ops[j]? with | none => false | some o => o.after.any fun e => Region.binds md e && A.getD e.on false))) #[]
/-- of two marked operations the one must come ahead of the other -/
def ordB (md : Region.Mode) (ops : Array Oper) (Es : List Bool) : Bool :=
  (List.range ops.size).all fun i => !(Es.getD i false) || (let A := reachA md ops i; ancB md ops i A && (List.range ops.size).all fun j => !(Es.getD j false) || decide (j ≤ i) || A.getD j false)
theorem ordB_ok (hok : RegW md ops) {Es : List Bool} (h : ordB md ops Es = true) {listed : Array Bool} (hd : Down md ops listed) {j : Nat} {oj : Oper} (hoj : ops[j]? = some oj) (hr : ∀ e ∈ oj.after, Region.binds md e = true → listed.getD e.on false = true) :
    ∀ i, i < j → Es.getD i false = true → Es.getD j false = true → listed.getD i false = true := by
  intro i hi h1 h2
  have hj := (Array.getElem?_eq_some_iff.1 hoj).1
  have h3 := List.all_eq_true.1 h i (List.mem_range.2 (by omega))
  rw [h1] at h3
  simp only [Bool.not_true, Bool.false_or, Bool.and_eq_true] at h3
  have h4 := List.all_eq_true.1 h3.2 j (List.mem_range.2 hj)
  rw [h2, decide_eq_false (by omega : ¬ j ≤ i)] at h4
  simp only [Bool.not_true, Bool.false_or] at h4
  exact anc_ready hok hd hoj (by omega) hr h3.1 h4

/-- all others must come ahead of the last one -/
def lastB (md : Region.Mode) (ops : Array Oper) : Bool :=
  (List.range (ops.size - 1)).all fun i => let A := reachA md ops i; ancB md ops i A && A.getD (ops.size - 1) false
theorem lastB_ok (hok : RegW md ops) (h : lastB md ops = true) {listed : Array Bool} (hd : Down md ops listed) {j : Nat} {oj : Oper} (hoj : ops[j]? = some oj) (hj : j + 1 = ops.size) (hr : ∀ e ∈ oj.after, Region.binds md e = true → listed.getD e.on false = true) : ∀ i, i < j → listed.getD i false = true := by
  intro i hi
  have h3 := List.all_eq_true.1 h i (List.mem_range.2 (by omega))
  rw [Bool.and_eq_true] at h3
  have h4 := h3.2
  rw [show ops.size - 1 = j from by omega] at h4
  exact anc_ready hok hd hoj (by omega) hr h3.1 h4

theorem wpAny_done (hok : RegW md ops) {Q : Exit → Act → World → Prop} (fuel : Nat) {listed : Array Bool} {a : Act} {w : World} (hls : listed.size = ops.size) (hall : ∀ i, i < ops.size → listed.getD i false = true) (hQ : Q .normal a w) : wpAny P md ops Q fuel listed a w := by
  have hr : Region.ready md ops listed = [] := by
    cases hr : Region.ready md ops listed with
    | nil => rfl
    | cons x xs =>
      have hm : x ∈ Region.ready md ops listed := by rw [hr]; simp
      obtain ⟨h1, o, ho, _⟩ := mem_ready.1 hm
      have hx := hall x (Array.getElem?_eq_some_iff.1 ho).1
      have hxs : x < listed.size := by rw [hls]; exact (Array.getElem?_eq_some_iff.1 ho).1
      simp [hxs] at h1 hx
      rw [h1] at hx
      cases hx
  cases fuel with
  | zero => exact ⟨hr, hQ⟩
  | succ n => exact ⟨fun _ => hQ, fun i hi => by rw [hr] at hi; cases hi⟩

theorem wpAny_of_walkB (hok : RegW md ops) {Es : List Bool} (hO : ordB md ops Es = true) (hLa : La = true → lastB md ops = true) {Q : Exit → Act → World → Prop} {Qf : Act → World → Prop} (hQ : ∀ a w, Qf a w → Q .normal a w) :
    ∀ (fuel : Nat) (listed : Array Bool) (a : Act) (w : World), listed.size = ops.size → Inv w → Down md ops listed → unl listed ≤ fuel →
    walkB P Inv (fun i => Es.getD i false) La ops Qf ops.size 0 listed a w → wpAny P md ops Q fuel listed a w := by
  have fin : ∀ (listed : Array Bool) (a : Act) (w : World), listed.size = ops.size → Inv w → walkB P Inv (fun i => Es.getD i false) La ops Qf ops.size 0 listed a w → (∀ i, i < ops.size → listed.getD i false = true) → Q .normal a w := by
    intro listed a w hls hg hw hall
    exact hQ a w (walkB_done _ _ _ _ _ (by omega) hls hall hw)
  intro fuel
  induction fuel with
  | zero =>
    intro listed a w hls hg hd hu hw
    have hall : ∀ i, i < ops.size → listed.getD i false = true := by
      intro i hi
      have hi' : i < listed.size := by omega
      have h0 : List.countP (fun b => !b) listed.toList = 0 := by unfold unl at hu; omega
      have := List.countP_eq_zero.1 h0 listed[i] (Array.mem_toList_iff.2 (Array.getElem_mem hi'))
      simp [hi'] at this ⊢
      exact this
    refine ⟨?_, fin listed a w hls hg hw hall⟩
    cases hr : Region.ready md ops listed with
    | nil => rfl
    | cons x xs =>
      have hm : x ∈ Region.ready md ops listed := by rw [hr]; simp
      obtain ⟨h1, o, ho, _⟩ := mem_ready.1 hm
      have hx := hall x (Array.getElem?_eq_some_iff.1 ho).1
      have hxs : x < listed.size := by rw [hls]; exact (Array.getElem?_eq_some_iff.1 ho).1
      simp [hxs] at h1 hx
      rw [h1] at hx
      cases hx
  | succ fuel ih =>
    intro listed a w hls hg hd hu hw
    refine ⟨fun hr => fin listed a w hls hg hw (readyW hok hls hr), fun i hi => ?_⟩
    obtain ⟨hun, o, ho, hall⟩ := mem_ready.1 hi
    have his : i < ops.size := (Array.getElem?_eq_some_iff.1 ho).1
    have his' : i < listed.size := by omega
    have hun' : listed.getD i false = false := by simp [his'] at hun ⊢; exact hun
    obtain ⟨o', ho', hF⟩ := walkB_move hok ho ops.size 0 listed a w hls (by omega) (by omega) hun' (fun i hi => by omega) hall (ordB_ok hok hO hd ho hall) (fun e1 e2 => lastB_ok hok (hLa e1) hd ho e2 hall) hg hw
    rw [ho] at ho'
    cases ho'
    have hu' : unl (listed.setIfInBounds i true) ≤ fuel := by
      unfold unl at hu ⊢
      have h1 : listed[i] = false := by simp [his'] at hun; exact hun
      have h2 : listed.toList = listed.toList.take i ++ listed[i] :: listed.toList.drop (i + 1) := by
        rw [← Array.getElem_toList]
        rw [List.getElem_cons_drop (h := by simpa using his')]
        exact (List.take_append_drop i _).symm
      have h3 : (listed.setIfInBounds i true).toList = listed.toList.take i ++ true :: listed.toList.drop (i + 1) := by
        rw [Array.toList_setIfInBounds, List.set_eq_take_append_cons_drop, if_pos (by simpa using his')]
      rw [h2, List.countP_append, List.countP_cons, h1] at hu
      rw [h3, List.countP_append, List.countP_cons]
      simp at hu ⊢
      omega
    have hd' : Down md ops (listed.setIfInBounds i true) := by
      intro j oj hl hj e he hb
      have hx : listed.getD e.on false = true := by
        by_cases hij : i = j
        · subst hij
          rw [ho] at hj
          cases hj
          exact hall e he hb
        · rw [getD_setD hij] at hl
          exact hd j oj hl hj e he hb
      by_cases hie : i = e.on
      · subst hie; exact getD_self his' _
      · rw [getD_setD hie]; exact hx
    unfold wpOp
    simp only [ho]
    rcases hF with ⟨v, ⟨h1, rfl⟩ | ⟨h1, h2⟩, hK⟩ | ⟨h1, h2, h3⟩ | ⟨h1, h2, h4, h3⟩
    · simp only [h1, Bool.false_eq_true, if_false]
      exact ih _ _ _ (by simp [hls]) hg hd' hu' hK
    · simp only [h1, if_true]
      refine .inl ?_
      unfold Oper.wp
      rw [h2 w hg]
      exact ih _ _ _ (by simp [hls]) hg hd' hu' hK
    · simp only [h1, if_true]
      refine .inl (h3.wp fun u w' hR => ?_)
      exact ih _ _ _ (by simp [hls]) hR.1 hd' hu' hR.2
    · simp only [h1, if_true]
      refine .inl (h3.wp fun u w' hR => ?_)
      have hall' : ∀ k, k < ops.size → (listed.setIfInBounds i true).getD k false = true := by
        intro k hk
        by_cases hik : i = k
        · subst hik; exact getD_self his' _
        · rw [getD_setD hik]
          exact lastB_ok hok (hLa h2) hd ho h4 hall k (by omega)
      exact wpAny_done hok fuel (by simp [hls]) hall' (hQ _ _ (walkB_done _ _ _ _ _ (by omega) (by simp [hls]) hall' hR))

/-! ## the walk that is written -/
def wpOrd (P : Program) (Inv : World → Prop) (La : Bool) (ops : Array Oper) (Qf : Act → World → Prop) : List Bool → List Oper → Act → World → Prop
  | _, [], a, w => Qf a w
  | E :: Es, o :: rest, a, w => (∃ v, Still P Inv ops o a v ∧ wpOrd P Inv La ops Qf Es rest (a.put o.dst v) w) ∨
      (Region.wanted o (yielded ops a.tmps) = true ∧ E = true ∧ Gets P o a w fun u w' => Inv w' ∧ wpOrd P Inv La ops Qf Es rest (a.put o.dst u) w') ∨
      (Region.wanted o (yielded ops a.tmps) = true ∧ La = true ∧ rest = [] ∧ Gets P o a w fun u w' => Qf (a.put o.dst u) w')
  | [], _ :: _, _, _ => False

theorem walkB_of_ord {Qf : Act → World → Prop} {Es0 : List Bool} : ∀ (l : List Oper) (Es : List Bool) (k : Nat) (listed : Array Bool) (a : Act) (w : World), (∀ j, l[j]? = ops[k + j]?) → (∀ j, Es[j]? = Es0[k + j]?) → k + l.length = ops.size → listed.size = ops.size →
    (∀ i, k ≤ i → i < ops.size → listed.getD i true = false) → wpOrd P Inv La ops Qf Es l a w → walkB P Inv (fun i => Es0.getD i false) La ops Qf l.length k listed a w
  | [], _, _, _, _, _, _, _, _, _, _, h => by simpa [walkB, wpOrd] using h
  | o :: l, Es, k, listed, a, w, hl, hE, hk, hls, hun, h => by
    simp only [List.length_cons] at hk
    have ho : ops[k]? = some o := by simpa using (hl 0).symm
    have hf : ¬ listed.getD k true = true := by rw [hun k (Nat.le_refl _) (by omega)]; simp
    have hl' : ∀ j, l[j]? = ops[k + 1 + j]? := fun j => by have := hl (j + 1); simpa [Nat.add_assoc, Nat.add_comm 1 j] using this
    have hun' : ∀ i, k + 1 ≤ i → i < ops.size → (listed.setIfInBounds k true).getD i true = false := fun i h1 h2 => by rw [getD_setD (by omega)]; exact hun i (by omega) h2
    simp only [List.length_cons, walkB, hf]
    cases Es with
    | nil => simp [wpOrd] at h
    | cons E Es =>
      have hE0 : Es0[k]? = some E := by simpa using (hE 0).symm
      have hE' : ∀ j, Es[j]? = Es0[k + 1 + j]? := fun j => by have := hE (j + 1); simpa [Nat.add_assoc, Nat.add_comm 1 j] using this
      rcases h with ⟨v, h1, h2⟩ | ⟨h1, h2, h3⟩ | ⟨h1, h2, h4, h3⟩
      · exact ⟨o, ho, .inl ⟨v, h1, walkB_of_ord l Es (k + 1) _ _ _ hl' hE' (by omega) (by simp [hls]) hun' h2⟩⟩
      · exact ⟨o, ho, .inr (.inl ⟨h1, by subst h2; simp [List.getD, hE0], h3.mono fun u w' ⟨hi, hx⟩ => ⟨hi, walkB_of_ord l Es (k + 1) _ _ _ hl' hE' (by omega) (by simp [hls]) hun' hx⟩⟩)⟩
      · subst h4
        exact ⟨o, ho, .inr (.inr ⟨h1, h2, by simp at hk; omega, h3.mono fun u w' hx => by simpa [walkB] using hx⟩)⟩

/-- ONE WALK SERVES EVERY ORDER, where what may turn comes in one order alone. -/
theorem region_ordL {id : Nat} {Q : Exit → Act → World → Prop} {a : Act} {w : World} {l : List Oper} (Inv : World → Prop) (La : Bool) (Es : List Bool) (hm : P.follows .mixedOrders = true) (hB : regW .any l.toArray = true) (hO : ordB .any l.toArray Es = true) (hLa : (!La || lastB .any l.toArray) = true)
    (h0 : Inv w.drew) (h : wpOrd P Inv La l.toArray (fun a' w' => Q .normal a' w') Es l a w.drew) : (Code.region id l.toArray true).wp P Q a w := by
  refine wp_region_any hm ?_
  refine wpAny_of_walkB (La := La) (regW_ok hB) hO (fun e => by subst e; simpa using hLa) (Inv := Inv) (Qf := fun a' w' => Q .normal a' w') (fun a' w' hq => hq) _ _ _ _ (by simp) h0 ?_ ?_ ?_
  · intro j oj hl
    by_cases hi : j < l.length <;> simp [hi] at hl
  · unfold unl
    simp only [Array.toList_replicate]
    refine Nat.le_trans List.countP_le_length ?_
    simp
  · have := walkB_of_ord (P := P) (Inv := Inv) (La := La) (ops := l.toArray) (Es0 := Es) (Qf := fun a' w' => Q .normal a' w') l Es 0 (Array.replicate l.toArray.size false) a w.drew (by simp) (by simp) (by simp) (by simp) (fun i h1 h2 => by simp at h2; simp [h2]) h
    simpa using this

theorem region_ord {id : Nat} {Q : Exit → Act → World → Prop} {a : Act} {w : World} {l : List Oper} (Inv : World → Prop) (Es : List Bool) (hm : P.follows .mixedOrders = true) (hB : regW .any l.toArray = true) (hO : ordB .any l.toArray Es = true)
    (h0 : Inv w.drew) (h : wpOrd P Inv false l.toArray (fun a' w' => Q .normal a' w') Es l a w.drew) : (Code.region id l.toArray true).wp P Q a w :=
  region_ordL Inv false Es hm hB hO rfl h0 h

theorem ord_nil {Qf : Act → World → Prop} {Es : List Bool} {a : Act} {w : World} (h : Qf a w) : wpOrd P Inv La ops Qf Es [] a w := by
  cases Es <;> exact h
theorem ord_val {Qf : Act → World → Prop} {E : Bool} {Es : List Bool} {o : Oper} {rest : List Oper} {a : Act} {w : World} {v : Value} (hw : Region.wanted o (yielded ops a.tmps) = true)
    (h : ∀ w, Inv w → (execOp a.eval o).run P w = .ok (.value v) w) (hk : ∀ K : Act → Prop, (∀ b, wpOrd P Inv La ops Qf Es rest b w → K b) → K (a.put o.dst v)) : wpOrd P Inv La ops Qf (E :: Es) (o :: rest) a w := .inl ⟨v, .inr ⟨hw, h⟩, hk _ fun _ h => h⟩
theorem ord_not {Qf : Act → World → Prop} {E : Bool} {Es : List Bool} {o : Oper} {rest : List Oper} {a : Act} {w : World} (hw : Region.wanted o (yielded ops a.tmps) = false)
    (hk : ∀ K : Act → Prop, (∀ b, wpOrd P Inv La ops Qf Es rest b w → K b) → K (a.put o.dst undef)) : wpOrd P Inv La ops Qf (E :: Es) (o :: rest) a w := .inl ⟨undef, .inl ⟨hw, rfl⟩, hk _ fun _ h => h⟩
theorem ord_eff {Qf : Act → World → Prop} {Es : List Bool} {o : Oper} {rest : List Oper} {a : Act} {w : World} (hw : Region.wanted o (yielded ops a.tmps) = true)
    (hk : ∀ K : Act → World → Prop, (∀ b w', wpOrd P Inv La ops Qf Es rest b w' → K b w') → Gets P o a w fun u w' => Inv w' ∧ K (a.put o.dst u) w') : wpOrd P Inv La ops Qf (true :: Es) (o :: rest) a w := .inr (.inl ⟨hw, rfl, hk _ fun _ _ h => h⟩)
/-- the last one, behind which nothing is asked of the world -/
theorem ord_last {Qf : Act → World → Prop} {E : Bool} {Es : List Bool} {o : Oper} {a : Act} {w : World} (hw : Region.wanted o (yielded ops a.tmps) = true)
    (hk : Gets P o a w fun u w' => Qf (a.put o.dst u) w') : wpOrd P Inv true ops Qf (E :: Es) [o] a w := .inr (.inr ⟨hw, rfl, rfl, hk⟩)
end
end
end Go.Proofs.Ytlbodandidopfaa
