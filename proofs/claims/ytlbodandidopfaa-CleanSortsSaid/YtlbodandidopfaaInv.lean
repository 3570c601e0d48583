/- A statement whose order is open, walked once, in the order of its text: each operation is shown in every world that has only grown since the statement began, from what it looks at alone. Conditions: none of its own. -/
import Derived.Test.YtlbodandidopfaaRows
import Derived.Orders
import Derived.Below
import Derived.WalkKit
namespace Go.Proofs.Ytlbodandidopfaa
open Go Go.RowKit
set_option linter.unusedVariables false
set_option linter.unusedSimpArgs false

/-- the world has only grown: nothing that was there has turned -/
def Grow (w w' : World) : Prop := Below w.heap.size w w'
theorem Grow.refl (w : World) : Grow w w := Below.refl _ _
theorem Grow.trans {a b c : World} (h : Grow a b) (k : Grow b c) : Grow a c := Below.trans h (Below.mono k h.size)
theorem Grow.drew {a b : World} (h : Grow a b) : Grow a b.drew := Below.drew h
theorem Grow.alloc (w : World) (o : Obj) : Grow w (w.alloc o) := (Below.refl _ _).alloc (Nat.le_refl _) o

section
variable {P : Program}
/-- what an operation gives, and the world behind it -/
def Gets (P : Program) (o : Oper) (a : Act) (w : World) (R : Value → World → Prop) : Prop :=
  match (execOp a.eval o).run P w with
  | .ok (.value u) w' => R u w'
  | .ok .skip w' => R undef w'
  | .ok (.enter f args) w' => Calls P f args w' (fun e w'' => ∃ u, e = .returned u ∧ R u w'')
  | .ok (.row row args) w' => Rows P row args w' R
  | _ => False

theorem Gets.some {o : Oper} {a : Act} {w : World} {R : Value → World → Prop} (h : Gets P o a w R) : ∃ u w', R u w' := by
  unfold Gets at h
  split at h
  · exact ⟨_, _, h⟩
  · exact ⟨_, _, h⟩
  · obtain ⟨e, w', fr, ⟨u, _, hr⟩, _⟩ := h []
    exact ⟨u, w', hr⟩
  · obtain ⟨v, w', hr, _⟩ := h default []
    exact ⟨v, w', hr⟩
  · exact h.elim

theorem Gets.wp {o : Oper} {a : Act} {w : World} {R : Value → World → Prop} {K : Act → World → Prop} {Q : Exit → Act → World → Prop} (h : Gets P o a w R) (hk : ∀ u w', R u w' → K (a.put o.dst u) w') : o.wp P a w K Q := by
  unfold Gets at h
  unfold Oper.wp
  generalize (execOp a.eval o).run P w = r at *
  cases r with
  | ok n w' =>
    cases n <;> simp only [Oper.upon] at h ⊢
    case value u => exact hk _ _ h
    case skip => exact hk _ _ h
    case enter f args => exact Calls.mono h fun e w'' ⟨u, he, hr⟩ => by subst he; exact hk _ _ hr
    case row row args => exact Rows.mono h fun u w'' hr => hk _ _ hr
  | halt x w' => exact h.elim

theorem Gets.congr {o : Oper} {a a' : Act} {w : World} {R : Value → World → Prop} (he : execOp a'.eval o = execOp a.eval o) (h : Gets P o a w R) : Gets P o a' w R := by
  unfold Gets at *
  rw [he]
  exact h

abbrev Spec := Value → World → Prop
def Stable (D : Spec) : Prop := ∀ v w w', D v w → Grow w w' → D v w'
def StableAll : List (Option Spec) → Prop
  | [] => True
  | none :: r => StableAll r
  | some D :: r => Stable D ∧ StableAll r
theorem StableAll.get : ∀ {l : List (Option Spec)}, StableAll l → ∀ (i : Nat) (D : Spec), l[i]? = some (some D) → Stable D
  | [], _, _, _, h => by simp at h
  | none :: r, hs, 0, D, h => by simp at h
  | none :: r, hs, i + 1, D, h => StableAll.get (l := r) hs i D (by simpa using h)
  | some E :: r, hs, 0, D, h => by simp at h; subst h; exact hs.1
  | some E :: r, hs, i + 1, D, h => StableAll.get (l := r) hs.2 i D (by simpa using h)

variable {ops : Array Oper} {Ds : List (Option Spec)} {w0 : World}

/-- what is known of the values that an operation looks at -/
def Looked (ops : Array Oper) (Ds : List (Option Spec)) (o : Oper) (a : Act) (w : World) : Prop :=
  ∀ (i : Nat) (oi : Oper) (t : Tmp) (D : Spec), ops[i]? = some oi → oi.dst = some t → t ∈ o.looksAt ops → Ds[i]? = some (some D) → D (a.eval (.tmp t)) w

/-- what is known of the values of the operations that have come up -/
def Hold (ops : Array Oper) (Ds : List (Option Spec)) (listed : Array Bool) (a : Act) (w : World) : Prop :=
  ∀ (i : Nat) (oi : Oper) (t : Tmp) (D : Spec), listed.getD i false = true → ops[i]? = some oi → oi.dst = some t → Ds[i]? = some (some D) → D (a.eval (.tmp t)) w

def Sat (ops : Array Oper) (Ds : List (Option Spec)) (w0 : World) (listed : Array Bool) (a : Act) : Prop := ∃ w, Grow w0 w ∧ Hold ops Ds listed a w

/-- what is shown of operation i in a state -/
inductive Fact (P : Program) (ops : Array Oper) (Ds : List (Option Spec)) (w0 : World) (i : Nat) (o : Oper) (a : Act) : (Value → Prop) → Prop
  | not (hw : Region.wanted o (yielded ops a.tmps) = false) (hD : ∀ D, Ds[i]? ≠ some (some D)) : Fact P ops Ds w0 i o a (fun v => v = undef)
  | val (v : Value) (hw : Region.wanted o (yielded ops a.tmps) = true) (hD : ∀ D, Ds[i]? ≠ some (some D)) (h : ∀ w, Grow w0 w → Looked ops Ds o a w → (execOp a.eval o).run P w = .ok (.value v) w) : Fact P ops Ds w0 i o a (fun u => u = v)
  | any (D : Spec) (hw : Region.wanted o (yielded ops a.tmps) = true) (hD : Ds[i]? = some (some D)) (h : ∀ w, Grow w0 w → Looked ops Ds o a w → Gets P o a w (fun u w' => D u w' ∧ Grow w w')) : Fact P ops Ds w0 i o a (fun _ => True)

def aOp (P : Program) (ops : Array Oper) (Ds : List (Option Spec)) (w0 : World) (i : Nat) (K : Array Bool → Act → Prop) (listed : Array Bool) (a : Act) : Prop :=
  ∃ o, ops[i]? = some o ∧ ∃ V, Fact P ops Ds w0 i o a V ∧ ∀ v, V v → Sat ops Ds w0 (listed.setIfInBounds i true) (a.put o.dst v) → K (listed.setIfInBounds i true) (a.put o.dst v)

theorem aOp_mono {i : Nat} {K K' : Array Bool → Act → Prop} {listed : Array Bool} {a : Act} (h : aOp P ops Ds w0 i K listed a)
    (hk : ∀ o v, ops[i]? = some o → Sat ops Ds w0 (listed.setIfInBounds i true) (a.put o.dst v) → K (listed.setIfInBounds i true) (a.put o.dst v) → K' (listed.setIfInBounds i true) (a.put o.dst v)) : aOp P ops Ds w0 i K' listed a := by
  obtain ⟨o, ho, V, hF, hK⟩ := h
  exact ⟨o, ho, V, hF, fun v hv hs => hk o v ho hs (hK v hv hs)⟩

/-- the closed conditions of a region -/
def regB (md : Region.Mode) (ops : Array Oper) : Bool :=
  Region.noSelect ops && (List.range ops.size).all fun j => match ops[j]? with
    | none => true
    | some oj => (oj.after.all fun e => !Region.binds md e || decide (e.on < j)) && (List.range ops.size).all fun i => match ops[i]? with
      | none => true
      | some oi => match oi.dst with
        | none => true
        | some t => (!(oj.looksAt ops).contains t || (oj.after.any fun e => Region.binds md e && e.on == i)) && (i == j || oj.dst != some t)

structure RegOk (md : Region.Mode) (ops : Array Oper) : Prop where
  sel : Region.noSelect ops = true
  back : ∀ (j : Nat) (oj : Oper), ops[j]? = some oj → ∀ e ∈ oj.after, Region.binds md e = true → e.on < j
  dep : ∀ (i j : Nat) (oi oj : Oper) (t : Tmp), ops[i]? = some oi → ops[j]? = some oj → oi.dst = some t → t ∈ oj.looksAt ops → ∃ e ∈ oj.after, Region.binds md e = true ∧ e.on = i
  dist : ∀ (i j : Nat) (oi oj : Oper) (t : Tmp), ops[i]? = some oi → ops[j]? = some oj → oi.dst = some t → oj.dst = some t → i = j

theorem regB_ok {md : Region.Mode} (h : regB md ops = true) : RegOk md ops := by
  unfold regB at h
  rw [Bool.and_eq_true, List.all_eq_true] at h
  obtain ⟨hs, h⟩ := h
  have hj : ∀ (j : Nat) (oj : Oper), ops[j]? = some oj → (oj.after.all fun e => !Region.binds md e || decide (e.on < j)) = true ∧ ∀ (i : Nat) (oi : Oper) (t : Tmp), ops[i]? = some oi → oi.dst = some t →
      (!(oj.looksAt ops).contains t || (oj.after.any fun e => Region.binds md e && e.on == i)) = true ∧ (i == j || oj.dst != some t) = true := by
    intro j oj hj
    have h1 := h j (List.mem_range.2 (Array.getElem?_eq_some_iff.1 hj).1)
    simp only [hj, Bool.and_eq_true] at h1
    refine ⟨h1.1, fun i oi t hi ht => ?_⟩
    have h2 := List.all_eq_true.1 h1.2 i (List.mem_range.2 (Array.getElem?_eq_some_iff.1 hi).1)
    simp only [hi, ht, Bool.and_eq_true] at h2
    exact h2
  refine ⟨hs, fun j oj ho e he hb => ?_, fun i j oi oj t hi ho ht hl => ?_, fun i j oi oj t hi ho ht hd => ?_⟩
  · have := Array.all_eq_true_iff_forall_mem.1 (hj j oj ho).1 e he
    simpa [hb] using this
  · have := ((hj j oj ho).2 i oi t hi ht).1
    rw [Bool.or_eq_true] at this
    rcases this with h1 | h1
    · simp [hl] at h1
    · obtain ⟨e, he, hb⟩ := Array.any_eq_true'.1 h1
      simp only [Bool.and_eq_true, beq_iff_eq] at hb
      exact ⟨e, he, hb.1, hb.2⟩
  · have := ((hj j oj ho).2 i oi t hi ht).2
    simpa [hd] using this

theorem getD_setD {listed : Array Bool} {i j : Nat} (h : i ≠ j) (d : Bool) : (listed.setIfInBounds i true).getD j d = listed.getD j d := by
  simp [Array.getElem?_setIfInBounds_ne h]
theorem getD_self {listed : Array Bool} {i : Nat} (h : i < listed.size) (d : Bool) : (listed.setIfInBounds i true).getD i d = true := by
  simp [h]

section
variable {md : Region.Mode}
/-- all that an operation looks at has come up -/
def Ready (ops : Array Oper) (listed : Array Bool) (o : Oper) : Prop := ∀ (i : Nat) (oi : Oper) (t : Tmp), ops[i]? = some oi → oi.dst = some t → t ∈ o.looksAt ops → listed.getD i false = true

theorem Hold.looked {listed : Array Bool} {o : Oper} {a : Act} {w : World} (h : Hold ops Ds listed a w) (hr : Ready ops listed o) : Looked ops Ds o a w :=
  fun i oi t D hi ht hl hD => h i oi t D (hr i oi t hi ht hl) hi ht hD

theorem Hold.grow {listed : Array Bool} {a : Act} {w w' : World} (hst : StableAll Ds) (h : Hold ops Ds listed a w) (hg : Grow w w') : Hold ops Ds listed a w' :=
  fun i oi t D hl hi ht hD => (hst.get i D hD) _ _ _ (h i oi t D hl hi ht hD) hg

theorem eval_put_ne {a : Act} {d : Option Tmp} {v : Value} {t : Tmp} (h : d ≠ some t) : (a.put d v).eval (.tmp t) = a.eval (.tmp t) :=
  Act.eval_put fun e he hx => h (by cases hx; exact he)

theorem eval_put_self {a : Act} {t : Tmp} {v : Value} (h : t < a.tmps.size) : (a.put (some t) v).eval (.tmp t) = v := by
  simp [Act.put, Act.eval, h]

theorem size_put (a : Act) (d : Option Tmp) (v : Value) : (a.put d v).tmps.size = a.tmps.size := by
  cases d <;> simp [Act.put]

/-- the value of one operation more -/
theorem Hold.put (hok : RegOk md ops) {listed : Array Bool} {a : Act} {w : World} (h : Hold ops Ds listed a w) {i : Nat} {o : Oper} (ho : ops[i]? = some o) (hun : listed.getD i false = false)
    (hsz : ∀ t, o.dst = some t → t < a.tmps.size) (v : Value) (hv : ∀ D, Ds[i]? = some (some D) → D v w) : Hold ops Ds (listed.setIfInBounds i true) (a.put o.dst v) w := by
  intro j oj t D hl hj ht hD
  by_cases hji : i = j
  · subst hji
    rw [ho] at hj
    cases hj
    rw [ht, eval_put_self (hsz t ht)]
    exact hv D hD
  · rw [getD_setD hji] at hl
    rw [eval_put_ne fun e => hji (hok.dist i j o oj t ho hj e ht)]
    exact h j oj t D hl hj ht hD

/-- the value of one operation taken away -/
theorem Hold.unput (hok : RegOk md ops) {listed : Array Bool} {a : Act} {w : World} {i : Nat} {o : Oper} (ho : ops[i]? = some o) (hun : listed.getD i false = false) {v : Value}
    (h : Hold ops Ds (listed.setIfInBounds i true) (a.put o.dst v) w) : Hold ops Ds listed a w := by
  intro j oj t D hl hj ht hD
  have hji : i ≠ j := fun e => by subst e; rw [hun] at hl; cases hl
  have := h j oj t D (by rw [getD_setD hji]; exact hl) hj ht hD
  rwa [eval_put_ne fun e => hji (hok.dist i j o oj t ho hj e ht)] at this

theorem Looked.congr {o : Oper} {a : Act} {w : World} {d : Option Tmp} {v : Value} (h : ∀ t, d = some t → t ∉ o.looksAt ops) : Looked ops Ds o (a.put d v) w ↔ Looked ops Ds o a w := by
  constructor
  · intro k i oi t D hi ht hl hD
    have := k i oi t D hi ht hl hD
    rwa [eval_put_ne fun e => h t e hl] at this
  · intro k i oi t D hi ht hl hD
    rw [eval_put_ne fun e => h t e hl]
    exact k i oi t D hi ht hl hD

theorem Fact.congr (hok : RegOk md ops) {i : Nat} {o : Oper} {a : Act} {V : Value → Prop} {d : Option Tmp} {v : Value} (ho : ops[i]? = some o) (h : ∀ t, d = some t → t ∉ o.looksAt ops) :
    Fact P ops Ds w0 i o (a.put d v) V ↔ Fact P ops Ds w0 i o a V := by
  have he : execOp (a.put d v).eval o = execOp a.eval o := execOp_put o (fun cs b => Region.noSelect_spec hok.sel i o cs b ho) a d v (fun t ht => h t ht)
  have hw : Region.wanted o (yielded ops (a.put d v).tmps) = Region.wanted o (yielded ops a.tmps) := wanted_put o a d v (fun t ht => h t ht)
  constructor
  · intro hF
    cases hF with
    | not h1 h2 => exact .not (hw ▸ h1) h2
    | val u h1 h2 h3 => exact .val u (hw ▸ h1) h2 fun w hg hl => he ▸ h3 w hg ((Looked.congr h).2 hl)
    | any D h1 h2 h3 => exact .any D (hw ▸ h1) h2 fun w hg hl => Gets.congr he.symm (h3 w hg ((Looked.congr h).2 hl))
  · intro hF
    cases hF with
    | not h1 h2 => exact .not (hw ▸ h1) h2
    | val u h1 h2 h3 => exact .val u (hw ▸ h1) h2 fun w hg hl => he ▸ h3 w hg ((Looked.congr h).1 hl)
    | any D h1 h2 h3 => exact .any D (hw ▸ h1) h2 fun w hg hl => Gets.congr he (h3 w hg ((Looked.congr h).1 hl))

theorem Fact.same {i : Nat} {o : Oper} {a : Act} {V V' : Value → Prop} {w : World} (hg : Grow w0 w) (hl : Looked ops Ds o a w) (h : Fact P ops Ds w0 i o a V) (h' : Fact P ops Ds w0 i o a V') : V = V' := by
  cases h with
  | not h1 h2 =>
    cases h' with
    | not => rfl
    | val u k1 k2 k3 => rw [h1] at k1; cases k1
    | any D k1 k2 k3 => rw [h1] at k1; cases k1
  | val u h1 h2 h3 =>
    cases h' with
    | not k1 => rw [h1] at k1; cases k1
    | val u' k1 k2 k3 =>
      have e := (h3 w hg hl).symm.trans (k3 w hg hl)
      injection e with e _
      injection e with e
      subst e
      rfl
    | any D k1 k2 k3 => exact absurd k2 (h2 D)
  | any D h1 h2 h3 =>
    cases h' with
    | not k1 => rw [h1] at k1; cases k1
    | val u' k1 k2 k3 => exact absurd h2 (k2 D)
    | any => rfl

/-- some value of it, and the state behind it -/
theorem Fact.next (hok : RegOk md ops) (hst : StableAll Ds) {i : Nat} {o : Oper} {a : Act} {V : Value → Prop} {listed : Array Bool} (ho : ops[i]? = some o) (hun : listed.getD i false = false)
    (hsz : ∀ t, o.dst = some t → t < a.tmps.size) (hr : Ready ops listed o) (hs : Sat ops Ds w0 listed a) (h : Fact P ops Ds w0 i o a V) : ∃ v, V v ∧ Sat ops Ds w0 (listed.setIfInBounds i true) (a.put o.dst v) := by
  obtain ⟨w, hg, hh⟩ := hs
  cases h with
  | not h1 h2 => exact ⟨undef, rfl, w, hg, hh.put hok ho hun hsz _ fun D hD => absurd hD (h2 D)⟩
  | val u h1 h2 h3 => exact ⟨u, rfl, w, hg, hh.put hok ho hun hsz _ fun D hD => absurd hD (h2 D)⟩
  | any D h1 h2 h3 =>
    obtain ⟨u, w', hu, hgw⟩ := (h3 w hg (hh.looked hr)).some
    exact ⟨u, trivial, w', hg.trans hgw, (hh.grow hst hgw).put hok ho hun hsz _ fun D' hD => by rw [h2] at hD; injection hD with hD; injection hD with hD; subst hD; exact hu⟩

theorem aOp_comm (hok : RegOk md ops) (hst : StableAll Ds) {k j : Nat} {K : Array Bool → Act → Prop} {listed : Array Bool} {a : Act} (hkj : k ≠ j) (hk : listed.getD k false = false) (hj : listed.getD j false = false)
    (hsz : ∀ (i : Nat) (o : Oper) (t : Tmp), ops[i]? = some o → o.dst = some t → t < a.tmps.size)
    (hap : ∀ ok oj, ops[k]? = some ok → ops[j]? = some oj → (∀ t, ok.dst = some t → t ∉ oj.looksAt ops) ∧ (∀ t, oj.dst = some t → t ∉ ok.looksAt ops))
    (hrk : ∀ o, ops[k]? = some o → Ready ops listed o) (hrj : ∀ o, ops[j]? = some o → Ready ops listed o) (hs : Sat ops Ds w0 listed a)
    (h : aOp P ops Ds w0 k (aOp P ops Ds w0 j K) listed a) : aOp P ops Ds w0 j (aOp P ops Ds w0 k K) listed a := by
  obtain ⟨ok, hok1, Vk, hFk, hK⟩ := h
  obtain ⟨v0, hv0, hs0⟩ := hFk.next hok hst hok1 hk (fun t ht => hsz k ok t hok1 ht) (hrk ok hok1) hs
  obtain ⟨oj, hoj, Vj, hFj, _⟩ := hK v0 hv0 hs0
  obtain ⟨h1, h2⟩ := hap ok oj hok1 hoj
  have hFj' := (Fact.congr hok hoj h1).1 hFj
  have hd : ∀ t, ok.dst = some t → oj.dst ≠ some t := fun t ht e => hkj (hok.dist k j ok oj t hok1 hoj ht e)
  refine ⟨oj, hoj, Vj, hFj', fun u hu hsu => ⟨ok, hok1, Vk, (Fact.congr hok hok1 h2).2 hFk, fun v hv hsv => ?_⟩⟩
  have hc : (listed.setIfInBounds j true).setIfInBounds k true = (listed.setIfInBounds k true).setIfInBounds j true := Array.setIfInBounds_comm _ _ (Ne.symm hkj)
  have hp : (a.put oj.dst u).put ok.dst v = (a.put ok.dst v).put oj.dst u := (Act.put_comm a v u hd).symm
  have hskv : Sat ops Ds w0 (listed.setIfInBounds k true) (a.put ok.dst v) := by
    obtain ⟨w, hg, hh⟩ := hsv
    rw [hc, hp] at hh
    exact ⟨w, hg, Hold.unput hok hoj (by rw [getD_setD hkj]; exact hj) hh⟩
  obtain ⟨oj', hoj', Vj', hFj2, hK2⟩ := hK v hv hskv
  rw [hoj] at hoj'
  cases hoj'
  have hV : Vj' = Vj := by
    obtain ⟨w, hg, hh⟩ := hs
    exact Fact.same hg (hh.looked (hrj oj hoj)) ((Fact.congr hok hoj h1).1 hFj2) hFj'
  subst hV
  have := hK2 u hu (by rw [← hc, ← hp]; exact hsv)
  rwa [← hc, ← hp] at this

/-- the walk of those that have not come up, in the order of the text -/
def walkJ (P : Program) (ops : Array Oper) (Ds : List (Option Spec)) (w0 : World) (Qf : Act → Prop) : Nat → Nat → Array Bool → Act → Prop
  | 0, _, _, a => Qf a
  | m + 1, k, listed, a => if listed.getD k true = true then walkJ P ops Ds w0 Qf m (k + 1) listed a else aOp P ops Ds w0 k (walkJ P ops Ds w0 Qf m (k + 1)) listed a

theorem getD_ne_true {listed : Array Bool} {k : Nat} (hk : k < listed.size) (h : ¬ listed.getD k true = true) : listed.getD k false = false := by
  simp [hk] at h ⊢; exact h

theorem walkJ_move (hok : RegOk md ops) (hst : StableAll Ds) {Qf : Act → Prop} {j : Nat} {oj : Oper} (hoj : ops[j]? = some oj) : ∀ (m k : Nat) (listed : Array Bool) (a : Act),
    listed.size = ops.size → k + m = ops.size → k ≤ j → listed.getD j false = false → (∀ i, i < k → listed.getD i false = true ∨ j ≤ i) →
    (∀ (i : Nat) (o : Oper) (t : Tmp), ops[i]? = some o → o.dst = some t → t < a.tmps.size) →
    (∀ e ∈ oj.after, Region.binds md e = true → listed.getD e.on false = true) → Sat ops Ds w0 listed a →
    walkJ P ops Ds w0 Qf m k listed a → aOp P ops Ds w0 j (walkJ P ops Ds w0 Qf m k) listed a := by
  intro m
  induction m with
  | zero =>
    intro k listed a hls hkm hkj hj _ _ _ _ _
    have := (Array.getElem?_eq_some_iff.1 hoj).1
    omega
  | succ m ih =>
    intro k listed a hls hkm hkj hj hbelow hsz hrd hs h
    have hjs : j < ops.size := (Array.getElem?_eq_some_iff.1 hoj).1
    rcases Nat.lt_or_ge k j with hlt | hge
    · by_cases hl : listed.getD k true = true
      · simp only [walkJ, hl, if_true] at h
        have hb' : ∀ i, i < k + 1 → listed.getD i false = true ∨ j ≤ i := by
          intro i hi
          rcases Nat.lt_or_ge i k with h1 | h1
          · exact hbelow i h1
          · have : i = k := by omega
            subst this
            left
            have hks : i < listed.size := by omega
            simp [hks] at hl ⊢
            exact hl
        refine aOp_mono (ih (k + 1) listed a hls (by omega) (by omega) hj hb' hsz hrd hs h) fun o v ho hs' hw => ?_
        have hne : j ≠ k := by omega
        simp only [walkJ, getD_setD hne, hl, if_true]
        exact hw
      · simp only [walkJ, hl] at h
        have hks : k < listed.size := by omega
        have hkf : listed.getD k false = false := getD_ne_true hks hl
        have hne : k ≠ j := by omega
        have hbk : ∀ i, i < k → listed.getD i false = true := fun i hi => (hbelow i hi).resolve_right (by omega)
        have hrk : ∀ o, ops[k]? = some o → Ready ops listed o := by
          intro o ho i oi t hi ht hlk
          obtain ⟨e, he, hb, he2⟩ := hok.dep i k oi o t hi ho ht hlk
          exact hbk i (he2 ▸ hok.back k o ho e he hb)
        have hrj : ∀ o, ops[j]? = some o → Ready ops listed o := by
          intro o ho i oi t hi ht hlk
          rw [hoj] at ho
          cases ho
          obtain ⟨e, he, hb, he2⟩ := hok.dep i j oi oj t hi hoj ht hlk
          exact he2 ▸ hrd e he hb
        have h1 : aOp P ops Ds w0 k (aOp P ops Ds w0 j (walkJ P ops Ds w0 Qf m (k + 1))) listed a := by
          refine aOp_mono h fun o v ho hs' hw => ?_
          refine ih (k + 1) _ _ (by simp [hls]) (by omega) (by omega) (by rw [getD_setD hne]; exact hj) ?_ (fun i o' t hi ht => by rw [size_put]; exact hsz i o' t hi ht) ?_ hs' hw
          · intro i hi
            rcases Nat.lt_or_ge i k with h1 | h1
            · left
              rw [getD_setD (by omega)]
              exact hbk i h1
            · have : i = k := by omega
              subst this
              left
              exact getD_self hks _
          · intro e he hb
            by_cases hek : k = e.on
            · subst hek; exact getD_self hks _
            · rw [getD_setD hek]; exact hrd e he hb
        have h2 := aOp_comm hok hst hne hkf hj hsz (fun ok oj' hk1 hj1 => ⟨(fun t ht hlk => by
            rw [hoj] at hj1
            cases hj1
            obtain ⟨e, he, hb, he2⟩ := hok.dep k j ok oj t hk1 hoj ht hlk
            have := hrd e he hb
            rw [he2, hkf] at this
            exact absurd this (by simp)), (fun t ht hlk => by
            obtain ⟨e, he, hb, he2⟩ := hok.dep j k oj' ok t hj1 hk1 ht hlk
            have := hok.back k ok hk1 e he hb
            omega)⟩) hrk hrj hs h1
        refine aOp_mono h2 fun o v ho hs' hw => ?_
        have hl' : ¬ (listed.setIfInBounds j true).getD k true = true := by rw [getD_setD (Ne.symm hne)]; exact hl
        simp only [walkJ, hl']
        exact hw
    · have hkj' : k = j := by omega
      subst hkj'
      have hl : ¬ listed.getD k true = true := by
        have hks : k < listed.size := by omega
        simp [hks] at hj ⊢; exact hj
      simp only [walkJ, hl] at h
      refine aOp_mono h fun o v ho hs' hw => ?_
      have hl' : (listed.setIfInBounds k true).getD k true = true := getD_self (by omega) _
      simp only [walkJ, hl', if_true]
      exact hw

theorem ready_first (hok : RegOk md ops) {listed : Array Bool} (hls : listed.size = ops.size) (hr : Region.ready md ops listed = []) : ∀ i, i < ops.size → listed.getD i false = true := by
  intro i
  induction i using Nat.strongRecOn with
  | ind i ih =>
    intro hi
    cases hf : listed.getD i false with
    | true => rfl
    | false =>
      exfalso
      have hm : i ∈ Region.ready md ops listed := by
        refine mem_ready.2 ⟨?_, ops[i], Array.getElem?_eq_getElem hi, fun e he hb => ?_⟩
        · have : i < listed.size := by omega
          simp [this] at hf ⊢; exact hf
        · have hlt := hok.back i ops[i] (Array.getElem?_eq_getElem hi) e he hb
          exact ih e.on hlt (by omega)
      rw [hr] at hm
      cases hm

theorem walkJ_done {Qf : Act → Prop} : ∀ (m k : Nat) (listed : Array Bool) (a : Act), k + m = ops.size → listed.size = ops.size → (∀ i, i < ops.size → listed.getD i false = true) → walkJ P ops Ds w0 Qf m k listed a → Qf a
  | 0, _, _, _, _, _, _, h => h
  | m + 1, k, listed, a, hkm, hls, hall, h => by
    have hl : listed.getD k true = true := by
      have h1 := hall k (by omega)
      have hks : k < listed.size := by omega
      simp [hks] at h1 ⊢; exact h1
    simp only [walkJ, hl, if_true] at h
    exact walkJ_done m (k + 1) listed a (by omega) hls hall h

def unl (listed : Array Bool) : Nat := listed.toList.countP (fun b => !b)

theorem wpAny_of_walkJ (hok : RegOk md ops) (hst : StableAll Ds) {Q : Exit → Act → World → Prop} {Qf : Act → Prop} (hQ : ∀ a w, Grow w0 w → (∀ i, i < ops.size → True) → Hold ops Ds (Array.replicate ops.size true) a w → Qf a → Q .normal a w) :
    ∀ (fuel : Nat) (listed : Array Bool) (a : Act) (w : World), listed.size = ops.size → Grow w0 w → Hold ops Ds listed a w →
    (∀ (i : Nat) (o : Oper) (t : Tmp), ops[i]? = some o → o.dst = some t → t < a.tmps.size) → unl listed ≤ fuel →
    walkJ P ops Ds w0 Qf ops.size 0 listed a → wpAny P md ops Q fuel listed a w := by
  have fin : ∀ (listed : Array Bool) (a : Act) (w : World), listed.size = ops.size → Grow w0 w → Hold ops Ds listed a w → walkJ P ops Ds w0 Qf ops.size 0 listed a → (∀ i, i < ops.size → listed.getD i false = true) → Q .normal a w := by
    intro listed a w hls hg hh hw hall
    refine hQ a w hg (fun _ _ => trivial) (fun i oi t D hl hi ht hD => hh i oi t D (hall i ?_) hi ht hD) (walkJ_done _ _ _ _ (by omega) hls hall hw)
    exact (Array.getElem?_eq_some_iff.1 hi).1
  intro fuel
  induction fuel with
  | zero =>
    intro listed a w hls hg hh hsz hu hw
    have hall : ∀ i, i < ops.size → listed.getD i false = true := by
      intro i hi
      have hi' : i < listed.size := by omega
      have h0 : List.countP (fun b => !b) listed.toList = 0 := by unfold unl at hu; omega
      have := List.countP_eq_zero.1 h0 listed[i] (Array.mem_toList_iff.2 (Array.getElem_mem hi'))
      simp [hi'] at this ⊢
      exact this
    refine ⟨?_, fin listed a w hls hg hh hw hall⟩
    cases hr : Region.ready md ops listed with
    | nil => rfl
    | cons x xs =>
      have hm : x ∈ Region.ready md ops listed := by rw [hr]; simp
      obtain ⟨h1, o, ho, _⟩ := mem_ready.1 hm
      have hx := hall x (Array.getElem?_eq_some_iff.1 ho).1
      have hxs : x < listed.size := by rw [hls]; exact (Array.getElem?_eq_some_iff.1 ho).1
      simp [hxs] at h1 hx
      rw [h1] at hx
      cases hx
  | succ fuel ih =>
    intro listed a w hls hg hh hsz hu hw
    refine ⟨fun hr => fin listed a w hls hg hh hw (ready_first hok hls hr), fun i hi => ?_⟩
    obtain ⟨hun, o, ho, hall⟩ := mem_ready.1 hi
    have his : i < ops.size := (Array.getElem?_eq_some_iff.1 ho).1
    have his' : i < listed.size := by omega
    have hun' : listed.getD i false = false := by simp [his'] at hun ⊢; exact hun
    have hrd : Ready ops listed o := by
      intro k ok t hk ht hl
      obtain ⟨e, he, hb, he2⟩ := hok.dep k i ok o t hk ho ht hl
      exact he2 ▸ hall e he hb
    obtain ⟨o', ho', V, hF, hK⟩ := walkJ_move hok hst ho ops.size 0 listed a hls (by omega) (by omega) hun' (fun i hi => by omega) hsz hall ⟨w, hg, hh⟩ hw
    rw [ho] at ho'
    cases ho'
    have hu' : unl (listed.setIfInBounds i true) ≤ fuel := by
      unfold unl at hu ⊢
      have h1 : listed[i] = false := by simp [his'] at hun; exact hun
      have h2 : listed.toList = listed.toList.take i ++ listed[i] :: listed.toList.drop (i + 1) := by
        rw [← Array.getElem_toList]
        rw [List.getElem_cons_drop (h := by simpa using his')]
        exact (List.take_append_drop i _).symm
      have h3 : (listed.setIfInBounds i true).toList = listed.toList.take i ++ true :: listed.toList.drop (i + 1) := by
        rw [Array.toList_setIfInBounds, List.set_eq_take_append_cons_drop, if_pos (by simpa using his')]
      rw [h2, List.countP_append, List.countP_cons, h1] at hu
      rw [h3, List.countP_append, List.countP_cons]
      simp at hu ⊢
      omega
    unfold wpOp
    simp only [ho]
    have hsz' : ∀ v, ∀ (i : Nat) (o' : Oper) (t : Tmp), ops[i]? = some o' → o'.dst = some t → t < (a.put o.dst v).tmps.size := fun v i o' t h1 h2 => by rw [size_put]; exact hsz i o' t h1 h2
    have hszo : ∀ t, o.dst = some t → t < a.tmps.size := fun t ht => hsz i o t ho ht
    cases hF with
    | not h1 h2 =>
      simp only [h1, Bool.false_eq_true, if_false]
      have hh' := hh.put hok ho hun' hszo undef fun D hD => absurd hD (h2 D)
      exact ih _ _ _ (by simp [hls]) hg hh' (hsz' _) hu' (hK undef rfl ⟨w, hg, hh'⟩)
    | val v h1 h2 h3 =>
      simp only [h1, if_true]
      have hh' := hh.put hok ho hun' hszo v fun D hD => absurd hD (h2 D)
      refine .inl ?_
      unfold Oper.wp
      rw [h3 w hg (hh.looked hrd)]
      exact ih _ _ _ (by simp [hls]) hg hh' (hsz' _) hu' (hK v rfl ⟨w, hg, hh'⟩)
    | any D h1 h2 h3 =>
      simp only [h1, if_true]
      refine .inl ((h3 w hg (hh.looked hrd)).wp fun u w' hR => ?_)
      obtain ⟨hu1, hgw⟩ := hR
      have hh' := (hh.grow hst hgw).put hok ho hun' hszo u fun D' hD => by rw [h2] at hD; injection hD with hD; injection hD with hD; subst hD; exact hu1
      exact ih _ _ _ (by simp [hls]) (hg.trans hgw) hh' (hsz' _) hu' (hK u trivial ⟨w', hg.trans hgw, hh'⟩)

/-! ## the walk that is written -/
def wpInv (P : Program) (ops : Array Oper) (Ds : List (Option Spec)) (w0 : World) (Qf : Act → Prop) : List (Option Spec) → List Oper → Act → Prop
  | _, [], a => Qf a
  | some D :: Es, o :: rest, a => Region.wanted o (yielded ops a.tmps) = true ∧ (∀ w, Grow w0 w → Looked ops Ds o a w → Gets P o a w (fun u w' => D u w' ∧ Grow w w')) ∧ ∀ v, (o.dst.isSome = true → ∃ w, Grow w0 w ∧ D v w) → wpInv P ops Ds w0 Qf Es rest (a.put o.dst v)
  | none :: Es, o :: rest, a => (Region.wanted o (yielded ops a.tmps) = false ∧ wpInv P ops Ds w0 Qf Es rest (a.put o.dst undef)) ∨
      (Region.wanted o (yielded ops a.tmps) = true ∧ ∃ v, (∀ w, Grow w0 w → Looked ops Ds o a w → (execOp a.eval o).run P w = .ok (.value v) w) ∧ wpInv P ops Ds w0 Qf Es rest (a.put o.dst v))
  | [], _ :: _, _ => False

theorem walkJ_of_inv {Qf : Act → Prop} : ∀ (l : List Oper) (Es : List (Option Spec)) (k : Nat) (listed : Array Bool) (a : Act), (∀ j, l[j]? = ops[k + j]?) → (∀ j, Es[j]? = Ds[k + j]?) → k + l.length = ops.size → listed.size = ops.size →
    (∀ i, k ≤ i → i < ops.size → listed.getD i true = false) → (∀ (i : Nat) (o : Oper) (t : Tmp), ops[i]? = some o → o.dst = some t → t < a.tmps.size) → wpInv P ops Ds w0 Qf Es l a → walkJ P ops Ds w0 Qf l.length k listed a
  | [], _, _, _, _, _, _, _, _, _, _, h => by simpa [walkJ, wpInv] using h
  | o :: l, Es, k, listed, a, hl, hE, hk, hls, hun, hsz, h => by
    simp only [List.length_cons] at hk
    have ho : ops[k]? = some o := by simpa using (hl 0).symm
    have hf : ¬ listed.getD k true = true := by rw [hun k (Nat.le_refl _) (by omega)]; simp
    have hl' : ∀ j, l[j]? = ops[k + 1 + j]? := fun j => by have := hl (j + 1); simpa [Nat.add_assoc, Nat.add_comm 1 j] using this
    have hun' : ∀ i, k + 1 ≤ i → i < ops.size → (listed.setIfInBounds k true).getD i true = false := fun i h1 h2 => by rw [getD_setD (by omega)]; exact hun i (by omega) h2
    have hsz' : ∀ (v : Value) (i : Nat) (o' : Oper) (t : Tmp), ops[i]? = some o' → o'.dst = some t → t < (a.put o.dst v).tmps.size := fun v i o' t h1 h2 => by rw [size_put]; exact hsz i o' t h1 h2
    simp only [List.length_cons, walkJ, hf]
    cases Es with
    | nil => simp [wpInv] at h
    | cons E Es =>
      have hE0 : Ds[k]? = some E := by simpa using (hE 0).symm
      have hE' : ∀ j, Es[j]? = Ds[k + 1 + j]? := fun j => by have := hE (j + 1); simpa [Nat.add_assoc, Nat.add_comm 1 j] using this
      cases E with
      | some D =>
        obtain ⟨h1, h2, h3⟩ := h
        exact ⟨o, ho, _, .any D h1 hE0 h2, fun v _ hs => walkJ_of_inv l Es (k + 1) _ _ hl' hE' (by omega) (by simp [hls]) hun' (hsz' v) (h3 v fun hd => by
          obtain ⟨w, hg, hh⟩ := hs
          obtain ⟨t, ht⟩ := Option.isSome_iff_exists.1 hd
          have := hh k o t D (getD_self (by omega) _) ho ht hE0
          rw [ht, eval_put_self (hsz k o t ho ht)] at this
          exact ⟨w, hg, this⟩)⟩
      | none =>
        have hno : ∀ D, Ds[k]? ≠ some (some D) := fun D hD => by rw [hE0] at hD; cases hD
        rcases h with ⟨h1, h2⟩ | ⟨h1, v, h2, h3⟩
        · exact ⟨o, ho, _, .not h1 hno, fun v hv _ => by subst hv; exact walkJ_of_inv l Es (k + 1) _ _ hl' hE' (by omega) (by simp [hls]) hun' (hsz' _) h2⟩
        · exact ⟨o, ho, _, .val v h1 hno h2, fun u hu _ => by subst hu; exact walkJ_of_inv l Es (k + 1) _ _ hl' hE' (by omega) (by simp [hls]) hun' (hsz' _) h3⟩

/-- ONE WALK SERVES EVERY ORDER, where all that happens only adds to memory. -/
theorem wp_region_inv {id : Nat} {Q : Exit → Act → World → Prop} {a : Act} {w : World} {l : List Oper} (Ds : List (Option Spec)) (hm : P.follows .mixedOrders = true) (hB : regB .any l.toArray = true) (hst : StableAll Ds)
    (hsz : (l.all fun o => match o.dst with | some t => decide (t < a.tmps.size) | none => true) = true)
    (h : wpInv P l.toArray Ds w.drew (fun a' => ∀ w', Grow w w' → Hold l.toArray Ds (Array.replicate l.length true) a' w' → Q .normal a' w') Ds l a) : (Code.region id l.toArray true).wp P Q a w := by
  refine wp_region_any hm ?_
  refine wpAny_of_walkJ (w0 := w.drew) (Ds := Ds) (regB_ok hB) hst (Qf := fun a' => ∀ w', Grow w w' → Hold l.toArray Ds (Array.replicate l.length true) a' w' → Q .normal a' w') (fun a' w' hg _ hh hq => hq w' (Grow.trans (Grow.refl w).drew hg) (by simpa using hh)) _ _ _ _ (by simp) (Grow.refl _) ?_ ?_ ?_ ?_
  · intro i oi t D hl
    by_cases hi : i < l.length <;> simp [hi] at hl
  · intro i o t hi ht
    have hmem : o ∈ l := by
      have : l[i]? = some o := by simpa using hi
      exact List.mem_of_getElem? this
    have := List.all_eq_true.1 hsz o hmem
    simpa [ht] using this
  · unfold unl
    simp only [Array.toList_replicate]
    refine Nat.le_trans List.countP_le_length ?_
    simp
  · have := walkJ_of_inv (P := P) (ops := l.toArray) (Ds := Ds) (w0 := w.drew) l Ds 0 (Array.replicate l.toArray.size false) a (by simp) (by simp) (by simp) (by simp) (fun i h1 h2 => by simp at h2; simp [h2]) ?_ h
    · simpa using this
    · intro i o t hi ht
      have hmem : o ∈ l := by
        have : l[i]? = some o := by simpa using hi
        exact List.mem_of_getElem? this
      have := List.all_eq_true.1 hsz o hmem
      simpa [ht] using this

/-- what is known of all values behind the region -/
def HoldAll (ops : Array Oper) (Ds : List (Option Spec)) (a : Act) (w : World) : Prop :=
  ∀ (i : Nat) (oi : Oper) (t : Tmp) (D : Spec), ops[i]? = some oi → oi.dst = some t → Ds[i]? = some (some D) → D (a.eval (.tmp t)) w

theorem region_inv {id : Nat} {Q : Exit → Act → World → Prop} {a : Act} {w : World} {l : List Oper} (Ds : List (Option Spec)) (hm : P.follows .mixedOrders = true) (hB : regB .any l.toArray = true) (hst : StableAll Ds)
    (hsz : (l.all fun o => match o.dst with | some t => decide (t < a.tmps.size) | none => true) = true)
    (h : wpInv P l.toArray Ds w (fun a' => ∀ w', Grow w w' → HoldAll l.toArray Ds a' w' → Q .normal a' w') Ds l a) : (Code.region id l.toArray true).wp P Q a w := by
  have hmono : ∀ (m : List Oper) (Es : List (Option Spec)) (b : Act) (Q1 Q2 : Act → Prop), (∀ c, Q1 c → Q2 c) → wpInv P l.toArray Ds w Q1 Es m b → wpInv P l.toArray Ds w.drew Q2 Es m b := by
    intro m
    induction m with
    | nil => intro Es b Q1 Q2 hq hh; simp only [wpInv] at hh ⊢; exact hq _ hh
    | cons o m ih =>
      intro Es b Q1 Q2 hq hh
      cases Es with
      | nil => simp [wpInv] at hh
      | cons E Es =>
        cases E with
        | none =>
          rcases hh with ⟨h1, h2⟩ | ⟨h1, v, h2, h3⟩
          · exact .inl ⟨h1, ih Es _ Q1 Q2 hq h2⟩
          · exact .inr ⟨h1, v, fun u hu => h2 u (Grow.trans (Grow.refl w).drew hu), ih Es _ Q1 Q2 hq h3⟩
        | some D => exact ⟨hh.1, fun u hu => hh.2.1 u (Grow.trans (Grow.refl w).drew hu), fun v hv => ih Es _ Q1 Q2 hq (hh.2.2 v fun hd => (hv hd).imp fun u hu => ⟨Grow.trans (Grow.refl w).drew hu.1, hu.2⟩)⟩
  refine wp_region_inv Ds hm hB hst hsz (hmono _ _ _ _ _ (fun c hc w' hg hh => hc w' hg fun i oi t D hi ht hD => hh i oi t D ?_ hi ht hD) h)
  have : i < l.length := by
    have := (Array.getElem?_eq_some_iff.1 hi).1
    simpa using this
  simp [this]

theorem inv_val {Qf : Act → Prop} {Es : List (Option Spec)} {o : Oper} {rest : List Oper} {a : Act} {v : Value} (hw : Region.wanted o (yielded ops a.tmps) = true)
    (h : ∀ w, Grow w0 w → Looked ops Ds o a w → (execOp a.eval o).run P w = .ok (.value v) w) (hk : ∀ K : Act → Prop, (∀ b, wpInv P ops Ds w0 Qf Es rest b → K b) → K (a.put o.dst v)) : wpInv P ops Ds w0 Qf (none :: Es) (o :: rest) a := .inr ⟨hw, v, h, hk _ fun _ h => h⟩
theorem inv_not {Qf : Act → Prop} {Es : List (Option Spec)} {o : Oper} {rest : List Oper} {a : Act} (hw : Region.wanted o (yielded ops a.tmps) = false)
    (hk : ∀ K : Act → Prop, (∀ b, wpInv P ops Ds w0 Qf Es rest b → K b) → K (a.put o.dst undef)) : wpInv P ops Ds w0 Qf (none :: Es) (o :: rest) a := .inl ⟨hw, hk _ fun _ h => h⟩
theorem inv_any {Qf : Act → Prop} {Es : List (Option Spec)} {D : Spec} {o : Oper} {rest : List Oper} {a : Act} (hd : o.dst.isSome = true) (hw : Region.wanted o (yielded ops a.tmps) = true)
    (h : ∀ w, Grow w0 w → Looked ops Ds o a w → Gets P o a w (fun u w' => D u w' ∧ Grow w w')) (hk : ∀ v, (∃ w, Grow w0 w ∧ D v w) → ∀ K : Act → Prop, (∀ b, wpInv P ops Ds w0 Qf Es rest b → K b) → K (a.put o.dst v)) : wpInv P ops Ds w0 Qf (some D :: Es) (o :: rest) a := ⟨hw, h, fun v hv => hk v (hv hd) _ fun _ h => h⟩
/-- just this value -/
def DVal (c : Value) : Spec := fun v _ => v = c
theorem DVal.stable (c : Value) : Stable (DVal c) := fun _ _ _ h _ => h
theorem inv_is {Qf : Act → Prop} {Es : List (Option Spec)} {c : Value} {o : Oper} {rest : List Oper} {a : Act} (hd : o.dst.isSome = true) (hw : Region.wanted o (yielded ops a.tmps) = true)
    (h : ∀ w, Grow w0 w → Looked ops Ds o a w → Gets P o a w (fun u w' => u = c ∧ Grow w w')) (hk : ∀ K : Act → Prop, (∀ b, wpInv P ops Ds w0 Qf Es rest b → K b) → K (a.put o.dst c)) : wpInv P ops Ds w0 Qf (some (DVal c) :: Es) (o :: rest) a :=
  ⟨hw, h, fun v hv => by obtain ⟨w, _, e⟩ := hv hd; cases e; exact hk _ fun _ h => h⟩
/-- a call: its contract, in a world that has only grown -/
theorem gets_call {o : Oper} {a : Act} {w : World} {R : Value → World → Prop} (f : FuncId) (args : Array Value) (he : (execOp a.eval o).run P w = .ok (.enter f args) w) (h : Calls P f args w fun e w' => ∃ u, e = .returned u ∧ R u w') : Gets P o a w R := by
  unfold Gets
  rw [he]
  exact h
theorem gets_value {o : Oper} {a : Act} {w w' : World} {R : Value → World → Prop} (u : Value) (he : (execOp a.eval o).run P w = .ok (.value u) w') (h : R u w') : Gets P o a w R := by
  unfold Gets
  rw [he]
  exact h
theorem gets_sem {o : Oper} {a : Act} {w : World} {R : Value → World → Prop} (h : (fun r : Result Next => match r with
  | .ok (.value u) w' => R u w'
  | .ok .skip w' => R undef w'
  | .ok (.enter f args) w' => Calls P f args w' (fun e w'' => ∃ u, e = .returned u ∧ R u w'')
  | .ok (.row row args) w' => Rows P row args w' R
  | _ => False) ((execOp a.eval o).run P w)) : Gets P o a w R := h
theorem Looked.at {o : Oper} {a : Act} {w : World} (h : Looked ops Ds o a w) (i : Nat) (t : Tmp) {D : Spec} (hb : (((ops[i]?).bind (·.dst)) == some t && (o.looksAt ops).contains t) = true) (hD : Ds[i]? = some (some D)) : D (a.eval (.tmp t)) w := by
  rw [Bool.and_eq_true, beq_iff_eq] at hb
  obtain ⟨h1, h2⟩ := hb
  cases ho : ops[i]? with
  | none => rw [ho] at h1; simp at h1
  | some oi => rw [ho] at h1; exact h i oi t D ho (by simpa using h1) (by simpa using h2) hD
theorem HoldAll.at {a : Act} {w : World} (h : HoldAll ops Ds a w) (i : Nat) (t : Tmp) {D : Spec} (hb : (((ops[i]?).bind (·.dst)) == some t) = true) (hD : Ds[i]? = some (some D)) : D (a.eval (.tmp t)) w := by
  rw [beq_iff_eq] at hb
  cases ho : ops[i]? with
  | none => rw [ho] at hb; simp at hb
  | some oi => rw [ho] at hb; exact h i oi t D ho (by simpa using hb) hD
end
end
end Go.Proofs.Ytlbodandidopfaa
