/- Merging lists of places: plain facts. Conditions: none. -/
import Derived.Test.YtlbodandidopfaaRows
namespace Go.Proofs.Ytlbodandidopfaa
set_option linter.unusedSimpArgs false
set_option linter.unusedVariables false
/-- two lists are merged by a test of the heads -/
inductive Mg (T : Int → Int → Bool → Prop) : List Int → List Int → List Int → Prop
  | doneB (a : List Int) : Mg T a [] a
  | doneA (b : List Int) : Mg T [] b b
  | takeB (x y : Int) (a b r : List Int) : T y x true → Mg T (x :: a) b r → Mg T (x :: a) (y :: b) (y :: r)
  | takeA (x y : Int) (a b r : List Int) : T y x false → Mg T a (y :: b) r → Mg T (x :: a) (y :: b) (x :: r)
theorem Mg.perm {T : Int → Int → Bool → Prop} {a b r : List Int} (h : Mg T a b r) : r.Perm (a ++ b) := by
  induction h with
  | doneB a => simp
  | doneA b => simp
  | takeB x y a b r _ _ ih => exact (List.Perm.cons y ih).trans (List.perm_middle (l₁ := x :: a) (a := y) (l₂ := b)).symm
  | takeA x y a b r _ _ ih => exact List.Perm.cons x ih
theorem Mg.length {T : Int → Int → Bool → Prop} {a b r : List Int} (h : Mg T a b r) : r.length = a.length + b.length := by
  have := h.perm.length_eq
  simpa using this
def lex (k : Int → Int) (x y : Int) : Prop := k x < k y ∨ (k x = k y ∧ x < y)
def Sorted (k : Int → Int) (l : List Int) : Prop := l.Pairwise (lex k)
theorem Mg.sorted {k : Int → Int} {T : Int → Int → Bool → Prop} (hT : ∀ y x c, T y x c → c = decide (k y < k x)) {a b r : List Int} (h : Mg T a b r) (ha : Sorted k a) (hb : Sorted k b) (hab : ∀ x ∈ a, ∀ y ∈ b, x < y) : Sorted k r := by
  induction h with
  | doneB a => exact ha
  | doneA b => exact hb
  | takeB x y a b r ht hm ih =>
    have hyx : k y < k x := by have := hT _ _ _ ht; simpa using this.symm
    obtain ⟨hy, hb'⟩ := List.pairwise_cons.1 hb
    obtain ⟨hx, ha'⟩ := List.pairwise_cons.1 ha
    refine List.pairwise_cons.2 ⟨fun z hz => ?_, ih ha hb' fun u hu v hv => hab u hu v (List.mem_cons_of_mem _ hv)⟩
    have hz' := (hm.perm.mem_iff).1 hz
    rcases List.mem_append.1 hz' with h1 | h1
    · rcases List.mem_cons.1 h1 with rfl | h2
      · exact Or.inl hyx
      · have := hx z h2
        unfold lex at this ⊢
        omega
    · exact hy z h1
  | takeA x y a b r ht hm ih =>
    have hyx : ¬ k y < k x := by have := hT _ _ _ ht; simpa using this.symm
    obtain ⟨hy, hb'⟩ := List.pairwise_cons.1 hb
    obtain ⟨hx, ha'⟩ := List.pairwise_cons.1 ha
    refine List.pairwise_cons.2 ⟨fun z hz => ?_, ih ha' hb fun u hu v hv => hab u (List.mem_cons_of_mem _ hu) v hv⟩
    have hz' := (hm.perm.mem_iff).1 hz
    rcases List.mem_append.1 hz' with h1 | h1
    · exact hx z h1
    · have hxz := hab x (by simp) z h1
      rcases List.mem_cons.1 h1 with rfl | h2
      · unfold lex
        omega
      · have := hy z h2
        unfold lex at this ⊢
        omega
def rangeI (lo hi : Nat) : List Int := (List.range (hi - lo)).map fun i => ((lo + i : Nat) : Int)
theorem rangeI_mem {lo hi : Nat} {z : Int} : z ∈ rangeI lo hi ↔ ∃ i : Nat, z = (i : Nat) ∧ lo ≤ i ∧ i < hi := by
  unfold rangeI
  rw [List.mem_map]
  constructor
  · rintro ⟨i, hi', rfl⟩
    rw [List.mem_range] at hi'
    exact ⟨lo + i, rfl, by omega, by omega⟩
  · rintro ⟨i, rfl, h1, h2⟩
    exact ⟨i - lo, List.mem_range.2 (by omega), by congr 1; omega⟩
theorem rangeI_app {lo mid hi : Nat} (h1 : lo ≤ mid) (h2 : mid ≤ hi) : rangeI lo mid ++ rangeI mid hi = rangeI lo hi := by
  apply List.ext_getElem?
  intro i
  unfold rangeI
  by_cases h : i < mid - lo
  · rw [List.getElem?_append_left (by simpa using h), List.getElem?_map, List.getElem?_map, List.getElem?_range h, List.getElem?_range (by omega)]
  · rw [List.getElem?_append_right (by simpa using h), List.length_map, List.length_range, List.getElem?_map, List.getElem?_map]
    by_cases h3 : i < hi - lo
    · rw [List.getElem?_range (by omega), List.getElem?_range h3]
      simp
      omega
    · rw [List.getElem?_eq_none (by simp; omega), List.getElem?_eq_none (by simp; omega)]
      rfl
def sub (xs : List Int) (lo hi : Nat) : List Int := (xs.drop lo).take (hi - lo)
theorem sub_length {xs : List Int} {lo hi : Nat} (h1 : lo ≤ hi) (h2 : hi ≤ xs.length) : (sub xs lo hi).length = hi - lo := by
  unfold sub
  rw [List.length_take, List.length_drop]
  omega
/-- a run: the places lo to hi, in order if the test is one -/
def Seg (pure : Bool) (k : Int → Int) (xs : List Int) (lo hi : Nat) : Prop := (sub xs lo hi).Perm (rangeI lo hi) ∧ (pure = true → Sorted k (sub xs lo hi))
def Runs (pure : Bool) (k : Int → Int) (n : Nat) (xs : List Int) (W : Nat) (m : Nat) : Prop := ∀ j, j < m → j * W < n → Seg pure k xs (j * W) (min (j * W + W) n)
theorem Seg.empty0 (pure : Bool) (k : Int → Int) (xs : List Int) (n : Nat) : Seg pure k xs n n := by
  have : sub xs n n = [] := by simp [sub]
  rw [Seg, this]
  exact ⟨by simp [rangeI], fun _ => List.Pairwise.nil⟩
/-- a part is laid over -/
def over (ys : List Int) (lo : Nat) (r : List Int) : List Int := ys.take lo ++ r ++ ys.drop (lo + r.length)
theorem over_length {ys r : List Int} {lo : Nat} (h : lo + r.length ≤ ys.length) : (over ys lo r).length = ys.length := by
  unfold over
  simp only [List.length_append, List.length_take, List.length_drop]
  omega
theorem over_sub {ys r : List Int} {lo : Nat} (h : lo + r.length ≤ ys.length) : sub (over ys lo r) lo (lo + r.length) = r := by
  unfold sub over
  rw [List.append_assoc, List.drop_append_of_le_length (by rw [List.length_take]; omega), List.drop_of_length_le (by rw [List.length_take]; omega), List.nil_append, Nat.add_sub_cancel_left, List.take_append_of_le_length (Nat.le_refl _), List.take_length]
theorem over_before {ys r : List Int} {lo a b : Nat} (h : lo ≤ ys.length) (hb : b ≤ lo) : sub (over ys lo r) a b = sub ys a b := by
  unfold sub over
  apply List.ext_getElem?
  intro i
  by_cases hi : i < b - a
  · rw [List.getElem?_take_of_lt hi, List.getElem?_take_of_lt hi, List.getElem?_drop, List.getElem?_drop, List.append_assoc, List.getElem?_append_left (by rw [List.length_take]; omega), List.getElem?_take_of_lt (by omega)]
  · rw [List.getElem?_eq_none (by rw [List.length_take]; omega), List.getElem?_eq_none (by rw [List.length_take]; omega)]
theorem over_set {ys r : List Int} {lo : Nat} {v : Int} (h : lo + r.length < ys.length) : (over ys lo r).set (lo + r.length) v = over ys lo (r ++ [v]) := by
  unfold over
  apply List.ext_getElem?
  intro i
  have hl : (ys.take lo ++ r).length = lo + r.length := by rw [List.length_append, List.length_take]; omega
  rw [List.getElem?_set]
  by_cases e : lo + r.length = i
  · subst e
    rw [if_pos rfl, if_pos (by simp only [List.length_append, List.length_take, List.length_drop]; omega)]
    rw [List.getElem?_append_left (by simp only [List.length_append, List.length_take, List.length_singleton]; omega), ← List.append_assoc, List.getElem?_append_right (by rw [hl]; omega), hl]
    simp
  · rw [if_neg e]
    by_cases h1 : i < lo + r.length
    · have e1 : ((ys.take lo ++ r) ++ ys.drop (lo + r.length))[i]? = (ys.take lo ++ r)[i]? := List.getElem?_append_left (by rw [hl]; exact h1)
      have e2 : ((ys.take lo ++ (r ++ [v])) ++ ys.drop (lo + (r ++ [v]).length))[i]? = (ys.take lo ++ r)[i]? := by
        rw [← List.append_assoc (ys.take lo), List.append_assoc (ys.take lo ++ r)]
        exact List.getElem?_append_left (by rw [hl]; exact h1)
      rw [e1, e2]
    · rw [List.getElem?_append_right (by rw [hl]; omega), hl, List.getElem?_append_right (by simp only [List.length_append, List.length_take, List.length_singleton]; omega), List.getElem?_drop, List.getElem?_drop]
      simp only [List.length_append, List.length_take, List.length_singleton]
      congr 1
      omega
theorem Runs.start (pure : Bool) (k : Int → Int) (n : Nat) : Runs pure k n (rangeI 0 n) 1 n := by
  intro j hj _
  have e : min (j * 1 + 1) n = j + 1 := by omega
  rw [e, Nat.mul_one]
  have hs : sub (rangeI 0 n) j (j + 1) = [(j : Int)] := by
    unfold sub rangeI
    rw [← List.map_drop, ← List.map_take]
    apply List.ext_getElem?
    intro i
    rcases i with _ | i
    · rw [List.getElem?_map, List.getElem?_take_of_lt (by omega), List.getElem?_drop, List.getElem?_range (by omega)]
      simp
    · rw [List.getElem?_eq_none (by simp; omega), List.getElem?_eq_none (by simp)]
  rw [Seg, hs]
  refine ⟨?_, fun _ => by unfold Sorted; simp⟩
  have : rangeI j (j + 1) = [(j : Int)] := by simp [rangeI]
  rw [this]
/-- two runs next to one another are merged -/
theorem Seg.merge {pure : Bool} {k : Int → Int} {T : Int → Int → Bool → Prop} (hT : pure = true → ∀ y x c, T y x c → c = decide (k y < k x)) {xs ys r : List Int} {lo mid hi : Nat} (h1 : lo ≤ mid) (h2 : mid ≤ hi) (hx : hi ≤ xs.length) (hy : ys.length = xs.length)
    (ha : Seg pure k xs lo mid) (hb : Seg pure k xs mid hi) (hm : Mg T (sub xs lo mid) (sub xs mid hi) r) : Seg pure k (over ys lo r) lo hi := by
  have hl : r.length = hi - lo := by rw [hm.length, sub_length h1 (by omega), sub_length h2 hx]; omega
  have hs : sub (over ys lo r) lo hi = r := by
    have := over_sub (ys := ys) (r := r) (lo := lo) (by omega)
    rw [hl, show lo + (hi - lo) = hi from by omega] at this
    exact this
  rw [Seg, hs]
  refine ⟨?_, fun hp => hm.sorted (hT hp) (ha.2 hp) (hb.2 hp) fun x hx y hy => ?_⟩
  · rw [← rangeI_app h1 h2]
    exact hm.perm.trans (ha.1.append hb.1)
  · obtain ⟨i, rfl, _, hi1⟩ := rangeI_mem.1 ((ha.1.mem_iff).1 hx)
    obtain ⟨j, rfl, hj1, _⟩ := rangeI_mem.1 ((hb.1.mem_iff).1 hy)
    omega
theorem Seg.of_sub {pure : Bool} {k : Int → Int} {xs ys : List Int} {lo hi : Nat} (h : sub ys lo hi = sub xs lo hi) (hs : Seg pure k xs lo hi) : Seg pure k ys lo hi := by rw [Seg, h]; exact hs
theorem Seg.mem {pure : Bool} {k : Int → Int} {xs : List Int} {lo hi : Nat} (h : Seg pure k xs lo hi) {z : Int} (hz : z ∈ sub xs lo hi) : ∃ i : Nat, z = (i : Nat) ∧ lo ≤ i ∧ i < hi := rangeI_mem.1 ((h.1.mem_iff).1 hz)
/-- one more run has been merged -/
theorem Runs.step {pure : Bool} {k : Int → Int} {n W j lo hi : Nat} {ys r : List Int} (hlo : lo = j * (2 * W)) (hhi : hi = min (lo + 2 * W) n) (hn : lo < n) (hy : ys.length = n) (hr : r.length = hi - lo) (h : Runs pure k n ys (2 * W) j) (hs : Seg pure k (over ys lo r) lo hi) : Runs pure k n (over ys lo r) (2 * W) (j + 1) := by
  intro i hi1 hi2
  rcases Nat.lt_or_ge i j with h1 | h1
  · have h2 : (i + 1) * (2 * W) ≤ j * (2 * W) := Nat.mul_le_mul_right _ h1
    rw [Nat.add_mul, Nat.one_mul] at h2
    exact Seg.of_sub (over_before (by omega) (by omega)) (h i h1 hi2)
  · obtain rfl : i = j := by omega
    rw [← hlo, ← hhi]
    exact hs
theorem Runs.pair {pure : Bool} {k : Int → Int} {n W j lo mid hi : Nat} {xs : List Int} (hW : 1 ≤ W) (hlo : lo = j * (2 * W)) (hmid : mid = min (lo + W) n) (hhi : hi = min (lo + 2 * W) n) (hn : lo < n) (h : Runs pure k n xs W n) : Seg pure k xs lo mid ∧ Seg pure k xs mid hi := by
  have e1 : 2 * j * W = lo := by rw [hlo, Nat.mul_comm 2 j, Nat.mul_assoc]
  have e2 : (2 * j + 1) * W = lo + W := by rw [Nat.add_mul, e1, Nat.one_mul]
  have b1 : 2 * j < n := by
    have := Nat.le_mul_of_pos_right (2 * j) hW
    omega
  refine ⟨?_, ?_⟩
  · have := h (2 * j) b1 (by omega)
    rw [e1, ← hmid] at this
    exact this
  · by_cases h1 : lo + W < n
    · have b2 : 2 * j + 1 < n := by
        have := Nat.le_mul_of_pos_right (2 * j + 1) hW
        omega
      have := h (2 * j + 1) b2 (by omega)
      rw [e2] at this
      rw [show mid = lo + W from by omega, show hi = min (lo + W + W) n from by omega]
      exact this
    · rw [show mid = n from by omega, show hi = n from by omega]
      exact Seg.empty0 pure k xs n
end Go.Proofs.Ytlbodandidopfaa
