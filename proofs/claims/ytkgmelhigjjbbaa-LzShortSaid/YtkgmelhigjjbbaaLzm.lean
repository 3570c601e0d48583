/- Plain facts on packed bytes: more room, less room, rows of tokens behind one another, the chapter's example. Conditions: none. -/
import Derived.Test.YtkgmelhigjjbbaaLzp
namespace Go.Proofs.Ytkgmelhigjjbbaa.Lz
set_option linter.unusedSimpArgs false
set_option linter.unusedVariables false
theorem contF_app (b : List UInt8) : ∀ (k : Nat) (x : List UInt8), Pu.contF k x < x.length → Pu.contF k (x ++ b) = Pu.contF k x := by
  intro k
  induction k with
  | zero => intro x h; simp [Pu.contF]
  | succ k ih =>
    intro x h
    rcases x with _ | ⟨a, t⟩
    · simp at h
    · rw [List.cons_append, Pu.contF, Pu.contF]
      rw [Pu.contF] at h
      by_cases ha : 128 ≤ a.toNat
      · rw [if_pos ha] at h ⊢
        rw [if_pos ha, ih t (by simp at h; omega)]
      · rw [if_neg ha, if_neg ha]
theorem rv_app {x : List UInt8} (b : List UInt8) (h : Pu.rvE x = 0) : Pu.rvE (x ++ b) = 0 ∧ Pu.rvV (x ++ b) = Pu.rvV x ∧ Pu.rvN (x ++ b) = Pu.rvN x := by
  have hz := Pu.rvE_zero h
  have hc : Pu.cont (x ++ b) = Pu.cont x := contF_app b 10 x hz.2.1
  have hg : (x ++ b).getD (Pu.cont x) 0 = x.getD (Pu.cont x) 0 := by
    rw [List.getD_eq_getElem?_getD, List.getD_eq_getElem?_getD, List.getElem?_append_left hz.2.1]
  have hE : Pu.rvE (x ++ b) = 0 := by
    unfold Pu.rvE at h ⊢
    rw [hc, hg, if_neg (by omega), if_neg (by rw [List.length_append]; omega)]
    rw [if_neg (by omega), if_neg (by omega)] at h
    exact h
  refine ⟨hE, ?_, ?_⟩
  · unfold Pu.rvV
    rw [if_pos hE, if_pos h, hc, List.take_append_of_le_length (by omega)]
  · unfold Pu.rvN
    rw [if_pos hE, if_pos h, hc]
theorem rvN_len {x : List UInt8} (h : Pu.rvE x = 0) : Pu.rvN x ≤ x.length := by
  have := Pu.rvE_zero h
  unfold Pu.rvN
  rw [if_pos h]
  omega
/-- the bytes behind a number -/
abbrev tl (x : List UInt8) : List UInt8 := x.drop (Pu.rvN x)
theorem tl_app {x : List UInt8} (b : List UInt8) (h : Pu.rvE x = 0) : tl (x ++ b) = tl x ++ b := by
  unfold tl
  rw [(rv_app b h).2.2, List.drop_append_of_le_length (rvN_len h)]

theorem step_copy (room : Nat) (x o : List UInt8) (n : Nat) (h0 : x ≠ []) (h1 : Pu.rvE x = 0) (h2 : Pu.rvV x / 2 ≠ 0) (h3 : Pu.rvV x % 2 = 1) (h4 : Pu.rvE (tl x) = 0) (h5 : 0 < Pu.rvV (tl x)) (h6 : Pu.rvV (tl x) ≤ o.length) (h7 : Pu.rvV x / 2 ≤ room - o.length) :
    step room ⟨x, o, n⟩ = .next ⟨tl (tl x), back (Pu.rvV x / 2) (Pu.rvV (tl x)) o, n⟩ := by
  unfold tl at *
  unfold step
  dsimp only
  rw [if_neg h0, if_neg (by simp [h1]), if_neg h2, if_pos h3, if_neg (by simp [h4]), if_neg (by omega), if_neg (by omega)]
theorem step_lit (room : Nat) (x o : List UInt8) (n : Nat) (h0 : x ≠ []) (h1 : Pu.rvE x = 0) (h2 : Pu.rvV x / 2 ≠ 0) (h3 : Pu.rvV x % 2 ≠ 1) (h6 : Pu.rvV x / 2 ≤ (tl x).length) (h7 : Pu.rvV x / 2 ≤ room - o.length) :
    step room ⟨x, o, n⟩ = .next ⟨(tl x).drop (Pu.rvV x / 2), o ++ (tl x).take (Pu.rvV x / 2), n + Pu.rvV x / 2⟩ := by
  unfold tl at *
  unfold step
  dsimp only
  rw [if_neg h0, if_neg (by simp [h1]), if_neg h2, if_neg h3, if_neg (by omega), if_neg (by omega)]
theorem step_next {room : Nat} {x o : List UInt8} {n : Nat} {s' : St} (h : step room ⟨x, o, n⟩ = .next s') :
    x ≠ [] ∧ Pu.rvE x = 0 ∧ Pu.rvV x / 2 ≠ 0 ∧ Pu.rvV x / 2 ≤ room - o.length ∧
    ((Pu.rvV x % 2 = 1 ∧ Pu.rvE (tl x) = 0 ∧ 0 < Pu.rvV (tl x) ∧ Pu.rvV (tl x) ≤ o.length ∧ s' = ⟨tl (tl x), back (Pu.rvV x / 2) (Pu.rvV (tl x)) o, n⟩) ∨
     (Pu.rvV x % 2 ≠ 1 ∧ Pu.rvV x / 2 ≤ (tl x).length ∧ s' = ⟨(tl x).drop (Pu.rvV x / 2), o ++ (tl x).take (Pu.rvV x / 2), n + Pu.rvV x / 2⟩)) := by
  unfold tl
  unfold step at h
  dsimp only at h
  split at h
  · cases h
  · rename_i h0
    split at h
    · cases h
    · rename_i h1
      split at h
      · cases h
      · rename_i h2
        split at h
        · rename_i h3
          split at h
          · cases h
          · rename_i h4
            split at h
            · cases h
            · rename_i h5
              split at h
              · cases h
              · rename_i h6
                injection h with h
                exact ⟨h0, by simpa using h1, h2, by omega, Or.inl ⟨h3, by simpa using h4, by omega, by omega, h.symm⟩⟩
        · rename_i h3
          split at h
          · cases h
          · rename_i h6
            split at h
            · cases h
            · rename_i h5
              injection h with h
              exact ⟨h0, by simpa using h1, h2, by omega, Or.inr ⟨h3, by omega, h.symm⟩⟩
theorem step_end {room : Nat} {x o : List UInt8} {n : Nat} (h : step room ⟨x, o, n⟩ = .stop 0) : x = [] := by
  unfold step at h
  split at h
  · rename_i h0; exact h0
  · rename_i h0
    exfalso
    repeat' split at h
    all_goals first
      | (cases h; done)
      | (injection h with h; contradiction)
theorem step_nil (room : Nat) (o : List UInt8) (n : Nat) : step room ⟨[], o, n⟩ = .stop 0 := by unfold step; rw [if_pos rfl]
/-- a token only lays bytes behind -/
theorem next_len {room : Nat} {x o : List UInt8} {n : Nat} {s' : St} (h : step room ⟨x, o, n⟩ = .next s') : s'.out.length = o.length + Pu.rvV x / 2 := by
  obtain ⟨h0, h1, h2, h3, h | h⟩ := step_next h
  · obtain ⟨_, _, _, _, rfl⟩ := h
    exact back_len _ _ _
  · obtain ⟨_, hk, rfl⟩ := h
    show (o ++ (tl x).take (Pu.rvV x / 2)).length = _
    rw [List.length_append, List.length_take]
    omega
theorem Ends.len {room : Nat} {s r : St} {e : Nat} (h : Ends room s r e) : s.out.length ≤ r.out.length := by
  induction h with
  | stop h => exact Nat.le_refl _
  | next h _ ih => rename_i s s' r e _; obtain ⟨x, o, n⟩ := s; have := next_len h; show o.length ≤ _; omega
theorem Ends.done {room : Nat} {s r : St} {e : Nat} (h : Ends room s r e) (he : e = 0) : r.x = [] := by
  induction h with
  | stop h => rename_i s e; subst he; obtain ⟨x, o, n⟩ := s; exact step_end h
  | next _ _ ih => exact ih he
/-- a row of tokens with another behind it, and other room -/
theorem Ends.front {room : Nat} {s r : St} {e : Nat} (h : Ends room s r e) (he : e = 0) (room' : Nat) (hr : r.out.length ≤ room') (b : List UInt8) {q : St} {e' : Nat} (k : Ends room' ⟨b, r.out, r.lit⟩ q e') : Ends room' ⟨s.x ++ b, s.out, s.lit⟩ q e' := by
  induction h with
  | stop h =>
    rename_i s e
    subst he
    obtain ⟨x, o, n⟩ := s
    obtain rfl : x = [] := step_end h
    exact k
  | next h h2 ih =>
    rename_i s s' r e
    have hk := ih he hr k
    have hlen := h2.len
    obtain ⟨x, o, n⟩ := s
    have hnl := next_len h
    obtain ⟨h0, h1, h3, h4, h5⟩ := step_next h
    obtain ⟨a1, a2, a3⟩ := rv_app b h1
    refine Ends.next (s' := ⟨s'.x ++ b, s'.out, s'.lit⟩) ?_ hk
    rcases h5 with ⟨c1, c2, c3, c4, rfl⟩ | ⟨c1, c2, rfl⟩
    · obtain ⟨b1, b2, b3⟩ := rv_app b c2
      have e1 := tl_app b h1
      have e2 := tl_app b c2
      have := step_copy room' (x ++ b) o n (by simp [h0]) a1 (by rw [a2]; exact h3) (by rw [a2]; exact c1) (by rw [e1]; exact b1) (by rw [e1, b2]; exact c3) (by rw [e1, b2]; exact c4) (by rw [a2]; omega)
      rw [e1, e2, a2, b2] at this
      exact this
    · have e1 := tl_app b h1
      have := step_lit room' (x ++ b) o n (by simp [h0]) a1 (by rw [a2]; exact h3) (by rw [a2]; exact c1) (by rw [a2, e1, List.length_append]; omega) (by rw [a2]; omega)
      rw [e1, a2, List.drop_append_of_le_length c2, List.take_append_of_le_length c2] at this
      exact this
/-- the same row behind other bytes -/
theorem Ends.behind {room : Nat} {s r : St} {e : Nat} (h : Ends room s r e) (he : e = 0) (p : List UInt8) (room' : Nat) (hr : p.length + r.out.length ≤ room') : ∀ n', ∃ m', Ends room' ⟨s.x, p ++ s.out, n'⟩ ⟨[], p ++ r.out, m'⟩ 0 := by
  induction h with
  | stop h =>
    intro n'
    rename_i s e
    subst he
    obtain ⟨x, o, n⟩ := s
    obtain rfl : x = [] := step_end h
    exact ⟨n', .stop (step_nil _ _ _)⟩
  | next h h2 ih =>
    intro n'
    rename_i s s' r e
    have hlen := h2.len
    obtain ⟨x, o, n⟩ := s
    have hnl := next_len h
    obtain ⟨h0, h1, h3, h4, h5⟩ := step_next h
    rcases h5 with ⟨c1, c2, c3, c4, rfl⟩ | ⟨c1, c2, rfl⟩
    · obtain ⟨m', hm⟩ := ih he hr n'
      refine ⟨m', .next ?_ hm⟩
      have := step_copy room' x (p ++ o) n' h0 h1 h3 c1 c2 c3 (by rw [List.length_append]; omega) (by rw [List.length_append]; omega)
      rw [back_pre p c3 c4] at this
      exact this
    · obtain ⟨m', hm⟩ := ih he hr (n' + Pu.rvV x / 2)
      refine ⟨m', .next ?_ hm⟩
      have := step_lit room' x (p ++ o) n' h0 h1 h3 c1 c2 (by rw [List.length_append]; omega)
      rw [List.append_assoc] at this
      exact this
/-- with less room than it has bytes it is too long -/
theorem Ends.less {room : Nat} {s r : St} {e : Nat} (h : Ends room s r e) (he : e = 0) (room' : Nat) (h1 : s.out.length ≤ room') (h2 : room' < r.out.length) : ∃ r', Ends room' s r' 24 := by
  induction h with
  | stop h => omega
  | next h k ih =>
    rename_i s s' r e
    obtain ⟨x, o, n⟩ := s
    have hnl := next_len h
    obtain ⟨g0, g1, g3, g4, g5⟩ := step_next h
    have ho : o.length ≤ room' := h1
    by_cases hs : s'.out.length ≤ room'
    · obtain ⟨r', hr'⟩ := ih he hs h2
      refine ⟨r', .next ?_ hr'⟩
      rcases g5 with ⟨c1, c2, c3, c4, rfl⟩ | ⟨c1, c2, rfl⟩
      · exact step_copy room' x o n g0 g1 g3 c1 c2 c3 c4 (by omega)
      · exact step_lit room' x o n g0 g1 g3 c1 c2 (by omega)
    · refine ⟨_, .stop ?_⟩
      unfold tl at *
      unfold step
      dsimp only
      rcases g5 with ⟨c1, c2, c3, c4, rfl⟩ | ⟨c1, c2, rfl⟩
      · rw [if_neg g0, if_neg (by simp [g1]), if_neg g3, if_pos c1, if_neg (by simp [c2]), if_neg (by omega), if_pos (by omega)]
      · rw [if_neg g0, if_neg (by simp [g1]), if_neg g3, if_neg c1, if_pos (by omega)]
theorem Walks.more {room : Nat} {x o : List UInt8} {n : Nat} (h : Walks room x o n 0) (room' : Nat) (hr : o.length ≤ room') : Walks room' x o n 0 := by
  generalize he : 0 = e at h
  cases h with
  | nil => cases he
  | raw h => exact he ▸ .raw hr
  | long => cases he
  | form => cases he
  | toks h =>
    rename_i r s
    subst he
    have := h.front rfl room' hr [] (.stop (step_nil _ _ _))
    rw [List.append_nil] at this
    exact .toks (s := ⟨[], s.out, s.lit⟩) this
theorem Walks.less {room : Nat} {x o : List UInt8} {n : Nat} (h : Walks room x o n 0) (room' : Nat) (hr : room' < o.length) : ∃ o' n', Walks room' x o' n' 24 := by
  generalize he : 0 = e at h
  cases h with
  | nil => cases he
  | raw h => exact ⟨_, _, .long hr⟩
  | long => cases he
  | form => cases he
  | toks h =>
    obtain ⟨r', hr'⟩ := h.less he.symm room' (Nat.zero_le _) hr
    exact ⟨_, _, .toks hr'⟩
theorem Walks.joins {room : Nat} {a b x y : List UInt8} {n m : Nat} (h : Walks room (1 :: a) x n 0) (k : Walks room (1 :: b) y m 0) : ∃ q, Walks (x.length + y.length) (1 :: a ++ b) (x ++ y) q 0 := by
  generalize he : 0 = e at h
  cases h with
  | form h => cases he
  | toks h =>
    rename_i r
    subst he
    cases k with
    | toks k =>
      rename_i r2
      obtain ⟨m', hm⟩ := k.behind rfl r.out (r.out.length + r2.out.length) (Nat.le_refl _) r.lit
      rw [List.append_nil] at hm
      have := h.front rfl (r.out.length + r2.out.length) (by omega) b hm
      exact ⟨m', .toks (s := ⟨[], r.out ++ r2.out, m'⟩) this⟩
theorem known_walks : Walks 10 [1, 6, 97, 98, 99, 11, 3] [97, 98, 99, 97, 98, 99, 97, 98] 3 0 := by
  refine .toks (s := ⟨[], [97, 98, 99, 97, 98, 99, 97, 98], 3⟩) (.next (s' := ⟨[11, 3], [97, 98, 99], 3⟩) (by rfl) (.next (s' := ⟨[], [97, 98, 99, 97, 98, 99, 97, 98], 3⟩) (by rfl) (.stop (by rfl))))
end Go.Proofs.Ytkgmelhigjjbbaa.Lz
