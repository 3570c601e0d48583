/- Parts of a slice that reads as a list; copying the front of a row into a row of the call's own. Conditions: none of its own. -/
import Derived.Test.YtlbodandidopfaaMem
namespace Go.Proofs.Ytlbodandidopfaa
open Go.ChangeShapes Go.WideShapes Go.ChangeAt Go.RowKit
set_option linter.unusedSimpArgs false
set_option linter.unusedVariables false
theorem RdV.zeroC (w : World) (B : Nat) (A : Option Addr) (c : Nat) (h : c ≤ 9223372036854775807) : RdV w B (.slice A 0 c) [] := ⟨A, c, rfl, Nat.zero_le _, by unfold maxLen; omega, fun h => absurd h (Nat.lt_irrefl 0)⟩
/-- a part of a row -/
theorem RdV.part {w : World} {B : Nat} {b off m c : Nat} {xs : List Value} (h : RdV w B (.slice (some ⟨b, off, none⟩) m c) xs) (a k : Nat) (hk : a + k ≤ xs.length) : RdV w B (.slice (some ⟨b, off + a, none⟩) k (c - a)) ((xs.drop a).take k) := by
  obtain ⟨A', c', h1, h2, h3, h4⟩ := h
  injection h1 with e1 e2 e3
  subst e3
  have hl : ((xs.drop a).take k).length = k := by rw [List.length_take, List.length_drop]; omega
  refine ⟨_, c - a, by rw [hl], by rw [hl]; omega, by omega, fun hn => ?_⟩
  rw [hl] at hn
  obtain ⟨b', off', e, hb, hc⟩ := h4 (by omega)
  rw [← e1] at e
  injection e with e
  injection e with e4 e5 e6
  subst e4 e5
  refine ⟨_, _, rfl, hb, fun j u hu => ?_⟩
  have hj : j < k := by
    rcases Nat.lt_or_ge j k with h | h
    · exact h
    · rw [List.getElem?_eq_none (by omega)] at hu; simp at hu
  rw [Nat.add_assoc]
  refine hc (a + j) u ?_
  rw [← hu, List.getElem?_take, if_pos hj, List.getElem?_drop]
theorem RdV.front {w : World} {B : Nat} {A : Option Addr} {m c : Nat} {xs : List Value} (h : RdV w B (.slice A m c) xs) (k : Nat) (hk : k ≤ xs.length) : RdV w B (.slice A k c) (xs.take k) := by
  obtain ⟨A', c', h1, h2, h3, h4⟩ := h
  injection h1 with e1 e2 e3
  subst e1 e3
  have hl : (xs.take k).length = k := by rw [List.length_take]; omega
  refine ⟨_, _, by rw [hl], by rw [hl]; omega, h3, fun hn => ?_⟩
  rw [hl] at hn
  obtain ⟨b', off', e, hb, hc⟩ := h4 (by omega)
  refine ⟨_, _, e, hb, fun j u hu => hc j u ?_⟩
  rw [← hu, List.getElem?_take]
  have hj : j < k := by
    rcases Nat.lt_or_ge j k with h | h
    · exact h
    · rw [List.getElem?_eq_none (by omega)] at hu; simp at hu
  rw [if_pos hj]
section
variable {P : Program} {w : World}
theorem run_copy_front (base : Nat) (t t' ty e : TypeId) (z : Value) (bytes : Nat) (ht : P.underlying t = some (.slice e)) (hi : (P.info? e).map (fun i => (i.zero, i.size, i.bytes)) = some (some z, 1, bytes))
    (g n c : Nat) (xs : List Value) (hown : w.ownsRow base e 1 (.slice (some ⟨g, 0, none⟩) n c) n xs) (A : Option Addr) (m c' B : Nat) (ys : List Value) (hr : RdV w B (.slice A n c') ys) (hm : n ≤ m) (h1 : ∀ u ∈ ys, u.oneCell' = true) :
    ∃ w', (Builtin.copy_ #[t, t'] ty #[.slice (some ⟨g, 0, none⟩) n c, .slice A m c']).run P w = .ok (goInt n) w' ∧ w'.ownsRow base e 1 (.slice (some ⟨g, 0, none⟩) n c) n ys ∧ w.grownBy w' (some g) := by
  obtain ⟨i, hi1, hi2, hi3, hi4⟩ := info_parts hi
  have hsz : (P.info? e).map (·.size) = some 1 := by rw [hi1]; simp [hi3]
  have hl := hown.1
  obtain ⟨A', c'', hA, hc1, hc2, hc3⟩ := id hr
  injection hA with e1 e2 e3
  subst e1 e3
  rcases hown.2 with ⟨h, _⟩ | ⟨g', cap, cur, hv, hb, hh, hnc, hcm, hcs, htk⟩
  · cases h
  injection hv with hv1 hv2 hv3
  injection hv1 with hv1
  injection hv1 with hv1 _ _
  subst hv1 hv3
  rcases Nat.eq_zero_or_pos n with h0 | h0
  · subst h0
    have hy : ys = [] := List.eq_nil_of_length_eq_zero e2.symm
    subst hy
    have hx0 : xs = [] := List.eq_nil_of_length_eq_zero (by omega)
    subst hx0
    exact ⟨w, run_copy_none w t t' ty e (some ⟨g, 0, none⟩) A 0 c _ c' ht hsz (by simp), hown, World.grownBy.refl w _⟩
  · obtain ⟨b, off, rfl, hbB, hc⟩ := hc3 (by omega)
    have hrun := run_copy_row (P := P) w t t' ty e g 0 n c ⟨b, off, none⟩ m c' cur e ys ht hsz hh (by rw [← e2]; exact (Nat.min_eq_right hm).symm) (fun j u hu => by rw [Addr.add_lit]; exact hc j u hu) (by omega) h1
    rw [← e2] at hrun
    refine ⟨_, hrun, ⟨by omega, .inr ⟨g, c, _, rfl, hb, setRow_heap w g cur _ e _ hh, hnc, hcm, ?_, ?_⟩⟩, ⟨rfl, rfl, rfl, by simp, fun k _ hk => setRow_other w g k _ (fun e => hk (by simp [e]))⟩⟩
    · simp
      omega
    · rw [Nat.mul_one]
      simp only [List.take_zero, List.nil_append]
      rw [List.take_append_of_le_length (by omega), List.take_of_length_le (by omega)]
theorem wpList_copy_front {ops : Array Oper} {rest : List Oper} {o : Oper} {a : Act} {Q : Exit → Act → World → Prop} (hgd : o.guard = none) (d s : Operand) (t t' : TypeId)
    (ho : o.op = .call { callee := .builtin .copy, args := #[d, s], argTypes := #[t, t'] })
    (base : Nat) (e : TypeId) (z : Value) (bytes : Nat) (ht : P.underlying t = some (.slice e)) (hi : (P.info? e).map (fun i => (i.zero, i.size, i.bytes)) = some (some z, 1, bytes))
    (g n c : Nat) (xs : List Value) (hd : a.eval d = .slice (some ⟨g, 0, none⟩) n c) (hown : w.ownsRow base e 1 (.slice (some ⟨g, 0, none⟩) n c) n xs) (A : Option Addr) (m c' : Nat) (hx : a.eval s = .slice A m c') (B : Nat) (ys : List Value) (hr : RdV w B (.slice A n c') ys) (hm : n ≤ m) (h1 : ∀ u ∈ ys, u.oneCell' = true)
    (h : ∀ w', w'.ownsRow base e 1 (.slice (some ⟨g, 0, none⟩) n c) n ys → w.grownBy w' (some g) → wpList P ops Q rest (a.put o.dst (.int .i64 (n : Int))) w') : wpList P ops Q (o :: rest) a w := by
  refine wpList_plain hgd fun K hK => ?_
  obtain ⟨w', hrun, h2, h3⟩ := run_copy_front (P := P) (w := w) base t t' o.type e z bytes ht hi g n c xs hown A m c' B ys hr hm h1
  unfold Oper.wp execOp
  simp only [ho, resolve, invoke, builtin, Sem.run_bind, Sem.run_pure, Result.andThen_ok, List.map_toArray, List.map_cons, List.map_nil, hd, hx, hrun]
  exact hK _ _ (h w' h2 h3)
end
end Go.Proofs.Ytlbodandidopfaa
