/- The disk: appending inside a region whose order is open; a row of writes with one more. Conditions: none of its own. -/
import Derived.Test.YtldmamcalfmedaaDsr
namespace Go.Proofs.Ytldmamcalfmedaa
open Go.ChangeShapes Go.WideShapes Go.ChangeAt Go.RowKit Go.Maps
set_option linter.unusedSimpArgs false
set_option linter.unusedVariables false
section
variable {P : Program} (w : World)
/-- one more element of two cells -/
theorem step_append2 {ops : Array Oper} {o : Oper} {a : Act} {K : Act → World → Prop} {Q : Exit → Act → World → Prop} {E : Prop} (hgd : o.guard = none) (s x : Operand) (t : TypeId)
    (ho : o.op = .call { callee := .builtin .append, args := #[s, x], argTypes := #[t, t] })
    (base : Nat) (e : TypeId) (z : Value) (bytes : Nat) (ht : P.underlying t = some (.slice e)) (hi : (P.info? e).map (fun i => (i.zero, i.size, i.bytes)) = some (some z, 2, bytes))
    (hz1 : z.cells.size = 2) (v : Value) (n : Nat) (xs : List Value) (hs : a.eval s = v) (hown : w.ownsRow base e 2 v n xs) (k : Nat) (u0 u1 : Value) (hx : a.eval x = .slice (some ⟨k, 0, none⟩) 1 1) (h0 : w.cell? ⟨k, 0, none⟩ = some u0) (h1 : w.cell? ⟨k, 1, none⟩ = some u1) (o0 : u0.oneCell' = true) (o1 : u1.oneCell' = true)
    (hbytes : (n + 1) * bytes ≤ 140737488355328) (hb1 : 0 < bytes) (hbase : base ≤ w.heap.size)
    (h : ∀ v' w', w'.ownsRow base e 2 v' (n + 1) (xs ++ [u0, u1]) → w.grownBy w' v.ownBlock → (v'.ownBlock = v.ownBlock ∨ v'.ownBlock = some w.heap.size) → K (a.put o.dst v') w') :
    if Region.wanted o (yielded ops a.tmps) = true then Oper.wp P o a w K Q else E := by
  refine step_wanted w hgd ?_
  obtain ⟨i, hi1, hi2, hi3, hi4⟩ : ∃ i, P.info? e = some i ∧ i.zero = some z ∧ i.size = 2 ∧ i.bytes = bytes := by
    cases hq : P.info? e with
    | none => rw [hq] at hi; cases hi
    | some i =>
      rw [hq] at hi
      simp only [Option.map_some, Option.some.injEq, Prod.mk.injEq] at hi
      exact ⟨i, rfl, hi.1, hi.2.1, hi.2.2⟩
  have h63 : n + 1 ≤ maxLen := by
    unfold maxLen
    have : n + 1 ≤ (n + 1) * bytes := Nat.le_mul_of_pos_right _ hb1
    omega
  obtain ⟨v', w', hrun, h2, h3, _, h5⟩ := run_append_own_at (P := P) w base t o.type e i z 2 bytes ht hi1 hi2 hi3 hi4 hz1 (by omega) v n xs hown ⟨k, 0, none⟩ 1 1 [u0, u1] rfl (fun j u hu => by
    rw [Addr.add_lit]
    rcases j with _ | _ | j
    · simp at hu; subst hu; exact h0
    · simp at hu; subst hu; exact h1
    · simp at hu) (fun u hu => by simp at hu; rcases hu with rfl | rfl <;> assumption) h63 hbytes hbase
  unfold Oper.wp execOp
  simp only [ho, resolve, invoke, builtin, Sem.run_bind, Sem.run_pure, Result.andThen_ok, List.map_toArray, List.map_cons, List.map_nil, hs, hx, hrun]
  exact h v' w' h2 h3 h5
end
theorem infW : (Try.prog.info? 76).map (fun i => (i.zero, i.size, i.bytes)) = some (some (.agg #[.int .i64 0, .slice none 0 0]), 2, 32) := by kernel_rfl
/-- the row of the pending writes, and one more -/
theorem PRow.snoc {w w' : World} {M' : Nat → Prop} {pb' : Nat} {pv pv' : Value} {pend : List (Nat × List UInt8)} {xs : List Value} (p : Nat × List UInt8) (vb : Value)
    (ho : w.ownsRow 0 76 2 pv pend.length xs) (hx : ∀ (i : Nat) (p : Nat × List UInt8), pend[i]? = some p → xs[2 * i]? = some (.int .i64 (p.1 : Nat)) ∧ ∃ v, xs[2 * i + 1]? = some v ∧ RdX M' w' v (bv p.2))
    (ho' : w'.ownsRow 0 76 2 pv' (pend.length + 1) (xs ++ [.int .i64 (p.1 : Nat), vb])) (hv : RdX M' w' vb (bv p.2)) (hb : ∀ g, pv'.ownBlock = some g → g = pb') : PRow w' M' pb' pv' (pend ++ [p]) := by
  refine ⟨_, by rw [List.length_append]; exact ho', hb, fun i q hi => ?_⟩
  have hxl := ho.1
  rcases Nat.lt_or_ge i pend.length with h | h
  · rw [List.getElem?_append_left h] at hi
    obtain ⟨e1, v, e2, e3⟩ := hx i q hi
    rw [List.getElem?_append_left (by omega), List.getElem?_append_left (by omega)]
    exact ⟨e1, v, e2, e3⟩
  · have hi2 : i = pend.length := by
      have := (List.getElem?_eq_some_iff.1 hi).1
      simp at this
      omega
    subst hi2
    rw [List.getElem?_append_right (Nat.le_refl _), Nat.sub_self] at hi
    injection hi with hi
    subst hi
    rw [List.getElem?_append_right (by omega), List.getElem?_append_right (by omega), hxl, show 2 * pend.length - pend.length * 2 = 0 from by omega, show 2 * pend.length + 1 - pend.length * 2 = 1 from by omega]
    exact ⟨rfl, vb, rfl, hv⟩
theorem talG_cnt : ∀ (l : List (Nat × List UInt8)) (i : Nat) (f : Int → Tal) (s : Int) (c : Int), (∀ j, 0 ≤ (f j).cnt ∧ (f j).cnt ≤ c) → 0 ≤ (talG l i f s).cnt ∧ (talG l i f s).cnt ≤ c + l.length
  | [], i, f, s, c, h => by have := h s; simpa [talG] using this
  | p :: r, i, f, s, c, h => by
    have := talG_cnt r (i + 1) (put f (p.1 : Nat) ⟨(f (p.1 : Nat)).cnt + 1, (i : Nat)⟩) s (c + 1) (fun j => by
      unfold put
      have h1 := h (p.1 : Nat)
      have h2 := h j
      split
      · simp only; omega
      · omega)
    unfold talG
    simp only [List.length_cons]
    omega
theorem talF_cnt (l : List (Nat × List UInt8)) (s : Int) : 0 ≤ (talF l s).cnt ∧ (talF l s).cnt ≤ l.length := by
  have := talG_cnt l 0 (fun _ => ⟨0, 0⟩) s 0 (fun j => ⟨by decide, by decide⟩)
  unfold talF
  omega
end Go.Proofs.Ytldmamcalfmedaa
