/- Plain facts on tokens that are laid behind one another: what they come to. Conditions: none. -/
import Derived.Test.YtkgmelhigjjbbaaLzm
namespace Go.Proofs.Ytkgmelhigjjbbaa.Lz
set_option linter.unusedSimpArgs false
set_option linter.unusedVariables false
def litT (q : List UInt8) : List UInt8 := if q = [] then [] else Pu.varL (2 * q.length) ++ q
def copT (n d : Nat) : List UInt8 := Pu.varL (2 * n + 1) ++ Pu.varL d
/-- a row of tokens that comes to o -/
def Tokens (p o : List UInt8) : Prop := ∃ n, ∀ (room : Nat) (q : List UInt8) (r : St) (e : Nat), o.length ≤ room → Ends room ⟨q, o, n⟩ r e → Ends room ⟨p ++ q, [], 0⟩ r e
theorem Tokens.nil : Tokens [] [] := ⟨0, fun room q r e _ h => h⟩
theorem varL_ne (u : Nat) (more : List UInt8) (hu : u < 18446744073709551616) : Pu.varL u ++ more ≠ [] := by
  intro h
  have := (Pu.readvar_var u hu more).1
  rw [h] at this
  exact absurd this (by decide)
theorem Tokens.lit {p o : List UInt8} (h : Tokens p o) (q : List UInt8) (hq : 2 * q.length < 18446744073709551616) : Tokens (p ++ litT q) (o ++ q) := by
  by_cases h0 : q = []
  · subst h0
    simpa [litT] using h
  obtain ⟨n, h⟩ := h
  have hlen : 0 < q.length := List.length_pos_iff.2 h0
  refine ⟨n + q.length, fun room x r e hr k => ?_⟩
  rw [List.append_assoc]
  rw [List.length_append] at hr
  refine h room _ r e (by omega) (.next (s' := ⟨x, o ++ q, n + q.length⟩) ?_ k)
  unfold litT
  rw [if_neg h0, List.append_assoc]
  obtain ⟨r1, r2, r3⟩ := Pu.readvar_var (2 * q.length) hq (q ++ x)
  have htl : tl (Pu.varL (2 * q.length) ++ (q ++ x)) = q ++ x := by unfold tl; rw [r3, List.drop_append_of_le_length (Nat.le_refl _), List.drop_length, List.nil_append]
  have := step_lit room (Pu.varL (2 * q.length) ++ (q ++ x)) o n (varL_ne _ _ hq) r1 (by rw [r2]; omega) (by rw [r2]; omega) (by rw [r2, htl, List.length_append]; omega) (by rw [r2]; omega)
  rw [htl, r2, show 2 * q.length / 2 = q.length from by omega, List.drop_append_of_le_length (Nat.le_refl _), List.drop_length, List.nil_append, List.take_append_of_le_length (Nat.le_refl _), List.take_length] at this
  exact this
theorem Tokens.cop {p o : List UInt8} (h : Tokens p o) (n d : Nat) (hn : 0 < n) (hn2 : 2 * n + 1 < 18446744073709551616) (hd : 0 < d) (hdo : d ≤ o.length) (hd2 : d < 18446744073709551616) : Tokens (p ++ copT n d) (back n d o) := by
  obtain ⟨m, h⟩ := h
  refine ⟨m, fun room x r e hr k => ?_⟩
  rw [List.append_assoc]
  rw [back_len] at hr
  refine h room _ r e (by omega) (.next (s' := ⟨x, back n d o, m⟩) ?_ k)
  unfold copT
  rw [List.append_assoc]
  obtain ⟨r1, r2, r3⟩ := Pu.readvar_var (2 * n + 1) hn2 (Pu.varL d ++ x)
  obtain ⟨d1, d2, d3⟩ := Pu.readvar_var d hd2 x
  have htl : tl (Pu.varL (2 * n + 1) ++ (Pu.varL d ++ x)) = Pu.varL d ++ x := by unfold tl; rw [r3, List.drop_append_of_le_length (Nat.le_refl _), List.drop_length, List.nil_append]
  have htl2 : tl (Pu.varL d ++ x) = x := by unfold tl; rw [d3, List.drop_append_of_le_length (Nat.le_refl _), List.drop_length, List.nil_append]
  have := step_copy room (Pu.varL (2 * n + 1) ++ (Pu.varL d ++ x)) o m (varL_ne _ _ hn2) r1 (by rw [r2]; omega) (by rw [r2]; omega) (by rw [htl]; exact d1) (by rw [htl, d2]; exact hd) (by rw [htl, d2]; exact hdo) (by rw [r2]; omega)
  rw [htl, htl2, d2, r2, show (2 * n + 1) / 2 = n from by omega] at this
  exact this
theorem Tokens.walks {p o : List UInt8} (h : Tokens p o) (room : Nat) (hr : o.length ≤ room) : ∃ n, Walks room (1 :: p) o n 0 := by
  obtain ⟨n, h⟩ := h
  have := h room [] ⟨[], o, n⟩ 0 hr (.stop (step_nil _ _ _))
  rw [List.append_nil] at this
  exact ⟨n, .toks (s := ⟨[], o, n⟩) this⟩
/-- what is alike is a copy -/
theorem back_alike (b : List UInt8) (from_ at_ n : Nat) (h1 : from_ < at_) (h2 : at_ + n ≤ b.length) (h : ∀ i, i < n → b[from_ + i]? = b[at_ + i]?) : b.take (at_ + n) = back n (at_ - from_) (b.take at_) := by
  have hlen : (b.take at_).length = at_ := by rw [List.length_take]; omega
  refine back_ext (by omega) (by omega) (by rw [hlen, List.length_take]; omega) (fun j hj => ?_) (fun i hi => ?_)
  · rw [hlen] at hj
    rw [List.getElem?_take_of_lt (by omega), List.getElem?_take_of_lt hj]
  · rw [hlen]
    have hm := Nat.mod_lt i (show 0 < at_ - from_ by omega)
    rw [List.getElem?_take_of_lt (by omega), List.getElem?_take_of_lt (by omega), show at_ - (at_ - from_) = from_ from by omega]
    clear hm
    induction i using Nat.strongRecOn with
    | ind i ih =>
      rw [← h i hi]
      rcases Nat.lt_or_ge i (at_ - from_) with hl | hl
      · rw [Nat.mod_eq_of_lt hl]
      · rw [show from_ + i = at_ + (i - (at_ - from_)) from by omega, ih (i - (at_ - from_)) (by omega) (by omega), Nat.mod_eq_sub_mod hl]
end Go.Proofs.Ytkgmelhigjjbbaa.Lz
