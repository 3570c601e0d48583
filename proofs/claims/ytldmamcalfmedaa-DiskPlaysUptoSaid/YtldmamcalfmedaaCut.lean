/- Slice expressions on a row that reads as a list: what they tell reads as a part of it. Conditions: none. -/
import Derived.Test.YtldmamcalfmedaaFro
namespace Go.Proofs.Ytldmamcalfmedaa
open Go.ChangeShapes Go.WideShapes Go.ChangeAt Go.RowKit
set_option linter.unusedSimpArgs false
set_option linter.unusedVariables false
section
variable {P : Program} {w : World} {B : Nat} {xs : List Value}
theorem RdV.sliced {A : Option Addr} {n c : Nat} (hr : RdV w B (.slice A n c) xs) (l h m : Nat) (hl : l ≤ h) (hh : h ≤ n) (hm : h ≤ m) (hmc : m ≤ c) : RdV w B (Go.sliced A l h m 1) ((xs.drop l).take (h - l)) := by
  obtain ⟨A', c', e, h1, h2, h3⟩ := id hr
  injection e with e1 e2 e3
  subst e1 e2 e3
  unfold Go.sliced
  have hlen : ((xs.drop l).take (h - l)).length = h - l := by rw [List.length_take, List.length_drop]; omega
  refine ⟨_, _, by rw [hlen], by rw [hlen]; omega, by omega, fun hn => ?_⟩
  rw [hlen] at hn
  obtain ⟨b, off, rfl, hb, hc⟩ := h3 (by omega)
  rw [if_neg (by omega), Nat.mul_one]
  refine ⟨b, off + l, by simp [Addr.add], hb, fun j u hu => ?_⟩
  have hj : j < h - l := by have := (List.getElem?_eq_some_iff.1 hu).1; omega
  rw [List.getElem?_take_of_lt hj, List.getElem?_drop] at hu
  rw [Nat.add_assoc]
  exact hc _ u hu
theorem elem_of {t e : TypeId} (ht : P.underlying t = some (.slice e)) : P.elem t = e := by simp [Program.elem, ht]
theorem size_one {e : TypeId} {z : Value} {bytes : Nat} (hi : (P.info? e).map (fun i => (i.zero, i.size, i.bytes)) = some (some z, 1, bytes)) : (sizeOf e).run P w = .ok 1 w := by
  obtain ⟨i, hi1, _, hi3, _⟩ := info_parts hi
  simp [sizeOf, typeInfo, hi1, hi3]
theorem wpList_cut {ops : Array Oper} {rest : List Oper} {o : Oper} {a : Act} {Q : Exit → Act → World → Prop} (hgd : o.guard = none) (x : Operand) (t : TypeId) (lo hi mx : Option Operand) (ho : o.op = Op.slice t x lo hi mx)
    (e : TypeId) (z : Value) (bytes : Nat) (ht : P.underlying t = some (.slice e)) (hinf : (P.info? e).map (fun i => (i.zero, i.size, i.bytes)) = some (some z, 1, bytes)) (hr : RdV w B (a.eval x) xs) (l h : Nat) (hl : l ≤ h) (hh : h ≤ xs.length)
    (hrun : ∀ A c, xs.length ≤ c → P.underlying t = some (.slice (P.elem t)) → ∃ m, h ≤ m ∧ m ≤ c ∧ (Instr.slice t (.slice A xs.length c) (lo.map a.eval) (hi.map a.eval) (mx.map a.eval)).run P w = ((sizeOf (P.elem t)).run P w).andThen fun s w => .ok (sliced A l h m s) w)
    (K : ∀ u, RdV w B u ((xs.drop l).take (h - l)) → wpList P ops Q rest (a.put o.dst u) w) : wpList P ops Q (o :: rest) a w := by
  refine wpList_plain hgd fun K' hK => ?_
  obtain ⟨A, c, hv, h1, h2, h3⟩ := id hr
  have hte : P.underlying t = some (.slice (P.elem t)) := by rw [elem_of ht]; exact ht
  obtain ⟨m, hm1, hm2, hm3⟩ := hrun A c h1 hte
  have hs : (sizeOf (P.elem t)).run P w = .ok 1 w := by rw [elem_of ht]; exact size_one hinf
  rw [hs] at hm3
  have hsl : (Instr.sliceAt t (a.eval x) (lo.map a.eval) (hi.map a.eval) (mx.map a.eval)).run P w = .ok (sliced A l h m 1) w := by
    rw [run_sliceAt_slice _ _ _ _ _ _ hte, hv]
    exact hm3
  rw [hv] at hr
  unfold Oper.wp
  simp only [execOp, ho]
  simp [hsl, Result.andThen]
  exact hK _ _ (K _ (hr.sliced l h m hl hh hm1 hm2))
theorem wpList_cut_l {ops : Array Oper} {rest : List Oper} {o : Oper} {a : Act} {Q : Exit → Act → World → Prop} (hgd : o.guard = none) (x lo : Operand) (t : TypeId) (ho : o.op = Op.slice t x (some lo) none none)
    (e : TypeId) (z : Value) (bytes : Nat) (ht : P.underlying t = some (.slice e)) (hinf : (P.info? e).map (fun i => (i.zero, i.size, i.bytes)) = some (some z, 1, bytes)) (hr : RdV w B (a.eval x) xs)
    (kl : IntKind) (L : Int) (l : Nat) (hlo : a.eval lo = .int kl L) (hL : L = l) (hl : l ≤ xs.length)
    (K : ∀ u, RdV w B u (xs.drop l) → wpList P ops Q rest (a.put o.dst u) w) : wpList P ops Q (o :: rest) a w := by
  subst hL
  refine wpList_cut hgd x t _ _ _ ho e z bytes ht hinf hr l xs.length hl (Nat.le_refl _) (fun A c hc hte => ⟨c, hc, Nat.le_refl _, ?_⟩) (fun u hu => K u ?_)
  · have := run_slice_l w t A xs.length c hte kl (l : Int) (by omega) (by omega)
    simpa [hlo] using this
  · rwa [List.take_of_length_le (by rw [List.length_drop]; omega)] at hu
theorem wpList_cut_h {ops : Array Oper} {rest : List Oper} {o : Oper} {a : Act} {Q : Exit → Act → World → Prop} (hgd : o.guard = none) (x hi : Operand) (t : TypeId) (ho : o.op = Op.slice t x none (some hi) none)
    (e : TypeId) (z : Value) (bytes : Nat) (ht : P.underlying t = some (.slice e)) (hinf : (P.info? e).map (fun i => (i.zero, i.size, i.bytes)) = some (some z, 1, bytes)) (hr : RdV w B (a.eval x) xs)
    (kl : IntKind) (L : Int) (l : Nat) (hlo : a.eval hi = .int kl L) (hL : L = l) (hl : l ≤ xs.length)
    (K : ∀ u, RdV w B u (xs.take l) → wpList P ops Q rest (a.put o.dst u) w) : wpList P ops Q (o :: rest) a w := by
  subst hL
  refine wpList_cut hgd x t _ _ _ ho e z bytes ht hinf hr 0 l (Nat.zero_le _) hl (fun A c hc hte => ⟨c, by omega, Nat.le_refl _, ?_⟩) (fun u hu => K u ?_)
  · have := run_slice_h w t A xs.length c hte kl (l : Int) (by omega) (by omega)
    simpa [hlo] using this
  · simpa using hu
theorem wpList_cut_hm {ops : Array Oper} {rest : List Oper} {o : Oper} {a : Act} {Q : Exit → Act → World → Prop} (hgd : o.guard = none) (x hi mx : Operand) (t : TypeId) (ho : o.op = Op.slice t x none (some hi) (some mx))
    (e : TypeId) (z : Value) (bytes : Nat) (ht : P.underlying t = some (.slice e)) (hinf : (P.info? e).map (fun i => (i.zero, i.size, i.bytes)) = some (some z, 1, bytes)) (hr : RdV w B (a.eval x) xs)
    (kl kl' : IntKind) (L L' : Int) (l : Nat) (hlo : a.eval hi = .int kl L) (hmo : a.eval mx = .int kl' L') (hL : L = l) (hL' : L' = l) (hl : l ≤ xs.length)
    (K : ∀ u, RdV w B u (xs.take l) → wpList P ops Q rest (a.put o.dst u) w) : wpList P ops Q (o :: rest) a w := by
  subst hL hL'
  refine wpList_cut hgd x t _ _ _ ho e z bytes ht hinf hr 0 l (Nat.zero_le _) hl (fun A c hc hte => ⟨l, Nat.le_refl _, by omega, ?_⟩) (fun u hu => K u ?_)
  · have := run_slice_hm w t A xs.length c hte kl kl' (l : Int) (l : Int) (by omega) (by omega) (by omega)
    simpa [hlo, hmo] using this
  · simpa using hu
theorem wpList_cut_lhm {ops : Array Oper} {rest : List Oper} {o : Oper} {a : Act} {Q : Exit → Act → World → Prop} (hgd : o.guard = none) (x lo hi mx : Operand) (t : TypeId) (ho : o.op = Op.slice t x (some lo) (some hi) (some mx))
    (e : TypeId) (z : Value) (bytes : Nat) (ht : P.underlying t = some (.slice e)) (hinf : (P.info? e).map (fun i => (i.zero, i.size, i.bytes)) = some (some z, 1, bytes)) (hr : RdV w B (a.eval x) xs)
    (k0 k1 k2 : IntKind) (L H M : Int) (l h : Nat) (hlo : a.eval lo = .int k0 L) (hhi : a.eval hi = .int k1 H) (hmo : a.eval mx = .int k2 M) (hL : L = l) (hH : H = h) (hM : M = h) (hl : l ≤ h) (hh : h ≤ xs.length)
    (K : ∀ u, RdV w B u ((xs.drop l).take (h - l)) → wpList P ops Q rest (a.put o.dst u) w) : wpList P ops Q (o :: rest) a w := by
  subst hL hH hM
  refine wpList_cut hgd x t _ _ _ ho e z bytes ht hinf hr l h hl hh (fun A c hc hte => ⟨h, Nat.le_refl _, by omega, ?_⟩) K
  have := run_slice_lhm w t A xs.length c hte k0 k1 k2 (l : Int) (h : Int) (h : Int) (by omega) (by omega) (by omega) (by omega)
  simpa [hlo, hhi, hmo] using this
theorem wpList_cut_lh {ops : Array Oper} {rest : List Oper} {o : Oper} {a : Act} {Q : Exit → Act → World → Prop} (hgd : o.guard = none) (x lo hi : Operand) (t : TypeId) (ho : o.op = Op.slice t x (some lo) (some hi) none)
    (e : TypeId) (z : Value) (bytes : Nat) (ht : P.underlying t = some (.slice e)) (hinf : (P.info? e).map (fun i => (i.zero, i.size, i.bytes)) = some (some z, 1, bytes)) (hr : RdV w B (a.eval x) xs)
    (k0 k1 : IntKind) (L H : Int) (l h : Nat) (hlo : a.eval lo = .int k0 L) (hhi : a.eval hi = .int k1 H) (hL : L = l) (hH : H = h) (hl : l ≤ h) (hh : h ≤ xs.length)
    (K : ∀ u, RdV w B u ((xs.drop l).take (h - l)) → wpList P ops Q rest (a.put o.dst u) w) : wpList P ops Q (o :: rest) a w := by
  subst hL hH
  refine wpList_cut hgd x t _ _ _ ho e z bytes ht hinf hr l h hl hh (fun A c hc hte => ⟨c, by omega, Nat.le_refl _, ?_⟩) K
  have := run_slice_lh w t A xs.length c hte k0 k1 (l : Int) (h : Int) (by omega) (by omega) (by omega)
  simpa [hlo, hhi] using this
end
end Go.Proofs.Ytldmamcalfmedaa
