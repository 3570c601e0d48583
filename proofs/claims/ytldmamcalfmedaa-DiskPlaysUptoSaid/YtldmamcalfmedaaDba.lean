/- Both disks: a pending write turned; what a burst leaves. Conditions: none of its own. -/
import Derived.Test.YtldmamcalfmedaaDrn
import Derived.Test.YtldmamcalfmedaaBur
namespace Go.Proofs.Ytldmamcalfmedaa
open Go.ChangeShapes Go.WideShapes Go.ChangeAt Go.RowKit Go.Maps
set_option linter.unusedSimpArgs false
set_option linter.unusedVariables false
theorem talG_firsts : ∀ (l l' : List (Nat × List UInt8)) (i : Nat) (f : Int → Tal), l.map (·.1) = l'.map (·.1) → talG l i f = talG l' i f
  | [], [], _, _, _ => rfl
  | [], _ :: _, _, _, h => by simp at h
  | _ :: _, [], _, _, h => by simp at h
  | p :: r, p' :: r', i, f, h => by
    simp only [List.map_cons, List.cons.injEq] at h
    show talG r (i + 1) (put f (p.1 : Nat) ⟨(f (p.1 : Nat)).cnt + 1, (i : Nat)⟩) = talG r' (i + 1) (put f (p'.1 : Nat) ⟨(f (p'.1 : Nat)).cnt + 1, (i : Nat)⟩)
    rw [h.1]
    exact talG_firsts r r' (i + 1) _ h.2
theorem firsts_set (l : List (Nat × List UInt8)) (k : Nat) (q q' : Nat × List UInt8) (hk : l[k]? = some q) (h : q'.1 = q.1) : (l.set k q').map (·.1) = l.map (·.1) := by
  apply List.ext_getElem?
  intro j
  simp only [List.getElem?_map, List.getElem?_set]
  by_cases hj : k = j
  · subst hj
    have hl := (List.getElem?_eq_some_iff.1 hk).1
    rw [if_pos rfl, if_pos hl, hk]
    simp [h]
  · rw [if_neg hj]
theorem DBox.repend {w w2 : World} {db kb mb pb mm k : Nat} {d : Dk} {q q' : Nat × List UInt8} {v' : Value} (h : DBox w db kb mb pb mm d) (hk : d.pend[k]? = some q) (hq : q'.1 = q.1) (hl : q'.2.length = d.size) (hF : Frm (fun _ => False) w w2)
    (hv : RdX (OwnX d.away db kb mb pb) w2 v' (bv q'.2)) : DBox (w2.setCell ⟨pb, k * 2 + 1, none⟩ v') db kb mb pb mm { d with pend := d.pend.set k q' } ∧ Frm (fun j => j = pb) w2 (w2.setCell ⟨pb, k * 2 + 1, none⟩ v') ∧ w2.frozen? ⟨pb, k * 2 + 1, none⟩ = false ∧ ∃ u, w2.cell? ⟨pb, k * 2 + 1, none⟩ = some u := by
  have hF4 : Frm (fun j => j = pb) w2 (w2.setCell ⟨pb, k * 2 + 1, none⟩ v') := (Frm.refl (fun j => j = pb) w2).setCell pb (k * 2 + 1) (Or.inl rfl) v'
  have hkl := (List.getElem?_eq_some_iff.1 hk).1
  have h2 := h.next hF
  obtain ⟨keepV, pv, kc, h1, h2k, h3, h4, h5⟩ := h2.cells
  obtain ⟨n1, n2, n3, n4⟩ := h2.ne
  have hne : d.pend ≠ [] := fun e => by rw [e] at hkl; simp at hkl
  obtain ⟨m1, m2, m3⟩ := n4 hne
  obtain ⟨xs, a1, a2, a3⟩ := h4
  obtain ⟨g, cap, rfl⟩ := own_form2 a1 (by omega)
  obtain rfl : g = pb := a2 g rfl
  have hxl := a1.1
  have hst := (a1.stored (k * 2 + 1) v').1
  have hM : ∀ j, j = g → OwnX d.away db kb mb g j := fun j hj => Or.inl (Or.inr (Or.inr (Or.inr hj)))
  refine ⟨⟨⟨keepV, .slice (some ⟨g, 0, none⟩) d.pend.length cap, kc, (hF4.block db h2.lt.1 (fun e => m1 e.symm)).trans h1, h2k.frm hF4 hM, own_keep h3 (fun g' hg => by injection hg with hg; subst hg; exact hF4.block _ h2.lt.2.1 (fun e => m2 e.symm)), ?_, fun e => ?_⟩, ?_, ⟨n1, n2, n3, fun _ => ⟨m1, m2, m3⟩⟩, ⟨h2.ok.n, h2.ok.size, h2.ok.kept, ?_⟩, Nat.lt_of_lt_of_le h2.small hF4.size, fun j hj => Nat.lt_of_lt_of_le (h2.away j hj) hF4.size⟩, hF4, a1.frozenAt _, xs[k * 2 + 1]'(by omega), ?_⟩
  · refine ⟨xs.set (k * 2 + 1) v', by rw [List.length_set]; exact hst, a2, fun i p hi => ?_⟩
    rw [List.getElem?_set] at hi
    by_cases hik : k = i
    · subst hik
      rw [if_pos rfl, if_pos hkl] at hi
      injection hi with hi
      subst hi
      obtain ⟨e1, _⟩ := a3 k q hk
      refine ⟨?_, v', ?_, hv.frm hF4 hM⟩
      · rw [List.getElem?_set, if_neg (by omega), e1, hq]
      · rw [List.getElem?_set, if_pos (by omega), if_pos (by omega)]
    · rw [if_neg hik] at hi
      obtain ⟨e1, v, e2, e3⟩ := a3 i p hi
      exact ⟨by rw [List.getElem?_set, if_neg (by omega)]; exact e1, v, by rw [List.getElem?_set, if_neg (by omega)]; exact e2, e3.frm hF4 hM⟩
  · exfalso
    have : (d.pend.set k q').length = 0 := by rw [show d.pend.set k q' = [] from e]; rfl
    rw [List.length_set] at this
    omega
  · have : talF (d.pend.set k q') = talF d.pend := talG_firsts _ _ _ _ (firsts_set d.pend k q q' hk hq)
    show MBox _ mb mm (talF (d.pend.set k q'))
    rw [this]
    exact h2.map.keep (hF4.block mb h2.lt.2.2 (fun e => m3 e.symm))
  · intro p hp
    rcases List.mem_or_eq_of_mem_set hp with h6 | h6
    · exact h2.ok.pend p h6
    · subst h6
      exact ⟨by rw [hq]; exact (h2.ok.pend q (List.mem_of_getElem? hk)).1, hl⟩
  · rw [a1.cellAt (k * 2 + 1) (by omega)]
    exact List.getElem?_eq_getElem _
theorem RBox.repend {w w2 : World} {rb rk rl k : Nat} {d : Dk} {q q' : Nat × List UInt8} {v' : Value} (h : RBox w rb rk rl d) (hk : d.pend[k]? = some q) (hq : q'.1 = q.1) (hl : q'.2.length = d.size) (hF : Frm (fun _ => False) w w2)
    (hv : RdX (Own3X d.away rb rk rl) w2 v' (bv q'.2)) : RBox (w2.setCell ⟨rl, k * 2 + 1, none⟩ v') rb rk rl { d with pend := d.pend.set k q' } ∧ Frm (fun j => j = rl) w2 (w2.setCell ⟨rl, k * 2 + 1, none⟩ v') ∧ w2.frozen? ⟨rl, k * 2 + 1, none⟩ = false ∧ ∃ u, w2.cell? ⟨rl, k * 2 + 1, none⟩ = some u := by
  have hF4 : Frm (fun j => j = rl) w2 (w2.setCell ⟨rl, k * 2 + 1, none⟩ v') := (Frm.refl (fun j => j = rl) w2).setCell rl (k * 2 + 1) (Or.inl rfl) v'
  have hkl := (List.getElem?_eq_some_iff.1 hk).1
  have h2 := h.next hF
  obtain ⟨keepV, pv, kc, h1, h2k, h3, h4, h5⟩ := h2.cells
  obtain ⟨n1, n4⟩ := h2.ne
  have hne : d.pend ≠ [] := fun e => by rw [e] at hkl; simp at hkl
  obtain ⟨m1, m2⟩ := n4 hne
  obtain ⟨xs, a1, a2, a3⟩ := h4
  obtain ⟨g, cap, rfl⟩ := own_form2 a1 (by omega)
  obtain rfl : g = rl := a2 g rfl
  have hxl := a1.1
  have hst := (a1.stored (k * 2 + 1) v').1
  have hM : ∀ j, j = g → Own3X d.away rb rk g j := fun j hj => Or.inl (Or.inr (Or.inr hj))
  refine ⟨⟨⟨keepV, .slice (some ⟨g, 0, none⟩) d.pend.length cap, kc, (hF4.block rb h2.lt.1 (fun e => m1 e.symm)).trans h1, h2k.frm hF4 hM, own_keep h3 (fun g' hg => by injection hg with hg; subst hg; exact hF4.block _ h2.lt.2 (fun e => m2 e.symm)), ?_, fun e => ?_⟩, ⟨n1, fun _ => ⟨m1, m2⟩⟩, ⟨h2.ok.n, h2.ok.size, h2.ok.kept, ?_⟩, Nat.lt_of_lt_of_le h2.small hF4.size, fun j hj => Nat.lt_of_lt_of_le (h2.away j hj) hF4.size⟩, hF4, a1.frozenAt _, xs[k * 2 + 1]'(by omega), ?_⟩
  · refine ⟨xs.set (k * 2 + 1) v', by rw [List.length_set]; exact hst, a2, fun i p hi => ?_⟩
    rw [List.getElem?_set] at hi
    by_cases hik : k = i
    · subst hik
      rw [if_pos rfl, if_pos hkl] at hi
      injection hi with hi
      subst hi
      obtain ⟨e1, _⟩ := a3 k q hk
      refine ⟨?_, v', ?_, hv.frm hF4 hM⟩
      · rw [List.getElem?_set, if_neg (by omega), e1, hq]
      · rw [List.getElem?_set, if_pos (by omega), if_pos (by omega)]
    · rw [if_neg hik] at hi
      obtain ⟨e1, v, e2, e3⟩ := a3 i p hi
      exact ⟨by rw [List.getElem?_set, if_neg (by omega)]; exact e1, v, by rw [List.getElem?_set, if_neg (by omega)]; exact e2, e3.frm hF4 hM⟩
  · exfalso
    have : (d.pend.set k q').length = 0 := by rw [show d.pend.set k q' = [] from e]; rfl
    rw [List.length_set] at this
    omega
  · intro p hp
    rcases List.mem_or_eq_of_mem_set hp with h6 | h6
    · exact h2.ok.pend p h6
    · subst h6
      exact ⟨by rw [hq]; exact (h2.ok.pend q (List.mem_of_getElem? hk)).1, hl⟩
  · rw [a1.cellAt (k * 2 + 1) (by omega)]
    exact List.getElem?_eq_getElem _
def burP (s : Nat) (bit : Int) (p : Nat) (q : Nat × List UInt8) : Nat × List UInt8 := if q.1 = s then (q.1, burst q.2 bit p) else q
def pendK (l : List (Nat × List UInt8)) (s : Nat) (bit : Int) (p k : Nat) : List (Nat × List UInt8) := (l.take k).map (burP s bit p) ++ l.drop k
theorem pendK_zero (l : List (Nat × List UInt8)) (s : Nat) (bit : Int) (p : Nat) : pendK l s bit p 0 = l := by simp [pendK]
theorem pendK_all (l : List (Nat × List UInt8)) (s : Nat) (bit : Int) (p : Nat) : pendK l s bit p l.length = l.map (burP s bit p) := by simp [pendK]
theorem pendK_length (l : List (Nat × List UInt8)) (s : Nat) (bit : Int) (p k : Nat) : (pendK l s bit p k).length = l.length := by simp [pendK]; omega
theorem pendK_get (l : List (Nat × List UInt8)) (s : Nat) (bit : Int) (p k j : Nat) : (pendK l s bit p k)[j]? = if j < k then l[j]?.map (burP s bit p) else l[j]? := by
  unfold pendK
  rcases Nat.lt_or_ge j (min k l.length) with h | h
  · rw [List.getElem?_append_left (by simpa using h), List.getElem?_map, List.getElem?_take, if_pos (by omega), if_pos (by omega)]
  · rw [List.getElem?_append_right (by simpa using h), List.getElem?_drop, List.length_map, List.length_take]
    by_cases hk : k ≤ l.length
    · rw [Nat.min_eq_left hk] at h ⊢
      rw [if_neg (by omega), show k + (j - k) = j from by omega]
    · rw [Nat.min_eq_right (by omega)] at h ⊢
      rw [List.getElem?_eq_none (by omega), List.getElem?_eq_none h]
      simp
theorem pendK_next (l : List (Nat × List UInt8)) (s : Nat) (bit : Int) (p k : Nat) (hk : k < l.length) : pendK l s bit p (k + 1) = (pendK l s bit p k).set k (burP s bit p l[k]) := by
  apply List.ext_getElem?
  intro j
  rw [List.getElem?_set, pendK_get, pendK_get, pendK_length]
  by_cases hj : k = j
  · subst hj
    rw [if_pos (by omega), if_pos rfl, if_pos hk, List.getElem?_eq_getElem hk]
    rfl
  · rw [if_neg hj]
    have : (j < k + 1) ↔ (j < k) := by omega
    simp only [this]
theorem pendK_keep (l : List (Nat × List UInt8)) (s : Nat) (bit : Int) (p k : Nat) (hk : k < l.length) (h : l[k].1 ≠ s) : pendK l s bit p (k + 1) = pendK l s bit p k := by
  rw [pendK_next l s bit p k hk]
  apply List.ext_getElem?
  intro j
  rw [List.getElem?_set]
  by_cases hj : k = j
  · subst hj
    rw [if_pos rfl, pendK_length, if_pos hk, pendK_get, if_neg (by omega), List.getElem?_eq_getElem hk]
    unfold burP
    rw [if_neg h]
  · rw [if_neg hj]
/-- what a burst leaves of a disk -/
def burstD (d : Dk) (s : Nat) (bit : Int) (p : Nat) : Dk := { d with kept := layP d.size d.kept (s, burst (slS d.size d.kept s) bit p), pend := d.pend.map (burP s bit p) }
section
variable {P : Program} {w : World}
theorem wpList_copy_mid {ops : Array Oper} {rest : List Oper} {o : Oper} {a : Act} {Q : Exit → Act → World → Prop} (hgd : o.guard = none) (d s : Operand) (t t' : TypeId)
    (ho : o.op = .call { callee := .builtin .copy, args := #[d, s], argTypes := #[t, t'] })
    (base : Nat) (e : TypeId) (z : Value) (bytes : Nat) (ht : P.underlying t = some (.slice e)) (hi : (P.info? e).map (fun i => (i.zero, i.size, i.bytes)) = some (some z, 1, bytes)) (hz1 : z.cells.size = 1)
    (g off n c m dc : Nat) (xs : List Value) (hd : a.eval d = .slice (some ⟨g, off, none⟩) m dc) (hown : w.ownsRow base e 1 (.slice (some ⟨g, 0, none⟩) n c) n xs) (v : Value) (hs : a.eval s = v) (B : Nat) (ys : List Value) (hr : RdV w B v ys) (hm : ys.length = m) (hpos : 0 < m) (hoff : off + m ≤ n) (h1 : ∀ u ∈ ys, u.oneCell' = true)
    (h : ∀ w', w'.ownsRow base e 1 (.slice (some ⟨g, 0, none⟩) n c) n (xs.take off ++ ys ++ xs.drop (off + m)) → w.grownBy w' (some g) → wpList P ops Q rest (a.put o.dst (goInt m)) w') : wpList P ops Q (o :: rest) a w := by
  refine wpList_plain hgd fun K hK => ?_
  obtain ⟨w', hrun, h2, h3⟩ := run_copy_mid (P := P) (w := w) base t t' o.type e z bytes ht hi hz1 g off n c m dc xs hown v B ys hr hm hpos hoff h1
  unfold Oper.wp execOp
  simp only [ho, resolve, invoke, builtin, Sem.run_bind, Sem.run_pure, Result.andThen_ok, List.map_toArray, List.map_cons, List.map_nil, hd, hs, hrun]
  exact hK _ _ (h w' h2 h3)
end
end Go.Proofs.Ytldmamcalfmedaa
