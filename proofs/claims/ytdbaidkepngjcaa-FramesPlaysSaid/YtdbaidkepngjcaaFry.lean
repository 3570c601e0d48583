/- Both pools of frames, side by side: Take, and what can be seen. Conditions: none. -/
import Derived.Test.YtdbaidkepngjcaaFrx
namespace Go.Proofs.Ytdbaidkepngjcaa
open Go.ChangeShapes Go.WideShapes Go.ChangeAt Go.RowKit Go.Maps
set_option linter.unusedSimpArgs false
set_option linter.unusedVariables false
theorem first_of (P : Nat → Prop) : ∀ (k : Nat), (∃ q, q < k ∧ P q) → ∃ z, z < k ∧ P z ∧ ∀ r, r < z → ¬ P r
  | 0, ⟨q, h, _⟩ => by omega
  | k + 1, ⟨q, h1, h2⟩ => by
    by_cases h : ∃ q, q < k ∧ P q
    · obtain ⟨z, z1, z2, z3⟩ := first_of P k h
      exact ⟨z, by omega, z2, z3⟩
    · exact ⟨q, h1, h2, fun r hr hp => h ⟨r, by omega, hp⟩⟩
section
variable {pb lb mb qb rb c n q : Nat} {w : World} (hA : Apt pb lb mb qb rb) (h : FI pb lb mb qb rb c n q w)
theorem ftake (hA : Apt pb lb mb qb rb) (h : FI pb lb mb qb rb c n q w) (hq : q < 1000000) (k : Int) (hk : (Lit.int .i64 k).wf = true) : ∃ (f : Int) (x : Fr) (g : Bool) (cd : Int), PairU (.tuple #[.int .i64 f, frV x, .bool g, .int .i64 cd]) pb lb mb qb rb c n (q + 1) 12 21 #[.pointer (some ⟨pb, 0, none⟩), .int .i64 k] #[.pointer (some ⟨qb, 0, none⟩), .int .i64 k] w := by
  obtain ⟨m, p, h1, h2, h3, h4⟩ := h
  obtain ⟨W, hM, hW⟩ := h2.map
  have hhd := h2.ok.hand
  have hnn := h2.ok.n
  cases hi : W k with
  | some i =>
    obtain ⟨x, hx, hxu, hxk⟩ := (hW k i).1 hi
    refine ⟨0, Fr.zero, false, 3, PairU.mk' (m' := m) (p' := p) hA h3 (by omega) h4 ((take_used pb lb mb m p w h2 W hM k hk i hi).mono ?_) fun w1 hQ => (rtake_any qb rb c p.hand p.L w1 hQ k hk).mono ?_⟩
    · rintro e w' ⟨e1, e2⟩; exact ⟨e1, h2.next e2, e2.mono fun j _ e => e.elim⟩
    · rintro e w' ⟨⟨i', x', _, _, _, e1, hQ'⟩ | ⟨hno, _⟩ | ⟨hno, _⟩ | ⟨hno, _⟩, hF⟩
      · exact ⟨e1, hQ', hF⟩
      all_goals exact absurd hxk (hno x (List.mem_of_getElem? hx) hxu)
  | none =>
    have hno : ∀ (j : Nat) (x : Fr), p.L[j]? = some x → x.used = true → x.key ≠ k := fun j x hx hu e => by
      have := (hW k j).2 ⟨x, hx, hu, e⟩
      rw [hi] at this; cases this
    by_cases hu : usedN p.L = p.L.length
    · have hall : ∀ x ∈ p.L, x.used = true := fun x hx => by
        obtain ⟨j, hj, rfl⟩ := List.getElem_of_mem hx
        exact usedN_all hu j hj
      by_cases hc : ∃ z, z < 2 * p.L.length ∧ cand p z = true
      · obtain ⟨z, hz, hzc, hzn⟩ := first_cand _ hc
        have hjl : (p.hand + z) % p.L.length < p.L.length := Nat.mod_lt _ (by omega)
        refine ⟨(((p.hand + z) % p.L.length : Nat) : Int), clr p.L[(p.hand + z) % p.L.length], true, 0, PairU.mk' (m' := m + 1) (p' := { p with L := (passL p.L p.hand (z + 1)).set ((p.hand + z) % p.L.length) ⟨k, true, true, false, 0⟩, hand := (p.hand + z + 1) % p.L.length }) hA h3 (by omega) (by show ((passL p.L p.hand (z + 1)).set _ _).length = n; rw [List.length_set, passL_length]; exact h4) ((take_all pb lb mb m (by omega) p w h2 W hM hW k hk hi hu).mono ?_) fun w1 hQ => (rtake_any qb rb c p.hand p.L w1 hQ k hk).mono ?_⟩
        · rintro e w' ⟨⟨q', x', hq', hc', hn', hx', e1, hP'⟩ | ⟨hall', _⟩, hF⟩
          · obtain rfl := cand_first hc' hn' hzc hzn
            rw [List.getElem?_eq_getElem hjl] at hx'
            injection hx' with hx'
            rw [hx']
            exact ⟨e1, hP', hF⟩
          · rw [hall' z hz] at hzc; cases hzc
        · rintro e w' ⟨⟨i', x', hx', hu', hk', _⟩ | ⟨_, i', x', hx', hu', _⟩ | ⟨_, _, q', x', hq', hc', hn', hx', e1, hQ'⟩ | ⟨_, _, hall', _⟩, hF⟩
          · exact absurd hk' (hno i' x' hx' hu')
          · rw [hall x' (List.mem_of_getElem? hx')] at hu'; cases hu'
          · obtain rfl := cand_first (p := p) hc' hn' hzc hzn
            rw [List.getElem?_eq_getElem hjl] at hx'
            injection hx' with hx'
            rw [hx']
            exact ⟨e1, hQ', hF⟩
          · have : cand p z = false := hall' z
            rw [this] at hzc; cases hzc
      · have hcn : ∀ z, z < 2 * p.L.length → cand p z = false := fun z hz => by
          cases hcz : cand p z with
          | false => rfl
          | true => exact absurd ⟨z, hz, hcz⟩ hc
        refine ⟨0, Fr.zero, false, 10, PairU.mk' (m' := m) (p' := p) hA h3 (by omega) h4 ((take_all pb lb mb m (by omega) p w h2 W hM hW k hk hi hu).mono ?_) fun w1 hQ => (rtake_any qb rb c p.hand p.L w1 hQ k hk).mono ?_⟩
        · rintro e w' ⟨⟨q', x', hq', hc', _⟩ | ⟨_, e1, hP'⟩, hF⟩
          · rw [hcn q' hq'] at hc'; cases hc'
          · exact ⟨e1, hP', hF⟩
        · rintro e w' ⟨⟨i', x', hx', hu', hk', _⟩ | ⟨_, i', x', hx', hu', _⟩ | ⟨_, _, q', x', hq', hc', hn', hx', e1, hQ'⟩ | ⟨_, _, _, e1, hQ'⟩, hF⟩
          · exact absurd hk' (hno i' x' hx' hu')
          · rw [hall x' (List.mem_of_getElem? hx')] at hu'; cases hu'
          · have : cand p q' = true := hc'
            rw [hcn q' hq'] at this; cases this
          · exact ⟨e1, hQ', hF⟩
    · obtain ⟨j0, hj0, hj0u⟩ := usedN_some hu
      obtain ⟨i, hiL, ⟨hi1, hi2⟩, hmin⟩ := first_of (fun j => ∃ hj : j < p.L.length, p.L[j].used = false) p.L.length ⟨j0, hj0, hj0, hj0u⟩
      have least : ∀ i', (∃ x, p.L[i']? = some x ∧ x.used = false) → (∀ a, a < i' → ∃ y, p.L[a]? = some y ∧ y.used = true) → i' = i := by
        rintro i' ⟨x, hx, hxu⟩ hbel
        have hl' := (List.getElem?_eq_some_iff.1 hx).1
        have hg' := (List.getElem?_eq_some_iff.1 hx).2
        rcases Nat.lt_trichotomy i' i with h | h | h
        · exact absurd ⟨hl', by rw [hg']; exact hxu⟩ (hmin i' h)
        · exact h
        · obtain ⟨y, hy, hyu⟩ := hbel i h
          rw [List.getElem?_eq_getElem hi1] at hy
          injection hy with hy
          rw [hy, hyu] at hi2; cases hi2
      refine ⟨(i : Nat), Fr.zero, false, 0, PairU.mk' (m' := m + 1) (p' := { p with L := p.L.set i ⟨k, true, true, false, 0⟩, low := i }) hA h3 (by omega) (by show (p.L.set i _).length = n; rw [List.length_set]; exact h4) ((take_new pb lb mb m (by omega) p w h2 W hM hW k hk hi hu).mono ?_) fun w1 hQ => (rtake_any qb rb c p.hand p.L w1 hQ k hk).mono ?_⟩
      · rintro e w' ⟨i', e1, hx', hP', hF⟩
        obtain rfl := least i' hx' fun a ha => by
          obtain ⟨y, hy, hyu⟩ := hP'.ok.low.2 a ha
          have hy : (p.L.set i' _)[a]? = some y := hy
          rw [List.getElem?_set, if_neg (by omega)] at hy
          exact ⟨y, hy, hyu⟩
        exact ⟨e1, hP', hF⟩
      · rintro e w' ⟨⟨i', x', hx', hu', hk', _⟩ | ⟨_, i', x', hx', hu', hbel, e1, hQ'⟩ | ⟨_, hall, _⟩ | ⟨_, hall, _⟩, hF⟩
        · exact absurd hk' (hno i' x' hx' hu')
        · obtain rfl := least i' ⟨x', hx', hu'⟩ hbel
          exact ⟨e1, hQ', hF⟩
        all_goals
          exfalso
          have := hall _ (List.getElem_mem hi1)
          rw [hi2] at this; cases this
include h
theorem fat (a : Int) (ha : (Lit.int .i64 a).wf = true) : ∃ (x : Fr) (cd : Int), (∀ w1, Frm (fun _ => False) w w1 → Calls Try.prog 13 #[.pointer (some ⟨pb, 0, none⟩), .int .i64 a] w1 fun e w' => e = .returned (.tuple #[frV x, .int .i64 cd]) ∧ Frm (fun _ => False) w1 w') ∧
    (∀ w1, Frm (fun _ => False) w w1 → Calls Try.prog 29 #[.pointer (some ⟨qb, 0, none⟩), .int .i64 a] w1 fun e w' => e = .returned (.tuple #[frV x, .int .i64 cd]) ∧ Frm (fun _ => False) w1 w') := by
  obtain ⟨m, p, h1, h2, h3, h4⟩ := h
  by_cases hr : 0 ≤ a ∧ a < p.L.length
  · obtain ⟨i, rfl⟩ : ∃ i : Nat, a = i := ⟨a.toNat, by omega⟩
    have hi : i < p.L.length := by omega
    exact ⟨p.L[i], 0, fun w1 hF => at_yes pb lb mb m p w1 (h2.next hF) i hi, fun w1 hF => rat_yes qb rb c p.hand p.L w1 (h3.next hF) i hi⟩
  · exact ⟨Fr.zero, 2, fun w1 hF => at_no pb lb mb m p w1 (h2.next hF) a ha (by omega), fun w1 hF => rat_no qb rb c p.hand p.L w1 (h3.next hF) a ha (by omega)⟩
theorem ffind (k : Int) (hk : (Lit.int .i64 k).wf = true) : ∃ (i : Int) (b : Bool), (∀ w1, Frm (fun _ => False) w w1 → Calls Try.prog 19 #[.pointer (some ⟨pb, 0, none⟩), .int .i64 k] w1 fun e w' => e = .returned (.tuple #[.int .i64 i, .bool b]) ∧ w' = w1) ∧
    (∀ w1, Frm (fun _ => False) w w1 → Calls Try.prog 30 #[.pointer (some ⟨qb, 0, none⟩), .int .i64 k] w1 fun e w' => e = .returned (.tuple #[.int .i64 i, .bool b]) ∧ w' = w1) := by
  obtain ⟨m, p, h1, h2, h3, h4⟩ := h
  obtain ⟨W, hM, hW⟩ := h2.map
  refine ⟨(((W k).getD 0 : Nat) : Int), (W k).isSome, fun w1 hF => find_any pb lb mb m p w1 (h2.next hF) W _ (hM.keep (hF.block mb h2.lt.2.2 id)) k hk, fun w1 hF => (rfind_any qb rb c p.hand p.L w1 (h3.next hF) k).mono ?_⟩
  rintro e w' ⟨⟨i, x, hx, hu, hxk, rfl⟩ | ⟨hno, rfl⟩, rfl⟩
  · rw [(hW k i).2 ⟨x, hx, hu, hxk⟩]
    exact ⟨rfl, rfl⟩
  · have : W k = none := by
      cases hi : W k with
      | none => rfl
      | some j =>
        obtain ⟨x, hx, hu, e⟩ := (hW k j).1 hi
        exact absurd e (hno x (List.mem_of_getElem? hx) hu)
    rw [this]
    exact ⟨rfl, rfl⟩
theorem fcount : ∃ (u d k : Int), (∀ w1, Frm (fun _ => False) w w1 → Calls Try.prog 18 #[.pointer (some ⟨pb, 0, none⟩)] w1 fun e w' => e = .returned (.tuple #[.int .i64 u, .int .i64 d, .int .i64 k]) ∧ Frm (fun _ => False) w1 w') ∧
    (∀ w1, Frm (fun _ => False) w w1 → Calls Try.prog 31 #[.pointer (some ⟨qb, 0, none⟩)] w1 fun e w' => e = .returned (.tuple #[.int .i64 u, .int .i64 d, .int .i64 k]) ∧ w' = w1) := by
  obtain ⟨m, p, h1, h2, h3, h4⟩ := h
  exact ⟨_, _, _, fun w1 hF => count_any pb lb mb m p w1 (h2.next hF), fun w1 hF => rcount_any qb rb c p.hand p.L w1 (h3.next hF)⟩
theorem fvict : ∃ (i : Int) (b : Bool), (∀ w1, Frm (fun _ => False) w w1 → Calls Try.prog 32 #[.pointer (some ⟨pb, 0, none⟩)] w1 fun e w' => e = .returned (.tuple #[.int .i64 i, .bool b]) ∧ Frm (fun _ => False) w1 w') ∧
    (∀ w1, Frm (fun _ => False) w w1 → Calls Try.prog 33 #[.pointer (some ⟨qb, 0, none⟩)] w1 fun e w' => e = .returned (.tuple #[.int .i64 i, .bool b]) ∧ Frm (fun _ => False) w1 w') := by
  obtain ⟨m, p, h1, h2, h3, h4⟩ := h
  by_cases hc : ∃ z, z < 2 * p.L.length ∧ cand p z = true
  · obtain ⟨z, hz, hzc, hzn⟩ := first_cand _ hc
    refine ⟨(((p.hand + z) % p.L.length : Nat) : Int), true, fun w1 hF => (victim_any pb lb mb m p w1 (h2.next hF)).mono ?_, fun w1 hF => (rvict_any qb rb c p.hand p.L w1 (h3.next hF)).mono ?_⟩
    · rintro e w' ⟨⟨q', _, hc', hn', rfl⟩ | ⟨hall, _⟩, hF'⟩
      · obtain rfl := cand_first hc' hn' hzc hzn
        exact ⟨rfl, hF'⟩
      · rw [hall z hz] at hzc; cases hzc
    · rintro e w' ⟨⟨q', _, hc', hn', rfl⟩ | ⟨hall, _⟩, hF'⟩
      · obtain rfl := cand_first (p := p) hc' hn' hzc hzn
        exact ⟨rfl, hF'⟩
      · have : cand p z = false := hall z
        rw [this] at hzc; cases hzc
  · have hcn : ∀ z, z < 2 * p.L.length → cand p z = false := fun z hz => by
      cases hcz : cand p z with
      | false => rfl
      | true => exact absurd ⟨z, hz, hcz⟩ hc
    refine ⟨0, false, fun w1 hF => (victim_any pb lb mb m p w1 (h2.next hF)).mono ?_, fun w1 hF => (rvict_any qb rb c p.hand p.L w1 (h3.next hF)).mono ?_⟩
    · rintro e w' ⟨⟨q', hq', hc', hn', rfl⟩ | ⟨hall, rfl⟩, hF'⟩
      · rw [hcn q' hq'] at hc'; cases hc'
      · exact ⟨rfl, hF'⟩
    · rintro e w' ⟨⟨q', hq', hc', hn', rfl⟩ | ⟨hall, rfl⟩, hF'⟩
      · have : cand p q' = true := hc'
        rw [hcn q' hq'] at this; cases this
      · exact ⟨rfl, hF'⟩
theorem fhand : ∃ hd : Int, (∀ w1, Frm (fun _ => False) w w1 → Calls Try.prog 20 #[.pointer (some ⟨pb, 0, none⟩)] w1 fun e w' => e = .returned (.int .i64 hd) ∧ w' = w1) ∧ (∀ w1, Frm (fun _ => False) w w1 → w1.cell? ⟨qb, 1, none⟩ = some (.int .i64 hd)) := by
  obtain ⟨m, p, h1, h2, h3, h4⟩ := h
  exact ⟨_, fun w1 hF => hand_any pb lb mb m p w1 (h2.next hF), fun w1 hF => (h3.next hF).at.2.1⟩
end
set_option maxRecDepth 100000 in
set_option maxHeartbeats 2000000 in
/-- the law's own look at two frames -/
theorem same_any (x : Fr) (w : World) : Calls Try.prog 22 #[frV x, frV x] w fun e w' => e = .returned (.bool true) ∧ Frm (fun _ => False) w w' := by
  obtain ⟨xk, xu, xr, xd, xp⟩ := x
  unfold frV
  dsimp only
  have hs : (w.alloc (.cells #[.int .i64 xk, .bool xu, .bool xr, .bool xd, .int .i64 (xp : Nat)] 38)).heap.size = w.heap.size + 1 := by simp
  have hF1 : Frm (fun _ => False) w (w.alloc (.cells #[.int .i64 xk, .bool xu, .bool xr, .bool xd, .int .i64 (xp : Nat)] 38)) := (Frm.refl _ w).alloc _
  have hx1 := heap_alloc_new w (.cells #[.int .i64 xk, .bool xu, .bool xr, .bool xd, .int .i64 (xp : Nat)] 38)
  generalize hw1 : w.alloc (.cells #[.int .i64 xk, .bool xu, .bool xr, .bool xd, .int .i64 (xp : Nat)] 38) = w1 at *
  have hF2 : Frm (fun _ => False) w1 (w1.alloc (.cells #[.int .i64 xk, .bool xu, .bool xr, .bool xd, .int .i64 (xp : Nat)] 59)) := (Frm.refl _ w1).alloc _
  have hx2 := heap_alloc_new w1 (.cells #[.int .i64 xk, .bool xu, .bool xr, .bool xd, .int .i64 (xp : Nat)] 59)
  have hx1 := (hF2.block w.heap.size (by omega) id).trans hx1
  rw [hs] at hx2
  have HF := Lib.hid (hF1.trans hF2)
  have HW := Lib.hid hw1
  generalize hw2 : w1.alloc (.cells #[.int .i64 xk, .bool xu, .bool xr, .bool xd, .int .i64 (xp : Nat)] 59) = w2 at *
  have HW2 := Lib.hid hw2
  have y0 : w2.cell? ⟨w.heap.size, 0, none⟩ = some (.int .i64 xk) := cell_of_row w2 w.heap.size 0 _ _ _ hx1
  have y1 : w2.cell? ⟨w.heap.size, 1, none⟩ = some (.bool xu) := cell_of_row w2 w.heap.size 1 _ _ _ hx1
  have y2 : w2.cell? ⟨w.heap.size, 2, none⟩ = some (.bool xr) := cell_of_row w2 w.heap.size 2 _ _ _ hx1
  have y3 : w2.cell? ⟨w.heap.size, 3, none⟩ = some (.bool xd) := cell_of_row w2 w.heap.size 3 _ _ _ hx1
  have y4 : w2.cell? ⟨w.heap.size, 4, none⟩ = some (.int .i64 (xp : Nat)) := cell_of_row w2 w.heap.size 4 _ _ _ hx1
  have z0 : w2.cell? ⟨w.heap.size + 1, 0, none⟩ = some (.int .i64 xk) := cell_of_row w2 (w.heap.size + 1) 0 _ _ _ hx2
  have z1 : w2.cell? ⟨w.heap.size + 1, 1, none⟩ = some (.bool xu) := cell_of_row w2 (w.heap.size + 1) 1 _ _ _ hx2
  have z2 : w2.cell? ⟨w.heap.size + 1, 2, none⟩ = some (.bool xr) := cell_of_row w2 (w.heap.size + 1) 2 _ _ _ hx2
  have z3 : w2.cell? ⟨w.heap.size + 1, 3, none⟩ = some (.bool xd) := cell_of_row w2 (w.heap.size + 1) 3 _ _ _ hx2
  have z4 : w2.cell? ⟨w.heap.size + 1, 4, none⟩ = some (.int .i64 (xp : Nat)) := cell_of_row w2 (w.heap.size + 1) 4 _ _ _ hx2
  clear hF1 hF2 hx1 hx2 hw1 hw2 hs
  go_enter Try.func22, Try.ntmps22
  go_upto_region 1 with (fail)
  rw [HW.out, HW2.out]
  go_wp2
  go_ret
  exact ⟨rfl, HF.out⟩
end Go.Proofs.Ytdbaidkepngjcaa
