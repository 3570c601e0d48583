/- Both disks side by side; what a read of either tells. Conditions: none. -/
import Derived.Test.YtldmamcalfmedaaDrh
import Derived.Test.YtldmamcalfmedaaInm
namespace Go.Proofs.Ytldmamcalfmedaa
open Go.ChangeShapes Go.WideShapes Go.ChangeAt Go.RowKit Go.Maps
set_option linter.unusedSimpArgs false
set_option linter.unusedVariables false
/-- what has turned lies in none of its blocks, and in none that its rows lie in -/
theorem DBox.foreign {w w' : World} {O : Nat → Prop} {db kb mb pb mm : Nat} {d : Dk} (h : DBox w db kb mb pb mm d) (hf : Frm O w w') (hA : ∀ j, O j → d.away j) (hN : ∀ j, O j → ¬ Own db kb mb pb j) : DBox w' db kb mb pb mm d := by
  obtain ⟨keepV, pv, kc, h1, h2, h3, h4, h5⟩ := h.cells
  refine ⟨⟨keepV, pv, kc, (hf.block db h.lt.1 (fun x => hN _ x (Or.inl rfl))).trans h1, h2.frm hf (fun j hj => Or.inr (hA j hj)), own_keep h3 (fun g hg => by injection hg with hg; subst hg; exact hf.block _ h.lt.2.1 (fun x => hN _ x (Or.inr (Or.inl rfl)))), h4.frm hf (fun j hj => Or.inr (hA j hj)) (fun x => hN _ x (Or.inr (Or.inr (Or.inr rfl)))), h5⟩, h.map.keep (hf.block mb h.lt.2.2 (fun x => hN _ x (Or.inr (Or.inr (Or.inl rfl))))), h.ne, h.ok, Nat.lt_of_lt_of_le h.small hf.size, fun j hj => Nat.lt_of_lt_of_le (h.away j hj) hf.size⟩
theorem RBox.foreign {w w' : World} {O : Nat → Prop} {rb rk rl : Nat} {d : Dk} (h : RBox w rb rk rl d) (hf : Frm O w w') (hA : ∀ j, O j → d.away j) (hN : ∀ j, O j → ¬ Own3 rb rk rl j) : RBox w' rb rk rl d := by
  obtain ⟨keepV, lv, bc, h1, h2, h3, h4, h5⟩ := h.cells
  refine ⟨⟨keepV, lv, bc, (hf.block rb h.lt.1 (fun x => hN _ x (Or.inl rfl))).trans h1, h2.frm hf (fun j hj => Or.inr (hA j hj)), own_keep h3 (fun g hg => by injection hg with hg; subst hg; exact hf.block _ h.lt.2 (fun x => hN _ x (Or.inr (Or.inl rfl)))), h4.frm hf (fun j hj => Or.inr (hA j hj)) (fun x => hN _ x (Or.inr (Or.inr rfl))), h5⟩, h.ne, h.ok, Nat.lt_of_lt_of_le h.small hf.size, fun j hj => Nat.lt_of_lt_of_le (h.away j hj) hf.size⟩
/-- its rows keep away from other blocks: such as they kept away from, its own, or such as are made behind -/
theorem PRow.away {w w' : World} {M M' : Nat → Prop} {pb : Nat} {pv : Value} {pend : List (Nat × List UInt8)} (h : PRow w M pb pv pend) (hM : ∀ j, j < w.heap.size → M' j → M j) : PRow w M' pb pv pend := by
  obtain ⟨xs, h1, h2, h3⟩ := h
  refine ⟨xs, h1, h2, fun i p hi => ?_⟩
  obtain ⟨e1, v, e2, e3⟩ := h3 i p hi
  exact ⟨e1, v, e2, e3.mono hM⟩
theorem PRowR.away {w w' : World} {M M' : Nat → Prop} {pb : Nat} {pv : Value} {pend : List (Nat × List UInt8)} (h : PRowR w M pb pv pend) (hM : ∀ j, j < w.heap.size → M' j → M j) : PRowR w M' pb pv pend := by
  obtain ⟨xs, h1, h2, h3⟩ := h
  refine ⟨xs, h1, h2, fun i p hi => ?_⟩
  obtain ⟨e1, v, e2, e3⟩ := h3 i p hi
  exact ⟨e1, v, e2, e3.mono hM⟩
/-- it is as it was in w, and its rows keep away from Y -/
theorem DBox.shun {w w' : World} {db kb mb pb mm : Nat} {d : Dk} (h : DBox w db kb mb pb mm d) (hf : Frm (fun j => d.away j ∧ ¬ Own db kb mb pb j) w w') (Y : Nat → Prop) (hY : ∀ j, j < w.heap.size → Y j → d.away j ∨ Own db kb mb pb j) (hS : ∀ j, Y j → j < w'.heap.size) : DBox w' db kb mb pb mm { d with away := Y } := by
  obtain ⟨keepV, pv, kc, h1, h2, h3, h4, h5⟩ := h.cells
  have hM : ∀ j, j < w.heap.size → OwnX Y db kb mb pb j → OwnX d.away db kb mb pb j := fun j hj => by
    rintro (e | e)
    · exact Or.inl e
    · exact (hY j hj e).elim Or.inr Or.inl
  refine ⟨⟨keepV, pv, kc, (hf.block db h.lt.1 (fun x => x.2 (Or.inl rfl))).trans h1, ?_, own_keep h3 (fun g hg => by injection hg with hg; subst hg; exact hf.block _ h.lt.2.1 (fun x => x.2 (Or.inr (Or.inl rfl)))), ?_, h5⟩, h.map.keep (hf.block mb h.lt.2.2 (fun x => x.2 (Or.inr (Or.inr (Or.inl rfl))))), h.ne, ⟨h.ok.n, h.ok.size, h.ok.kept, h.ok.pend⟩, Nat.lt_of_lt_of_le h.small hf.size, hS⟩
  · exact h2.move hf (fun j hj => Or.inr hj.1) hM
  · obtain ⟨xs, a1, a2, a3⟩ := h4
    refine ⟨xs, own_keep a1 (fun g hg => hf.block g (own_lt a1 hg) (fun x => x.2 (Or.inr (Or.inr (Or.inr (a2 g hg)))))), a2, fun i p hi => ?_⟩
    obtain ⟨e1, v, e2, e3⟩ := a3 i p hi
    exact ⟨e1, v, e2, e3.move hf (fun j hj => Or.inr hj.1) hM⟩
theorem RBox.shun {w w' : World} {rb rk rl : Nat} {d : Dk} (h : RBox w rb rk rl d) (hf : Frm (fun j => d.away j ∧ ¬ Own3 rb rk rl j) w w') (Y : Nat → Prop) (hY : ∀ j, j < w.heap.size → Y j → d.away j ∨ Own3 rb rk rl j) (hS : ∀ j, Y j → j < w'.heap.size) : RBox w' rb rk rl { d with away := Y } := by
  obtain ⟨keepV, lv, bc, h1, h2, h3, h4, h5⟩ := h.cells
  have hM : ∀ j, j < w.heap.size → Own3X Y rb rk rl j → Own3X d.away rb rk rl j := fun j hj => by
    rintro (e | e)
    · exact Or.inl e
    · exact (hY j hj e).elim Or.inr Or.inl
  refine ⟨⟨keepV, lv, bc, (hf.block rb h.lt.1 (fun x => x.2 (Or.inl rfl))).trans h1, ?_, own_keep h3 (fun g hg => by injection hg with hg; subst hg; exact hf.block _ h.lt.2 (fun x => x.2 (Or.inr (Or.inl rfl)))), ?_, h5⟩, h.ne, ⟨h.ok.n, h.ok.size, h.ok.kept, h.ok.pend⟩, Nat.lt_of_lt_of_le h.small hf.size, hS⟩
  · exact h2.move hf (fun j hj => Or.inr hj.1) hM
  · obtain ⟨xs, a1, a2, a3⟩ := h4
    refine ⟨xs, own_keep a1 (fun g hg => hf.block g (own_lt a1 hg) (fun x => x.2 (Or.inr (Or.inr (a2 g hg))))), a2, fun i p hi => ?_⟩
    obtain ⟨e1, v, e2, e3⟩ := a3 i p hi
    exact ⟨e1, v, e2, e3.move hf (fun j hj => Or.inr hj.1) hM⟩
/-- nothing armed, nothing pending: it has no rows that could lie anywhere -/
theorem RdX.empty {M M' : Nat → Prop} {w : World} {v : Value} {xs : List Value} (h : RdX M w v xs) (h0 : xs = []) : RdX M' w v xs := by
  subst h0
  obtain ⟨A, c, e, h1, h2, h3⟩ := h
  exact ⟨A, c, e, h1, h2, fun hn => absurd hn (Nat.lt_irrefl 0)⟩
theorem DBox.bare {w : World} {db kb mb pb mm : Nat} {d : Dk} (h : DBox w db kb mb pb mm d) (hk : d.keep = []) (hp : d.pend = []) (Y : Nat → Prop) (hS : ∀ j, Y j → j < w.heap.size) : DBox w db kb mb pb mm { d with away := Y } := by
  obtain ⟨keepV, pv, kc, h1, h2, h3, h4, h5⟩ := h.cells
  obtain ⟨xs, a1, a2, a3⟩ := h4
  exact ⟨⟨keepV, pv, kc, h1, h2.empty (by rw [hk]; rfl), h3, ⟨xs, a1, a2, fun i p hi => by rw [show ({ d with away := Y } : Dk).pend = d.pend from rfl, hp] at hi; simp at hi⟩, h5⟩, h.map, h.ne, ⟨h.ok.n, h.ok.size, h.ok.kept, h.ok.pend⟩, h.small, hS⟩
theorem RBox.bare {w : World} {rb rk rl : Nat} {d : Dk} (h : RBox w rb rk rl d) (hk : d.keep = []) (hp : d.pend = []) (Y : Nat → Prop) (hS : ∀ j, Y j → j < w.heap.size) : RBox w rb rk rl { d with away := Y } := by
  obtain ⟨keepV, lv, bc, h1, h2, h3, h4, h5⟩ := h.cells
  obtain ⟨xs, a1, a2, a3⟩ := h4
  exact ⟨⟨keepV, lv, bc, h1, h2.empty (by rw [hk]; rfl), h3, ⟨xs, a1, a2, fun i p hi => by rw [show ({ d with away := Y } : Dk).pend = d.pend from rfl, hp] at hi; simp at hi⟩, h5⟩, h.ne, ⟨h.ok.n, h.ok.size, h.ok.kept, h.ok.pend⟩, h.small, hS⟩
/-- both disks; the document's says still what was to be kept at the last cut -/
structure JBox (w : World) (db kb mb pb mm rb rk rl : Nat) (d : Dk) (kr : List Bool) : Prop where
  p : DBox w db kb mb pb mm d
  r : RBox w rb rk rl { d with keep := kr }
  aw : ∀ j, Own db kb mb pb j ∨ Own3 rb rk rl j → d.away j
  apart : ∀ j, Own db kb mb pb j → ¬ Own3 rb rk rl j
  kk : d.armed = true → kr = d.keep
theorem JBox.made {w : World} {db kb mb pb mm rb rk rl : Nat} {d : Dk} (hp : DBox w db kb mb pb mm d) (hr : RBox w rb rk rl d) (hk : d.keep = []) (hn : d.pend = []) (ha : ∀ j, Own db kb mb pb j → ¬ Own3 rb rk rl j) : JBox w db kb mb pb mm rb rk rl { d with away := fun j => Own db kb mb pb j ∨ Own3 rb rk rl j } d.keep := by
  have hS : ∀ j, Own db kb mb pb j ∨ Own3 rb rk rl j → j < w.heap.size := by
    have h1 := hp.lt
    have h2 := hp.small
    have h3 := hr.lt
    have h4 := hr.small
    unfold Own Own3
    omega
  exact ⟨hp.bare hk hn _ hS, hr.bare hk hn _ hS, fun j h => h, ha, fun _ => rfl⟩
theorem JBox.next {w w' : World} {db kb mb pb mm rb rk rl : Nat} {d : Dk} {kr : List Bool} (h : JBox w db kb mb pb mm rb rk rl d kr) (hf : Frm (fun _ => False) w w') : JBox w' db kb mb pb mm rb rk rl d kr := ⟨h.p.next hf, h.r.next hf, h.aw, h.apart, h.kk⟩
/-- behind a call of the program's: the document's disk is as it was, and keeps away from what was made -/
theorem JBox.first {w w1 : World} {db kb mb pb pb' mm rb rk rl : Nat} {d : Dk} {kr : List Bool} (h : JBox w db kb mb pb mm rb rk rl d kr) (hs1 : pb' < w1.heap.size) (hp : pb' = pb ∨ w.heap.size ≤ pb') (hF : Frm (Own db kb mb pb) w w1) :
    RBox w1 rb rk rl { d with keep := kr, away := fun j => Own db kb mb pb' j ∨ d.away j } := by
  have hz := hF.size
  have hl := h.p.lt
  refine (h.r.shun (hF.mono fun j _ hj => ⟨h.aw j (Or.inl hj), h.apart j hj⟩) (fun j => Own db kb mb pb' j ∨ d.away j) (fun j hj hY => ?_) (fun j hY => ?_))
  · rcases hY with (e | e | e | e) | e
    · exact Or.inl (h.aw j (Or.inl (Or.inl e)))
    · exact Or.inl (h.aw j (Or.inl (Or.inr (Or.inl e))))
    · exact Or.inl (h.aw j (Or.inl (Or.inr (Or.inr (Or.inl e)))))
    · rcases hp with e2 | e2
      · exact Or.inl (h.aw j (Or.inl (Or.inr (Or.inr (Or.inr (e.trans e2))))))
      · omega
    · exact Or.inl e
  · rcases hY with e | e
    · unfold Own at e; omega
    · exact Nat.lt_of_lt_of_le (h.p.away j e) hz
/-- behind both -/
theorem JBox.both {w w1 w2 : World} {db kb mb pb pb' mm mm' rb rk rl rl' : Nat} {d d1 : Dk} {kr kr' : List Bool} (h : JBox w db kb mb pb mm rb rk rl d kr) (hp : pb' = pb ∨ w.heap.size ≤ pb') (hz1 : w.heap.size ≤ w1.heap.size) (hD : DBox w1 db kb mb pb' mm' d1) (hd : d1.away = d.away)
    (hR : RBox w2 rb rk rl' { d1 with keep := kr', away := fun j => Own db kb mb pb' j ∨ d.away j }) (hr : rl' = rl ∨ w1.heap.size ≤ rl') (hF : Frm (Own3 rb rk rl) w1 w2) (hk : d1.armed = true → kr' = d1.keep) :
    JBox w2 db kb mb pb' mm' rb rk rl' { d1 with away := fun j => Own db kb mb pb' j ∨ Own3 rb rk rl' j } kr' := by
  have hz := hF.size
  have l1 := hD.lt
  have l2 := hD.small
  have l3 := hR.lt
  have l4 := hR.small
  have l5 := h.r.lt
  have l6 := h.r.small
  have l7 := h.p.lt
  have hN : ∀ j, Own db kb mb pb' j → ¬ Own3 rb rk rl j := by
    intro j hj hj3
    have h3 : j < w.heap.size := by unfold Own3 at hj3; omega
    rcases hj with e | e | e | e
    · exact h.apart j (Or.inl e) hj3
    · exact h.apart j (Or.inr (Or.inl e)) hj3
    · exact h.apart j (Or.inr (Or.inr (Or.inl e))) hj3
    · rcases hp with e2 | e2
      · exact h.apart j (Or.inr (Or.inr (Or.inr (e.trans e2)))) hj3
      · omega
  have hS : ∀ j, Own db kb mb pb' j ∨ Own3 rb rk rl' j → j < w2.heap.size := by unfold Own Own3; omega
  refine ⟨?_, ?_, fun j hj => hj, ?_, hk⟩
  · refine hD.shun (hF.mono fun j _ hj => ⟨by rw [hd]; exact h.aw j (Or.inr hj), fun e => hN j e hj⟩) _ (fun j hj hY => ?_) hS
    rcases hY with e | e | e | e
    · exact Or.inr e
    · exact Or.inl (by rw [hd]; exact h.aw j (Or.inr (Or.inl e)))
    · exact Or.inl (by rw [hd]; exact h.aw j (Or.inr (Or.inr (Or.inl e))))
    · rcases hr with e2 | e2
      · exact Or.inl (by rw [hd]; exact h.aw j (Or.inr (Or.inr (Or.inr (e.trans e2)))))
      · omega
  · exact hR.shun (Frm.refl _ _) _ (fun j hj hY => by
      rcases hY with e | e
      · exact Or.inl (Or.inl e)
      · exact Or.inr e) hS
  · intro j hj hj3
    rcases hj3 with e | e | e
    · exact hN j hj (Or.inl e)
    · exact hN j hj (Or.inr (Or.inl e))
    · rcases hr with e2 | e2
      · exact hN j hj (Or.inr (Or.inr (e.trans e2)))
      · have : j < w1.heap.size := by unfold Own at hj; omega
        omega
/-- what a read tells -/
def readL (d : Dk) (s : Int) : List UInt8 := if d.off = true then [] else if 0 ≤ s ∧ s < (d.n : Nat) then readB d s.toNat else []
def readC (d : Dk) (s : Int) : Int := if d.off = true then 8 else if 0 ≤ s ∧ s < (d.n : Nat) then 0 else 1
def lookD (d : Dk) (s : Int) : Dk := if d.off = true then d else if 0 ≤ s ∧ s < (d.n : Nat) then { d with reads := d.reads + 1 } else d
theorem read_all (db kb mb pb mm : Nat) (d : Dk) (w : World) (h : DBox w db kb mb pb mm d) (s : Int) (hrd : 0 ≤ d.reads ∧ d.reads ≤ 1000000000000) (hpl : d.pend.length ≤ 1000000) : Calls Try.prog 29 #[.pointer (some ⟨db, 0, none⟩), .int .i64 s] w fun e w' => ∃ v, e = .returned (.tuple #[v, .int .i64 (readC d s)]) ∧ RdX (fun j => j < w.heap.size) w' v (bv (readL d s)) ∧ DBox w' db kb mb pb mm (lookD d s) ∧ Frm (fun j => j = db) w w' := by
  unfold readL readC lookD
  by_cases ho : d.off = true
  · simp only [if_pos ho]
    refine (read_off db kb mb pb mm d w h ho s).mono ?_
    rintro e w' ⟨rfl, rfl⟩
    exact ⟨_, rfl, RdX.nil_ _ _, h, Frm.refl _ _⟩
  · simp only [if_neg ho]
    have ho' : d.off = false := by simpa using ho
    by_cases hs : 0 ≤ s ∧ s < (d.n : Nat)
    · simp only [if_pos hs]
      obtain ⟨n, rfl⟩ := Int.eq_ofNat_of_zero_le hs.1
      refine (read_ok db kb mb pb mm d w h ho' n (by omega) hrd hpl).mono ?_
      rintro e w' ⟨v, rfl, h1, h2, h3⟩
      have hl := readB_length h n (by omega)
      exact ⟨v, rfl, RdX.of_own h1 (fun j hj => by omega), h2, h3⟩
    · simp only [if_neg hs]
      refine (read_bad db kb mb pb mm d w h ho' s hs).mono ?_
      rintro e w' ⟨rfl, k, rfl⟩
      exact ⟨_, rfl, RdX.nil_ _ _, h.next (Frm.drewN _ _), Frm.drewN _ _⟩
theorem rread_all (rb rk rl : Nat) (d : Dk) (w : World) (h : RBox w rb rk rl d) (s : Int) (hrd : 0 ≤ d.reads ∧ d.reads ≤ 1000000000000) (hpl : d.pend.length ≤ 1000000) : Calls Try.prog 48 #[.pointer (some ⟨rb, 0, none⟩), .int .i64 s] w fun e w' => ∃ v, e = .returned (.tuple #[v, .int .i64 (readC d s)]) ∧ RdV w' w'.heap.size v (bv (readL d s)) ∧ RBox w' rb rk rl (lookD d s) ∧ Frm (fun j => j = rb) w w' := by
  unfold readL readC lookD
  by_cases ho : d.off = true
  · simp only [if_pos ho]
    refine (rread_off rb rk rl d w h ho s).mono ?_
    rintro e w' ⟨rfl, rfl⟩
    exact ⟨_, rfl, RdV.nil_ _ _, h, Frm.refl _ _⟩
  · simp only [if_neg ho]
    have ho' : d.off = false := by simpa using ho
    by_cases hs : 0 ≤ s ∧ s < (d.n : Nat)
    · simp only [if_pos hs]
      obtain ⟨n, rfl⟩ := Int.eq_ofNat_of_zero_le hs.1
      refine (rread_ok rb rk rl d w h ho' n (by omega) hrd hpl).mono ?_
      rintro e w' ⟨v, rfl, h1, h2, h3⟩
      exact ⟨v, rfl, h1, h2, h3⟩
    · simp only [if_neg hs]
      refine (rread_bad rb rk rl d w h ho' s hs).mono ?_
      rintro e w' ⟨rfl, rfl⟩
      exact ⟨_, rfl, RdV.nil_ _ _, h, Frm.refl _ _⟩
theorem lookD_facts (d : Dk) (s : Int) : (lookD d s).away = d.away ∧ (lookD d s).off = d.off ∧ (lookD d s).pend = d.pend ∧ (lookD d s).writes = d.writes ∧ (lookD d s).kept = d.kept ∧ (lookD d s).keep = d.keep ∧ (lookD d s).n = d.n ∧ (lookD d s).size = d.size ∧ (lookD d s).armed = d.armed ∧ (lookD d s).left = d.left ∧ ((lookD d s).reads = d.reads ∨ (lookD d s).reads = d.reads + 1) := by
  unfold lookD
  split
  · exact ⟨rfl, rfl, rfl, rfl, rfl, rfl, rfl, rfl, rfl, rfl, Or.inl rfl⟩
  · split
    · exact ⟨rfl, rfl, rfl, rfl, rfl, rfl, rfl, rfl, rfl, rfl, Or.inr rfl⟩
    · exact ⟨rfl, rfl, rfl, rfl, rfl, rfl, rfl, rfl, rfl, rfl, Or.inl rfl⟩
end Go.Proofs.Ytldmamcalfmedaa
