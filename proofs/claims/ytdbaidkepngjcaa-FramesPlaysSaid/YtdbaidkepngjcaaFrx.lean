/- Both pools of frames, side by side: each method answers alike. Conditions: none. -/
import Derived.Test.YtdbaidkepngjcaaFrw
namespace Go.Proofs.Ytdbaidkepngjcaa
open Go.ChangeShapes Go.WideShapes Go.ChangeAt Go.RowKit Go.Maps
set_option linter.unusedSimpArgs false
set_option linter.unusedVariables false
def Own5 (pb lb mb qb rb : Nat) : Nat → Prop := fun j => Own pb lb mb j ∨ j = qb ∨ j = rb
def Apt (pb lb mb qb rb : Nat) : Prop := ¬ Own pb lb mb qb ∧ ¬ Own pb lb mb rb
/-- both pools, behind at most q acts -/
def FI (pb lb mb qb rb c n q : Nat) (w : World) : Prop := ∃ m p, m ≤ q ∧ PBox w pb lb mb m p ∧ QBox w qb rb c p.L p.hand ∧ p.L.length = n
theorem FI.next {pb lb mb qb rb c n q : Nat} {w w' : World} (h : FI pb lb mb qb rb c n q w) (hf : Frm (fun _ => False) w w') : FI pb lb mb qb rb c n q w' := by
  obtain ⟨m, p, h1, h2, h3, h4⟩ := h
  exact ⟨m, p, h1, h2.next hf, h3.next hf, h4⟩
theorem FI.lt {pb lb mb qb rb c n q : Nat} {w : World} (h : FI pb lb mb qb rb c n q w) : ∀ j, Own5 pb lb mb qb rb j → j < w.heap.size := by
  obtain ⟨m, p, h1, h2, h3, h4⟩ := h
  have := h2.lt; have := h3.lt
  rintro j ((e | e | e) | e | e) <;> omega
/-- one call on each: alike -/
def PairU (u : Value) (pb lb mb qb rb c n q : Nat) (f g : Nat) (pa ra : Array Value) (w : World) : Prop :=
  ∃ (Mid : World → Prop), (Calls Try.prog f pa w fun e w' => e = .returned u ∧ Mid w' ∧ Frm (Own5 pb lb mb qb rb) w w') ∧ (∀ w0 w1, Mid w0 → Frm (fun _ => False) w0 w1 → Calls Try.prog g ra w1 fun e w' => e = .returned u ∧ FI pb lb mb qb rb c n q w' ∧ Frm (Own5 pb lb mb qb rb) w1 w')
def Pair (pb lb mb qb rb c n q : Nat) (f g : Nat) (pa ra : Array Value) (w : World) : Prop := ∃ z : Int, PairU (.int .i64 z) pb lb mb qb rb c n q f g pa ra w
theorem PairU.mk' {pb lb mb qb rb c n q' : Nat} {f g : Nat} {pa ra : Array Value} {w : World} {m' : Nat} {p p' : Pl} {u : Value} (hA : Apt pb lb mb qb rb) (hQ : QBox w qb rb c p.L p.hand) (hm : m' ≤ q') (hl : p'.L.length = n)
    (h1 : Calls Try.prog f pa w fun e w' => e = .returned u ∧ PBox w' pb lb mb m' p' ∧ Frm (Own pb lb mb) w w')
    (h2 : ∀ w1, QBox w1 qb rb c p.L p.hand → Calls Try.prog g ra w1 fun e w' => e = .returned u ∧ QBox w' qb rb c p'.L p'.hand ∧ Frm (fun j => j = qb ∨ j = rb) w1 w') : PairU u pb lb mb qb rb c n q' f g pa ra w := by
  refine ⟨fun w1 => PBox w1 pb lb mb m' p' ∧ QBox w1 qb rb c p.L p.hand, h1.mono ?_, fun w0 w1 hM0 hF0 => ?_⟩
  · rintro e w' ⟨rfl, hP, hF⟩
    exact ⟨rfl, ⟨hP, hQ.foreign hF hA.1 hA.2⟩, hF.mono fun j _ e => Or.inl e⟩
  · have hM := And.intro (hM0.1.next hF0) (hM0.2.next hF0)
    refine (h2 w1 hM.2).mono ?_
    rintro e w' ⟨rfl, hQ', hF⟩
    refine ⟨rfl, ⟨m', p', hm, hM.1.foreign hF ?_ ?_ ?_, hQ', hl⟩, hF.mono fun j _ e => Or.inr e⟩
    · rintro (e | e)
      · exact hA.1 (Or.inl e.symm)
      · exact hA.2 (Or.inl e.symm)
    · rintro (e | e)
      · exact hA.1 (Or.inr (Or.inl e.symm))
      · exact hA.2 (Or.inr (Or.inl e.symm))
    · rintro (e | e)
      · exact hA.1 (Or.inr (Or.inr e.symm))
      · exact hA.2 (Or.inr (Or.inr e.symm))
theorem used_or (L : List Fr) (a : Int) : (∃ (i : Nat) (hi : i < L.length), a = (i : Nat) ∧ L[i].used = true) ∨ (∀ (i : Nat) (hi : i < L.length), (i : Int) = a → L[i].used = false) := by
  rcases Classical.em (∃ (i : Nat) (hi : i < L.length), a = (i : Nat) ∧ L[i].used = true) with h | h
  · exact Or.inl h
  · refine Or.inr fun i hi e => ?_
    cases hu : L[i].used with
    | false => rfl
    | true => exact absurd ⟨i, hi, e.symm, hu⟩ h
section
variable {pb lb mb qb rb c n q : Nat} {w : World} (hA : Apt pb lb mb qb rb) (h : FI pb lb mb qb rb c n q w) (a : Int) (ha : (Lit.int .i64 a).wf = true)
include hA h ha
theorem ftouch (wr : Bool) : Pair pb lb mb qb rb c n q 15 23 #[.pointer (some ⟨pb, 0, none⟩), .int .i64 a, .bool wr] #[.pointer (some ⟨qb, 0, none⟩), .int .i64 a, .bool wr] w := by
  obtain ⟨m, p, h1, h2, h3, h4⟩ := h
  rcases used_or p.L a with ⟨i, hi, rfl, hu⟩ | hno
  · refine ⟨0, PairU.mk' (p' := { p with L := p.L.set i ⟨p.L[i].key, p.L[i].used, true, p.L[i].dirty || wr, p.L[i].pins⟩ }) hA h3 h1 (by show (p.L.set i _).length = n; rw [List.length_set]; exact h4) ((touch_yes pb lb mb m p w h2 i wr hi hu).mono ?_) fun w1 hQ => (rtouch_yes qb rb c p.hand p.L w1 hQ i wr hi hu).mono ?_⟩
    · rintro e w' ⟨e1, e2, e3⟩; exact ⟨e1, e2, e3.mono fun j _ e => Or.inr (Or.inl e)⟩
    · rintro e w' ⟨e1, e2, e3⟩; exact ⟨e1, e2, e3.mono fun j _ e => Or.inr e⟩
  · refine ⟨2, PairU.mk' (p' := p) hA h3 h1 h4 ((touch_no pb lb mb m p w h2 a wr ha hno).mono ?_) fun w1 hQ => (rtouch_no qb rb c p.hand p.L w1 hQ a wr ha hno).mono ?_⟩
    · rintro e w' ⟨e1, rfl⟩; exact ⟨e1, h2, Frm.refl _ _⟩
    · rintro e w' ⟨e1, rfl⟩; exact ⟨e1, hQ, Frm.refl _ _⟩
theorem fclean : Pair pb lb mb qb rb c n q 24 25 #[.pointer (some ⟨pb, 0, none⟩), .int .i64 a] #[.pointer (some ⟨qb, 0, none⟩), .int .i64 a] w := by
  obtain ⟨m, p, h1, h2, h3, h4⟩ := h
  rcases used_or p.L a with ⟨i, hi, rfl, hu⟩ | hno
  · refine ⟨0, PairU.mk' (p' := { p with L := p.L.set i ⟨p.L[i].key, p.L[i].used, p.L[i].ref, false, p.L[i].pins⟩ }) hA h3 h1 (by show (p.L.set i _).length = n; rw [List.length_set]; exact h4) ((clean_yes pb lb mb m p w h2 i hi hu).mono ?_) fun w1 hQ => (rclean_yes qb rb c p.hand p.L w1 hQ i hi hu).mono ?_⟩
    · rintro e w' ⟨e1, e2, e3⟩; exact ⟨e1, e2, e3.mono fun j _ e => Or.inr (Or.inl e)⟩
    · rintro e w' ⟨e1, e2, e3⟩; exact ⟨e1, e2, e3.mono fun j _ e => Or.inr e⟩
  · refine ⟨2, PairU.mk' (p' := p) hA h3 h1 h4 ((clean_no pb lb mb m p w h2 a ha hno).mono ?_) fun w1 hQ => (rclean_no qb rb c p.hand p.L w1 hQ a ha hno).mono ?_⟩
    · rintro e w' ⟨e1, rfl⟩; exact ⟨e1, h2, Frm.refl _ _⟩
    · rintro e w' ⟨e1, rfl⟩; exact ⟨e1, hQ, Frm.refl _ _⟩
theorem fpin : Pair pb lb mb qb rb c n q 16 26 #[.pointer (some ⟨pb, 0, none⟩), .int .i64 a] #[.pointer (some ⟨qb, 0, none⟩), .int .i64 a] w := by
  obtain ⟨m, p, h1, h2, h3, h4⟩ := h
  rcases used_or p.L a with ⟨i, hi, rfl, hu⟩ | hno
  · have hp := (h2.ok.num _ (List.getElem_mem hi)).2
    rcases Nat.lt_or_ge p.L[i].pins 1048576 with hlt | hge
    · refine ⟨0, PairU.mk' (p' := { p with L := p.L.set i ⟨p.L[i].key, p.L[i].used, p.L[i].ref, p.L[i].dirty, p.L[i].pins + 1⟩ }) hA h3 h1 (by show (p.L.set i _).length = n; rw [List.length_set]; exact h4) ((pin_yes pb lb mb m p w h2 i hi hu hlt).mono ?_) fun w1 hQ => (rpin_yes qb rb c p.hand p.L w1 hQ i hi hu hlt).mono ?_⟩
      · rintro e w' ⟨e1, e2, e3⟩; exact ⟨e1, e2, e3.mono fun j _ e => Or.inr (Or.inl e)⟩
      · rintro e w' ⟨e1, e2, e3⟩; exact ⟨e1, e2, e3.mono fun j _ e => Or.inr e⟩
    · have he : p.L[i].pins = 1048576 := by omega
      refine ⟨10, PairU.mk' (p' := p) hA h3 h1 h4 ((pin_full pb lb mb m p w h2 i hi hu he).mono ?_) fun w1 hQ => (rpin_full qb rb c p.hand p.L w1 hQ i hi hu he).mono ?_⟩
      · rintro e w' ⟨e1, rfl⟩; exact ⟨e1, h2, Frm.refl _ _⟩
      · rintro e w' ⟨e1, rfl⟩; exact ⟨e1, hQ, Frm.refl _ _⟩
  · refine ⟨2, PairU.mk' (p' := p) hA h3 h1 h4 ((pin_no pb lb mb m p w h2 a ha hno).mono ?_) fun w1 hQ => (rpin_no qb rb c p.hand p.L w1 hQ a ha hno).mono ?_⟩
    · rintro e w' ⟨e1, rfl⟩; exact ⟨e1, h2, Frm.refl _ _⟩
    · rintro e w' ⟨e1, rfl⟩; exact ⟨e1, hQ, Frm.refl _ _⟩
theorem funpin : Pair pb lb mb qb rb c n q 17 27 #[.pointer (some ⟨pb, 0, none⟩), .int .i64 a] #[.pointer (some ⟨qb, 0, none⟩), .int .i64 a] w := by
  obtain ⟨m, p, h1, h2, h3, h4⟩ := h
  rcases used_or p.L a with ⟨i, hi, rfl, hu⟩ | hno
  · rcases Nat.eq_zero_or_pos p.L[i].pins with he | hlt
    · refine ⟨9, PairU.mk' (p' := p) hA h3 h1 h4 ((unpin_not pb lb mb m p w h2 i hi hu he).mono ?_) fun w1 hQ => (runpin_not qb rb c p.hand p.L w1 hQ i hi hu he).mono ?_⟩
      · rintro e w' ⟨e1, rfl⟩; exact ⟨e1, h2, Frm.refl _ _⟩
      · rintro e w' ⟨e1, rfl⟩; exact ⟨e1, hQ, Frm.refl _ _⟩
    · refine ⟨0, PairU.mk' (p' := { p with L := p.L.set i ⟨p.L[i].key, p.L[i].used, p.L[i].ref, p.L[i].dirty, p.L[i].pins - 1⟩ }) hA h3 h1 (by show (p.L.set i _).length = n; rw [List.length_set]; exact h4) ((unpin_yes pb lb mb m p w h2 i hi hu hlt).mono ?_) fun w1 hQ => (runpin_yes qb rb c p.hand p.L w1 hQ i hi hu hlt).mono ?_⟩
      · rintro e w' ⟨e1, e2, e3⟩; exact ⟨e1, e2, e3.mono fun j _ e => Or.inr (Or.inl e)⟩
      · rintro e w' ⟨e1, e2, e3⟩; exact ⟨e1, e2, e3.mono fun j _ e => Or.inr e⟩
  · refine ⟨2, PairU.mk' (p' := p) hA h3 h1 h4 ((unpin_no pb lb mb m p w h2 a ha hno).mono ?_) fun w1 hQ => (runpin_no qb rb c p.hand p.L w1 hQ a ha hno).mono ?_⟩
    · rintro e w' ⟨e1, rfl⟩; exact ⟨e1, h2, Frm.refl _ _⟩
    · rintro e w' ⟨e1, rfl⟩; exact ⟨e1, hQ, Frm.refl _ _⟩
theorem fdrop : Pair pb lb mb qb rb c n q 14 28 #[.pointer (some ⟨pb, 0, none⟩), .int .i64 a] #[.pointer (some ⟨qb, 0, none⟩), .int .i64 a] w := by
  obtain ⟨m, p, h1, h2, h3, h4⟩ := h
  rcases used_or p.L a with ⟨i, hi, rfl, hu⟩ | hno
  · rcases Nat.eq_zero_or_pos p.L[i].pins with he | hlt
    · refine ⟨0, PairU.mk' (p' := { p with L := p.L.set i Fr.zero, low := min p.low i }) hA h3 h1 (by show (p.L.set i _).length = n; rw [List.length_set]; exact h4) (drop_yes pb lb mb m p w h2 i hi hu he) fun w1 hQ => (rdrop_yes qb rb c p.hand p.L w1 hQ i hi hu he).mono ?_⟩
      rintro e w' ⟨e1, e2, e3⟩; exact ⟨e1, e2, e3.mono fun j _ e => Or.inr e⟩
    · refine ⟨9, PairU.mk' (p' := p) hA h3 h1 h4 ((drop_not pb lb mb m p w h2 i hi hu hlt).mono ?_) fun w1 hQ => (rdrop_not qb rb c p.hand p.L w1 hQ i hi hu hlt).mono ?_⟩
      · rintro e w' ⟨e1, rfl⟩; exact ⟨e1, h2, Frm.refl _ _⟩
      · rintro e w' ⟨e1, rfl⟩; exact ⟨e1, hQ, Frm.refl _ _⟩
  · refine ⟨2, PairU.mk' (p' := p) hA h3 h1 h4 ((drop_no pb lb mb m p w h2 a ha hno).mono ?_) fun w1 hQ => (rdrop_no qb rb c p.hand p.L w1 hQ a ha hno).mono ?_⟩
    · rintro e w' ⟨e1, rfl⟩; exact ⟨e1, h2, Frm.refl _ _⟩
    · rintro e w' ⟨e1, rfl⟩; exact ⟨e1, hQ, Frm.refl _ _⟩
end
end Go.Proofs.Ytdbaidkepngjcaa
