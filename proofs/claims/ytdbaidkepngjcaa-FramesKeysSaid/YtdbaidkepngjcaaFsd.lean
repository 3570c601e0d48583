/- The pool of frames, and a map that says where each key is. Conditions: none. -/
import Derived.Test.YtdbaidkepngjcaaFsb
import Derived.Test.YtdbaidkepngjcaaFsc
import Derived.Test.YtdbaidkepngjcaaFrp
namespace Go.Proofs.Ytdbaidkepngjcaa
open Go.ChangeShapes Go.WideShapes Go.ChangeAt Go.RowKit Go.Maps
set_option linter.unusedSimpArgs false
set_option linter.unusedVariables false
theorem first_at (P : Nat → Prop) : ∀ (k : Nat), (∃ q, q < k ∧ P q) → ∃ z, z < k ∧ P z ∧ ∀ r, r < z → ¬ P r
  | 0, ⟨q, h, _⟩ => by omega
  | k + 1, ⟨q, h1, h2⟩ => by
    by_cases h : ∃ q, q < k ∧ P q
    · obtain ⟨z, z1, z2, z3⟩ := first_at P k h
      exact ⟨z, by omega, z2, z3⟩
    · exact ⟨q, h1, h2, fun r hr hp => h ⟨r, by omega, hp⟩⟩
theorem is_used (L : List Fr) (a : Int) : (∃ (i : Nat) (hi : i < L.length), a = (i : Nat) ∧ L[i].used = true) ∨ (∀ (i : Nat) (hi : i < L.length), (i : Int) = a → L[i].used = false) := by
  rcases Classical.em (∃ (i : Nat) (hi : i < L.length), a = (i : Nat) ∧ L[i].used = true) with h | h
  · exact Or.inl h
  · refine Or.inr fun i hi e => ?_
    cases hu : L[i].used with
    | false => rfl
    | true => exact absurd ⟨i, hi, e.symm, hu⟩ h
/-- the pool, and the law's own map -/
def KI (pb lb mb hb n q : Nat) (w : World) : Prop := ∃ (m m2 : Nat) (p : Pl) (W : Int → Option Nat), m ≤ q ∧ m2 ≤ q ∧ PBox w pb lb mb m p ∧ IBox w hb m2 W (usedN p.L) ∧ Wok p.L W ∧ p.L.length = n
theorem KI.next {pb lb mb hb n q : Nat} {w w' : World} (h : KI pb lb mb hb n q w) (hf : Frm (fun _ => False) w w') : KI pb lb mb hb n q w' := by
  obtain ⟨m, m2, p, W, h1, h2, h3, h4, h5, h6⟩ := h
  exact ⟨m, m2, p, W, h1, h2, h3.next hf, h4.keep (hf.block hb h4.lt id), h5, h6⟩
theorem KI.more {pb lb mb hb n q q' : Nat} {w : World} (h : KI pb lb mb hb n q w) (hq : q ≤ q') : KI pb lb mb hb n q' w := by
  obtain ⟨m, m2, p, W, h1, h2, h3⟩ := h
  exact ⟨m, m2, p, W, by omega, by omega, h3⟩
theorem KI.lt {pb lb mb hb n q : Nat} {w : World} (h : KI pb lb mb hb n q w) : ∀ j, Own pb lb mb j ∨ j = hb → j < w.heap.size := by
  obtain ⟨m, m2, p, W, h1, h2, h3, h4, _⟩ := h
  have := h3.lt; have := h4.lt
  rintro j ((e | e | e) | e) <;> omega
def KPost (pb lb mb hb n q : Nat) (w : World) (e : Ending) (w' : World) : Prop := (∃ z : Int, e = .returned (.int .i64 z)) ∧ KI pb lb mb hb n q w' ∧ Frm (Own pb lb mb) w w'
section
variable {pb lb mb hb n q : Nat} {w : World} (h : KI pb lb mb hb n q w)
include h
theorem kstay : KPost pb lb mb hb n q w (.returned (.int .i64 2)) w ∧ KPost pb lb mb hb n q w (.returned (.int .i64 9)) w ∧ KPost pb lb mb hb n q w (.returned (.int .i64 10)) w :=
  ⟨⟨⟨_, rfl⟩, h, Frm.refl _ _⟩, ⟨⟨_, rfl⟩, h, Frm.refl _ _⟩, ⟨⟨_, rfl⟩, h, Frm.refl _ _⟩⟩
end
theorem KI.set {pb lb mb hb n q m m2 : Nat} {w w' : World} {p : Pl} {W : Int → Option Nat} (hA : ¬ Own pb lb mb hb) (h1 : m ≤ q) (h2 : m2 ≤ q) (h4 : IBox w hb m2 W (usedN p.L)) (h5 : Wok p.L W) (h6 : p.L.length = n) (i : Nat) (hi : i < p.L.length) {x : Fr}
    (hP : PBox w' pb lb mb m { p with L := p.L.set i x }) (hu : x.used = p.L[i].used) (hk : x.key = p.L[i].key) (hF : Frm (Own pb lb mb) w w') : KI pb lb mb hb n q w' :=
  ⟨m, m2, _, W, h1, h2, hP, by show IBox w' hb m2 W (usedN (p.L.set i x)); rw [usedN_set p.L i hi x hu]; exact h4.keep (hF.block hb h4.lt hA), h5.set i hi x hu hk, by show (p.L.set i x).length = n; rw [List.length_set]; exact h6⟩
section
variable {pb lb mb hb n q : Nat} {w : World} (hA : ¬ Own pb lb mb hb) (h : KI pb lb mb hb n q w) (a : Int) (ha : (Lit.int .i64 a).wf = true)
include hA h ha
theorem ktouch (wr : Bool) : Calls Try.prog 15 #[.pointer (some ⟨pb, 0, none⟩), .int .i64 a, .bool wr] w (KPost pb lb mb hb n q w) := by
  have hs := kstay h
  obtain ⟨m, m2, p, W, h1, h2, h3, h4, h5, h6⟩ := h
  rcases is_used p.L a with ⟨i, hi, rfl, hu⟩ | hno
  · refine (touch_yes pb lb mb m p w h3 i wr hi hu).mono ?_
    rintro e w' ⟨rfl, e2, e3⟩
    have e4 : Frm (Own pb lb mb) w w' := e3.mono fun j _ e => Or.inr (Or.inl e)
    exact ⟨⟨_, rfl⟩, KI.set hA h1 h2 h4 h5 h6 i hi e2 rfl rfl e4, e4⟩
  · refine (touch_no pb lb mb m p w h3 a wr ha hno).mono ?_
    rintro e w' ⟨rfl, rfl⟩; exact hs.1
theorem kpin : Calls Try.prog 16 #[.pointer (some ⟨pb, 0, none⟩), .int .i64 a] w (KPost pb lb mb hb n q w) := by
  have hs := kstay h
  obtain ⟨m, m2, p, W, h1, h2, h3, h4, h5, h6⟩ := h
  rcases is_used p.L a with ⟨i, hi, rfl, hu⟩ | hno
  · have hp := (h3.ok.num _ (List.getElem_mem hi)).2
    rcases Nat.lt_or_ge p.L[i].pins 1048576 with hlt | hge
    · refine (pin_yes pb lb mb m p w h3 i hi hu hlt).mono ?_
      rintro e w' ⟨rfl, e2, e3⟩
      have e4 : Frm (Own pb lb mb) w w' := e3.mono fun j _ e => Or.inr (Or.inl e)
      exact ⟨⟨_, rfl⟩, KI.set hA h1 h2 h4 h5 h6 i hi e2 rfl rfl e4, e4⟩
    · refine (pin_full pb lb mb m p w h3 i hi hu (by omega)).mono ?_
      rintro e w' ⟨rfl, rfl⟩; exact hs.2.2
  · refine (pin_no pb lb mb m p w h3 a ha hno).mono ?_
    rintro e w' ⟨rfl, rfl⟩; exact hs.1
theorem kunpin : Calls Try.prog 17 #[.pointer (some ⟨pb, 0, none⟩), .int .i64 a] w (KPost pb lb mb hb n q w) := by
  have hs := kstay h
  obtain ⟨m, m2, p, W, h1, h2, h3, h4, h5, h6⟩ := h
  rcases is_used p.L a with ⟨i, hi, rfl, hu⟩ | hno
  · rcases Nat.eq_zero_or_pos p.L[i].pins with he | hlt
    · refine (unpin_not pb lb mb m p w h3 i hi hu he).mono ?_
      rintro e w' ⟨rfl, rfl⟩; exact hs.2.1
    · refine (unpin_yes pb lb mb m p w h3 i hi hu hlt).mono ?_
      rintro e w' ⟨rfl, e2, e3⟩
      have e4 : Frm (Own pb lb mb) w w' := e3.mono fun j _ e => Or.inr (Or.inl e)
      exact ⟨⟨_, rfl⟩, KI.set hA h1 h2 h4 h5 h6 i hi e2 rfl rfl e4, e4⟩
  · refine (unpin_no pb lb mb m p w h3 a ha hno).mono ?_
    rintro e w' ⟨rfl, rfl⟩; exact hs.1
omit hA in
/-- At and Drop, one behind the other -/
theorem kdrop : ∃ (x : Fr) (z : Int), (∀ w1, Frm (fun _ => False) w w1 → Calls Try.prog 13 #[.pointer (some ⟨pb, 0, none⟩), .int .i64 a] w1 fun e w' => (∃ cd : Int, e = .returned (.tuple #[frV x, .int .i64 cd])) ∧ Frm (fun _ => False) w1 w') ∧
    ((z ≠ 0 ∧ ∀ w1, Frm (fun _ => False) w w1 → Calls Try.prog 14 #[.pointer (some ⟨pb, 0, none⟩), .int .i64 a] w1 fun e w' => e = .returned (.int .i64 z) ∧ w' = w1) ∨
     (z = 0 ∧ (Lit.int .i64 x.key).wf = true ∧ ∃ (m m2 : Nat) (p p' : Pl) (W : Int → Option Nat), m ≤ q ∧ m2 ≤ q ∧ IBox w hb m2 W (usedN p.L) ∧ (W x.key).isSome = true ∧ Wok p'.L (mset W x.key none) ∧ p'.L.length = n ∧ usedN p'.L = usedN p.L - 1 ∧ ∀ w1, Frm (fun _ => False) w w1 → Calls Try.prog 14 #[.pointer (some ⟨pb, 0, none⟩), .int .i64 a] w1 fun e w' => e = .returned (.int .i64 0) ∧ PBox w' pb lb mb m p' ∧ Frm (Own pb lb mb) w1 w')) := by
  obtain ⟨m, m2, p, W, h1, h2, h3, h4, h5, h6⟩ := h
  rcases is_used p.L a with ⟨i, hi, rfl, hu⟩ | hno
  · rcases Nat.eq_zero_or_pos p.L[i].pins with he | hlt
    · refine ⟨p.L[i], 0, fun w1 hF => (at_yes pb lb mb m p w1 (h3.next hF) i hi).mono fun e w' h => ⟨⟨_, h.1⟩, h.2⟩, Or.inr ⟨rfl, (h3.ok.num _ (List.getElem_mem hi)).1, m, m2, p, { p with L := p.L.set i Fr.zero, low := min p.low i }, W, h1, h2, h4, ?_, h5.gone i hi Fr.zero hu rfl, by show (p.L.set i _).length = n; rw [List.length_set]; exact h6, ?_, fun w1 hF => drop_yes pb lb mb m p w1 (h3.next hF) i hi hu he⟩⟩
      · rw [(h5 p.L[i].key i).2 ⟨p.L[i], List.getElem?_eq_getElem hi, hu, rfl⟩]; rfl
      · have := usedN_put p.L i hi Fr.zero
        rw [hu] at this
        simp [Fr.zero] at this
        show usedN (p.L.set i Fr.zero) = _
        unfold Fr.zero
        omega
    · exact ⟨p.L[i], 9, fun w1 hF => (at_yes pb lb mb m p w1 (h3.next hF) i hi).mono fun e w' h => ⟨⟨_, h.1⟩, h.2⟩, Or.inl ⟨by decide, fun w1 hF => drop_not pb lb mb m p w1 (h3.next hF) i hi hu hlt⟩⟩
  · by_cases hr : 0 ≤ a ∧ a < p.L.length
    · obtain ⟨i, rfl⟩ : ∃ i : Nat, a = i := ⟨a.toNat, by omega⟩
      have hi : i < p.L.length := by omega
      exact ⟨p.L[i], 2, fun w1 hF => (at_yes pb lb mb m p w1 (h3.next hF) i hi).mono fun e w' h => ⟨⟨_, h.1⟩, h.2⟩, Or.inl ⟨by decide, fun w1 hF => drop_no pb lb mb m p w1 (h3.next hF) _ ha hno⟩⟩
    · exact ⟨Fr.zero, 2, fun w1 hF => (at_no pb lb mb m p w1 (h3.next hF) a ha (by omega)).mono fun e w' h => ⟨⟨_, h.1⟩, h.2⟩, Or.inl ⟨by decide, fun w1 hF => drop_no pb lb mb m p w1 (h3.next hF) _ ha hno⟩⟩
end
theorem Wok.pass {L : List Fr} {W : Int → Option Nat} (h : Wok L W) (hd q : Nat) : Wok (passL L hd q) W := by
  intro k i
  rw [h k i]
  constructor
  · rintro ⟨x, hx, hu, hk⟩
    obtain ⟨y, hy, hy1, hy2⟩ := passL_all L hd q i _ hx
    refine ⟨y, hy, ?_⟩
    by_cases hc : ∃ r, r < q ∧ (hd + r) % L.length = i
    · rw [hy1 hc, (clr_facts x).1, (clr_facts x).2.1]; exact ⟨hu, hk⟩
    · rw [hy2 hc]; exact ⟨hu, hk⟩
  · rintro ⟨y, hy, hu, hk⟩
    obtain ⟨x, hx, e | e⟩ := passL_at hy
    · rw [e] at hu hk; exact ⟨x, hx, hu, hk⟩
    · rw [e, (clr_facts x).1] at hu
      rw [e, (clr_facts x).2.1] at hk
      exact ⟨x, hx, hu, hk⟩
abbrev TakeArgs (pb : Nat) (k : Int) : Array Value := #[.pointer (some ⟨pb, 0, none⟩), .int .i64 k]
/-- what Take does, with the map that says where each key is -/
theorem ktake {pb lb mb n m : Nat} {w : World} {p : Pl} {W : Int → Option Nat} (hm : m < 1000000) (h3 : PBox w pb lb mb m p) (h5 : Wok p.L W) (h6 : p.L.length = n) (k : Int) (hk : (Lit.int .i64 k).wf = true) :
    ((W k).isSome = true ∧ Calls Try.prog 12 #[.pointer (some ⟨pb, 0, none⟩), .int .i64 k] w fun e w' => e = .returned (.tuple #[.int .i64 0, frV Fr.zero, .bool false, .int .i64 3]) ∧ PBox w' pb lb mb m p ∧ Frm (Own pb lb mb) w w') ∨
    (W k = none ∧ ∃ (i : Nat) (p' : Pl), i < n ∧ (∀ j, W j ≠ some i) ∧ Wok p'.L (mset W k (some i)) ∧ p'.L.length = n ∧ usedN p'.L = usedN p.L + 1 ∧ Calls Try.prog 12 #[.pointer (some ⟨pb, 0, none⟩), .int .i64 k] w fun e w' => e = .returned (.tuple #[.int .i64 (i : Nat), frV Fr.zero, .bool false, .int .i64 0]) ∧ PBox w' pb lb mb (m + 1) p' ∧ Frm (Own pb lb mb) w w') ∨
    (W k = none ∧ ∃ (i : Nat) (xk : Int) (xd : Bool) (p' : Pl), i < n ∧ (Lit.int .i64 xk).wf = true ∧ W xk = some i ∧ (∀ j, j ≠ xk → W j ≠ some i) ∧ Wok p'.L (mset (mset W xk none) k (some i)) ∧ p'.L.length = n ∧ usedN p'.L = usedN p.L ∧ 1 ≤ usedN p.L ∧ Calls Try.prog 12 #[.pointer (some ⟨pb, 0, none⟩), .int .i64 k] w fun e w' => e = .returned (.tuple #[.int .i64 (i : Nat), frV ⟨xk, true, false, xd, 0⟩, .bool true, .int .i64 0]) ∧ PBox w' pb lb mb (m + 1) p' ∧ Frm (Own pb lb mb) w w') ∨
    (W k = none ∧ Calls Try.prog 12 #[.pointer (some ⟨pb, 0, none⟩), .int .i64 k] w fun e w' => e = .returned (.tuple #[.int .i64 0, frV Fr.zero, .bool false, .int .i64 10]) ∧ PBox w' pb lb mb m p ∧ Frm (Own pb lb mb) w w') := by
  have hhd := h3.ok.hand
  have hnn := h3.ok.n
  -- the pool's own map tells what W tells
  obtain ⟨W0, hM0, hW0⟩ := h3.map
  have hWe : W0 = W := by
    funext j
    cases hc : W j with
    | none =>
      cases hc0 : W0 j with
      | none => rfl
      | some i =>
        have := (h5 j i).2 ((hW0 j i).1 hc0)
        rw [hc] at this; cases this
    | some i => exact (hW0 j i).2 ((h5 j i).1 hc)
  subst hWe
  cases hi : W0 k with
  | some i =>
    refine Or.inl ⟨rfl, (take_used pb lb mb m p w h3 W0 hM0 k hk i hi).mono ?_⟩
    rintro e w' ⟨e1, e2⟩
    exact ⟨e1, h3.next e2, e2.mono fun j _ e => e.elim⟩
  | none =>
    refine Or.inr ?_
    by_cases hu : usedN p.L = p.L.length
    · have hall : ∀ x ∈ p.L, x.used = true := fun x hx => by
        obtain ⟨j, hj, rfl⟩ := List.getElem_of_mem hx
        exact usedN_all hu j hj
      refine Or.inr ?_
      by_cases hc : ∃ z, z < 2 * p.L.length ∧ cand p z = true
      · obtain ⟨z, ⟨hz, hzc⟩, hzn⟩ : ∃ z, (z < 2 * p.L.length ∧ cand p z = true) ∧ ∀ r, r < z → cand p r = false := by
          obtain ⟨z, z1, z2, z3⟩ := first_at (fun z => cand p z = true) _ hc
          exact ⟨z, ⟨z1, z2⟩, fun r hr => by simpa using z3 r hr⟩
        obtain ⟨i, hie⟩ : ∃ i, (p.hand + z) % p.L.length = i := ⟨_, rfl⟩
        have hiL : i < p.L.length := by rw [← hie]; exact Nat.mod_lt _ (by omega)
        obtain ⟨x, hx, hxu, hxp⟩ := cand_is hzc
        rw [hie] at hx
        have hxg := (List.getElem?_eq_some_iff.1 hx).2
        have hwx : W0 x.key = some i := (h5 _ _).2 ⟨x, hx, hxu, rfl⟩
        have hpl : (passL p.L p.hand (z + 1)).length = p.L.length := passL_length _ _ _
        have hip : i < (passL p.L p.hand (z + 1)).length := by rw [hpl]; exact hiL
        have hyx : (passL p.L p.hand (z + 1))[i] = clr x := by
          have := passL_get p.L p.hand i x hx (z + 1)
          rw [if_pos ⟨z, by omega, hie⟩, List.getElem?_eq_getElem hip] at this
          injection this
        have hcx : clr x = ⟨x.key, true, false, x.dirty, 0⟩ := by
          obtain ⟨a, b, c, d, e⟩ := x
          dsimp only at hxu hxp
          subst hxu hxp
          rfl
        refine Or.inl ⟨rfl, i, x.key, x.dirty, { p with L := (passL p.L p.hand (z + 1)).set i ⟨k, true, true, false, 0⟩, hand := (p.hand + z + 1) % p.L.length }, by omega, by rw [← hxg]; exact (h3.ok.num _ (List.getElem_mem hiL)).1, hwx, ?_, ?_, by show ((passL p.L p.hand (z + 1)).set _ _).length = n; rw [List.length_set, hpl]; exact h6, ?_, by omega, (take_all pb lb mb m hm p w h3 W0 hM0 hW0 k hk hi hu).mono ?_⟩
        · intro j hj hw
          obtain ⟨y, hy, _, hyk⟩ := (h5 j i).1 hw
          rw [hx] at hy
          injection hy with hy
          rw [← hy] at hyk
          exact hj hyk.symm
        · have hW1 := Wok.gone (h5.pass p.hand (z + 1)) i hip { (clr x) with used := false } (by rw [hyx, hcx]) rfl
          rw [hyx, hcx] at hW1
          have hN3 : mset W0 x.key none k = none := by unfold mset; split; rfl; exact hi
          have hW2 := Wok.fresh hW1 i (by rw [List.length_set]; exact hip) ⟨k, true, true, false, 0⟩ (by rw [List.getElem_set_self]) rfl hN3
          rw [List.set_set] at hW2
          exact hW2
        · rw [hu]
          have : usedN ((passL p.L p.hand (z + 1)).set i ⟨k, true, true, false, 0⟩) = ((passL p.L p.hand (z + 1)).set i ⟨k, true, true, false, 0⟩).length := usedN_full fun y hy => by
            rcases List.mem_or_eq_of_mem_set hy with h7 | h7
            · obtain ⟨j, hj, rfl⟩ := List.getElem_of_mem h7
              obtain ⟨x', hx', e | e⟩ := passL_at (List.getElem?_eq_getElem hj)
              · rw [e]; exact hall _ (List.mem_of_getElem? hx')
              · rw [e, (clr_facts x').1]; exact hall _ (List.mem_of_getElem? hx')
            · rw [h7]
          rw [this, List.length_set, hpl]
        · rintro e w' ⟨⟨q', x', hq', hc', hn', hx', e1, hP'⟩ | ⟨hall', _⟩, hF⟩
          · obtain rfl := cand_first hc' hn' hzc hzn
            rw [hie, hx] at hx'
            injection hx' with hx'
            rw [← hx', hcx, hie] at e1
            rw [hie] at hP'
            exact ⟨e1, hP', hF⟩
          · rw [hall' z hz] at hzc; cases hzc
      · have hcn : ∀ z, z < 2 * p.L.length → cand p z = false := fun z hz => by
          cases hcz : cand p z with
          | false => rfl
          | true => exact absurd ⟨z, hz, hcz⟩ hc
        refine Or.inr ⟨rfl, (take_all pb lb mb m hm p w h3 W0 hM0 hW0 k hk hi hu).mono ?_⟩
        rintro e w' ⟨⟨q', x', hq', hc', _⟩ | ⟨_, e1, hP'⟩, hF⟩
        · rw [hcn q' hq'] at hc'; cases hc'
        · exact ⟨e1, hP', hF⟩
    · refine Or.inl ?_
      obtain ⟨j0, hj0, hj0u⟩ := usedN_some hu
      obtain ⟨i, hiL, ⟨hi1, hi2⟩, hmin⟩ := first_at (fun j => ∃ hj : j < p.L.length, p.L[j].used = false) p.L.length ⟨j0, hj0, hj0, hj0u⟩
      refine ⟨rfl, i, { p with L := p.L.set i ⟨k, true, true, false, 0⟩, low := i }, by omega, ?_, h5.fresh i hi1 ⟨k, true, true, false, 0⟩ hi2 rfl hi, by show (p.L.set i _).length = n; rw [List.length_set]; exact h6, ?_, (take_new pb lb mb m hm p w h3 W0 hM0 hW0 k hk hi hu).mono ?_⟩
      · intro j hj
        obtain ⟨y, hy, hyu, _⟩ := (h5 j i).1 hj
        rw [List.getElem?_eq_getElem hi1] at hy
        injection hy with hy
        rw [← hy, hi2] at hyu; cases hyu
      · have := usedN_put p.L i hi1 ⟨k, true, true, false, 0⟩
        rw [hi2] at this
        simpa using this
      · rintro e w' ⟨i', e1, ⟨x', hx', hxu'⟩, hP', hF⟩
        have hbel : ∀ a, a < i' → ∃ y, p.L[a]? = some y ∧ y.used = true := fun a ha => by
          obtain ⟨y, hy, hyu⟩ := hP'.ok.low.2 a ha
          have hy : (p.L.set i' _)[a]? = some y := hy
          rw [List.getElem?_set, if_neg (by omega)] at hy
          exact ⟨y, hy, hyu⟩
        have hl' := (List.getElem?_eq_some_iff.1 hx').1
        have hg' := (List.getElem?_eq_some_iff.1 hx').2
        have : i' = i := by
          rcases Nat.lt_trichotomy i' i with h | h | h
          · exact absurd ⟨hl', by rw [hg']; exact hxu'⟩ (hmin i' h)
          · exact h
          · obtain ⟨y, hy, hyu⟩ := hbel i h
            rw [List.getElem?_eq_getElem hi1] at hy
            injection hy with hy
            rw [hy, hyu] at hi2; cases hi2
        subst this
        exact ⟨e1, hP', hF⟩
end Go.Proofs.Ytdbaidkepngjcaa
