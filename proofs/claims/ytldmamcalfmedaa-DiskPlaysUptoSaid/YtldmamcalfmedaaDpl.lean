/- Both disks, act by act: they answer alike. Conditions: none of its own. -/
import Derived.Test.YtldmamcalfmedaaDbc
import Derived.Test.YtldmamcalfmedaaDsl
namespace Go.Proofs.Ytldmamcalfmedaa
open Go.ChangeShapes Go.WideShapes Go.ChangeAt Go.RowKit Go.Maps
set_option linter.unusedSimpArgs false
set_option linter.unusedVariables false
/-- where a play stands behind q acts -/
def PInv (db kb mb rb rk base n size t q : Nat) (w : World) : Prop :=
  ∃ pb mm rl d kr, JBox w db kb mb pb mm rb rk rl d kr ∧ mm ≤ q ∧ base ≤ pb ∧ base ≤ rl ∧ d.n = n ∧ d.size = size ∧ d.pend.length ≤ q ∧ (0 ≤ d.writes ∧ d.writes ≤ (q : Int)) ∧ (0 ≤ d.reads ∧ d.reads ≤ (q : Int)) ∧ (d.armed = true → 1 ≤ d.left ∧ d.left ≤ 9223372036854775807) ∧ (∀ j, d.away j → base ≤ j) ∧ t < w.heap.size ∧ (∀ j, Own db kb mb pb j ∨ Own3 rb rk rl j → j ≠ t)
/-- the same, but for t -/
def PI0 (db kb mb rb rk base n size q : Nat) (w : World) : Prop :=
  ∃ pb mm rl d kr, JBox w db kb mb pb mm rb rk rl d kr ∧ mm ≤ q ∧ base ≤ pb ∧ base ≤ rl ∧ d.n = n ∧ d.size = size ∧ d.pend.length ≤ q ∧ (0 ≤ d.writes ∧ d.writes ≤ (q : Int)) ∧ (0 ≤ d.reads ∧ d.reads ≤ (q : Int)) ∧ (d.armed = true → 1 ≤ d.left ∧ d.left ≤ 9223372036854775807) ∧ (∀ j, d.away j → base ≤ j)
theorem PInv.zero {db kb mb rb rk base n size t q : Nat} {w : World} (h : PInv db kb mb rb rk base n size t q w) : PI0 db kb mb rb rk base n size q w := by
  obtain ⟨pb, mm, rl, d, kr, hJ, r1, r2, r3, r4, r5, r6, r7, r8, r9, r10, _⟩ := h
  exact ⟨pb, mm, rl, d, kr, hJ, r1, r2, r3, r4, r5, r6, r7, r8, r9, r10⟩
/-- what came in is as it was, and so is t -/
def Safe (base t : Nat) (w w' : World) : Prop := Below base w w' ∧ w'.heap[t]? = w.heap[t]?
theorem Frm.safe {O : Nat → Prop} {base t : Nat} {w w' : World} (h : Frm O w w') (hO : ∀ j, O j → base ≤ j) (hB : base ≤ w.heap.size) (ht : t < w.heap.size) (hn : ¬ O t) : Safe base t w w' := ⟨h.below hO hB, h.block t ht hn⟩
theorem PInv.next {db kb mb rb rk base n size t q : Nat} {w w' : World} (h : PInv db kb mb rb rk base n size t q w) (hF : Frm (fun _ => False) w w') : PInv db kb mb rb rk base n size t q w' := by
  obtain ⟨pb, mm, rl, d, kr, hJ, r1, r2, r3, r4, r5, r6, r7, r8, r9, r10, r11, r12⟩ := h
  exact ⟨pb, mm, rl, d, kr, hJ.next hF, r1, r2, r3, r4, r5, r6, r7, r8, r9, r10, Nat.lt_of_lt_of_le r11 hF.size, r12⟩
theorem PInv.more {db kb mb rb rk base n size t q q' : Nat} {w : World} (h : PInv db kb mb rb rk base n size t q w) (hq : q ≤ q') : PInv db kb mb rb rk base n size t q' w := by
  obtain ⟨pb, mm, rl, d, kr, hJ, h1, h2, h3, h4, h5, h6, h7, h8, h9, h10, h11, h12⟩ := h
  exact ⟨pb, mm, rl, d, kr, hJ, by omega, h2, h3, h4, h5, by omega, ⟨h7.1, by omega⟩, ⟨h8.1, by omega⟩, h9, h10, h11, h12⟩
structure Bases (db kb mb rb rk base : Nat) : Prop where
  d : base ≤ db
  k : base ≤ kb
  m : base ≤ mb
  r : base ≤ rb
  s : base ≤ rk
/-- a row that came in, or was made behind w0 -/
def Fresh (base : Nat) (w0 w : World) (v : Value) (xs : List Value) : Prop := ∀ M : Nat → Prop, (∀ j, j < base → ¬ M j) → (∀ j, w0.heap.size ≤ j → j < w.heap.size → ¬ M j) → RdX M w v xs
theorem rwriteD_same (d : Dk) (kr : List Bool) (Y : Nat → Prop) (s : Int) (bl : List UInt8) (hk : d.armed = true → kr = d.keep) : rwriteD { d with keep := kr, away := Y } s bl = { writeD d s bl with keep := kr, away := Y } := by
  unfold rwriteD writeD
  by_cases h1 : d.off = true
  · rw [if_pos h1, if_pos h1]
  · rw [if_neg h1, if_neg h1]
    by_cases h2 : badW d s bl
    · rw [if_pos h2, if_pos (show badW { d with keep := kr, away := Y } s bl from h2)]
    · rw [if_neg h2, if_neg (show ¬ badW { d with keep := kr, away := Y } s bl from h2)]
      by_cases h3 : d.armed = true ∧ d.left = 1
      · rw [if_pos h3, if_pos h3]
        have := hk h3.1
        subst this
        rfl
      · rw [if_neg h3, if_neg h3]
        rfl
theorem writeC_same (d : Dk) (kr : List Bool) (Y : Nat → Prop) (s : Int) (bl : List UInt8) : writeC { d with keep := kr, away := Y } s bl = writeC d s bl := by
  unfold writeC
  by_cases h1 : d.off = true
  · rw [if_pos h1, if_pos h1]
  · rw [if_neg h1, if_neg h1]
    by_cases h2 : badW d s bl
    · rw [if_pos h2, if_pos (show badW { d with keep := kr, away := Y } s bl from h2)]
    · rw [if_neg h2, if_neg (show ¬ badW { d with keep := kr, away := Y } s bl from h2)]
theorem writeD_facts (d : Dk) (s : Int) (bl : List UInt8) (kr : List Bool) (ha : d.armed = true → 1 ≤ d.left ∧ d.left ≤ 9223372036854775807) (hk : d.armed = true → kr = d.keep) : (writeD d s bl).away = d.away ∧ (writeD d s bl).n = d.n ∧ (writeD d s bl).size = d.size ∧ (writeD d s bl).pend.length ≤ d.pend.length + 1 ∧ (d.writes ≤ (writeD d s bl).writes ∧ (writeD d s bl).writes ≤ d.writes + 1) ∧ (writeD d s bl).reads = d.reads ∧ ((writeD d s bl).armed = true → 1 ≤ (writeD d s bl).left ∧ (writeD d s bl).left ≤ 9223372036854775807) ∧ ((writeD d s bl).armed = true → kr = (writeD d s bl).keep) := by
  unfold writeD
  by_cases h1 : d.off = true
  · rw [if_pos h1]
    exact ⟨rfl, rfl, rfl, by omega, by omega, rfl, ha, hk⟩
  · rw [if_neg h1]
    by_cases h2 : badW d s bl
    · rw [if_pos h2]
      exact ⟨rfl, rfl, rfl, by omega, by omega, rfl, ha, hk⟩
    · rw [if_neg h2]
      by_cases h3 : d.armed = true ∧ d.left = 1
      · rw [if_pos h3]
        refine ⟨rfl, rfl, rfl, ?_, ⟨?_, ?_⟩, rfl, fun e => ?_, fun e => ?_⟩
        · show ([] : List (Nat × List UInt8)).length ≤ _
          simp
        · show d.writes ≤ d.writes
          omega
        · show d.writes ≤ d.writes + 1
          omega
        · cases e
        · cases e
      · rw [if_neg h3]
        refine ⟨rfl, rfl, rfl, ?_, ⟨?_, ?_⟩, rfl, fun e => ?_, fun e => hk e⟩
        · show (d.pend ++ [(s.toNat, bl)]).length ≤ _
          simp
        · show d.writes ≤ d.writes + 1
          omega
        · show d.writes + 1 ≤ d.writes + 1
          omega
        · have e' : d.armed = true := e
          have h4 := ha e'
          have h5 : d.left ≠ 1 := fun x => h3 ⟨e', x⟩
          show 1 ≤ (if d.armed then d.left - 1 else d.left) ∧ (if d.armed then d.left - 1 else d.left) ≤ _
          rw [e']
          simp only [if_true]
          omega
section
variable {db kb mb rb rk base n size t q : Nat} {w : World}
theorem pwrite (hb : Bases db kb mb rb rk base) (h : PInv db kb mb rb rk base n size t q w) (hB : base ≤ w.heap.size) (hq : q ≤ 10000) (s : Int) (bl : List UInt8) :
    ∃ (c : Int) (Mid : World → Prop), (∀ w1 v, Frm (fun _ => False) w w1 → Fresh base w w1 v (bv bl) → Calls Try.prog 12 #[.pointer (some ⟨db, 0, none⟩), .int .i64 s, v] w1 fun e w' => e = .returned (.int .i64 c) ∧ Mid w' ∧ Safe base t w1 w') ∧
      (∀ w1 w2 v, Mid w1 → Frm (fun _ => False) w1 w2 → Fresh base w1 w2 v (bv bl) → Calls Try.prog 14 #[.pointer (some ⟨rb, 0, none⟩), .int .i64 s, v] w2 fun e w' => e = .returned (.int .i64 c) ∧ PInv db kb mb rb rk base n size t (q + 1) w' ∧ Safe base t w2 w') := by
  obtain ⟨pb, mm, rl, d, kr, hJ, h1, h2, h3, h4, h5, h6, h7, h8, h9, h10, h11, h12⟩ := h
  obtain ⟨f1, f2, f3, f4, f5, f6, f7, f8⟩ := writeD_facts d s bl kr h9 hJ.kk
  have hl := hJ.p.lt
  have hs := hJ.p.small
  have hlr := hJ.r.lt
  have hsr := hJ.r.small
  refine ⟨writeC d s bl, fun w1 => ∃ pb' mm', DBox w1 db kb mb pb' mm' (writeD d s bl) ∧ mm' ≤ mm + 1 ∧ (pb' = pb ∨ w.heap.size ≤ pb') ∧ w.heap.size ≤ w1.heap.size ∧ RBox w1 rb rk rl { d with keep := kr, away := fun j => Own db kb mb pb' j ∨ d.away j }, fun w1 v hF hv => ?_, fun w1 w2 v hM hF hv => ?_⟩
  · have hJ1 := hJ.next hF
    have hz1 := hF.size
    have hx : RdX (OwnX d.away db kb mb pb) w1 v (bv bl) := hv _ (fun j hj => by
      rintro (e | e)
      · have := hb.d; have := hb.k; have := hb.m; unfold Own at e; omega
      · have := h10 j e; omega) (fun j hj _ => by
      rintro (e | e)
      · unfold Own at e; omega
      · have := hJ.p.away j e; omega)
    refine (write_all db kb mb pb mm d w1 hJ1.p h9 s v bl hx (by omega) (by omega) ⟨h7.1, by omega⟩).mono ?_
    rintro e w' ⟨rfl, pb', mm', hD, hm, hp, hF'⟩
    have hz' := hF'.size
    refine ⟨rfl, ⟨pb', mm', hD, hm, by omega, by omega, hJ1.first hD.small hp hF'⟩, hF'.safe (by
      have := hb.d; have := hb.k; have := hb.m
      rintro j (e | e | e | e) <;> omega) (by omega) (by omega) (fun e => h12 t (Or.inl e) rfl)⟩
  · obtain ⟨pb', mm', hD, hm, hp, hz1, hR⟩ := hM
    have hz2 := hF.size
    have hD2 := hD.next hF
    have hR2 := hR.next hF
    have hl' := hD.lt
    have hs' := hD.small
    have hx : RdX (Own3X (fun j => Own db kb mb pb' j ∨ d.away j) rb rk rl) w2 v (bv bl) := hv _ (fun j hj => by
      have := hb.d; have := hb.k; have := hb.m; have := hb.r; have := hb.s
      rintro (e | e | e)
      · unfold Own3 at e; omega
      · unfold Own at e; omega
      · have := h10 j e; omega) (fun j hj _ => by
      rintro (e | e | e)
      · unfold Own3 at e; omega
      · unfold Own at e; omega
      · have := hJ.p.away j e; omega)
    refine (rwrite_all rb rk rl _ w2 hR2 (by exact h9) s v bl hx (by show d.pend.length ≤ _; omega) (by show 0 ≤ d.writes ∧ d.writes ≤ _; omega)).mono ?_
    rintro e w' ⟨rfl, rl', hR', hr, hF'⟩
    rw [rwriteD_same d kr _ s bl hJ.kk] at hR'
    rw [writeC_same]
    have hz' := hF'.size
    have hJ' := hJ.both (w1 := w2) hp (by omega) hD2 f1 hR' hr hF' f8
    have hbl : Safe base t w2 w' := hF'.safe (by
      have := hb.r; have := hb.s
      rintro j (e | e | e) <;> omega) (by omega) (by omega) (fun e => h12 t (Or.inr e) rfl)
    refine ⟨rfl, ⟨pb', mm', rl', _, kr, hJ', by omega, by omega, by omega, by show (writeD d s bl).n = n; rw [f2]; exact h4, by show (writeD d s bl).size = size; rw [f3]; exact h5, by show (writeD d s bl).pend.length ≤ _; omega, ⟨by show 0 ≤ (writeD d s bl).writes; omega, by show (writeD d s bl).writes ≤ _; omega⟩, ⟨by show 0 ≤ (writeD d s bl).reads; omega, by show (writeD d s bl).reads ≤ _; omega⟩, f7, ?_, by omega, fun j hj => by
      rcases hj with (e | e | e | e) | (e | e | e)
      · exact h12 j (Or.inl (Or.inl e))
      · exact h12 j (Or.inl (Or.inr (Or.inl e)))
      · exact h12 j (Or.inl (Or.inr (Or.inr (Or.inl e))))
      · rcases hp with e2 | e2
        · exact h12 j (Or.inl (Or.inr (Or.inr (Or.inr (e.trans e2)))))
        · omega
      · exact h12 j (Or.inr (Or.inl e))
      · exact h12 j (Or.inr (Or.inr (Or.inl e)))
      · rcases hr with e2 | e2
        · exact h12 j (Or.inr (Or.inr (Or.inr (e.trans e2))))
        · omega⟩, hbl⟩
    have := hb.d; have := hb.k; have := hb.m; have := hb.r; have := hb.s
    rintro j ((e | e | e | e) | (e | e | e)) <;> omega
/-- what an act leaves as it was -/
def Kept1 (d d1 : Dk) (kr' : List Bool) : Prop := d1.away = d.away ∧ d1.n = d.n ∧ d1.size = d.size ∧ d1.pend.length ≤ d.pend.length ∧ d1.writes = d.writes ∧ d1.reads = d.reads ∧ (d1.armed = true → 1 ≤ d1.left ∧ d1.left ≤ 9223372036854775807) ∧ (d1.armed = true → kr' = d1.keep)
/-- the program's call, then the document's -/
def Twin (db kb mb rb rk base n size t q : Nat) (w : World) (f1 f2 : FuncId) (A1 A2 : Array Value) (R : Value → Value → Prop) : Prop :=
  ∃ (x1 x2 : Value) (Mid : World → Prop), R x1 x2 ∧ (Calls Try.prog f1 A1 w fun e w' => e = .returned x1 ∧ Mid w' ∧ Safe base t w w') ∧
    ∀ w1, Mid w1 → Calls Try.prog f2 A2 w1 fun e w' => e = .returned x2 ∧ PInv db kb mb rb rk base n size t q w' ∧ Safe base t w1 w'
theorem ptwin (hb : Bases db kb mb rb rk base) (h : PInv db kb mb rb rk base n size t q w) (hB : base ≤ w.heap.size) {f1 f2 : FuncId} {A1 A2 : Array Value} {R : Value → Value → Prop}
    (hh : ∀ pb mm rl d kr, JBox w db kb mb pb mm rb rk rl d kr → d.pend.length ≤ q → d.n = n → d.size = size → (∀ j, d.away j → base ≤ j) → base ≤ pb → base ≤ rl → (d.armed = true → 1 ≤ d.left ∧ d.left ≤ 9223372036854775807) → ∃ (x1 x2 : Value) (d1 : Dk) (kr' : List Bool), R x1 x2 ∧ Kept1 d d1 kr' ∧
      (Calls Try.prog f1 A1 w fun e w' => e = .returned x1 ∧ DBox w' db kb mb pb mm d1 ∧ Frm (Own db kb mb pb) w w') ∧
      ∀ w1 Y, RBox w1 rb rk rl { d with keep := kr, away := Y } → Below base w w1 → Calls Try.prog f2 A2 w1 fun e w' => e = .returned x2 ∧ RBox w' rb rk rl { d1 with keep := kr', away := Y } ∧ Frm (Own3 rb rk rl) w1 w') :
    Twin db kb mb rb rk base n size t q w f1 f2 A1 A2 R := by
  obtain ⟨pb, mm, rl, d, kr, hJ, h1, h2, h3, h4, h5, h6, h7, h8, h9, h10, h11, h12⟩ := h
  obtain ⟨x1, x2, d1, kr', hR, ⟨g1, g2, g3, g4, g5, g6, g7, g8⟩, c1, c2⟩ := hh pb mm rl d kr hJ h6 h4 h5 h10 h2 h3 h9
  have hs := hJ.p.small
  refine ⟨x1, x2, fun w1 => DBox w1 db kb mb pb mm d1 ∧ Below base w w1 ∧ w.heap.size ≤ w1.heap.size ∧ RBox w1 rb rk rl { d with keep := kr, away := fun j => Own db kb mb pb j ∨ d.away j }, hR, c1.mono ?_, fun w1 hM => ?_⟩
  · rintro e w' ⟨rfl, hD, hF⟩
    have hbl : Safe base t w w' := hF.safe (by
      have := hb.d; have := hb.k; have := hb.m
      rintro j (e | e | e | e) <;> omega) hB h11 (fun e => h12 t (Or.inl e) rfl)
    exact ⟨rfl, ⟨hD, hbl.1, hF.size, hJ.first hD.small (Or.inl rfl) hF⟩, hbl⟩
  · obtain ⟨hD, hbl, hz1, hR1⟩ := hM
    refine (c2 w1 _ hR1 hbl).mono ?_
    rintro e w' ⟨rfl, hR', hF'⟩
    have hJ' := hJ.both (w1 := w1) (Or.inl rfl) hz1 hD g1 hR' (Or.inl rfl) hF' g8
    have hbl' : Safe base t w1 w' := hF'.safe (by
      have := hb.r; have := hb.s
      rintro j (e | e | e) <;> omega) (by omega) (by omega) (fun e => h12 t (Or.inr e) rfl)
    have hz3 := hF'.size
    refine ⟨rfl, ⟨pb, mm, rl, _, kr', hJ', h1, h2, h3, by show d1.n = n; rw [g2]; exact h4, by show d1.size = size; rw [g3]; exact h5, by show d1.pend.length ≤ _; omega, ⟨by show 0 ≤ d1.writes; omega, by show d1.writes ≤ _; omega⟩, ⟨by show 0 ≤ d1.reads; omega, by show d1.reads ≤ _; omega⟩, g7, ?_, by omega, h12⟩, hbl'⟩
    have := hb.d; have := hb.k; have := hb.m; have := hb.r; have := hb.s
    rintro j ((e | e | e | e) | (e | e | e)) <;> omega
theorem pflush (hb : Bases db kb mb rb rk base) (h : PInv db kb mb rb rk base n size t q w) (hB : base ≤ w.heap.size) (hq : q ≤ 10000) :
    Twin db kb mb rb rk base n size t q w 15 16 #[.pointer (some ⟨db, 0, none⟩)] #[.pointer (some ⟨rb, 0, none⟩)] (fun x y => x = y ∧ ∃ c : Int, x = .int .i64 c) := by
  refine ptwin hb h hB fun pb mm rl d kr hJ h6 h4 h5 h10 h2 h3 h9 => ?_
  by_cases ho : d.off = true
  · refine ⟨.int .i64 8, .int .i64 8, d, kr, ⟨rfl, _, rfl⟩, ⟨rfl, rfl, rfl, Nat.le_refl _, rfl, rfl, h9, hJ.kk⟩, (flush_off db kb mb pb mm d w hJ.p ho).mono ?_, fun w1 Y hR _ => (rflush_off rb rk rl _ w1 hR ho).mono ?_⟩
    · rintro e w' ⟨rfl, rfl⟩
      exact ⟨rfl, hJ.p, Frm.refl _ _⟩
    · rintro e w' ⟨rfl, rfl⟩
      exact ⟨rfl, hR, Frm.refl _ _⟩
  · have ho' : d.off = false := by simpa using ho
    refine ⟨.int .i64 0, .int .i64 0, flushD d, kr, ⟨rfl, _, rfl⟩, ⟨rfl, rfl, rfl, Nat.zero_le _, rfl, rfl, h9, hJ.kk⟩, (flush_on db kb mb pb mm d w hJ.p ho' (by omega)).mono ?_, fun w1 Y hR _ => (rflush_on rb rk rl _ w1 hR ho' (by show d.pend.length ≤ _; omega)).mono ?_⟩
    · rintro e w' ⟨rfl, hD, hF⟩
      exact ⟨rfl, hD, hF.mono (by rintro j _ (e | e | e); exact Or.inl e; exact Or.inr (Or.inl e); exact Or.inr (Or.inr (Or.inl e)))⟩
    · rintro e w' ⟨rfl, hR', hF⟩
      exact ⟨rfl, hR', hF.mono (by rintro j _ (e | e); exact Or.inl e; exact Or.inr (Or.inl e))⟩
theorem pcut (hb : Bases db kb mb rb rk base) (h : PInv db kb mb rb rk base n size t q w) (hB : base ≤ w.heap.size) (hq : q ≤ 10000) (v : Value) (bs : List Bool) (hv : RdV w base v (boolV bs)) :
    Twin db kb mb rb rk base n size t q w 19 20 #[.pointer (some ⟨db, 0, none⟩), v] #[.pointer (some ⟨rb, 0, none⟩), v] (fun x y => x = .tuple #[] ∧ y = .tuple #[]) := by
  refine ptwin hb h hB fun pb mm rl d kr hJ h6 h4 h5 h10 h2 h3 h9 => ?_
  refine ⟨_, _, cutD d bs, kr, ⟨rfl, rfl⟩, ⟨rfl, rfl, rfl, Nat.zero_le _, rfl, rfl, fun e => (by cases e), fun e => (by cases e)⟩, (cut_any db kb mb pb mm d w hJ.p v bs (RdX.of_rd hv hB (fun j hj => by
      have := hb.d; have := hb.k; have := hb.m
      rintro (e | e)
      · unfold Own at e; omega
      · have := h10 j e; omega)) (by omega)).mono ?_, fun w1 Y hR hbl => (rcut_any rb rk rl _ w1 hR v bs (RdX.of_rd (hv.below hbl) (Nat.le_trans hB hbl.size) (fun j hj => by
      have := hb.r; have := hb.s
      rintro (e | e) <;> omega)) (by show d.pend.length ≤ _; omega)).mono ?_⟩
  · rintro e w' ⟨rfl, hD, hF⟩
    exact ⟨rfl, hD, hF.mono (by rintro j _ (e | e | e); exact Or.inl e; exact Or.inr (Or.inl e); exact Or.inr (Or.inr (Or.inl e)))⟩
  · rintro e w' ⟨rfl, hR', hF⟩
    exact ⟨rfl, hR', hF.mono (by rintro j _ (e | e); exact Or.inl e; exact Or.inr (Or.inl e))⟩
theorem parm (hb : Bases db kb mb rb rk base) (h : PInv db kb mb rb rk base n size t q w) (hB : base ≤ w.heap.size) (hq : q ≤ 10000) (a : Int) (ha : a ≤ 9223372036854775807) (v : Value) (bs : List Bool) (hv : RdV w base v (boolV bs)) (hl : bs.length ≤ 1000000000) :
    Twin db kb mb rb rk base n size t q w 17 18 #[.pointer (some ⟨db, 0, none⟩), .int .i64 a, v] #[.pointer (some ⟨rb, 0, none⟩), .int .i64 a, v] (fun x y => x = .tuple #[] ∧ y = .tuple #[]) := by
  refine ptwin hb h hB fun pb mm rl d kr hJ h6 h4 h5 h10 h2 h3 h9 => ?_
  refine ⟨_, _, armD d a bs, bs, ⟨rfl, rfl⟩, ⟨rfl, rfl, rfl, Nat.le_refl _, rfl, rfl, fun e => ?_, fun e => rfl⟩, (arm_any db kb mb pb mm d w hJ.p a v bs base hv hl).mono ?_, fun w1 Y hR hbl => (rarm_any rb rk rl _ w1 hR a v bs (RdX.of_rd (hv.below hbl) (Nat.le_trans hB hbl.size) (fun j hj e => by
      have := hb.r; omega)) hl).mono ?_⟩
  · show 1 ≤ max a 1 ∧ max a 1 ≤ _
    omega
  · rintro e w' ⟨rfl, hD, hF⟩
    exact ⟨rfl, hD, hF.mono (fun j _ e => Or.inl e)⟩
  · rintro e w' ⟨rfl, hR', hF⟩
    exact ⟨rfl, hR', hF.mono (fun j _ e => Or.inl e)⟩
theorem pburst (hb : Bases db kb mb rb rk base) (h : PInv db kb mb rb rk base n size t q w) (hB : base ≤ w.heap.size) (hq : q ≤ 10000) (s bit : Int) (hb1 : bit ≤ 9223372036854775807) (p : Nat) (hp : p < 4294967296) :
    Twin db kb mb rb rk base n size t q w 22 23 #[.pointer (some ⟨db, 0, none⟩), .int .i64 s, .int .i64 bit, .int .u32 p] #[.pointer (some ⟨rb, 0, none⟩), .int .i64 s, .int .i64 bit, .int .u32 p] (fun x y => x = y ∧ ∃ b : Bool, x = .bool b) := by
  refine ptwin hb h hB fun pb mm rl d kr hJ h6 h4 h5 h10 h2 h3 h9 => ?_
  by_cases hbad : ¬ (0 ≤ s ∧ s < (d.n : Nat)) ∨ bit < 0
  · refine ⟨.bool false, .bool false, d, kr, ⟨rfl, _, rfl⟩, ⟨rfl, rfl, rfl, Nat.le_refl _, rfl, rfl, h9, hJ.kk⟩, (dburst_bad db kb mb pb mm d w hJ.p s bit p hbad).mono ?_, fun w1 Y hR _ => (rburst_bad rb rk rl _ w1 hR s bit p hbad).mono ?_⟩
    · rintro e w' ⟨rfl, k, rfl⟩
      exact ⟨rfl, hJ.p.next (Frm.drewN _ _), Frm.drewN _ _⟩
    · rintro e w' ⟨rfl, rfl⟩
      exact ⟨rfl, hR, Frm.refl _ _⟩
  · have hs : 0 ≤ s ∧ s < (d.n : Nat) := by
      by_cases h0 : 0 ≤ s ∧ s < (d.n : Nat)
      · exact h0
      · exact absurd (Or.inl h0) hbad
    have hb0 : 0 ≤ bit := by
      by_cases h0 : bit < 0
      · exact absurd (Or.inr h0) hbad
      · omega
    obtain ⟨s, rfl⟩ := Int.eq_ofNat_of_zero_le hs.1
    refine ⟨.bool true, .bool true, burstD d s bit p, kr, ⟨rfl, _, rfl⟩, ⟨rfl, rfl, rfl, by show (d.pend.map _).length ≤ _; simp, rfl, rfl, h9, hJ.kk⟩, (dburst_ok db kb mb pb mm d w hJ.p s (by omega) bit hb0 hb1 p hp (by omega)).mono ?_, fun w1 Y hR _ => (rburst_ok rb rk rl _ w1 hR s (by show s < d.n; omega) bit hb0 hb1 p hp (by show d.pend.length ≤ _; omega)).mono ?_⟩
    · rintro e w' ⟨rfl, hD, hF⟩
      exact ⟨rfl, hD, hF.mono (by rintro j _ (e | e); exact Or.inr (Or.inl e); exact Or.inr (Or.inr (Or.inr e)))⟩
    · rintro e w' ⟨rfl, hR', hF⟩
      exact ⟨rfl, hR', hF.mono (by rintro j _ (e | e); exact Or.inr (Or.inl e); exact Or.inr (Or.inr e))⟩
theorem pon (hb : Bases db kb mb rb rk base) (h : PInv db kb mb rb rk base n size t q w) (hB : base ≤ w.heap.size) :
    ∃ Mid : World → Prop, (Calls Try.prog 21 #[.pointer (some ⟨db, 0, none⟩)] w fun e w' => e = .returned (.tuple #[]) ∧ Mid w' ∧ Safe base t w w') ∧
      ∀ w1, Mid w1 → (∃ b, w1.cell? ⟨rb, 4, none⟩ = some (.bool b)) ∧ w1.frozen? ⟨rb, 4, none⟩ = false ∧ PInv db kb mb rb rk base n size t q (w1.setCell ⟨rb, 4, none⟩ (.bool false)) ∧ Safe base t w1 (w1.setCell ⟨rb, 4, none⟩ (.bool false)) := by
  obtain ⟨pb, mm, rl, d, kr, hJ, h1, h2, h3, h4, h5, h6, h7, h8, h9, h10, h11, h12⟩ := h
  have hs := hJ.p.small
  refine ⟨fun w1 => DBox w1 db kb mb pb mm { d with off := false } ∧ Below base w w1 ∧ w.heap.size ≤ w1.heap.size ∧ RBox w1 rb rk rl { d with keep := kr, away := fun j => Own db kb mb pb j ∨ d.away j }, (on_any db kb mb pb mm d w hJ.p).mono ?_, fun w1 hM => ?_⟩
  · rintro e w' ⟨rfl, hD, hF⟩
    have hbl : Safe base t w w' := hF.safe (by
      have := hb.d
      rintro j e; omega) hB h11 (fun e => h12 t (Or.inl (Or.inl e)) rfl)
    exact ⟨rfl, ⟨hD, hbl.1, hF.size, hJ.first hD.small (Or.inl rfl) (hF.mono fun j _ e => Or.inl e)⟩, hbl⟩
  · obtain ⟨hD, hbl, hz1, hR1⟩ := hM
    obtain ⟨_, _, _, _, _, _, _, _, _, _, _, _, c4, _, _, _, _, fr⟩ := hR1.at
    have hF' : Frm (fun j => j = rb) w1 (w1.setCell ⟨rb, 4, none⟩ (.bool false)) := (Frm.refl (fun j => j = rb) w1).setCell rb 4 (Or.inl rfl) _
    have hR' : RBox (w1.setCell ⟨rb, 4, none⟩ (.bool false)) rb rk rl { ({ d with off := false } : Dk) with keep := kr, away := fun j => Own db kb mb pb j ∨ d.away j } := hR1.turn hF' (fun _ _ _ h1 => heap_setCell_same w1 rb 4 _ _ _ h1) rfl rfl rfl rfl rfl
    have hJ' := hJ.both (w1 := w1) (Or.inl rfl) hz1 hD rfl hR' (Or.inl rfl) (hF'.mono fun j _ e => Or.inl e) hJ.kk
    refine ⟨⟨_, c4⟩, fr 4, ⟨pb, mm, rl, _, kr, hJ', h1, h2, h3, h4, h5, h6, h7, h8, h9, ?_, Nat.lt_of_lt_of_le h11 (Nat.le_trans hz1 hF'.size), h12⟩, hF'.safe (by
      have := hb.r
      rintro j e; omega) (by omega) (by omega) (fun e => h12 t (Or.inr (Or.inl e)) rfl)⟩
    have := hb.d; have := hb.k; have := hb.m; have := hb.r; have := hb.s
    rintro j ((e | e | e | e) | (e | e | e)) <;> omega
theorem psame (hb : Bases db kb mb rb rk base) (h : PInv db kb mb rb rk base n size t q w) (hB : base ≤ w.heap.size) (hq : q ≤ 10000) (s : Int) :
    Calls Try.prog 24 #[.pointer (some ⟨db, 0, none⟩), .pointer (some ⟨rb, 0, none⟩), .int .i64 s] w fun e w' => e = .returned (.bool true) ∧ PInv db kb mb rb rk base n size t (q + 1) w' ∧ Safe base t w w' := by
  obtain ⟨pb, mm, rl, d, kr, hJ, h1, h2, h3, h4, h5, h6, h7, h8, h9, h10, h11, h12⟩ := h
  refine (same_any db kb mb pb mm rb rk rl d kr w hJ s ⟨h8.1, by omega⟩ (by omega)).mono ?_
  rintro e w' ⟨rfl, hJ', hF⟩
  obtain ⟨x1, x2, x3, x4, x5, x6, x7, x8, x9, x10, x11⟩ := lookD_facts d s
  refine ⟨rfl, ⟨pb, mm, rl, _, kr, hJ', by omega, h2, h3, by rw [x7]; exact h4, by rw [x8]; exact h5, by rw [x3]; omega, by rw [x4]; omega, by omega, by rw [x9, x10]; exact h9, by rw [x1]; exact h10, Nat.lt_of_lt_of_le h11 hF.size, h12⟩, hF.safe (by
    have := hb.d; have := hb.r
    rintro j (e | e) <;> omega) hB h11 (by
    rintro (e | e)
    · exact h12 t (Or.inl (Or.inl e)) rfl
    · exact h12 t (Or.inr (Or.inl e)) rfl)⟩
theorem PI0.fresh (h : PI0 db kb mb rb rk base n size q w) (o : Obj) : PInv db kb mb rb rk base n size w.heap.size q (w.alloc o) := by
  obtain ⟨pb, mm, rl, d, kr, hJ, r1, r2, r3, r4, r5, r6, r7, r8, r9, r10⟩ := h
  have l1 := hJ.p.lt
  have l2 := hJ.p.small
  have l3 := hJ.r.lt
  have l4 := hJ.r.small
  exact ⟨pb, mm, rl, d, kr, hJ.next ((Frm.refl (fun _ => False) w).alloc o), r1, r2, r3, r4, r5, r6, r7, r8, r9, r10, by simp, by unfold Own Own3; omega⟩
end
end Go.Proofs.Ytldmamcalfmedaa
