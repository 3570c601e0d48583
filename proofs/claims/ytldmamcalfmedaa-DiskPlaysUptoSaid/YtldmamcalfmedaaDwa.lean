/- The disk: Write, whatever is asked; what a cut leaves in a sector. Conditions: none. -/
import Derived.Test.YtldmamcalfmedaaDat
namespace Go.Proofs.Ytldmamcalfmedaa
open Go.ChangeShapes Go.WideShapes Go.ChangeAt Go.RowKit Go.Maps
set_option linter.unusedSimpArgs false
set_option linter.unusedVariables false
def badW (d : Dk) (s : Int) (bl : List UInt8) : Prop := ¬ (0 ≤ s ∧ s < (d.n : Nat)) ∨ bl.length ≠ d.size
instance (d : Dk) (s : Int) (bl : List UInt8) : Decidable (badW d s bl) := by unfold badW; infer_instance
def writeC (d : Dk) (s : Int) (bl : List UInt8) : Int := if d.off = true then 8 else if badW d s bl then 1 else if d.armed = true ∧ d.left = 1 then 8 else 0
def writeD (d : Dk) (s : Int) (bl : List UInt8) : Dk := if d.off = true then d else if badW d s bl then d else if d.armed = true ∧ d.left = 1 then cutD d d.keep else wroteD d s.toNat bl
theorem write_all (db kb mb pb mm : Nat) (d : Dk) (w : World) (h : DBox w db kb mb pb mm d) (ha : d.armed = true → 1 ≤ d.left ∧ d.left ≤ 9223372036854775807) (s : Int) (v : Value) (bl : List UInt8) (hv : RdX (OwnX d.away db kb mb pb) w v (bv bl)) (hpl : d.pend.length ≤ 1000000) (hmm : mm < 1000000) (hwr : 0 ≤ d.writes ∧ d.writes ≤ 1000000000000) :
    Calls Try.prog 12 #[.pointer (some ⟨db, 0, none⟩), .int .i64 s, v] w fun e w' => e = .returned (.int .i64 (writeC d s bl)) ∧ ∃ pb' mm', DBox w' db kb mb pb' mm' (writeD d s bl) ∧ mm' ≤ mm + 1 ∧ (pb' = pb ∨ w.heap.size ≤ pb') ∧ Frm (Own db kb mb pb) w w' := by
  unfold writeC writeD
  by_cases ho : d.off = true
  · simp only [if_pos ho]
    refine (write_off db kb mb pb mm d w h ho s v).mono ?_
    rintro e w' ⟨rfl, rfl⟩
    exact ⟨rfl, pb, mm, h, by omega, Or.inl rfl, Frm.refl _ _⟩
  · simp only [if_neg ho]
    have ho' : d.off = false := by simpa using ho
    by_cases hb : badW d s bl
    · simp only [if_pos hb]
      refine (write_bad db kb mb pb mm d w h ho' s v 0 _ (bv bl) hv.rd (by rw [bv_length]; exact hb)).mono ?_
      rintro e w' ⟨rfl, k, rfl⟩
      exact ⟨rfl, pb, mm, h.next (Frm.drewN _ _), by omega, Or.inl rfl, Frm.drewN _ _⟩
    · simp only [if_neg hb]
      unfold badW at hb
      have hs : 0 ≤ s ∧ s < (d.n : Nat) := by
        by_cases h0 : 0 ≤ s ∧ s < (d.n : Nat)
        · exact h0
        · exact absurd (Or.inl h0) hb
      have hl : bl.length = d.size := by
        by_cases h0 : bl.length = d.size
        · exact h0
        · exact absurd (Or.inr h0) hb
      by_cases hx : d.armed = true ∧ d.left = 1
      · simp only [if_pos hx]
        refine (write_cut db kb mb pb mm d w h ho' hx.1 hx.2 s hs v 0 _ (bv bl) hv.rd (by rw [bv_length]; exact hl) hpl).mono ?_
        rintro e w' ⟨rfl, hD, hF⟩
        exact ⟨rfl, pb, mm, hD, by omega, Or.inl rfl, hF.mono (by rintro j _ (h | h | h); exact Or.inl h; exact Or.inr (Or.inl h); exact Or.inr (Or.inr (Or.inl h)))⟩
      · simp only [if_neg hx]
        obtain ⟨n, rfl⟩ := Int.eq_ofNat_of_zero_le hs.1
        refine (write_ok db kb mb pb mm d w h ho' (fun e => by
          have := ha e
          have h1 : d.left ≠ 1 := fun e2 => hx ⟨e, e2⟩
          omega) n (by omega) v bl hv hl hpl hmm hwr).mono ?_
        rintro e w' ⟨rfl, pb', hD, hp, hF⟩
        exact ⟨rfl, pb', mm + 1, hD, Nat.le_refl _, hp, hF⟩
/-- a sector of what is kept -/
def slS (size : Nat) (K : List UInt8) (i : Nat) : List UInt8 := (K.drop (i * size)).take size
theorem slS_lay (size : Nat) (K : List UInt8) (n p i : Nat) (b : List UInt8) (hK : K.length = n * size) (hb : b.length = size) (hp : p < n) (hi : i < n) : slS size (layP size K (p, b)) i = if i = p then b else slS size K i := by
  have h1 : (p + 1) * size ≤ n * size := Nat.mul_le_mul_right _ hp
  have h2 : (i + 1) * size ≤ n * size := Nat.mul_le_mul_right _ hi
  rw [Nat.add_mul] at h1 h2
  apply List.ext_getElem?
  intro j
  unfold slS layP
  simp only [List.getElem?_take, List.getElem?_drop, List.append_assoc]
  by_cases hj : j < size
  · rw [if_pos hj]
    by_cases e : i = p
    · subst e
      rw [if_pos rfl, List.getElem?_append_right (by simp; omega), List.getElem?_append_left (by simp; omega)]
      congr 1
      simp
      omega
    · rw [if_neg e]
      simp only [List.getElem?_take, List.getElem?_drop, if_pos hj]
      rcases Nat.lt_or_gt_of_ne e with h | h
      · have : (i + 1) * size ≤ p * size := Nat.mul_le_mul_right _ h
        rw [Nat.add_mul] at this
        rw [List.getElem?_append_left (by simp; omega), List.getElem?_take, if_pos (by omega)]
      · have : (p + 1) * size ≤ i * size := Nat.mul_le_mul_right _ h
        rw [Nat.add_mul] at this
        rw [List.getElem?_append_right (by simp; omega), List.getElem?_append_right (by simp; omega), List.getElem?_drop]
        congr 1
        simp
        omega
  · rw [if_neg hj]
    by_cases e : i = p
    · rw [if_pos e, List.getElem?_eq_none (by omega)]
    · rw [if_neg e]
      simp only [List.getElem?_take, if_neg hj]
/-- behind a cut a sector has what was kept, or one of the pending writes -/
theorem slS_set (size : Nat) (kp : Nat → Bool) (n i : Nat) (hi : i < n) : ∀ (l : List (Nat × List UInt8)) (m : Nat) (K : List UInt8), K.length = n * size → (∀ p ∈ l, p.1 < n ∧ p.2.length = size) → slS size (setL size kp l m K) i = slS size K i ∨ ∃ p ∈ l, p.1 = i ∧ slS size (setL size kp l m K) i = p.2
  | [], _, _, _, _ => Or.inl rfl
  | p :: r, m, K, hK, hl => by
    have hp := hl p (List.mem_cons_self ..)
    have hlen : (if kp m then layP size K p else K).length = n * size := by
      split
      · rw [show p = (p.1, p.2) from rfl]
        have := setL_length kp [p] 0 K hK (fun q hq => by rw [List.mem_singleton.1 hq]; exact hp)
        have h1 : (p.1 + 1) * size ≤ n * size := Nat.mul_le_mul_right _ hp.1
        rw [Nat.add_mul] at h1
        unfold layP
        simp only [List.length_append, List.length_take, List.length_drop, hK, hp.2]
        omega
      · exact hK
    show slS size (setL size kp r (m + 1) (if kp m then layP size K p else K)) i = _ ∨ _
    rcases slS_set size kp n i hi r (m + 1) _ hlen (fun q hq => hl q (List.mem_cons_of_mem _ hq)) with h | ⟨q, hq, h1, h2⟩
    · by_cases hk : kp m = true
      · rw [if_pos hk, show p = (p.1, p.2) from rfl, slS_lay size K n p.1 i p.2 hK hp.2 hp.1 hi] at h
        by_cases e : i = p.1
        · rw [if_pos e] at h
          exact Or.inr ⟨p, List.mem_cons_self .., e.symm, by rw [show setL size kp (p :: r) m K = setL size kp r (m + 1) (if kp m then layP size K p else K) from rfl, if_pos hk]; exact h⟩
        · rw [if_neg e] at h
          exact Or.inl (by rw [if_pos hk]; exact h)
      · rw [if_neg hk] at h ⊢
        exact Or.inl h
    · exact Or.inr ⟨q, List.mem_cons_of_mem _ hq, h1, h2⟩
/-- what of acts is pending -/
def dataP (n size : Nat) (l : List Ac) : List (Nat × List UInt8) := l.filterMap fun x => if 0 ≤ x.sec ∧ x.sec < ((n : Nat) : Int) ∧ (dataB x size).length = size then some (x.sec.toNat, dataB x size) else none
theorem dataP_snoc (n size : Nat) (l : List Ac) (x : Ac) : dataP n size (l ++ [x]) = dataP n size l ++ if 0 ≤ x.sec ∧ x.sec < ((n : Nat) : Int) ∧ (dataB x size).length = size then [(x.sec.toNat, dataB x size)] else [] := by
  unfold dataP
  rw [List.filterMap_append]
  congr 1
  by_cases h : 0 ≤ x.sec ∧ x.sec < ((n : Nat) : Int) ∧ (dataB x size).length = size
  · rw [if_pos h]; simp [h]
  · rw [if_neg h]; simp [h]
theorem dataP_mem {n size : Nat} {l : List Ac} {p : Nat × List UInt8} (h : p ∈ dataP n size l) : ∃ x ∈ l, x.sec = (p.1 : Nat) ∧ dataB x size = p.2 := by
  obtain ⟨x, hx, hp⟩ := List.mem_filterMap.1 h
  by_cases hc : 0 ≤ x.sec ∧ x.sec < ((n : Nat) : Int) ∧ (dataB x size).length = size
  · rw [if_pos hc] at hp
    injection hp with hp
    subst hp
    exact ⟨x, hx, by simp; omega, rfl⟩
  · rw [if_neg hc] at hp; cases hp
theorem dataP_length (n size : Nat) (l : List Ac) : (dataP n size l).length ≤ l.length := List.length_filterMap_le _ _
end Go.Proofs.Ytldmamcalfmedaa
