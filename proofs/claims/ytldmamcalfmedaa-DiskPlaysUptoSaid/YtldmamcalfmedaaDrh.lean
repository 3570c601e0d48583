/- Both disks: New where it refuses; the document's keep. Conditions: none. -/
import Derived.Test.YtldmamcalfmedaaDrg
namespace Go.Proofs.Ytldmamcalfmedaa
open Go.ChangeShapes Go.WideShapes Go.ChangeAt Go.RowKit Go.Maps
set_option linter.unusedSimpArgs false
set_option linter.unusedVariables false
/-- what New refuses -/
def badNew (n size : Int) : Prop := n < 1 ∨ 65536 < n ∨ size < 64 ∨ 4096 < size
set_option maxRecDepth 100000 in
theorem rnew_bad (n size : Int) (h : badNew n size) (w : World) : Calls Try.prog 11 #[.int .i64 n, .int .i64 size] w fun e w' => e = .returned (.tuple #[.pointer none, .int .i64 1]) ∧ w = w' := by
  unfold badNew at h
  by_cases h1 : n < 1
  · clear h
    go_enter Try.func11, Try.ntmps11
    go_wp2
    go_ret2
    exact ⟨rfl, rfl⟩
  by_cases h2 : 65536 < n
  · clear h
    go_enter Try.func11, Try.ntmps11
    go_wp2
    go_ret2
    exact ⟨rfl, rfl⟩
  by_cases h3 : size < 64
  · clear h
    go_enter Try.func11, Try.ntmps11
    go_wp2
    go_ret2
    exact ⟨rfl, rfl⟩
  · have h4 : 4096 < size := by omega
    clear h
    go_enter Try.func11, Try.ntmps11
    go_wp2
    go_ret2
    exact ⟨rfl, rfl⟩
set_option maxRecDepth 100000 in
theorem dnew_bad (n size : Int) (h : badNew n size) (w : World) : Calls Try.prog 10 #[.int .i64 n, .int .i64 size] w fun e w' => e = .returned (.tuple #[.pointer none, .int .i64 1]) ∧ w = w' := by
  unfold badNew at h
  have HR := Lib.hid (right_any size w)
  by_cases hs : 64 ≤ size ∧ size ≤ 4096
  · rw [decide_eq_true hs] at HR
    by_cases h1 : n < 1
    · clear h
      go_enter Try.func10, Try.ntmps10
      go_wp2_with fail
      refine HR.out.mono ?_
      rintro e w1 ⟨rfl, rfl⟩
      go_wp2
      go_ret2
      exact ⟨rfl, rfl⟩
    · have h2 : 65536 < n := by omega
      clear h
      go_enter Try.func10, Try.ntmps10
      go_wp2_with fail
      refine HR.out.mono ?_
      rintro e w1 ⟨rfl, rfl⟩
      go_wp2
      go_ret2
      exact ⟨rfl, rfl⟩
  · rw [decide_eq_false hs] at HR
    clear h hs
    go_enter Try.func10, Try.ntmps10
    go_wp2_with fail
    refine HR.out.mono ?_
    rintro e w1 ⟨rfl, rfl⟩
    go_wp2
    go_ret2
    exact ⟨rfl, rfl⟩
/-- the first i bytes of a write laid -/
def layI (size : Nat) (K : List UInt8) (s : Nat) (b : List UInt8) (i : Nat) : List UInt8 := K.take (s * size) ++ b.take i ++ K.drop (s * size + i)
theorem layI_zero (size : Nat) (K : List UInt8) (s : Nat) (b : List UInt8) : layI size K s b 0 = K := by
  unfold layI; rw [List.take_zero, List.append_nil, Nat.add_zero, List.take_append_drop]
theorem layI_all (size : Nat) (K : List UInt8) (s : Nat) (b : List UInt8) (hb : b.length = size) : layI size K s b size = layP size K (s, b) := by
  unfold layI layP; rw [← hb, List.take_length]
theorem layI_length {size n : Nat} {K : List UInt8} {s : Nat} {b : List UInt8} (hK : K.length = n * size) (hs : s < n) (hb : b.length = size) (i : Nat) (hi : i ≤ size) : (layI size K s b i).length = n * size := by
  have : (s + 1) * size ≤ n * size := Nat.mul_le_mul_right _ hs
  rw [Nat.add_mul, Nat.one_mul] at this
  unfold layI
  simp only [List.length_append, List.length_take, List.length_drop]
  omega
theorem layI_next {size n : Nat} {K : List UInt8} {s : Nat} {b : List UInt8} (hK : K.length = n * size) (hs : s < n) (hb : b.length = size) (i : Nat) (hi : i < size) :
    (bv (layI size K s b i)).set (s * size + i) (.int .u8 ((b[i]'(by omega)).toNat : Int)) = bv (layI size K s b (i + 1)) := by
  have h1 : (s + 1) * size ≤ n * size := Nat.mul_le_mul_right _ hs
  rw [Nat.add_mul, Nat.one_mul] at h1
  apply List.ext_getElem?
  intro j
  unfold layI bv
  simp only [List.getElem?_set, List.getElem?_map, List.length_map, List.length_append, List.length_take, List.length_drop]
  have e1 : min (s * size) K.length = s * size := by omega
  have e2 : min i b.length = i := by omega
  have e3 : min (i + 1) b.length = i + 1 := by omega
  have hl1 : (K.take (s * size)).length = s * size := by rw [List.length_take, e1]
  have hl2 : (b.take i).length = i := by rw [List.length_take, e2]
  have hl3 : (b.take (i + 1)).length = i + 1 := by rw [List.length_take, e3]
  by_cases hj : s * size + i = j
  · subst hj
    rw [if_pos rfl, if_pos (by omega)]
    rw [List.append_assoc, List.getElem?_append_right (by omega), List.getElem?_append_left (by omega), hl1, List.getElem?_take, if_pos (by omega), Nat.add_sub_cancel_left, List.getElem?_eq_getElem (by omega)]
    rfl
  · rw [if_neg hj]
    congr 1
    rw [List.append_assoc, List.append_assoc]
    rcases Nat.lt_or_ge j (s * size) with h | h
    · rw [List.getElem?_append_left (l₁ := K.take (s * size)) (by omega), List.getElem?_append_left (l₁ := K.take (s * size)) (by omega)]
    · have q1 : ∀ r : List UInt8, (K.take (s * size) ++ r)[j]? = r[j - s * size]? := fun r => by rw [List.getElem?_append_right (by omega), hl1]
      rw [q1, q1]
      rcases Nat.lt_or_ge (j - s * size) i with h2 | h2
      · have q2 : ∀ r : List UInt8, (b.take i ++ r)[j - s * size]? = (b.take i)[j - s * size]? := fun r => List.getElem?_append_left (by omega)
        have q3 : ∀ r : List UInt8, (b.take (i + 1) ++ r)[j - s * size]? = (b.take (i + 1))[j - s * size]? := fun r => List.getElem?_append_left (by omega)
        rw [q2, q3, List.getElem?_take, List.getElem?_take, if_pos h2, if_pos (by omega)]
      · have q2 : ∀ r : List UInt8, (b.take i ++ r)[j - s * size]? = r[j - s * size - i]? := fun r => by rw [List.getElem?_append_right (by omega), hl2]
        have q3 : ∀ r : List UInt8, (b.take (i + 1) ++ r)[j - s * size]? = r[j - s * size - (i + 1)]? := fun r => by rw [List.getElem?_append_right (by omega), hl3]
        rw [q2, q3, List.getElem?_drop, List.getElem?_drop]
        congr 1
        omega
/-- what is kept has turned, and nothing else -/
theorem RBox.lay {w w' : World} {rb rk rl : Nat} {d : Dk} (h : RBox w rb rk rl d) (hf : Frm (fun j => j = rk) w w') (K : List UInt8) (hK : K.length = d.kept.length)
    (ho : ∀ bc, w.ownsRow 0 5 1 (.slice (some ⟨rk, 0, none⟩) d.kept.length bc) d.kept.length (bv d.kept) → w'.ownsRow 0 5 1 (.slice (some ⟨rk, 0, none⟩) d.kept.length bc) d.kept.length (bv K)) : RBox w' rb rk rl { d with kept := K } := by
  obtain ⟨keepV, lv, bc, h1, h2, h3, h4, h5⟩ := h.cells
  obtain ⟨n1, n4⟩ := h.ne
  refine ⟨⟨keepV, lv, bc, ?_, h2.frm hf (fun j hj => Or.inl (Or.inr (Or.inl hj))), ?_, ?_, h5⟩, h.ne, ⟨h.ok.n, h.ok.size, by show K.length = _; rw [hK]; exact h.ok.kept, h.ok.pend⟩, Nat.lt_of_lt_of_le h.small hf.size, fun j hj => Nat.lt_of_lt_of_le (h.away j hj) hf.size⟩
  · rw [hf.block rb h.lt.1 n1, h1]
    unfold rcells
    simp only [hK]
  · show w'.ownsRow 0 _ 1 (.slice (some ⟨rk, 0, none⟩) K.length bc) K.length (bv K)
    rw [hK]
    exact ho bc h3
  · by_cases hp : d.pend = []
    · have := h5 hp
      subst this
      show PRowR w' _ rl _ d.pend
      rw [hp] at h4 ⊢
      obtain ⟨xs, a1, a2, a3⟩ := h4
      exact ⟨xs, own_keep a1 (fun g hg => by cases hg), a2, fun i p hi => by simp at hi⟩
    · exact h4.frm hf (fun j hj => Or.inl (Or.inr (Or.inl hj))) (n4 hp).2
end Go.Proofs.Ytldmamcalfmedaa
