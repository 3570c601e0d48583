/- Contracts of package crc: Seal, Open. Conditions: the rows are shorter than 2^32; the table lies as the program's text lays it. -/
import Derived.Test.YtgcgehdbgegfeaaDoorCrq
import Derived.Test.YtgcgehdbgegfeaaDoorPg
import Derived.Test.YtgcgehdbgegfeaaDoorFro
namespace Go.Proofs.YtgcgehdbgegfeaaDoor
open Go.ChangeShapes Go.WideShapes Go.ChangeAt Go.RowKit
set_option linter.unusedSimpArgs false
set_option linter.unusedVariables false
theorem bv_take (l : List UInt8) (k : Nat) : (bv l).take k = bv (l.take k) := by simp [bv]
theorem bv_drop (l : List UInt8) (k : Nat) : (bv l).drop k = bv (l.drop k) := by simp [bv]
set_option maxRecDepth 100000 in
set_option maxHeartbeats 4000000 in
theorem seal_own (vb : Value) (l : List UInt8) (hl : l.length < 2147483648) (w : World) (B : Nat) (hB : B ≤ w.heap.size) (hr : RdV w B vb (bv l)) (hN : Nibs w) :
    Calls Tryd.prog 54 #[vb] w (GivesB w.heap.size w (sealL l)) := by
  have hrr := hr
  obtain ⟨A, c, rfl, hc1, hc2, hc3⟩ := hr
  rw [bv_length] at hc1 hc3 hrr ⊢
  clear hc3
  have hb1 : Below w.heap.size w (w.alloc (.cells #[.slice A l.length c] 23)) := (Below.refl _ _).alloc (Nat.le_refl _) _
  have s1 := sum_any _ _ _ _ (RdS.mk1 hrr hB 23) (hN.next hb1)
  rw [show [l].flatten = l from by simp] at s1
  have h32 := Cr.sum_lt (u8n l) (u8n_lt l)
  have p1 := put_any (.slice A l.length c) l (Cr.sum (u8n l)) 4 (by omega) (by decide) (by decide) (by omega) (w.alloc (.cells #[.slice A l.length c] 23)) B (by simp; omega) (hrr.alloc hB _)
  rw [show Pu.clip 4 = 4 from by decide] at p1
  have HS : sealL l = l ++ Pu.putL (Cr.sum (u8n l)) 4 := rfl
  rw [← HS] at p1
  have S1 := Lib.hid s1
  have P1 := Lib.hid p1
  have HB := Lib.hid hb1
  clear s1 p1 hb1 HS hrr hN
  generalize Cr.sum (u8n l) = sm at *
  go_enter Tryd.func54, Tryd.ntmps54
  go_wp2_with fail
  refine S1.out.mono ?_
  rintro e w1 ⟨rfl, rfl⟩
  go_wp2_with fail
  refine P1.out.mono ?_
  rintro e w2 hG
  obtain ⟨r, rfl, ho, hb2⟩ := hG
  have hB2 := nextB hb2 HB.out
  have hR := Joins.ownsRow_le ho (show w.heap.size ≤ _ by simp)
  clear ho hb2
  go_wp2
  go_ret
  exact ⟨_, rfl, hR, hB2⟩
theorem seal_any (vb : Value) (l : List UInt8) (hl : l.length < 2147483648) (w : World) (B : Nat) (hB : B ≤ w.heap.size) (hr : RdV w B vb (bv l)) (hN : Nibs w) :
    Calls Tryd.prog 54 #[vb] w (TellC w (sealL l)) :=
  (seal_own vb l hl w B hB hr hN).mono fun _ _ ⟨r, h1, h2, h3⟩ => ⟨r, h1, RdV.own h2, h3⟩
/-- what Open does -/
def OpenP (w : World) (l : List UInt8) (e : Ending) (w' : World) : Prop :=
  ((l.length < 4 ∧ e = .returned (.tuple #[.slice none 0 0, .int .i64 21])) ∨ (4 ≤ l.length ∧ ¬ okB l ∧ e = .returned (.tuple #[.slice none 0 0, .int .i64 23])) ∨
    (4 ≤ l.length ∧ okB l ∧ ∃ r, e = .returned (.tuple #[r, .int .i64 0]) ∧ RdV w' w'.heap.size r (bv (l.take (l.length - 4))))) ∧ Below w.heap.size w w'
set_option maxRecDepth 100000 in
set_option maxHeartbeats 4000000 in
theorem open_any (vb : Value) (l : List UInt8) (hl : l.length < 2147483648) (w : World) (B : Nat) (hB : B ≤ w.heap.size) (hr : RdV w B vb (bv l)) (hN : Nibs w) :
    Calls Tryd.prog 49 #[vb] w (OpenP w l) := by
  have hrr := hr
  obtain ⟨A, c, rfl, hc1, hc2, hc3⟩ := hr
  rw [bv_length] at hc1 hc3 hrr ⊢
  unfold maxLen at hc2
  by_cases h4 : l.length < 4
  · clear hc3 hrr hN
    go_enter Tryd.func49, Tryd.ntmps49
    go_wp2
    go_ret2
    exact ⟨Or.inl ⟨h4, rfl⟩, Below.refl _ _⟩
  · obtain ⟨b, off, rfl, hbB, hcc⟩ := hc3 (by omega)
    clear hcc
    obtain ⟨n, hn⟩ : ∃ n, l.length = n + 4 := ⟨l.length - 4, by omega⟩
    have hd : l.length - 4 = n := by omega
    have r1 := RdV.part hrr n 4 (by rw [bv_length]; omega)
    rw [bv_drop, bv_take, List.take_of_length_le (by rw [List.length_drop]; omega)] at r1
    have r2 := RdV.front hrr n (by rw [bv_length]; omega)
    rw [bv_take] at r2
    have g1 := get_any _ (l.drop n) 4 (by decide) (by decide) (by rw [List.length_drop]; omega) w B r1
    have hgb : Pu.getB (l.drop n) 4 = true := by unfold Pu.getB; rw [decide_eq_true_eq, List.length_drop]; omega
    have hgv : Pu.getV (l.drop n) 4 = Pu.leN (l.drop n) := by
      unfold Pu.getV; rw [if_pos hgb]
      rw [show (4 : Int).toNat = 4 from rfl, List.take_of_length_le (by rw [List.length_drop]; omega)]
    rw [hgb, hgv] at g1
    have hle := Pu.leN_lt (l.drop n)
    rw [show (l.drop n).length = 4 from by rw [List.length_drop]; omega] at hle
    have hb1 : Below w.heap.size w (w.alloc (.cells #[.slice (some ⟨b, off, none⟩) n c] 23)) := (Below.refl _ _).alloc (Nat.le_refl _) _
    have s1 := sum_any _ _ _ _ (RdS.mk1 r2 hB 23) (hN.next hb1)
    rw [show [l.take n].flatten = l.take n from by simp] at s1
    have hs32 := Cr.sum_lt (u8n (l.take n)) (u8n_lt _)
    have hok : okB l ↔ Pu.leN (l.drop n) = Cr.sum (u8n (l.take n)) := by unfold okB; rw [hd]
    have G1 := Lib.hid g1
    have S1 := Lib.hid s1
    have R2 := Lib.hid (r2.alloc hB (.cells #[.slice (some ⟨b, off, none⟩) n c] 23))
    have HB := Lib.hid hb1
    have HD := Lib.hid hd
    have HO := Lib.hid hok
    have HN := Lib.hid hn
    have hn4 : n + 4 ≤ c := by omega
    have hnl : n < 2147483648 := by omega
    clear g1 s1 r1 r2 hb1 hgb hgv hrr hN hc3 hd hok
    generalize hx : Pu.leN (l.drop n) = x at *
    generalize hy : Cr.sum (u8n (l.take n)) = y at *
    clear hx hy
    simp only [Nat.reducePow] at hle hs32
    rw [hn] at hc1 ⊢
    clear hn
    have hne1 : ¬ c = n := by omega
    by_cases hxy : x = y
    · subst hxy
      go_enter Tryd.func49, Tryd.ntmps49
      go_wp2_with fail
      refine G1.out.mono ?_
      rintro e w1 ⟨rfl, rfl⟩
      go_wp2_with fail
      refine S1.out.mono ?_
      rintro e w1 ⟨rfl, rfl⟩
      go_wp2_with (first
        | (at_make; refine wpList_make_rd _ rfl _ _ 23 rfl w.heap.size 5 (.int .u8 0) 1 Tryd.underlying23 Tryd.inf5 rfl .i64 .i64 n n _ _ rfl rfl rfl rfl (by omega) (by omega) (by unfold maxLen; omega) (by simp) ?_; intro w1 ho1 hg1; rw [World.size_alloc] at ho1)
        | (refine wpList_copy_front rfl (.tmp 30) (.tmp 31) 23 23 rfl w.heap.size 5 (.int .u8 0) 1 Tryd.underlying23 Tryd.inf5 _ _ _ _ rfl ho1 _ _ _ rfl B (bv (l.take n)) (R2.out.grown hg1 (by simp; omega) (by intro g h; cases h)) (by omega) (bv_one _) ?_; intro w2 ho2 hg2))
      go_ret2
      refine ⟨Or.inr (Or.inr ⟨by have := HN.out; omega, HO.out.2 (by first | rfl | trivial), _, rfl, ?_⟩), (HB.out.grown hg1 (by simp) (by intro g h; cases h)).grown hg2 (by have := hg1.size; simp at this; omega) (by intro g h; injection h with h; omega)⟩
      have h := RdV.own ho2
      have hd2 : l.length - 4 = n := by have := HN.out; omega
      rw [hd2]; exact h
    · have hbn : ((x : Int) != (y : Int)) = true := by rw [bne_iff_ne]; omega
      go_enter Tryd.func49, Tryd.ntmps49
      go_wp2_with fail
      refine G1.out.mono ?_
      rintro e w1 ⟨rfl, rfl⟩
      go_wp2_with fail
      refine S1.out.mono ?_
      rintro e w1 ⟨rfl, rfl⟩
      go_wp2
      go_ret2
      exact ⟨Or.inr (Or.inl ⟨by have := HN.out; omega, fun h => hxy (HO.out.1 h), rfl⟩), HB.out⟩
end Go.Proofs.YtgcgehdbgegfeaaDoor
