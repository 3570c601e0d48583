/- The document's table of segments: Count, Fill, Hold, Take, Add. Conditions: none. -/
import Derived.Test.YtjpmlojpcgfcfaaRsg
namespace Go.Proofs.Ytjpmlojpcgfcfaa
open Go.ChangeShapes Go.WideShapes Go.ChangeAt Go.RowKit Go.Maps
set_option linter.unusedSimpArgs false
set_option linter.unusedVariables false
/-- how many of the first N have state s -/
def cntI : Nat → (Int → Ent) → Int → Int
  | 0, _, _ => 0
  | N + 1, f, s => cntI N f s + (if (f (N : Nat)).st = s then 1 else 0)
theorem cntI_bound (N : Nat) (f : Int → Ent) (s : Int) : 0 ≤ cntI N f s ∧ cntI N f s ≤ N := by
  induction N with
  | zero => simp [cntI]
  | succ N ih => rw [cntI]; split <;> omega
theorem cntI_nat (N : Nat) (f : Int → Ent) (s : Nat) : cntI N f (s : Nat) = cntF N f s := by
  induction N with
  | zero => rfl
  | succ N ih => rw [cntI, cntF, ih]
theorem cntI_none (N : Nat) (f : Int → Ent) (s : Int) (h : ∀ k : Nat, k < N → (f k).st ≠ s) : cntI N f s = 0 := by
  induction N with
  | zero => rfl
  | succ N ih => rw [cntI, ih (fun k hk => h k (by omega)), if_neg (h N (by omega))]; rfl
set_option maxRecDepth 100000 in
set_option maxHeartbeats 1000000 in
theorem rcount_any (rb gb N : Nat) (f : Int → Ent) (w : World) (h : RTab w rb gb N f) (s : Int) :
    Calls Try.prog 33 #[.pointer (some ⟨rb, 0, none⟩), .int .i64 s] w fun e w' => e = .returned (.int .i64 (cntI N f s)) ∧ w = w' := by
  have hc := h.cell
  have hbn := h.bound
  have H := Lib.hid h
  clear h
  go_enter Try.func33, Try.ntmps33
  go_wp2
  go_loopw [5, 6] (fun n i wr => ∃ j : Nat, j ≤ N ∧ i = .int .i64 j ∧ n = .int .i64 (cntI j f s) ∧ w = wr) (fun n i wr => N - (intOf i).toNat)
  case atStart => exact ⟨0, by omega, rfl, rfl, rfl⟩
  case round =>
    obtain ⟨j, hj, rfl, rfl, rfl⟩ := hrel
    have hcb := cntI_bound j f s
    by_cases hlt : j < N
    · obtain ⟨e, a, _⟩ := H.out.at j hlt
      by_cases hs : (f (j : Nat)).st = s
      · have hn : cntI (j + 1) f s = cntI j f s + 1 := by rw [cntI, if_pos hs]
        rw [hs] at a
        have HN := Lib.hid hn
        clear hs hn
        generalize cntI j f s = u at hcb HN
        go_wp2
        go_roundw
        case rel => exact ⟨j + 1, by omega, by go_num, by rw [HN.out], trivial⟩
        case measure => simp [intOf]; omega
      · have hn : cntI (j + 1) f s = cntI j f s := by rw [cntI, if_neg hs]; omega
        have t0 : ((f (j : Nat)).st == s) = false := by rw [beq_eq_false_iff_ne]; exact hs
        have HN := Lib.hid hn
        clear hs hn
        generalize (f (j : Nat)).st = st at a t0
        generalize cntI j f s = u at hcb HN
        go_wp2
        go_roundw
        case rel => exact ⟨j + 1, by omega, by go_num, by rw [HN.out], trivial⟩
        case measure => simp [intOf]; omega
    · obtain rfl : j = N := by omega
      go_wp2
      go_ret
      exact ⟨rfl, rfl⟩
/-- what a turn answers, and what is then kept -/
def turnR (N : Nat) (f : Int → Ent) (k fr : Int) (t : Nat) (ep : Int) : Int × (Int → Ent) :=
  if 0 ≤ k ∧ k < (N : Int) then (if (f k).st = fr then (0, put f k ⟨(t : Nat), (f k).us, ep⟩) else (9, f)) else (2, f)
set_option maxRecDepth 100000 in
set_option maxHeartbeats 1000000 in
theorem rfill_any (rb gb N : Nat) (f : Int → Ent) (w : World) (h : RTab w rb gb N f) (k : Int) :
    Calls Try.prog 29 #[.pointer (some ⟨rb, 0, none⟩), .int .i64 k] w fun e w' => e = .returned (.int .i64 (turnR N f k 1 2 0).1) ∧ RTab w' rb gb N (turnR N f k 1 2 0).2 ∧ Frm (fun j => j = gb) w w' := by
  have HH := Lib.hid (ris_any rb gb N f w h k)
  unfold turnR
  by_cases h0 : 0 ≤ k ∧ k < (N : Int)
  · rw [if_pos h0]
    have hd : decide (0 ≤ k ∧ k < (N : Int)) = true := decide_eq_true h0
    rw [hd] at HH
    obtain ⟨kn, rfl⟩ := Int.eq_ofNat_of_zero_le h0.1
    have hkn : kn < N := by omega
    obtain ⟨e, a, _⟩ := h.at kn hkn
    have hc := h.cell
    have hbn := h.bound
    by_cases hs : (f (kn : Nat)).st = 1
    · rw [if_pos hs]
      have hfr := h.free (kn * 3)
      have H2 := Lib.hid (h.setSt kn hkn 2 0 (by decide))
      rw [hs] at a
      clear h0 hd h hs
      go_enter Try.func29, Try.ntmps29
      go_wp2_with fail
      refine HH.out.mono ?_
      rintro e w1 ⟨rfl, rfl⟩
      go_wp2
      go_ret
      exact ⟨rfl, H2.out, (Frm.refl (fun j => j = gb) w).setCell gb _ (Or.inl rfl) _⟩
    · rw [if_neg hs]
      have t0 : ((f (kn : Nat)).st == 1) = false := by rw [beq_eq_false_iff_ne]; exact hs
      have H2 := Lib.hid h
      generalize (f (kn : Nat)).st = st at a t0
      clear h0 hd h hs
      go_enter Try.func29, Try.ntmps29
      go_wp2_with fail
      refine HH.out.mono ?_
      rintro e w1 ⟨rfl, rfl⟩
      go_wp2
      go_ret
      exact ⟨rfl, H2.out, Frm.refl _ w⟩
  · rw [if_neg h0]
    have hd : decide (0 ≤ k ∧ k < (N : Int)) = false := decide_eq_false h0
    rw [hd] at HH
    have H2 := Lib.hid h
    clear h0 hd h
    go_enter Try.func29, Try.ntmps29
    go_wp2_with fail
    refine HH.out.mono ?_
    rintro e w1 ⟨rfl, rfl⟩
    go_wp2
    go_ret
    exact ⟨rfl, H2.out, Frm.refl _ w⟩
set_option maxRecDepth 100000 in
set_option maxHeartbeats 1000000 in
theorem rhold_any (rb gb N : Nat) (f : Int → Ent) (w : World) (h : RTab w rb gb N f) (k ep : Int) :
    Calls Try.prog 30 #[.pointer (some ⟨rb, 0, none⟩), .int .i64 k, .int .i64 ep] w fun e w' => e = .returned (.int .i64 (turnR N f k 2 3 ep).1) ∧ RTab w' rb gb N (turnR N f k 2 3 ep).2 ∧ Frm (fun j => j = gb) w w' := by
  have HH := Lib.hid (ris_any rb gb N f w h k)
  unfold turnR
  by_cases h0 : 0 ≤ k ∧ k < (N : Int)
  · rw [if_pos h0]
    have hd : decide (0 ≤ k ∧ k < (N : Int)) = true := decide_eq_true h0
    rw [hd] at HH
    obtain ⟨kn, rfl⟩ := Int.eq_ofNat_of_zero_le h0.1
    have hkn : kn < N := by omega
    obtain ⟨e, a, a1, _⟩ := h.at kn hkn
    have hc := h.cell
    have hbn := h.bound
    by_cases hs : (f (kn : Nat)).st = 2
    · rw [if_pos hs]
      have hfr := h.free (kn * 3)
      have h2 := h.setSt kn hkn 2 0 (by decide)
      have H2 := Lib.hid (h.setHeld kn hkn ep)
      have hc2 : (w.setCell ⟨gb, kn * 3, none⟩ (.int .i64 3)).cell? ⟨rb, 0, none⟩ = some (.slice (some ⟨gb, 0, none⟩) N N) := (World.cell?_of_block (a := ⟨rb, 0, none⟩) (heap_setCell_other w _ rb _ h.ne)).trans hc
      obtain ⟨cs, hr1, _⟩ := h.row
      have hr2 := heap_setCell_same w gb (kn * 3) _ _ (.int .i64 3) hr1
      have hfr2 := frozen_of_row _ gb (kn * 3 + 1) _ _ hr2
      have a2 : (w.setCell ⟨gb, kn * 3, none⟩ (.int .i64 3)).cell? ⟨gb, kn * 3 + 1, none⟩ = some (.int .i64 e) := (cell_of_row _ gb _ _ _ _ hr2).trans ((set_off _ _ _ _ (by omega)).trans ((cell_of_row w gb _ _ _ _ hr1).symm.trans a1))
      rw [hs] at a
      clear h0 hd h hs h2 hr1 hr2 a1
      go_enter Try.func30, Try.ntmps30
      go_wp2_with fail
      refine HH.out.mono ?_
      rintro e w1 ⟨rfl, rfl⟩
      go_wp2
      go_ret
      exact ⟨rfl, H2.out, ((Frm.refl (fun j => j = gb) w).setCell gb _ (Or.inl rfl) _).setCell gb _ (Or.inl rfl) _⟩
    · rw [if_neg hs]
      have t0 : ((f (kn : Nat)).st == 2) = false := by rw [beq_eq_false_iff_ne]; exact hs
      have H2 := Lib.hid h
      generalize (f (kn : Nat)).st = st at a t0
      clear h0 hd h hs a1
      go_enter Try.func30, Try.ntmps30
      go_wp2_with fail
      refine HH.out.mono ?_
      rintro e w1 ⟨rfl, rfl⟩
      go_wp2
      go_ret
      exact ⟨rfl, H2.out, Frm.refl _ w⟩
  · rw [if_neg h0]
    have hd : decide (0 ≤ k ∧ k < (N : Int)) = false := decide_eq_false h0
    rw [hd] at HH
    have H2 := Lib.hid h
    clear h0 hd h
    go_enter Try.func30, Try.ntmps30
    go_wp2_with fail
    refine HH.out.mono ?_
    rintro e w1 ⟨rfl, rfl⟩
    go_wp2
    go_ret
    exact ⟨rfl, H2.out, Frm.refl _ w⟩
set_option maxRecDepth 100000 in
set_option maxHeartbeats 1000000 in
theorem rtake_full (rb gb N : Nat) (f : Int → Ent) (w : World) (h : RTab w rb gb N f) (hz : ∀ k : Nat, k < N → (f k).st ≠ 0) :
    Calls Try.prog 28 #[.pointer (some ⟨rb, 0, none⟩)] w fun e w' => e = .returned (.tuple #[.int .i64 0, .int .i64 10]) ∧ w = w' := by
  have hc := h.cell
  have hbn := h.bound
  have H := Lib.hid h
  have HZ := Lib.hid hz
  clear h hz
  go_enter Try.func28, Try.ntmps28
  go_wp2
  go_loopw [4] (fun i wr => ∃ j : Nat, j ≤ N ∧ i = .int .i64 j ∧ w = wr) (fun i wr => N - (intOf i).toNat)
  case atStart => exact ⟨0, by omega, rfl, rfl⟩
  case round =>
    obtain ⟨j, hj, rfl, rfl⟩ := hrel
    by_cases hlt : j < N
    · obtain ⟨e, a, _⟩ := H.out.at j hlt
      have t0 : ((f (j : Nat)).st == 0) = false := by rw [beq_eq_false_iff_ne]; exact HZ.out j hlt
      generalize (f (j : Nat)).st = st at a t0
      go_wp2
      go_roundw
      case rel => exact ⟨j + 1, by omega, by go_num, trivial⟩
      case measure => simp [intOf]; omega
    · obtain rfl : j = N := by omega
      go_wp2
      go_ret2
      exact ⟨rfl, rfl⟩
set_option maxRecDepth 100000 in
set_option maxHeartbeats 1000000 in
theorem rtake_at (rb gb N : Nat) (f : Int → Ent) (w : World) (h : RTab w rb gb N f) (k : Nat) (hk : k < N) (hs : (f k).st = 0) (hu : (f k).us = 0) (hz : ∀ j : Nat, j < k → (f j).st ≠ 0) :
    Calls Try.prog 28 #[.pointer (some ⟨rb, 0, none⟩)] w fun e w' => e = .returned (.tuple #[.int .i64 k, .int .i64 0]) ∧ RTab w' rb gb N (put f k ⟨1, 0, 0⟩) ∧ Frm (fun j => j = gb) w w' := by
  have hc := h.cell
  have hbn := h.bound
  have h2 := h.setSt k hk 1 0 (by decide)
  rw [hu] at h2
  have H2 := Lib.hid h2
  have H := Lib.hid h
  have HZ := Lib.hid hz
  have HS := Lib.hid hs
  clear h hz hs h2
  go_enter Try.func28, Try.ntmps28
  go_wp2
  go_loopw [4] (fun i wr => ∃ j : Nat, j ≤ k ∧ i = .int .i64 j ∧ w = wr) (fun i wr => N - (intOf i).toNat)
  case atStart => exact ⟨0, by omega, rfl, rfl⟩
  case round =>
    obtain ⟨j, hj, rfl, rfl⟩ := hrel
    have hlt : j < N := by omega
    obtain ⟨e, a, _⟩ := H.out.at j hlt
    by_cases hjk : j = k
    · subst hjk
      rw [HS.out] at a
      have hfr := H.out.free (j * 3)
      go_wp2
      go_ret2
      exact ⟨rfl, H2.out, (Frm.refl (fun j => j = gb) w).setCell gb _ (Or.inl rfl) _⟩
    · have t0 : ((f (j : Nat)).st == 0) = false := by rw [beq_eq_false_iff_ne]; exact HZ.out j (by omega)
      generalize (f (j : Nat)).st = st at a t0
      have hj2 : j + 1 ≤ k := by omega
      clear hjk
      go_wp2
      go_roundw
      case rel => exact ⟨j + 1, hj2, by go_num, trivial⟩
      case measure => simp [intOf]; omega
/-- what Add answers, and what is then kept -/
def addR (N : Nat) (f : Int → Ent) (k n : Int) : Int × (Int → Ent) :=
  if 0 ≤ k ∧ k < (N : Int) then (if (f k).st = 0 then (9, f) else if n < -(f k).us ∨ 1073741824 - (f k).us < n then (1, f) else (0, put f k ⟨(f k).st, (f k).us + n, (f k).ep⟩)) else (2, f)
set_option maxRecDepth 100000 in
set_option maxHeartbeats 1000000 in
theorem radd_any (rb gb N : Nat) (f : Int → Ent) (w : World) (h : RTab w rb gb N f) (k n : Int) (hu : 0 ≤ (f k).us ∧ (f k).us ≤ 1073741824) :
    Calls Try.prog 32 #[.pointer (some ⟨rb, 0, none⟩), .int .i64 k, .int .i64 n] w fun e w' => e = .returned (.int .i64 (addR N f k n).1) ∧ RTab w' rb gb N (addR N f k n).2 ∧ Frm (fun j => j = gb) w w' := by
  have HH := Lib.hid (ris_any rb gb N f w h k)
  unfold addR
  by_cases h0 : 0 ≤ k ∧ k < (N : Int)
  · rw [if_pos h0]
    have hd : decide (0 ≤ k ∧ k < (N : Int)) = true := decide_eq_true h0
    rw [hd] at HH
    obtain ⟨kn, rfl⟩ := Int.eq_ofNat_of_zero_le h0.1
    have hkn : kn < N := by omega
    obtain ⟨e, a, _, a2, _⟩ := h.at kn hkn
    have hc := h.cell
    have hbn := h.bound
    have hfr := h.free (kn * 3 + 2)
    have H := Lib.hid h
    by_cases hs : (f (kn : Nat)).st = 0
    · rw [if_pos hs]
      rw [hs] at a
      clear h0 hd h hs a2 hu
      go_enter Try.func32, Try.ntmps32
      go_wp2_with fail
      refine HH.out.mono ?_
      rintro e w1 ⟨rfl, rfl⟩
      go_wp2
      go_ret
      exact ⟨rfl, H.out, Frm.refl _ w⟩
    · rw [if_neg hs]
      have t0 : ((f (kn : Nat)).st == 0) = false := by rw [beq_eq_false_iff_ne]; exact hs
      have H2 := Lib.hid (h.setUs kn hkn ((f (kn : Nat)).us + n))
      generalize (f (kn : Nat)).st = st at a t0 H2 ⊢
      generalize (f (kn : Nat)).us = u at a2 H2 hu ⊢
      obtain ⟨hu0, hu1⟩ := hu
      clear h0 hd h hs
      by_cases hn : n < -u ∨ 1073741824 - u < n
      · rw [if_pos hn]
        by_cases hn1 : n < -u
        · clear hn
          go_enter Try.func32, Try.ntmps32
          go_wp2_with fail
          refine HH.out.mono ?_
          rintro e w1 ⟨rfl, rfl⟩
          go_wp2
          go_ret
          exact ⟨rfl, H.out, Frm.refl _ w⟩
        · have hn2 : 1073741824 - u < n := by omega
          clear hn
          go_enter Try.func32, Try.ntmps32
          go_wp2_with fail
          refine HH.out.mono ?_
          rintro e w1 ⟨rfl, rfl⟩
          go_wp2
          go_ret
          exact ⟨rfl, H.out, Frm.refl _ w⟩
      · rw [if_neg hn]
        have hn1 : ¬ n < -u := by omega
        have hn2 : ¬ 1073741824 - u < n := by omega
        clear hn
        go_enter Try.func32, Try.ntmps32
        go_wp2_with fail
        refine HH.out.mono ?_
        rintro e w1 ⟨rfl, rfl⟩
        go_wp2
        go_ret
        exact ⟨rfl, H2.out, (Frm.refl (fun j => j = gb) w).setCell gb _ (Or.inl rfl) _⟩
  · rw [if_neg h0]
    have hd : decide (0 ≤ k ∧ k < (N : Int)) = false := decide_eq_false h0
    rw [hd] at HH
    have H2 := Lib.hid h
    clear h0 hd h hu
    go_enter Try.func32, Try.ntmps32
    go_wp2_with fail
    refine HH.out.mono ?_
    rintro e w1 ⟨rfl, rfl⟩
    go_wp2
    go_ret
    exact ⟨rfl, H2.out, Frm.refl _ w⟩
end Go.Proofs.Ytjpmlojpcgfcfaa
