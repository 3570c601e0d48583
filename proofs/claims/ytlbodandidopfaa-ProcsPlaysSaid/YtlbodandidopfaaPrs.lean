/- Contracts of package procs: New, Has, Take, Free, Bits, Len. Conditions: the numbers fit their kinds. -/
import Derived.Test.YtlbodandidopfaaGeo
import Derived.Test.YtlbodandidopfaaPrm
namespace Go.Proofs.Ytlbodandidopfaa
open Go.ChangeShapes Go.WideShapes Go.ChangeAt Go.RowKit
set_option linter.unusedSimpArgs false
set_option linter.unusedVariables false
def S2 (n b : Nat) : Array Value := #[.int .i64 n, .int .u64 b]
def SBox (w : World) (k n b : Nat) : Prop := w.heap[k]? = some (.cells (S2 n b) 122 (0, 0))
theorem SBox.lt {w : World} {k n b : Nat} (h : SBox w k n b) : k < w.heap.size := by
  rcases Nat.lt_or_ge k w.heap.size with h1 | h1
  · exact h1
  · unfold SBox at h; rw [Array.getElem?_eq_none h1] at h; cases h
theorem SBox.next {w w' : World} {k n b : Nat} (hb : Below w.heap.size w w') (h : SBox w k n b) : SBox w' k n b := (hb.block k h.lt).trans h
theorem SBox.new (w : World) (n b : Nat) : SBox (w.alloc (.cells (S2 n b) 122)) w.heap.size n b := heap_alloc_new w _
theorem SBox.cells {w : World} {k n b : Nat} (h : SBox w k n b) : w.cell? ⟨k, 0, none⟩ = some (.int .i64 n) ∧ w.cell? ⟨k, 1, none⟩ = some (.int .u64 b) :=
  ⟨cell_of_row w k 0 _ _ (0, 0) h, cell_of_row w k 1 _ _ (0, 0) h⟩
theorem SBox.free {w : World} {k n b : Nat} (h : SBox w k n b) (i : Nat) : w.frozen? ⟨k, i, none⟩ = false := frozen_of_row w k i _ _ h
theorem SBox.set {w : World} {k n b : Nat} (h : SBox w k n b) (c : Nat) : SBox (w.setCell ⟨k, 1, none⟩ (.int .u64 c)) k n c := by
  have h0 : w.heap[k]? = some (.cells #[.int .i64 n, .int .u64 b] 122 (0, 0)) := h
  have h1 := heap_setCell_same w k 1 _ _ (.int .u64 c) h0
  simp only [List.setIfInBounds_toArray, List.set_cons_zero, List.set_cons_succ] at h1
  exact h1
theorem belowSetAt {B : Nat} {a w : World} {k : Nat} (h : Below B a w) (hk : B ≤ k) (i : Nat) (v : Value) : Below B a (w.setCell ⟨k, i, none⟩ v) := Below.setCell (p := ⟨k, i, none⟩) h hk v
/-- the set in k has become c, and nothing else that stood there has changed -/
def STo (w : World) (k n c : Nat) (w' : World) : Prop := SBox w' k n c ∧ (∀ B, B ≤ k → Below B w w') ∧ ∀ j, j ≠ k → w'.heap[j]? = w.heap[j]?
theorem STo.store {w : World} {k n b : Nat} (h : SBox w k n b) (c : Nat) : STo w k n c ((w.setCell ⟨k, 1, none⟩ (.int .u64 c)).drew) :=
  ⟨h.set c, fun B hB => (belowSetAt (Below.refl B w) hB 1 _).drew, fun j hj => heap_setCell_other w ⟨k, 1, none⟩ j _ hj⟩
theorem wrapn (m : Nat) (h : m < 18446744073709551616) : IntKind.u64.wrap (m : Int) = (m : Int) := by rw [IntKind.wrap_u64]; omega
theorem or_walk (b p : Nat) (hb : b < 18446744073709551616) (hp : p < 64) : bits .or .u64 (b : Int) (IntKind.u64.wrap (2 ^ p)) = ((Pm.put b p : Nat) : Int) := by
  have h2 : 2 ^ p < 2 ^ 64 := Nat.pow_lt_pow_right (by decide) hp
  have e : IntKind.u64.wrap (2 ^ p) = ((2 ^ p : Nat) : Int) := by
    rw [show ((2 : Int) ^ p) = ((2 ^ p : Nat) : Int) from by simp]
    exact wrapn _ h2
  rw [e, u64_or_nat _ _ hb (by omega)]; rfl
theorem cut_walk (b p : Nat) (hb : b < 18446744073709551616) (hp : p < 64) : bits .andNot .u64 (b : Int) (IntKind.u64.wrap (2 ^ p)) = ((Pm.cut b p : Nat) : Int) := by
  have h2 : 2 ^ p < 2 ^ 64 := Nat.pow_lt_pow_right (by decide) hp
  have e : IntKind.u64.wrap (2 ^ p) = ((2 ^ p : Nat) : Int) := by
    rw [show ((2 : Int) ^ p) = ((2 ^ p : Nat) : Int) from by simp]
    exact wrapn _ h2
  rw [e, u64_andNot_nat _ _ hb (by omega)]; rfl
theorem bit_walk (b p : Nat) (hb : b < 18446744073709551616) : (bits .and .u64 ((b : Int) / 2 ^ p) 1 == 1) = Pm.hb b p := by
  have e : ((b : Int) / 2 ^ p) = ((b / 2 ^ p : Nat) : Int) := by simp
  have hle : b / 2 ^ p ≤ b := Nat.div_le_self _ _
  rw [e, show (1 : Int) = ((1 : Nat) : Int) from rfl, u64_and_nat _ _ (by omega) (by decide), nat_mask1, Pm.hb_eq]
  rw [Bool.eq_iff_iff]
  simp
  omega
theorem and_pred (c : Nat) (h : 0 < c) (hc : c < 18446744073709551616) : bits .and .u64 (c : Int) ((c : Int) - 1) = ((c &&& (c - 1) : Nat) : Int) := by
  rw [show (c : Int) - 1 = ((c - 1 : Nat) : Int) from by omega, u64_and_nat _ _ (by omega) (by omega)]
set_option maxRecDepth 100000 in
set_option maxHeartbeats 4000000 in
theorem pnew_yes (n : Nat) (h1 : 1 ≤ n) (h2 : n ≤ 64) (w : World) : Calls Try.prog 50 #[.int .i64 n] w fun e w' => e = .returned (.tuple #[.pointer (some ⟨w.heap.size, 0, none⟩), .int .i64 0]) ∧ w' = w.alloc (.cells (S2 n 0) 122) := by
  unfold S2
  go_enter Try.func50, Try.ntmps50
  go_wp2
  go_ret2
  exact ⟨rfl, rfl⟩
set_option maxRecDepth 100000 in
set_option maxHeartbeats 4000000 in
theorem phas_in (w : World) (k n b p : Nat) (hx : SBox w k n b) (hn : n ≤ 64) (hb : b < 18446744073709551616) (hp : p < n) : Calls Try.prog 63 #[.pointer (some ⟨k, 0, none⟩), .int .i64 p] w fun e w' => e = .returned (.bool (Pm.hb b p)) ∧ w = w' := by
  obtain ⟨c0, c1⟩ := hx.cells
  go_enter Try.func63, Try.ntmps63
  go_wp2
  go_ret
  refine ⟨?_, rfl⟩
  show Ending.returned (.bool (bits BinOp.and IntKind.u64 (↑b / 2 ^ p) 1 == 1)) = _
  rw [bit_walk b p hb]
set_option maxRecDepth 100000 in
set_option maxHeartbeats 4000000 in
theorem phas_out (w : World) (k n b : Nat) (p : Int) (hx : SBox w k n b) (hn : n ≤ 64) (hb : b < 18446744073709551616) (hp : p < 0 ∨ n ≤ p) : Calls Try.prog 63 #[.pointer (some ⟨k, 0, none⟩), .int .i64 p] w fun e w' => e = .returned (.bool false) ∧ w = w' := by
  obtain ⟨c0, c1⟩ := hx.cells
  rcases hp with hp | hp
  · go_enter Try.func63, Try.ntmps63
    go_wp2
    go_ret
    exact ⟨rfl, rfl⟩
  · go_enter Try.func63, Try.ntmps63
    have h0 : 0 ≤ p := by omega
    go_wp2
    go_ret
    exact ⟨rfl, rfl⟩
set_option maxRecDepth 100000 in
set_option maxHeartbeats 4000000 in
theorem pbits_any (w : World) (k n b : Nat) (hx : SBox w k n b) : Calls Try.prog 61 #[.pointer (some ⟨k, 0, none⟩)] w fun e w' => e = .returned (.int .u64 b) ∧ w = w' := by
  obtain ⟨c0, c1⟩ := hx.cells
  go_enter Try.func61, Try.ntmps61
  go_wp2
  go_ret
  exact ⟨rfl, rfl⟩
set_option maxRecDepth 100000 in
set_option maxHeartbeats 4000000 in
theorem plen_any (w : World) (k n b : Nat) (hx : SBox w k n b) (hb : b < 18446744073709551616) : Calls Try.prog 65 #[.pointer (some ⟨k, 0, none⟩)] w fun e w' => e = .returned (.int .i64 (Pm.pop b)) ∧ w = w' := by
  obtain ⟨c0, c1⟩ := hx.cells
  go_enter Try.func65, Try.ntmps65
  go_wp2
  go_loop [3, 4] (fun m v => ∃ (i : Nat) (c : Nat), v = .int .u64 c ∧ m = .int .i64 i ∧ c < 18446744073709551616 ∧ i + Pm.pop c = Pm.pop b ∧ Pm.pop b ≤ 64) (fun _ v => (intOf v).toNat)
  case atStart => exact ⟨0, b, rfl, rfl, hb, by omega, Pm.pop_le 64 b hb⟩
  case round =>
    obtain ⟨i, c, rfl, rfl, hc, hi, hi2⟩ := hrel
    have HI := Lib.hid hi
    clear hi
    by_cases hz : c = 0
    · subst hz
      go_wp2
      go_ret
      exact ⟨ret_int (by have := HI.out; rw [Pm.pop_zero] at this; omega), rfl⟩
    · have hp := Pm.pop_pred c (by omega)
      have hl : i ≤ 64 := by have := HI.out; omega
      have HP := Lib.hid hp
      clear hp
      have hle : c &&& (c - 1) ≤ c - 1 := Nat.and_le_right
      go_wp2
      rw [and_pred c (by omega) hc]
      go_round
      case rel => exact ⟨i + 1, _, rfl, by go_num, by omega, by have h1 := HI.out; have h2 := HP.out; omega, hi2⟩
      case measure => simp [intOf]; omega
set_option maxRecDepth 100000 in
set_option maxHeartbeats 4000000 in
theorem pfree_yes (w : World) (k n b p : Nat) (hx : SBox w k n b) (hn : n ≤ 64) (hb : b < 18446744073709551616) (hp : p < n) (ht : Pm.hb b p = true) : Calls Try.prog 56 #[.pointer (some ⟨k, 0, none⟩), .int .i64 p] w fun e w' => e = .returned (.int .i64 0) ∧ STo w k n (Pm.cut b p) w' := by
  have hh := phas_in w k n b p hx hn hb hp
  rw [ht] at hh
  obtain ⟨c0, c1⟩ := hx.cells
  have f0 := hx.free 0
  have f1 := hx.free 1
  have HH := Lib.hid hh
  have HX := Lib.hid hx
  clear hh ht hx
  go_enter Try.func56, Try.ntmps56
  go_wp2_with fail
  refine HH.out.mono ?_
  rintro e w1 ⟨rfl, rfl⟩
  go_wp2
  first
    | go_region_with (fail)
    | fail
  all_goals go_wp2
  all_goals go_ret
  all_goals rw [cut_walk b p hb (by omega)]
  all_goals exact ⟨rfl, STo.store HX.out _⟩
/-- what Take does -/
def TakeP (w : World) (k n b : Nat) (e : Ending) (w' : World) : Prop :=
  (∃ p, p < n ∧ (∀ q, q < p → Pm.hb b q = true) ∧ Pm.hb b p = false ∧ e = .returned (.tuple #[.int .i64 p, .int .i64 0]) ∧ STo w k n (Pm.put b p) w') ∨ ((∀ q, q < n → Pm.hb b q = true) ∧ e = .returned (.tuple #[.int .i64 0, .int .i64 5]) ∧ w = w')
set_option maxRecDepth 100000 in
set_option maxHeartbeats 4000000 in
theorem ptake_any (w : World) (k n b : Nat) (hx : SBox w k n b) (hn : n ≤ 64) (hb : b < 18446744073709551616) : Calls Try.prog 54 #[.pointer (some ⟨k, 0, none⟩)] w fun e w' => TakeP w k n b e w' := by
  obtain ⟨c0, c1⟩ := hx.cells
  have f0 := hx.free 0
  have f1 := hx.free 1
  have hh := fun p hp => phas_in w k n b p hx hn hb hp
  have HH := Lib.hid hh
  have HX := Lib.hid hx
  clear hh hx
  go_enter Try.func54, Try.ntmps54
  go_wp2_with fail
  go_loop [9] (fun i => ∃ p : Nat, i = .int .i64 p ∧ p ≤ n ∧ ∀ q, q < p → Pm.hb b q = true) (fun i => n - (intOf i).toNat)
  case atStart => exact ⟨0, rfl, by omega, fun q hq => by omega⟩
  case round =>
    obtain ⟨p, rfl, hp, hall⟩ := hrel
    have HA := Lib.hid hall
    clear hall
    by_cases hlt : p < n
    · have h1 := HH.out p hlt
      cases ht : Pm.hb b p with
      | true =>
        rw [ht] at h1
        have H1 := Lib.hid h1
        have HT := Lib.hid ht
        clear h1 ht
        go_wp2_with fail
        refine H1.out.mono ?_
        rintro e w1 ⟨rfl, rfl⟩
        go_wp2
        go_round
        case rel =>
          refine ⟨p + 1, by go_num, by omega, fun q hq => ?_⟩
          rcases Nat.lt_or_ge q p with h | h
          · exact HA.out q h
          · obtain rfl : q = p := by omega
            exact HT.out
        case measure => simp [intOf]; omega
      | false =>
        rw [ht] at h1
        have H1 := Lib.hid h1
        have HT := Lib.hid ht
        clear h1 ht
        go_wp2_with fail
        refine H1.out.mono ?_
        rintro e w1 ⟨rfl, rfl⟩
        go_wp2
        first
          | go_region_with (fail)
          | fail
        all_goals go_wp2
        all_goals go_ret2
        all_goals rw [or_walk b p hb (by omega)]
        all_goals exact Or.inl ⟨p, hlt, HA.out, HT.out, rfl, STo.store HX.out _⟩
    · obtain rfl : p = n := by omega
      go_wp2
      go_ret2
      exact Or.inr ⟨HA.out, rfl, rfl⟩
end Go.Proofs.Ytlbodandidopfaa
