/- The table of segments as a whole: its counts are those of its states; has, State, Used, Count, turn, Fill, Hold. Conditions: none. -/
import Derived.Test.YtjpmlojpcgfcfaaSgt
namespace Go.Proofs.Ytjpmlojpcgfcfaa
open Go.ChangeShapes Go.WideShapes Go.ChangeAt Go.RowKit Go.Maps
set_option linter.unusedSimpArgs false
set_option linter.unusedVariables false
/-- how many of the first N have state i -/
def cntF : Nat → (Int → Ent) → Nat → Int
  | 0, _, _ => 0
  | N + 1, f, i => cntF N f i + (if (f (N : Nat)).st = (i : Nat) then 1 else 0)
theorem cntF_bound (N : Nat) (f : Int → Ent) (i : Nat) : 0 ≤ cntF N f i ∧ cntF N f i ≤ N := by
  induction N with
  | zero => simp [cntF]
  | succ N ih => rw [cntF]; split <;> omega
theorem cntF_congr {N : Nat} {f g : Int → Ent} (i : Nat) (h : ∀ k : Nat, k < N → (f k).st = (g k).st) : cntF N f i = cntF N g i := by
  induction N with
  | zero => rfl
  | succ N ih => rw [cntF, cntF, ih (fun k hk => h k (by omega)), h N (by omega)]
theorem cntF_put {N : Nat} (f : Int → Ent) (k : Nat) (hk : k < N) (x : Ent) (s s' : Nat) (hs : (f k).st = (s : Nat)) (hx : x.st = (s' : Nat)) (i : Nat) :
    cntF N (put f k x) i = cnt2 (cntF N f) s s' i := by
  have key : cntF N (put f k x) i = cntF N f i - (if s = i then 1 else 0) + (if s' = i then 1 else 0) := by
    induction N with
    | zero => omega
    | succ N ih =>
      rw [cntF, cntF]
      rcases Nat.lt_or_ge k N with h | h
      · rw [ih h]
        have : put f k x (N : Nat) = f (N : Nat) := by unfold put; rw [if_neg (by omega)]
        rw [this]
        omega
      · obtain rfl : k = N := by omega
        have h1 : cntF k (put f k x) i = cntF k f i := cntF_congr i fun j hj => by unfold put; rw [if_neg (by omega)]
        have h2 : put f k x (k : Nat) = x := by unfold put; rw [if_pos rfl]
        rw [h1, h2, hs, hx]
        have e1 : ((s : Nat) : Int) = (i : Nat) ↔ s = i := by omega
        have e2 : ((s' : Nat) : Int) = (i : Nat) ↔ s' = i := by omega
        simp only [e1, e2]
        split <;> split <;> omega
  rw [key]
  unfold cnt2 upd
  by_cases h1 : s = i <;> by_cases h2 : s' = i <;> by_cases h3 : s' = s <;> simp_all <;> (try split) <;> (try split) <;> omega
/-- the whole table: N segments, as f tells; no segment below low is free -/
structure Tab (w : World) (tb b m N : Nat) (f : Int → Ent) (low : Nat) : Prop where
  box : SBox w tb b m (N : Nat) f (cntF N f) (low : Nat)
  out : ∀ k : Int, k < 0 ∨ (N : Int) ≤ k → f k = ⟨0, 0, 0⟩
  kind : ∀ k : Nat, k < N → ∃ s : Nat, s < 4 ∧ (f k).st = (s : Nat)
  full : ∀ k : Nat, k < low → (f k).st ≠ 0
  lowN : low ≤ N
  most : N ≤ 65536
theorem Tab.next {w w' : World} {tb b m N : Nat} {f : Int → Ent} {low : Nat} (h : Tab w tb b m N f low) (hb : Below w.heap.size w w') : Tab w' tb b m N f low :=
  ⟨h.box.next hb, h.out, h.kind, h.full, h.lowN, h.most⟩
theorem wf64 {k : Int} (h0 : -9223372036854775808 ≤ k) (h1 : k ≤ 9223372036854775807) : (Lit.int .i64 k).wf = true := by
  simp [Lit.wf, IntKind.min, IntKind.max, IntKind.signed, IntKind.bits]
  omega
set_option maxRecDepth 100000 in
theorem has_any (tb b m N : Nat) (f : Int → Ent) (low : Nat) (w : World) (h : Tab w tb b m N f low) (k : Int) :
    Calls Try.prog 40 #[.pointer (some ⟨tb, 0, none⟩), .int .i64 k] w fun e w' => e = .returned (.bool (decide (0 ≤ k ∧ k < (N : Int)))) ∧ w = w' := by
  obtain ⟨_, _, _, e0⟩ := h.box.field
  clear h
  by_cases h0 : 0 ≤ k
  · by_cases h1 : k < (N : Int)
    · go_enter Try.func40, Try.ntmps40
      go_wp2
      go_ret
      exact ⟨by simp [h0, h1], rfl⟩
    · go_enter Try.func40, Try.ntmps40
      go_wp2
      go_ret
      exact ⟨by simp [h0, h1], rfl⟩
  · go_enter Try.func40, Try.ntmps40
    go_wp2
    go_ret
    exact ⟨by simp; omega, rfl⟩

theorem SBox.congr {w : World} {tb b m : Nat} {n : Int} {f : Int → Ent} {cnt cnt' : Nat → Int} {low : Int} (h : SBox w tb b m n f cnt low) (hc : ∀ i, i < 4 → cnt i = cnt' i) : SBox w tb b m n f cnt' low :=
  ⟨by rw [← hc 0 (by omega), ← hc 1 (by omega), ← hc 2 (by omega), ← hc 3 (by omega)]; exact h.cells, h.map, h.ne⟩
/-- what a table is behind a store -/
def SetT (tb b m N : Nat) (f : Int → Ent) (low k s' : Nat) (us ep : Int) (w : World) (e : Ending) (w' : World) : Prop :=
  e = .returned (.tuple #[]) ∧ Tab w' tb b (m + 1) N (put f k (if s' = 0 then ⟨0, 0, 0⟩ else ⟨(s' : Nat), us, ep⟩)) (if s' = 0 then min low k else low) ∧ Frm (fun j => j = tb ∨ j = b) w w'
theorem tset_any (tb b m N : Nat) (f : Int → Ent) (low : Nat) (w : World) (h : Tab w tb b m N f low) (k : Nat) (hk : k < N) (s' : Nat) (hs' : s' < 4) (us ep : Int) (hm : m < 1000000) :
    Calls Try.prog 27 #[.pointer (some ⟨tb, 0, none⟩), .int .i64 k, entV ⟨(s' : Nat), us, ep⟩] w (SetT tb b m N f low k s' us ep w) := by
  obtain ⟨s, hs, hf⟩ := h.kind k hk
  have hmost := h.most
  refine (set_any tb b m (N : Nat) f (cntF N f) (low : Nat) w h.box k (wf64 (by omega) (by omega)) s s' hs hs' us ep hf (fun i => by have := cntF_bound N f i; omega) hm).mono ?_
  rintro e w' ⟨rfl, hb, hfr⟩
  refine ⟨rfl, ?_, hfr⟩
  by_cases h0 : s' = 0
  · subst h0
    simp only [if_true] at hb ⊢
    refine ⟨?_, fun j hj => ?_, fun j hj => ?_, fun j hj => ?_, by have := h.lowN; omega, h.most⟩
    · have := hb.congr (cnt' := cntF N (put f k ⟨0, 0, 0⟩)) (fun i hi => (cntF_put f k hk ⟨0, 0, 0⟩ s 0 hf rfl i).symm)
      rw [show ((min low k : Nat) : Int) = min (low : Int) (k : Int) from by omega]
      exact this
    · unfold put; rw [if_neg (by omega)]; exact h.out j hj
    · unfold put
      split
      · exact ⟨0, by omega, rfl⟩
      · exact h.kind j hj
    · unfold put; rw [if_neg (by omega)]; exact h.full j (by omega)
  · simp only [if_neg h0] at hb ⊢
    refine ⟨?_, fun j hj => ?_, fun j hj => ?_, fun j hj => ?_, h.lowN, h.most⟩
    · exact hb.congr (fun i hi => (cntF_put f k hk ⟨(s' : Nat), us, ep⟩ s s' hf rfl i).symm)
    · unfold put; rw [if_neg (by omega)]; exact h.out j hj
    · unfold put
      split
      · exact ⟨s', hs', rfl⟩
      · exact h.kind j hj
    · unfold put
      split
      · show ((s' : Nat) : Int) ≠ 0
        omega
      · exact h.full j hj
set_option maxRecDepth 100000 in
theorem count_any (tb b m N : Nat) (f : Int → Ent) (low : Nat) (w : World) (h : Tab w tb b m N f low) (i : Int) :
    Calls Try.prog 19 #[.pointer (some ⟨tb, 0, none⟩), .int .i64 i] w fun e w' => e = .returned (.int .i64 (if 0 ≤ i ∧ i < 4 then cntF N f i.toNat else 0)) ∧ Below w.heap.size w w' := by
  by_cases h0 : 0 ≤ i ∧ i < 4
  · rw [if_pos h0]
    obtain ⟨n, rfl⟩ := Int.eq_ofNat_of_zero_le h0.1
    have hn : n < 4 := by omega
    rw [Int.toNat_natCast]
    obtain ⟨c1, _⟩ := h.box.count n hn
    have hix := fun w' => index_count tb n hn w'
    clear h h0
    go_enter Try.func19, Try.ntmps19
    go_wp2
    go_ret
    exact ⟨rfl, Below.refl _ _⟩
  · rw [if_neg h0]
    have h1 : i < 0 ∨ 4 ≤ i := by omega
    clear h h0
    rcases h1 with h1 | h1
    · go_enter Try.func19, Try.ntmps19
      go_wp2
      go_ret
      exact ⟨rfl, Below.refl _ _⟩
    · go_enter Try.func19, Try.ntmps19
      go_wp2
      go_ret
      exact ⟨rfl, Below.refl _ _⟩
set_option maxRecDepth 100000 in
theorem state_any (tb b m N : Nat) (f : Int → Ent) (low : Nat) (w : World) (h : Tab w tb b m N f low) (k : Int) (hk : (Lit.int .i64 k).wf = true) :
    Calls Try.prog 25 #[.pointer (some ⟨tb, 0, none⟩), .int .i64 k] w fun e w' => e = .returned (.int .i64 (if 0 ≤ k ∧ k < (N : Int) then (f k).st else -1)) ∧ Below w.heap.size w w' := by
  have hh := has_any tb b m N f low w h k
  have hg := get_any tb b m (N : Nat) f (cntF N f) (low : Nat) w h.box k hk
  unfold entV at hg
  have hfl := fun w' => field_st (f k).st (.int .i64 (f k).us) (.int .i64 (f k).ep) w'
  have HH := Lib.hid hh
  have HG := Lib.hid hg
  clear hh hg h
  by_cases h0 : 0 ≤ k ∧ k < (N : Int)
  · rw [if_pos h0]
    have hd : decide (0 ≤ k ∧ k < (N : Int)) = true := decide_eq_true h0
    rw [hd] at HH
    clear h0 hd
    go_enter Try.func25, Try.ntmps25
    go_wp2_with fail
    refine HH.out.mono ?_
    rintro e w1 ⟨rfl, rfl⟩
    go_wp2_with fail
    refine HG.out.mono ?_
    rintro e w2 ⟨rfl, hb2⟩
    go_wp2
    go_ret
    exact ⟨rfl, hb2⟩
  · rw [if_neg h0]
    have hd : decide (0 ≤ k ∧ k < (N : Int)) = false := decide_eq_false h0
    rw [hd] at HH
    clear h0 hd
    go_enter Try.func25, Try.ntmps25
    go_wp2_with fail
    refine HH.out.mono ?_
    rintro e w1 ⟨rfl, rfl⟩
    go_wp2
    go_ret
    exact ⟨rfl, Below.refl _ _⟩
end Go.Proofs.Ytjpmlojpcgfcfaa
