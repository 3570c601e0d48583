/- The table of segments: Used and Add. Conditions: none. -/
import Derived.Test.YtjpmlojpcgfcfaaSgc
namespace Go.Proofs.Ytjpmlojpcgfcfaa
open Go.ChangeShapes Go.WideShapes Go.ChangeAt Go.RowKit Go.Maps
set_option linter.unusedSimpArgs false
set_option linter.unusedVariables false
theorem field_us (x : Int) (b c : Value) (w : World) : (Instr.field 63 (.agg #[b, .int .i64 x, c]) 1).run Try.prog w = .ok (.int .i64 x) w := by kernel_rfl
set_option maxRecDepth 100000 in
theorem used_any (tb b m N : Nat) (f : Int → Ent) (low : Nat) (w : World) (h : Tab w tb b m N f low) (k : Int) (hk : (Lit.int .i64 k).wf = true) :
    Calls Try.prog 26 #[.pointer (some ⟨tb, 0, none⟩), .int .i64 k] w fun e w' => e = .returned (.int .i64 (f k).us) ∧ Below w.heap.size w w' := by
  have hg := get_any tb b m (N : Nat) f (cntF N f) (low : Nat) w h.box k hk
  unfold entV at hg
  have hfl := fun w' => field_us (f k).us (.int .i64 (f k).st) (.int .i64 (f k).ep) w'
  have HG := Lib.hid hg
  clear hg h
  go_enter Try.func26, Try.ntmps26
  go_wp2_with fail
  refine HG.out.mono ?_
  rintro e w2 ⟨rfl, hb2⟩
  have HB2 := Lib.hid hb2
  clear hb2
  go_wp2
  go_ret
  exact ⟨rfl, HB2.out⟩
/-- what Add comes to -/
def AddP (tb b m N : Nat) (f : Int → Ent) (low : Nat) (k n : Int) (w : World) (e : Ending) (w' : World) : Prop :=
  (¬ (0 ≤ k ∧ k < (N : Int)) ∧ e = .returned (.int .i64 2) ∧ Below w.heap.size w w') ∨
  ((0 ≤ k ∧ k < (N : Int)) ∧ (f k).st = 0 ∧ e = .returned (.int .i64 9) ∧ Below w.heap.size w w') ∨
  ((0 ≤ k ∧ k < (N : Int)) ∧ (f k).st ≠ 0 ∧ (n < -(f k).us ∨ 1073741824 - (f k).us < n) ∧ e = .returned (.int .i64 1) ∧ Below w.heap.size w w') ∨
  ((0 ≤ k ∧ k < (N : Int)) ∧ (f k).st ≠ 0 ∧ ¬ (n < -(f k).us ∨ 1073741824 - (f k).us < n) ∧ e = .returned (.int .i64 0) ∧ Tab w' tb b (m + 1) N (put f k ⟨(f k).st, (f k).us + n, (f k).ep⟩) low ∧ Frm (fun j => j = tb ∨ j = b) w w')
set_option maxRecDepth 100000 in
set_option maxHeartbeats 1000000 in
theorem add_any (tb b m N : Nat) (f : Int → Ent) (low : Nat) (w : World) (h : Tab w tb b m N f low) (k n : Int) (hk : (Lit.int .i64 k).wf = true) (hu : 0 ≤ (f k).us ∧ (f k).us ≤ 1073741824) (hm : m < 1000000) :
    Calls Try.prog 24 #[.pointer (some ⟨tb, 0, none⟩), .int .i64 k, .int .i64 n] w (AddP tb b m N f low k n w) := by
  have hh := has_any tb b m N f low w h k
  have HH := Lib.hid hh
  clear hh
  by_cases h0 : 0 ≤ k ∧ k < (N : Int)
  · have hd : decide (0 ≤ k ∧ k < (N : Int)) = true := decide_eq_true h0
    rw [hd] at HH
    clear hd
    have hg := get_any tb b m (N : Nat) f (cntF N f) (low : Nat) w h.box k hk
    unfold entV at hg
    obtain ⟨kn, rfl⟩ := Int.eq_ofNat_of_zero_le h0.1
    have hkn : kn < N := by omega
    obtain ⟨s, hs4, hs⟩ := h.kind kn hkn
    have hset := fun w2 (h2 : Tab w2 tb b m N f low) u => tset_any tb b m N f low w2 h2 kn hkn s hs4 u (f (kn : Nat)).ep hm
    have hP : ∀ e w', ((f (kn : Nat)).st = 0 ∧ e = .returned (.int .i64 9) ∧ Below w.heap.size w w') ∨
  ((f (kn : Nat)).st ≠ 0 ∧ (n < -(f (kn : Nat)).us ∨ 1073741824 - (f (kn : Nat)).us < n) ∧ e = .returned (.int .i64 1) ∧ Below w.heap.size w w') ∨
  ((f (kn : Nat)).st ≠ 0 ∧ ¬ (n < -(f (kn : Nat)).us ∨ 1073741824 - (f (kn : Nat)).us < n) ∧ e = .returned (.int .i64 0) ∧ Tab w' tb b (m + 1) N (put f (kn : Nat) ⟨(f (kn : Nat)).st, (f (kn : Nat)).us + n, (f (kn : Nat)).ep⟩) low ∧ Frm (fun j => j = tb ∨ j = b) w w') → AddP tb b m N f low (kn : Nat) n w e w' := by
      rintro e w' (⟨a, b⟩ | ⟨a, b, c⟩ | ⟨a, b, c⟩)
      · exact Or.inr (Or.inl ⟨h0, a, b⟩)
      · exact Or.inr (Or.inr (Or.inl ⟨h0, a, b, c⟩))
      · exact Or.inr (Or.inr (Or.inr ⟨h0, a, b, c⟩))
    rw [hs] at hP hg
    generalize (f (kn : Nat)).us = u at hP hg hu hset
    generalize (f (kn : Nat)).ep = ep at hP hg hset
    have HP := Lib.hid hP
    have HG := Lib.hid hg
    have HSET := Lib.hid hset
    have H := Lib.hid h
    obtain ⟨hu0, hu1⟩ := hu
    clear hP hg hset h h0 hs
    by_cases hs0 : s = 0
    · subst hs0
      go_enter Try.func24, Try.ntmps24
      go_wp2_with fail
      refine HH.out.mono ?_
      rintro e w1 ⟨rfl, rfl⟩
      go_wp2_with fail
      refine HG.out.mono ?_
      rintro e w2 ⟨rfl, hb2⟩
      have HB2 := Lib.hid (hb2.alloc hb2.size (.cells #[.int .i64 0, .int .i64 u, .int .i64 ep] 63))
      clear hb2
      go_wp2
      go_ret
      exact HP.out _ _ (Or.inl ⟨rfl, rfl, HB2.out⟩)
    · have t0 : ((s : Int) == 0) = false := by rw [beq_eq_false_iff_ne]; omega
      have hs1 : ((s : Nat) : Int) ≠ 0 := by omega
      have HS1 := Lib.hid hs1
      clear hs1
      by_cases hn : n < -u ∨ 1073741824 - u < n
      · have HN := Lib.hid hn
        go_enter Try.func24, Try.ntmps24
        go_wp2_with fail
        refine HH.out.mono ?_
        rintro e w1 ⟨rfl, rfl⟩
        go_wp2_with fail
        refine HG.out.mono ?_
        rintro e w2 ⟨rfl, hb2⟩
        have HB2 := Lib.hid (hb2.alloc hb2.size (.cells #[.int .i64 (s : Nat), .int .i64 u, .int .i64 ep] 63))
        clear hb2
        by_cases hn1 : n < -u
        · clear hn
          go_wp2
          go_ret
          exact HP.out _ _ (Or.inr (Or.inl ⟨HS1.out, HN.out, rfl, HB2.out⟩))
        · have hn2 : 1073741824 - u < n := by omega
          clear hn
          go_wp2
          go_ret
          exact HP.out _ _ (Or.inr (Or.inl ⟨HS1.out, HN.out, rfl, HB2.out⟩))
      · have HN := Lib.hid hn
        have hn1 : ¬ n < -u := by omega
        have hn2 : ¬ 1073741824 - u < n := by omega
        clear hn
        go_enter Try.func24, Try.ntmps24
        go_wp2_with fail
        refine HH.out.mono ?_
        rintro e w1 ⟨rfl, rfl⟩
        go_wp2_with fail
        refine HG.out.mono ?_
        rintro e w2 ⟨rfl, hb2⟩
        have hb4 := hb2.alloc hb2.size (.cells #[.int .i64 (s : Nat), .int .i64 (u + n), .int .i64 ep] 63)
        have hst := HSET.out _ (H.out.next hb4) (u + n)
        unfold entV at hst
        have HST := Lib.hid hst
        have HF4 := Lib.hid (Frm.of_below (O := fun j => j = tb ∨ j = b) hb4)
        clear hst hb4 hb2
        go_wp2_with fail
        refine HST.out.mono ?_
        rintro e w5 ⟨rfl, hT5, hF5⟩
        rw [if_neg hs0, if_neg hs0] at hT5
        have HT5 := Lib.hid hT5
        have HF5 := Lib.hid (HF4.out.trans hF5)
        clear hT5 hF5
        go_wp2
        go_ret
        exact HP.out _ _ (Or.inr (Or.inr ⟨HS1.out, HN.out, rfl, HT5.out, HF5.out⟩))
  · have hd : decide (0 ≤ k ∧ k < (N : Int)) = false := decide_eq_false h0
    rw [hd] at HH
    have H0 := Lib.hid h0
    clear h0 hd h
    go_enter Try.func24, Try.ntmps24
    go_wp2_with fail
    refine HH.out.mono ?_
    rintro e w1 ⟨rfl, rfl⟩
    go_wp2
    go_ret
    exact Or.inl ⟨H0.out, rfl, Below.refl _ _⟩
end Go.Proofs.Ytjpmlojpcgfcfaa
