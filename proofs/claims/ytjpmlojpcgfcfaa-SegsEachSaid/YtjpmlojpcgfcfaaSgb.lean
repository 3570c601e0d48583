/- The table of segments: turn, Fill, Hold, Take. Conditions: none. -/
import Derived.Test.YtjpmlojpcgfcfaaSga
namespace Go.Proofs.Ytjpmlojpcgfcfaa
open Go.ChangeShapes Go.WideShapes Go.ChangeAt Go.RowKit Go.Maps
set_option linter.unusedSimpArgs false
set_option linter.unusedVariables false
/-- what turn comes to -/
def TurnP (tb b m N : Nat) (f : Int → Ent) (low : Nat) (k from_ : Int) (t : Nat) (ep : Int) (w : World) (e : Ending) (w' : World) : Prop :=
  (¬ (0 ≤ k ∧ k < (N : Int)) ∧ e = .returned (.int .i64 2) ∧ Below w.heap.size w w') ∨
  ((0 ≤ k ∧ k < (N : Int)) ∧ (f k).st ≠ from_ ∧ e = .returned (.int .i64 9) ∧ Below w.heap.size w w') ∨
  ((0 ≤ k ∧ k < (N : Int)) ∧ (f k).st = from_ ∧ e = .returned (.int .i64 0) ∧ Tab w' tb b (m + 1) N (put f k ⟨(t : Nat), (f k).us, ep⟩) low ∧ Frm (fun j => j = tb ∨ j = b) w w')
set_option maxRecDepth 100000 in
set_option maxHeartbeats 1000000 in
theorem turn_any (tb b m N : Nat) (f : Int → Ent) (low : Nat) (w : World) (h : Tab w tb b m N f low) (k : Int) (hk : (Lit.int .i64 k).wf = true) (from_ : Int) (t : Nat) (ht : t < 4) (ht0 : t ≠ 0) (ep : Int) (hm : m < 1000000) :
    Calls Try.prog 38 #[.pointer (some ⟨tb, 0, none⟩), .int .i64 k, .int .i64 from_, entV ⟨(t : Nat), 0, ep⟩] w (TurnP tb b m N f low k from_ t ep w) := by
  have hb1 : Below w.heap.size w (w.alloc (.cells #[.int .i64 (t : Nat), .int .i64 0, .int .i64 ep] 63)) := (Below.refl _ _).alloc (Nat.le_refl _) _
  have h1 := h.next hb1
  have hh := has_any tb b m N f low _ h1 k
  have hg := get_any tb b m (N : Nat) f (cntF N f) (low : Nat) _ h1.box k hk
  unfold entV at hg ⊢
  have HH := Lib.hid hh
  have HG := Lib.hid hg
  have HB1 := Lib.hid hb1
  have HT := Lib.hid h1
  clear hh hg hb1 h1
  by_cases h0 : 0 ≤ k ∧ k < (N : Int)
  · have hd : decide (0 ≤ k ∧ k < (N : Int)) = true := decide_eq_true h0
    rw [hd] at HH
    clear hd
    have H0 := Lib.hid h0
    obtain ⟨kn, rfl⟩ := Int.eq_ofNat_of_zero_le h0.1
    have hkn : kn < N := by omega
    clear h0
    by_cases hf : (f (kn : Nat)).st = from_
    · subst hf
      go_enter Try.func38, Try.ntmps38
      go_wp2_with fail
      refine HH.out.mono ?_
      rintro e w1 ⟨rfl, rfl⟩
      go_wp2_with fail
      refine HG.out.mono ?_
      rintro e w2 ⟨rfl, hb2⟩
      have hx2 : w2.heap[w.heap.size]? = some (.cells #[.int .i64 (t : Nat), .int .i64 0, .int .i64 ep] 63 (0, 0)) := (hb2.block w.heap.size (by simp)).trans (heap_alloc_new w _)
      have hx3 : (w2.alloc (.cells #[.int .i64 (f (kn : Nat)).st, .int .i64 (f (kn : Nat)).us, .int .i64 (f (kn : Nat)).ep] 63)).heap[w.heap.size]? = some (.cells #[.int .i64 (t : Nat), .int .i64 0, .int .i64 ep] 63 (0, 0)) := (Below.heap_alloc w2 _ _ (by have := hb2.size; simp at this; omega)).trans hx2
      have y1 := cell_of_row _ w.heap.size 1 _ _ _ hx3
      have y1f := frozen_of_row _ w.heap.size 1 _ _ hx3
      have hx4 := heap_setCell_same _ w.heap.size 1 _ _ (.int .i64 (f (kn : Nat)).us) hx3
      have z0 : ((w2.alloc (.cells #[.int .i64 (f (kn : Nat)).st, .int .i64 (f (kn : Nat)).us, .int .i64 (f (kn : Nat)).ep] 63)).setCell ⟨w.heap.size, 1, none⟩ (.int .i64 (f (kn : Nat)).us)).cell? ⟨w.heap.size, 0, none⟩ = some (.int .i64 (t : Nat)) := cell_of_row _ w.heap.size 0 _ _ _ hx4
      have z1 : ((w2.alloc (.cells #[.int .i64 (f (kn : Nat)).st, .int .i64 (f (kn : Nat)).us, .int .i64 (f (kn : Nat)).ep] 63)).setCell ⟨w.heap.size, 1, none⟩ (.int .i64 (f (kn : Nat)).us)).cell? ⟨w.heap.size, 1, none⟩ = some (.int .i64 (f (kn : Nat)).us) := cell_of_row _ w.heap.size 1 _ _ _ hx4
      have z2 : ((w2.alloc (.cells #[.int .i64 (f (kn : Nat)).st, .int .i64 (f (kn : Nat)).us, .int .i64 (f (kn : Nat)).ep] 63)).setCell ⟨w.heap.size, 1, none⟩ (.int .i64 (f (kn : Nat)).us)).cell? ⟨w.heap.size, 2, none⟩ = some (.int .i64 ep) := cell_of_row _ w.heap.size 2 _ _ _ hx4
      have hF4 : Frm (fun j => j = tb ∨ j = b) w ((w2.alloc (.cells #[.int .i64 (f (kn : Nat)).st, .int .i64 (f (kn : Nat)).us, .int .i64 (f (kn : Nat)).ep] 63)).setCell ⟨w.heap.size, 1, none⟩ (.int .i64 (f (kn : Nat)).us)) := ((((Frm.refl _ w).alloc _).trans (Frm.of_below hb2)).alloc _).setCell w.heap.size 1 (Or.inr (Nat.le_refl _)) _
      have hT4 : Tab ((w2.alloc (.cells #[.int .i64 (f (kn : Nat)).st, .int .i64 (f (kn : Nat)).us, .int .i64 (f (kn : Nat)).ep] 63)).setCell ⟨w.heap.size, 1, none⟩ (.int .i64 (f (kn : Nat)).us)) tb b m N f low := h.next (((HB1.out.trans (hb2.mono (by simp))).alloc (by have := hb2.size; simp at this; omega) _).setCell (p := ⟨w.heap.size, 1, none⟩) (Nat.le_refl _) _)
      have hset := tset_any tb b m N f low _ hT4 kn hkn t ht (f (kn : Nat)).us ep hm
      unfold entV at hset
      have HSET := Lib.hid hset
      have HF4 := Lib.hid hF4
      clear hset hF4 hT4 hx4 hx3 hx2 hb2
      go_wp2_with fail
      refine HSET.out.mono ?_
      rintro e w5 ⟨rfl, hT5, hF5⟩
      rw [if_neg ht0, if_neg ht0] at hT5
      have HT5 := Lib.hid hT5
      have HF5 := Lib.hid (HF4.out.trans hF5)
      clear hT5 hF5
      go_wp2
      go_ret
      exact Or.inr (Or.inr ⟨H0.out, rfl, rfl, HT5.out, HF5.out⟩)
    · have t1 : ((f (kn : Nat)).st == from_) = false := by rw [beq_eq_false_iff_ne]; exact hf
      go_enter Try.func38, Try.ntmps38
      go_wp2_with fail
      refine HH.out.mono ?_
      rintro e w1 ⟨rfl, rfl⟩
      go_wp2_with fail
      refine HG.out.mono ?_
      rintro e w2 ⟨rfl, hb2⟩
      have HB2 := Lib.hid ((HB1.out.trans (hb2.mono (by simp))).alloc (by have := hb2.size; simp at this; omega) (.cells #[.int .i64 (f (kn : Nat)).st, .int .i64 (f (kn : Nat)).us, .int .i64 (f (kn : Nat)).ep] 63))
      have HNE := Lib.hid hf
      clear hb2 hf
      go_wp2
      go_ret
      exact Or.inr (Or.inl ⟨H0.out, HNE.out, rfl, HB2.out⟩)
  · have hd : decide (0 ≤ k ∧ k < (N : Int)) = false := decide_eq_false h0
    rw [hd] at HH
    have H0 := Lib.hid h0
    clear h0 hd
    go_enter Try.func38, Try.ntmps38
    go_wp2_with fail
    refine HH.out.mono ?_
    rintro e w1 ⟨rfl, rfl⟩
    go_wp2
    go_ret
    exact Or.inl ⟨H0.out, rfl, HB1.out⟩

set_option maxRecDepth 100000 in
theorem fill_any (tb b m N : Nat) (f : Int → Ent) (low : Nat) (w : World) (h : Tab w tb b m N f low) (k : Int) (hk : (Lit.int .i64 k).wf = true) (hm : m < 1000000) :
    Calls Try.prog 21 #[.pointer (some ⟨tb, 0, none⟩), .int .i64 k] w (TurnP tb b m N f low k 1 2 0 w) := by
  have ht := turn_any tb b m N f low w h k hk 1 2 (by omega) (by omega) 0 hm
  unfold entV at ht
  have HT := Lib.hid ht
  clear ht h
  go_enter Try.func21, Try.ntmps21
  go_wp2_with fail
  refine HT.out.mono ?_
  rintro e w' hP
  have HP := Lib.hid hP
  obtain ⟨v, rfl⟩ : ∃ v, e = .returned (.int .i64 v) := by
    rcases hP with ⟨_, h, _⟩ | ⟨_, _, h, _⟩ | ⟨_, _, h, _⟩
    · exact ⟨_, h⟩
    · exact ⟨_, h⟩
    · exact ⟨_, h⟩
  clear hP
  go_wp2
  go_ret
  exact HP.out
set_option maxRecDepth 100000 in
theorem hold_any (tb b m N : Nat) (f : Int → Ent) (low : Nat) (w : World) (h : Tab w tb b m N f low) (k : Int) (hk : (Lit.int .i64 k).wf = true) (ep : Int) (hm : m < 1000000) :
    Calls Try.prog 22 #[.pointer (some ⟨tb, 0, none⟩), .int .i64 k, .int .i64 ep] w (TurnP tb b m N f low k 2 3 ep w) := by
  have ht := turn_any tb b m N f low w h k hk 2 3 (by omega) (by omega) ep hm
  unfold entV at ht
  have HT := Lib.hid ht
  clear ht h
  go_enter Try.func22, Try.ntmps22
  go_wp2_with fail
  refine HT.out.mono ?_
  rintro e w' hP
  have HP := Lib.hid hP
  obtain ⟨v, rfl⟩ : ∃ v, e = .returned (.int .i64 v) := by
    rcases hP with ⟨_, h, _⟩ | ⟨_, _, h, _⟩ | ⟨_, _, h, _⟩
    · exact ⟨_, h⟩
    · exact ⟨_, h⟩
    · exact ⟨_, h⟩
  clear hP
  go_wp2
  go_ret
  exact HP.out
theorem cntF_zero {N : Nat} {f : Int → Ent} (h : cntF N f 0 ≠ 0) : ∃ k : Nat, k < N ∧ (f k).st = 0 := by
  induction N with
  | zero => exact absurd rfl h
  | succ N ih =>
    by_cases h0 : (f (N : Nat)).st = 0
    · exact ⟨N, by omega, h0⟩
    · rw [cntF, if_neg (by simpa using h0)] at h
      obtain ⟨k, hk, hz⟩ := ih (by omega)
      exact ⟨k, by omega, hz⟩
def TakeP (tb b m N : Nat) (f : Int → Ent) (low : Nat) (w : World) (e : Ending) (w' : World) : Prop :=
  (cntF N f 0 = 0 ∧ e = .returned (.tuple #[.int .i64 0, .int .i64 10]) ∧ w = w') ∨
  (∃ k : Nat, low ≤ k ∧ k < N ∧ (f k).st = 0 ∧ (∀ j : Nat, j < k → (f j).st ≠ 0) ∧ e = .returned (.tuple #[.int .i64 k, .int .i64 0]) ∧ Tab w' tb b (m + 1) N (put f k ⟨1, 0, 0⟩) k ∧ Frm (fun j => j = tb ∨ j = b) w w')
def lowOf (tb : Nat) (w : World) : Nat := match w.cell? ⟨tb, 6, none⟩ with
  | some (.int _ x) => x.toNat
  | _ => 0
theorem Tab.lowOf {w : World} {tb b m N : Nat} {f : Int → Ent} {low : Nat} (h : Tab w tb b m N f low) : lowOf tb w = low := by
  unfold Go.Proofs.Ytjpmlojpcgfcfaa.lowOf
  rw [h.box.field.2.1]
  exact Int.toNat_natCast low
set_option maxRecDepth 100000 in
set_option maxHeartbeats 1000000 in
theorem take_any (tb b m N : Nat) (f : Int → Ent) (low : Nat) (w : World) (h : Tab w tb b m N f low) (hm : m < 1000000) :
    Calls Try.prog 20 #[.pointer (some ⟨tb, 0, none⟩)] w (TakeP tb b m N f low w) := by
  obtain ⟨c0, _⟩ := h.box.count 0 (by omega)
  have hix := fun w' => index_count tb 0 (by omega) w'
  simp only [Nat.add_zero] at c0
  by_cases hz : cntF N f 0 = 0
  · rw [hz] at c0
    have HZ := Lib.hid hz
    clear hz h
    go_enter Try.func20, Try.ntmps20
    go_wp2
    go_ret2
    exact Or.inl ⟨HZ.out, rfl, rfl⟩
  · obtain ⟨j0, hj0, hj1⟩ := cntF_zero hz
    have t0 : (cntF N f 0 == 0) = false := by rw [beq_eq_false_iff_ne]; exact hz
    have H := Lib.hid h
    have HJ := Lib.hid hj1
    have hN := h.most
    clear h hz hj1
    go_enter Try.func20, Try.ntmps20
    go_wp2_with fail
    go_loopw [] (fun wr => ∃ lo : Nat, low ≤ lo ∧ Tab wr tb b m N f lo ∧ Frm (fun j => j = tb ∨ j = b) w wr) (fun wr => N - lowOf tb wr)
    case atStart => exact ⟨low, Nat.le_refl _, H.out, Frm.refl _ _⟩
    case round =>
      obtain ⟨lo, hlo, ht, hfr⟩ := hrel
      have hlj : lo ≤ j0 := by
        rcases Nat.lt_or_ge j0 lo with h | h
        · exact absurd HJ.out (ht.full j0 h)
        · exact h
      obtain ⟨_, e6, e6f, _⟩ := ht.box.field
      have hg := get_any tb b m (N : Nat) f (cntF N f) (lo : Nat) wr ht.box lo (wf64 (by omega) (by omega))
      unfold entV at hg
      have hfl := fun w' => field_st (f (lo : Nat)).st (.int .i64 (f (lo : Nat)).us) (.int .i64 (f (lo : Nat)).ep) w'
      have HG := Lib.hid hg
      have HT := Lib.hid ht
      have HF := Lib.hid hfr
      clear hg ht hfr
      go_wp2_with fail
      refine HG.out.mono ?_
      rintro e w2 ⟨rfl, hb2⟩
      have hT2 := HT.out.next hb2
      obtain ⟨_, g6, g6f, _⟩ := hT2.box.field
      have HT2 := Lib.hid hT2
      have HF2 := Lib.hid (HF.out.trans (Frm.of_below hb2))
      by_cases hfree : (f (lo : Nat)).st = 0
      · have hset := tset_any tb b m N f lo w2 hT2 lo (by omega) 1 (by omega) 0 0 hm
        unfold entV at hset
        have HSET := Lib.hid hset
        have HFREE := Lib.hid hfree
        rw [hfree] at hfl ⊢
        clear hset hT2 hb2 hfree
        go_wp2_with fail
        refine HSET.out.mono ?_
        rintro e w3 ⟨rfl, hT3, hF3⟩
        rw [if_neg (by omega), if_neg (by omega)] at hT3
        have HT3 := Lib.hid hT3
        have HF3 := Lib.hid (HF2.out.trans hF3)
        clear hT3 hF3
        go_wp2
        go_ret2
        exact Or.inr ⟨lo, hlo, by omega, HFREE.out, HT.out.full, rfl, HT3.out, HF3.out⟩
      · have t1 : ((f (lo : Nat)).st == 0) = false := by rw [beq_eq_false_iff_ne]; exact hfree
        have HNF := Lib.hid hfree
        have hlow : lo + 1 ≤ N := by omega
        have hne : lo ≠ j0 := fun e => hfree (by rw [e]; exact HJ.out)
        have hT3 : Tab (w2.setCell ⟨tb, 6, none⟩ (.int .i64 ((lo : Int) + 1))) tb b m N f (lo + 1) := ⟨by have := hT2.box.setLow ((lo : Int) + 1); rw [Int.natCast_add]; exact this, hT2.out, hT2.kind, fun j hj => by rcases Nat.lt_or_ge j lo with h | h; exact hT2.full j h; (obtain rfl : j = lo := by omega); exact hfree, hlow, hT2.most⟩
        have HT3 := Lib.hid hT3
        have HF3 := Lib.hid (HF2.out.setCell tb 6 (Or.inl (Or.inl rfl)) (.int .i64 ((lo : Int) + 1)))
        have hl1 := hT3.lowOf
        have hl2 := HT.out.lowOf
        clear hT3 hT2 hb2 hfree
        go_wp2
        go_roundw
        case rel => exact ⟨lo + 1, by omega, HT3.out, HF3.out⟩
        case measure => rw [hl1, hl2]; omega
end Go.Proofs.Ytjpmlojpcgfcfaa
