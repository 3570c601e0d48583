/- The document's table of segments. Conditions: none. -/
import Derived.Test.YtjpmlojpcgfcfaaSgl
namespace Go.Proofs.Ytjpmlojpcgfcfaa
open Go.ChangeShapes Go.WideShapes Go.ChangeAt Go.RowKit Go.Maps
set_option linter.unusedSimpArgs false
set_option linter.unusedVariables false
theorem put_sameR (f : Int → Ent) (k : Int) (x : Ent) : put f k x k = x := by unfold put; rw [if_pos rfl]
/-- the document's row tells what f tells -/
def RRow (cs : Array Value) (N : Nat) (f : Int → Ent) : Prop := ∀ j : Nat, j < N → ∃ e : Int, cs[j * 3]? = some (.int .i64 (f j).st) ∧ cs[j * 3 + 1]? = some (.int .i64 e) ∧ cs[j * 3 + 2]? = some (.int .i64 (f j).us) ∧ ((f j).st = 3 → e = (f j).ep)
theorem RRow.put {cs cs' : Array Value} {N : Nat} {f : Int → Ent} (h : RRow cs N f) (k : Nat) (x : Ent) (e' : Int) (h0 : cs'[k * 3]? = some (.int .i64 x.st)) (h1 : cs'[k * 3 + 1]? = some (.int .i64 e')) (h2 : cs'[k * 3 + 2]? = some (.int .i64 x.us)) (he : x.st = 3 → e' = x.ep)
    (ho : ∀ j, j ≠ k → ∀ d, d < 3 → cs'[j * 3 + d]? = cs[j * 3 + d]?) : RRow cs' N (put f k x) := by
  intro j hj
  by_cases e : j = k
  · subst e
    rw [put_sameR]
    exact ⟨e', h0, h1, h2, he⟩
  · obtain ⟨e1, a, b, c, d⟩ := h j hj
    have : Go.Proofs.Ytjpmlojpcgfcfaa.put f k x (j : Nat) = f (j : Nat) := by unfold Go.Proofs.Ytjpmlojpcgfcfaa.put; rw [if_neg (by omega)]
    rw [this]
    exact ⟨e1, (ho j e 0 (by omega)).trans a, (ho j e 1 (by omega)).trans b, (ho j e 2 (by omega)).trans c, d⟩
structure RTab (w : World) (rb gb N : Nat) (f : Int → Ent) : Prop where
  tab : w.heap[rb]? = some (.cells #[.slice (some ⟨gb, 0, none⟩) N N] 41 (0, 0))
  row : ∃ cs, w.heap[gb]? = some (.cells cs 43 (0, 0)) ∧ RRow cs N f
  ne : rb ≠ gb
  bound : 1 ≤ N ∧ N ≤ 65536
theorem RTab.lt {w : World} {rb gb N : Nat} {f : Int → Ent} (h : RTab w rb gb N f) : rb < w.heap.size ∧ gb < w.heap.size := by
  refine ⟨?_, ?_⟩
  · rcases Nat.lt_or_ge rb w.heap.size with h2 | h2
    · exact h2
    · have := h.tab; rw [Array.getElem?_eq_none h2] at this; cases this
  · obtain ⟨cs, h1, _⟩ := h.row
    rcases Nat.lt_or_ge gb w.heap.size with h2 | h2
    · exact h2
    · rw [Array.getElem?_eq_none h2] at h1; cases h1
theorem RTab.frm {w w' : World} {rb gb N : Nat} {f : Int → Ent} {O : Nat → Prop} (h : RTab w rb gb N f) (hf : Frm O w w') (h1 : ¬ O rb) (h2 : ¬ O gb) : RTab w' rb gb N f := by
  obtain ⟨cs, h3, h4⟩ := h.row
  exact ⟨(hf.block rb h.lt.1 h1).trans h.tab, ⟨cs, (hf.block gb h.lt.2 h2).trans h3, h4⟩, h.ne, h.bound⟩
theorem RTab.next {w w' : World} {rb gb N : Nat} {f : Int → Ent} (h : RTab w rb gb N f) (hb : Below w.heap.size w w') : RTab w' rb gb N f := h.frm (O := fun _ => False) ⟨hb.os, hb.tape, hb.output, hb.size, fun j hj _ => hb.block j hj⟩ id id
theorem RTab.cell {w : World} {rb gb N : Nat} {f : Int → Ent} (h : RTab w rb gb N f) : w.cell? ⟨rb, 0, none⟩ = some (.slice (some ⟨gb, 0, none⟩) N N) := cell_of_row w rb 0 _ _ _ h.tab
theorem RTab.at {w : World} {rb gb N : Nat} {f : Int → Ent} (h : RTab w rb gb N f) (k : Nat) (hk : k < N) :
    ∃ e : Int, w.cell? ⟨gb, k * 3, none⟩ = some (.int .i64 (f k).st) ∧ w.cell? ⟨gb, k * 3 + 1, none⟩ = some (.int .i64 e) ∧ w.cell? ⟨gb, k * 3 + 2, none⟩ = some (.int .i64 (f k).us) ∧ ((f k).st = 3 → e = (f k).ep) := by
  obtain ⟨cs, h1, h2⟩ := h.row
  obtain ⟨e, a, b, c, d⟩ := h2 k hk
  exact ⟨e, (cell_of_row w gb _ _ _ _ h1).trans a, (cell_of_row w gb _ _ _ _ h1).trans b, (cell_of_row w gb _ _ _ _ h1).trans c, d⟩
theorem RTab.free {w : World} {rb gb N : Nat} {f : Int → Ent} (h : RTab w rb gb N f) (i : Nat) : w.frozen? ⟨gb, i, none⟩ = false := by
  obtain ⟨cs, h1, _⟩ := h.row
  exact frozen_of_row w gb i _ _ h1
theorem set_at (cs : Array Value) (i : Nat) (v u : Value) (h : cs[i]? = some u) : (cs.setIfInBounds i v)[i]? = some v := by
  have hi : i < cs.size := by
    rcases Nat.lt_or_ge i cs.size with h1 | h1
    · exact h1
    · rw [Array.getElem?_eq_none h1] at h; cases h
  simp [Array.getElem?_setIfInBounds, hi]
theorem set_off (cs : Array Value) (i j : Nat) (v : Value) (h : i ≠ j) : (cs.setIfInBounds i v)[j]? = cs[j]? := by
  simp [Array.getElem?_setIfInBounds, h]
theorem RTab.other {w : World} {rb gb N : Nat} {f f' : Int → Ent} {w' : World} (h : RTab w rb gb N f) (hr : w'.heap[rb]? = w.heap[rb]?) (hrow : ∃ cs, w'.heap[gb]? = some (.cells cs 43 (0, 0)) ∧ RRow cs N f') : RTab w' rb gb N f' :=
  ⟨hr.trans h.tab, hrow, h.ne, h.bound⟩
/-- the state is set, not to held -/
theorem RTab.setSt {w : World} {rb gb N : Nat} {f : Int → Ent} (h : RTab w rb gb N f) (k : Nat) (hk : k < N) (s ep : Int) (hs : s ≠ 3) : RTab (w.setCell ⟨gb, k * 3, none⟩ (.int .i64 s)) rb gb N (put f k ⟨s, (f k).us, ep⟩) := by
  obtain ⟨cs, h1, h2⟩ := h.row
  obtain ⟨e, a, b, c, d⟩ := h2 k hk
  refine h.other (heap_setCell_other w _ rb _ h.ne) ⟨_, heap_setCell_same w gb _ _ _ _ h1, ?_⟩
  refine h2.put k _ e (set_at _ _ _ _ a) ((set_off _ _ _ _ (by omega)).trans b) ((set_off _ _ _ _ (by omega)).trans c) (fun x => absurd x hs) (fun j hj d hd => set_off _ _ _ _ (by omega))
/-- what is used is set -/
theorem RTab.setUs {w : World} {rb gb N : Nat} {f : Int → Ent} (h : RTab w rb gb N f) (k : Nat) (hk : k < N) (u : Int) : RTab (w.setCell ⟨gb, k * 3 + 2, none⟩ (.int .i64 u)) rb gb N (put f k ⟨(f k).st, u, (f k).ep⟩) := by
  obtain ⟨cs, h1, h2⟩ := h.row
  obtain ⟨e, a, b, c, d⟩ := h2 k hk
  refine h.other (heap_setCell_other w _ rb _ h.ne) ⟨_, heap_setCell_same w gb _ _ _ _ h1, ?_⟩
  refine h2.put k _ e ((set_off _ _ _ _ (by omega)).trans a) ((set_off _ _ _ _ (by omega)).trans b) (set_at _ _ _ _ c) d (fun j hj d hd => set_off _ _ _ _ (by omega))
/-- it is held with an epoch -/
theorem RTab.setHeld {w : World} {rb gb N : Nat} {f : Int → Ent} (h : RTab w rb gb N f) (k : Nat) (hk : k < N) (ep : Int) : RTab ((w.setCell ⟨gb, k * 3, none⟩ (.int .i64 3)).setCell ⟨gb, k * 3 + 1, none⟩ (.int .i64 ep)) rb gb N (put f k ⟨3, (f k).us, ep⟩) := by
  obtain ⟨cs, h1, h2⟩ := h.row
  obtain ⟨e, a, b, c, d⟩ := h2 k hk
  refine h.other ((heap_setCell_other _ _ rb _ h.ne).trans (heap_setCell_other w _ rb _ h.ne)) ⟨_, heap_setCell_same _ gb _ _ _ _ (heap_setCell_same w gb _ _ _ _ h1), ?_⟩
  refine h2.put k _ ep ((set_off _ _ _ _ (by omega)).trans (set_at _ _ _ _ a)) (set_at _ _ _ _ ((set_off _ _ _ _ (by omega)).trans b)) ((set_off _ _ _ _ (by omega)).trans ((set_off _ _ _ _ (by omega)).trans c)) (fun _ => rfl) (fun j hj d hd => (set_off _ _ _ _ (by omega)).trans (set_off _ _ _ _ (by omega)))
/-- it is let go -/
theorem RTab.clear {w : World} {rb gb N : Nat} {f : Int → Ent} (h : RTab w rb gb N f) (k : Nat) (hk : k < N) : RTab (w.setCells gb (k * 3) [.int .i64 0, .int .i64 0, .int .i64 0]) rb gb N (put f k ⟨0, 0, 0⟩) := by
  obtain ⟨cs, h1, h2⟩ := h.row
  obtain ⟨e, a, b, c, d⟩ := h2 k hk
  have e1 := heap_setCell_same w gb (k * 3) _ _ (.int .i64 0) h1
  have e2 := heap_setCell_same _ gb (k * 3 + 1) _ _ (.int .i64 0) e1
  have e3 := heap_setCell_same _ gb (k * 3 + 1 + 1) _ _ (.int .i64 0) e2
  refine h.other (w' := ((w.setCell ⟨gb, k * 3, none⟩ (.int .i64 0)).setCell ⟨gb, k * 3 + 1, none⟩ (.int .i64 0)).setCell ⟨gb, k * 3 + 1 + 1, none⟩ (.int .i64 0)) ((heap_setCell_other _ _ rb _ h.ne).trans ((heap_setCell_other _ _ rb _ h.ne).trans (heap_setCell_other w _ rb _ h.ne))) ⟨_, e3, ?_⟩
  refine h2.put k _ 0 ?_ ?_ ?_ (fun x => absurd x (by decide)) (fun j hj d hd => (set_off _ _ _ _ (by omega)).trans ((set_off _ _ _ _ (by omega)).trans (set_off _ _ _ _ (by omega))))
  · exact (set_off _ _ _ _ (by omega)).trans ((set_off _ _ _ _ (by omega)).trans (set_at _ _ _ _ a))
  · exact (set_off _ _ _ _ (by omega)).trans (set_at _ _ _ _ ((set_off _ _ _ _ (by omega)).trans b))
  · exact set_at _ _ _ _ ((set_off _ _ _ _ (by omega)).trans ((set_off _ _ _ _ (by omega)).trans c))
set_option maxRecDepth 100000 in
theorem ris_any (rb gb N : Nat) (f : Int → Ent) (w : World) (h : RTab w rb gb N f) (k : Int) :
    Calls Try.prog 37 #[.pointer (some ⟨rb, 0, none⟩), .int .i64 k] w fun e w' => e = .returned (.bool (decide (0 ≤ k ∧ k < (N : Int)))) ∧ w = w' := by
  have hc := h.cell
  have hbn := h.bound
  clear h
  by_cases h0 : 0 ≤ k
  · by_cases h1 : k < (N : Int)
    · go_enter Try.func37, Try.ntmps37
      go_wp2
      go_ret
      exact ⟨by simp [h0, h1], rfl⟩
    · go_enter Try.func37, Try.ntmps37
      go_wp2
      go_ret
      exact ⟨by simp [h0, h1], rfl⟩
  · go_enter Try.func37, Try.ntmps37
    go_wp2
    go_ret
    exact ⟨by simp; omega, rfl⟩
set_option maxRecDepth 100000 in
theorem rstate_any (rb gb N : Nat) (f : Int → Ent) (w : World) (h : RTab w rb gb N f) (k : Int) :
    Calls Try.prog 17 #[.pointer (some ⟨rb, 0, none⟩), .int .i64 k] w fun e w' => e = .returned (.int .i64 (if 0 ≤ k ∧ k < (N : Int) then (f k).st else -1)) ∧ w = w' := by
  have HH := Lib.hid (ris_any rb gb N f w h k)
  by_cases h0 : 0 ≤ k ∧ k < (N : Int)
  · rw [if_pos h0]
    have hd : decide (0 ≤ k ∧ k < (N : Int)) = true := decide_eq_true h0
    rw [hd] at HH
    obtain ⟨kn, rfl⟩ := Int.eq_ofNat_of_zero_le h0.1
    have hkn : kn < N := by omega
    obtain ⟨e, a, _⟩ := h.at kn hkn
    have hc := h.cell
    have hbn := h.bound
    clear h0 hd h
    go_enter Try.func17, Try.ntmps17
    go_wp2_with fail
    refine HH.out.mono ?_
    rintro e w1 ⟨rfl, rfl⟩
    go_wp2
    go_ret
    exact ⟨rfl, rfl⟩
  · rw [if_neg h0]
    have hd : decide (0 ≤ k ∧ k < (N : Int)) = false := decide_eq_false h0
    rw [hd] at HH
    clear h0 hd h
    go_enter Try.func17, Try.ntmps17
    go_wp2_with fail
    refine HH.out.mono ?_
    rintro e w1 ⟨rfl, rfl⟩
    go_wp2
    go_ret
    exact ⟨rfl, rfl⟩
set_option maxRecDepth 100000 in
theorem rused_any (rb gb N : Nat) (f : Int → Ent) (w : World) (h : RTab w rb gb N f) (k : Int) :
    Calls Try.prog 18 #[.pointer (some ⟨rb, 0, none⟩), .int .i64 k] w fun e w' => e = .returned (.int .i64 (if 0 ≤ k ∧ k < (N : Int) then (f k).us else 0)) ∧ w = w' := by
  have HH := Lib.hid (ris_any rb gb N f w h k)
  by_cases h0 : 0 ≤ k ∧ k < (N : Int)
  · rw [if_pos h0]
    have hd : decide (0 ≤ k ∧ k < (N : Int)) = true := decide_eq_true h0
    rw [hd] at HH
    obtain ⟨kn, rfl⟩ := Int.eq_ofNat_of_zero_le h0.1
    have hkn : kn < N := by omega
    obtain ⟨e, _, _, a, _⟩ := h.at kn hkn
    have hc := h.cell
    have hbn := h.bound
    clear h0 hd h
    go_enter Try.func18, Try.ntmps18
    go_wp2_with fail
    refine HH.out.mono ?_
    rintro e w1 ⟨rfl, rfl⟩
    go_wp2
    go_ret
    exact ⟨rfl, rfl⟩
  · rw [if_neg h0]
    have hd : decide (0 ≤ k ∧ k < (N : Int)) = false := decide_eq_false h0
    rw [hd] at HH
    clear h0 hd h
    go_enter Try.func18, Try.ntmps18
    go_wp2_with fail
    refine HH.out.mono ?_
    rintro e w1 ⟨rfl, rfl⟩
    go_wp2
    go_ret
    exact ⟨rfl, rfl⟩
end Go.Proofs.Ytjpmlojpcgfcfaa
