/- Both tables of segments, side by side: an act on both, what both tell. Conditions: none. -/
import Derived.Test.YtjpmlojpcgfcfaaRsj
import Derived.Test.YtjpmlojpcgfcfaaSgn
import Derived.Test.YtjpmlojpcgfcfaaSgu
namespace Go.Proofs.Ytjpmlojpcgfcfaa
open Go.ChangeShapes Go.WideShapes Go.ChangeAt Go.RowKit Go.Maps
set_option linter.unusedSimpArgs false
set_option linter.unusedVariables false
/-- what is always so -/
def Good (f : Int → Ent) : Prop := ∀ k, ((f k).st = 0 → (f k).us = 0) ∧ 0 ≤ (f k).us ∧ (f k).us ≤ 1073741824
theorem Good.put {f : Int → Ent} (h : Good f) (k : Int) (x : Ent) (hx : (x.st = 0 → x.us = 0) ∧ 0 ≤ x.us ∧ x.us ≤ 1073741824) : Good (put f k x) := by
  intro j
  unfold Go.Proofs.Ytjpmlojpcgfcfaa.put
  split
  · exact hx
  · exact h j
theorem Good.turn {f : Int → Ent} (h : Good f) (N : Nat) (k fr : Int) (t : Nat) (ht : t ≠ 0) (ep : Int) : Good (turnR N f k fr t ep).2 := by
  unfold turnR
  split
  · split
    · exact h.put k _ ⟨fun e => by simp only at e; omega, (h k).2⟩
    · exact h
  · exact h
theorem Good.add {f : Int → Ent} (h : Good f) (N : Nat) (k n : Int) : Good (addR N f k n).2 := by
  unfold addR
  split
  · split
    · exact h
    · rename_i h0
      split
      · exact h
      · rename_i h1
        exact h.put k _ ⟨fun e => absurd e h0, by simp only; omega⟩
  · exact h
theorem Good.rel {f : Int → Ent} (h : Good f) (L : List Nat) : Good (relP f L) := by
  intro j
  unfold relP
  split
  · exact ⟨fun _ => rfl, by decide, by decide⟩
  · exact h j
theorem Good.no : Good noEnt := fun k => ⟨fun _ => rfl, by unfold noEnt; decide, by unfold noEnt; decide⟩
theorem Good.ld (bs : List Bool) (i : Nat) : Good (ldF bs i) := fun k => by rw [ldF_us]; exact ⟨fun _ => rfl, by decide, by decide⟩
/-- the program's table, with at most M stores so far -/
def TT (tb b N M : Nat) (w : World) (f : Int → Ent) : Prop := ∃ m lo, m ≤ M ∧ Tab w tb b m N f lo
theorem TT.frm {tb b N M : Nat} {w w' : World} {f : Int → Ent} {O : Nat → Prop} (h : TT tb b N M w f) (hf : Frm O w w') (h1 : ¬ O tb) (h2 : ¬ O b) : TT tb b N M w' f := by
  obtain ⟨m, lo, hm, hT⟩ := h
  exact ⟨m, lo, hm, hT.frm hf h1 h2⟩
theorem TT.more {tb b N M M' : Nat} {w : World} {f : Int → Ent} (h : TT tb b N M w f) (hM : M ≤ M') : TT tb b N M' w f := by
  obtain ⟨m, lo, hm, hT⟩ := h
  exact ⟨m, lo, by omega, hT⟩
theorem TT.lt {tb b N M : Nat} {w : World} {f : Int → Ent} (h : TT tb b N M w f) : tb < w.heap.size ∧ b < w.heap.size := by
  obtain ⟨m, lo, hm, hT⟩ := h
  exact ⟨hT.box.lt, hT.box.map.lt⟩
theorem TT.most {tb b N M : Nat} {w : World} {f : Int → Ent} (h : TT tb b N M w f) : N ≤ 65536 := by
  obtain ⟨m, lo, hm, hT⟩ := h
  exact hT.most
theorem tturn {tb b N M : Nat} {w : World} {f : Int → Ent} {k fr : Int} {t : Nat} {ep : Int} {m lo : Nat} (hm : m ≤ M) (hT : Tab w tb b m N f lo) {e : Ending} {w' : World} (h : TurnP tb b m N f lo k fr t ep w e w') :
    e = .returned (.int .i64 (turnR N f k fr t ep).1) ∧ TT tb b N (M + 1) w' (turnR N f k fr t ep).2 ∧ Frm (fun j => j = tb ∨ j = b) w w' := by
  unfold turnR
  rcases h with ⟨h1, rfl, hb⟩ | ⟨h1, h2, rfl, hb⟩ | ⟨h1, h2, rfl, hT', hF⟩
  · rw [if_neg h1]; exact ⟨rfl, ⟨m, lo, by omega, hT.next hb⟩, Frm.of_below hb⟩
  · rw [if_pos h1, if_neg h2]; exact ⟨rfl, ⟨m, lo, by omega, hT.next hb⟩, Frm.of_below hb⟩
  · rw [if_pos h1, if_pos h2]; exact ⟨rfl, ⟨m + 1, lo, by omega, hT'⟩, hF⟩
theorem tfill {tb b N M : Nat} {w : World} {f : Int → Ent} (h : TT tb b N M w f) (hM : M < 1000000) (k : Int) (hk : (Lit.int .i64 k).wf = true) :
    Calls Try.prog 21 #[.pointer (some ⟨tb, 0, none⟩), .int .i64 k] w fun e w' => e = .returned (.int .i64 (turnR N f k 1 2 0).1) ∧ TT tb b N (M + 1) w' (turnR N f k 1 2 0).2 ∧ Frm (fun j => j = tb ∨ j = b) w w' := by
  obtain ⟨m, lo, hm, hT⟩ := h
  exact (fill_any tb b m N f lo w hT k hk (by omega)).mono fun e w' h => tturn hm hT h
theorem thold {tb b N M : Nat} {w : World} {f : Int → Ent} (h : TT tb b N M w f) (hM : M < 1000000) (k ep : Int) (hk : (Lit.int .i64 k).wf = true) :
    Calls Try.prog 22 #[.pointer (some ⟨tb, 0, none⟩), .int .i64 k, .int .i64 ep] w fun e w' => e = .returned (.int .i64 (turnR N f k 2 3 ep).1) ∧ TT tb b N (M + 1) w' (turnR N f k 2 3 ep).2 ∧ Frm (fun j => j = tb ∨ j = b) w w' := by
  obtain ⟨m, lo, hm, hT⟩ := h
  exact (hold_any tb b m N f lo w hT k hk ep (by omega)).mono fun e w' h => tturn hm hT h
theorem tadd {tb b N M : Nat} {w : World} {f : Int → Ent} (h : TT tb b N M w f) (hM : M < 1000000) (k n : Int) (hk : (Lit.int .i64 k).wf = true) (hg : Good f) :
    Calls Try.prog 24 #[.pointer (some ⟨tb, 0, none⟩), .int .i64 k, .int .i64 n] w fun e w' => e = .returned (.int .i64 (addR N f k n).1) ∧ TT tb b N (M + 1) w' (addR N f k n).2 ∧ Frm (fun j => j = tb ∨ j = b) w w' := by
  obtain ⟨m, lo, hm, hT⟩ := h
  refine (add_any tb b m N f lo w hT k n hk (hg k).2 (by omega)).mono ?_
  intro e w' h
  unfold addR
  rcases h with ⟨h1, rfl, hb⟩ | ⟨h1, h2, rfl, hb⟩ | ⟨h1, h2, h3, rfl, hb⟩ | ⟨h1, h2, h3, rfl, hT', hF⟩
  · rw [if_neg h1]; exact ⟨rfl, ⟨m, lo, by omega, hT.next hb⟩, Frm.of_below hb⟩
  · rw [if_pos h1, if_pos h2]; exact ⟨rfl, ⟨m, lo, by omega, hT.next hb⟩, Frm.of_below hb⟩
  · rw [if_pos h1, if_neg h2, if_pos h3]; exact ⟨rfl, ⟨m, lo, by omega, hT.next hb⟩, Frm.of_below hb⟩
  · rw [if_pos h1, if_neg h2, if_neg h3]; exact ⟨rfl, ⟨m + 1, lo, by omega, hT'⟩, hF⟩
theorem trel {tb b N M : Nat} {w : World} {f : Int → Ent} (h : TT tb b N M w f) (hM : M + N < 1000000) (ep : Int) :
    Calls Try.prog 23 #[.pointer (some ⟨tb, 0, none⟩), .int .i64 ep] w fun e w' => ∃ v, e = .returned v ∧ w'.ownsRow w.heap.size 3 1 v (relN f ep N).length (intsV (relN f ep N)) ∧ TT tb b N (M + N) w' (relP f (relN f ep N)) ∧ Frm (fun j => j = tb ∨ j = b) w w' := by
  obtain ⟨m, lo, hm, hT⟩ := h
  refine (release_any tb b m N f lo w hT ep (by omega)).mono ?_
  rintro e w' ⟨v, m', lo', rfl, ho, hm', hT', hF⟩
  exact ⟨v, rfl, ho, ⟨m', lo', by omega, hT'⟩, hF⟩
theorem ttake {tb b N M : Nat} {w : World} {f : Int → Ent} (h : TT tb b N M w f) (hM : M < 1000000) :
    Calls Try.prog 20 #[.pointer (some ⟨tb, 0, none⟩)] w fun e w' =>
      (e = .returned (.tuple #[.int .i64 0, .int .i64 10]) ∧ (∀ k : Nat, k < N → (f k).st ≠ 0) ∧ w = w') ∨
      (∃ k : Nat, k < N ∧ (f k).st = 0 ∧ (∀ j : Nat, j < k → (f j).st ≠ 0) ∧ e = .returned (.tuple #[.int .i64 k, .int .i64 0]) ∧ TT tb b N (M + 1) w' (put f k ⟨1, 0, 0⟩) ∧ Frm (fun j => j = tb ∨ j = b) w w') := by
  obtain ⟨m, lo, hm, hT⟩ := h
  refine (take_any tb b m N f lo w hT (by omega)).mono ?_
  rintro e w' (⟨hz, rfl, rfl⟩ | ⟨k, hlo, hkN, hk0, hmin, rfl, hT', hF⟩)
  · exact Or.inl ⟨rfl, fun k hk h0 => cntF_pos hk h0 hz, rfl⟩
  · exact Or.inr ⟨k, hkN, hk0, hmin, rfl, ⟨m + 1, k, by omega, hT'⟩, hF⟩
/-- both tables, apart, of the same segments -/
structure BTab (tb b rb gb N M : Nat) (w : World) (f : Int → Ent) : Prop where
  tab : TT tb b N M w f
  ref : RTab w rb gb N f
  good : Good f
  apart : tb ≠ rb ∧ tb ≠ gb ∧ b ≠ rb ∧ b ≠ gb
theorem BTab.frm {tb b rb gb N M : Nat} {w w' : World} {f : Int → Ent} {O : Nat → Prop} (h : BTab tb b rb gb N M w f) (hf : Frm O w w') (hO : ∀ j, j = tb ∨ j = b ∨ j = rb ∨ j = gb → ¬ O j) : BTab tb b rb gb N M w' f :=
  ⟨h.tab.frm hf (hO _ (by simp)) (hO _ (by simp)), h.ref.frm hf (hO _ (by simp)) (hO _ (by simp)), h.good, h.apart⟩
theorem BTab.next {tb b rb gb N M : Nat} {w w' : World} {f : Int → Ent} (h : BTab tb b rb gb N M w f) (hb : Below w.heap.size w w') : BTab tb b rb gb N M w' f :=
  h.frm (O := fun _ => False) ⟨hb.os, hb.tape, hb.output, hb.size, fun j hj _ => hb.block j hj⟩ (fun _ _ => id)
theorem BTab.more {tb b rb gb N M M' : Nat} {w : World} {f : Int → Ent} (h : BTab tb b rb gb N M w f) (hM : M ≤ M') : BTab tb b rb gb N M' w f := ⟨h.tab.more hM, h.ref, h.good, h.apart⟩
theorem BTab.drew {tb b rb gb N M : Nat} {w : World} {f : Int → Ent} (h : BTab tb b rb gb N M w f) : BTab tb b rb gb N M w.drew f := h.frm (O := fun _ => False) ((Frm.refl _ w).drew) (fun _ _ => id)
theorem cnt_both {tb b N M : Nat} {w : World} {f : Int → Ent} (h : TT tb b N M w f) (s : Int) : (if 0 ≤ s ∧ s < 4 then cntF N f s.toNat else 0) = cntI N f s := by
  obtain ⟨m, lo, hm, hT⟩ := h
  by_cases hs : 0 ≤ s ∧ s < 4
  · rw [if_pos hs, ← cntI_nat]
    rw [show ((s.toNat : Nat) : Int) = s from by omega]
  · rw [if_neg hs, cntI_none]
    intro k hk e
    obtain ⟨q, hq, hq2⟩ := hT.kind k hk
    omega
set_option maxRecDepth 100000 in
set_option maxHeartbeats 2000000 in
theorem looks_any (tb b rb gb N M : Nat) (f : Int → Ent) (w : World) (h : BTab tb b rb gb N M w f) (k : Int) (hk : (Lit.int .i64 k).wf = true) :
    Calls Try.prog 13 #[.pointer (some ⟨tb, 0, none⟩), .pointer (some ⟨rb, 0, none⟩), .int .i64 k] w fun e w' => e = .returned (.bool true) ∧ Below w.heap.size w w' := by
  have H := Lib.hid h
  clear h
  go_enter Try.func13, Try.ntmps13
  go_wp2
  go_loopw [7] (fun s wr => ∃ j : Nat, j ≤ 6 ∧ s = .int .i64 ((j : Int) - 1) ∧ Below w.heap.size w wr) (fun s wr => (5 - intOf s).toNat)
  case atStart => exact ⟨0, by omega, rfl, Below.refl _ _⟩
  case round =>
    obtain ⟨j, hj, rfl, hB⟩ := hrel
    have h := H.out.next hB
    obtain ⟨m, lo, hm, hT⟩ := h.tab
    by_cases hlt : j ≤ 5
    · have hc := count_any tb b m N f lo wr hT ((j : Int) - 1)
      rw [cnt_both h.tab] at hc
      have hr := fun w2 (hb2 : Below wr.heap.size wr w2) => rcount_any rb gb N f w2 (h.ref.next hb2) ((j : Int) - 1)
      generalize cntI N f ((j : Int) - 1) = u at hc hr
      have HC := Lib.hid hc
      have HR := Lib.hid hr
      have HB := Lib.hid hB
      clear hc hr h hT hB
      go_wp2_with fail
      refine HC.out.mono ?_
      rintro e w2 ⟨rfl, hb2⟩
      have HB2 := Lib.hid (nextB hb2 HB.out)
      have HR2 := Lib.hid (HR.out w2 hb2)
      clear hb2
      go_wp2_with fail
      refine HR2.out.mono ?_
      rintro e w3 ⟨rfl, rfl⟩
      go_wp2
      go_roundw
      case rel => exact ⟨j + 1, by omega, by go_num, HB2.out⟩
      case measure => simp [intOf]; omega
    · obtain rfl : j = 6 := by omega
      have hs := state_any tb b m N f lo wr hT k hk
      have hrs := fun w2 (hb2 : Below wr.heap.size wr w2) => rstate_any rb gb N f w2 (h.ref.next hb2) k
      have hu := fun w2 (hb2 : Below wr.heap.size wr w2) => used_any tb b m N f lo w2 (hT.next hb2) k hk
      have hru := fun w2 (hb2 : Below wr.heap.size wr w2) => rused_any rb gb N f w2 (h.ref.next hb2) k
      have hue : (if 0 ≤ k ∧ k < (N : Int) then (f k).us else 0) = (f k).us := by
        split
        · rfl
        · rw [hT.out k (by omega)]
      rw [hue] at hru
      generalize (if 0 ≤ k ∧ k < (N : Int) then (f k).st else -1) = s at hs hrs
      generalize (f k).us = u at hu hru
      have HS := Lib.hid hs
      have HRS := Lib.hid hrs
      have HU := Lib.hid hu
      have HRU := Lib.hid hru
      have HB := Lib.hid hB
      clear hs hrs hu hru h hT hB hue
      go_wp2_with fail
      refine HS.out.mono ?_
      rintro e w2 ⟨rfl, hb2⟩
      have HB2 := Lib.hid (nextB hb2 HB.out)
      have HRS2 := Lib.hid (HRS.out w2 hb2)
      have HU2 := Lib.hid (HU.out w2 hb2)
      have HB2W := Lib.hid hb2
      clear hb2
      go_wp2_with fail
      refine HRS2.out.mono ?_
      rintro e w3 ⟨rfl, rfl⟩
      go_wp2_with fail
      refine HU2.out.mono ?_
      rintro e w4 ⟨rfl, hb4⟩
      have HB4 := Lib.hid (nextB hb4 HB2.out)
      have HRU4 := Lib.hid (HRU.out w4 (nextB hb4 HB2W.out))
      clear hb4
      go_wp2_with fail
      refine HRU4.out.mono ?_
      rintro e w5 ⟨rfl, rfl⟩
      go_wp2
      go_ret
      exact ⟨rfl, HB4.out⟩
end Go.Proofs.Ytjpmlojpcgfcfaa
