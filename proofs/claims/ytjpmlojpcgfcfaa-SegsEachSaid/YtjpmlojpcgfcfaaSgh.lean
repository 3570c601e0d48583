/- The table of segments: a segment that is held stays so, whatever is taken, filled, added, released below its epoch. Conditions: none. -/
import Derived.Test.YtjpmlojpcgfcfaaSgn
import Derived.Test.YtjpmlojpcgfcfaaSgu
import Derived.Test.YtjpmlojpcgfcfaaAct
namespace Go.Proofs.Ytjpmlojpcgfcfaa
open Go.ChangeShapes Go.WideShapes Go.ChangeAt Go.RowKit Go.Maps
set_option linter.unusedSimpArgs false
set_option linter.unusedVariables false
theorem RdA.get4 {C : Nat} {w : World} {A : Option Addr} {m c : Nat} {l : List (List Int)} (h : RdA 4 w C (.slice A m c) l) {i : Nat} (hi : i < l.length) :
    ∃ b off a0 a1 a2 a3, A = some ⟨b, off, none⟩ ∧ b < C ∧ l[i] = [a0, a1, a2, a3] ∧ ∀ w', Below C w w' → w'.cell? ⟨b, off + i * 4, none⟩ = some (.int .i64 a0) ∧ w'.cell? ⟨b, off + i * 4 + 1, none⟩ = some (.int .i64 a1) ∧ w'.cell? ⟨b, off + i * 4 + 2, none⟩ = some (.int .i64 a2) ∧ w'.cell? ⟨b, off + i * 4 + 3, none⟩ = some (.int .i64 a3) := by
  obtain ⟨b, off, e, hb, hx, hc⟩ := h.get (x := l[i]) (List.getElem?_eq_getElem hi)
  generalize hl : l[i] = x at hx hc
  match x, hx with
  | [a0, a1, a2, a3], _ =>
    refine ⟨b, off, a0, a1, a2, a3, e, hb, rfl, fun w' hw => ⟨?_, ?_, ?_, ?_⟩⟩
    · exact (World.cell?_of_block (a := ⟨b, off + i * 4, none⟩) (hw.block b hb)).trans (hc 0 a0 rfl)
    · exact (World.cell?_of_block (a := ⟨b, off + i * 4 + 1, none⟩) (hw.block b hb)).trans (hc 1 a1 rfl)
    · exact (World.cell?_of_block (a := ⟨b, off + i * 4 + 2, none⟩) (hw.block b hb)).trans (hc 2 a2 rfl)
    · exact (World.cell?_of_block (a := ⟨b, off + i * 4 + 3, none⟩) (hw.block b hb)).trans (hc 3 a3 rfl)
/-- segment k is held with the epoch ep, and what is used is in its bounds -/
structure HeldF (f : Int → Ent) (k ep : Int) : Prop where
  st : (f k).st = 3
  ep : (f k).ep = ep
  us : ∀ j, 0 ≤ (f j).us ∧ (f j).us ≤ 1073741824
theorem HeldF.put {f : Int → Ent} {k ep : Int} (h : HeldF f k ep) (j : Int) (x : Ent) (hx : 0 ≤ x.us ∧ x.us ≤ 1073741824) (hj : j = k → x.st = 3 ∧ x.ep = ep) : HeldF (put f j x) k ep := by
  refine ⟨?_, ?_, fun i => ?_⟩
  · unfold Go.Proofs.Ytjpmlojpcgfcfaa.put
    split
    · rename_i e; exact (hj e.symm).1
    · exact h.st
  · unfold Go.Proofs.Ytjpmlojpcgfcfaa.put
    split
    · rename_i e; exact (hj e.symm).2
    · exact h.ep
  · unfold Go.Proofs.Ytjpmlojpcgfcfaa.put
    split
    · exact hx
    · exact h.us i
theorem HeldF.rel {f : Int → Ent} {k ep e : Int} {N : Nat} (h : HeldF f k ep) (he : e < ep) : HeldF (relP f (relN f e N)) k ep := by
  have hk : ¬ (0 ≤ k ∧ k.toNat ∈ relN f e N) := by
    rintro ⟨h0, h1⟩
    have := (relN_mem.1 h1).2.2
    rw [show ((k.toNat : Nat) : Int) = k from by omega, h.ep] at this
    omega
  refine ⟨?_, ?_, fun i => ?_⟩
  · unfold relP; rw [if_neg hk]; exact h.st
  · unfold relP; rw [if_neg hk]; exact h.ep
  · unfold relP
    split
    · exact ⟨by decide, by decide⟩
    · exact h.us i
/-- a held table: what every act leaves -/
def HTab (tb b M N : Nat) (k ep : Int) (w : World) : Prop := ∃ m f lo, m ≤ M ∧ Tab w tb b m N f lo ∧ HeldF f k ep
theorem HTab.next {tb b M N : Nat} {k ep : Int} {w w' : World} (h : HTab tb b M N k ep w) (hb : Below w.heap.size w w') : HTab tb b M N k ep w' := by
  obtain ⟨m, f, lo, h1, h2, h3⟩ := h
  exact ⟨m, f, lo, h1, h2.next hb, h3⟩
theorem HTab.more {tb b M M' N : Nat} {k ep : Int} {w : World} (h : HTab tb b M N k ep w) (hm : M ≤ M') : HTab tb b M' N k ep w := by
  obtain ⟨m, f, lo, h1, h2, h3⟩ := h
  exact ⟨m, f, lo, by omega, h2, h3⟩
theorem HTab.drew {tb b M N : Nat} {k ep : Int} {w : World} (h : HTab tb b M N k ep w) : HTab tb b M N k ep w.drew := by
  obtain ⟨m, f, lo, h1, h2, h3⟩ := h
  exact ⟨m, f, lo, h1, ⟨h2.box.drew, h2.out, h2.kind, h2.full, h2.lowN, h2.most⟩, h3⟩
theorem hstate {tb b M N : Nat} {k ep : Int} {w : World} (h : HTab tb b M N k ep w) (hk : 0 ≤ k ∧ k < (N : Int)) (hN : N ≤ 65536) :
    Calls Try.prog 25 #[.pointer (some ⟨tb, 0, none⟩), .int .i64 k] w fun e w' => e = .returned (.int .i64 3) ∧ Below w.heap.size w w' := by
  obtain ⟨m, f, lo, h1, h2, h3⟩ := h
  have := state_any tb b m N f lo w h2 k (wf64 (by omega) (by omega))
  rw [if_pos hk, h3.st] at this
  exact this
theorem htake {tb b M N : Nat} {k ep : Int} {w : World} (h : HTab tb b M N k ep w) (hM : M < 1000000) :
    Calls Try.prog 20 #[.pointer (some ⟨tb, 0, none⟩)] w fun e w' => ∃ x y, e = .returned (.tuple #[.int .i64 x, .int .i64 y]) ∧ (decide (y = 0) = true → (x == k) = false) ∧ (y = 0 ∨ y = 10) ∧ HTab tb b (M + 1) N k ep w' ∧ Frm (fun j => j = tb ∨ j = b) w w' := by
  obtain ⟨m, f, lo, h1, h2, h3⟩ := h
  refine (take_any tb b m N f lo w h2 (by omega)).mono ?_
  rintro e w' (⟨hz, rfl, rfl⟩ | ⟨j, hlo, hj, hj0, hmin, rfl, hT, hF⟩)
  · exact ⟨0, 10, rfl, fun h => by simp at h, Or.inr rfl, ⟨m, f, lo, by omega, h2, h3⟩, Frm.refl _ _⟩
  · have hne : (j : Int) ≠ k := fun e => by rw [e, h3.st] at hj0; omega
    exact ⟨j, 0, rfl, fun _ => by rw [beq_eq_false_iff_ne]; exact hne, Or.inl rfl, ⟨m + 1, _, j, by omega, hT, h3.put _ _ ⟨by decide, by decide⟩ (fun e => absurd e hne)⟩, hF⟩
theorem hfill {tb b M N : Nat} {k ep : Int} {w : World} (h : HTab tb b M N k ep w) (hM : M < 1000000) (j : Int) (hj : (Lit.int .i64 j).wf = true) :
    Calls Try.prog 21 #[.pointer (some ⟨tb, 0, none⟩), .int .i64 j] w fun e w' => ∃ x, e = .returned (.int .i64 x) ∧ HTab tb b (M + 1) N k ep w' ∧ Frm (fun j => j = tb ∨ j = b) w w' := by
  obtain ⟨m, f, lo, h1, h2, h3⟩ := h
  refine (fill_any tb b m N f lo w h2 j hj (by omega)).mono ?_
  rintro e w' (⟨_, rfl, hb⟩ | ⟨_, _, rfl, hb⟩ | ⟨_, hs, rfl, hT, hF⟩)
  · exact ⟨_, rfl, ⟨m, f, lo, by omega, h2.next hb, h3⟩, Frm.of_below hb⟩
  · exact ⟨_, rfl, ⟨m, f, lo, by omega, h2.next hb, h3⟩, Frm.of_below hb⟩
  · exact ⟨_, rfl, ⟨m + 1, _, lo, by omega, hT, h3.put _ _ (h3.us j) (fun e => by rw [e, h3.st] at hs; omega)⟩, hF⟩
theorem hadd {tb b M N : Nat} {k ep : Int} {w : World} (h : HTab tb b M N k ep w) (hM : M < 1000000) (j n : Int) (hj : (Lit.int .i64 j).wf = true) :
    Calls Try.prog 24 #[.pointer (some ⟨tb, 0, none⟩), .int .i64 j, .int .i64 n] w fun e w' => ∃ x, e = .returned (.int .i64 x) ∧ HTab tb b (M + 1) N k ep w' ∧ Frm (fun j => j = tb ∨ j = b) w w' := by
  obtain ⟨m, f, lo, h1, h2, h3⟩ := h
  refine (add_any tb b m N f lo w h2 j n hj (h3.us j) (by omega)).mono ?_
  rintro e w' (⟨_, rfl, hb⟩ | ⟨_, _, rfl, hb⟩ | ⟨_, _, _, rfl, hb⟩ | ⟨_, hs, hn, rfl, hT, hF⟩)
  · exact ⟨_, rfl, ⟨m, f, lo, by omega, h2.next hb, h3⟩, Frm.of_below hb⟩
  · exact ⟨_, rfl, ⟨m, f, lo, by omega, h2.next hb, h3⟩, Frm.of_below hb⟩
  · exact ⟨_, rfl, ⟨m, f, lo, by omega, h2.next hb, h3⟩, Frm.of_below hb⟩
  · exact ⟨_, rfl, ⟨m + 1, _, lo, by omega, hT, h3.put _ _ (by simp only; omega) (fun e => by subst e; exact ⟨h3.st, h3.ep⟩)⟩, hF⟩
theorem hrel {tb b M N : Nat} {k ep : Int} {w : World} (h : HTab tb b M N k ep w) (hM : M + N < 1000000) (e : Int) (he : e < ep) :
    Calls Try.prog 23 #[.pointer (some ⟨tb, 0, none⟩), .int .i64 e] w fun x w' => ∃ v L, x = .returned v ∧ w'.ownsRow w.heap.size 3 1 v L.length (intsV L) ∧ (∀ q ∈ L, ((q : Int) == k) = false) ∧ L.length ≤ N ∧ HTab tb b (M + N) N k ep w' ∧ Frm (fun j => j = tb ∨ j = b) w w' := by
  obtain ⟨m, f, lo, h1, h2, h3⟩ := h
  refine (release_any tb b m N f lo w h2 e (by omega)).mono ?_
  rintro x w' ⟨v, m', lo', rfl, ho, hm', hT, hF⟩
  refine ⟨v, _, rfl, ho, fun q hq => ?_, relN_len f e N, ⟨m', _, lo', by omega, hT, h3.rel he⟩, hF⟩
  have hq := (relN_mem.1 hq).2.2
  rw [beq_eq_false_iff_ne]
  intro e1
  rw [e1, h3.ep] at hq
  omega
/-- the table behind the first j of the takes -/
def tkN (j : Nat) : Int → Ent := fun x => if 0 ≤ x ∧ x < (j : Nat) then ⟨1, 0, 0⟩ else ⟨0, 0, 0⟩
theorem tkN_zero : tkN 0 = noEnt := by funext x; unfold tkN noEnt; rw [if_neg (by omega)]
theorem tkN_next (j : Nat) : put (tkN j) (j : Nat) ⟨1, 0, 0⟩ = tkN (j + 1) := by
  funext x; unfold put tkN
  by_cases h : x = (j : Nat)
  · rw [if_pos h, if_pos (by omega)]
  · rw [if_neg h]
    have : (0 ≤ x ∧ x < ((j : Nat) : Int)) ↔ (0 ≤ x ∧ x < ((j + 1 : Nat) : Int)) := by omega
    simp only [this]
theorem tkN_free (j : Nat) : (tkN j (j : Nat)).st = 0 := by unfold tkN; rw [if_neg (by omega)]
theorem tkN_open (j i : Nat) (h : i < j) : (tkN j (i : Nat)).st = 1 := by unfold tkN; rw [if_pos (by omega)]
theorem tkN_us (j : Nat) (x : Int) : (tkN j x).us = 0 := by unfold tkN; split <;> rfl
end Go.Proofs.Ytjpmlojpcgfcfaa
