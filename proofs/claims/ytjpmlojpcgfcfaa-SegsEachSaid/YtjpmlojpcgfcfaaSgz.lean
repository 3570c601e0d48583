/- The table of segments: Each, for the law's closure. Conditions: none. -/
import Derived.Test.YtjpmlojpcgfcfaaSge
import Derived.Test.YtjpmlojpcgfcfaaSgx
import Derived.BigQuiet
namespace Go.Proofs.Ytjpmlojpcgfcfaa
open Go.ChangeShapes Go.WideShapes Go.ChangeAt Go.RowKit Go.Maps
set_option linter.unusedSimpArgs false
set_option linter.unusedVariables false
/-- what the law's closure holds: ok, k, n, the document's table, stop -/
structure EachI (ob kb nb tb' sb rb gb N : Nat) (f : Int → Ent) (st q : Int) (w : World) : Prop where
  ok : One w ob (.bool true) 4
  k : One w kb (.int .i64 q) 3
  n : One w nb (.int .i64 (N : Nat)) 3
  r : One w tb' (.pointer (some ⟨rb, 0, none⟩)) 29
  s : One w sb (.int .i64 st) 3
  tab : RTab w rb gb N f
theorem EachI.frm {ob kb nb tb' sb rb gb N : Nat} {f : Int → Ent} {st q : Int} {w w' : World} {O : Nat → Prop} (h : EachI ob kb nb tb' sb rb gb N f st q w) (hf : Frm O w w') (hO : ∀ j, j = ob ∨ j = kb ∨ j = nb ∨ j = tb' ∨ j = sb ∨ j = rb ∨ j = gb → ¬ O j) : EachI ob kb nb tb' sb rb gb N f st q w' :=
  ⟨h.ok.frm hf (hO _ (by simp)), h.k.frm hf (hO _ (by simp)), h.n.frm hf (hO _ (by simp)), h.r.frm hf (hO _ (by simp)), h.s.frm hf (hO _ (by simp)), h.tab.frm hf (hO _ (by simp)) (hO _ (by simp))⟩
theorem EachI.next {ob kb nb tb' sb rb gb N : Nat} {f : Int → Ent} {st q : Int} {w w' : World} (h : EachI ob kb nb tb' sb rb gb N f st q w) (hb : Below w.heap.size w w') : EachI ob kb nb tb' sb rb gb N f st q w' :=
  h.frm (O := fun _ => False) ⟨hb.os, hb.tape, hb.output, hb.size, fun j hj _ => hb.block j hj⟩ (fun _ _ => id)
/-- the blocks are unlike -/
def Unlike (ob kb nb tb' sb rb gb : Nat) : Prop := ob ≠ kb ∧ ob ≠ nb ∧ ob ≠ tb' ∧ ob ≠ sb ∧ ob ≠ rb ∧ ob ≠ gb ∧ kb ≠ nb ∧ kb ≠ tb' ∧ kb ≠ sb ∧ kb ≠ rb ∧ kb ≠ gb
theorem EachI.step {ob kb nb tb' sb rb gb N : Nat} {f : Int → Ent} {st q q' : Int} {w : World} (h : EachI ob kb nb tb' sb rb gb N f st q w) (hu : Unlike ob kb nb tb' sb rb gb) :
    EachI ob kb nb tb' sb rb gb N f st q' ((w.setCell ⟨ob, 0, none⟩ (.bool true)).setCell ⟨kb, 0, none⟩ (.int .i64 q')) ∧ Frm (fun j => j = ob ∨ j = kb) w ((w.setCell ⟨ob, 0, none⟩ (.bool true)).setCell ⟨kb, 0, none⟩ (.int .i64 q')) := by
  obtain ⟨u1, u2, u3, u4, u5, u6, u7, u8, u9, u10, u11⟩ := hu
  have hF : Frm (fun j => j = ob ∨ j = kb) w ((w.setCell ⟨ob, 0, none⟩ (.bool true)).setCell ⟨kb, 0, none⟩ (.int .i64 q')) := ((Frm.refl (fun j => j = ob ∨ j = kb) w).setCell ob 0 (Or.inl (Or.inl rfl)) _).setCell kb 0 (Or.inl (Or.inr rfl)) _
  refine ⟨⟨(h.ok.set _).other kb 0 (Ne.symm u1) _, (h.k.other ob 0 u1 _).set _, h.n.frm hF (by omega), h.r.frm hF (by omega), h.s.frm hF (by omega), h.tab.frm hF (by omega) (by omega)⟩, hF⟩
set_option maxRecDepth 100000 in
set_option maxHeartbeats 2000000 in
/-- the law's closure, called in its turn -/
theorem cls_any (ob kb nb tb' sb rb gb N : Nat) (f : Int → Ent) (st : Int) (q : Nat) (w : World) (hq : q < N) (h : EachI ob kb nb tb' sb rb gb N f st (q : Nat) w) (hu : Unlike ob kb nb tb' sb rb gb) :
    Calls Try.prog 16 #[.int .i64 (q : Nat), .int .i64 (f (q : Nat)).st, .int .i64 (f (q : Nat)).us, .pointer (some ⟨ob, 0, none⟩), .pointer (some ⟨kb, 0, none⟩), .pointer (some ⟨nb, 0, none⟩), .pointer (some ⟨tb', 0, none⟩), .pointer (some ⟨sb, 0, none⟩)] w
      fun e w' => e = .returned (.bool (decide ((q : Int) + 1 ≤ st))) ∧ EachI ob kb nb tb' sb rb gb N f st ((q : Int) + 1) w' ∧ Frm (fun j => j = ob ∨ j = kb) w w' := by
  have x1 := h.ok.cell
  have x2 := h.k.cell
  have x3 := h.n.cell
  have x4 := h.r.cell
  have hs := rstate_any rb gb N f w h.tab (q : Nat)
  rw [if_pos ⟨by omega, by omega⟩] at hs
  have hus := rused_any rb gb N f w h.tab (q : Nat)
  rw [if_pos ⟨by omega, by omega⟩] at hus
  have hbn := h.tab.bound
  generalize (f (q : Nat)).st = s at hs ⊢
  generalize (f (q : Nat)).us = u at hus ⊢
  have HS := Lib.hid hs
  have HUS := Lib.hid hus
  have f1 := h.ok.free
  have hu' := hu
  obtain ⟨u1, u2, u3, u4, u5, u6, u7, u8, u9, u10, u11⟩ := hu'
  have y2 := (h.k.other ob 0 u1 (.bool true)).cell
  have y2f := (h.k.other ob 0 u1 (.bool true)).free
  obtain ⟨h5, hF5⟩ := h.step (q' := (q : Int) + 1) hu
  have z2 := h5.k.cell
  have z3 := h5.s.cell
  have H5 := Lib.hid h5
  have HF5 := Lib.hid hF5
  clear hs hus h hu h5 hF5 u1 u2 u3 u4 u5 u6 u7 u8 u9 u10 u11
  go_enter Try.func16, Try.ntmps16
  go_wp2_with fail
  refine HS.out.mono ?_
  rintro e w1 ⟨rfl, rfl⟩
  go_wp2_with fail
  refine HUS.out.mono ?_
  rintro e w1 ⟨rfl, rfl⟩
  go_wp2
  go_ret
  exact ⟨rfl, H5.out, HF5.out⟩
/-- the law's closure as a value -/
def clsV (ob kb nb tb' sb : Nat) : Value := .func (Fn.func 16) #[] #[.pointer (some ⟨ob, 0, none⟩), .pointer (some ⟨kb, 0, none⟩), .pointer (some ⟨nb, 0, none⟩), .pointer (some ⟨tb', 0, none⟩), .pointer (some ⟨sb, 0, none⟩)]
def EI (fb ob kb nb tb' sb rb gb N : Nat) (f : Int → Ent) (st : Int) (q : Nat) (w : World) : Prop :=
  One w fb (clsV ob kb nb tb' sb) 47 ∧ EachI ob kb nb tb' sb rb gb N f st (q : Nat) w ∧ (q = 0 ∨ (q : Int) ≤ st)
def ES (ob kb nb tb' sb rb gb N : Nat) (f : Int → Ent) (st : Int) (w : World) : Prop :=
  ∃ q : Nat, q < N ∧ EachI ob kb nb tb' sb rb gb N f st ((q : Int) + 1) w ∧ st < (q : Int) + 1 ∧ (q = 0 ∨ (q : Int) ≤ st)
set_option maxRecDepth 100000 in
set_option maxHeartbeats 2000000 in
theorem eachcl (fb ob kb nb tb' sb rb gb N : Nat) (f : Int → Ent) (st : Int) (hN : N ≤ 65536) (hu : Unlike ob kb nb tb' sb rb gb) (hf : fb ≠ ob ∧ fb ≠ kb) :
    EachC 36 (fun x y => #[x, y, .pointer (some ⟨fb, 0, none⟩)]) (fun j => j = ob ∨ j = kb) N f (EI fb ob kb nb tb' sb rb gb N f st) (ES ob kb nb tb' sb rb gb N f st) Try.prog := by
  rintro w k hk ⟨hfb, hI, hq⟩
  unfold entV
  have hba : Below w.heap.size w (w.alloc (.cells #[.int .i64 (f (k : Nat)).st, .int .i64 (f (k : Nat)).us, .int .i64 (f (k : Nat)).ep] 63)) := (Below.refl _ w).alloc (Nat.le_refl _) _
  have hc := cls_any ob kb nb tb' sb rb gb N f st k _ hk (hI.next hba) hu
  have hfb1 := hfb.next hba
  have x1 := hfb1.cell
  unfold clsV at x1
  have HC := Lib.hid hc
  have HFB := Lib.hid hfb1
  have HF0 := Lib.hid (Frm.of_below (O := fun j => j = ob ∨ j = kb) hba)
  have HQ := Lib.hid hq
  have HF := Lib.hid hf
  clear hc hI hba hfb hfb1 hq hu hf
  by_cases hs : (k : Int) + 1 ≤ st
  · rw [show decide ((k : Int) + 1 ≤ st) = true from decide_eq_true hs] at HC
    go_enter Try.func36, Try.ntmps36
    go_wp2_with fail
    refine HC.out.mono ?_
    rintro e w2 ⟨rfl, hI2, hF2⟩
    have HR := Lib.hid (show EI fb ob kb nb tb' sb rb gb N f st (k + 1) w2 from ⟨HFB.out.frm hF2 (by have := HF.out; omega), by rw [Int.natCast_add]; exact hI2, Or.inr (by omega)⟩)
    have HFF := Lib.hid (HF0.out.trans hF2)
    clear hI2 hF2
    go_wp2
    go_ret
    first | exact ⟨Or.inl ⟨rfl, HR.out⟩, HFF.out⟩ | exact ⟨Or.inl HR.out, HFF.out⟩ | exact ⟨HR.out, HFF.out⟩
  · rw [show decide ((k : Int) + 1 ≤ st) = false from decide_eq_false hs] at HC
    go_enter Try.func36, Try.ntmps36
    go_wp2_with fail
    refine HC.out.mono ?_
    rintro e w2 ⟨rfl, hI2, hF2⟩
    have HR := Lib.hid (show ES ob kb nb tb' sb rb gb N f st w2 from ⟨k, hk, hI2, by omega, HQ.out⟩)
    have HFF := Lib.hid (HF0.out.trans hF2)
    clear hI2 hF2
    go_wp2
    go_ret
    first | exact ⟨Or.inr ⟨rfl, HR.out⟩, HFF.out⟩ | exact ⟨Or.inr HR.out, HFF.out⟩ | exact ⟨HR.out, HFF.out⟩
def wantN (N : Nat) (st : Int) : Int := if st < 0 then 1 else if st < (N : Int) then st + 1 else (N : Int)
set_option maxRecDepth 100000 in
set_option maxHeartbeats 2000000 in
theorem each_any (tb b m low ob kb nb tb' sb rb gb N : Nat) (f : Int → Ent) (st : Int) (w : World) (h : Tab w tb b m N f low) (hN : 1 ≤ N) (hI : EachI ob kb nb tb' sb rb gb N f st 0 w) (hu : Unlike ob kb nb tb' sb rb gb) :
    Calls Try.prog 15 #[.pointer (some ⟨tb, 0, none⟩), clsV ob kb nb tb' sb] w fun e w' => e = .returned (.tuple #[]) ∧ EachI ob kb nb tb' sb rb gb N f st (wantN N st) w' ∧ Frm (fun j => j = ob ∨ j = kb) w w' := by
  have hob := hI.ok.lt
  have hkb := hI.k.lt
  have hba : Below w.heap.size w (w.alloc (.cells #[clsV ob kb nb tb' sb] 47)) := (Below.refl _ w).alloc (Nat.le_refl _) _
  have hone := One.new w (clsV ob kb nb tb' sb) 47
  have hw := walk_each (.pointer (some ⟨w.heap.size, 0, none⟩)) (fun j => j = ob ∨ j = kb) tb b m N f low (EI w.heap.size ob kb nb tb' sb rb gb N f st) (ES ob kb nb tb' sb rb gb N f st) _ (h.next hba) hN (by simp; omega) (eachcl w.heap.size ob kb nb tb' sb rb gb N f st h.most hu (by omega))
    (fun w1 hb hs => ⟨hone.next hb, (hI.next hba).next hb, Or.inl rfl⟩) (fun k a b' _ hI hb => ⟨hI.1.next hb, hI.2.1.next hb, hI.2.2⟩)
  have HW := Lib.hid hw
  have HB := Lib.hid (Frm.of_below (O := fun j => j = ob ∨ j = kb) hba)
  clear hw hba hone h hI hu hob hkb
  unfold clsV at *
  go_enter Try.func15, Try.ntmps15
  go_wp2_with fail
  refine HW.out.mono ?_
  rintro e w3 ⟨rfl, hS, hF⟩
  have hR : EachI ob kb nb tb' sb rb gb N f st (wantN N st) w3 := by
    rcases hS with ⟨_, h1, h2⟩ | ⟨q, hq, h1, h2, h3⟩
    · have : wantN N st = (N : Int) := by unfold wantN; omega
      rw [this]; exact h1
    · have : wantN N st = (q : Int) + 1 := by unfold wantN; omega
      rw [this]; exact h1
  have HR := Lib.hid hR
  have HF := Lib.hid (HB.out.trans hF)
  clear hR hS hF
  go_wp2
  go_end0
  exact ⟨rfl, HR.out, HF.out⟩
set_option maxRecDepth 100000 in
theorem count_same (tb b m N : Nat) (f : Int → Ent) (low : Nat) (w : World) (h : Tab w tb b m N f low) (n : Nat) (hn : n < 4) :
    Calls Try.prog 19 #[.pointer (some ⟨tb, 0, none⟩), .int .i64 (n : Nat)] w fun e w' => e = .returned (.int .i64 (cntF N f n)) ∧ w = w' := by
  obtain ⟨c1, _⟩ := h.box.count n hn
  have hix := fun w' => index_count tb n hn w'
  clear h
  go_enter Try.func19, Try.ntmps19
  go_wp2
  go_ret
  exact ⟨rfl, rfl⟩
theorem cnt_sum (N : Nat) (f : Int → Ent) (hk : ∀ k : Nat, k < N → ∃ s : Nat, s < 4 ∧ (f k).st = (s : Nat)) : cntF N f 0 + cntF N f 1 + cntF N f 2 + cntF N f 3 = N := by
  induction N with
  | zero => simp [cntF]
  | succ N ih =>
    have := ih (fun k h => hk k (by omega))
    obtain ⟨s, hs, e⟩ := hk N (by omega)
    simp only [cntF, e]
    rcases s with _ | _ | _ | _ | s
    · simp; omega
    · simp; omega
    · simp; omega
    · simp; omega
    · omega
end Go.Proofs.Ytjpmlojpcgfcfaa
