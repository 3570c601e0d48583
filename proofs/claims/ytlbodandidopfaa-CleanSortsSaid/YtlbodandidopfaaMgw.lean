/- Merging two runs of whole numbers: the program's merge. Conditions: the closure keeps what is asked of it. -/
import Derived.Test.YtlbodandidopfaaMgp
import Derived.Test.YtlbodandidopfaaRdr
import Derived.Test.YtlbodandidopfaaOrd
import Derived.Test.YtlbodandidopfaaNum
import Derived.Deep.RegionLaw
import Derived.Deep.DeepCutAuto
import Derived.Deep.DrawnRows
import Derived.Deep.LoopGhost
namespace Go.Proofs.Ytlbodandidopfaa
open Go.ChangeShapes Go.WideShapes Go.ChangeAt Go.RowKit
set_option linter.unusedSimpArgs false
set_option linter.unusedVariables false
theorem own_lt1 {w : World} {base size n : Nat} {e : TypeId} {v : Value} {xs : List Value} {g : Nat} (h : w.ownsRow base e size v n xs) (hg : v.ownBlock = some g) : g < w.heap.size := (h.lt g hg).2
theorem own_keep1 {w w' : World} {base size n : Nat} {e : TypeId} {v : Value} {xs : List Value} (h : w.ownsRow base e size v n xs) (hk : ∀ g, v.ownBlock = some g → w'.heap[g]? = w.heap[g]?) : w'.ownsRow base e size v n xs := by
  refine ⟨h.1, h.2.imp id ?_⟩
  rintro ⟨g, cap, cur, rfl, e2, e3, e4⟩
  exact ⟨g, cap, cur, rfl, e2, (hk g rfl).trans e3, e4⟩
/-- a part of the row in block g, without spare room -/
def RdO (g : Nat) (w : World) (v : Value) (xs : List Int) : Prop := ∃ A, v = .slice A xs.length xs.length ∧ (0 < xs.length → ∃ off, A = some ⟨g, off, none⟩ ∧ ∀ (j : Nat) (u : Int), xs[j]? = some u → w.cell? ⟨g, off + j, none⟩ = some (.int .i64 u))
theorem RdO.keep {g : Nat} {w w' : World} {v : Value} {xs : List Int} (h : RdO g w v xs) (hk : w'.heap[g]? = w.heap[g]?) : RdO g w' v xs := by
  obtain ⟨A, e, h3⟩ := h
  refine ⟨A, e, fun hn => ?_⟩
  obtain ⟨off, e2, hc⟩ := h3 hn
  exact ⟨off, e2, fun j u hu => (World.cell?_of_block (a := ⟨g, off + j, none⟩) hk).trans (hc j u hu)⟩
theorem RdO.head {g : Nat} {w : World} {v : Value} {x : Int} {xs : List Int} (h : RdO g w v (x :: xs)) : ∃ off, v = .slice (some ⟨g, off, none⟩) (xs.length + 1) (xs.length + 1) ∧ w.cell? ⟨g, off, none⟩ = some (.int .i64 x) ∧ (xs.length = 0 → RdO g w (.slice (some ⟨g, off, none⟩) 0 0) xs) ∧ (xs.length ≠ 0 → RdO g w (.slice (some ⟨g, off + 1, none⟩) xs.length xs.length) xs) := by
  obtain ⟨A, e, h3⟩ := h
  obtain ⟨off, rfl, hc⟩ := h3 (by simp)
  refine ⟨off, e, by have := hc 0 x rfl; rwa [Nat.add_zero] at this, fun h0 => ⟨_, by rw [h0], fun hn => by omega⟩, fun h0 => ⟨_, rfl, fun hn => ⟨off + 1, rfl, fun j u hu => ?_⟩⟩⟩
  have := hc (j + 1) u (by simpa using hu)
  rwa [show off + 1 + j = off + (j + 1) from by omega]
/-- block g is as it was -/
def SameAt (g : Nat) (a b : World) : Prop := b.heap[g]? = a.heap[g]?
/-- what is asked of the test -/
def LessC (fn : Nat) (caps : Value → Value → Array Value) (T : Int → Int → Bool → Prop) (V : Int → Prop) (OL : Nat → Prop) (I : World → Prop) (P : Program) : Prop :=
  ∀ (w1 : World) (x y : Int), V x → V y → I w1 → Calls P fn (caps (.int .i64 x) (.int .i64 y)) w1 fun e w2 => ∃ b, e = .returned (.bool b) ∧ T x y b ∧ I w2 ∧ Frm OL w1 w2
def MRel (T : Int → Int → Bool → Prop) (V : Int → Prop) (OL : Nat → Prop) (I : World → Prop) (g1 g2 n c2 lo m : Nat) (ys la lb : List Int) (w : World) (q : Nat) (a b : Value) (wx : World) (a1 b1 r' : List Int) : Prop :=
  RdO g1 wx a a1 ∧ RdO g1 wx b b1 ∧ r'.length = q ∧ wx.ownsRow 0 3 1 (.slice (some ⟨g2, 0, none⟩) n c2) n (iv .i64 (over ys lo r')) ∧ (∀ r, Mg T a1 b1 r → Mg T la lb (r' ++ r)) ∧ a1.length + b1.length + q = m ∧ I wx ∧ Frm (fun j => j = g2 ∨ OL j) w wx ∧ (∀ x ∈ a1, V x) ∧ (∀ x ∈ b1, V x)
set_option maxRecDepth 100000 in
set_option maxHeartbeats 8000000 in
theorem merge_any (c0 c1 c2' c3 : Value) (T : Int → Int → Bool → Prop) (V : Int → Prop) (OL : Nat → Prop) (I : World → Prop) (g1 g2 n cc lo m : Nat) (ys la lb : List Int) (va vb : Value) (w : World)
    (hL : LessC 48 (fun x y => #[x, y, c0, c1, c2', c3]) T V OL I Try.prog) (hOL1 : ¬ OL g1) (hOL2 : ¬ OL g2) (h12 : g1 ≠ g2) (hI : I w) (hIk : ∀ w1 w2, Frm (fun j => j = g2) w1 w2 → I w1 → I w2)
    (ha : RdO g1 w va la) (hb : RdO g1 w vb lb) (hg1 : g1 < w.heap.size) (ho : w.ownsRow 0 3 1 (.slice (some ⟨g2, 0, none⟩) n cc) n (iv .i64 ys)) (hm : la.length + lb.length = m) (hlo : lo + m ≤ n) (hn : n ≤ 1000) (hVa : ∀ x ∈ la, V x) (hVb : ∀ x ∈ lb, V x) :
    Calls Try.prog 87 #[.slice (some ⟨g2, lo, none⟩) m m, va, vb, .func (Fn.func 48) #[] #[c0, c1, c2', c3]] w fun e w' => e = .returned (.tuple #[]) ∧ ∃ r, Mg T la lb r ∧ w'.ownsRow 0 3 1 (.slice (some ⟨g2, 0, none⟩) n cc) n (iv .i64 (over ys lo r)) ∧ I w' ∧ Frm (fun j => j = g2 ∨ OL j) w w' := by
  have hyl : ys.length = n := by have := ho.1; rw [iv_length] at this; omega
  have hstart : MRel T V OL I g1 g2 n cc lo m ys la lb w 0 va vb w la lb [] := ⟨ha, hb, rfl, by
    have : over ys lo [] = ys := by unfold over; simp
    rw [this]; exact ho, fun r h => h, by omega, hI, Frm.refl _ _, hVa, hVb⟩
  have HST := Lib.hid hstart
  have HL := Lib.hid hL
  have HIK := Lib.hid hIk
  clear ha hb ho hI hL hIk hstart
  go_enter Try.func87, Try.ntmps87
  go_wp2_with fail
  go_loopw [11, 8, 1, 2] (fun i _ a b wx => ∃ (q : Nat) (a1 b1 r' : List Int), q ≤ m ∧ i = .int .i64 q ∧ MRel T V OL I g1 g2 n cc lo m ys la lb w q a b wx a1 b1 r') (fun i _ _ _ wx => m - (intOf i).toNat)
  case atStart => exact ⟨0, la, lb, [], by omega, rfl, HST.out⟩
  case round =>
    clear HST
    obtain ⟨q, a1, b1, r', hq, rfl, hRa, hRb, hrl, hO, hMg, hcnt, hIx, hF, hva, hvb⟩ := hrel
    by_cases hlt : q < m
    · have hlen1 : lo + r'.length < ys.length := by omega
      have hg2l : g2 < wr.heap.size := own_lt1 hO rfl
      have hg1l : g1 < wr.heap.size := by have := hF.size; omega
      have HM := Lib.hid hMg
      match a1, b1 with
      | [], [] => exact absurd hcnt (by simp; omega)
      | [], y :: bt =>
        obtain ⟨ob, rfl, cy, hy0, hy1⟩ := hRb.head
        obtain ⟨Aa, rfl, _⟩ := id hRa
        have HI := Lib.hid (HIK.out wr wr.drew ((Frm.refl _ wr).drew) hIx)
        have HF := Lib.hid (hF.drew)
        have cy : wr.drew.cell? ⟨g1, ob, none⟩ = some (.int .i64 y) := cy
        have hy0 : bt.length = 0 → RdO g1 wr.drew (.slice (some ⟨g1, ob, none⟩) 0 0) bt := hy0
        have hy1 : bt.length ≠ 0 → RdO g1 wr.drew (.slice (some ⟨g1, ob + 1, none⟩) bt.length bt.length) bt := hy1
        have hRa : RdO g1 wr.drew (.slice Aa 0 0) [] := hRa
        have hRb : RdO g1 wr.drew _ (y :: bt) := hRb
        have hO : wr.drew.ownsRow 0 3 1 (.slice (some ⟨g2, 0, none⟩) n cc) n (iv .i64 (over ys lo r')) := hO
        try simp only [List.length_nil, List.length_cons]
        clear hMg hIx hF hg1l hg2l
        go_wp2_with fail
        refine region_ord (fun wz => True) [false, false, false, false, false, false, false, false, false, false, false, false, false, false, false, false, false, false] (by kernel_rfl) (by kernel_rfl) (by kernel_rfl) trivial ?_
        iterate 4 (refine ord_val (by rfl) (by intro w hi; clear hi; go_simp; with_reducible rfl) (fun K hK => ?_); go_simp; refine hK _ ?_; clear hK K)
        iterate 13 (refine ord_not (by rfl) (fun K hK => ?_); go_simp; refine hK _ ?_; clear hK K)
        (refine ord_val (by rfl) (by intro w hi; clear hi; go_simp; with_reducible rfl) (fun K hK => ?_); go_simp; refine hK _ ?_; clear hK K)
        refine ord_nil ?_
        generalize wr.drew = WX at *
        by_cases htl : bt.length = 0
        · have hle : bt = [] := List.eq_nil_of_length_eq_zero htl
          have hg2x : g2 < WX.heap.size := own_lt1 hO rfl
          have hg1x : g1 < WX.heap.size := by have := HF.out.size; omega
          obtain ⟨dv, hdv⟩ : ∃ dv, WX.cell? ⟨g2, lo + q, none⟩ = some dv := by
            have := hO.cellAt (lo + q) (by omega)
            rw [List.getElem?_eq_getElem (by rw [iv_length, over_length (by omega)]; omega)] at this
            exact ⟨_, this⟩
          have f2 : WX.frozen? ⟨g2, lo + q, none⟩ = false := hO.frozenAt _
          have hst := (hO.stored (lo + q) (.int .i64 y)).1
          have hset : (iv .i64 (over ys lo r')).set (lo + q) (.int .i64 y) = iv .i64 (over ys lo (r' ++ [y])) := by
            unfold iv
            rw [← List.map_set, ← hrl, over_set hlen1]
          rw [hset] at hst
          have hFs : Frm (fun j => j = g2 ∨ OL j) WX (WX.setCell ⟨g2, lo + q, none⟩ (.int .i64 y)).drew := ((Frm.refl (fun j => j = g2 ∨ OL j) WX).setCell g2 (lo + q) (Or.inl (Or.inl rfl)) _).drew
          have hFs2 : Frm (fun j => j = g2) WX (WX.setCell ⟨g2, lo + q, none⟩ (.int .i64 y)).drew := ((Frm.refl (fun j => j = g2) WX).setCell g2 (lo + q) (Or.inl rfl) _).drew
          have hkk : (WX.setCell ⟨g2, lo + q, none⟩ (.int .i64 y)).drew.heap[g1]? = WX.heap[g1]? := hFs2.block g1 hg1x h12
          have HKK := Lib.hid (show SameAt g1 WX (WX.setCell ⟨g2, lo + q, none⟩ (.int .i64 y)).drew from hkk)
          have hRA9 := hRa
          have hRB9 := hy0 htl
          have HRA9 := Lib.hid (hRA9.keep hkk)
          have HRB9 := Lib.hid (hRB9.keep hkk)
          have HO9 := Lib.hid (show (WX.setCell ⟨g2, lo + q, none⟩ (.int .i64 y)).drew.ownsRow 0 3 1 (.slice (some ⟨g2, 0, none⟩) n cc) n (iv .i64 (over ys lo (r' ++ [y]))) from hst)
          have HI9 := Lib.hid (HIK.out _ _ hFs2 HI.out)
          have HF9 := Lib.hid (HF.out.trans hFs)
          clear hst hset hFs hFs2 hRa hRb hO hRA9 hRB9
          go_wp2_with fail
          refine region_ord (SameAt g1 WX) [false, false, false, false, false, false, false, false, true, false] (by kernel_rfl) (by kernel_rfl) (by kernel_rfl) (show SameAt g1 WX WX.drew from rfl) ?_
          iterate 4 (refine ord_val (by rfl) (by intro w hi; clear hi; go_simp; with_reducible rfl) (fun K hK => ?_); go_simp; refine hK _ ?_; clear hK K)
          (refine ord_val (by rfl) (by intro wz hi; have zz := (World.cell?_of_block (a := ⟨g1, ob, none⟩) hi).trans cy; clear hi; go_simp; with_reducible rfl) (fun K hK => ?_); go_simp; refine hK _ ?_; clear hK K)
          (refine ord_val (by rfl) (by intro w hi; clear hi; go_simp; with_reducible rfl) (fun K hK => ?_); go_simp; refine hK _ ?_; clear hK K)
          (refine ord_val (by rfl) (by intro w hi; clear hi; go_simp; with_reducible rfl) (fun K hK => ?_); go_simp; refine hK _ ?_; clear hK K)
          (refine ord_val (by rfl) (by intro w hi; clear hi; go_simp; with_reducible rfl) (fun K hK => ?_); go_simp; refine hK _ ?_; clear hK K)
          refine ord_eff (by rfl) (fun K hK => ?_)
          refine gets_sem ?_
          go_simp
          refine ⟨HKK.out, hK _ _ ?_⟩
          clear hK K hkk HKK
          (refine ord_val (by rfl) (by intro w hi; clear hi; go_simp; with_reducible rfl) (fun K hK => ?_); go_simp; refine hK _ ?_; clear hK K)
          refine ord_nil ?_
          generalize (WX.setCell ⟨g2, lo + q, none⟩ (.int .i64 y)).drew = w9 at *
          clear cy dv hdv f2 hg2x hg1x HI HF
          go_wp2_with fail
          go_roundw
          case rel => exact ⟨q + 1, [], bt, r' ++ [y], by omega, by go_num, HRA9.out, HRB9.out, by rw [List.length_append, hrl]; rfl, HO9.out, fun r hr => by cases hr with | doneB => (have := HM.out _ (Mg.doneA [y]); simpa using this) | doneA b => (have := HM.out _ (Mg.doneA (y :: bt)); simpa [List.append_assoc] using this), by simp at hcnt ⊢; omega, HI9.out, HF9.out, hva, fun z hz => hvb z (List.mem_cons_of_mem _ hz)⟩
          case measure => simp [intOf]; omega
        · have htl2 : ¬ bt.length + 1 = 1 := by omega
          have hle1 : (1 : Int) ≤ ((bt.length : Nat) : Int) + 1 := by omega
          have hg2x : g2 < WX.heap.size := own_lt1 hO rfl
          have hg1x : g1 < WX.heap.size := by have := HF.out.size; omega
          obtain ⟨dv, hdv⟩ : ∃ dv, WX.cell? ⟨g2, lo + q, none⟩ = some dv := by
            have := hO.cellAt (lo + q) (by omega)
            rw [List.getElem?_eq_getElem (by rw [iv_length, over_length (by omega)]; omega)] at this
            exact ⟨_, this⟩
          have f2 : WX.frozen? ⟨g2, lo + q, none⟩ = false := hO.frozenAt _
          have hst := (hO.stored (lo + q) (.int .i64 y)).1
          have hset : (iv .i64 (over ys lo r')).set (lo + q) (.int .i64 y) = iv .i64 (over ys lo (r' ++ [y])) := by
            unfold iv
            rw [← List.map_set, ← hrl, over_set hlen1]
          rw [hset] at hst
          have hFs : Frm (fun j => j = g2 ∨ OL j) WX (WX.setCell ⟨g2, lo + q, none⟩ (.int .i64 y)).drew := ((Frm.refl (fun j => j = g2 ∨ OL j) WX).setCell g2 (lo + q) (Or.inl (Or.inl rfl)) _).drew
          have hFs2 : Frm (fun j => j = g2) WX (WX.setCell ⟨g2, lo + q, none⟩ (.int .i64 y)).drew := ((Frm.refl (fun j => j = g2) WX).setCell g2 (lo + q) (Or.inl rfl) _).drew
          have hkk : (WX.setCell ⟨g2, lo + q, none⟩ (.int .i64 y)).drew.heap[g1]? = WX.heap[g1]? := hFs2.block g1 hg1x h12
          have HKK := Lib.hid (show SameAt g1 WX (WX.setCell ⟨g2, lo + q, none⟩ (.int .i64 y)).drew from hkk)
          have hRA9 := hRa
          have hRB9 := hy1 htl
          have HRA9 := Lib.hid (hRA9.keep hkk)
          have HRB9 := Lib.hid (hRB9.keep hkk)
          have HO9 := Lib.hid (show (WX.setCell ⟨g2, lo + q, none⟩ (.int .i64 y)).drew.ownsRow 0 3 1 (.slice (some ⟨g2, 0, none⟩) n cc) n (iv .i64 (over ys lo (r' ++ [y]))) from hst)
          have HI9 := Lib.hid (HIK.out _ _ hFs2 HI.out)
          have HF9 := Lib.hid (HF.out.trans hFs)
          clear hst hset hFs hFs2 hRa hRb hO hRA9 hRB9
          go_wp2_with fail
          refine region_ord (SameAt g1 WX) [false, false, false, false, false, false, false, false, true, false] (by kernel_rfl) (by kernel_rfl) (by kernel_rfl) (show SameAt g1 WX WX.drew from rfl) ?_
          iterate 4 (refine ord_val (by rfl) (by intro w hi; clear hi; go_simp; with_reducible rfl) (fun K hK => ?_); go_simp; refine hK _ ?_; clear hK K)
          (refine ord_val (by rfl) (by intro wz hi; have zz := (World.cell?_of_block (a := ⟨g1, ob, none⟩) hi).trans cy; clear hi; go_simp; with_reducible rfl) (fun K hK => ?_); go_simp; refine hK _ ?_; clear hK K)
          (refine ord_val (by rfl) (by intro w hi; clear hi; go_simp; with_reducible rfl) (fun K hK => ?_); go_simp; refine hK _ ?_; clear hK K)
          (refine ord_val (by rfl) (by intro w hi; clear hi; go_simp; with_reducible rfl) (fun K hK => ?_); go_simp; refine hK _ ?_; clear hK K)
          (refine ord_val (by rfl) (by intro w hi; clear hi; go_simp; with_reducible rfl) (fun K hK => ?_); go_simp; refine hK _ ?_; clear hK K)
          refine ord_eff (by rfl) (fun K hK => ?_)
          refine gets_sem ?_
          go_simp
          refine ⟨HKK.out, hK _ _ ?_⟩
          clear hK K hkk HKK
          (refine ord_val (by rfl) (by intro w hi; clear hi; go_simp; with_reducible rfl) (fun K hK => ?_); go_simp; refine hK _ ?_; clear hK K)
          refine ord_nil ?_
          generalize (WX.setCell ⟨g2, lo + q, none⟩ (.int .i64 y)).drew = w9 at *
          clear cy dv hdv f2 hg2x hg1x HI HF
          go_wp2_with fail
          go_roundw
          case rel => exact ⟨q + 1, [], bt, r' ++ [y], by omega, by go_num, HRA9.out, HRB9.out, by rw [List.length_append, hrl]; rfl, HO9.out, fun r hr => by cases hr with | doneB => (have := HM.out _ (Mg.doneA [y]); simpa using this) | doneA b => (have := HM.out _ (Mg.doneA (y :: bt)); simpa [List.append_assoc] using this), by simp at hcnt ⊢; omega, HI9.out, HF9.out, hva, fun z hz => hvb z (List.mem_cons_of_mem _ hz)⟩
          case measure => simp [intOf]; omega
      | x :: at1, [] =>
        obtain ⟨oa, rfl, cx, hx0, hx1⟩ := hRa.head
        obtain ⟨Ab, rfl, _⟩ := id hRb
        have HI := Lib.hid (HIK.out wr wr.drew ((Frm.refl _ wr).drew) hIx)
        have HF := Lib.hid (hF.drew)
        have cx : wr.drew.cell? ⟨g1, oa, none⟩ = some (.int .i64 x) := cx
        have hx0 : at1.length = 0 → RdO g1 wr.drew (.slice (some ⟨g1, oa, none⟩) 0 0) at1 := hx0
        have hx1 : at1.length ≠ 0 → RdO g1 wr.drew (.slice (some ⟨g1, oa + 1, none⟩) at1.length at1.length) at1 := hx1
        have hRb : RdO g1 wr.drew (.slice Ab 0 0) [] := hRb
        have hRa : RdO g1 wr.drew _ (x :: at1) := hRa
        have hO : wr.drew.ownsRow 0 3 1 (.slice (some ⟨g2, 0, none⟩) n cc) n (iv .i64 (over ys lo r')) := hO
        try simp only [List.length_nil, List.length_cons]
        clear hMg hIx hF hg1l hg2l
        go_wp2_with fail
        refine region_ord (fun wz => True) [false, false, false, false, false, false, false, false, false, false, false, false, false, false, false, false, false, false] (by kernel_rfl) (by kernel_rfl) (by kernel_rfl) trivial ?_
        iterate 8 (refine ord_val (by rfl) (by intro w hi; clear hi; go_simp; with_reducible rfl) (fun K hK => ?_); go_simp; refine hK _ ?_; clear hK K)
        iterate 8 (refine ord_not (by rfl) (fun K hK => ?_); go_simp; refine hK _ ?_; clear hK K)
        iterate 2 (refine ord_val (by rfl) (by intro w hi; clear hi; go_simp; with_reducible rfl) (fun K hK => ?_); go_simp; refine hK _ ?_; clear hK K)
        refine ord_nil ?_
        generalize wr.drew = WX at *
        by_cases htl : at1.length = 0
        · have hle : at1 = [] := List.eq_nil_of_length_eq_zero htl
          have hg2x : g2 < WX.heap.size := own_lt1 hO rfl
          have hg1x : g1 < WX.heap.size := by have := HF.out.size; omega
          obtain ⟨dv, hdv⟩ : ∃ dv, WX.cell? ⟨g2, lo + q, none⟩ = some dv := by
            have := hO.cellAt (lo + q) (by omega)
            rw [List.getElem?_eq_getElem (by rw [iv_length, over_length (by omega)]; omega)] at this
            exact ⟨_, this⟩
          have f2 : WX.frozen? ⟨g2, lo + q, none⟩ = false := hO.frozenAt _
          have hst := (hO.stored (lo + q) (.int .i64 x)).1
          have hset : (iv .i64 (over ys lo r')).set (lo + q) (.int .i64 x) = iv .i64 (over ys lo (r' ++ [x])) := by
            unfold iv
            rw [← List.map_set, ← hrl, over_set hlen1]
          rw [hset] at hst
          have hFs : Frm (fun j => j = g2 ∨ OL j) WX (WX.setCell ⟨g2, lo + q, none⟩ (.int .i64 x)).drew := ((Frm.refl (fun j => j = g2 ∨ OL j) WX).setCell g2 (lo + q) (Or.inl (Or.inl rfl)) _).drew
          have hFs2 : Frm (fun j => j = g2) WX (WX.setCell ⟨g2, lo + q, none⟩ (.int .i64 x)).drew := ((Frm.refl (fun j => j = g2) WX).setCell g2 (lo + q) (Or.inl rfl) _).drew
          have hkk : (WX.setCell ⟨g2, lo + q, none⟩ (.int .i64 x)).drew.heap[g1]? = WX.heap[g1]? := hFs2.block g1 hg1x h12
          have HKK := Lib.hid (show SameAt g1 WX (WX.setCell ⟨g2, lo + q, none⟩ (.int .i64 x)).drew from hkk)
          have hRA9 := hx0 htl
          have hRB9 := hRb
          have HRA9 := Lib.hid (hRA9.keep hkk)
          have HRB9 := Lib.hid (hRB9.keep hkk)
          have HO9 := Lib.hid (show (WX.setCell ⟨g2, lo + q, none⟩ (.int .i64 x)).drew.ownsRow 0 3 1 (.slice (some ⟨g2, 0, none⟩) n cc) n (iv .i64 (over ys lo (r' ++ [x]))) from hst)
          have HI9 := Lib.hid (HIK.out _ _ hFs2 HI.out)
          have HF9 := Lib.hid (HF.out.trans hFs)
          clear hst hset hFs hFs2 hRa hRb hO hRA9 hRB9
          go_wp2_with fail
          refine region_ord (SameAt g1 WX) [false, false, false, false, false, false, false, false, true, false] (by kernel_rfl) (by kernel_rfl) (by kernel_rfl) (show SameAt g1 WX WX.drew from rfl) ?_
          iterate 4 (refine ord_val (by rfl) (by intro w hi; clear hi; go_simp; with_reducible rfl) (fun K hK => ?_); go_simp; refine hK _ ?_; clear hK K)
          (refine ord_val (by rfl) (by intro wz hi; have zz := (World.cell?_of_block (a := ⟨g1, oa, none⟩) hi).trans cx; clear hi; go_simp; with_reducible rfl) (fun K hK => ?_); go_simp; refine hK _ ?_; clear hK K)
          (refine ord_val (by rfl) (by intro w hi; clear hi; go_simp; with_reducible rfl) (fun K hK => ?_); go_simp; refine hK _ ?_; clear hK K)
          (refine ord_val (by rfl) (by intro w hi; clear hi; go_simp; with_reducible rfl) (fun K hK => ?_); go_simp; refine hK _ ?_; clear hK K)
          (refine ord_val (by rfl) (by intro w hi; clear hi; go_simp; with_reducible rfl) (fun K hK => ?_); go_simp; refine hK _ ?_; clear hK K)
          refine ord_eff (by rfl) (fun K hK => ?_)
          refine gets_sem ?_
          go_simp
          refine ⟨HKK.out, hK _ _ ?_⟩
          clear hK K hkk HKK
          (refine ord_val (by rfl) (by intro w hi; clear hi; go_simp; with_reducible rfl) (fun K hK => ?_); go_simp; refine hK _ ?_; clear hK K)
          refine ord_nil ?_
          generalize (WX.setCell ⟨g2, lo + q, none⟩ (.int .i64 x)).drew = w9 at *
          clear cx dv hdv f2 hg2x hg1x HI HF
          go_wp2_with fail
          go_roundw
          case rel => exact ⟨q + 1, at1, [], r' ++ [x], by omega, by go_num, HRA9.out, HRB9.out, by rw [List.length_append, hrl]; rfl, HO9.out, fun r hr => by cases hr with | doneA => (have := HM.out _ (Mg.doneB [x]); simpa using this) | doneB a => (have := HM.out _ (Mg.doneB (x :: at1)); simpa [List.append_assoc] using this), by simp at hcnt ⊢; omega, HI9.out, HF9.out, fun z hz => hva z (List.mem_cons_of_mem _ hz), hvb⟩
          case measure => simp [intOf]; omega
        · have htl2 : ¬ at1.length + 1 = 1 := by omega
          have hle1 : (1 : Int) ≤ ((at1.length : Nat) : Int) + 1 := by omega
          have hg2x : g2 < WX.heap.size := own_lt1 hO rfl
          have hg1x : g1 < WX.heap.size := by have := HF.out.size; omega
          obtain ⟨dv, hdv⟩ : ∃ dv, WX.cell? ⟨g2, lo + q, none⟩ = some dv := by
            have := hO.cellAt (lo + q) (by omega)
            rw [List.getElem?_eq_getElem (by rw [iv_length, over_length (by omega)]; omega)] at this
            exact ⟨_, this⟩
          have f2 : WX.frozen? ⟨g2, lo + q, none⟩ = false := hO.frozenAt _
          have hst := (hO.stored (lo + q) (.int .i64 x)).1
          have hset : (iv .i64 (over ys lo r')).set (lo + q) (.int .i64 x) = iv .i64 (over ys lo (r' ++ [x])) := by
            unfold iv
            rw [← List.map_set, ← hrl, over_set hlen1]
          rw [hset] at hst
          have hFs : Frm (fun j => j = g2 ∨ OL j) WX (WX.setCell ⟨g2, lo + q, none⟩ (.int .i64 x)).drew := ((Frm.refl (fun j => j = g2 ∨ OL j) WX).setCell g2 (lo + q) (Or.inl (Or.inl rfl)) _).drew
          have hFs2 : Frm (fun j => j = g2) WX (WX.setCell ⟨g2, lo + q, none⟩ (.int .i64 x)).drew := ((Frm.refl (fun j => j = g2) WX).setCell g2 (lo + q) (Or.inl rfl) _).drew
          have hkk : (WX.setCell ⟨g2, lo + q, none⟩ (.int .i64 x)).drew.heap[g1]? = WX.heap[g1]? := hFs2.block g1 hg1x h12
          have HKK := Lib.hid (show SameAt g1 WX (WX.setCell ⟨g2, lo + q, none⟩ (.int .i64 x)).drew from hkk)
          have hRA9 := hx1 htl
          have hRB9 := hRb
          have HRA9 := Lib.hid (hRA9.keep hkk)
          have HRB9 := Lib.hid (hRB9.keep hkk)
          have HO9 := Lib.hid (show (WX.setCell ⟨g2, lo + q, none⟩ (.int .i64 x)).drew.ownsRow 0 3 1 (.slice (some ⟨g2, 0, none⟩) n cc) n (iv .i64 (over ys lo (r' ++ [x]))) from hst)
          have HI9 := Lib.hid (HIK.out _ _ hFs2 HI.out)
          have HF9 := Lib.hid (HF.out.trans hFs)
          clear hst hset hFs hFs2 hRa hRb hO hRA9 hRB9
          go_wp2_with fail
          refine region_ord (SameAt g1 WX) [false, false, false, false, false, false, false, false, true, false] (by kernel_rfl) (by kernel_rfl) (by kernel_rfl) (show SameAt g1 WX WX.drew from rfl) ?_
          iterate 4 (refine ord_val (by rfl) (by intro w hi; clear hi; go_simp; with_reducible rfl) (fun K hK => ?_); go_simp; refine hK _ ?_; clear hK K)
          (refine ord_val (by rfl) (by intro wz hi; have zz := (World.cell?_of_block (a := ⟨g1, oa, none⟩) hi).trans cx; clear hi; go_simp; with_reducible rfl) (fun K hK => ?_); go_simp; refine hK _ ?_; clear hK K)
          (refine ord_val (by rfl) (by intro w hi; clear hi; go_simp; with_reducible rfl) (fun K hK => ?_); go_simp; refine hK _ ?_; clear hK K)
          (refine ord_val (by rfl) (by intro w hi; clear hi; go_simp; with_reducible rfl) (fun K hK => ?_); go_simp; refine hK _ ?_; clear hK K)
          (refine ord_val (by rfl) (by intro w hi; clear hi; go_simp; with_reducible rfl) (fun K hK => ?_); go_simp; refine hK _ ?_; clear hK K)
          refine ord_eff (by rfl) (fun K hK => ?_)
          refine gets_sem ?_
          go_simp
          refine ⟨HKK.out, hK _ _ ?_⟩
          clear hK K hkk HKK
          (refine ord_val (by rfl) (by intro w hi; clear hi; go_simp; with_reducible rfl) (fun K hK => ?_); go_simp; refine hK _ ?_; clear hK K)
          refine ord_nil ?_
          generalize (WX.setCell ⟨g2, lo + q, none⟩ (.int .i64 x)).drew = w9 at *
          clear cx dv hdv f2 hg2x hg1x HI HF
          go_wp2_with fail
          go_roundw
          case rel => exact ⟨q + 1, at1, [], r' ++ [x], by omega, by go_num, HRA9.out, HRB9.out, by rw [List.length_append, hrl]; rfl, HO9.out, fun r hr => by cases hr with | doneA => (have := HM.out _ (Mg.doneB [x]); simpa using this) | doneB a => (have := HM.out _ (Mg.doneB (x :: at1)); simpa [List.append_assoc] using this), by simp at hcnt ⊢; omega, HI9.out, HF9.out, fun z hz => hva z (List.mem_cons_of_mem _ hz), hvb⟩
          case measure => simp [intOf]; omega
      | x :: at1, y :: bt =>
        obtain ⟨oa, rfl, cx, hx0, hx1⟩ := hRa.head
        obtain ⟨ob, rfl, cy, hy0, hy1⟩ := hRb.head
        have hIx : I wr.drew := HIK.out wr wr.drew ((Frm.refl _ wr).drew) hIx
        have HF := Lib.hid (hF.drew)
        have hz0 : (((at1.length : Nat) : Int) + 1 == 0) = false := by rw [beq_eq_false_iff_ne]; omega
        have HLS := Lib.hid (HL.out wr.drew y x (hvb y (by simp)) (hva x (by simp)) hIx)
        try simp only [List.length_nil, List.length_cons]
        clear hMg hF hg2l hIx
        go_wp2_with fail
        refine region_ord (SameAt g1 wr) [false, false, false, false, false, false, false, false, false, false, false, false, false, false, false, true, false, false] (by kernel_rfl) (by kernel_rfl) (by kernel_rfl) (show SameAt g1 wr wr.drew from rfl) ?_
        iterate 11 (refine ord_val (by rfl) (by intro w hi; clear hi; go_simp; with_reducible rfl) (fun K hK => ?_); go_simp; refine hK _ ?_; clear hK K)
        (refine ord_val (by rfl) (by intro wz hi; have zz := (World.cell?_of_block (a := ⟨g1, ob, none⟩) hi).trans cy; clear hi; go_simp; with_reducible rfl) (fun K hK => ?_); go_simp; refine hK _ ?_; clear hK K)
        iterate 2 (refine ord_val (by rfl) (by intro w hi; clear hi; go_simp; with_reducible rfl) (fun K hK => ?_); go_simp; refine hK _ ?_; clear hK K)
        (refine ord_val (by rfl) (by intro wz hi; have zz := (World.cell?_of_block (a := ⟨g1, oa, none⟩) hi).trans cx; clear hi; go_simp; with_reducible rfl) (fun K hK => ?_); go_simp; refine hK _ ?_; clear hK K)
        refine ord_eff (by rfl) (fun K hK => ?_)
        refine gets_sem ?_
        go_simp
        refine HLS.out.mono ?_
        rintro e WX ⟨bb, rfl, hT, hI2, hF2⟩
        have hkk : WX.heap[g1]? = wr.heap[g1]? := hF2.block g1 hg1l hOL1
        have hRa := hRa.keep hkk
        have hRb := hRb.keep hkk
        have cx := (World.cell?_of_block (a := ⟨g1, oa, none⟩) hkk).trans cx
        have cy := (World.cell?_of_block (a := ⟨g1, ob, none⟩) hkk).trans cy
        have hx0 := fun h => (hx0 h).keep hkk
        have hx1 := fun h => (hx1 h).keep hkk
        have hy0 := fun h => (hy0 h).keep hkk
        have hy1 := fun h => (hy1 h).keep hkk
        have hO := own_keep1 (w' := WX) hO (fun g hg => by injection hg with hg; subst hg; exact hF2.block _ (own_lt1 hO rfl) hOL2)
        have HT := Lib.hid hT
        have HI := Lib.hid hI2
        have HF := Lib.hid (HF.out.trans (hF2.mono fun j _ e => Or.inr e))
        clear hT hI2 hF2 HLS
        refine ⟨_, rfl, (show SameAt g1 wr WX from hkk), hK _ _ ?_⟩
        clear hK K hkk
        iterate 2 (refine ord_val (by rfl) (by intro w hi; clear hi; go_simp; with_reducible rfl) (fun K hK => ?_); go_simp; refine hK _ ?_; clear hK K)
        refine ord_nil ?_
        cases bb with
        | true =>
          by_cases htl : bt.length = 0
          · have hle : bt = [] := List.eq_nil_of_length_eq_zero htl
            have hg2x : g2 < WX.heap.size := own_lt1 hO rfl
            have hg1x : g1 < WX.heap.size := by have := HF.out.size; omega
            obtain ⟨dv, hdv⟩ : ∃ dv, WX.cell? ⟨g2, lo + q, none⟩ = some dv := by
              have := hO.cellAt (lo + q) (by omega)
              rw [List.getElem?_eq_getElem (by rw [iv_length, over_length (by omega)]; omega)] at this
              exact ⟨_, this⟩
            have f2 : WX.frozen? ⟨g2, lo + q, none⟩ = false := hO.frozenAt _
            have hst := (hO.stored (lo + q) (.int .i64 y)).1
            have hset : (iv .i64 (over ys lo r')).set (lo + q) (.int .i64 y) = iv .i64 (over ys lo (r' ++ [y])) := by
              unfold iv
              rw [← List.map_set, ← hrl, over_set hlen1]
            rw [hset] at hst
            have hFs : Frm (fun j => j = g2 ∨ OL j) WX (WX.setCell ⟨g2, lo + q, none⟩ (.int .i64 y)).drew := ((Frm.refl (fun j => j = g2 ∨ OL j) WX).setCell g2 (lo + q) (Or.inl (Or.inl rfl)) _).drew
            have hFs2 : Frm (fun j => j = g2) WX (WX.setCell ⟨g2, lo + q, none⟩ (.int .i64 y)).drew := ((Frm.refl (fun j => j = g2) WX).setCell g2 (lo + q) (Or.inl rfl) _).drew
            have hkk : (WX.setCell ⟨g2, lo + q, none⟩ (.int .i64 y)).drew.heap[g1]? = WX.heap[g1]? := hFs2.block g1 hg1x h12
            have HKK := Lib.hid (show SameAt g1 WX (WX.setCell ⟨g2, lo + q, none⟩ (.int .i64 y)).drew from hkk)
            have hRA9 := hRa
            have hRB9 := hy0 htl
            have HRA9 := Lib.hid (hRA9.keep hkk)
            have HRB9 := Lib.hid (hRB9.keep hkk)
            have HO9 := Lib.hid (show (WX.setCell ⟨g2, lo + q, none⟩ (.int .i64 y)).drew.ownsRow 0 3 1 (.slice (some ⟨g2, 0, none⟩) n cc) n (iv .i64 (over ys lo (r' ++ [y]))) from hst)
            have HI9 := Lib.hid (HIK.out _ _ hFs2 HI.out)
            have HF9 := Lib.hid (HF.out.trans hFs)
            clear hst hset hFs hFs2 hRa hRb hO hRA9 hRB9
            go_wp2_with fail
            refine region_ord (SameAt g1 WX) [false, false, false, false, false, false, false, false, true, false] (by kernel_rfl) (by kernel_rfl) (by kernel_rfl) (show SameAt g1 WX WX.drew from rfl) ?_
            iterate 4 (refine ord_val (by rfl) (by intro w hi; clear hi; go_simp; with_reducible rfl) (fun K hK => ?_); go_simp; refine hK _ ?_; clear hK K)
            (refine ord_val (by rfl) (by intro wz hi; have zz := (World.cell?_of_block (a := ⟨g1, ob, none⟩) hi).trans cy; clear hi; go_simp; with_reducible rfl) (fun K hK => ?_); go_simp; refine hK _ ?_; clear hK K)
            (refine ord_val (by rfl) (by intro w hi; clear hi; go_simp; with_reducible rfl) (fun K hK => ?_); go_simp; refine hK _ ?_; clear hK K)
            (refine ord_val (by rfl) (by intro w hi; clear hi; go_simp; with_reducible rfl) (fun K hK => ?_); go_simp; refine hK _ ?_; clear hK K)
            (refine ord_val (by rfl) (by intro w hi; clear hi; go_simp; with_reducible rfl) (fun K hK => ?_); go_simp; refine hK _ ?_; clear hK K)
            refine ord_eff (by rfl) (fun K hK => ?_)
            refine gets_sem ?_
            go_simp
            refine ⟨HKK.out, hK _ _ ?_⟩
            clear hK K hkk HKK
            (refine ord_val (by rfl) (by intro w hi; clear hi; go_simp; with_reducible rfl) (fun K hK => ?_); go_simp; refine hK _ ?_; clear hK K)
            refine ord_nil ?_
            generalize (WX.setCell ⟨g2, lo + q, none⟩ (.int .i64 y)).drew = w9 at *
            clear cy dv hdv f2 hg2x hg1x HI HF
            go_wp2_with fail
            go_roundw
            case rel => exact ⟨q + 1, x :: at1, bt, r' ++ [y], by omega, by go_num, HRA9.out, HRB9.out, by rw [List.length_append, hrl]; rfl, HO9.out, fun r hr => by rw [List.append_assoc]; exact HM.out _ (Mg.takeB x y at1 bt r HT.out hr), by simp at hcnt ⊢; omega, HI9.out, HF9.out, hva, fun z hz => hvb z (List.mem_cons_of_mem _ hz)⟩
            case measure => simp [intOf]; omega
          · have htl2 : ¬ bt.length + 1 = 1 := by omega
            have hle1 : (1 : Int) ≤ ((bt.length : Nat) : Int) + 1 := by omega
            have hg2x : g2 < WX.heap.size := own_lt1 hO rfl
            have hg1x : g1 < WX.heap.size := by have := HF.out.size; omega
            obtain ⟨dv, hdv⟩ : ∃ dv, WX.cell? ⟨g2, lo + q, none⟩ = some dv := by
              have := hO.cellAt (lo + q) (by omega)
              rw [List.getElem?_eq_getElem (by rw [iv_length, over_length (by omega)]; omega)] at this
              exact ⟨_, this⟩
            have f2 : WX.frozen? ⟨g2, lo + q, none⟩ = false := hO.frozenAt _
            have hst := (hO.stored (lo + q) (.int .i64 y)).1
            have hset : (iv .i64 (over ys lo r')).set (lo + q) (.int .i64 y) = iv .i64 (over ys lo (r' ++ [y])) := by
              unfold iv
              rw [← List.map_set, ← hrl, over_set hlen1]
            rw [hset] at hst
            have hFs : Frm (fun j => j = g2 ∨ OL j) WX (WX.setCell ⟨g2, lo + q, none⟩ (.int .i64 y)).drew := ((Frm.refl (fun j => j = g2 ∨ OL j) WX).setCell g2 (lo + q) (Or.inl (Or.inl rfl)) _).drew
            have hFs2 : Frm (fun j => j = g2) WX (WX.setCell ⟨g2, lo + q, none⟩ (.int .i64 y)).drew := ((Frm.refl (fun j => j = g2) WX).setCell g2 (lo + q) (Or.inl rfl) _).drew
            have hkk : (WX.setCell ⟨g2, lo + q, none⟩ (.int .i64 y)).drew.heap[g1]? = WX.heap[g1]? := hFs2.block g1 hg1x h12
            have HKK := Lib.hid (show SameAt g1 WX (WX.setCell ⟨g2, lo + q, none⟩ (.int .i64 y)).drew from hkk)
            have hRA9 := hRa
            have hRB9 := hy1 htl
            have HRA9 := Lib.hid (hRA9.keep hkk)
            have HRB9 := Lib.hid (hRB9.keep hkk)
            have HO9 := Lib.hid (show (WX.setCell ⟨g2, lo + q, none⟩ (.int .i64 y)).drew.ownsRow 0 3 1 (.slice (some ⟨g2, 0, none⟩) n cc) n (iv .i64 (over ys lo (r' ++ [y]))) from hst)
            have HI9 := Lib.hid (HIK.out _ _ hFs2 HI.out)
            have HF9 := Lib.hid (HF.out.trans hFs)
            clear hst hset hFs hFs2 hRa hRb hO hRA9 hRB9
            go_wp2_with fail
            refine region_ord (SameAt g1 WX) [false, false, false, false, false, false, false, false, true, false] (by kernel_rfl) (by kernel_rfl) (by kernel_rfl) (show SameAt g1 WX WX.drew from rfl) ?_
            iterate 4 (refine ord_val (by rfl) (by intro w hi; clear hi; go_simp; with_reducible rfl) (fun K hK => ?_); go_simp; refine hK _ ?_; clear hK K)
            (refine ord_val (by rfl) (by intro wz hi; have zz := (World.cell?_of_block (a := ⟨g1, ob, none⟩) hi).trans cy; clear hi; go_simp; with_reducible rfl) (fun K hK => ?_); go_simp; refine hK _ ?_; clear hK K)
            (refine ord_val (by rfl) (by intro w hi; clear hi; go_simp; with_reducible rfl) (fun K hK => ?_); go_simp; refine hK _ ?_; clear hK K)
            (refine ord_val (by rfl) (by intro w hi; clear hi; go_simp; with_reducible rfl) (fun K hK => ?_); go_simp; refine hK _ ?_; clear hK K)
            (refine ord_val (by rfl) (by intro w hi; clear hi; go_simp; with_reducible rfl) (fun K hK => ?_); go_simp; refine hK _ ?_; clear hK K)
            refine ord_eff (by rfl) (fun K hK => ?_)
            refine gets_sem ?_
            go_simp
            refine ⟨HKK.out, hK _ _ ?_⟩
            clear hK K hkk HKK
            (refine ord_val (by rfl) (by intro w hi; clear hi; go_simp; with_reducible rfl) (fun K hK => ?_); go_simp; refine hK _ ?_; clear hK K)
            refine ord_nil ?_
            generalize (WX.setCell ⟨g2, lo + q, none⟩ (.int .i64 y)).drew = w9 at *
            clear cy dv hdv f2 hg2x hg1x HI HF
            go_wp2_with fail
            go_roundw
            case rel => exact ⟨q + 1, x :: at1, bt, r' ++ [y], by omega, by go_num, HRA9.out, HRB9.out, by rw [List.length_append, hrl]; rfl, HO9.out, fun r hr => by rw [List.append_assoc]; exact HM.out _ (Mg.takeB x y at1 bt r HT.out hr), by simp at hcnt ⊢; omega, HI9.out, HF9.out, hva, fun z hz => hvb z (List.mem_cons_of_mem _ hz)⟩
            case measure => simp [intOf]; omega
        | false =>
          by_cases htl : at1.length = 0
          · have hle : at1 = [] := List.eq_nil_of_length_eq_zero htl
            have hg2x : g2 < WX.heap.size := own_lt1 hO rfl
            have hg1x : g1 < WX.heap.size := by have := HF.out.size; omega
            obtain ⟨dv, hdv⟩ : ∃ dv, WX.cell? ⟨g2, lo + q, none⟩ = some dv := by
              have := hO.cellAt (lo + q) (by omega)
              rw [List.getElem?_eq_getElem (by rw [iv_length, over_length (by omega)]; omega)] at this
              exact ⟨_, this⟩
            have f2 : WX.frozen? ⟨g2, lo + q, none⟩ = false := hO.frozenAt _
            have hst := (hO.stored (lo + q) (.int .i64 x)).1
            have hset : (iv .i64 (over ys lo r')).set (lo + q) (.int .i64 x) = iv .i64 (over ys lo (r' ++ [x])) := by
              unfold iv
              rw [← List.map_set, ← hrl, over_set hlen1]
            rw [hset] at hst
            have hFs : Frm (fun j => j = g2 ∨ OL j) WX (WX.setCell ⟨g2, lo + q, none⟩ (.int .i64 x)).drew := ((Frm.refl (fun j => j = g2 ∨ OL j) WX).setCell g2 (lo + q) (Or.inl (Or.inl rfl)) _).drew
            have hFs2 : Frm (fun j => j = g2) WX (WX.setCell ⟨g2, lo + q, none⟩ (.int .i64 x)).drew := ((Frm.refl (fun j => j = g2) WX).setCell g2 (lo + q) (Or.inl rfl) _).drew
            have hkk : (WX.setCell ⟨g2, lo + q, none⟩ (.int .i64 x)).drew.heap[g1]? = WX.heap[g1]? := hFs2.block g1 hg1x h12
            have HKK := Lib.hid (show SameAt g1 WX (WX.setCell ⟨g2, lo + q, none⟩ (.int .i64 x)).drew from hkk)
            have hRA9 := hx0 htl
            have hRB9 := hRb
            have HRA9 := Lib.hid (hRA9.keep hkk)
            have HRB9 := Lib.hid (hRB9.keep hkk)
            have HO9 := Lib.hid (show (WX.setCell ⟨g2, lo + q, none⟩ (.int .i64 x)).drew.ownsRow 0 3 1 (.slice (some ⟨g2, 0, none⟩) n cc) n (iv .i64 (over ys lo (r' ++ [x]))) from hst)
            have HI9 := Lib.hid (HIK.out _ _ hFs2 HI.out)
            have HF9 := Lib.hid (HF.out.trans hFs)
            clear hst hset hFs hFs2 hRa hRb hO hRA9 hRB9
            go_wp2_with fail
            refine region_ord (SameAt g1 WX) [false, false, false, false, false, false, false, false, true, false] (by kernel_rfl) (by kernel_rfl) (by kernel_rfl) (show SameAt g1 WX WX.drew from rfl) ?_
            iterate 4 (refine ord_val (by rfl) (by intro w hi; clear hi; go_simp; with_reducible rfl) (fun K hK => ?_); go_simp; refine hK _ ?_; clear hK K)
            (refine ord_val (by rfl) (by intro wz hi; have zz := (World.cell?_of_block (a := ⟨g1, oa, none⟩) hi).trans cx; clear hi; go_simp; with_reducible rfl) (fun K hK => ?_); go_simp; refine hK _ ?_; clear hK K)
            (refine ord_val (by rfl) (by intro w hi; clear hi; go_simp; with_reducible rfl) (fun K hK => ?_); go_simp; refine hK _ ?_; clear hK K)
            (refine ord_val (by rfl) (by intro w hi; clear hi; go_simp; with_reducible rfl) (fun K hK => ?_); go_simp; refine hK _ ?_; clear hK K)
            (refine ord_val (by rfl) (by intro w hi; clear hi; go_simp; with_reducible rfl) (fun K hK => ?_); go_simp; refine hK _ ?_; clear hK K)
            refine ord_eff (by rfl) (fun K hK => ?_)
            refine gets_sem ?_
            go_simp
            refine ⟨HKK.out, hK _ _ ?_⟩
            clear hK K hkk HKK
            (refine ord_val (by rfl) (by intro w hi; clear hi; go_simp; with_reducible rfl) (fun K hK => ?_); go_simp; refine hK _ ?_; clear hK K)
            refine ord_nil ?_
            generalize (WX.setCell ⟨g2, lo + q, none⟩ (.int .i64 x)).drew = w9 at *
            clear cx dv hdv f2 hg2x hg1x HI HF
            go_wp2_with fail
            go_roundw
            case rel => exact ⟨q + 1, at1, y :: bt, r' ++ [x], by omega, by go_num, HRA9.out, HRB9.out, by rw [List.length_append, hrl]; rfl, HO9.out, fun r hr => by rw [List.append_assoc]; exact HM.out _ (Mg.takeA x y at1 bt r HT.out hr), by simp at hcnt ⊢; omega, HI9.out, HF9.out, fun z hz => hva z (List.mem_cons_of_mem _ hz), hvb⟩
            case measure => simp [intOf]; omega
          · have htl2 : ¬ at1.length + 1 = 1 := by omega
            have hle1 : (1 : Int) ≤ ((at1.length : Nat) : Int) + 1 := by omega
            have hg2x : g2 < WX.heap.size := own_lt1 hO rfl
            have hg1x : g1 < WX.heap.size := by have := HF.out.size; omega
            obtain ⟨dv, hdv⟩ : ∃ dv, WX.cell? ⟨g2, lo + q, none⟩ = some dv := by
              have := hO.cellAt (lo + q) (by omega)
              rw [List.getElem?_eq_getElem (by rw [iv_length, over_length (by omega)]; omega)] at this
              exact ⟨_, this⟩
            have f2 : WX.frozen? ⟨g2, lo + q, none⟩ = false := hO.frozenAt _
            have hst := (hO.stored (lo + q) (.int .i64 x)).1
            have hset : (iv .i64 (over ys lo r')).set (lo + q) (.int .i64 x) = iv .i64 (over ys lo (r' ++ [x])) := by
              unfold iv
              rw [← List.map_set, ← hrl, over_set hlen1]
            rw [hset] at hst
            have hFs : Frm (fun j => j = g2 ∨ OL j) WX (WX.setCell ⟨g2, lo + q, none⟩ (.int .i64 x)).drew := ((Frm.refl (fun j => j = g2 ∨ OL j) WX).setCell g2 (lo + q) (Or.inl (Or.inl rfl)) _).drew
            have hFs2 : Frm (fun j => j = g2) WX (WX.setCell ⟨g2, lo + q, none⟩ (.int .i64 x)).drew := ((Frm.refl (fun j => j = g2) WX).setCell g2 (lo + q) (Or.inl rfl) _).drew
            have hkk : (WX.setCell ⟨g2, lo + q, none⟩ (.int .i64 x)).drew.heap[g1]? = WX.heap[g1]? := hFs2.block g1 hg1x h12
            have HKK := Lib.hid (show SameAt g1 WX (WX.setCell ⟨g2, lo + q, none⟩ (.int .i64 x)).drew from hkk)
            have hRA9 := hx1 htl
            have hRB9 := hRb
            have HRA9 := Lib.hid (hRA9.keep hkk)
            have HRB9 := Lib.hid (hRB9.keep hkk)
            have HO9 := Lib.hid (show (WX.setCell ⟨g2, lo + q, none⟩ (.int .i64 x)).drew.ownsRow 0 3 1 (.slice (some ⟨g2, 0, none⟩) n cc) n (iv .i64 (over ys lo (r' ++ [x]))) from hst)
            have HI9 := Lib.hid (HIK.out _ _ hFs2 HI.out)
            have HF9 := Lib.hid (HF.out.trans hFs)
            clear hst hset hFs hFs2 hRa hRb hO hRA9 hRB9
            go_wp2_with fail
            refine region_ord (SameAt g1 WX) [false, false, false, false, false, false, false, false, true, false] (by kernel_rfl) (by kernel_rfl) (by kernel_rfl) (show SameAt g1 WX WX.drew from rfl) ?_
            iterate 4 (refine ord_val (by rfl) (by intro w hi; clear hi; go_simp; with_reducible rfl) (fun K hK => ?_); go_simp; refine hK _ ?_; clear hK K)
            (refine ord_val (by rfl) (by intro wz hi; have zz := (World.cell?_of_block (a := ⟨g1, oa, none⟩) hi).trans cx; clear hi; go_simp; with_reducible rfl) (fun K hK => ?_); go_simp; refine hK _ ?_; clear hK K)
            (refine ord_val (by rfl) (by intro w hi; clear hi; go_simp; with_reducible rfl) (fun K hK => ?_); go_simp; refine hK _ ?_; clear hK K)
            (refine ord_val (by rfl) (by intro w hi; clear hi; go_simp; with_reducible rfl) (fun K hK => ?_); go_simp; refine hK _ ?_; clear hK K)
            (refine ord_val (by rfl) (by intro w hi; clear hi; go_simp; with_reducible rfl) (fun K hK => ?_); go_simp; refine hK _ ?_; clear hK K)
            refine ord_eff (by rfl) (fun K hK => ?_)
            refine gets_sem ?_
            go_simp
            refine ⟨HKK.out, hK _ _ ?_⟩
            clear hK K hkk HKK
            (refine ord_val (by rfl) (by intro w hi; clear hi; go_simp; with_reducible rfl) (fun K hK => ?_); go_simp; refine hK _ ?_; clear hK K)
            refine ord_nil ?_
            generalize (WX.setCell ⟨g2, lo + q, none⟩ (.int .i64 x)).drew = w9 at *
            clear cx dv hdv f2 hg2x hg1x HI HF
            go_wp2_with fail
            go_roundw
            case rel => exact ⟨q + 1, at1, y :: bt, r' ++ [x], by omega, by go_num, HRA9.out, HRB9.out, by rw [List.length_append, hrl]; rfl, HO9.out, fun r hr => by rw [List.append_assoc]; exact HM.out _ (Mg.takeA x y at1 bt r HT.out hr), by simp at hcnt ⊢; omega, HI9.out, HF9.out, fun z hz => hva z (List.mem_cons_of_mem _ hz), hvb⟩
            case measure => simp [intOf]; omega
    · obtain rfl : q = m := by omega
      have hz : a1 = [] ∧ b1 = [] := ⟨List.eq_nil_of_length_eq_zero (by omega), List.eq_nil_of_length_eq_zero (by omega)⟩
      obtain ⟨rfl, rfl⟩ := hz
      have HM := Lib.hid (show Mg T la lb r' from by have := hMg [] (Mg.doneA []); simpa using this)
      have HO := Lib.hid hO
      have HI := Lib.hid hIx
      have HF := Lib.hid hF
      clear hMg hIx hF hO hRa hRb
      go_wp2
      go_end0
      exact ⟨rfl, r', HM.out, HO.out, HI.out, HF.out⟩
end Go.Proofs.Ytlbodandidopfaa
