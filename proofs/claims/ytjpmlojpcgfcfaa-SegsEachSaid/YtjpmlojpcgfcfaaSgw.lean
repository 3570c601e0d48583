/- The table of segments: walk, for one closure. Conditions: the closure keeps what is asked of it. -/
import Derived.Test.YtjpmlojpcgfcfaaSgc
import Derived.Deep.MidRow
namespace Go.Proofs.Ytjpmlojpcgfcfaa
open Go.ChangeShapes Go.WideShapes Go.ChangeAt Go.RowKit Go.Maps
set_option linter.unusedSimpArgs false
set_option linter.unusedVariables false
def entL (x : Ent) : List Value := [.int .i64 x.st, .int .i64 x.us, .int .i64 x.ep]
/-- the row of what the segments are: N places, the first k of them laid -/
structure ERow (w : World) (g N k : Nat) (f : Int → Ent) : Prop where
  there : ∀ j, j < N → w.there g (j * 3) 3
  has : ∀ j : Nat, j < k → w.rangeAt g (j * 3) (entL (f j))
  lt : g < w.heap.size
theorem ERow.keep {w w' : World} {g N k : Nat} {f : Int → Ent} (h : ERow w g N k f) (hk : w'.heap[g]? = w.heap[g]?) (hs : w.heap.size ≤ w'.heap.size) : ERow w' g N k f := by
  have hc : ∀ o, w'.cell? ⟨g, o, none⟩ = w.cell? ⟨g, o, none⟩ := fun o => World.cell?_of_block (a := ⟨g, o, none⟩) hk
  refine ⟨fun j hj i hi => ?_, fun j hj i v hv => ?_, by have := h.lt; omega⟩
  · have := h.there j hj i hi
    rw [hc]
    refine ⟨this.1, ?_⟩
    have h2 := this.2
    unfold World.frozen? at h2 ⊢
    rw [hk]
    exact h2
  · rw [hc]; exact h.has j hj i v hv
theorem ERow.next {w w' : World} {g N k : Nat} {f : Int → Ent} (h : ERow w g N k f) (hb : Below w.heap.size w w') : ERow w' g N k f := h.keep (hb.block g h.lt) hb.size
theorem below_cells {B b : Nat} {a : World} (hb : B ≤ b) : ∀ (vs : List Value) (o : Nat) (w : World), Below B a w → Below B a (w.setCells b o vs)
  | [], _, _, h => h
  | v :: r, o, w, h => below_cells hb r (o + 1) _ (h.setCell (p := ⟨b, o, none⟩) hb v)
theorem ERow.lay {w : World} {g N k : Nat} {f : Int → Ent} (h : ERow w g N k f) (hk : k < N) : ERow (w.setCells g (k * 3) (entL (f (k : Nat)))) g N (k + 1) f := by
  have ht : w.there g (k * 3) (entL (f (k : Nat))).length := h.there k hk
  refine ⟨fun j hj => ?_, fun j hj => ?_, by have := (below_cells (Nat.zero_le g) (entL (f (k : Nat))) (k * 3) w (Below.refl 0 w)).size; have := h.lt; omega⟩
  · exact World.there_setCells (h.there j hj) _ _ _
  · by_cases e : j = k
    · subst e; exact World.rangeAt_setCells_same _ _ _ _ ht
    · exact World.rangeAt_setCells_apart (h.has j (by omega)) _ _ _ (by simp only [entL, List.length_cons, List.length_nil]; omega)
theorem infE : (Try.prog.info? 63).map (fun i => (i.zero, i.size, i.bytes)) = some (some (.agg #[.int .i64 0, .int .i64 0, .int .i64 0]), 3, 24) := by kernel_rfl
theorem infE_parts : ∃ i, Try.prog.info? 63 = some i ∧ i.zero = some (.agg #[.int .i64 0, .int .i64 0, .int .i64 0]) ∧ i.size = 3 ∧ i.bytes = 24 := by
  have h := infE
  cases hq : Try.prog.info? 63 with
  | none => rw [hq] at h; cases h
  | some i =>
    rw [hq] at h
    simp only [Option.map_some, Option.some.injEq, Prod.mk.injEq] at h
    exact ⟨i, rfl, h.1, h.2.1, h.2.2⟩
theorem ERow.made {w : World} {base g N : Nat} {e : TypeId} {xs : List Value} (h : w.ownsRow base e 3 (.slice (some ⟨g, 0, none⟩) N N) N xs) (hN : 1 ≤ N) (f : Int → Ent) : ERow w g N 0 f ∧ base ≤ g := by
  obtain ⟨_, ⟨h1, _⟩ | ⟨g', cap, cur, hv, hb, hg, _, _, hs, _⟩⟩ := h
  · cases h1
  · injection hv with e1 e2 e3
    injection e1 with e1
    injection e1 with e1
    subst e1 e3
    refine ⟨⟨fun j hj i hi => ⟨?_, frozen_of_row w _ _ _ _ hg⟩, fun j hj => absurd hj (by omega), ?_⟩, hb⟩
    · rw [cell_of_row w _ (j * 3 + i) _ _ _ hg, Array.getElem?_eq_getElem (by omega)]
      rfl
    · rcases Nat.lt_or_ge g w.heap.size with h2 | h2
      · exact h2
      · rw [Array.getElem?_eq_none h2] at hg; cases hg
/-- what walk asks of a closure -/
def EachC (fn : Nat) (caps : Value → Value → Array Value) (O : Nat → Prop) (N : Nat) (f : Int → Ent) (I : Nat → World → Prop) (S : World → Prop) (P : Program) : Prop :=
  ∀ (w1 : World) (k : Nat), k < N → I k w1 → Calls P fn (caps (.int .i64 (k : Nat)) (entV (f k))) w1 fun e w2 => ((e = .returned (.bool true) ∧ I (k + 1) w2) ∨ (e = .returned (.bool false) ∧ S w2)) ∧ Frm O w1 w2
set_option maxRecDepth 100000 in
set_option maxHeartbeats 2000000 in
theorem walk_release (c0 c1 : Value) (O : Nat → Prop) (tb b m N : Nat) (f : Int → Ent) (low : Nat) (I : Nat → World → Prop) (S : World → Prop) (w : World) (h : Tab w tb b m N f low) (hN : 1 ≤ N)
    (hO : ¬ O w.heap.size) (hE : EachC 39 (fun x y => #[x, y, c0, c1]) O N f I S Try.prog)
    (hI : ∀ w1, Below w.heap.size w w1 → w.heap.size < w1.heap.size → I 0 w1) (hIs : ∀ k a b, w.heap.size ≤ a.heap.size → I k a → Below a.heap.size a b → I k b) :
    Calls Try.prog 35 #[.pointer (some ⟨tb, 0, none⟩), .func (Fn.func 39) #[] #[c0, c1]] w fun e w' => e = .returned (.tuple #[]) ∧ (I N w' ∨ S w') ∧ Frm O w w' := by
  obtain ⟨_, _, _, e0⟩ := h.box.field
  have hmost := h.most
  have H := Lib.hid h
  have HE := Lib.hid hE
  have HO := Lib.hid hO
  have HI := Lib.hid hI
  have HIS := Lib.hid hIs
  clear h hE hO hI hIs
  obtain ⟨i, hi1, hi2, hi3, hi4⟩ := infE_parts
  go_enter Try.func35, Try.ntmps35
  go_wp2_with first
    | (at_make; go_loud (refine wpList_make_full w rfl _ _ 74 rfl w.heap.size 63 i _ 3 Try.underlying74 hi1 hi2 hi3 .i64 .i64 _ _ N rfl rfl rfl rfl (by rw [hi4]; omega) (by unfold maxLen; omega) (Nat.le_refl _) ?_; intro w1 ho1 hg1))
    | fail
  have hb1 : Below w.heap.size w w1 := (Below.refl _ _).grown hg1 (Nat.le_refl _) (by intro g h; cases h)
  obtain ⟨hE1, _⟩ := ERow.made ho1 hN f
  have HE1 := Lib.hid hE1
  have HB1 := Lib.hid hb1
  clear ho1 hg1 hE1 hb1 hi1 hi2 hi3
  go_loopw [15] (fun j wr => ∃ k : Nat, k ≤ N ∧ j = .int .i64 k ∧ ERow wr w.heap.size N k f ∧ Below w.heap.size w wr) (fun j wr => N - (intOf j).toNat)
  case atStart => exact ⟨0, by omega, rfl, HE1.out, HB1.out⟩
  case round =>
    obtain ⟨k, hk, rfl, hE, hB⟩ := hrel
    by_cases hlt : k < N
    · have hT := H.out.next hB
      have hg := get_any tb b m (N : Nat) f (cntF N f) (low : Nat) wr hT.box k (wf64 (by omega) (by omega))
      unfold entV at hg
      have HG := Lib.hid hg
      have HER := Lib.hid hE
      have HB := Lib.hid hB
      clear hg hE hB hT
      go_wp2_with fail
      refine HG.out.mono ?_
      rintro e w2 ⟨rfl, hb2⟩
      have HER2 := Lib.hid (HER.out.next hb2)
      have HB2 := Lib.hid (HB.out.trans (hb2.mono HB.out.size))
      clear hb2
      obtain ⟨⟨a0, y0⟩, y0f⟩ : (∃ u, w2.cell? ⟨w.heap.size, k * 3, none⟩ = some u) ∧ w2.frozen? ⟨w.heap.size, k * 3, none⟩ = false := by
        have := HER2.out.there k hlt 0 (by omega); exact ⟨Option.isSome_iff_exists.1 this.1, this.2⟩
      obtain ⟨⟨a1, y1⟩, y1f⟩ : (∃ u, w2.cell? ⟨w.heap.size, k * 3 + 1, none⟩ = some u) ∧ w2.frozen? ⟨w.heap.size, k * 3 + 1, none⟩ = false := by
        have := HER2.out.there k hlt 1 (by omega); exact ⟨Option.isSome_iff_exists.1 this.1, this.2⟩
      obtain ⟨⟨a2, y2⟩, y2f⟩ : (∃ u, w2.cell? ⟨w.heap.size, k * 3 + 2, none⟩ = some u) ∧ w2.frozen? ⟨w.heap.size, k * 3 + 2, none⟩ = false := by
        have := HER2.out.there k hlt 2 (by omega); exact ⟨Option.isSome_iff_exists.1 this.1, this.2⟩
      have HL := Lib.hid (HER2.out.lay hlt)
      have HBL := Lib.hid (below_cells (Nat.le_refl w.heap.size) (entL (f (k : Nat))) (k * 3) w2 HB2.out)
      unfold entL at HL HBL
      go_wp2
      go_roundw
      case rel => exact ⟨k + 1, by omega, by go_num, HL.out, HBL.out⟩
      case measure => simp [intOf]; omega
    · obtain rfl : k = N := by omega
      have HER := Lib.hid hE
      have HB := Lib.hid hB
      have HI2 := Lib.hid (HI.out wr hB hE.lt)
      clear hE hB
      go_wp2
      go_loopw [27] (fun j wx => ∃ q : Nat, q ≤ k ∧ j = .int .i64 q ∧ I q wx ∧ ERow wx w.heap.size k k f ∧ Frm O w wx) (fun j wx => k - (intOf j).toNat)
      case atStart => exact ⟨0, by omega, rfl, HI2.out, HER.out, Frm.of_below HB.out⟩
      case round =>
        obtain ⟨q, hq, rfl, hIq, hE, hF⟩ := hrel
        by_cases hlt : q < k
        · have x0 : wr.cell? ⟨w.heap.size, q * 3, none⟩ = some (.int .i64 (f (q : Nat)).st) := hE.has q hlt 0 _ rfl
          have x1 : wr.cell? ⟨w.heap.size, q * 3 + 1, none⟩ = some (.int .i64 (f (q : Nat)).us) := hE.has q hlt 1 _ rfl
          have x2 : wr.cell? ⟨w.heap.size, q * 3 + 2, none⟩ = some (.int .i64 (f (q : Nat)).ep) := hE.has q hlt 2 _ rfl
          have hba : Below wr.heap.size wr (wr.alloc (.cells #[.int .i64 (f (q : Nat)).st, .int .i64 (f (q : Nat)).us, .int .i64 (f (q : Nat)).ep] 63)) := (Below.refl _ _).alloc (Nat.le_refl _) _
          have hc := HE.out (wr.alloc (.cells #[.int .i64 (f (q : Nat)).st, .int .i64 (f (q : Nat)).us, .int .i64 (f (q : Nat)).ep] 63)) q hlt (HIS.out q _ _ hF.size hIq hba)
          have HEA := Lib.hid (hE.next hba)
          have HF := Lib.hid (hF.trans (Frm.of_below hba))
          unfold entV at hc
          have HC := Lib.hid hc
          clear hc hba hE hF hIq
          go_wp2_with fail
          refine HC.out.mono ?_
          rintro e w4 ⟨⟨rfl, hI4⟩ | ⟨rfl, hS4⟩, hF4⟩
          · have hE4 := HEA.out.keep (hF4.block w.heap.size HEA.out.lt HO.out) hF4.size
            have HE4 := Lib.hid hE4
            have HF4 := Lib.hid (HF.out.trans hF4)
            have HI4 := Lib.hid hI4
            clear hE4 hF4 hI4
            go_wp2
            go_roundw
            case rel => exact ⟨q + 1, by omega, by go_num, HI4.out, HE4.out, HF4.out⟩
            case measure => simp [intOf]; omega
          · have HF4 := Lib.hid (HF.out.trans hF4)
            have HS4 := Lib.hid hS4
            clear hF4 hS4
            go_wp2
            exact bodyPost_ret (results_none rfl _ _ _) rfl ⟨rfl, Or.inr HS4.out, HF4.out⟩
        · obtain rfl : q = k := by omega
          have HF := Lib.hid hF
          have HIq := Lib.hid hIq
          clear hF hIq hE
          go_wp2
          go_end0
          exact ⟨rfl, Or.inl HIq.out, HF.out⟩
end Go.Proofs.Ytjpmlojpcgfcfaa
