/- A load that came in; the tenth chapter's example holds. Conditions: none. -/
import Derived.Test.YtlbodandidopfaaCln
import Derived.Test.YtlbodandidopfaaGoq
import Derived.Test.YtlbodandidopfaaGkn
namespace Go.Proofs.Ytlbodandidopfaa
open Go.ChangeShapes Go.WideShapes Go.ChangeAt Go.RowKit Go.Deep
set_option linter.unusedSimpArgs false
set_option linter.unusedVariables false
section
variable {H : Type} {enc : TypeId × Value → H} {P : Program}
theorem open_ld {W : World} {base : Nat} {t TI TB : TypeId} {fs : Array Field} {v : Value} {d : DataW H} {p : List MemPlace} (hs : P.underlying t = some (.struct fs)) (hone : oneCellFields P fs = true) (hC : P.cellsOf t = fs.size)
    (hT : P.underlying TI = some (.int .i64)) (hB : P.underlying TB = some .bool) (hty : fs.toList.map (fun f => f.type) = [TI, TI, TI, TB])
    (hv : Value.okWide P W .any base t v) (h : DataW.Trod enc P W 0 (fun _ => true) true t v d p) : ∃ c : Ld, v = c.val := by
  obtain ⟨cs, rfl, hsz⟩ := okWide_struct hs hv
  obtain ⟨fuel, hf⟩ := h
  obtain ⟨xs, n, _, hx, _, hlen, hg⟩ := DataW.trod_struct hs hf
  have h4 : fs.size = 4 := by have := congrArg List.length hty; simpa using this
  have one : ∀ (i : Nat) (hi : i < cs.size) (T : TypeId), (fs.toList.map (fun f => f.type))[i]? = some T → ∃ x, DataW.trod enc P W 0 (fun _ => true) true n T [cs[i]] = some x := by
    intro i hi T hTi
    have hif : i < fs.size := by omega
    have hfi : fs[i]? = some fs[i] := Array.getElem?_eq_getElem hif
    obtain ⟨o0, k0⟩ := hone_of hone i fs[i] hfi
    have h1 := hg i fs[i] hfi
    have htyp : fs[i].type = T := by
      rw [List.getElem?_map, Array.getElem?_toList, hfi] at hTi
      simpa using hTi
    have hcl : (Value.agg cs).cells = cs := rfl
    rw [o0, k0, hcl, htyp] at h1
    have hone' : (cs.toList.drop i).take 1 = [cs[i]] := by
      rw [List.drop_eq_getElem_cons (by simpa using hi)]
      rfl
    rw [hone'] at h1
    have hxi : i < xs.length := by omega
    rw [List.getElem?_eq_getElem hxi] at h1
    exact ⟨_, h1⟩
  have hc4 : cs.size = 4 := by omega
  rw [hty] at one
  obtain ⟨x0, e0⟩ := one 0 (by omega) TI rfl
  obtain ⟨x1, e1⟩ := one 1 (by omega) TI rfl
  obtain ⟨x2, e2⟩ := one 2 (by omega) TI rfl
  obtain ⟨x3, e3⟩ := one 3 (by omega) TB rfl
  obtain ⟨z0, y0, _, _⟩ := DataW.trod_int hT e0
  obtain ⟨z1, y1, _, _⟩ := DataW.trod_int hT e1
  obtain ⟨z2, y2, _, _⟩ := DataW.trod_int hT e2
  obtain ⟨b3, y3, _⟩ := DataW.trod_bool hB e3
  refine ⟨⟨z0, z1, z2, b3⟩, ?_⟩
  unfold Ld.val
  congr 1
  apply Array.ext
  · simpa using hc4
  · intro i h1 h2
    have hi : i < 4 := by omega
    match i, hi with
    | 0, _ => simpa using y0
    | 1, _ => simpa using y1
    | 2, _ => simpa using y2
    | 3, _ => simpa using y3
end
def row3 : Array Value := #[Value.int IntKind.i64 1, Value.int IntKind.i64 3, Value.int IntKind.i64 10, Value.bool false, Value.int IntKind.i64 2, Value.int IntKind.i64 1, Value.int IntKind.i64 4, Value.bool false, Value.int IntKind.i64 3, Value.int IntKind.i64 2, Value.int IntKind.i64 8, Value.bool false]
set_option maxRecDepth 100000 in
set_option maxHeartbeats 4000000 in
theorem may_yes (c : Ld) (h : rightB c = true) (hf : c.fixed = false) (hu : c.used < c.size) (w : World) : Calls Try.prog 84 #[c.val] w fun e w' => e = .returned (.bool true) ∧ Below w.heap.size w w' := by
  have hr := fun w1 => right_any c w1
  rw [h] at hr
  have hbx := LBox.new w c
  have hb0 : Below w.heap.size w (w.alloc (.cells (L4 c) 49)) := (Below.refl _ _).alloc (Nat.le_refl _) _
  have HR := Lib.hid hr
  have HX := Lib.hid hbx
  have HF := Lib.hid hf
  clear hr hbx hf h
  unfold L4 at hb0
  unfold Ld.val at HR ⊢
  go_enter Try.func84, Try.ntmps84
  go_wp2_with fail
  refine (HR.out _).mono ?_
  rintro e w1 ⟨rfl, hb1⟩
  have hx1 : LBox w1 w.heap.size c := LBox.next hb1 HX.out
  have hB1 : Below w.heap.size w w1 := nextB hb1 (by first | exact hb0 | exact hb0.drew | exact belowN hb0 _)
  obtain ⟨k0, k1, k2, k3⟩ := hx1.cells
  rw [HF.out] at k3
  go_wp2
  go_ret
  exact ⟨rfl, hB1⟩
theorem LBox.free {w : World} {k : Nat} {c : Ld} (h : LBox w k c) (i : Nat) : w.frozen? ⟨k, i, none⟩ = false := frozen_of_row w k i _ _ h
theorem LBox.set4 {w : World} {k : Nat} {c : Ld} (h : LBox w k c) (d : Ld) : LBox ((((w.setCell ⟨k, 0, none⟩ (.int .i64 d.seg)).setCell ⟨k, 1, none⟩ (.int .i64 d.used)).setCell ⟨k, 2, none⟩ (.int .i64 d.size)).setCell ⟨k, 3, none⟩ (.bool d.fixed)) k d := by
  have h0 : w.heap[k]? = some (.cells #[.int .i64 c.seg, .int .i64 c.used, .int .i64 c.size, .bool c.fixed] 49 (0, 0)) := h
  have h1 := heap_setCell_same w k 0 _ _ (.int .i64 d.seg) h0
  have h2 := heap_setCell_same _ k 1 _ _ (.int .i64 d.used) h1
  have h3 := heap_setCell_same _ k 2 _ _ (.int .i64 d.size) h2
  have h4 := heap_setCell_same _ k 3 _ _ (.bool d.fixed) h3
  clear h h0 h1 h2 h3
  simp only [List.setIfInBounds_toArray, List.set_cons_zero, List.set_cons_succ] at h4
  exact h4
theorem belowSet4 {B : Nat} {a w : World} {k : Nat} (h : Below B a w) (hk : B ≤ k) (d : Ld) : Below B a ((((w.setCell ⟨k, 0, none⟩ (.int .i64 d.seg)).setCell ⟨k, 1, none⟩ (.int .i64 d.used)).setCell ⟨k, 2, none⟩ (.int .i64 d.size)).setCell ⟨k, 3, none⟩ (.bool d.fixed)) :=
  Below.setCell (p := ⟨k, 3, none⟩) (Below.setCell (p := ⟨k, 2, none⟩) (Below.setCell (p := ⟨k, 1, none⟩) (Below.setCell (p := ⟨k, 0, none⟩) h hk _) hk _) hk _) hk _
theorem LBox.other4 {w : World} {k j : Nat} {c : Ld} (h : LBox w k c) (hne : k ≠ j) (d : Ld) : LBox ((((w.setCell ⟨j, 0, none⟩ (.int .i64 d.seg)).setCell ⟨j, 1, none⟩ (.int .i64 d.used)).setCell ⟨j, 2, none⟩ (.int .i64 d.size)).setCell ⟨j, 3, none⟩ (.bool d.fixed)) k c :=
  (heap_setCell_other _ _ _ _ hne).trans ((heap_setCell_other _ _ _ _ hne).trans ((heap_setCell_other _ _ _ _ hne).trans ((heap_setCell_other _ _ _ _ hne).trans h)))
def ld0 : Ld := ⟨1, 3, 10, false⟩
def ld1 : Ld := ⟨2, 1, 4, false⟩
def ld2 : Ld := ⟨3, 2, 8, false⟩
def bestAt : Nat → Ld
  | 0 => ⟨0, 0, 0, false⟩
  | 1 => ld0
  | _ => ld1
set_option maxRecDepth 100000 in
set_option maxHeartbeats 4000000 in
theorem victim_kn (w : World) (k : Nat) (hk : w.heap[k]? = some (.cells row3 49 (0, 0))) : Calls Try.prog 34 #[.slice (some { block := k, off := 0 }) 3 3] w fun e w' => e = .returned (.tuple #[.agg #[.int .i64 2, .int .i64 1, .int .i64 4, .bool false], .bool true]) ∧ Below w.heap.size w w' := by
  have hklt : k < w.heap.size := by
    rcases Nat.lt_or_ge k w.heap.size with h1 | h1
    · exact h1
    · rw [Array.getElem?_eq_none h1] at hk; cases hk
  have hk2 : ∀ w', Below w.heap.size w w' → ∀ i, w'.cell? ⟨k, i, none⟩ = row3[i]? := fun w' hb i => cell_of_row w' k i _ _ (0, 0) ((hb.block k hklt).trans hk)
  have m0 := fun w1 => may_yes ld0 (by decide) rfl (by decide) w1
  have m1 := fun w1 => may_yes ld1 (by decide) rfl (by decide) w1
  have m2 := fun w1 => may_yes ld2 (by decide) rfl (by decide) w1
  have s1 := fun w1 => less_any ld1 ld0 w1
  rw [show lessB ld1 ld0 = true from by decide] at s1
  have s2 := fun w1 => less_any ld2 ld1 w1
  rw [show lessB ld2 ld1 = false from by decide] at s2
  have hb0 : Below w.heap.size w ((w.alloc (.cells (L4 (bestAt 0)) 49)).alloc (.cells (L4 (bestAt 0)) 49)) := ((Below.refl _ _).alloc (Nat.le_refl _) _).alloc (by simp) _
  have hx0 : LBox ((w.alloc (.cells (L4 (bestAt 0)) 49)).alloc (.cells (L4 (bestAt 0)) 49)) (w.heap.size + 1) (bestAt 0) := by
    have h := LBox.new (w.alloc (.cells (L4 (bestAt 0)) 49)) (bestAt 0)
    rw [World.size_alloc] at h
    exact h
  have hz0 : LBox ((w.alloc (.cells (L4 (bestAt 0)) 49)).alloc (.cells (L4 (bestAt 0)) 49)) w.heap.size (bestAt 0) :=
    (Below.heap_alloc _ _ _ (LBox.new w (bestAt 0)).lt).trans (LBox.new w (bestAt 0))
  have HZ := Lib.hid hz0
  have HK := Lib.hid hk2
  have M0 := Lib.hid m0
  have M1 := Lib.hid m1
  have M2 := Lib.hid m2
  have S1 := Lib.hid s1
  have S2 := Lib.hid s2
  have HX := Lib.hid hx0
  have HB := Lib.hid hb0
  clear hk2 m0 m1 m2 s1 s2 hx0 hz0 hb0 hk
  unfold Ld.val at M0 M1 M2 S1 S2
  go_enter Try.func34, Try.ntmps34
  go_wp2_with fail
  go_loopw [9] (fun i wr => ∃ n : Nat, n ≤ 3 ∧ i = .int .i64 n ∧ LBox wr (w.heap.size + 1) (bestAt n) ∧ LBox wr w.heap.size (bestAt 0) ∧ Below w.heap.size w wr) (fun i _ => 3 - (intOf i).toNat)
  case atStart => exact ⟨0, by omega, rfl, HX.out, HZ.out, HB.out⟩
  case round =>
    obtain ⟨n, hn, rfl, hx, hz, hB⟩ := hrel
    obtain ⟨b0, b1, b2, b3⟩ := hx.cells
    have hc := HK.out _ hB
    have hlt := hx.lt
    have hn4 : n = 0 ∨ n = 1 ∨ n = 2 ∨ n = 3 := by omega
    rcases hn4 with rfl | rfl | rfl | rfl
    · have r0 := hc 0
      have r1 := hc 1
      have r2 := hc 2
      have r3 := hc 3
      clear hc
      simp only [row3, bestAt, ld0, ld1, ld2] at r0 r1 r2 r3 b0 b1 b2 b3
      go_wp2_with fail
      have hax : LBox (wr.alloc (.cells (L4 ld0) 49)) wr.heap.size ld0 := LBox.new wr ld0
      have hbx : LBox (wr.alloc (.cells (L4 ld0) 49)) (w.heap.size + 1) (bestAt 0) := (Below.heap_alloc _ _ _ hx.lt).trans hx
      have hBx : Below w.heap.size w (wr.alloc (.cells (L4 ld0) 49)) := hB.alloc hB.size _
      refine (M0.out _).mono ?_
      rintro e w1 ⟨rfl, hb1⟩
      have hx1 : LBox w1 wr.heap.size ld0 := LBox.next hb1 hax
      have hy1 : LBox w1 (w.heap.size + 1) (bestAt 0) := LBox.next hb1 hbx
      have hz1 : LBox w1 w.heap.size (bestAt 0) := LBox.next hb1 ((Below.heap_alloc _ _ _ hz.lt).trans hz)
      have hB1 : Below w.heap.size w w1 := nextB hb1 hBx
      obtain ⟨p0, p1, p2, p3⟩ := hx1.cells
      obtain ⟨q0, q1, q2, q3⟩ := hy1.cells
      simp only [bestAt, ld0, ld1, ld2] at p0 p1 p2 p3 q0 q1 q2 q3
      have f0 := hy1.free 0
      have f1 := hy1.free 1
      have f2 := hy1.free 2
      have f3 := hy1.free 3
      go_wp2
      go_roundw
      case rel => exact ⟨1, by omega, rfl, hy1.set4 ld0, hz1.other4 (by omega) ld0, belowSet4 hB1 (by omega) ld0⟩
      case measure => simp [intOf]
    · have r0 := hc 4
      have r1 := hc 5
      have r2 := hc 6
      have r3 := hc 7
      clear hc
      simp only [row3, bestAt, ld0, ld1, ld2] at r0 r1 r2 r3 b0 b1 b2 b3
      go_wp2_with fail
      have hax : LBox (wr.alloc (.cells (L4 ld1) 49)) wr.heap.size ld1 := LBox.new wr ld1
      have hbx : LBox (wr.alloc (.cells (L4 ld1) 49)) (w.heap.size + 1) (bestAt 1) := (Below.heap_alloc _ _ _ hx.lt).trans hx
      have hBx : Below w.heap.size w (wr.alloc (.cells (L4 ld1) 49)) := hB.alloc hB.size _
      refine (M1.out _).mono ?_
      rintro e w1 ⟨rfl, hb1⟩
      have hx1 : LBox w1 wr.heap.size ld1 := LBox.next hb1 hax
      have hy1 : LBox w1 (w.heap.size + 1) (bestAt 1) := LBox.next hb1 hbx
      have hz1 : LBox w1 w.heap.size (bestAt 0) := LBox.next hb1 ((Below.heap_alloc _ _ _ hz.lt).trans hz)
      have hB1 : Below w.heap.size w w1 := nextB hb1 hBx
      obtain ⟨p0, p1, p2, p3⟩ := hx1.cells
      obtain ⟨q0, q1, q2, q3⟩ := hy1.cells
      simp only [bestAt, ld0, ld1, ld2] at p0 p1 p2 p3 q0 q1 q2 q3
      go_wp2_with fail
      refine (S1.out _).mono ?_
      rintro e w2 ⟨rfl, hb2⟩
      have hx2 : LBox w2 wr.heap.size ld1 := LBox.next hb2 hx1
      have hy2 : LBox w2 (w.heap.size + 1) (bestAt 1) := LBox.next hb2 hy1
      have hz2 : LBox w2 w.heap.size (bestAt 0) := LBox.next hb2 hz1
      have hB2 : Below w.heap.size w w2 := nextB hb2 hB1
      obtain ⟨g0, g1, g2, g3⟩ := hx2.cells
      obtain ⟨h0, h1, h2, h3⟩ := hy2.cells
      simp only [bestAt, ld0, ld1, ld2] at g0 g1 g2 g3 h0 h1 h2 h3
      have f0 := hy2.free 0
      have f1 := hy2.free 1
      have f2 := hy2.free 2
      have f3 := hy2.free 3
      go_wp2
      go_roundw
      case rel => exact ⟨2, by omega, rfl, hy2.set4 ld1, hz2.other4 (by omega) ld1, belowSet4 hB2 (by omega) ld1⟩
      case measure => simp [intOf]
    · have r0 := hc 8
      have r1 := hc 9
      have r2 := hc 10
      have r3 := hc 11
      clear hc
      simp only [row3, bestAt, ld0, ld1, ld2] at r0 r1 r2 r3 b0 b1 b2 b3
      go_wp2_with fail
      have hax : LBox (wr.alloc (.cells (L4 ld2) 49)) wr.heap.size ld2 := LBox.new wr ld2
      have hbx : LBox (wr.alloc (.cells (L4 ld2) 49)) (w.heap.size + 1) (bestAt 2) := (Below.heap_alloc _ _ _ hx.lt).trans hx
      have hBx : Below w.heap.size w (wr.alloc (.cells (L4 ld2) 49)) := hB.alloc hB.size _
      refine (M2.out _).mono ?_
      rintro e w1 ⟨rfl, hb1⟩
      have hx1 : LBox w1 wr.heap.size ld2 := LBox.next hb1 hax
      have hy1 : LBox w1 (w.heap.size + 1) (bestAt 2) := LBox.next hb1 hbx
      have hz1 : LBox w1 w.heap.size (bestAt 0) := LBox.next hb1 ((Below.heap_alloc _ _ _ hz.lt).trans hz)
      have hB1 : Below w.heap.size w w1 := nextB hb1 hBx
      obtain ⟨p0, p1, p2, p3⟩ := hx1.cells
      obtain ⟨q0, q1, q2, q3⟩ := hy1.cells
      simp only [bestAt, ld0, ld1, ld2] at p0 p1 p2 p3 q0 q1 q2 q3
      go_wp2_with fail
      refine (S2.out _).mono ?_
      rintro e w2 ⟨rfl, hb2⟩
      have hx2 : LBox w2 wr.heap.size ld2 := LBox.next hb2 hx1
      have hy2 : LBox w2 (w.heap.size + 1) (bestAt 2) := LBox.next hb2 hy1
      have hz2 : LBox w2 w.heap.size (bestAt 0) := LBox.next hb2 hz1
      have hB2 : Below w.heap.size w w2 := nextB hb2 hB1
      obtain ⟨g0, g1, g2, g3⟩ := hx2.cells
      obtain ⟨h0, h1, h2, h3⟩ := hy2.cells
      simp only [bestAt, ld0, ld1, ld2] at g0 g1 g2 g3 h0 h1 h2 h3
      go_wp2
      go_roundw
      case rel => exact ⟨3, by omega, rfl, hy2, hz2, hB2⟩
      case measure => simp [intOf]
    · clear hc
      obtain ⟨z0, z1, z2, z3⟩ := hz.cells
      have f0 := hz.free 0
      have f1 := hz.free 1
      have f2 := hz.free 2
      have f3 := hz.free 3
      simp only [bestAt, ld0, ld1, ld2] at b0 b1 b2 b3 z0 z1 z2 z3
      go_wp2
      first
        | go_region_with (fail)
        | fail
      all_goals go_wp2
      all_goals (try simp only [Exit.inBlock, Exit.then])
      all_goals have hr := (hz.set4 ld1).cells
      all_goals simp only [ld1] at hr
      all_goals obtain ⟨y0, y1, y2, y3⟩ := hr
      all_goals refine bodyPost_ret (by simp [results, Try.results34, go_sem, y0, y1, y2, y3]; try rfl) rfl ?_
      all_goals first
        | exact ⟨rfl, belowSet4 hB (Nat.le_refl _) ld1⟩
        | exact ⟨rfl, belowN (belowSet4 hB (Nat.le_refl _) ld1) _⟩
set_option maxRecDepth 100000 in
set_option maxHeartbeats 4000000 in
theorem kclean_any (w : World) : Calls Try.prog 32 #[] w fun e w' => e = .returned (.bool true) ∧ Below w.heap.size w w' := by
  have hv := victim_kn (w.alloc (.cells row3 49)) w.heap.size (heap_alloc_new w _)
  have hb0 : Below w.heap.size w (w.alloc (.cells row3 49)) := (Below.refl _ _).alloc (Nat.le_refl _) _
  unfold row3 at hv hb0
  have HV := Lib.hid hv
  clear hv
  go_enter Try.func32, Try.ntmps32
  go_wp2_with fail
  refine HV.out.mono ?_
  rintro e w1 ⟨rfl, hb1⟩
  have hB1 : Below w.heap.size w w1 := nextB hb1 hb0
  go_wp2
  go_ret
  first
    | exact ⟨rfl, hB1⟩
    | exact ⟨rfl, hB1.alloc hB1.size _⟩
    | exact ⟨rfl, belowN (hB1.alloc hB1.size _) _⟩
end Go.Proofs.Ytlbodandidopfaa
