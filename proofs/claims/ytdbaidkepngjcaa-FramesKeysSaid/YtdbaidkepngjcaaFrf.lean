/- The pool of frames: Take. Conditions: none. -/
import Derived.Test.YtdbaidkepngjcaaFre
namespace Go.Proofs.Ytdbaidkepngjcaa
open Go.ChangeShapes Go.WideShapes Go.ChangeAt Go.RowKit Go.Maps
set_option linter.unusedSimpArgs false
set_option linter.unusedVariables false
/-- the result that lies in a cell -/
def OutIs (ob : Nat) (x : Fr) (w : World) : Prop := w.heap[ob]? = some (.cells (frL x).toArray 38 (0, 0))
theorem OutIs.lt {ob : Nat} {x : Fr} {w : World} (h : OutIs ob x w) : ob < w.heap.size := by
  rcases Nat.lt_or_ge ob w.heap.size with h5 | h5
  · exact h5
  · unfold OutIs at h; rw [Array.getElem?_eq_none h5] at h; cases h
def outAgain (w : World) (ob : Nat) (x : Fr) : World := ((((w.setCell ⟨ob, 0, none⟩ (.int .i64 x.key)).setCell ⟨ob, 1, none⟩ (.bool x.used)).setCell ⟨ob, 2, none⟩ (.bool x.ref)).setCell ⟨ob, 3, none⟩ (.bool x.dirty)).setCell ⟨ob, 4, none⟩ (.int .i64 (x.pins : Nat))
theorem OutIs.put {ob : Nat} {y x : Fr} {w : World} (h : OutIs ob y w) : OutIs ob x (outAgain w ob x) ∧ Frm (fun j => j = ob) w (outAgain w ob x) := by
  have hF : ∀ (a b : World) (j : Nat) (v : Value), Frm (fun j => j = ob) a b → Frm (fun j => j = ob) a (b.setCell ⟨ob, j, none⟩ v) := fun a b j v hf => hf.setCell ob j (Or.inl rfl) v
  refine ⟨?_, hF _ _ _ _ (hF _ _ _ _ (hF _ _ _ _ (hF _ _ _ _ (hF _ _ _ _ (Frm.refl _ w)))))⟩
  have h0 := heap_setCell_same w ob 0 _ _ (.int .i64 x.key) h
  have h1 := heap_setCell_same _ ob 1 _ _ (.bool x.used) h0
  have h2 := heap_setCell_same _ ob 2 _ _ (.bool x.ref) h1
  have h3 := heap_setCell_same _ ob 3 _ _ (.bool x.dirty) h2
  exact heap_setCell_same _ ob 4 _ _ (.int .i64 (x.pins : Nat)) h3
theorem OutIs.cells {ob : Nat} {x : Fr} {w : World} (h : OutIs ob x w) : w.cell? ⟨ob, 0, none⟩ = some (.int .i64 x.key) ∧ w.cell? ⟨ob, 1, none⟩ = some (.bool x.used) ∧ w.cell? ⟨ob, 2, none⟩ = some (.bool x.ref) ∧ w.cell? ⟨ob, 3, none⟩ = some (.bool x.dirty) ∧ w.cell? ⟨ob, 4, none⟩ = some (.int .i64 (x.pins : Nat)) ∧ w.frozen? ⟨ob, 0, none⟩ = false ∧ w.frozen? ⟨ob, 1, none⟩ = false ∧ w.frozen? ⟨ob, 2, none⟩ = false ∧ w.frozen? ⟨ob, 3, none⟩ = false ∧ w.frozen? ⟨ob, 4, none⟩ = false :=
  ⟨cell_of_row w ob 0 _ _ _ h, cell_of_row w ob 1 _ _ _ h, cell_of_row w ob 2 _ _ _ h, cell_of_row w ob 3 _ _ _ h, cell_of_row w ob 4 _ _ _ h, frozen_of_row w ob 0 _ _ h, frozen_of_row w ob 1 _ _ h, frozen_of_row w ob 2 _ _ h, frozen_of_row w ob 3 _ _ h, frozen_of_row w ob 4 _ _ h⟩
theorem OutIs.again {ob : Nat} {x : Fr} {w : World} (h : OutIs ob x w) : OutIs ob x (outAgain w ob x) ∧ Frm (fun j => j = ob) w (outAgain w ob x) := h.put
theorem PBox.foreign {O : Nat → Prop} {w w' : World} {pb lb mb m : Nat} {p : Pl} (h : PBox w pb lb mb m p) (hf : Frm O w w') (h1 : ¬ O pb) (h2 : ¬ O lb) (h3 : ¬ O mb) : PBox w' pb lb mb m p := by
  obtain ⟨l1, l2, l3⟩ := h.lt
  obtain ⟨W, hM, hW⟩ := h.map
  exact ⟨(hf.block pb l1 h1).trans h.cells, own_keep h.row (fun g hg => by injection hg with hg; subst hg; exact hf.block _ l2 h2), ⟨W, hM.keep (hf.block mb l3 h3), hW⟩, h.ne, h.ok⟩
/-- the pool behind a frame's having got another key -/
theorem PBox.given {w3 w4 : World} {pb lb mb m : Nat} {p p' : Pl} {W' : Int → Option Nat} {i : Nat} {x' : Fr} (hi : i < p.L.length) (hL : p'.L = p.L.set i x')
    (hC : w3.heap[pb]? = some (.cells #[.slice (some ⟨lb, 0, none⟩) p.L.length p.L.length, .map (some mb), .int .i64 (p'.hand : Nat), .int .i64 (p'.low : Nat)] 55 (0, 0))) (hR : w3.ownsRow 0 38 5 (.slice (some ⟨lb, 0, none⟩) p.L.length p.L.length) p.L.length (fcells p'.L))
    (hF : Frm (fun j => j = mb) w3 w4) (hM : MBox w4 mb m W' (usedN p'.L)) (hW : Wok p'.L W') (hne : pb ≠ lb ∧ pb ≠ mb ∧ lb ≠ mb) (hok : PShape p') (hp : pb < w3.heap.size) : PBox w4 pb lb mb m p' := by
  have hl : p'.L.length = p.L.length := by rw [hL, List.length_set]
  have hlb := own_lt hR rfl
  refine ⟨?_, ?_, ⟨W', hM, hW⟩, hne, hok⟩
  · rw [hl]
    exact (hF.block pb hp hne.2.1).trans hC
  · rw [hl]
    exact own_keep hR (fun g hg => by injection hg with hg; subst hg; exact hF.block _ hlb hne.2.2)
section
variable (pb lb mb m : Nat) (hm : m < 1000000) (p : Pl) (w : World) (h : PBox w pb lb mb m p) (W : Int → Option Nat) (hM : MBox w mb m W (usedN p.L)) (hW : Wok p.L W) (k : Int) (hk : (Lit.int .i64 k).wf = true)
include h hM hW hk
omit hW in
set_option maxRecDepth 100000 in
set_option maxHeartbeats 2000000 in
theorem take_used (i : Nat) (hi : W k = some i) : Calls Try.prog 12 #[.pointer (some ⟨pb, 0, none⟩), .int .i64 k] w fun e w' => e = .returned (.tuple #[.int .i64 0, frV Fr.zero, .bool false, .int .i64 3]) ∧ Frm (fun _ => False) w w' := by
  have hf1 : Frm (fun _ => False) w (w.alloc (.cells #[.int .i64 0, .bool false, .bool false, .bool false, .int .i64 0] 38)) := (Frm.refl (fun _ => False) w).alloc _
  have h1 := h.next hf1
  have hM1 := hM.keep (hf1.block mb h.lt.2.2 id)
  obtain ⟨c0, c1, c2, c3, fr⟩ := h1.at
  have hl := hM1.look k hk
  rw [hi] at hl
  have hl : (Instr.lookup 53 (.map (some mb)) (.agg #[.int .i64 k]) true).run Try.prog (w.alloc (.cells #[.int .i64 0, .bool false, .bool false, .bool false, .int .i64 0] 38)) = .ok (.tuple #[.int .i64 (i : Nat), .bool true]) (w.alloc (.cells #[.int .i64 0, .bool false, .bool false, .bool false, .int .i64 0] 38)) := hl
  have hx1 : OutIs w.heap.size Fr.zero (w.alloc (.cells #[.int .i64 0, .bool false, .bool false, .bool false, .int .i64 0] 38)) := heap_alloc_new w (.cells #[.int .i64 0, .bool false, .bool false, .bool false, .int .i64 0] 38)
  have HF := Lib.hid hf1
  have HX := Lib.hid hx1
  clear h hM hM1 h1 c0 c2 c3 fr hf1 hx1 hi
  go_enter Try.func12, Try.ntmps12
  go_wp2
  refine bodyPost_ret (v := .tuple #[.int .i64 0, frV Fr.zero, .bool false, .int .i64 3]) ?_ rfl ⟨rfl, HF.out⟩
  have hr := run_loadVar_row (P := Try.prog) (w.alloc (.cells #[.int .i64 0, .bool false, .bool false, .bool false, .int .i64 0] 38)) w.heap.size 38 38 (frL Fr.zero).toArray (0, 0) _ HX.out Try.underlying38 rfl (by kernel_rfl)
  simp [results, Try.f12, asAddr, hr, frV, frL, Fr.zero]
include hm
set_option maxRecDepth 100000 in
set_option maxHeartbeats 4000000 in
theorem take_new (hi : W k = none) (hu : usedN p.L ≠ p.L.length) : Calls Try.prog 12 #[.pointer (some ⟨pb, 0, none⟩), .int .i64 k] w fun e w' => ∃ i : Nat, e = .returned (.tuple #[.int .i64 (i : Nat), frV Fr.zero, .bool false, .int .i64 0]) ∧ (∃ x, p.L[i]? = some x ∧ x.used = false) ∧ PBox w' pb lb mb (m + 1) { p with L := p.L.set i ⟨k, true, true, false, 0⟩, low := i } ∧ Frm (Own pb lb mb) w w' := by
  have hf1 : Frm (fun _ => False) w (w.alloc (.cells #[.int .i64 0, .bool false, .bool false, .bool false, .int .i64 0] 38)) := (Frm.refl (fun _ => False) w).alloc _
  have h1 := h.next hf1
  have hM1 := hM.keep (hf1.block mb h.lt.2.2 id)
  obtain ⟨c0, c1, c2, c3, fr⟩ := h1.at
  have hl := hM1.look k hk
  rw [hi] at hl
  have hl : (Instr.lookup 53 (.map (some mb)) (.agg #[.int .i64 k]) true).run Try.prog (w.alloc (.cells #[.int .i64 0, .bool false, .bool false, .bool false, .int .i64 0] 38)) = .ok (.tuple #[.int .i64 ((0 : Nat) : Int), .bool false]) (w.alloc (.cells #[.int .i64 0, .bool false, .bool false, .bool false, .int .i64 0] 38)) := hl
  have hx1 : OutIs w.heap.size Fr.zero (w.alloc (.cells #[.int .i64 0, .bool false, .bool false, .bool false, .int .i64 0] 38)) := heap_alloc_new w (.cells #[.int .i64 0, .bool false, .bool false, .bool false, .int .i64 0] 38)
  have HU := Lib.hid (unused_some pb lb mb m p _ h1 hu)
  have HF := Lib.hid hf1
  have HX := Lib.hid hx1
  have HM1 := Lib.hid hM1
  have HWK := Lib.hid hW
  have HI := Lib.hid hi
  have hlt := h.lt
  have hne := h.ne
  clear h hM hW hM1 h1 c0 c2 c3 fr hf1 hx1 hi
  go_enter Try.func12, Try.ntmps12
  go_wp2_with fail
  refine HU.out.mono ?_
  rintro e w2 ⟨i, rfl, ⟨x, hx, hxu⟩, hP2, hF2⟩
  clear hl c1
  have hin : i < p.L.length := (List.getElem?_eq_some_iff.1 hx).1
  have hie : (((i : Nat) : Int) == ((p.L.length : Nat) : Int)) = false := by rw [beq_eq_false_iff_ne]; omega
  obtain ⟨c0, c1, c2, c3, fr⟩ := hP2.at
  obtain ⟨x0, x1, x2, x3, x4⟩ := hP2.fr hin
  have g0 := hP2.frozen (i * 5)
  have g1 := hP2.frozen (i * 5 + 1)
  have g2 := hP2.frozen (i * 5 + 2)
  have g3 := hP2.frozen (i * 5 + 3)
  have g4 := hP2.frozen (i * 5 + 4)
  have hM2 := HM1.out.keep (hF2.block mb (by have := HF.out.size; omega) (fun e => hne.2.1 e.symm))
  have hO2 : OutIs w.heap.size Fr.zero w2 := (hF2.block _ (OutIs.lt HX.out) (by show w.heap.size ≠ pb; omega)).trans HX.out
  have HP2 := Lib.hid hP2
  have HF2 := Lib.hid hF2
  have HM2 := Lib.hid hM2
  have HO2 := Lib.hid hO2
  clear hP2 hF2 c2 c3 fr hM2 hO2
  go_upto_region 15 with (fail)
  have hE3 : ((((w2.setCell ⟨lb, i * 5, none⟩ (.int .i64 k)).setCell ⟨lb, i * 5 + 1, none⟩ (.bool true)).setCell ⟨lb, i * 5 + 2, none⟩ (.bool true)).setCell ⟨lb, i * 5 + 3, none⟩ (.bool false)).setCell ⟨lb, i * 5 + 4, none⟩ (.int .i64 0) = put5 w2 lb i ⟨k, true, true, false, 0⟩ := rfl
  rw [hE3]
  obtain ⟨hR3, hF3⟩ := HP2.out.put5 i hin ⟨k, true, true, false, 0⟩
  generalize put5 w2 lb i ⟨k, true, true, false, 0⟩ = w3 at hR3 hF3 ⊢
  have hl2 := HP2.out.lt
  have HC3 := Lib.hid ((hF3.block pb hl2.1 hne.1).trans HP2.out.cells)
  have HM3 := Lib.hid (HM2.out.keep (hF3.block mb hl2.2.2 (fun e => hne.2.2 e.symm)))
  have HN3 := Lib.hid HI.out
  have HO3 := Lib.hid (show OutIs w.heap.size ⟨0, false, false, false, 0⟩ w3 from (hF3.block _ (OutIs.lt HO2.out) (by show w.heap.size ≠ lb; omega)).trans HO2.out)
  have HR3 := Lib.hid hR3
  have HF3 := Lib.hid hF3
  clear hR3 hF3 hE3 x0 x1 x2 x3 x4 g0 g1 g2 g3 g4 c0 c1
  obtain ⟨w4, hrun4, hM4, hT4⟩ := HM3.out.store hm k hk HN3.out i
  unfold keyV at hrun4
  have hF4 : Frm (fun j => j = mb) w3 w4 := Frm.of_grown hT4.grown
  have HM4 := Lib.hid hM4
  have HF4 := Lib.hid hF4
  have c31 := cell_of_row w3 pb 1 _ _ _ HC3.out
  clear hM4 hT4
  go_upto_region 16 with (fail)
  have hO4 : OutIs w.heap.size ⟨0, false, false, false, 0⟩ w4 := (hF4.block _ (OutIs.lt HO3.out) (by show w.heap.size ≠ mb; omega)).trans HO3.out
  have HO4 := Lib.hid hO4
  refine region_ord (fun w2 => OutIs w.heap.size ⟨0, false, false, false, 0⟩ w2 ∧ Frm (fun j => j = w.heap.size) w4 w2) [false, false, false, false, true, false, false] (by kernel_rfl) (by kernel_rfl) (by kernel_rfl) ⟨hO4, (Frm.refl _ w4).drew⟩ ?_
  (refine ord_val (by rfl) (by intro w hi; clear hi; go_simp; with_reducible rfl) (fun K hK => ?_); go_simp; refine hK _ ?_; clear hK K)
  (refine ord_val (by rfl) (by intro wz hi; obtain ⟨z0, z1, z2, z3, z4, _⟩ := OutIs.cells hi.1; (try dsimp only at z0 z1 z2 z3 z4); clear hi; go_simp; with_reducible rfl) (fun K hK => ?_); go_simp; refine hK _ ?_; clear hK K)
  iterate 2 (refine ord_val (by rfl) (by intro w hi; clear hi; go_simp; with_reducible rfl) (fun K hK => ?_); go_simp; refine hK _ ?_; clear hK K)
  obtain ⟨o0, o1, o2, o3, o4, p0, p1, p2, p3, p4⟩ := OutIs.cells (show OutIs w.heap.size ⟨0, false, false, false, 0⟩ w4 from HO4.out)
  try dsimp only at o0 o1 o2 o3 o4
  refine ord_eff (by rfl) (fun K hK => ?_)
  refine gets_sem ?_
  go_simp
  have hO5 : OutIs w.heap.size ⟨0, false, false, false, 0⟩ (outAgain w4 w.heap.size ⟨0, false, false, false, 0⟩).drew ∧ Frm (fun j => j = w.heap.size) w4 (outAgain w4 w.heap.size ⟨0, false, false, false, 0⟩).drew := ⟨(OutIs.again (show OutIs w.heap.size ⟨0, false, false, false, 0⟩ w4 from HO4.out)).1, (OutIs.again (show OutIs w.heap.size ⟨0, false, false, false, 0⟩ w4 from HO4.out)).2.trans ((Frm.refl _ _).drew)⟩
  have hE5 : (((((w4.setCell ⟨w.heap.size, 0, none⟩ (.int .i64 0)).setCell ⟨w.heap.size, 1, none⟩ (.bool false)).setCell ⟨w.heap.size, 2, none⟩ (.bool false)).setCell ⟨w.heap.size, 3, none⟩ (.bool false)).setCell ⟨w.heap.size, 4, none⟩ (.int .i64 0)).drew = (outAgain w4 w.heap.size ⟨0, false, false, false, 0⟩).drew := rfl
  rw [hE5]
  generalize (outAgain w4 w.heap.size ⟨0, false, false, false, 0⟩).drew = w5 at hO5 ⊢
  refine ⟨hO5, hK _ _ ?_⟩
  clear hE5 hK K o0 o1 o2 o3 o4 p0 p1 p2 p3 p4
  have HO5 := Lib.hid hO5
  clear hO5 hO4
  iterate 2 (refine ord_val (by rfl) (by intro w hi; clear hi; go_simp; with_reducible rfl) (fun K hK => ?_); go_simp; refine hK _ ?_; clear hK K)
  refine ord_nil ?_
  go_wp2
  refine bodyPost_ret (v := .tuple #[.int .i64 (i : Nat), frV (⟨0, false, false, false, 0⟩ : Fr), .bool false, .int .i64 0]) ?_ rfl ?_
  · have hr := run_loadVar_row (P := Try.prog) w5 w.heap.size 38 38 (frL (⟨0, false, false, false, 0⟩ : Fr)).toArray (0, 0) _ HO5.out.1 Try.underlying38 rfl (by kernel_rfl)
    simp [results, Try.f12, asAddr, hr, frV, frL]
  have hgi : p.L[i] = x := by
    rw [List.getElem?_eq_getElem hin] at hx
    injection hx
  have hl3 : pb < w3.heap.size := by have := HF3.out.size; omega
  have hsz : w.heap.size ≤ w4.heap.size := by have := HF.out.size; have := HF2.out.size; have := HF3.out.size; have := HF4.out.size; omega
  refine ⟨i, rfl, ⟨x, hx, hxu⟩, ?_, ?_⟩
  · have hus : usedN (p.L.set i ⟨k, true, true, false, 0⟩) = usedN p.L + 1 := by
      have := usedN_put p.L i hin ⟨k, true, true, false, 0⟩
      rw [hgi, hxu] at this
      simpa using this
    have hM4 := HM4.out
    rw [← hus] at hM4
    have hPG : PBox w4 pb lb mb (m + 1) { p with L := p.L.set i ⟨k, true, true, false, 0⟩, low := i } := PBox.given (p := p) hin rfl HC3.out HR3.out HF4.out hM4 (Wok.fresh HWK.out i hin ⟨k, true, true, false, 0⟩ (by rw [hgi]; exact hxu) rfl HI.out) hne ⟨by show 1 ≤ (p.L.set i _).length ∧ _; rw [List.length_set]; exact HP2.out.ok.n, by show p.hand < (p.L.set i _).length; rw [List.length_set]; exact HP2.out.ok.hand, ⟨by show i ≤ (p.L.set i _).length; rw [List.length_set]; omega, fun a ha => by
        have ha : a < i := ha
        obtain ⟨y, hy1, hy2⟩ := HP2.out.ok.low.2 a ha
        refine ⟨y, ?_, hy2⟩
        show (p.L.set i _)[a]? = _
        rw [List.getElem?_set, if_neg (by omega)]
        exact hy1⟩, fun y hy => by
        rcases List.mem_or_eq_of_mem_set hy with h6 | h6
        · exact HP2.out.ok.num y h6
        · subst h6
          exact ⟨hk, by show (0 : Nat) ≤ 1048576; omega⟩⟩ hl3
    exact hPG.foreign HO5.out.2 (by omega) (by omega) (by omega)
  · exact (((((HF.out.mono (fun j _ e => e.elim)).trans (HF2.out.mono (fun j _ e => Or.inl e))).trans (HF3.out.mono (fun j _ e => Or.inr (Or.inl e)))).trans (HF4.out.mono (fun j _ e => Or.inr (Or.inr e))) : Frm (Own pb lb mb) w w4)).sub HO5.out.2 (fun j e => Or.inr (Nat.le_of_eq e.symm))
end
/-- what Take does when all frames are used -/
def TakeAll (pb lb mb m : Nat) (p : Pl) (k : Int) (w : World) (e : Ending) (w' : World) : Prop :=
  ((∃ (q : Nat) (x : Fr), q < 2 * p.L.length ∧ cand p q = true ∧ (∀ r, r < q → cand p r = false) ∧ p.L[(p.hand + q) % p.L.length]? = some x ∧ e = .returned (.tuple #[.int .i64 (((p.hand + q) % p.L.length : Nat) : Int), frV (clr x), .bool true, .int .i64 0]) ∧ PBox w' pb lb mb (m + 1) { p with L := (passL p.L p.hand (q + 1)).set ((p.hand + q) % p.L.length) ⟨k, true, true, false, 0⟩, hand := (p.hand + q + 1) % p.L.length }) ∨
    ((∀ r, r < 2 * p.L.length → cand p r = false) ∧ e = .returned (.tuple #[.int .i64 0, frV Fr.zero, .bool false, .int .i64 10]) ∧ PBox w' pb lb mb m p)) ∧ Frm (Own pb lb mb) w w'
theorem row_fr {w : World} {lb n : Nat} {L : List Fr} (h : w.ownsRow 0 38 5 (.slice (some ⟨lb, 0, none⟩) n n) n (fcells L)) (hn : L.length = n) {i : Nat} (hi : i < L.length) : w.cell? ⟨lb, i * 5, none⟩ = some (.int .i64 L[i].key) ∧ w.cell? ⟨lb, i * 5 + 1, none⟩ = some (.bool L[i].used) ∧ w.cell? ⟨lb, i * 5 + 2, none⟩ = some (.bool L[i].ref) ∧ w.cell? ⟨lb, i * 5 + 3, none⟩ = some (.bool L[i].dirty) ∧ w.cell? ⟨lb, i * 5 + 4, none⟩ = some (.int .i64 (L[i].pins : Nat)) ∧ ∀ j, w.frozen? ⟨lb, j, none⟩ = false := by
  refine ⟨?_, ?_, ?_, ?_, ?_, fun j => h.frozenAt j⟩
  · have := h.cellAt (i * 5 + 0) (by omega)
    exact this.trans (fcells_get L i 0 hi (by omega))
  · exact (h.cellAt (i * 5 + 1) (by omega)).trans (fcells_get L i 1 hi (by omega))
  · exact (h.cellAt (i * 5 + 2) (by omega)).trans (fcells_get L i 2 hi (by omega))
  · exact (h.cellAt (i * 5 + 3) (by omega)).trans (fcells_get L i 3 hi (by omega))
  · exact (h.cellAt (i * 5 + 4) (by omega)).trans (fcells_get L i 4 hi (by omega))
theorem row_put5 {w : World} {lb n : Nat} {L : List Fr} (h : w.ownsRow 0 38 5 (.slice (some ⟨lb, 0, none⟩) n n) n (fcells L)) (i : Nat) (hi : i < L.length) (x : Fr) : (put5 w lb i x).ownsRow 0 38 5 (.slice (some ⟨lb, 0, none⟩) n n) n (fcells (L.set i x)) ∧ Frm (fun j => j = lb) w (put5 w lb i x) := by
  have hF : ∀ (a b : World) (j : Nat) (v : Value), Frm (fun j => j = lb) a b → Frm (fun j => j = lb) a (b.setCell ⟨lb, j, none⟩ v) := fun a b j v hf => hf.setCell lb j (Or.inl rfl) v
  refine ⟨?_, hF _ _ _ _ (hF _ _ _ _ (hF _ _ _ _ (hF _ _ _ _ (hF _ _ _ _ (Frm.refl _ w)))))⟩
  have h5 := ((((h.stored (i * 5) (.int .i64 x.key)).1.stored (i * 5 + 1) (.bool x.used)).1.stored (i * 5 + 2) (.bool x.ref)).1.stored (i * 5 + 3) (.bool x.dirty)).1.stored (i * 5 + 4) (.int .i64 (x.pins : Nat))
  have h6 := h5.1
  rw [fcells_set5 L i hi x] at h6
  exact h6
theorem clr_facts (x : Fr) : (clr x).used = x.used ∧ (clr x).key = x.key ∧ (clr x).pins = x.pins ∧ (clr x).dirty = x.dirty := by
  unfold clr
  split <;> exact ⟨rfl, rfl, rfl, rfl⟩
theorem passL_at {L : List Fr} {h q i : Nat} {y : Fr} (hy : (passL L h q)[i]? = some y) : ∃ x, L[i]? = some x ∧ (y = x ∨ y = clr x) := by
  have hi : i < L.length := by have := (List.getElem?_eq_some_iff.1 hy).1; rw [passL_length] at this; exact this
  refine ⟨L[i], List.getElem?_eq_getElem hi, ?_⟩
  have := passL_get L h i L[i] (List.getElem?_eq_getElem hi) q
  rw [this] at hy
  injection hy with hy
  subst hy
  split
  · exact Or.inr rfl
  · exact Or.inl rfl
set_option maxRecDepth 100000 in
set_option maxHeartbeats 8000000 in
theorem take_all (pb lb mb m : Nat) (hm : m < 1000000) (p : Pl) (w : World) (h : PBox w pb lb mb m p) (W : Int → Option Nat) (hM : MBox w mb m W (usedN p.L)) (hW : Wok p.L W) (k : Int) (hk : (Lit.int .i64 k).wf = true) (hi : W k = none) (hu : usedN p.L = p.L.length) : Calls Try.prog 12 #[.pointer (some ⟨pb, 0, none⟩), .int .i64 k] w (TakeAll pb lb mb m p k w) := by
  have hf1 : Frm (fun _ => False) w (w.alloc (.cells #[.int .i64 0, .bool false, .bool false, .bool false, .int .i64 0] 38)) := (Frm.refl (fun _ => False) w).alloc _
  have h1 := h.next hf1
  have hM1 := hM.keep (hf1.block mb h.lt.2.2 id)
  obtain ⟨c0, c1, c2, c3, fr⟩ := h1.at
  have hl := hM1.look k hk
  rw [hi] at hl
  have hl : (Instr.lookup 53 (.map (some mb)) (.agg #[.int .i64 k]) true).run Try.prog (w.alloc (.cells #[.int .i64 0, .bool false, .bool false, .bool false, .int .i64 0] 38)) = .ok (.tuple #[.int .i64 ((0 : Nat) : Int), .bool false]) (w.alloc (.cells #[.int .i64 0, .bool false, .bool false, .bool false, .int .i64 0] 38)) := hl
  have hx1 : OutIs w.heap.size ⟨0, false, false, false, 0⟩ (w.alloc (.cells #[.int .i64 0, .bool false, .bool false, .bool false, .int .i64 0] 38)) := heap_alloc_new w (.cells #[.int .i64 0, .bool false, .bool false, .bool false, .int .i64 0] 38)
  have HU := Lib.hid (unused_full pb lb mb m p _ h1 hu)
  have H1 := Lib.hid h1
  have HF := Lib.hid hf1
  have HX := Lib.hid hx1
  have HWK := Lib.hid hW
  have HI := Lib.hid hi
  have hlt := h.lt
  have hne := h.ne
  have hnn := h.ok.n
  clear h hM hW hM1 h1 c0 c2 c3 fr hf1 hx1 hi
  go_enter Try.func12, Try.ntmps12
  go_wp2_with fail
  refine HU.out.mono ?_
  rintro e w2 ⟨rfl, k2, hk2⟩
  clear hl c1
  have hF2 : Frm (fun _ => False) (w.alloc (.cells #[.int .i64 0, .bool false, .bool false, .bool false, .int .i64 0] 38)) w2 := by rw [hk2]; exact Frm.drewN _ _
  have HP2 := Lib.hid (H1.out.next hF2)
  have HF2 := Lib.hid (HF.out.trans hF2)
  have HO2 := Lib.hid (show OutIs w.heap.size ⟨0, false, false, false, 0⟩ w2 from (hF2.block _ (OutIs.lt HX.out) id).trans HX.out)
  clear hk2 hF2
  obtain ⟨c0, _⟩ := HP2.out.at
  have HS := Lib.hid (search_any pb lb mb m p w2 HP2.out)
  go_wp2_with fail
  clear c0
  refine HS.out.mono ?_
  rintro e w3 ⟨⟨q, hq, hcd, hno, rfl⟩ | ⟨hall, rfl⟩, hF3⟩
  · obtain ⟨n, hn⟩ : ∃ n, p.L.length = n := ⟨_, rfl⟩
    obtain ⟨i, hic⟩ : ∃ c, (p.hand + q) % n = c := ⟨_, rfl⟩
    have hin : i < n := by rw [← hic]; exact Nat.mod_lt _ (by omega)
    have hP3 := HP2.out.next hF3
    have HO3p := Lib.hid (show OutIs w.heap.size ⟨0, false, false, false, 0⟩ w3 from (hF3.block _ (OutIs.lt HO2.out) id).trans HO2.out)
    have HF3p := Lib.hid (HF2.out.trans hF3)
    have HPA := Lib.hid (pass_any pb lb mb m p w3 hP3 q hq)
    have HCD := Lib.hid hcd
    have HNO := Lib.hid hno
    have HIC := Lib.hid hic
    have HN := Lib.hid hn
    rw [hn, hic]
    clear hP3 hF3 hcd hno hic
    go_wp2_with fail
    refine HPA.out.mono ?_
    rintro e w4 ⟨rfl, hP4, hF4⟩
    have hpl : (passL p.L p.hand (q + 1)).length = n := by rw [passL_length]; exact HN.out
    have hip : i < (passL p.L p.hand (q + 1)).length := by rw [hpl]; exact hin
    obtain ⟨y, hy⟩ : ∃ y, (passL p.L p.hand (q + 1))[i] = y := ⟨_, rfl⟩
    have hye : (passL p.L p.hand (q + 1))[i]? = some y := by rw [← hy]; exact List.getElem?_eq_getElem hip
    have hiL : i < p.L.length := by rw [HN.out]; exact hin
    have hxe : p.L[i]? = some p.L[i] := List.getElem?_eq_getElem hiL
    have hyx : y = clr p.L[i] := by
      have := passL_get p.L p.hand i p.L[i] hxe (q + 1)
      rw [if_pos ⟨q, by omega, by rw [HN.out]; exact HIC.out⟩, hye] at this
      injection this
    have hyu : y.used = true := by
      have h1 := HCD.out
      unfold cand at h1
      rw [HN.out, HIC.out, hxe] at h1
      simp only [Bool.and_eq_true] at h1
      rw [hyx, (clr_facts p.L[i]).1]
      exact h1.1.1
    obtain ⟨c0, c1, c2, c3, fr⟩ := hP4.at
    rw [show ({ p with L := passL p.L p.hand (q + 1), hand := (p.hand + q + 1) % p.L.length } : Pl).L.length = n from hpl] at c0
    obtain ⟨x0, x1, x2, x3, x4⟩ := hP4.fr (i := i) hip
    rw [show ({ p with L := passL p.L p.hand (q + 1), hand := (p.hand + q + 1) % p.L.length } : Pl).L[i] = y from hy] at x0 x1 x2 x3 x4
    have hwy := (hP4.ok.num y (by rw [← hy]; exact List.getElem_mem hip)).1
    obtain ⟨W4, hM4, hW4⟩ := hP4.map
    have hiy : (W4 y.key).isSome = true := by
      rw [(hW4 y.key i).2 ⟨y, hye, hyu, rfl⟩]; rfl
    have hNk : W4 k = none := by
      cases hc : W4 k with
      | none => rfl
      | some j =>
        exfalso
        obtain ⟨z, hz1, hz2, hz3⟩ := (hW4 k j).1 hc
        obtain ⟨x, hx1, hx2⟩ := passL_at hz1
        have hxu : x.used = true ∧ x.key = k := by
          rcases hx2 with e | e
          · subst e; exact ⟨hz2, hz3⟩
          · subst e
            rw [(clr_facts x).1] at hz2
            rw [(clr_facts x).2.1] at hz3
            exact ⟨hz2, hz3⟩
        have := (HWK.out k j).2 ⟨x, hx1, hxu.1, hxu.2⟩
        rw [HI.out] at this
        cases this
    have hO4 : OutIs w.heap.size ⟨0, false, false, false, 0⟩ w4 := (hF4.block _ (OutIs.lt HO3p.out) (by rintro (e | e) <;> omega)).trans HO3p.out
    obtain ⟨o0, o1, o2, o3, o4, p0, p1, p2, p3, p4⟩ := OutIs.cells hO4
    dsimp only at o0 o1 o2 o3 o4
    have HP4 := Lib.hid hP4
    have HF4p := Lib.hid (HF3p.out.mono (fun j _ e => e.elim) |>.trans (hF4.mono fun j _ (e : j = pb ∨ j = lb) => e.elim Or.inl (fun e => Or.inr (Or.inl e))) : Frm (Own pb lb mb) w w4)
    have HM4p := Lib.hid hM4
    have HW4 := Lib.hid hW4
    have HNK := Lib.hid hNk
    have HIY := Lib.hid hiy
    have HYX := Lib.hid hyx
    have HYU := Lib.hid hyu
    have HYE := Lib.hid hye
    have HO4p := Lib.hid hO4
    have HXE := Lib.hid hxe
    clear hP4 hF4 hM4 hW4 hNk hiy hyx hyu hye hxe hO4 c2 c3 fr
    go_upto_region 13 with (fail)
    have hE5 : ((((w4.setCell ⟨w.heap.size, 0, none⟩ (.int .i64 y.key)).setCell ⟨w.heap.size, 1, none⟩ (.bool y.used)).setCell ⟨w.heap.size, 2, none⟩ (.bool y.ref)).setCell ⟨w.heap.size, 3, none⟩ (.bool y.dirty)).setCell ⟨w.heap.size, 4, none⟩ (.int .i64 (y.pins : Nat)) = outAgain w4 w.heap.size y := rfl
    rw [hE5]
    have hO5 := OutIs.put (x := y) HO4p.out
    generalize outAgain w4 w.heap.size y = w5 at hO5 ⊢
    clear hE5 o0 o1 o2 o3 o4 p0 p1 p2 p3 p4 x0 x1 x2 x3 x4
    have hl4 := HP4.out.lt
    have hP5 := HP4.out.foreign hO5.2 (by omega) (by omega) (by omega)
    have HM5 := Lib.hid (HM4p.out.keep (hO5.2.block mb hl4.2.2 (by show mb ≠ w.heap.size; omega)))
    obtain ⟨w6, hrun6, hM6, hT6⟩ := (show MBox w5.drew mb m W4 _ from HM5.out).drop y.key hwy HIY.out 0
    unfold keyV at hrun6
    have hF6 : Frm (fun j => j = mb) w5 w6 := ((Frm.refl _ w5).drew).trans (Frm.of_grown hT6.grown)
    have HO5 := Lib.hid hO5
    have HP5 := Lib.hid hP5
    have HM6 := Lib.hid hM6
    have HF6 := Lib.hid hF6
    have c15 := hP5.at.2.1
    have o05 := (OutIs.cells hO5.1).1
    clear hO5 hP5 hM6 hF6 hT6 c0 c1
    refine region_ordL (fun wz => wz = w5.drew) true [false, false, false, false, false, false, false, false] (by kernel_rfl) (by kernel_rfl) (by kernel_rfl) (by kernel_rfl) rfl ?_
    iterate 7 (refine ord_val (by rfl) (by intro wz hi; subst hi; go_simp; with_reducible rfl) (fun K hK => ?_); go_simp; refine hK _ ?_; clear hK K)
    refine ord_last (by rfl) ?_
    refine gets_sem ?_
    go_simp
    have hR6 := own_keep HP5.out.row (w' := w6) (fun g hg => by injection hg with hg; subst hg; exact HF6.out.block _ HP5.out.lt.2.1 hne.2.2)
    rw [show ({ p with L := passL p.L p.hand (q + 1), hand := (p.hand + q + 1) % p.L.length } : Pl).L.length = n from hpl] at hR6
    have c06 := (World.cell?_of_block (a := ⟨pb, 0, none⟩) (HF6.out.block pb HP5.out.lt.1 hne.2.1)).trans HP5.out.at.1
    rw [show ({ p with L := passL p.L p.hand (q + 1), hand := (p.hand + q + 1) % p.L.length } : Pl).L.length = n from hpl] at c06
    obtain ⟨x0, x1, x2, x3, x4, gg⟩ := row_fr hR6 hpl hip
    have g0 := gg (i * 5)
    have g1 := gg (i * 5 + 1)
    have g2 := gg (i * 5 + 2)
    have g3 := gg (i * 5 + 3)
    have g4 := gg (i * 5 + 4)
    have HR6 := Lib.hid hR6
    have hO6 : OutIs w.heap.size y w6 := (HF6.out.block _ (OutIs.lt HO5.out.1) (by show w.heap.size ≠ mb; omega)).trans HO5.out.1
    have HO6 := Lib.hid hO6
    clear hR6 gg c15 o05 hrun6 hO6
    go_upto_region 15 with (fail)
    have hE3 : ((((w6.setCell ⟨lb, i * 5, none⟩ (.int .i64 k)).setCell ⟨lb, i * 5 + 1, none⟩ (.bool true)).setCell ⟨lb, i * 5 + 2, none⟩ (.bool true)).setCell ⟨lb, i * 5 + 3, none⟩ (.bool false)).setCell ⟨lb, i * 5 + 4, none⟩ (.int .i64 0) = put5 w6 lb i ⟨k, true, true, false, 0⟩ := rfl
    rw [hE3]
    obtain ⟨hR3, hF3⟩ := row_put5 HR6.out i hip ⟨k, true, true, false, 0⟩
    generalize put5 w6 lb i ⟨k, true, true, false, 0⟩ = w3 at hR3 hF3 ⊢
    have hl5 := HP5.out.lt
    have hz6 := HF6.out.size
    have HC3 := Lib.hid ((hF3.block pb (by omega) hne.1).trans ((HF6.out.block pb hl5.1 hne.2.1).trans HP5.out.cells))
    have HM3 := Lib.hid (HM6.out.keep (hF3.block mb (by omega) (fun e => hne.2.2 e.symm)))
    have HN3 := Lib.hid (show mset W4 y.key none k = none by unfold mset; split; rfl; exact HNK.out)
    have HO3 := Lib.hid (show OutIs w.heap.size y w3 from (hF3.block _ (OutIs.lt HO6.out) (by show w.heap.size ≠ lb; omega)).trans HO6.out)
    have HR3 := Lib.hid hR3
    have HFW := Lib.hid ((((HF4p.out.sub HO5.out.2 (fun j e => Or.inr (Nat.le_of_eq e.symm))).trans (HF6.out.mono fun j _ e => Or.inr (Or.inr e))).trans (hF3.mono fun j _ e => Or.inr (Or.inl e)) : Frm (Own pb lb mb) w w3))
    have hl3 : pb < w3.heap.size := by have := hF3.size; omega
    clear hR3 hF3 hE3 x0 x1 x2 x3 x4 g0 g1 g2 g3 g4 c06
    obtain ⟨w4, hrun4, hM4, hT4⟩ := HM3.out.store hm k hk HN3.out i
    unfold keyV at hrun4
    have hF4 : Frm (fun j => j = mb) w3 w4 := Frm.of_grown hT4.grown
    have HM4 := Lib.hid hM4
    have HF4 := Lib.hid hF4
    have c31 := cell_of_row w3 pb 1 _ _ _ HC3.out
    clear hM4 hT4
    go_upto_region 16 with (fail)
    have hO4 : OutIs w.heap.size y w4 := (hF4.block _ (OutIs.lt HO3.out) (by show w.heap.size ≠ mb; omega)).trans HO3.out
    have HO4 := Lib.hid hO4
    refine region_ord (fun w2 => OutIs w.heap.size y w2 ∧ Frm (fun j => j = w.heap.size) w4 w2) [false, false, false, false, true, false, false] (by kernel_rfl) (by kernel_rfl) (by kernel_rfl) ⟨hO4, (Frm.refl _ w4).drew⟩ ?_
    (refine ord_val (by rfl) (by intro w hi; clear hi; go_simp; with_reducible rfl) (fun K hK => ?_); go_simp; refine hK _ ?_; clear hK K)
    (refine ord_val (by rfl) (by intro wz hi; obtain ⟨z0, z1, z2, z3, z4, _⟩ := OutIs.cells hi.1; (try dsimp only at z0 z1 z2 z3 z4); clear hi; go_simp; with_reducible rfl) (fun K hK => ?_); go_simp; refine hK _ ?_; clear hK K)
    iterate 2 (refine ord_val (by rfl) (by intro w hi; clear hi; go_simp; with_reducible rfl) (fun K hK => ?_); go_simp; refine hK _ ?_; clear hK K)
    obtain ⟨o0, o1, o2, o3, o4, p0, p1, p2, p3, p4⟩ := OutIs.cells (show OutIs w.heap.size y w4 from HO4.out)
    try dsimp only at o0 o1 o2 o3 o4
    refine ord_eff (by rfl) (fun K hK => ?_)
    refine gets_sem ?_
    go_simp
    have hO5 : OutIs w.heap.size y (outAgain w4 w.heap.size y).drew ∧ Frm (fun j => j = w.heap.size) w4 (outAgain w4 w.heap.size y).drew := ⟨(OutIs.again (show OutIs w.heap.size y w4 from HO4.out)).1, (OutIs.again (show OutIs w.heap.size y w4 from HO4.out)).2.trans ((Frm.refl _ _).drew)⟩
    have hE5 : (((((w4.setCell ⟨w.heap.size, 0, none⟩ (.int .i64 y.key)).setCell ⟨w.heap.size, 1, none⟩ (.bool y.used)).setCell ⟨w.heap.size, 2, none⟩ (.bool y.ref)).setCell ⟨w.heap.size, 3, none⟩ (.bool y.dirty)).setCell ⟨w.heap.size, 4, none⟩ (.int .i64 (y.pins : Nat))).drew = (outAgain w4 w.heap.size y).drew := rfl
    rw [hE5]
    generalize (outAgain w4 w.heap.size y).drew = w5 at hO5 ⊢
    refine ⟨hO5, hK _ _ ?_⟩
    clear hE5 hK K o0 o1 o2 o3 o4 p0 p1 p2 p3 p4
    have HO5 := Lib.hid hO5
    clear hO5 hO4
    iterate 2 (refine ord_val (by rfl) (by intro w hi; clear hi; go_simp; with_reducible rfl) (fun K hK => ?_); go_simp; refine hK _ ?_; clear hK K)
    refine ord_nil ?_
    go_wp2
    refine bodyPost_ret (v := .tuple #[.int .i64 (i : Nat), frV (y : Fr), .bool true, .int .i64 0]) ?_ rfl ?_
    · have hr := run_loadVar_row (P := Try.prog) w5 w.heap.size 38 38 (frL (y : Fr)).toArray (0, 0) _ HO5.out.1 Try.underlying38 rfl (by kernel_rfl)
      simp [results, Try.f12, asAddr, hr, frV, frL]
    have hus : usedN ((passL p.L p.hand (q + 1)).set i ⟨k, true, true, false, 0⟩) = usedN (passL p.L p.hand (q + 1)) - 1 + 1 := by
      have h1 := usedN_put (passL p.L p.hand (q + 1)) i hip ⟨k, true, true, false, 0⟩
      have h2 := usedN_put (passL p.L p.hand (q + 1)) i hip Fr.zero
      rw [hy, HYU.out] at h1 h2
      simp [Fr.zero] at h1 h2
      omega
    have hM4 := HM4.out
    rw [← hus] at hM4
    have hW1 := Wok.gone HW4.out i hip { y with used := false } (by rw [hy]; exact HYU.out) rfl
    rw [hy] at hW1
    have hW2 := Wok.fresh hW1 i (by rw [List.length_set]; exact hip) ⟨k, true, true, false, 0⟩ (by rw [List.getElem_set_self]) rfl HN3.out
    rw [List.set_set] at hW2
    have hR3 := HR3.out
    rw [← hpl] at hR3
    have hPG : PBox w4 pb lb mb (m + 1) { p with L := (passL p.L p.hand (q + 1)).set i ⟨k, true, true, false, 0⟩, hand := (p.hand + q + 1) % p.L.length } := PBox.given (p := { p with L := passL p.L p.hand (q + 1), hand := (p.hand + q + 1) % p.L.length }) hip rfl HC3.out hR3 HF4.out hM4 hW2 hne ⟨by show 1 ≤ ((passL p.L p.hand (q + 1)).set i _).length ∧ _; rw [List.length_set, hpl]; omega, by show (p.hand + q + 1) % p.L.length < ((passL p.L p.hand (q + 1)).set i _).length; rw [List.length_set, hpl, HN.out]; exact Nat.mod_lt _ (by omega), ⟨by show p.low ≤ ((passL p.L p.hand (q + 1)).set i _).length; rw [List.length_set]; exact HP4.out.ok.low.1, fun a ha => by
        obtain ⟨z, hz1, hz2⟩ := HP4.out.ok.low.2 a ha
        show ∃ x, ((passL p.L p.hand (q + 1)).set i _)[a]? = some x ∧ _
        rw [List.getElem?_set]
        by_cases e : i = a
        · subst e
          exact ⟨_, by rw [if_pos rfl, if_pos hip], rfl⟩
        · exact ⟨z, by rw [if_neg e]; exact hz1, hz2⟩⟩, fun z hz => by
        rcases List.mem_or_eq_of_mem_set hz with h6 | h6
        · exact HP4.out.ok.num z h6
        · subst h6
          exact ⟨hk, by show (0 : Nat) ≤ 1048576; omega⟩⟩ hl3
    have hsz4 : w.heap.size ≤ w4.heap.size := by have := HFW.out.size; have := HF4.out.size; omega
    refine ⟨Or.inl ⟨q, p.L[i], hq, HCD.out, HNO.out, ?_, ?_, ?_⟩, ?_⟩
    · rw [HN.out, HIC.out]; exact HXE.out
    · rw [HN.out, HIC.out, ← HYX.out]
    · have := hPG.foreign HO5.out.2 (by omega) (by omega) (by omega)
      rw [show (p.hand + q) % p.L.length = i from by rw [HN.out]; exact HIC.out]
      exact this
    · exact (HFW.out.trans (HF4.out.mono fun j _ e => Or.inr (Or.inr e))).sub HO5.out.2 (fun j e => Or.inr (Nat.le_of_eq e.symm))
  · have HALL := Lib.hid hall
    have HF3 := Lib.hid (HF2.out.trans hF3)
    have HO3 := Lib.hid (show OutIs w.heap.size ⟨0, false, false, false, 0⟩ w3 from (hF3.block _ (OutIs.lt HO2.out) id).trans HO2.out)
    have HP3 := Lib.hid (HP2.out.next hF3)
    obtain ⟨o0, o1, o2, o3, o4, p0, p1, p2, p3, p4⟩ := OutIs.cells HO3.out
    dsimp only at o0 o1 o2 o3 o4
    clear hall hF3
    go_wp2
    have hE5 : ((((w3.setCell ⟨w.heap.size, 0, none⟩ (.int .i64 0)).setCell ⟨w.heap.size, 1, none⟩ (.bool false)).setCell ⟨w.heap.size, 2, none⟩ (.bool false)).setCell ⟨w.heap.size, 3, none⟩ (.bool false)).setCell ⟨w.heap.size, 4, none⟩ (.int .i64 0) = outAgain w3 w.heap.size ⟨0, false, false, false, 0⟩ := rfl
    rw [hE5]
    have hO5 := OutIs.again HO3.out
    generalize outAgain w3 w.heap.size ⟨0, false, false, false, 0⟩ = w5 at hO5 ⊢
    have hl3 := HP3.out.lt
    refine bodyPost_ret (v := .tuple #[.int .i64 0, frV Fr.zero, .bool false, .int .i64 10]) ?_ rfl ?_
    · have hr := run_loadVar_row (P := Try.prog) w5 w.heap.size 38 38 (frL (⟨0, false, false, false, 0⟩ : Fr)).toArray (0, 0) _ hO5.1 Try.underlying38 rfl (by kernel_rfl)
      simp [results, Try.f12, asAddr, hr, frV, frL, Fr.zero]
    · exact ⟨Or.inr ⟨HALL.out, rfl, HP3.out.foreign hO5.2 (by omega) (by omega) (by omega)⟩, (HF3.out.mono (fun j _ e => e.elim)).sub hO5.2 (fun j e => Or.inr (Nat.le_of_eq e.symm))⟩
end Go.Proofs.Ytdbaidkepngjcaa
