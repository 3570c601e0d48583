/- The document's pool of frames: Take. Conditions: none. -/
import Derived.Test.YtdbaidkepngjcaaFru
namespace Go.Proofs.Ytdbaidkepngjcaa
open Go.ChangeShapes Go.WideShapes Go.ChangeAt Go.RowKit Go.Maps
set_option linter.unusedSimpArgs false
set_option linter.unusedVariables false
/-- the result that lies in a cell -/
def OutR (ob : Nat) (x : Fr) (w : World) : Prop := w.heap[ob]? = some (.cells (frL x).toArray 59 (0, 0))
theorem OutR.lt {ob : Nat} {x : Fr} {w : World} (h : OutR ob x w) : ob < w.heap.size := by
  rcases Nat.lt_or_ge ob w.heap.size with h5 | h5
  · exact h5
  · unfold OutR at h; rw [Array.getElem?_eq_none h5] at h; cases h
theorem OutR.put {ob : Nat} {y x : Fr} {w : World} (h : OutR ob y w) : OutR ob x (outAgain w ob x) ∧ Frm (fun j => j = ob) w (outAgain w ob x) := by
  have hF : ∀ (a b : World) (j : Nat) (v : Value), Frm (fun j => j = ob) a b → Frm (fun j => j = ob) a (b.setCell ⟨ob, j, none⟩ v) := fun a b j v hf => hf.setCell ob j (Or.inl rfl) v
  refine ⟨?_, hF _ _ _ _ (hF _ _ _ _ (hF _ _ _ _ (hF _ _ _ _ (hF _ _ _ _ (Frm.refl _ w)))))⟩
  have h0 := heap_setCell_same w ob 0 _ _ (.int .i64 x.key) h
  have h1 := heap_setCell_same _ ob 1 _ _ (.bool x.used) h0
  have h2 := heap_setCell_same _ ob 2 _ _ (.bool x.ref) h1
  have h3 := heap_setCell_same _ ob 3 _ _ (.bool x.dirty) h2
  exact heap_setCell_same _ ob 4 _ _ (.int .i64 (x.pins : Nat)) h3
theorem OutR.cells {ob : Nat} {x : Fr} {w : World} (h : OutR ob x w) : w.cell? ⟨ob, 0, none⟩ = some (.int .i64 x.key) ∧ w.cell? ⟨ob, 1, none⟩ = some (.bool x.used) ∧ w.cell? ⟨ob, 2, none⟩ = some (.bool x.ref) ∧ w.cell? ⟨ob, 3, none⟩ = some (.bool x.dirty) ∧ w.cell? ⟨ob, 4, none⟩ = some (.int .i64 (x.pins : Nat)) ∧ w.frozen? ⟨ob, 0, none⟩ = false ∧ w.frozen? ⟨ob, 1, none⟩ = false ∧ w.frozen? ⟨ob, 2, none⟩ = false ∧ w.frozen? ⟨ob, 3, none⟩ = false ∧ w.frozen? ⟨ob, 4, none⟩ = false :=
  ⟨cell_of_row w ob 0 _ _ _ h, cell_of_row w ob 1 _ _ _ h, cell_of_row w ob 2 _ _ _ h, cell_of_row w ob 3 _ _ _ h, cell_of_row w ob 4 _ _ _ h, frozen_of_row w ob 0 _ _ h, frozen_of_row w ob 1 _ _ h, frozen_of_row w ob 2 _ _ h, frozen_of_row w ob 3 _ _ h, frozen_of_row w ob 4 _ _ h⟩
theorem OutR.block {ob : Nat} {x : Fr} {w w' : World} {O : Nat → Prop} (h : OutR ob x w) (hf : Frm O w w') (ho : ¬ O ob) : OutR ob x w' := (hf.block ob h.lt ho).trans h
abbrev newF (k : Int) : Fr := ⟨k, true, true, false, 0⟩
/-- what the document's Take does -/
def RTake (qb rb c : Nat) (L : List Fr) (hd : Nat) (k : Int) (w : World) (e : Ending) (w' : World) : Prop :=
  ((∃ (i : Nat) (x : Fr), L[i]? = some x ∧ x.used = true ∧ x.key = k ∧ e = .returned (.tuple #[.int .i64 0, frV Fr.zero, .bool false, .int .i64 3]) ∧ QBox w' qb rb c L hd) ∨
    ((∀ x ∈ L, x.used = true → x.key ≠ k) ∧ ∃ (i : Nat) (x : Fr), L[i]? = some x ∧ x.used = false ∧ (∀ a, a < i → ∃ y, L[a]? = some y ∧ y.used = true) ∧ e = .returned (.tuple #[.int .i64 (i : Nat), frV Fr.zero, .bool false, .int .i64 0]) ∧ QBox w' qb rb c (L.set i (newF k)) hd) ∨
    ((∀ x ∈ L, x.used = true → x.key ≠ k) ∧ (∀ x ∈ L, x.used = true) ∧ ∃ (q : Nat) (x : Fr), q < 2 * L.length ∧ cand ⟨L, hd, 0⟩ q = true ∧ (∀ r, r < q → cand ⟨L, hd, 0⟩ r = false) ∧ L[(hd + q) % L.length]? = some x ∧ e = .returned (.tuple #[.int .i64 (((hd + q) % L.length : Nat) : Int), frV (clr x), .bool true, .int .i64 0]) ∧ QBox w' qb rb c ((passL L hd (q + 1)).set ((hd + q) % L.length) (newF k)) ((hd + q + 1) % L.length)) ∨
    ((∀ x ∈ L, x.used = true → x.key ≠ k) ∧ (∀ x ∈ L, x.used = true) ∧ (∀ r, cand ⟨L, hd, 0⟩ r = false) ∧ e = .returned (.tuple #[.int .i64 0, frV Fr.zero, .bool false, .int .i64 10]) ∧ QBox w' qb rb c L hd)) ∧ Frm (fun j => j = qb ∨ j = rb) w w'
section
variable (qb rb c hd : Nat) (L : List Fr) (w : World) (h : QBox w qb rb c L hd) (k : Int) (hk : (Lit.int .i64 k).wf = true)
include h hk
set_option maxRecDepth 100000 in
set_option maxHeartbeats 4000000 in
theorem rtake_any : Calls Try.prog 21 #[.pointer (some ⟨qb, 0, none⟩), .int .i64 k] w (RTake qb rb c L hd k w) := by
  have hf1 : Frm (fun _ => False) w (w.alloc (.cells #[.int .i64 0, .bool false, .bool false, .bool false, .int .i64 0] 59)) := (Frm.refl (fun _ => False) w).alloc _
  have h1 := h.next hf1
  have hx1 : OutR w.heap.size Fr.zero (w.alloc (.cells #[.int .i64 0, .bool false, .bool false, .bool false, .int .i64 0] 59)) := heap_alloc_new w (.cells #[.int .i64 0, .bool false, .bool false, .bool false, .int .i64 0] 59)
  have HFI := Lib.hid (rfind_any qb rb c hd L _ h1 k)
  have hne := h.ne
  obtain ⟨l1, l2⟩ := h.lt
  have HF := Lib.hid hf1
  have HX := Lib.hid hx1
  have H1 := Lib.hid h1
  have hn := h.n
  clear h hf1 h1 hx1
  go_enter Try.func21, Try.ntmps21
  go_wp2_with fail
  refine HFI.out.mono ?_
  clear HFI
  rintro e w1 ⟨⟨i, x, hx, hu, hxk, rfl⟩ | ⟨hno, rfl⟩, rfl⟩
  · have HXK := Lib.hid hxk
    clear hxk
    go_wp2
    refine bodyPost_ret (v := .tuple #[.int .i64 0, frV Fr.zero, .bool false, .int .i64 3]) ?_ rfl ⟨Or.inl ⟨i, x, hx, hu, HXK.out, rfl, H1.out⟩, HF.out.mono fun j _ e => e.elim⟩
    have hr := run_loadVar_row (P := Try.prog) (w.alloc (.cells #[.int .i64 0, .bool false, .bool false, .bool false, .int .i64 0] 59)) w.heap.size 59 59 (frL Fr.zero).toArray (0, 0) _ HX.out Try.underlying59 rfl (by kernel_rfl)
    simp [results, Try.f21, asAddr, hr, frV, frL, Fr.zero]
  obtain ⟨n, hnn⟩ : ∃ n, L.length = n := ⟨_, rfl⟩
  have HN := Lib.hid hnn
  have HNO := Lib.hid hno
  rw [hnn] at hn
  clear hno hnn
  generalize w.alloc (.cells #[.int .i64 0, .bool false, .bool false, .bool false, .int .i64 0] 59) = w1 at *
  obtain ⟨c0, c1, fr⟩ := H1.out.at
  rw [HN.out] at c0
  have hcap := H1.out.cap
  clear c1 fr
  go_wp2_with fail
  go_loopw [10] (fun i wx => ∃ q : Nat, q ≤ n ∧ i = .int .i64 q ∧ (∀ a, a < q → ∃ y, L[a]? = some y ∧ y.used = true) ∧ wx = w1) (fun i wx => n - (intOf i).toNat)
  case atStart => exact ⟨0, by omega, rfl, fun a ha => by omega, rfl⟩
  case round =>
    obtain ⟨q, hq, rfl, hall, rfl⟩ := hrel
    have HALL := Lib.hid hall
    clear hall
    by_cases hlt : q < n
    · have hqL : q < L.length := by rw [HN.out]; exact hlt
      obtain ⟨x0, x1, x2, x3, x4⟩ := H1.out.fr hqL
      have hxe : L[q]? = some L[q] := List.getElem?_eq_getElem hqL
      have g0 := H1.out.frozen (q * 5)
      have g1 := H1.out.frozen (q * 5 + 1)
      have g2 := H1.out.frozen (q * 5 + 2)
      have g3 := H1.out.frozen (q * 5 + 3)
      have g4 := H1.out.frozen (q * 5 + 4)
      generalize L[q] = x at *
      cases hu : x.used with
      | true =>
        rw [hu] at x1
        have HNX := Lib.hid (show ∀ a, a < q + 1 → ∃ y, L[a]? = some y ∧ y.used = true from fun a ha => by
          rcases Nat.lt_or_ge a q with h1 | h1
          · exact HALL.out a h1
          · obtain rfl : a = q := by omega
            exact ⟨x, hxe, hu⟩)
        clear hxe hu x0 x2 x3 x4 g0 g1 g2 g3 g4
        go_wp2
        go_roundw
        case rel => exact ⟨q + 1, by omega, by go_num, HNX.out, trivial⟩
        case measure => simp [intOf]; omega
      | false =>
        rw [hu] at x1
        have HXE := Lib.hid hxe
        have HU := Lib.hid hu
        clear hxe hu
        go_upto_region 9 with (fail)
        have hE3 : ((((wr.setCell ⟨rb, q * 5, none⟩ (.int .i64 k)).setCell ⟨rb, q * 5 + 1, none⟩ (.bool true)).setCell ⟨rb, q * 5 + 2, none⟩ (.bool true)).setCell ⟨rb, q * 5 + 3, none⟩ (.bool false)).setCell ⟨rb, q * 5 + 4, none⟩ (.int .i64 0) = put5 wr rb q (newF k) := rfl
        rw [hE3]
        obtain ⟨hP3, hF3⟩ := H1.out.put5 q hqL (newF k) ⟨hk, by show (0 : Nat) ≤ 1048576; omega⟩
        have hO3 := HX.out.block hF3 (by show ¬ w.heap.size = rb; omega)
        generalize put5 wr rb q (newF k) = w3 at hP3 hF3 hO3 ⊢
        obtain ⟨o0, o1, o2, o3, o4, p0, p1, p2, p3, p4⟩ := OutR.cells hO3
        dsimp only [Fr.zero] at o0 o1 o2 o3 o4
        have HP3 := Lib.hid hP3
        have HF3 := Lib.hid hF3
        have HO3 := Lib.hid hO3
        clear hP3 hF3 hO3 hE3 x0 x1 x2 x3 x4 g0 g1 g2 g3 g4 c0
        go_wp2
        have hE5 : ((((w3.setCell ⟨w.heap.size, 0, none⟩ (.int .i64 0)).setCell ⟨w.heap.size, 1, none⟩ (.bool false)).setCell ⟨w.heap.size, 2, none⟩ (.bool false)).setCell ⟨w.heap.size, 3, none⟩ (.bool false)).setCell ⟨w.heap.size, 4, none⟩ (.int .i64 0) = outAgain w3 w.heap.size Fr.zero := rfl
        rw [hE5]
        obtain ⟨hO5, hF5⟩ := OutR.put (x := Fr.zero) HO3.out
        generalize outAgain w3 w.heap.size Fr.zero = w5 at hO5 hF5 ⊢
        refine bodyPost_ret (v := .tuple #[.int .i64 (q : Nat), frV Fr.zero, .bool false, .int .i64 0]) ?_ rfl ?_
        · have hr := run_loadVar_row (P := Try.prog) w5 w.heap.size 59 59 (frL Fr.zero).toArray (0, 0) _ hO5 Try.underlying59 rfl (by kernel_rfl)
          simp [results, Try.f21, asAddr, hr, frV, frL, Fr.zero]
        · refine ⟨Or.inr (Or.inl ⟨HNO.out, q, x, HXE.out, HU.out, HALL.out, rfl, HP3.out.foreign hF5 (by show ¬ qb = w.heap.size; omega) (by show ¬ rb = w.heap.size; omega)⟩), ?_⟩
          exact ((HF.out.mono fun j _ e => e.elim).trans (HF3.out.mono fun j _ e => Or.inr e) : Frm (fun j => j = qb ∨ j = rb) w w3).sub hF5 (fun j e => Or.inr (Nat.le_of_eq e.symm))
    · obtain rfl : q = n := by omega
      have HUS := Lib.hid (show ∀ x ∈ L, x.used = true from fun x hx => by
        obtain ⟨r, hr, rfl⟩ := List.getElem_of_mem hx
        obtain ⟨y, hy, hyu⟩ := HALL.out r (by have := HN.out; omega)
        rw [List.getElem?_eq_getElem hr] at hy
        injection hy with hy
        rw [hy]; exact hyu)
      have HV := Lib.hid (rvictim_any qb rb c hd L _ H1.out)
      go_wp2_with fail
      refine HV.out.mono ?_
      clear HV c0
      rintro e w2 ⟨⟨z, hz, hzc, hzn, rfl, hP2⟩ | ⟨hnone, rfl, hP2⟩, hF2⟩
      · have HZC := Lib.hid hzc
        have HZN := Lib.hid hzn
        have hpl : (passL L hd (z + 1)).length = q := by rw [passL_length]; exact HN.out
        rw [HN.out] at hz hP2
        rw [HN.out]
        obtain ⟨i, hi⟩ : ∃ i, (hd + z) % q = i := ⟨_, rfl⟩
        have hiq : i < q := by rw [← hi]; exact Nat.mod_lt _ (by omega)
        have hip : i < (passL L hd (z + 1)).length := by rw [hpl]; exact hiq
        have hiL : i < L.length := by rw [HN.out]; exact hiq
        have hxe : L[i]? = some L[i] := List.getElem?_eq_getElem hiL
        have hyx : (passL L hd (z + 1))[i] = clr L[i] := by
          have := passL_get L hd i L[i] hxe (z + 1)
          rw [if_pos ⟨z, by omega, by rw [HN.out]; exact hi⟩, List.getElem?_eq_getElem hip] at this
          injection this
        obtain ⟨c0, c1, fr⟩ := hP2.at
        rw [hpl] at c0
        obtain ⟨x0, x1, x2, x3, x4⟩ := hP2.fr hip
        have g0 := hP2.frozen (i * 5)
        have g1 := hP2.frozen (i * 5 + 1)
        have g2 := hP2.frozen (i * 5 + 2)
        have g3 := hP2.frozen (i * 5 + 3)
        have g4 := hP2.frozen (i * 5 + 4)
        generalize hy : clr L[i] = y at *
        rw [hyx] at x0 x1 x2 x3 x4
        have hO2 := HX.out.block hF2 (by show ¬ (w.heap.size = qb ∨ w.heap.size = rb); omega)
        have HP2 := Lib.hid hP2
        have HF2 := Lib.hid hF2
        have HO2 := Lib.hid hO2
        have HXE := Lib.hid hxe
        have HY := Lib.hid hy
        have HI := Lib.hid hi
        rw [hi]
        have hl2 := hF2.size
        have hl1 := HF.out.size
        have hlx := HX.out.lt
        clear hzc hzn hP2 hF2 hO2 hxe hyx hy hi fr c1
        go_upto_region 14 with (fail)
        have hFa : Frm (fun _ => False) w2 (w2.alloc (.cells #[.int .i64 y.key, .bool y.used, .bool y.ref, .bool y.dirty, .int .i64 (y.pins : Nat)] 59)) := (Frm.refl _ w2).alloc _
        have hQa : OutR w2.heap.size y (w2.alloc (.cells #[.int .i64 y.key, .bool y.used, .bool y.ref, .bool y.dirty, .int .i64 (y.pins : Nat)] 59)) := heap_alloc_new w2 (.cells #[.int .i64 y.key, .bool y.used, .bool y.ref, .bool y.dirty, .int .i64 (y.pins : Nat)] 59)
        have hPa := HP2.out.next hFa
        have hOa := HO2.out.block hFa id
        generalize w2.alloc (.cells #[.int .i64 y.key, .bool y.used, .bool y.ref, .bool y.dirty, .int .i64 (y.pins : Nat)] 59) = w3 at hFa hQa hPa hOa ⊢
        clear c0 x0 x1 x2 x3 x4 g0 g1 g2 g3 g4
        obtain ⟨c0, c1, fr⟩ := hPa.at
        rw [hpl] at c0
        obtain ⟨x0, x1, x2, x3, x4⟩ := hPa.fr hip
        have g0 := hPa.frozen (i * 5)
        have g1 := hPa.frozen (i * 5 + 1)
        have g2 := hPa.frozen (i * 5 + 2)
        have g3 := hPa.frozen (i * 5 + 3)
        have g4 := hPa.frozen (i * 5 + 4)
        obtain ⟨hP4, hF4⟩ := hPa.put5 i hip (newF k) ⟨hk, by show (0 : Nat) ≤ 1048576; omega⟩
        have HP4 := Lib.hid hP4
        have HF4 := Lib.hid (((HF.out.mono fun j _ e => e.elim).trans HF2.out).trans ((hFa.mono fun j _ e => e.elim).trans (hF4.mono fun j _ e => Or.inr e)) : Frm (fun j => j = qb ∨ j = rb) w (put5 w3 rb i (newF k)))
        have HO4 := Lib.hid (hOa.block hF4 (by show ¬ w.heap.size = rb; omega))
        have HQ4 := Lib.hid (hQa.block hF4 (by show ¬ w2.heap.size = rb; omega))
        clear hFa hQa hPa hOa hP4 hF4 c1 fr
        go_upto_region 15 with (fail)
        have hE3 : ((((w3.setCell ⟨rb, i * 5, none⟩ (.int .i64 k)).setCell ⟨rb, i * 5 + 1, none⟩ (.bool true)).setCell ⟨rb, i * 5 + 2, none⟩ (.bool true)).setCell ⟨rb, i * 5 + 3, none⟩ (.bool false)).setCell ⟨rb, i * 5 + 4, none⟩ (.int .i64 0) = put5 w3 rb i (newF k) := rfl
        rw [hE3]
        generalize put5 w3 rb i (newF k) = w4 at HP4 HF4 HO4 HQ4 ⊢
        clear hE3 x0 x1 x2 x3 x4 g0 g1 g2 g3 g4 c0
        obtain ⟨o0, o1, o2, o3, o4, p0, p1, p2, p3, p4⟩ := OutR.cells HO4.out
        obtain ⟨y0, y1, y2, y3, y4, _, _, _, _, _⟩ := OutR.cells HQ4.out
        dsimp only [Fr.zero] at o0 o1 o2 o3 o4
        clear y0 y1 y2 y3 y4
        refine region_ord (fun wz => OutR w2.heap.size y wz) [false, false, false, true, false, false] (by kernel_rfl) (by kernel_rfl) (by kernel_rfl) HQ4.out ?_
        (refine ord_val (by rfl) (by intro w hi; clear hi; go_simp; with_reducible rfl) (fun K hK => ?_); go_simp; refine hK _ ?_; clear hK K)
        (refine ord_val (by rfl) (by intro wz hi; obtain ⟨z0, z1, z2, z3, z4, _⟩ := OutR.cells hi; clear hi; go_simp; with_reducible rfl) (fun K hK => ?_); go_simp; refine hK _ ?_; clear hK K)
        (refine ord_val (by rfl) (by intro w hi; clear hi; go_simp; with_reducible rfl) (fun K hK => ?_); go_simp; refine hK _ ?_; clear hK K)
        refine ord_eff (by rfl) (fun K hK => ?_)
        refine gets_sem ?_
        go_simp
        have hE5 : (((((w4.setCell ⟨w.heap.size, 0, none⟩ (.int .i64 y.key)).setCell ⟨w.heap.size, 1, none⟩ (.bool y.used)).setCell ⟨w.heap.size, 2, none⟩ (.bool y.ref)).setCell ⟨w.heap.size, 3, none⟩ (.bool y.dirty)).setCell ⟨w.heap.size, 4, none⟩ (.int .i64 (y.pins : Nat))).drew = (outAgain w4 w.heap.size y).drew := rfl
        rw [hE5]
        obtain ⟨hO5, hF5⟩ := OutR.put (x := y) HO4.out
        have hF5 : Frm (fun j => j = w.heap.size) w4 (outAgain w4 w.heap.size y).drew := hF5.trans ((Frm.refl _ _).drew)
        have hO5 : OutR w.heap.size y (outAgain w4 w.heap.size y).drew := hO5
        generalize (outAgain w4 w.heap.size y).drew = w5 at hO5 hF5 ⊢
        refine ⟨HQ4.out.block hF5 (by show ¬ w2.heap.size = w.heap.size; omega), hK _ _ ?_⟩
        clear hE5 hK K o0 o1 o2 o3 o4 p0 p1 p2 p3 p4
        have HO5 := Lib.hid hO5
        have HF5 := Lib.hid hF5
        clear hO5 hF5
        iterate 2 (refine ord_val (by rfl) (by intro w hi; clear hi; go_simp; with_reducible rfl) (fun K hK => ?_); go_simp; refine hK _ ?_; clear hK K)
        refine ord_nil ?_
        go_wp2
        refine bodyPost_ret (v := .tuple #[.int .i64 (i : Nat), frV y, .bool true, .int .i64 0]) ?_ rfl ?_
        · have hr := run_loadVar_row (P := Try.prog) w5 w.heap.size 59 59 (frL y).toArray (0, 0) _ HO5.out Try.underlying59 rfl (by kernel_rfl)
          simp [results, Try.f21, asAddr, hr, frV, frL]
        · refine ⟨Or.inr (Or.inr (Or.inl ⟨HNO.out, HUS.out, z, L[i], by rw [HN.out]; exact hz, HZC.out, HZN.out, by rw [HN.out, HI.out]; exact HXE.out, by rw [HN.out, HI.out, HY.out], ?_⟩)), ?_⟩
          · rw [HN.out, HI.out]
            exact HP4.out.foreign HF5.out (by show ¬ qb = w.heap.size; omega) (by show ¬ rb = w.heap.size; omega)
          · exact HF4.out.sub HF5.out (fun j e => Or.inr (Nat.le_of_eq e.symm))
      · have hO2 := HX.out.block hF2 (by show ¬ (w.heap.size = qb ∨ w.heap.size = rb); omega)
        obtain ⟨o0, o1, o2, o3, o4, p0, p1, p2, p3, p4⟩ := OutR.cells hO2
        dsimp only [Fr.zero] at o0 o1 o2 o3 o4
        have HNN := Lib.hid hnone
        have HP2 := Lib.hid hP2
        have HF2 := Lib.hid hF2
        have HO2 := Lib.hid hO2
        clear hnone hP2 hF2 hO2
        go_wp2
        have hE5 : ((((w2.setCell ⟨w.heap.size, 0, none⟩ (.int .i64 0)).setCell ⟨w.heap.size, 1, none⟩ (.bool false)).setCell ⟨w.heap.size, 2, none⟩ (.bool false)).setCell ⟨w.heap.size, 3, none⟩ (.bool false)).setCell ⟨w.heap.size, 4, none⟩ (.int .i64 0) = outAgain w2 w.heap.size Fr.zero := rfl
        rw [hE5]
        obtain ⟨hO5, hF5⟩ := OutR.put (x := Fr.zero) HO2.out
        generalize outAgain w2 w.heap.size Fr.zero = w5 at hO5 hF5 ⊢
        refine bodyPost_ret (v := .tuple #[.int .i64 0, frV Fr.zero, .bool false, .int .i64 10]) ?_ rfl ?_
        · have hr := run_loadVar_row (P := Try.prog) w5 w.heap.size 59 59 (frL Fr.zero).toArray (0, 0) _ hO5 Try.underlying59 rfl (by kernel_rfl)
          simp [results, Try.f21, asAddr, hr, frV, frL, Fr.zero]
        · refine ⟨Or.inr (Or.inr (Or.inr ⟨HNO.out, HUS.out, HNN.out, rfl, HP2.out.foreign hF5 (by show ¬ qb = w.heap.size; omega) (by show ¬ rb = w.heap.size; omega)⟩)), ?_⟩
          exact ((HF.out.mono fun j _ e => e.elim).trans HF2.out : Frm (fun j => j = qb ∨ j = rb) w w2).sub hF5 (fun j e => Or.inr (Nat.le_of_eq e.symm))
end
end Go.Proofs.Ytdbaidkepngjcaa
