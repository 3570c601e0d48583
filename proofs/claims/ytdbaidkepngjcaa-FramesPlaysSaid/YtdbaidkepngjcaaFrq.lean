/- The document's pool of frames: what lies where; is, Find. Conditions: none. -/
import Derived.Test.YtdbaidkepngjcaaFrp
import Derived.Deep.Grids
namespace Go.Proofs.Ytdbaidkepngjcaa
open Go.ChangeShapes Go.WideShapes Go.ChangeAt Go.RowKit Go.Maps
set_option linter.unusedSimpArgs false
set_option linter.unusedVariables false
structure QBox (w : World) (qb rb c : Nat) (L : List Fr) (hd : Nat) : Prop where
  cells : w.heap[qb]? = some (.cells #[.slice (some ⟨rb, 0, none⟩) L.length c, .int .i64 (hd : Nat)] 58 (0, 0))
  row : w.ownsRow 0 59 5 (.slice (some ⟨rb, 0, none⟩) L.length c) L.length (fcells L)
  ne : qb ≠ rb
  n : 1 ≤ L.length ∧ L.length ≤ 4096
  cap : c ≤ 9223372036854775807
  hand : hd < L.length
  num : ∀ x ∈ L, (Lit.int .i64 x.key).wf = true ∧ x.pins ≤ 1048576
theorem QBox.lt {w : World} {qb rb c hd : Nat} {L : List Fr} (h : QBox w qb rb c L hd) : qb < w.heap.size ∧ rb < w.heap.size := by
  refine ⟨?_, own_lt h.row rfl⟩
  rcases Nat.lt_or_ge qb w.heap.size with h5 | h5
  · exact h5
  · have := h.cells; rw [Array.getElem?_eq_none h5] at this; cases this
theorem QBox.foreign {O : Nat → Prop} {w w' : World} {qb rb c hd : Nat} {L : List Fr} (h : QBox w qb rb c L hd) (hf : Frm O w w') (h1 : ¬ O qb) (h2 : ¬ O rb) : QBox w' qb rb c L hd := by
  obtain ⟨l1, l2⟩ := h.lt
  exact ⟨(hf.block qb l1 h1).trans h.cells, own_keep h.row (fun g hg => by injection hg with hg; subst hg; exact hf.block _ l2 h2), h.ne, h.n, h.cap, h.hand, h.num⟩
theorem QBox.next {w w' : World} {qb rb c hd : Nat} {L : List Fr} (h : QBox w qb rb c L hd) (hf : Frm (fun _ => False) w w') : QBox w' qb rb c L hd := h.foreign hf id id
theorem QBox.at {w : World} {qb rb c hd : Nat} {L : List Fr} (h : QBox w qb rb c L hd) : w.cell? ⟨qb, 0, none⟩ = some (.slice (some ⟨rb, 0, none⟩) L.length c) ∧ w.cell? ⟨qb, 1, none⟩ = some (.int .i64 (hd : Nat)) ∧ ∀ i, w.frozen? ⟨qb, i, none⟩ = false :=
  ⟨cell_of_row w qb 0 _ _ _ h.cells, cell_of_row w qb 1 _ _ _ h.cells, fun i => frozen_of_row w qb i _ _ h.cells⟩
theorem QBox.fr {w : World} {qb rb c hd : Nat} {L : List Fr} (h : QBox w qb rb c L hd) {i : Nat} (hi : i < L.length) : w.cell? ⟨rb, i * 5, none⟩ = some (.int .i64 L[i].key) ∧ w.cell? ⟨rb, i * 5 + 1, none⟩ = some (.bool L[i].used) ∧ w.cell? ⟨rb, i * 5 + 2, none⟩ = some (.bool L[i].ref) ∧ w.cell? ⟨rb, i * 5 + 3, none⟩ = some (.bool L[i].dirty) ∧ w.cell? ⟨rb, i * 5 + 4, none⟩ = some (.int .i64 (L[i].pins : Nat)) := by
  refine ⟨?_, ?_, ?_, ?_, ?_⟩
  · have := h.row.cellAt (i * 5 + 0) (by omega)
    exact this.trans (fcells_get L i 0 hi (by omega))
  · exact (h.row.cellAt (i * 5 + 1) (by omega)).trans (fcells_get L i 1 hi (by omega))
  · exact (h.row.cellAt (i * 5 + 2) (by omega)).trans (fcells_get L i 2 hi (by omega))
  · exact (h.row.cellAt (i * 5 + 3) (by omega)).trans (fcells_get L i 3 hi (by omega))
  · exact (h.row.cellAt (i * 5 + 4) (by omega)).trans (fcells_get L i 4 hi (by omega))
theorem QBox.frozen {w : World} {qb rb c hd : Nat} {L : List Fr} (h : QBox w qb rb c L hd) (j : Nat) : w.frozen? ⟨rb, j, none⟩ = false := h.row.frozenAt j
theorem QBox.len {w : World} {qb rb c hd : Nat} {L : List Fr} (h : QBox w qb rb c L hd) : L.length ≤ c := by
  rcases h.row.2 with ⟨h1, _⟩ | ⟨g, cap, cur, h1, h2, h3, h4, h5, h6⟩
  · injection h1 with h1; cases h1
  · injection h1 with h1 h7 h8
    omega
/-- the frames are other ones, in the same row -/
theorem QBox.other {w w' : World} {qb rb c hd : Nat} {L L' : List Fr} (h : QBox w qb rb c L hd) (hf : Frm (fun j => j = rb) w w') (hr : w'.ownsRow 0 59 5 (.slice (some ⟨rb, 0, none⟩) L.length c) L.length (fcells L')) (hl : L'.length = L.length) (hn : ∀ x ∈ L', (Lit.int .i64 x.key).wf = true ∧ x.pins ≤ 1048576) : QBox w' qb rb c L' hd := by
  refine ⟨?_, ?_, h.ne, ?_, h.cap, ?_, hn⟩
  · rw [hl]; exact (hf.block qb h.lt.1 h.ne).trans h.cells
  · rw [hl]; exact hr
  · rw [hl]; exact h.n
  · rw [hl]; exact h.hand
/-- one cell of a frame has turned -/
theorem QBox.touch {w : World} {qb rb c hd : Nat} {L : List Fr} (h : QBox w qb rb c L hd) (i j : Nat) (hi : i < L.length) (hj : j < 5) (v : Value) (x' : Fr) (hx : frL x' = (frL L[i]).set j v) (hk : x'.key = L[i].key) (hp : x'.pins ≤ 1048576) :
    QBox (w.setCell ⟨rb, i * 5 + j, none⟩ v) qb rb c (L.set i x') hd ∧ Frm (fun j => j = rb) w (w.setCell ⟨rb, i * 5 + j, none⟩ v) := by
  have hF : Frm (fun j => j = rb) w (w.setCell ⟨rb, i * 5 + j, none⟩ v) := (Frm.refl (fun j => j = rb) w).setCell rb (i * 5 + j) (Or.inl rfl) v
  have hst := (h.row.stored (i * 5 + j) v).1
  rw [fcells_set L i j hi hj v x' hx] at hst
  refine ⟨h.other hF hst (by rw [List.length_set]) fun x hxm => ?_, hF⟩
  rcases List.mem_or_eq_of_mem_set hxm with h6 | h6
  · exact h.num x h6
  · subst h6
    exact ⟨by rw [hk]; exact (h.num _ (List.getElem_mem hi)).1, hp⟩
/-- a frame is another one -/
theorem QBox.put5 {w : World} {qb rb c hd : Nat} {L : List Fr} (h : QBox w qb rb c L hd) (i : Nat) (hi : i < L.length) (x : Fr) (hx : (Lit.int .i64 x.key).wf = true ∧ x.pins ≤ 1048576) : QBox (put5 w rb i x) qb rb c (L.set i x) hd ∧ Frm (fun j => j = rb) w (put5 w rb i x) := by
  have hF : ∀ (a b : World) (j : Nat) (v : Value), Frm (fun j => j = rb) a b → Frm (fun j => j = rb) a (b.setCell ⟨rb, j, none⟩ v) := fun a b j v hf => hf.setCell rb j (Or.inl rfl) v
  have hF2 : Frm (fun j => j = rb) w (Go.Proofs.Ytdbaidkepngjcaa.put5 w rb i x) := hF _ _ _ _ (hF _ _ _ _ (hF _ _ _ _ (hF _ _ _ _ (hF _ _ _ _ (Frm.refl _ w)))))
  have h5 := ((((h.row.stored (i * 5) (.int .i64 x.key)).1.stored (i * 5 + 1) (.bool x.used)).1.stored (i * 5 + 2) (.bool x.ref)).1.stored (i * 5 + 3) (.bool x.dirty)).1.stored (i * 5 + 4) (.int .i64 (x.pins : Nat))
  have h6 := h5.1
  rw [fcells_set5 L i hi x] at h6
  refine ⟨h.other hF2 h6 (by rw [List.length_set]) fun y hy => ?_, hF2⟩
  rcases List.mem_or_eq_of_mem_set hy with h7 | h7
  · exact h.num y h7
  · subst h7; exact hx
section
variable (qb rb c hd : Nat) (L : List Fr) (w : World) (h : QBox w qb rb c L hd)
include h
set_option maxRecDepth 100000 in
set_option maxHeartbeats 1000000 in
theorem ris_yes (i : Nat) (hi : i < L.length) (hu : L[i].used = true) : Calls Try.prog 39 #[.pointer (some ⟨qb, 0, none⟩), .int .i64 (i : Nat)] w fun e w' => e = .returned (.bool true) ∧ w' = w := by
  obtain ⟨c0, c1, fr⟩ := h.at
  obtain ⟨x0, x1, x2, x3, x4⟩ := h.fr hi
  rw [hu] at x1
  have hn := h.n
  clear h c1 fr x0 x2 x3 x4 hu
  generalize L.length = n at *
  go_enter Try.func39, Try.ntmps39
  go_wp2
  go_ret
  exact ⟨rfl, rfl⟩
set_option maxRecDepth 100000 in
set_option maxHeartbeats 1000000 in
theorem ris_no (a : Int) (ha : (Lit.int .i64 a).wf = true) (hno : ∀ (i : Nat) (hi : i < L.length), (i : Int) = a → L[i].used = false) : Calls Try.prog 39 #[.pointer (some ⟨qb, 0, none⟩), .int .i64 a] w fun e w' => e = .returned (.bool false) ∧ w' = w := by
  obtain ⟨c0, c1, fr⟩ := h.at
  have hn := h.n
  rcases Classical.em (a < 0) with h1 | h1
  · clear h c1 fr hno
    generalize L.length = n at *
    go_enter Try.func39, Try.ntmps39
    go_wp2
    go_ret
    exact ⟨rfl, rfl⟩
  obtain ⟨i, rfl⟩ : ∃ i : Nat, a = i := ⟨a.toNat, by omega⟩
  rcases Classical.em ((L.length : Int) ≤ (i : Nat)) with h2 | h2
  · clear h c1 fr hno
    generalize L.length = n at *
    go_enter Try.func39, Try.ntmps39
    go_wp2
    go_ret
    exact ⟨rfl, rfl⟩
  have hi : i < L.length := by omega
  have hu := hno i hi rfl
  obtain ⟨x0, x1, x2, x3, x4⟩ := h.fr hi
  rw [hu] at x1
  clear h c1 fr x0 x2 x3 x4 hu hno
  generalize L.length = n at *
  go_enter Try.func39, Try.ntmps39
  go_wp2
  go_ret
  exact ⟨rfl, rfl⟩
set_option maxRecDepth 100000 in
set_option maxHeartbeats 2000000 in
theorem rfind_any (k : Int) : Calls Try.prog 30 #[.pointer (some ⟨qb, 0, none⟩), .int .i64 k] w fun e w' => ((∃ (i : Nat) (x : Fr), L[i]? = some x ∧ x.used = true ∧ x.key = k ∧ e = .returned (.tuple #[.int .i64 (i : Nat), .bool true])) ∨ ((∀ x ∈ L, x.used = true → x.key ≠ k) ∧ e = .returned (.tuple #[.int .i64 0, .bool false]))) ∧ w' = w := by
  have H := Lib.hid h
  obtain ⟨c0, c1, fr⟩ := h.at
  have hn := h.n
  obtain ⟨n, hnn⟩ : ∃ n, L.length = n := ⟨_, rfl⟩
  have HN := Lib.hid hnn
  rw [hnn] at c0 hn
  clear h c1 fr hnn
  go_enter Try.func30, Try.ntmps30
  go_wp2
  go_loopw [6] (fun i wx => ∃ q : Nat, q ≤ n ∧ i = .int .i64 q ∧ (∀ (r : Nat) (x : Fr), r < q → L[r]? = some x → x.used = true → x.key ≠ k) ∧ wx = w) (fun i wx => n - (intOf i).toNat)
  case atStart => exact ⟨0, by omega, rfl, fun r x hr => by omega, rfl⟩
  case round =>
    obtain ⟨q, hq, rfl, hno, rfl⟩ := hrel
    have HNO := Lib.hid hno
    clear hno
    by_cases hlt : q < n
    · have hqL : q < L.length := by rw [HN.out]; exact hlt
      obtain ⟨x0, x1, x2, x3, x4⟩ := H.out.fr hqL
      have hxe : L[q]? = some L[q] := List.getElem?_eq_getElem hqL
      generalize L[q] = x at *
      have HXE := Lib.hid hxe
      clear x2 x3 x4 hxe
      obtain ⟨xk, xu, xr, xd, xp⟩ := x
      dsimp only at x0 x1
      have HNX := Lib.hid (fun (hh : ¬ (xu = true ∧ xk = k)) => (show ∀ (r : Nat) (x : Fr), r < q + 1 → L[r]? = some x → x.used = true → x.key ≠ k from fun r x hr hx hu => by
        rcases Nat.lt_or_ge r q with h1 | h1
        · exact HNO.out r x h1 hx hu
        · obtain rfl : r = q := by omega
          have hz := hx.symm.trans HXE.out
          injection hz with hz
          subst hz
          exact fun e => hh ⟨hu, e⟩))
      cases xu with
      | false =>
        go_wp2
        go_roundw
        case rel => exact ⟨q + 1, by omega, by go_num, HNX.out (by simp), trivial⟩
        case measure => simp [intOf]; omega
      | true =>
        by_cases hk : xk = k
        · subst hk
          go_wp2
          go_ret2
          exact ⟨Or.inl ⟨q, _, HXE.out, rfl, rfl, rfl⟩, rfl⟩
        · have hkb : (xk == k) = false := by rw [beq_eq_false_iff_ne]; exact hk
          go_wp2
          go_roundw
          case rel => exact ⟨q + 1, by omega, by go_num, HNX.out (by simp [hk]), trivial⟩
          case measure => simp [intOf]; omega
    · go_wp2
      go_ret2
      exact ⟨Or.inr ⟨fun x hx hu => by
        obtain ⟨r, hr, rfl⟩ := List.getElem_of_mem hx
        exact HNO.out r _ (by have := HN.out; omega) (List.getElem?_eq_getElem hr) hu, rfl⟩, rfl⟩
end
end Go.Proofs.Ytdbaidkepngjcaa
