/- The pool of frames: which is given up. Conditions: none. -/
import Derived.Test.YtdbaidkepngjcaaFrb
import Derived.WalkMore
namespace Go.Proofs.Ytdbaidkepngjcaa
open Go.ChangeShapes Go.WideShapes Go.ChangeAt Go.RowKit Go.Maps
set_option linter.unusedSimpArgs false
set_option linter.unusedVariables false
/-- may the hand stop behind q? -/
def cand (p : Pl) (q : Nat) : Bool := match p.L[(p.hand + q) % p.L.length]? with
  | none => false
  | some x => x.used && decide (x.pins = 0) && (!x.ref || decide (p.L.length ≤ q))
theorem Below.of_frm {a b : World} (h : Frm (fun _ => False) a b) : Below a.heap.size a b := h.below (fun _ e => e.elim) (Nat.le_refl _)
set_option maxRecDepth 100000 in
set_option maxHeartbeats 4000000 in
theorem search_any (pb lb mb m : Nat) (p : Pl) (w : World) (h : PBox w pb lb mb m p) : Calls Try.prog 35 #[.pointer (some ⟨pb, 0, none⟩)] w fun e w' => ((∃ q : Nat, q < 2 * p.L.length ∧ cand p q = true ∧ (∀ r, r < q → cand p r = false) ∧ e = .returned (.tuple #[.int .i64 (((p.hand + q) % p.L.length : Nat) : Int), .int .i64 (q : Nat), .bool true])) ∨ ((∀ r, r < 2 * p.L.length → cand p r = false) ∧ e = .returned (.tuple #[.int .i64 0, .int .i64 0, .bool false]))) ∧ Frm (fun _ => False) w w' := by
  have H := Lib.hid h
  obtain ⟨c0, c1, c2, c3, fr⟩ := h.at
  have hnn := h.ok.n
  have hhd := h.ok.hand
  obtain ⟨n, hn⟩ : ∃ n, p.L.length = n := ⟨_, rfl⟩
  have HN := Lib.hid hn
  rw [hn] at c0 hnn hhd ⊢
  have H2 : IntKind.i64.wrap (2 * ((n : Nat) : Int)) = ((2 * n : Nat) : Int) := by rw [IntKind.wrap_i64]; omega
  clear h hn c1 c2 c3 fr
  go_enter Try.func35, Try.ntmps35
  go_wp2
  go_step3
  go_wp2
  go_step3
  go_wp2
  go_loopw [14] (fun i wx => ∃ q : Nat, q ≤ 2 * n ∧ i = .int .i64 q ∧ (∀ r, r < q → cand p r = false) ∧ Frm (fun _ => False) w wx) (fun i wx => 2 * n - (intOf i).toNat)
  case atStart => exact ⟨0, by omega, rfl, fun r hr => by omega, Frm.refl _ _⟩
  case round =>
    obtain ⟨q, hq, rfl, hno, hF⟩ := hrel
    by_cases hlt : q < 2 * n
    · have HNO := Lib.hid hno
      have HF := Lib.hid hF
      have hP := H.out.next hF
      obtain ⟨d0, d1, d2, d3, fr⟩ := hP.at
      rw [HN.out] at d0
      obtain ⟨c, hc⟩ : ∃ c, (p.hand + q) % n = c := ⟨_, rfl⟩
      have hcn : c < n := by rw [← hc]; exact Nat.mod_lt _ (by omega)
      have hcl : c < p.L.length := by rw [HN.out]; exact hcn
      obtain ⟨x0, x1, x2, x3, x4⟩ := hP.fr hcl
      have hpin := (hP.ok.num _ (List.getElem_mem hcl)).2
      obtain ⟨x, hx⟩ : ∃ x, p.L[c] = x := ⟨_, rfl⟩
      have hxe : p.L[c]? = some x := by rw [← hx]; exact List.getElem?_eq_getElem hcl
      rw [hx] at x0 x1 x2 x3 x4 hpin
      have hcd : cand p q = (x.used && decide (x.pins = 0) && (!x.ref || decide (n ≤ q))) := by
        unfold cand
        rw [HN.out, hc, hxe]
      clear hx hxe hcl
      have HCD := Lib.hid hcd
      have HC := Lib.hid (show ∀ w2, Grow wr.drew w2 → w2.cell? ⟨pb, 0, none⟩ = some (.slice (some ⟨lb, 0, none⟩) n n) ∧ w2.cell? ⟨pb, 2, none⟩ = some (.int .i64 (p.hand : Nat)) ∧ w2.cell? ⟨lb, c * 5, none⟩ = some (.int .i64 x.key) ∧ w2.cell? ⟨lb, c * 5 + 1, none⟩ = some (.bool x.used) ∧ w2.cell? ⟨lb, c * 5 + 2, none⟩ = some (.bool x.ref) ∧ w2.cell? ⟨lb, c * 5 + 3, none⟩ = some (.bool x.dirty) ∧ w2.cell? ⟨lb, c * 5 + 4, none⟩ = some (.int .i64 (x.pins : Nat)) from fun w2 hg => by
        have k1 : w2.heap[pb]? = wr.heap[pb]? := hg.block pb hP.lt.1
        have k2 : w2.heap[lb]? = wr.heap[lb]? := hg.block lb hP.lt.2.1
        exact ⟨(World.cell?_of_block (a := ⟨pb, 0, none⟩) k1).trans d0, (World.cell?_of_block (a := ⟨pb, 2, none⟩) k1).trans d2, (World.cell?_of_block (a := ⟨lb, c * 5, none⟩) k2).trans x0, (World.cell?_of_block (a := ⟨lb, c * 5 + 1, none⟩) k2).trans x1, (World.cell?_of_block (a := ⟨lb, c * 5 + 2, none⟩) k2).trans x2, (World.cell?_of_block (a := ⟨lb, c * 5 + 3, none⟩) k2).trans x3, (World.cell?_of_block (a := ⟨lb, c * 5 + 4, none⟩) k2).trans x4⟩)
      have P1 := Lib.hid (show IntKind.i64.wrap (((p.hand : Nat) : Int) + ((q : Nat) : Int)) = ((p.hand + q : Nat) : Int) by rw [IntKind.wrap_i64]; omega)
      have P2 := Lib.hid (show Int.tmod (((p.hand : Nat) : Int) + ((q : Nat) : Int)) ((n : Nat) : Int) = ((c : Nat) : Int) by rw [Int.tmod_eq_emod_of_nonneg (by omega), ← hc]; show ((p.hand + q : Nat) : Int) % ((n : Nat) : Int) = _; rfl)
      have hn0 : ¬ n = 0 := by omega
      have HP := Lib.hid hP
      clear hno hF hP d0 d1 d2 d3 fr x0 x1 x2 x3 x4 hcd
      go_upto_region 5 with (fail)
      refine region_ord (Grow wr.drew) [false, false, false, false, false, false, false, false, false, false, false, false, false, false, true, true] (by kernel_rfl) (by kernel_rfl) (by kernel_rfl) (Grow.refl _) ?_
      iterate 3 (refine ord_val (by rfl) (by intro w hi; clear hi; go_simp; with_reducible rfl) (fun K hK => ?_); go_simp; refine hK _ ?_; clear hK K)
      (refine ord_val (by rfl) (by intro w hi; have z := (HC.out w hi).1; clear hi; go_simp; with_reducible rfl) (fun K hK => ?_); go_simp; refine hK _ ?_; clear hK K)
      iterate 3 (refine ord_val (by rfl) (by intro w hi; clear hi; go_simp; with_reducible rfl) (fun K hK => ?_); go_simp; refine hK _ ?_; clear hK K)
      (refine ord_val (by rfl) (by intro w hi; have z := (HC.out w hi).2.1; clear hi; go_simp; with_reducible rfl) (fun K hK => ?_); go_simp; refine hK _ ?_; clear hK K)
      (refine ord_val (by rfl) (by intro w hi; clear hi; go_simp; with_reducible rfl) (fun K hK => ?_); go_simp; refine hK _ ?_; clear hK K)
      (refine ord_val (by rfl) (by intro w hi; have p1 := P1.out; clear hi; go_simp; with_reducible rfl) (fun K hK => ?_); go_simp; refine hK _ ?_; clear hK K)
      (refine ord_val (by rfl) (by intro w hi; clear hi; go_simp; with_reducible rfl) (fun K hK => ?_); go_simp; refine hK _ ?_; clear hK K)
      (refine ord_val (by rfl) (by intro w hi; have p2 := P2.out; clear hi; go_simp; with_reducible rfl) (fun K hK => ?_); go_simp; refine hK _ ?_; clear hK K)
      (refine ord_val (by rfl) (by intro w hi; clear hi; go_simp; with_reducible rfl) (fun K hK => ?_); go_simp; refine hK _ ?_; clear hK K)
      (refine ord_val (by rfl) (by intro w hi; obtain ⟨_, _, z0, z1, z2, z3, z4⟩ := HC.out w hi; clear hi; go_simp; with_reducible rfl) (fun K hK => ?_); go_simp; refine hK _ ?_; clear hK K)
      refine ord_eff (by rfl) (fun K hK => ?_)
      refine gets_sem ?_
      go_simp
      refine ⟨(Below.refl wr.drew.heap.size wr.drew).alloc (Nat.le_refl _) _, hK _ _ ?_⟩
      clear hK K
      refine ord_eff (by rfl) (fun K hK => ?_)
      refine gets_sem ?_
      go_simp
      have hF6 : Frm (fun _ => False) wr (wr.alloc (.cells #[.int .i64 x.key, .bool x.used, .bool x.ref, .bool x.dirty, .int .i64 (x.pins : Nat)] 38)).drew := ((Frm.refl (fun _ => False) wr).alloc _).drew
      have hx6 := heap_alloc_new wr (.cells #[.int .i64 x.key, .bool x.used, .bool x.ref, .bool x.dirty, .int .i64 (x.pins : Nat)] 38)
      have hx6d : (wr.alloc (.cells #[.int .i64 x.key, .bool x.used, .bool x.ref, .bool x.dirty, .int .i64 (x.pins : Nat)] 38)).drew.heap[wr.heap.size]? = some (.cells #[.int .i64 x.key, .bool x.used, .bool x.ref, .bool x.dirty, .int .i64 (x.pins : Nat)] 38 (0, 0)) := hx6
      clear hx6
      have hG6 : Grow wr.drew (wr.alloc (.cells #[.int .i64 x.key, .bool x.used, .bool x.ref, .bool x.dirty, .int .i64 (x.pins : Nat)] 38)).drew := (Below.refl wr.drew.heap.size wr.drew).alloc (Nat.le_refl _) _
      generalize (wr.alloc (.cells #[.int .i64 x.key, .bool x.used, .bool x.ref, .bool x.dirty, .int .i64 (x.pins : Nat)] 38)).drew = W6 at hF6 hx6d hG6 ⊢
      refine ⟨hG6, hK _ _ ?_⟩
      clear hK K
      refine ord_nil ?_
      have y1 := cell_of_row W6 wr.heap.size 1 _ _ _ hx6d
      have y2 := cell_of_row W6 wr.heap.size 2 _ _ _ hx6d
      have y4 := cell_of_row W6 wr.heap.size 4 _ _ _ hx6d
      have yh := (World.cell?_of_block (a := ⟨pb, 2, none⟩) (hF6.block pb HP.out.lt.1 id)).trans HP.out.at.2.2.1
      have HF6 := Lib.hid hF6
      clear hF6 hx6d
      have p1 := P1.out
      have p2 := P2.out
      cases hu : x.used with
      | false =>
        rw [hu] at y1
        have HNO2 := Lib.hid (show ∀ r, r < q + 1 → cand p r = false from fun r hr2 => by
          rcases Nat.lt_or_ge r q with h1 | h1
          · exact HNO.out r h1
          · obtain rfl : r = q := by omega
            rw [HCD.out]
            simp [hu])
        clear p1 p2
        go_wp2
        go_roundw
        case rel => exact ⟨q + 1, by omega, by go_num, HNO2.out, HF.out.trans HF6.out⟩
        case measure => simp [intOf]; omega
      | true =>
        rw [hu] at y1
        by_cases hp : x.pins = 0
        · rw [hp] at y4
          cases hr : x.ref with
          | false =>
            rw [hr] at y2
            have HYES := Lib.hid (show cand p q = true by
              rw [HCD.out]
              simp [hu, hp, hr])
            go_wp2
            rw [Exit.noGoto_ret]
            go_ret3
            exact ⟨Or.inl ⟨q, by omega, HYES.out, HNO.out, by rw [hc]; rfl⟩, HF.out.trans HF6.out⟩
          | true =>
            rw [hr] at y2
            by_cases hqn : q < n
            · have HNO2 := Lib.hid (show ∀ r, r < q + 1 → cand p r = false from fun r hr2 => by
                rcases Nat.lt_or_ge r q with h1 | h1
                · exact HNO.out r h1
                · obtain rfl : r = q := by omega
                  rw [HCD.out]
                  simp [hu, hp, hr] <;> omega)
              clear p1 p2
              go_wp2
              go_roundw
              case rel => exact ⟨q + 1, by omega, by go_num, HNO2.out, HF.out.trans HF6.out⟩
              case measure => simp [intOf]; omega
            · have HYES := Lib.hid (show cand p q = true by
                rw [HCD.out]
                simp [hu, hp, hr] <;> omega)
              go_wp2
              rw [Exit.noGoto_ret]
              go_ret3
              exact ⟨Or.inl ⟨q, by omega, HYES.out, HNO.out, by rw [hc]; rfl⟩, HF.out.trans HF6.out⟩
        · have hp' : 0 < x.pins := by omega
          have HNO2 := Lib.hid (show ∀ r, r < q + 1 → cand p r = false from fun r hr2 => by
            rcases Nat.lt_or_ge r q with h1 | h1
            · exact HNO.out r h1
            · obtain rfl : r = q := by omega
              rw [HCD.out]
              simp [hu, hp])
          clear p1 p2
          go_wp2
          go_roundw
          case rel => exact ⟨q + 1, by omega, by go_num, HNO2.out, HF.out.trans HF6.out⟩
          case measure => simp [intOf]; omega
    · obtain rfl : q = 2 * n := by omega
      have HNO := Lib.hid hno
      have HF := Lib.hid hF
      clear hno hF
      go_wp2
      rw [Exit.noGoto_ret]
      go_ret3
      exact ⟨Or.inr ⟨HNO.out, rfl⟩, HF.out⟩
end Go.Proofs.Ytdbaidkepngjcaa
