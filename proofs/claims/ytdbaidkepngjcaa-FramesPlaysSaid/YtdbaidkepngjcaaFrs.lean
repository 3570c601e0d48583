/- The document's pool of frames: Touch, At, Count. Conditions: none. -/
import Derived.Test.YtdbaidkepngjcaaFrr
namespace Go.Proofs.Ytdbaidkepngjcaa
open Go.ChangeShapes Go.WideShapes Go.ChangeAt Go.RowKit Go.Maps
set_option linter.unusedSimpArgs false
set_option linter.unusedVariables false
section
variable (qb rb c hd : Nat) (L : List Fr) (w : World) (h : QBox w qb rb c L hd)
include h
set_option maxRecDepth 100000 in
set_option maxHeartbeats 2000000 in
theorem rtouch_yes (i : Nat) (wr : Bool) (hi : i < L.length) (hu : L[i].used = true) : Calls Try.prog 23 #[.pointer (some ⟨qb, 0, none⟩), .int .i64 (i : Nat), .bool wr] w fun e w' => e = .returned (.int .i64 0) ∧ QBox w' qb rb c (L.set i ⟨L[i].key, L[i].used, true, L[i].dirty || wr, L[i].pins⟩) hd ∧ Frm (fun j => j = rb) w w' := by
  have HU := Lib.hid (ris_yes qb rb c hd L w h i hi hu)
  have hpn := (h.num _ (List.getElem_mem hi)).2
  have c0 := h.at.1
  have g2 := h.frozen (i * 5 + 2)
  have x2 := (h.fr hi).2.2.1
  obtain ⟨hT1, hF1⟩ := h.touch i 2 hi (by omega) (.bool true) ⟨L[i].key, L[i].used, true, L[i].dirty, L[i].pins⟩ rfl rfl hpn
  have hi1 : i < (L.set i ⟨L[i].key, L[i].used, true, L[i].dirty, L[i].pins⟩).length := by simpa using hi
  have hT2 := hT1.touch i 3 hi1 (by omega) (.bool (L[i].dirty || wr)) ⟨L[i].key, L[i].used, true, L[i].dirty || wr, L[i].pins⟩ (by rw [List.getElem_set_self]; rfl) (by rw [List.getElem_set_self]) hpn
  rw [List.set_set] at hT2
  have c01 := hT1.at.1
  rw [List.length_set] at c01
  have x31 := (hT1.fr hi1).2.2.2.1
  rw [List.getElem_set_self] at x31
  have x31 : (w.setCell ⟨rb, i * 5 + 2, none⟩ (.bool true)).cell? ⟨rb, i * 5 + 3, none⟩ = some (.bool L[i].dirty) := x31
  have g31 := hT1.frozen (i * 5 + 3)
  have HT2 := Lib.hid hT2
  have HF1 := Lib.hid hF1
  have hn := h.n
  clear h hu hT1 hF1 hT2 hi1
  generalize hfx : L[i] = x at *
  generalize hw1 : w.setCell ⟨rb, i * 5 + 2, none⟩ (.bool true) = w1 at *
  have HW1 := Lib.hid hw1
  clear hw1
  go_enter Try.func23, Try.ntmps23
  go_wp2_with fail
  refine HU.out.mono ?_
  rintro e w' ⟨rfl, rfl⟩
  go_upto_region 4 with (fail)
  rw [HW1.out]
  clear HW1
  refine region_ordL (fun wz => wz = w1.drew) true [false, false, false, false, false, false, false, false, false, false, false, false, false, false, false, false, false, false, false] (by kernel_rfl) (by kernel_rfl) (by kernel_rfl) (by kernel_rfl) rfl ?_
  iterate 14 (refine ord_val (by rfl) (by intro wz hi; subst hi; go_simp; with_reducible rfl) (fun K hK => ?_); go_simp; refine hK _ ?_; clear hK K)
  have HT2 := Lib.hid (show QBox (w1.setCell ⟨rb, i * 5 + 3, none⟩ (.bool (x.dirty || wr))).drew qb rb c (L.set i ⟨x.key, x.used, true, x.dirty || wr, x.pins⟩) hd ∧ Frm (fun j => j = rb) w' (w1.setCell ⟨rb, i * 5 + 3, none⟩ (.bool (x.dirty || wr))).drew from ⟨HT2.out.1.next ((Frm.refl _ _).drew), (HF1.out.trans HT2.out.2).trans ((Frm.refl _ _).drew)⟩)
  clear HF1
  cases hxd : x.dirty with
  | true =>
    rw [hxd] at HT2
    (refine ord_not (by rfl) (fun K hK => ?_); go_simp; refine hK _ ?_; clear hK K)
    iterate 3 (refine ord_val (by rfl) (by intro wz hi; subst hi; go_simp; with_reducible rfl) (fun K hK => ?_); go_simp; refine hK _ ?_; clear hK K)
    refine ord_last (by rfl) ?_
    refine gets_sem ?_
    go_simp
    go_wp2
    go_ret
    exact ⟨rfl, by have h9 := HT2.out; simp only [Bool.true_or, Bool.false_or] at h9; simpa only [hxd, Bool.true_or, Bool.false_or] using h9⟩
  | false =>
    rw [hxd] at HT2
    iterate 4 (refine ord_val (by rfl) (by intro wz hi; subst hi; go_simp; with_reducible rfl) (fun K hK => ?_); go_simp; refine hK _ ?_; clear hK K)
    refine ord_last (by rfl) ?_
    refine gets_sem ?_
    go_simp
    go_wp2
    go_ret
    exact ⟨rfl, by have h9 := HT2.out; simp only [Bool.true_or, Bool.false_or] at h9; simpa only [hxd, Bool.true_or, Bool.false_or] using h9⟩
set_option maxRecDepth 100000 in
set_option maxHeartbeats 1000000 in
theorem rat_yes (i : Nat) (hi : i < L.length) : Calls Try.prog 29 #[.pointer (some ⟨qb, 0, none⟩), .int .i64 (i : Nat)] w fun e w' => e = .returned (.tuple #[frV L[i], .int .i64 0]) ∧ Frm (fun _ => False) w w' := by
  have hn := h.n
  have hf1 : Frm (fun _ => False) w (w.alloc (.cells #[.int .i64 0, .bool false, .bool false, .bool false, .int .i64 0] 59)) := (Frm.refl (fun _ => False) w).alloc _
  have h1 := h.next hf1
  obtain ⟨c0, c1, fr⟩ := h1.at
  obtain ⟨x0, x1, x2, x3, x4⟩ := h1.fr hi
  obtain ⟨l1, l2⟩ := h.lt
  clear h h1 c1 fr hf1
  generalize L[i] = x at *
  generalize L.length = n at *
  go_enter Try.func29, Try.ntmps29
  go_wp2
  refine bodyPost_ret (v := .tuple #[frV x, .int .i64 0]) ?_ rfl ⟨rfl, (Frm.refl _ w).alloc _⟩
  have hr := run_loadVar_row (P := Try.prog) (w.alloc (.cells (frL x).toArray 59)) w.heap.size 59 59 (frL x).toArray (0, 0) _ (heap_alloc_new w (.cells (frL x).toArray 59)) Try.underlying59 rfl (by kernel_rfl)
  simp [frL] at hr
  simp [results, Try.f29, asAddr, hr, frV, frL]
set_option maxRecDepth 100000 in
set_option maxHeartbeats 1000000 in
theorem rat_no (a : Int) (ha : (Lit.int .i64 a).wf = true) (hno : a < 0 ∨ (L.length : Int) ≤ a) : Calls Try.prog 29 #[.pointer (some ⟨qb, 0, none⟩), .int .i64 a] w fun e w' => e = .returned (.tuple #[frV Fr.zero, .int .i64 2]) ∧ Frm (fun _ => False) w w' := by
  have hn := h.n
  have h1 := h.next ((Frm.refl (fun _ => False) w).alloc (.cells #[.int .i64 0, .bool false, .bool false, .bool false, .int .i64 0] 59))
  obtain ⟨c0, c1, fr⟩ := h1.at
  obtain ⟨l1, l2⟩ := h.lt
  clear h h1 c1 fr
  have hr := run_loadVar_row (P := Try.prog) (w.alloc (.cells (frL Fr.zero).toArray 59)) w.heap.size 59 59 (frL Fr.zero).toArray (0, 0) _ (heap_alloc_new w (.cells (frL Fr.zero).toArray 59)) Try.underlying59 rfl (by kernel_rfl)
  simp [frL, Fr.zero] at hr
  have HR := Lib.hid hr
  clear hr
  generalize L.length = n at *
  rcases Classical.em (a < 0) with h1 | h1
  · go_enter Try.func29, Try.ntmps29
    go_wp2
    refine bodyPost_ret (v := .tuple #[frV Fr.zero, .int .i64 2]) ?_ rfl ⟨rfl, (Frm.refl _ w).alloc _⟩
    have hr := HR.out
    simp [results, Try.f29, asAddr, hr, frV, frL, Fr.zero]
  · have h2 : (n : Int) ≤ a := by omega
    clear hno
    go_enter Try.func29, Try.ntmps29
    go_wp2
    refine bodyPost_ret (v := .tuple #[frV Fr.zero, .int .i64 2]) ?_ rfl ⟨rfl, (Frm.refl _ w).alloc _⟩
    have hr := HR.out
    simp [results, Try.f29, asAddr, hr, frV, frL, Fr.zero]
set_option maxRecDepth 100000 in
set_option maxHeartbeats 4000000 in
theorem rcount_any : Calls Try.prog 31 #[.pointer (some ⟨qb, 0, none⟩)] w fun e w' => e = .returned (.tuple #[.int .i64 (cU L : Nat), .int .i64 (cD L : Nat), .int .i64 (cP L : Nat)]) ∧ w' = w := by
  have hn := h.n
  have H := Lib.hid h
  obtain ⟨c0, c1, fr⟩ := h.at
  have HE := Lib.hid (show cU L = ((L.take L.length).countP (·.used)) ∧ cD L = ((L.take L.length).countP (·.dirty)) ∧ cP L = ((L.take L.length).countP (fun x => decide (0 < x.pins))) from by rw [List.take_length]; exact ⟨rfl, rfl, rfl⟩)
  obtain ⟨n, hnn⟩ : ∃ n, L.length = n := ⟨_, rfl⟩
  rw [hnn] at c0 hn HE
  have HN := Lib.hid hnn
  clear h c1 fr hnn
  go_enter Try.func31, Try.ntmps31
  go_wp2
  go_loopw [5, 6, 7, 8] (fun u d k i wx => ∃ q : Nat, q ≤ n ∧ i = .int .i64 q ∧ u = .int .i64 ((L.take q).countP (·.used) : Nat) ∧ d = .int .i64 ((L.take q).countP (·.dirty) : Nat) ∧ k = .int .i64 ((L.take q).countP (fun x => decide (0 < x.pins)) : Nat) ∧ wx = w) (fun u d k i wx => n - (intOf i).toNat)
  case atStart => exact ⟨0, by omega, rfl, rfl, rfl, rfl, rfl⟩
  case round =>
    obtain ⟨q, hq, rfl, rfl, rfl, rfl, rfl⟩ := hrel
    have b1 := cnt_le (·.used) L q
    have b2 := cnt_le (·.dirty) L q
    have b3 := cnt_le (fun x => decide (0 < x.pins)) L q
    by_cases hlt : q < n
    · have hqL : q < L.length := by rw [HN.out]; exact hlt
      have n1 := cnt_take (·.used) L q hqL
      have n2 := cnt_take (·.dirty) L q hqL
      have n3 := cnt_take (fun x => decide (0 < x.pins)) L q hqL
      obtain ⟨x0, x1, x2, x3, x4⟩ := H.out.fr hqL
      have hpin := (H.out.num _ (List.getElem_mem hqL)).2
      obtain ⟨u', hu'⟩ : ∃ u', (L.take (q + 1)).countP (·.used) = u' := ⟨_, rfl⟩
      obtain ⟨d', hd'⟩ : ∃ u', (L.take (q + 1)).countP (·.dirty) = u' := ⟨_, rfl⟩
      obtain ⟨k', hk'⟩ : ∃ u', (L.take (q + 1)).countP (fun x => decide (0 < x.pins)) = u' := ⟨_, rfl⟩
      rw [hu'] at n1
      rw [hd'] at n2
      rw [hk'] at n3
      have HU := Lib.hid hu'
      have HD := Lib.hid hd'
      have HK := Lib.hid hk'
      generalize L[q] = x at *
      generalize (L.take q).countP (·.used) = u at *
      generalize (L.take q).countP (·.dirty) = d at *
      generalize (L.take q).countP (fun x => decide (0 < x.pins)) = k at *
      clear hu' hd' hk'
      obtain ⟨xk, xu, xr, xd, xp⟩ := x
      dsimp only at n1 n2 n3 x0 x1 x2 x3 x4 hpin
      cases xu <;> cases xd <;> by_cases hp : 0 < xp
      all_goals
        (try simp only [hp, decide_true, decide_false, Bool.false_eq_true, if_true, if_false, Nat.add_zero] at n1 n2 n3)
        subst n1 n2 n3
        go_wp2
        go_roundw
        case rel => exact ⟨q + 1, by omega, by go_num, by rw [HU.out]; (try go_num), by rw [HD.out]; (try go_num), by rw [HK.out]; (try go_num), trivial⟩
        case measure => simp [intOf]; omega
    · have : q = n := by omega
      subst this
      have h1 := HE.out.1
      have h2 := HE.out.2.1
      have h3 := HE.out.2.2
      rw [← h1, ← h2, ← h3]
      clear H HE h1 h2 h3 b1 b2 b3
      obtain ⟨u, hu⟩ : ∃ u, cU L = u := ⟨_, rfl⟩
      obtain ⟨d, hd⟩ : ∃ u, cD L = u := ⟨_, rfl⟩
      obtain ⟨k, hk⟩ : ∃ u, cP L = u := ⟨_, rfl⟩
      rw [hu, hd, hk]
      go_wp2
      go_ret3
      exact ⟨by rw [hu, hd, hk]; rfl, rfl⟩
end
end Go.Proofs.Ytdbaidkepngjcaa
