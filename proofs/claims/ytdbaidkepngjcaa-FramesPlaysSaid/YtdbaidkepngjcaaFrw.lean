/- The document's pool of frames: New, Victim. Conditions: none. -/
import Derived.Test.YtdbaidkepngjcaaFrv
import Derived.Maps.AppendAt
namespace Go.Proofs.Ytdbaidkepngjcaa
open Go.ChangeShapes Go.WideShapes Go.ChangeAt Go.RowKit Go.Maps
set_option linter.unusedSimpArgs false
set_option linter.unusedVariables false
section
variable {P : Program} (w : World)
/-- a row of wide elements is appended, as one operation -/
theorem gets_append_at {o : Oper} {a : Act} {R : Value → World → Prop} (s x : Operand) (t : TypeId)
    (ho : o.op = .call { callee := .builtin .append, args := #[s, x], argTypes := #[t, t] })
    (base : Nat) (e : TypeId) (z : Value) (size bytes : Nat) (ht : P.underlying t = some (.slice e)) (hi : (P.info? e).map (fun i => (i.zero, i.size, i.bytes)) = some (some z, size, bytes))
    (hz1 : z.cells.size = size) (hsz : 0 < size) (v : Value) (n : Nat) (xs : List Value) (hs : a.eval s = v) (hown : w.ownsRow base e size v n xs) (ad : Addr) (m c : Nat) (news : List Value) (hx : a.eval x = .slice (some ad) m c) (hl : news.length = m * size)
    (hnews : ∀ j u, news[j]? = some u → w.cell? (ad.add j) = some u) (h1 : ∀ u ∈ news, u.oneCell' = true)
    (hbytes : (n + m) * bytes ≤ 140737488355328) (hb1 : 0 < bytes) (hbase : base ≤ w.heap.size)
    (h : ∀ v' w', w'.ownsRow base e size v' (n + m) (xs ++ news) → w.grownBy w' v.ownBlock → (v'.ownBlock = v.ownBlock ∨ v'.ownBlock = some w.heap.size) → R v' w') : Gets P o a w R := by
  obtain ⟨i, hi1, hi2, hi3, hi4⟩ : ∃ i, P.info? e = some i ∧ i.zero = some z ∧ i.size = size ∧ i.bytes = bytes := by
    cases hq : P.info? e with
    | none => rw [hq] at hi; cases hi
    | some i =>
      rw [hq] at hi
      simp only [Option.map_some, Option.some.injEq, Prod.mk.injEq] at hi
      exact ⟨i, rfl, hi.1, hi.2.1, hi.2.2⟩
  have h63 : n + m ≤ maxLen := by
    unfold maxLen
    have : n + m ≤ (n + m) * bytes := Nat.le_mul_of_pos_right _ hb1
    omega
  obtain ⟨v', w', hrun, h2, h3, _, h5⟩ := run_append_own_at (P := P) w base t o.type e i z size bytes ht hi1 hi2 hi3 hi4 hz1 hsz v n xs hown ad m c news hl hnews h1 h63 hbytes hbase
  refine gets_run (v := v') (w' := w') ?_ (h v' w' h2 h3 h5)
  unfold execOp
  simp only [ho, resolve, invoke, builtin, Sem.run_bind, Sem.run_pure, Result.andThen_ok, List.map_toArray, List.map_cons, List.map_nil, hs, hx, hrun]
end
theorem fcells_one (L : List Fr) : ∀ u ∈ fcells L, u.oneCell' = true := by
  intro u hu
  unfold fcells at hu
  rw [List.mem_flatMap] at hu
  obtain ⟨x, _, hx⟩ := hu
  simp only [frL, List.mem_cons, List.not_mem_nil, or_false] at hx
  rcases hx with rfl | rfl | rfl | rfl | rfl <;> rfl
theorem infFrR : (Try.prog.info? 59).map (fun i => (i.zero, i.size, i.bytes)) = some (some (frV Fr.zero), 5, 24) := by kernel_rfl
theorem run_framesR (w : World) (n : Nat) (hn : n ≤ 4096) : ∃ w', (Instr.makeSlice 56 (.int .i64 (n : Int)) (.int .i64 (n : Int))).run Try.prog w = .ok (.slice (some ⟨w.heap.size, 0, none⟩) n n) w' ∧ w'.ownsRow 0 59 5 (.slice (some ⟨w.heap.size, 0, none⟩) n n) n (fcells (List.replicate n Fr.zero)) ∧ w.grownBy w' none := by
  obtain ⟨i, hi1, hi2, hi3, hi4⟩ := info_parts infFrR
  have h := run_make_full (P := Try.prog) w 0 56 59 i (frV Fr.zero) 5 Try.underlying56 hi1 hi2 hi3 .i64 .i64 n (by rw [hi4]; omega) (by unfold maxLen; omega) (Nat.zero_le _)
  rw [made_frames] at h
  exact h
set_option maxRecDepth 100000 in
set_option maxHeartbeats 1000000 in
theorem rnew_ok (n : Nat) (hn : 1 ≤ n ∧ n ≤ 4096) (w : World) : Calls Try.prog 9 #[.int .i64 (n : Nat)] w fun e w' => ∃ qb rb, w.heap.size ≤ qb ∧ w.heap.size ≤ rb ∧ e = .returned (.tuple #[.pointer (some ⟨qb, 0, none⟩), .int .i64 0]) ∧ QBox w' qb rb n (List.replicate n Fr.zero) 0 ∧ Frm (fun _ => False) w w' := by
  obtain ⟨w1, hrun1, ho1, hg1⟩ := run_framesR w n hn.2
  have hF1 : Frm (fun _ => False) w w1 := Frm.of_below ((Below.refl _ _).grown hg1 (Nat.le_refl _) (by intro g h; cases h))
  have hlt : w.heap.size < w1.heap.size := own_lt ho1 rfl
  have hF2 : Frm (fun _ => False) w1 (w1.alloc (.cells #[.slice (some ⟨w.heap.size, 0, none⟩) n n, .int .i64 0] 58)) := (Frm.refl _ w1).alloc _
  have hc := heap_alloc_new w1 (.cells #[.slice (some ⟨w.heap.size, 0, none⟩) n n, .int .i64 0] 58)
  have hP : QBox (w1.alloc (.cells #[.slice (some ⟨w.heap.size, 0, none⟩) n n, .int .i64 0] 58)) w1.heap.size w.heap.size n (List.replicate n Fr.zero) 0 := by
    refine ⟨?_, ?_, by omega, ?_, by omega, ?_, ?_⟩
    · rw [List.length_replicate]
      exact hc
    · rw [List.length_replicate]
      exact own_keep ho1 (fun g hg => by injection hg with hg; subst hg; exact hF2.block _ hlt id)
    · rw [List.length_replicate]; exact hn
    · rw [List.length_replicate]; omega
    · intro x hx
      rw [(List.mem_replicate.1 hx).2]
      exact ⟨rfl, by simp [Fr.zero]⟩
  have HP := Lib.hid hP
  have HF := Lib.hid (hF1.trans hF2)
  have hle := hF1.size
  clear ho1 hg1 hF1 hF2 hc hP
  go_enter Try.func9, Try.ntmps9
  go_wp2
  go_ret2
  exact ⟨w1.heap.size, w.heap.size, hle, Nat.le_refl _, rfl, HP.out, HF.out⟩
set_option maxRecDepth 100000 in
theorem rnew_no (n : Int) (hn : n < 1 ∨ 4096 < n) (w : World) : Calls Try.prog 9 #[.int .i64 n] w fun e w' => e = .returned (.tuple #[.pointer none, .int .i64 1]) ∧ w' = w := by
  by_cases h1 : n < 1
  · go_enter Try.func9, Try.ntmps9
    go_wp2
    go_ret2
    exact ⟨rfl, rfl⟩
  · have h2 : 4096 < n := by omega
    go_enter Try.func9, Try.ntmps9
    go_wp2
    go_ret2
    exact ⟨rfl, rfl⟩
section
variable (qb rb c hd : Nat) (L : List Fr) (w : World) (h : QBox w qb rb c L hd)
include h
set_option maxRecDepth 100000 in
set_option maxHeartbeats 2000000 in
theorem rvict_any : Calls Try.prog 33 #[.pointer (some ⟨qb, 0, none⟩)] w fun e w' => ((∃ q : Nat, q < 2 * L.length ∧ cand ⟨L, hd, 0⟩ q = true ∧ (∀ r, r < q → cand ⟨L, hd, 0⟩ r = false) ∧ e = .returned (.tuple #[.int .i64 (((hd + q) % L.length : Nat) : Int), .bool true])) ∨ ((∀ r, cand ⟨L, hd, 0⟩ r = false) ∧ e = .returned (.tuple #[.int .i64 0, .bool false]))) ∧ Frm (fun _ => False) w w' := by
  have H := Lib.hid h
  have hn := h.n
  obtain ⟨n, hnn⟩ : ∃ n, L.length = n := ⟨_, rfl⟩
  have HN := Lib.hid hnn
  have HC := Lib.hid (show ∀ wz, Below w.heap.size w wz → wz.cell? ⟨qb, 0, none⟩ = some (.slice (some ⟨rb, 0, none⟩) n c) ∧ wz.cell? ⟨qb, 1, none⟩ = some (.int .i64 (hd : Nat)) from fun wz hz => by
    have h2 := (h.next (Frm.of_below hz)).at
    rw [hnn] at h2
    exact ⟨h2.1, h2.2.1⟩)
  rw [hnn] at hn
  clear h hnn
  go_enter Try.func33, Try.ntmps33
  go_wp2_with fail
  refine region_ord (fun wz => Below w.heap.size w wz) [true, false, false, false, false, true, false, false, false, false, false, true, false] (by kernel_rfl) (by kernel_rfl) (by kernel_rfl) ((Below.refl _ w).drew) ?_
  refine ord_eff (by rfl) (fun K hK => ?_)
  refine gets_sem ?_
  go_simp
  have hb1 : Below w.heap.size w (w.alloc (.cells #[] 59)).drew := ((Below.refl _ w).alloc (Nat.le_refl _) _).drew
  have hz1 : (w.alloc (.cells #[] 59)).drew.heap.size = w.heap.size + 1 := by show (w.alloc _).heap.size = _; simp
  have ho1 : (w.alloc (.cells #[] 59)).drew.ownsRow w.heap.size 59 5 (.slice (some ⟨w.heap.size, 0, none⟩) 0 0) 0 [] := World.ownsRow_made w #[] 0 (Nat.le_refl _) (by unfold maxLen; omega) rfl
  generalize (w.alloc (.cells #[] 59)).drew = w1 at hb1 hz1 ho1 ⊢
  have HO1 := Lib.hid ho1
  clear ho1
  refine ⟨hb1, hK _ _ ?_⟩
  clear hK K
  iterate 3 (refine ord_val (by rfl) (by intro w hi; clear hi; go_simp; with_reducible rfl) (fun K hK => ?_); go_simp; refine hK _ ?_; clear hK K)
  (refine ord_val (by rfl) (by intro w hi; have z := (HC.out w hi).1; clear hi; go_simp; with_reducible rfl) (fun K hK => ?_); go_simp; refine hK _ ?_; clear hK K)
  refine ord_eff (by rfl) (fun K hK => ?_)
  have hQ1 := H.out.next (Frm.of_below hb1)
  refine gets_append_at w1 (.tmp 6) (.tmp 10) 56 (by rfl) w.heap.size 59 (frV Fr.zero) 5 24 Try.underlying56 infFrR rfl (by omega) (.slice (some ⟨w.heap.size, 0, none⟩) 0 0) 0 [] (by rfl) HO1.out ⟨rb, 0, none⟩ n c (fcells L) (by rfl) (by rw [fcells_length, HN.out]) (fun j u hu => by
    have hj : j < L.length * 5 := by rw [← fcells_length]; exact (List.getElem?_eq_some_iff.1 hu).1
    rw [Addr.add_lit, Nat.zero_add]
    exact (hQ1.row.cellAt j hj).trans hu) (fcells_one L) (by omega) (by omega) (by omega) ?_
  intro v2 w2 ho2 hg2 hb2
  rw [List.nil_append, Nat.zero_add] at ho2
  obtain ⟨hl2, ⟨_, he⟩ | ⟨g, cap, cur, rfl, hgb, hgh, hnc, hcm, hcs, htk⟩⟩ := ho2
  · omega
  have hB2 : Below w.heap.size w w2 := hb1.grown hg2 hb1.size (by intro g' hg'; have hg3 : some w.heap.size = some g' := hg'; injection hg3 with hg3; omega)
  have ho0 : w2.ownsRow 0 59 5 (.slice (some ⟨g, 0, none⟩) n cap) n (fcells L) := ⟨hl2, Or.inr ⟨g, cap, cur, rfl, Nat.zero_le _, hgh, hnc, hcm, hcs, htk⟩⟩
  have HO0 := Lib.hid ho0
  have hgl : g < w2.heap.size := own_lt ho0 rfl
  clear hl2 hgh hcs htk ho0 hQ1 hg2 hb2
  refine ⟨hB2, hK _ _ ?_⟩
  clear hK K
  iterate 3 (refine ord_val (by rfl) (by intro w hi; clear hi; go_simp; with_reducible rfl) (fun K hK => ?_); go_simp; refine hK _ ?_; clear hK K)
  (refine ord_val (by rfl) (by intro w hi; have z := (HC.out w hi).2; clear hi; go_simp; with_reducible rfl) (fun K hK => ?_); go_simp; refine hK _ ?_; clear hK K)
  (refine ord_val (by rfl) (by intro w hi; clear hi; go_simp; with_reducible rfl) (fun K hK => ?_); go_simp; refine hK _ ?_; clear hK K)
  refine ord_eff (by rfl) (fun K hK => ?_)
  refine gets_sem ?_
  go_simp
  have hB3 := hB2.alloc hB2.size (.cells #[.slice (some ⟨g, 0, none⟩) n cap, .int .i64 (hd : Nat)] 58)
  have hhd : hd < n := by have := H.out.hand; rw [HN.out] at this; exact this
  have hQ3 : QBox (w2.alloc (.cells #[.slice (some ⟨g, 0, none⟩) n cap, .int .i64 (hd : Nat)] 58)) w2.heap.size g cap L hd := by
    have hL := HN.out
    refine ⟨?_, ?_, by omega, by rw [hL]; exact hn, by unfold maxLen at hcm; omega, by rw [hL]; exact hhd, H.out.num⟩
    · rw [hL]; exact heap_alloc_new w2 _
    · rw [hL]; exact own_keep HO0.out (fun g' hg' => by injection hg' with hg'; subst hg'; exact heap_alloc_old w2 _ hgl)
  have HV := Lib.hid (rvictim_any _ _ _ _ _ _ hQ3)
  have hsz := hB2.size
  generalize w2.alloc (.cells #[.slice (some ⟨g, 0, none⟩) n cap, .int .i64 (hd : Nat)] 58) = w3 at hB3 HV ⊢
  have HB3 := Lib.hid hB3
  refine ⟨hB3, hK _ _ ?_⟩
  clear hK K hQ3 hB2 hb1 hB3
  (refine ord_val (by rfl) (by intro w hi; clear hi; go_simp; with_reducible rfl) (fun K hK => ?_); go_simp; refine hK _ ?_; clear hK K)
  refine ord_nil ?_
  go_wp2_with fail
  refine HV.out.mono ?_
  rintro e w4 ⟨⟨z, hz, hzc, hzn, rfl, _⟩ | ⟨hnone, rfl, _⟩, hF4⟩
  · have HF4 := Lib.hid (show Frm (fun _ => False) w w4 from (Frm.of_below HB3.out).sub hF4 (fun j e => by rcases e with e | e <;> exact Or.inr (by omega)))
    have HZN := Lib.hid hzn
    clear hF4 hzn HV
    obtain ⟨t, ht⟩ : ∃ t, (hd + z) % L.length = t := ⟨_, rfl⟩
    have HT := Lib.hid ht
    rw [ht]
    clear ht
    go_wp2
    go_ret2
    rw [HN.out] at hz ⊢
    exact ⟨Or.inl ⟨z, hz, hzc, HZN.out, by have := HT.out; rw [HN.out] at this; rw [this]; rfl⟩, HF4.out⟩
  · have HF4 := Lib.hid (show Frm (fun _ => False) w w4 from (Frm.of_below HB3.out).sub hF4 (fun j e => by rcases e with e | e <;> exact Or.inr (by omega)))
    have HNN := Lib.hid hnone
    clear hF4 hnone HV
    go_wp2
    go_ret2
    exact ⟨Or.inr ⟨HNN.out, rfl⟩, HF4.out⟩
end
end Go.Proofs.Ytdbaidkepngjcaa
