/- The document's disk: Arm; Write, whatever is asked. Conditions: none. -/
import Derived.Test.YtldmamcalfmedaaDrm
namespace Go.Proofs.Ytldmamcalfmedaa
open Go.ChangeShapes Go.WideShapes Go.ChangeAt Go.RowKit Go.Maps
set_option linter.unusedSimpArgs false
set_option linter.unusedVariables false
/-- its own cells alone have turned, and which row says what is kept -/
theorem RBox.turnK {w w' : World} {rb rk rl : Nat} {d d' : Dk} (h : RBox w rb rk rl d) (hf : Frm (fun j => j = rb) w w') (kv : Value) (hk : RdX (Own3X d'.away rb rk rl) w' kv (boolV d'.keep))
    (hc : ∀ keepV lv bc, w.heap[rb]? = some (.cells (rcells d keepV lv rk bc) 48 (0, 0)) → w'.heap[rb]? = some (.cells (rcells d' kv lv rk bc) 48 (0, 0)))
    (e2 : d'.kept = d.kept) (e3 : d'.pend = d.pend) (e4 : d'.n = d.n) (e5 : d'.size = d.size) (e6 : d'.away = d.away := by rfl) : RBox w' rb rk rl d' := by
  obtain ⟨keepV, lv, bc, h1, h2, h3, h4, h5⟩ := h.cells
  obtain ⟨n1, n4⟩ := h.ne
  refine ⟨⟨kv, lv, bc, hc _ _ _ h1, hk, ?_, ?_, by rw [e3]; exact h5⟩, by rw [e3]; exact h.ne, ⟨by rw [e4]; exact h.ok.n, by rw [e5]; exact h.ok.size, by rw [e2, e4, e5]; exact h.ok.kept, by rw [e3, e4, e5]; exact h.ok.pend⟩, Nat.lt_of_lt_of_le h.small hf.size, by rw [e6]; exact fun j hj => Nat.lt_of_lt_of_le (h.away j hj) hf.size⟩
  · rw [e2]
    exact own_keep h3 (fun g hg => by injection hg with hg; subst hg; exact hf.block _ h.lt.2 (fun x => n1 x.symm))
  · rw [e3, e6]
    by_cases hp : d.pend = []
    · have := h5 hp
      subst this
      rw [hp] at h4 ⊢
      obtain ⟨xs, a1, a2, a3⟩ := h4
      exact ⟨xs, own_keep a1 (fun g hg => by cases hg), a2, fun i p hi => by simp at hi⟩
    · exact h4.frm hf (fun j hj => Or.inl (Or.inl hj)) (n4 hp).1
section
variable (rb rk rl : Nat) (d : Dk) (w : World) (h : RBox w rb rk rl d)
include h
set_option maxRecDepth 100000 in
set_option maxHeartbeats 1000000 in
theorem rarm_any (n : Int) (v : Value) (bs : List Bool) (hv : RdX (fun j => j = rb) w v (boolV bs)) (hl : bs.length ≤ 1000000000) : Calls Try.prog 18 #[.pointer (some ⟨rb, 0, none⟩), .int .i64 n, v] w fun e w' => e = .returned (.tuple #[]) ∧ RBox w' rb rk rl (armD d n bs) ∧ Frm (fun j => j = rb) w w' := by
  have hlt := h.lt
  have H := Lib.hid h
  obtain ⟨Av, cv, rfl, _, _, _⟩ := id hv
  have HV := Lib.hid hv
  obtain ⟨_, _, _, _, _, _, _, _, _, _, _, _, _, c5, _, _, _, fr⟩ := h.at
  have f5 := fr 5
  clear h hv fr
  obtain ⟨mx, hmx⟩ : ∃ mx, max n 1 = mx := ⟨_, rfl⟩
  have HMX := Lib.hid hmx
  have hcase : (n < 1 ∧ mx = 1) ∨ (¬ n < 1 ∧ mx = n) := by omega
  clear hmx
  go_enter Try.func18, Try.ntmps18
  rcases hcase with ⟨hn, rfl⟩ | ⟨hn, rfl⟩
  · have HN := Lib.hid hn
    go_upto_region 3 with (fail)
    refine wp_region_lit ?_
    iterate 3 (refine wpList_plain rfl fun K hK => ?_; go_simp; refine hK _ _ ?_; clear hK K)
    have hF1 : Frm (fun j => j = rb) w (w.setCell ⟨rb, 5, none⟩ (.int .i64 1)) := (Frm.refl (fun j => j = rb) w).setCell rb 5 (Or.inl rfl) _
    have hR1 : RBox (w.setCell ⟨rb, 5, none⟩ (.int .i64 1)) rb rk rl { d with armed := true, left := 1 } := H.out.turn hF1 (fun _ _ _ h1 => heap_setCell_same w rb 5 _ _ (.int .i64 1) h1) rfl rfl rfl rfl rfl
    have hV1 := HV.out.frm hF1 (fun j h => h)
    have hz1 : (w.setCell ⟨rb, 5, none⟩ (.int .i64 1)).heap.size = w.heap.size := by simp [World.setCell]
    generalize w.setCell ⟨rb, 5, none⟩ (.int .i64 1) = w1 at hF1 hR1 hV1 hz1 ⊢
    have he2 : Emp (w1.alloc (.cells #[] 4)) 4 w1.heap.size := Emp.new w1 4
    have hF2 : Frm (fun _ => False) w1 (w1.alloc (.cells #[] 4)) := (Frm.refl (fun _ => False) w1).alloc _
    have hz2 : (w1.alloc (.cells #[] 4)).heap.size = w1.heap.size + 1 := by simp
    have hV2 := (hV1.frm hF2 (fun j h => h.elim)).rd
    have hR2 := hR1.next hF2
    rw [hz1] at he2 hz2
    generalize w1.alloc (.cells #[] 4) = w2 at he2 hF2 hz2 hV2 hR2 ⊢
    refine wpList_append_rd _ rfl (.tmp 13) (.tmp 14) 33 (by rfl) w.heap.size 4 (.bool false) 1 Try.underlying33 infB rfl (.slice (some ⟨w.heap.size, 0, none⟩) 0 0) 0 [] (by rfl) (Emp.own he2 (Nat.le_refl _)) _ (by rfl) _ (boolV bs) hV2 (boolV_one bs) (by rw [boolV_length]; omega) (by omega) (by omega) ?_
    intro v3 w3 ho3 hg3 _
    rw [List.nil_append, Nat.zero_add] at ho3
    have hF3 : Frm (fun _ => False) w1 w3 := hF2.sub (Frm.of_grown hg3) (fun j e => Or.inr (by rw [hz1]; exact Nat.le_of_eq e.symm))
    have hR3 := hR1.next hF3
    have hk3 : RdX (Own3X d.away rb rk rl) w3 v3 (boolV bs) := RdX.of_own ho3 (fun j hj => by
      rintro (e | e)
      · have := H.out.small; unfold Own3 at e; omega
      · have := H.out.away j e; omega)
    obtain ⟨A3, c3, rfl, _⟩ := RdV.own ho3
    obtain ⟨_, _, _, _, _, _, _, _, _, _, _, _, _, _, c6, _, _, fr3⟩ := hR3.at
    have f6 := fr3 6
    have hF4 : Frm (fun j => j = rb) w3 (w3.setCell ⟨rb, 6, none⟩ (.slice A3 (boolV bs).length c3)) := (Frm.refl (fun j => j = rb) w3).setCell rb 6 (Or.inl rfl) _
    have H5 := Lib.hid (hR3.turnK (d' := armD d n bs) hF4 _ (hk3.frm hF4 (fun j hj => Or.inl (Or.inl hj))) (fun _ _ _ h1 => by
      have := heap_setCell_same _ rb 6 _ _ (.slice A3 (boolV bs).length c3) h1
      rw [this]
      unfold armD
      rw [HMX.out]
      rfl) rfl rfl rfl rfl)
    have HF := Lib.hid (hF1.trans ((hF3.mono (fun _ _ h => h.elim)).trans hF4))
    clear hg3 hF1 hF2 hF3 hF4 hR1 hR2 hR3 hk3 ho3 fr3 H HV hV1 hV2 he2
    iterate 3 (refine wpList_plain rfl fun K hK => ?_; go_simp; refine hK _ _ ?_; clear hK K)
    refine wpList_nil ?_
    go_wp2
    go_end0
    exact ⟨rfl, H5.out, HF.out⟩
  · have HN := Lib.hid hn
    go_upto_region 3 with (fail)
    refine wp_region_lit ?_
    iterate 3 (refine wpList_plain rfl fun K hK => ?_; go_simp; refine hK _ _ ?_; clear hK K)
    have hF1 : Frm (fun j => j = rb) w (w.setCell ⟨rb, 5, none⟩ (.int .i64 mx)) := (Frm.refl (fun j => j = rb) w).setCell rb 5 (Or.inl rfl) _
    have hR1 : RBox (w.setCell ⟨rb, 5, none⟩ (.int .i64 mx)) rb rk rl { d with armed := true, left := mx } := H.out.turn hF1 (fun _ _ _ h1 => heap_setCell_same w rb 5 _ _ (.int .i64 mx) h1) rfl rfl rfl rfl rfl
    have hV1 := HV.out.frm hF1 (fun j h => h)
    have hz1 : (w.setCell ⟨rb, 5, none⟩ (.int .i64 mx)).heap.size = w.heap.size := by simp [World.setCell]
    generalize w.setCell ⟨rb, 5, none⟩ (.int .i64 mx) = w1 at hF1 hR1 hV1 hz1 ⊢
    have he2 : Emp (w1.alloc (.cells #[] 4)) 4 w1.heap.size := Emp.new w1 4
    have hF2 : Frm (fun _ => False) w1 (w1.alloc (.cells #[] 4)) := (Frm.refl (fun _ => False) w1).alloc _
    have hz2 : (w1.alloc (.cells #[] 4)).heap.size = w1.heap.size + 1 := by simp
    have hV2 := (hV1.frm hF2 (fun j h => h.elim)).rd
    have hR2 := hR1.next hF2
    rw [hz1] at he2 hz2
    generalize w1.alloc (.cells #[] 4) = w2 at he2 hF2 hz2 hV2 hR2 ⊢
    refine wpList_append_rd _ rfl (.tmp 13) (.tmp 14) 33 (by rfl) w.heap.size 4 (.bool false) 1 Try.underlying33 infB rfl (.slice (some ⟨w.heap.size, 0, none⟩) 0 0) 0 [] (by rfl) (Emp.own he2 (Nat.le_refl _)) _ (by rfl) _ (boolV bs) hV2 (boolV_one bs) (by rw [boolV_length]; omega) (by omega) (by omega) ?_
    intro v3 w3 ho3 hg3 _
    rw [List.nil_append, Nat.zero_add] at ho3
    have hF3 : Frm (fun _ => False) w1 w3 := hF2.sub (Frm.of_grown hg3) (fun j e => Or.inr (by rw [hz1]; exact Nat.le_of_eq e.symm))
    have hR3 := hR1.next hF3
    have hk3 : RdX (Own3X d.away rb rk rl) w3 v3 (boolV bs) := RdX.of_own ho3 (fun j hj => by
      rintro (e | e)
      · have := H.out.small; unfold Own3 at e; omega
      · have := H.out.away j e; omega)
    obtain ⟨A3, c3, rfl, _⟩ := RdV.own ho3
    obtain ⟨_, _, _, _, _, _, _, _, _, _, _, _, _, _, c6, _, _, fr3⟩ := hR3.at
    have f6 := fr3 6
    have hF4 : Frm (fun j => j = rb) w3 (w3.setCell ⟨rb, 6, none⟩ (.slice A3 (boolV bs).length c3)) := (Frm.refl (fun j => j = rb) w3).setCell rb 6 (Or.inl rfl) _
    have H5 := Lib.hid (hR3.turnK (d' := armD d mx bs) hF4 _ (hk3.frm hF4 (fun j hj => Or.inl (Or.inl hj))) (fun _ _ _ h1 => by
      have := heap_setCell_same _ rb 6 _ _ (.slice A3 (boolV bs).length c3) h1
      rw [this]
      unfold armD
      rw [HMX.out]
      rfl) rfl rfl rfl rfl)
    have HF := Lib.hid (hF1.trans ((hF3.mono (fun _ _ h => h.elim)).trans hF4))
    clear hg3 hF1 hF2 hF3 hF4 hR1 hR2 hR3 hk3 ho3 fr3 H HV hV1 hV2 he2
    iterate 3 (refine wpList_plain rfl fun K hK => ?_; go_simp; refine hK _ _ ?_; clear hK K)
    refine wpList_nil ?_
    go_wp2
    go_end0
    exact ⟨rfl, H5.out, HF.out⟩
set_option maxRecDepth 100000 in
theorem rwrite_off (ho : d.off = true) (s : Int) (v : Value) : Calls Try.prog 14 #[.pointer (some ⟨rb, 0, none⟩), .int .i64 s, v] w fun e w' => e = .returned (.int .i64 8) ∧ w = w' := by
  obtain ⟨_, _, _, _, _, _, _, _, _, _, _, _, c4, _⟩ := h.at
  rw [ho] at c4
  clear h ho
  go_enter Try.func14, Try.ntmps14
  go_wp2
  go_ret
  exact ⟨rfl, rfl⟩
set_option maxRecDepth 100000 in
theorem rwrite_bad (ho : d.off = false) (s : Int) (v : Value) (B : Nat) (xs : List Value) (hv : RdV w B v xs) (hbad : ¬ (0 ≤ s ∧ s < (d.n : Nat)) ∨ xs.length ≠ d.size) : Calls Try.prog 14 #[.pointer (some ⟨rb, 0, none⟩), .int .i64 s, v] w fun e w' => e = .returned (.int .i64 1) ∧ w = w' := by
  obtain ⟨_, _, _, _, _, _, _, _, c0, c1, _, _, c4, _⟩ := h.at
  rw [ho] at c4
  obtain ⟨A, c, rfl, hc1, hc2, _⟩ := hv
  unfold maxLen at hc2
  have hc3 : xs.length ≤ 9223372036854775807 := by omega
  clear h ho hc2
  by_cases h1 : s < 0
  · clear hbad
    go_enter Try.func14, Try.ntmps14
    go_wp2
    go_ret
    exact ⟨rfl, rfl⟩
  by_cases h2 : s < (d.n : Nat)
  · have hne : xs.length ≠ d.size := by
      rcases hbad with h3 | h3
      · exact absurd ⟨by omega, h2⟩ h3
      · exact h3
    have t0 : ((xs.length : Int) == ((d.size : Nat) : Int)) = false := by rw [beq_eq_false_iff_ne]; omega
    have t1 : ((xs.length : Int) != ((d.size : Nat) : Int)) = true := by rw [bne_iff_ne]; omega
    generalize d.size = sz at *
    generalize xs.length = L at *
    clear hbad hne
    go_enter Try.func14, Try.ntmps14
    go_wp2
    go_ret
    exact ⟨rfl, rfl⟩
  · clear hbad
    have h3 : ((d.n : Nat) : Int) ≤ s := by omega
    go_enter Try.func14, Try.ntmps14
    go_wp2
    go_ret
    exact ⟨rfl, rfl⟩
set_option maxRecDepth 100000 in
set_option maxHeartbeats 1000000 in
theorem rwrite_cut (ho : d.off = false) (ha : d.armed = true) (hl : d.left = 1) (s : Int) (h0 : 0 ≤ s ∧ s < (d.n : Nat)) (v : Value) (B : Nat) (xs : List Value) (hv : RdV w B v xs) (hlen : xs.length = d.size) (hpl : d.pend.length ≤ 1000000) : Calls Try.prog 14 #[.pointer (some ⟨rb, 0, none⟩), .int .i64 s, v] w fun e w' => e = .returned (.int .i64 8) ∧ RBox w' rb rk rl (rcutD d d.keep) ∧ Frm (fun j => j = rb ∨ j = rk) w w' := by
  obtain ⟨keepV, _, _, _, q2, _, _, _, c0, c1, _, _, c4, c5, c6, _⟩ := h.at
  rw [ho] at c4
  rw [ha, hl] at c5
  simp only [if_true] at c5
  obtain ⟨A, c, rfl, hc1, hc2, _⟩ := hv
  rw [hlen] at hc1 ⊢
  have hsz := h.ok.size
  obtain ⟨A3, c3, rfl, _⟩ := id q2
  have CU := Lib.hid (rcut_any rb rk rl d w h _ d.keep (q2.mono fun j _ hj => by rcases hj with e | e; exact Or.inl (Or.inl e); exact Or.inl (Or.inr (Or.inl e))) hpl)
  clear h ho hc2 hlen q2
  go_enter Try.func14, Try.ntmps14
  go_wp2_with fail
  refine CU.out.mono ?_
  rintro e w5 ⟨rfl, hD, hF⟩
  have HD := Lib.hid hD
  have HF5 := Lib.hid hF
  clear hD hF
  go_wp2
  go_ret
  exact ⟨rfl, HD.out, HF5.out⟩
end
def rwriteD (d : Dk) (s : Int) (bl : List UInt8) : Dk := if d.off = true then d else if badW d s bl then d else if d.armed = true ∧ d.left = 1 then rcutD d d.keep else wroteD d s.toNat bl
theorem rwrite_all (rb rk rl : Nat) (d : Dk) (w : World) (h : RBox w rb rk rl d) (ha : d.armed = true → 1 ≤ d.left ∧ d.left ≤ 9223372036854775807) (s : Int) (v : Value) (bl : List UInt8) (hv : RdX (Own3X d.away rb rk rl) w v (bv bl)) (hpl : d.pend.length ≤ 1000000) (hwr : 0 ≤ d.writes ∧ d.writes ≤ 1000000000000) :
    Calls Try.prog 14 #[.pointer (some ⟨rb, 0, none⟩), .int .i64 s, v] w fun e w' => e = .returned (.int .i64 (writeC d s bl)) ∧ ∃ rl', RBox w' rb rk rl' (rwriteD d s bl) ∧ (rl' = rl ∨ w.heap.size ≤ rl') ∧ Frm (Own3 rb rk rl) w w' := by
  unfold writeC rwriteD
  by_cases ho : d.off = true
  · simp only [if_pos ho]
    refine (rwrite_off rb rk rl d w h ho s v).mono ?_
    rintro e w' ⟨rfl, rfl⟩
    exact ⟨rfl, rl, h, Or.inl rfl, Frm.refl _ _⟩
  · simp only [if_neg ho]
    have ho' : d.off = false := by simpa using ho
    by_cases hb : badW d s bl
    · simp only [if_pos hb]
      refine (rwrite_bad rb rk rl d w h ho' s v _ (bv bl) hv.rd (by rw [bv_length]; exact hb)).mono ?_
      rintro e w' ⟨rfl, rfl⟩
      exact ⟨rfl, rl, h, Or.inl rfl, Frm.refl _ _⟩
    · simp only [if_neg hb]
      unfold badW at hb
      have hs : 0 ≤ s ∧ s < (d.n : Nat) := by
        by_cases h0 : 0 ≤ s ∧ s < (d.n : Nat)
        · exact h0
        · exact absurd (Or.inl h0) hb
      have hl : bl.length = d.size := by
        by_cases h0 : bl.length = d.size
        · exact h0
        · exact absurd (Or.inr h0) hb
      by_cases hx : d.armed = true ∧ d.left = 1
      · simp only [if_pos hx]
        refine (rwrite_cut rb rk rl d w h ho' hx.1 hx.2 s hs v _ (bv bl) hv.rd (by rw [bv_length]; exact hl) hpl).mono ?_
        rintro e w' ⟨rfl, hD, hF⟩
        exact ⟨rfl, rl, hD, Or.inl rfl, hF.mono (by rintro j _ (h | h); exact Or.inl h; exact Or.inr (Or.inl h))⟩
      · simp only [if_neg hx]
        obtain ⟨n, rfl⟩ := Int.eq_ofNat_of_zero_le hs.1
        refine (rwrite_ok rb rk rl d w h ho' (fun e => by
          have := ha e
          have h1 : d.left ≠ 1 := fun e2 => hx ⟨e, e2⟩
          omega) n (by omega) v bl hv hl hpl hwr).mono ?_
        rintro e w' ⟨rfl, rl', hD, hp, hF⟩
        exact ⟨rfl, rl', hD, hp, hF⟩
end Go.Proofs.Ytldmamcalfmedaa
