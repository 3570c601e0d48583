/- The document's disk: Arm, Write. Conditions: none. -/
import Derived.Test.YtldmamcalfmedaaDrl
import Derived.Test.YtldmamcalfmedaaOrm
namespace Go.Proofs.Ytldmamcalfmedaa
open Go.ChangeShapes Go.WideShapes Go.ChangeAt Go.RowKit Go.Maps
set_option linter.unusedSimpArgs false
set_option linter.unusedVariables false
/-- a cell's value, said of a world -/
def CellIs (b i : Nat) (v : Value) (w : World) : Prop := w.cell? ⟨b, i, none⟩ = some v
theorem CellIs.out {b i : Nat} {v : Value} {w : World} (h : CellIs b i v w) : w.cell? ⟨b, i, none⟩ = some v := h
theorem infP : (Try.prog.info? 78).map (fun i => (i.zero, i.size, i.bytes)) = some (some (.agg #[.int .i64 0, .slice none 0 0]), 2, 32) := by kernel_rfl
theorem PRowR.snoc {w w' : World} {M' : Nat → Prop} {pb' : Nat} {pv pv' : Value} {pend : List (Nat × List UInt8)} {xs : List Value} (p : Nat × List UInt8) (vb : Value)
    (ho : w.ownsRow 0 78 2 pv pend.length xs) (hx : ∀ (i : Nat) (p : Nat × List UInt8), pend[i]? = some p → xs[2 * i]? = some (.int .i64 (p.1 : Nat)) ∧ ∃ v, xs[2 * i + 1]? = some v ∧ RdX M' w' v (bv p.2))
    (ho' : w'.ownsRow 0 78 2 pv' (pend.length + 1) (xs ++ [.int .i64 (p.1 : Nat), vb])) (hv : RdX M' w' vb (bv p.2)) (hb : ∀ g, pv'.ownBlock = some g → g = pb') : PRowR w' M' pb' pv' (pend ++ [p]) := by
  refine ⟨_, by rw [List.length_append]; exact ho', hb, fun i q hi => ?_⟩
  have hxl := ho.1
  rcases Nat.lt_or_ge i pend.length with h | h
  · rw [List.getElem?_append_left h] at hi
    obtain ⟨e1, v, e2, e3⟩ := hx i q hi
    rw [List.getElem?_append_left (by omega), List.getElem?_append_left (by omega)]
    exact ⟨e1, v, e2, e3⟩
  · have hi2 : i = pend.length := by
      have := (List.getElem?_eq_some_iff.1 hi).1
      simp at this
      omega
    subst hi2
    rw [List.getElem?_append_right (Nat.le_refl _), Nat.sub_self] at hi
    injection hi with hi
    subst hi
    rw [List.getElem?_append_right (by omega), List.getElem?_append_right (by omega), hxl, show 2 * pend.length - pend.length * 2 = 0 from by omega, show 2 * pend.length + 1 - pend.length * 2 = 1 from by omega]
    exact ⟨rfl, vb, rfl, hv⟩
theorem rwrite_build {rb rk rl s : Nat} {d : Dk} {bl : List UInt8} {w4 w6 w8 : World} {keepV lv v6 v8 : Value} {bc : Nat} {o : Obj} (hD : RBox w4 rb rk rl d) (h1 : w4.heap[rb]? = some (.cells (rcells d keepV lv rk bc) 48 (0, 0)))
    (hk1 : RdX (Own3X d.away rb rk rl) w4 keepV (boolV d.keep)) (ho1 : w4.ownsRow 0 5 1 (.slice (some ⟨rk, 0, none⟩) d.kept.length bc) d.kept.length (bv d.kept)) (xs : List Value) (hxs : w4.ownsRow 0 78 2 lv d.pend.length xs) (hpo : ∀ g, lv.ownBlock = some g → g = rl)
    (hent : ∀ (i : Nat) (p : Nat × List UInt8), d.pend[i]? = some p → xs[2 * i]? = some (.int .i64 (p.1 : Nat)) ∧ ∃ v, xs[2 * i + 1]? = some v ∧ RdX (Own3X d.away rb rk rl) w4 v (bv p.2)) (hnil : d.pend = [] → lv = .slice none 0 0)
    (hF6 : Frm (fun _ => False) w4 w6) (ho2 : w6.ownsRow w4.heap.size 5 1 v6 bl.length (bv bl))
    (hg3 : (w6.alloc o).grownBy w8 lv.ownBlock) (ho3 : w8.ownsRow 0 78 2 v8 (d.pend.length + 1) (xs ++ [.int .i64 (s : Nat), v6])) (hv3 : v8.ownBlock = lv.ownBlock ∨ v8.ownBlock = some (w6.alloc o).heap.size) (hs : s < d.n) (hb : bl.length = d.size) :
    ∃ rl', RBox (w8.setCell ⟨rb, 3, none⟩ v8) rb rk rl' { d with pend := d.pend ++ [(s, bl)] } ∧ (rl' = rl ∨ w4.heap.size ≤ rl') ∧ Frm (Own3 rb rk rl) w4 (w8.setCell ⟨rb, 3, none⟩ v8) := by
  obtain ⟨l1, l2⟩ := hD.lt
  obtain ⟨n1, n4⟩ := hD.ne
  have hsm := hD.small
  have z2 := hF6.size
  have z3 : (w6.alloc o).heap.size = w6.heap.size + 1 := by simp
  have z4 := hg3.size
  have hpb : ∀ g, lv.ownBlock = some g → g = rl ∧ rl ≠ rb ∧ rl ≠ rk := fun g hg => ⟨hpo g hg, n4 (fun e => by rw [hnil e] at hg; cases hg)⟩
  obtain ⟨g3, c3, rfl⟩ := own_form2 ho3 (by omega)
  have hg3l := own_lt ho3 rfl
  have hgg : (g3 = rl ∧ rl ≠ rb ∧ rl ≠ rk) ∨ g3 = w6.heap.size + 1 := by
    rcases hv3 with h | h
    · exact Or.inl (hpb g3 (by rw [← h]; rfl))
    · right
      rw [z3] at h
      injection h
  have hF2 : Frm (fun _ => False) w4 (w6.alloc o) := hF6.alloc o
  have hF3 : Frm (fun j => lv.ownBlock = some j) (w6.alloc o) w8 := ⟨hg3.os, hg3.tape, hg3.output, hg3.size, fun j hj hn => hg3.block j hj (fun e => hn e.symm)⟩
  have hF4 : Frm (fun j => j = rb) w8 (w8.setCell ⟨rb, 3, none⟩ (.slice (some ⟨g3, 0, none⟩) (d.pend.length + 1) c3)) := (Frm.refl (fun j => j = rb) w8).setCell rb 3 (Or.inl rfl) _
  have hF : Frm (fun j => j = rb ∨ lv.ownBlock = some j) w4 (w8.setCell ⟨rb, 3, none⟩ (.slice (some ⟨g3, 0, none⟩) (d.pend.length + 1) c3)) :=
    ((hF2.mono (fun _ _ h => h.elim)).trans (hF3.mono (fun j _ h => Or.inr h))).trans (hF4.mono (fun j _ h => Or.inl h))
  have hO : ∀ j, (j = rb ∨ lv.ownBlock = some j) → Own3X d.away rb rk rl j := by
    rintro j (h | h)
    · exact Or.inl (Or.inl h)
    · exact Or.inl (Or.inr (Or.inr (hpo j h)))
  have hM : ∀ j, j < w4.heap.size → Own3X d.away rb rk g3 j → Own3X d.away rb rk rl j := by
    rintro j hj ((h | h | h) | h)
    · exact Or.inl (Or.inl h)
    · exact Or.inl (Or.inr (Or.inl h))
    · rcases hgg with ⟨e, _⟩ | e
      · exact Or.inl (Or.inr (Or.inr (h.trans e)))
      · omega
    · exact Or.inr h
  have hdb3 : w8.heap[rb]? = some (.cells (rcells d keepV lv rk bc) 48 (0, 0)) := by
    have a := hF3.block rb (by omega) (fun e => (hpb rb e).2.1 (hpb rb e).1.symm)
    have b := hF2.block rb (by omega) id
    exact a.trans (b.trans h1)
  refine ⟨g3, ⟨⟨keepV, .slice (some ⟨g3, 0, none⟩) (d.pend.length + 1) c3, bc, ?_, hk1.move hF hO hM, ?_, ?_, fun e => (by simp at e)⟩, ⟨n1, fun _ => by omega⟩, ⟨hD.ok.n, hD.ok.size, hD.ok.kept, ?_⟩, ?_, ?_⟩, ?_, ?_⟩
  · exact heap_setCell_same w8 rb 3 _ _ (.slice (some ⟨g3, 0, none⟩) (d.pend.length + 1) c3) hdb3
  · exact own_keep ho1 (fun g hg => by
      injection hg with hg
      subst hg
      exact hF.block rk l2 (by
        rintro (e | e)
        · exact n1 e.symm
        · exact (hpb rk e).2.2 (hpb rk e).1.symm))
  · have hg3d : g3 ≠ rb := by omega
    refine PRowR.snoc (s, bl) v6 hxs (fun i p hi => ?_) (own_keep ho3 (fun g hg => by injection hg with hg; subst hg; exact hF4.block _ hg3l hg3d)) ?_ (fun g hg => by injection hg with hg; exact hg.symm)
    · obtain ⟨e1, v, e2, e3⟩ := hent i p hi
      exact ⟨e1, v, e2, e3.move hF hO hM⟩
    · exact (RdX.of_own2 (M := fun j => Own3X d.away rb rk g3 j ∨ Own3 rb rk rl j) ho2 (fun j hj hj2 => by
        have hAA : ¬ d.away j := fun e => (by have := hD.away j e; omega)
        rintro ((e | e) | e)
        · revert e; unfold Own3; omega
        · exact hAA e
        · revert e; unfold Own3; omega)).move (O := fun j => j = rb ∨ lv.ownBlock = some j) ((((Frm.refl _ w6).alloc o).trans (hF3.mono fun j _ h => Or.inr h)).trans (hF4.mono fun j _ h => Or.inl h)) (by
        rintro j (h | h)
        · exact Or.inr (Or.inl h)
        · exact Or.inr (Or.inr (Or.inr (hpo j h)))) (fun j _ h => Or.inl h)
  · intro p hp
    rcases List.mem_append.1 hp with h | h
    · exact hD.ok.pend p h
    · simp at h; subst h; exact ⟨hs, hb⟩
  · simp [World.setCell]; exact hg3l
  · intro j hj
    exact Nat.lt_of_lt_of_le (hD.away j hj) hF.size
  · rcases hgg with ⟨e, _⟩ | e
    · exact Or.inl e
    · right; omega
  · exact hF.mono (fun j _ h => by
      rcases h with h | h
      · exact Or.inl h
      · exact Or.inr (Or.inr (hpo j h)))
set_option maxRecDepth 100000 in
set_option maxHeartbeats 4000000 in
theorem rwrite_ok (rb rk rl : Nat) (d : Dk) (w : World) (h : RBox w rb rk rl d) (ho : d.off = false) (hl : d.armed = true → 2 ≤ d.left ∧ d.left ≤ 9223372036854775807) (s : Nat) (hs : s < d.n) (v : Value) (bl : List UInt8) (hv : RdX (Own3X d.away rb rk rl) w v (bv bl)) (hlen : bl.length = d.size) (hpl : d.pend.length ≤ 1000000) (hwr : 0 ≤ d.writes ∧ d.writes ≤ 1000000000000) :
    Calls Try.prog 14 #[.pointer (some ⟨rb, 0, none⟩), .int .i64 (s : Nat), v] w fun e w' => e = .returned (.int .i64 0) ∧ ∃ rl', RBox w' rb rk rl' (wroteD d s bl) ∧ (rl' = rl ∨ w.heap.size ≤ rl') ∧ Frm (Own3 rb rk rl) w w' := by
  obtain ⟨A, c, rfl, hc1, hc2, _⟩ := id hv
  rw [bv_length, hlen] at hc1 hv ⊢
  have hsz := h.ok.size
  have hn := h.ok.n
  have HV := Lib.hid hv
  have HBL := Lib.hid hlen
  have H := Lib.hid h
  obtain ⟨_, _, _, _, _, _, _, _, c0, c1, _, _, c4, c5, _, _, _, fr⟩ := h.at
  rw [ho] at c4
  have fr5 := fr 5
  clear h hv hlen fr
  cases ha : d.armed with
  | false =>
    rw [ha] at c5
    simp only [Bool.false_eq_true, if_false] at c5
    have hst : struckD d = d := by unfold struckD; cases d; simp at ha; subst ha; rfl
    have HR4 := Lib.hid (show RBox w rb rk rl (struckD d) by rw [hst]; exact H.out)
    have HV4 := Lib.hid (show RdX (Own3X d.away rb rk rl) w (.slice A d.size c) (bv bl) from HV.out)
    have HF4 := Lib.hid (Frm.refl (Own3 rb rk rl) w)
    clear hst hl ha ho
    go_enter Try.func14, Try.ntmps14
    go_upto_region 10 with (fail)
    clear c0 c1 c4 c5 fr5
    obtain ⟨keepV, lv, bc, q1, q2, q3, q4, q5, x0, x1, x2, x3, x4, x5, x6, x7, x8, xfr⟩ := HR4.out.at
    obtain ⟨xs, hxs, hpo, hent⟩ := q4
    have hlen4 : (struckD d).pend.length = d.pend.length := rfl
    obtain ⟨Al, cl, rfl⟩ : ∃ A c, lv = .slice A d.pend.length c := by
      obtain ⟨_, ⟨e, h0⟩ | ⟨g, cap, _, e, _⟩⟩ := hxs
      · exact ⟨none, 0, by rw [e]; exact congrArg (fun n => Value.slice none n 0) (show d.pend.length = 0 from h0).symm⟩
      · exact ⟨_, _, e⟩
    have hne4 := HR4.out.ne.2
    have hlt4 := HR4.out.lt
    have hsm4 := HR4.out.small
    have hnb : ∀ g, (Value.slice Al d.pend.length cl).ownBlock = some g → g = rl ∧ g ≠ rb ∧ g ≠ rk ∧ g < w.heap.size := fun g hg => by
      have e := hpo g hg
      have hp : d.pend ≠ [] := fun e2 => by
        have := q5 e2
        rw [this] at hg; cases hg
      have := hne4 hp
      exact ⟨e, by omega, by omega, own_lt hxs hg⟩
    have Q1 := Lib.hid q1
    have Q2 := Lib.hid q2
    have Q3 := Lib.hid q3
    have Q5 := Lib.hid q5
    have HXS := Lib.hid hxs
    have HPO := Lib.hid hpo
    have HENT := Lib.hid hent
    have HNB := Lib.hid hnb
    clear q1 q2 q3 q5 hxs hpo hent hnb x0 x1 x2 x4 x5 x6 x8
    have X3 := Lib.hid (show CellIs rb 3 (.slice Al d.pend.length cl) w.drew from x3)
    have X7 := Lib.hid x7
    have XFR := Lib.hid xfr
    clear x3 x7 xfr
    refine region_ordL (CellIs rb 3 (.slice Al d.pend.length cl)) true [false, false, false, false, false, false, true, false, true, false, true, true, false, false, false] (by kernel_rfl) (by kernel_rfl) (by kernel_rfl) (by kernel_rfl) X3.out ?_
    iterate 4 (refine ord_val (by rfl) (by intro w hi; clear hi; go_simp; with_reducible rfl) (fun K hK => ?_); go_simp; refine hK _ ?_; clear hK K)
    (refine ord_val (by rfl) (by intro w hi; have z := CellIs.out hi; go_simp; with_reducible rfl) (fun K hK => ?_); go_simp; refine hK _ ?_; clear hK K)
    (refine ord_val (by rfl) (by intro w hi; clear hi; go_simp; with_reducible rfl) (fun K hK => ?_); go_simp; refine hK _ ?_; clear hK K)
    refine ord_eff (by rfl) (fun K hK => ?_)
    refine gets_sem ?_
    go_simp
    have he5 : Emp (w.alloc (.cells #[] 5)).drew 5 w.heap.size := Emp.new w 5
    have hf5 : Frm (fun _ => False) w (w.alloc (.cells #[] 5)).drew := ((Frm.refl (fun _ => False) w).alloc _).drew
    have hz5 : (w.alloc (.cells #[] 5)).drew.heap.size = w.heap.size + 1 := by simp
    generalize (w.alloc (.cells #[] 5)).drew = w5 at he5 hf5 hz5 ⊢
    have X35 := Lib.hid (show CellIs rb 3 (.slice Al d.pend.length cl) w5 from (World.cell?_of_block (a := ⟨rb, 3, none⟩) (hf5.block rb hlt4.1 id)).trans X3.out)
    refine ⟨X35.out, hK _ _ ?_⟩
    clear hK K
    (refine ord_val (by rfl) (by intro w hi; clear hi; go_simp; with_reducible rfl) (fun K hK => ?_); go_simp; refine hK _ ?_; clear hK K)
    refine ord_eff (by rfl) (fun K hK => ?_)
    refine gets_append_rd (P := Try.prog) w5 (.tmp 59) (.tmp 60) 32 (by rfl) w.heap.size 5 (.int .u8 0) 1 Try.underlying32 inf8 rfl (.slice (some ⟨w.heap.size, 0, none⟩) 0 0) 0 [] (by rfl) (Emp.own he5 (Nat.le_refl _)) (.slice A d.size c) (by rfl) w5.heap.size (bv bl) ((HV4.out.frm hf5 (fun _ h => h.elim)).rd) (bv_one bl) (by rw [bv_length, HBL.out]; omega) (by omega) (by omega) ?_
    intro v6 w6 ho6 hg6 hv6
    rw [List.nil_append, Nat.zero_add, bv_length, HBL.out] at ho6
    have hb6 : (bv bl).length = d.size := by rw [bv_length]; exact HBL.out
    have hf6 : Frm (fun _ => False) w w6 := hf5.sub (Frm.of_grown hg6) (fun j e => Or.inr (Nat.le_of_eq e.symm))
    have hz6 : w5.heap.size ≤ w6.heap.size := hg6.size
    have X36 := Lib.hid (show CellIs rb 3 (.slice Al d.pend.length cl) w6 from (World.cell?_of_block (a := ⟨rb, 3, none⟩) (hf6.block rb hlt4.1 id)).trans X3.out)
    obtain ⟨g6, c6, rfl⟩ := own_form2 ho6 (by omega)
    refine ⟨X36.out, ?_⟩
    go_simp
    refine hK _ _ ?_
    clear hK K
    (refine ord_val (by rfl) (by intro w hi; clear hi; go_simp; with_reducible rfl) (fun K hK => ?_); go_simp; refine hK _ ?_; clear hK K)
    refine ord_eff (by rfl) (fun K hK => ?_)
    refine gets_sem ?_
    go_simp
    have hx7 := heap_alloc_new w6 (.cells #[.int .i64 (s : Nat), .slice (some ⟨g6, 0, none⟩) d.size c6] 78)
    have hf7 : Frm (fun _ => False) w (w6.alloc (.cells #[.int .i64 (s : Nat), .slice (some ⟨g6, 0, none⟩) d.size c6] 78)) := hf6.alloc _
    obtain ⟨o7, ho7⟩ : ∃ o7, Obj.cells #[.int .i64 (s : Nat), .slice (some ⟨g6, 0, none⟩) d.size c6] 78 = o7 := ⟨_, rfl⟩
    have k0 : (w6.alloc o7).cell? ⟨w6.heap.size, 0, none⟩ = some (.int .i64 (s : Nat)) := by rw [← ho7]; exact cell_of_row _ w6.heap.size 0 _ _ _ hx7
    have k1 : (w6.alloc o7).cell? ⟨w6.heap.size, 1, none⟩ = some (.slice (some ⟨g6, 0, none⟩) d.size c6) := by rw [← ho7]; exact cell_of_row _ w6.heap.size 1 _ _ _ hx7
    rw [ho7] at hf7 ⊢
    clear hx7 ho7
    have X37 := Lib.hid (show CellIs rb 3 (.slice Al d.pend.length cl) (w6.alloc o7) from (World.cell?_of_block (a := ⟨rb, 3, none⟩) (hf7.block rb hlt4.1 id)).trans X3.out)
    refine ⟨X37.out, hK _ _ ?_⟩
    clear hK K
    refine ord_eff (by rfl) (fun K hK => ?_)
    refine gets_append2 (P := Try.prog) (w6.alloc o7) (.tmp 57) (.tmp 63) 46 (by rfl) 0 78 (.agg #[.int .i64 0, .slice none 0 0]) 32 Try.underlying46 infP rfl (.slice Al d.pend.length cl) d.pend.length xs (by rfl) (own_keep HXS.out (fun g hg => hf7.block g (HNB.out g hg).2.2.2 id)) w6.heap.size (.int .i64 (s : Nat)) (.slice (some ⟨g6, 0, none⟩) d.size c6) (by rfl) k0 k1 rfl rfl (by omega) (by omega) (Nat.zero_le _) ?_
    intro v8 w8 ho8 hg8 hv8
    have hf8 : (w8.heap[rb]?) = w.heap[rb]? := (hg8.block rb (by have := hf7.size; omega) (fun e => (HNB.out rb e.symm).2.1 rfl)).trans (hf7.block rb hlt4.1 id)
    have X38 := Lib.hid (show CellIs rb 3 (.slice Al d.pend.length cl) w8 from (World.cell?_of_block (a := ⟨rb, 3, none⟩) hf8).trans X3.out)
    have f83 : w8.frozen? ⟨rb, 3, none⟩ = false := frozen_of_row w8 rb 3 _ _ (hf8.trans Q1.out)
    have x83 := CellIs.out X38.out
    obtain ⟨rl', hR8, hp8, hF8⟩ := rwrite_build HR4.out Q1.out Q2.out Q3.out xs HXS.out HPO.out HENT.out Q5.out hf6 (by rw [HBL.out]; exact ho6) hg8 ho8 hv8 hs HBL.out
    obtain ⟨g8, c8, rfl⟩ := own_form2 ho8 (by omega)
    have HR8 := Lib.hid hR8
    have HF8 := Lib.hid hF8
    refine ⟨X38.out, ?_⟩
    go_simp
    refine hK _ _ ?_
    clear hK K hg8 ho8 hv8 k0 k1 hR8 hF8 X37 X36 X35 ho6 hg6 hv6 he5
    iterate 2 (refine ord_val (by rfl) (by intro w hi; clear hi; go_simp; with_reducible rfl) (fun K hK => ?_); go_simp; refine hK _ ?_; clear hK K)
    refine ord_last (by rfl) ?_
    refine gets_sem ?_
    go_simp
    generalize w8.setCell ⟨rb, 3, none⟩ (.slice (some ⟨g8, 0, none⟩) (d.pend.length + 1) c8) = w9 at HR8 HF8 ⊢
    obtain ⟨_, _, _, _, _, _, _, _, _, _, _, _, _, _, _, x97, _, fr9⟩ := HR8.out.at
    have f97 := fr9 7
    have x97' : w9.cell? ⟨rb, 7, none⟩ = some (.int .i64 d.writes) := x97
    have hFt : Frm (fun j => j = rb) w9 (w9.setCell ⟨rb, 7, none⟩ (.int .i64 (d.writes + 1))) := (Frm.refl (fun j => j = rb) w9).setCell rb 7 (Or.inl rfl) _
    have HT := Lib.hid (HR8.out.turn (d' := wroteD d s bl) hFt (fun _ _ _ h1 => heap_setCell_same w9 rb 7 _ _ _ h1) rfl rfl rfl rfl rfl)
    have HFT := Lib.hid (HF4.out.trans (HF8.out.trans (hFt.mono fun j _ h => Or.inl h)))
    have hp9 : rl' = rl ∨ w.heap.size ≤ rl' := by have := HF4.out.size; omega
    clear fr9 x97 hFt x83 f83
    go_wp2
    go_ret
    exact ⟨rfl, rl', HT.out, hp9, HFT.out⟩
  | true =>
    rw [ha] at c5
    simp only [if_true] at c5
    have hl := hl ha
    have hF4 : Frm (fun j => j = rb) w (w.setCell ⟨rb, 5, none⟩ (.int .i64 (d.left - 1))) := (Frm.refl (fun j => j = rb) w).setCell rb 5 (Or.inl rfl) _
    have hst : struckD d = { d with left := d.left - 1 } := by unfold struckD; rw [ha]; rfl
    have hR4 : RBox (w.setCell ⟨rb, 5, none⟩ (.int .i64 (d.left - 1))) rb rk rl { d with left := d.left - 1 } := H.out.turn hF4 (fun keepV lv bc h1 => by
      have := heap_setCell_same w rb 5 _ _ (.int .i64 (d.left - 1)) h1
      rw [this]
      unfold rcells
      simp only [ha, if_true]
      rfl) rfl rfl rfl rfl rfl
    have HR4 := Lib.hid (show RBox (w.setCell ⟨rb, 5, none⟩ (.int .i64 (d.left - 1))) rb rk rl (struckD d) by rw [hst]; exact hR4)
    have HV4 := Lib.hid (HV.out.frm hF4 (fun j hj => Or.inl (Or.inl hj)))
    have HF4 := Lib.hid (hF4.mono (fun j _ h => Or.inl h) : Frm (Own3 rb rk rl) w (w.setCell ⟨rb, 5, none⟩ (.int .i64 (d.left - 1))))
    clear hst hR4 hF4 ha ho
    go_enter Try.func14, Try.ntmps14
    go_upto_region 10 with (fail)
    generalize w.setCell ⟨rb, 5, none⟩ (.int .i64 (d.left - 1)) = w4 at HR4 HV4 HF4 ⊢
    clear c0 c1 c4 c5 fr5
    obtain ⟨keepV, lv, bc, q1, q2, q3, q4, q5, x0, x1, x2, x3, x4, x5, x6, x7, x8, xfr⟩ := HR4.out.at
    obtain ⟨xs, hxs, hpo, hent⟩ := q4
    have hlen4 : (struckD d).pend.length = d.pend.length := rfl
    obtain ⟨Al, cl, rfl⟩ : ∃ A c, lv = .slice A d.pend.length c := by
      obtain ⟨_, ⟨e, h0⟩ | ⟨g, cap, _, e, _⟩⟩ := hxs
      · exact ⟨none, 0, by rw [e]; exact congrArg (fun n => Value.slice none n 0) (show d.pend.length = 0 from h0).symm⟩
      · exact ⟨_, _, e⟩
    have hne4 := HR4.out.ne.2
    have hlt4 := HR4.out.lt
    have hsm4 := HR4.out.small
    have hnb : ∀ g, (Value.slice Al d.pend.length cl).ownBlock = some g → g = rl ∧ g ≠ rb ∧ g ≠ rk ∧ g < w4.heap.size := fun g hg => by
      have e := hpo g hg
      have hp : d.pend ≠ [] := fun e2 => by
        have := q5 e2
        rw [this] at hg; cases hg
      have := hne4 hp
      exact ⟨e, by omega, by omega, own_lt hxs hg⟩
    have Q1 := Lib.hid q1
    have Q2 := Lib.hid q2
    have Q3 := Lib.hid q3
    have Q5 := Lib.hid q5
    have HXS := Lib.hid hxs
    have HPO := Lib.hid hpo
    have HENT := Lib.hid hent
    have HNB := Lib.hid hnb
    clear q1 q2 q3 q5 hxs hpo hent hnb x0 x1 x2 x4 x5 x6 x8
    have X3 := Lib.hid (show CellIs rb 3 (.slice Al d.pend.length cl) w4.drew from x3)
    have X7 := Lib.hid x7
    have XFR := Lib.hid xfr
    clear x3 x7 xfr
    refine region_ordL (CellIs rb 3 (.slice Al d.pend.length cl)) true [false, false, false, false, false, false, true, false, true, false, true, true, false, false, false] (by kernel_rfl) (by kernel_rfl) (by kernel_rfl) (by kernel_rfl) X3.out ?_
    iterate 4 (refine ord_val (by rfl) (by intro w hi; clear hi; go_simp; with_reducible rfl) (fun K hK => ?_); go_simp; refine hK _ ?_; clear hK K)
    (refine ord_val (by rfl) (by intro w hi; have z := CellIs.out hi; go_simp; with_reducible rfl) (fun K hK => ?_); go_simp; refine hK _ ?_; clear hK K)
    (refine ord_val (by rfl) (by intro w hi; clear hi; go_simp; with_reducible rfl) (fun K hK => ?_); go_simp; refine hK _ ?_; clear hK K)
    refine ord_eff (by rfl) (fun K hK => ?_)
    refine gets_sem ?_
    go_simp
    have he5 : Emp (w4.alloc (.cells #[] 5)).drew 5 w4.heap.size := Emp.new w4 5
    have hf5 : Frm (fun _ => False) w4 (w4.alloc (.cells #[] 5)).drew := ((Frm.refl (fun _ => False) w4).alloc _).drew
    have hz5 : (w4.alloc (.cells #[] 5)).drew.heap.size = w4.heap.size + 1 := by simp
    generalize (w4.alloc (.cells #[] 5)).drew = w5 at he5 hf5 hz5 ⊢
    have X35 := Lib.hid (show CellIs rb 3 (.slice Al d.pend.length cl) w5 from (World.cell?_of_block (a := ⟨rb, 3, none⟩) (hf5.block rb hlt4.1 id)).trans X3.out)
    refine ⟨X35.out, hK _ _ ?_⟩
    clear hK K
    (refine ord_val (by rfl) (by intro w hi; clear hi; go_simp; with_reducible rfl) (fun K hK => ?_); go_simp; refine hK _ ?_; clear hK K)
    refine ord_eff (by rfl) (fun K hK => ?_)
    refine gets_append_rd (P := Try.prog) w5 (.tmp 59) (.tmp 60) 32 (by rfl) w4.heap.size 5 (.int .u8 0) 1 Try.underlying32 inf8 rfl (.slice (some ⟨w4.heap.size, 0, none⟩) 0 0) 0 [] (by rfl) (Emp.own he5 (Nat.le_refl _)) (.slice A d.size c) (by rfl) w5.heap.size (bv bl) ((HV4.out.frm hf5 (fun _ h => h.elim)).rd) (bv_one bl) (by rw [bv_length, HBL.out]; omega) (by omega) (by omega) ?_
    intro v6 w6 ho6 hg6 hv6
    rw [List.nil_append, Nat.zero_add, bv_length, HBL.out] at ho6
    have hb6 : (bv bl).length = d.size := by rw [bv_length]; exact HBL.out
    have hf6 : Frm (fun _ => False) w4 w6 := hf5.sub (Frm.of_grown hg6) (fun j e => Or.inr (Nat.le_of_eq e.symm))
    have hz6 : w5.heap.size ≤ w6.heap.size := hg6.size
    have X36 := Lib.hid (show CellIs rb 3 (.slice Al d.pend.length cl) w6 from (World.cell?_of_block (a := ⟨rb, 3, none⟩) (hf6.block rb hlt4.1 id)).trans X3.out)
    obtain ⟨g6, c6, rfl⟩ := own_form2 ho6 (by omega)
    refine ⟨X36.out, ?_⟩
    go_simp
    refine hK _ _ ?_
    clear hK K
    (refine ord_val (by rfl) (by intro w hi; clear hi; go_simp; with_reducible rfl) (fun K hK => ?_); go_simp; refine hK _ ?_; clear hK K)
    refine ord_eff (by rfl) (fun K hK => ?_)
    refine gets_sem ?_
    go_simp
    have hx7 := heap_alloc_new w6 (.cells #[.int .i64 (s : Nat), .slice (some ⟨g6, 0, none⟩) d.size c6] 78)
    have hf7 : Frm (fun _ => False) w4 (w6.alloc (.cells #[.int .i64 (s : Nat), .slice (some ⟨g6, 0, none⟩) d.size c6] 78)) := hf6.alloc _
    obtain ⟨o7, ho7⟩ : ∃ o7, Obj.cells #[.int .i64 (s : Nat), .slice (some ⟨g6, 0, none⟩) d.size c6] 78 = o7 := ⟨_, rfl⟩
    have k0 : (w6.alloc o7).cell? ⟨w6.heap.size, 0, none⟩ = some (.int .i64 (s : Nat)) := by rw [← ho7]; exact cell_of_row _ w6.heap.size 0 _ _ _ hx7
    have k1 : (w6.alloc o7).cell? ⟨w6.heap.size, 1, none⟩ = some (.slice (some ⟨g6, 0, none⟩) d.size c6) := by rw [← ho7]; exact cell_of_row _ w6.heap.size 1 _ _ _ hx7
    rw [ho7] at hf7 ⊢
    clear hx7 ho7
    have X37 := Lib.hid (show CellIs rb 3 (.slice Al d.pend.length cl) (w6.alloc o7) from (World.cell?_of_block (a := ⟨rb, 3, none⟩) (hf7.block rb hlt4.1 id)).trans X3.out)
    refine ⟨X37.out, hK _ _ ?_⟩
    clear hK K
    refine ord_eff (by rfl) (fun K hK => ?_)
    refine gets_append2 (P := Try.prog) (w6.alloc o7) (.tmp 57) (.tmp 63) 46 (by rfl) 0 78 (.agg #[.int .i64 0, .slice none 0 0]) 32 Try.underlying46 infP rfl (.slice Al d.pend.length cl) d.pend.length xs (by rfl) (own_keep HXS.out (fun g hg => hf7.block g (HNB.out g hg).2.2.2 id)) w6.heap.size (.int .i64 (s : Nat)) (.slice (some ⟨g6, 0, none⟩) d.size c6) (by rfl) k0 k1 rfl rfl (by omega) (by omega) (Nat.zero_le _) ?_
    intro v8 w8 ho8 hg8 hv8
    have hf8 : (w8.heap[rb]?) = w4.heap[rb]? := (hg8.block rb (by have := hf7.size; omega) (fun e => (HNB.out rb e.symm).2.1 rfl)).trans (hf7.block rb hlt4.1 id)
    have X38 := Lib.hid (show CellIs rb 3 (.slice Al d.pend.length cl) w8 from (World.cell?_of_block (a := ⟨rb, 3, none⟩) hf8).trans X3.out)
    have f83 : w8.frozen? ⟨rb, 3, none⟩ = false := frozen_of_row w8 rb 3 _ _ (hf8.trans Q1.out)
    have x83 := CellIs.out X38.out
    obtain ⟨rl', hR8, hp8, hF8⟩ := rwrite_build HR4.out Q1.out Q2.out Q3.out xs HXS.out HPO.out HENT.out Q5.out hf6 (by rw [HBL.out]; exact ho6) hg8 ho8 hv8 hs HBL.out
    obtain ⟨g8, c8, rfl⟩ := own_form2 ho8 (by omega)
    have HR8 := Lib.hid hR8
    have HF8 := Lib.hid hF8
    refine ⟨X38.out, ?_⟩
    go_simp
    refine hK _ _ ?_
    clear hK K hg8 ho8 hv8 k0 k1 hR8 hF8 X37 X36 X35 ho6 hg6 hv6 he5
    iterate 2 (refine ord_val (by rfl) (by intro w hi; clear hi; go_simp; with_reducible rfl) (fun K hK => ?_); go_simp; refine hK _ ?_; clear hK K)
    refine ord_last (by rfl) ?_
    refine gets_sem ?_
    go_simp
    generalize w8.setCell ⟨rb, 3, none⟩ (.slice (some ⟨g8, 0, none⟩) (d.pend.length + 1) c8) = w9 at HR8 HF8 ⊢
    obtain ⟨_, _, _, _, _, _, _, _, _, _, _, _, _, _, _, x97, _, fr9⟩ := HR8.out.at
    have f97 := fr9 7
    have x97' : w9.cell? ⟨rb, 7, none⟩ = some (.int .i64 d.writes) := x97
    have hFt : Frm (fun j => j = rb) w9 (w9.setCell ⟨rb, 7, none⟩ (.int .i64 (d.writes + 1))) := (Frm.refl (fun j => j = rb) w9).setCell rb 7 (Or.inl rfl) _
    have HT := Lib.hid (HR8.out.turn (d' := wroteD d s bl) hFt (fun _ _ _ h1 => heap_setCell_same w9 rb 7 _ _ _ h1) rfl rfl rfl rfl rfl)
    have HFT := Lib.hid (HF4.out.trans (HF8.out.trans (hFt.mono fun j _ h => Or.inl h)))
    have hp9 : rl' = rl ∨ w.heap.size ≤ rl' := by have := HF4.out.size; omega
    clear fr9 x97 hFt x83 f83
    go_wp2
    go_ret
    exact ⟨rfl, rl', HT.out, hp9, HFT.out⟩
end Go.Proofs.Ytldmamcalfmedaa
