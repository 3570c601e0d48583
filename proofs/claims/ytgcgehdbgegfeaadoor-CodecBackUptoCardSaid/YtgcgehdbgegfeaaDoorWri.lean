/- Items counted and written, both sides. Conditions: none of its own. -/
import Derived.Test.YtgcgehdbgegfeaaDoorWrk
import Derived.Test.YtgcgehdbgegfeaaDoorItm
namespace Go.Proofs.YtgcgehdbgegfeaaDoor
open Go.ChangeShapes Go.WideShapes Go.ChangeAt Go.RowKit
set_option linter.unusedSimpArgs false
set_option linter.unusedVariables false
theorem RdIt.keep {w w' : World} {C : Nat} {v : Value} {xs : List It} (h : RdIt w C v xs) (hk : ∀ k, k < C → w'.heap[k]? = w.heap[k]?) : RdIt w' C v xs := by
  obtain ⟨A, c, e, h1, h2, h3⟩ := h
  refine ⟨A, c, e, h1, h2, fun hn => ?_⟩
  obtain ⟨b, off, e2, hb, hi⟩ := h3 hn
  have hc : ∀ o, w'.cell? ⟨b, o, none⟩ = w.cell? ⟨b, o, none⟩ := fun o => by unfold World.cell?; rw [hk b hb]
  refine ⟨b, off, e2, hb, fun i x hx => ?_⟩
  obtain ⟨a0, a1, ⟨u2, a2, r2⟩, ⟨u3, a3, r3⟩, a4, a5⟩ := hi i x hx
  exact ⟨by rw [hc]; exact a0, by rw [hc]; exact a1, ⟨u2, by rw [hc]; exact a2, r2.keep hk⟩, ⟨u3, by rw [hc]; exact a3, r3.keep hk⟩, by rw [hc]; exact a4, by rw [hc]; exact a5⟩
theorem RdIt.below {w w' : World} {C : Nat} {v : Value} {xs : List It} (h : RdIt w C v xs) (hb : Below C w w') : RdIt w' C v xs := h.keep hb.block
theorem RdIt.more {w : World} {C C' : Nat} {v : Value} {xs : List It} (h : RdIt w C v xs) (hC : C ≤ C') : RdIt w C' v xs := by
  obtain ⟨A, c, e, h1, h2, h3⟩ := h
  refine ⟨A, c, e, h1, h2, fun hn => ?_⟩
  obtain ⟨b, off, e2, hb, hi⟩ := h3 hn
  refine ⟨b, off, e2, by omega, fun i x hx => ?_⟩
  obtain ⟨a0, a1, ⟨u2, a2, r2⟩, ⟨u3, a3, r3⟩, a4, a5⟩ := hi i x hx
  exact ⟨a0, a1, ⟨u2, a2, r2.more hC⟩, ⟨u3, a3, r3.more hC⟩, a4, a5⟩
/-- one item of a row -/
theorem RdIt.get {w : World} {C : Nat} {A : Option Addr} {n c : Nat} {xs : List It} (h : RdIt w C (.slice A n c) xs) {j : Nat} (hj : j < xs.length) : ∃ b off, A = some ⟨b, off, none⟩ ∧ b < C ∧ ItAt w C b (off + j * 6) xs[j] := by
  obtain ⟨A', c', e, h1, h2, h3⟩ := h
  obtain ⟨b, off, e2, hb, hi⟩ := h3 (by omega)
  injection e with e3 _ _
  exact ⟨b, off, e3.trans e2, hb, hi j _ (List.getElem?_eq_getElem hj)⟩
def Its (xs : List It) : Nat := (xs.map (fun x => x.B.length + x.L.length + 1)).sum
theorem its_take (xs : List It) (j : Nat) (h : j < xs.length) : Its (xs.take (j + 1)) = Its (xs.take j) + xs[j].B.length + xs[j].L.length + 1 := by
  unfold Its; rw [List.take_succ_eq_append_getElem h, List.map_append, List.sum_append]; simp; omega
theorem its_le (xs : List It) (j : Nat) : Its (xs.take j) ≤ Its xs := by
  unfold Its
  conv => rhs; rw [← List.take_append_drop j xs]
  rw [List.map_append, List.sum_append]; omega
theorem its_eq (xs : List It) : Its xs = (xs.map (fun x => x.B.length + x.L.length)).sum + xs.length := by
  unfold Its
  induction xs with
  | nil => rfl
  | cons x r ih => simp only [List.map_cons, List.sum_cons, List.length_cons, ih]; omega
theorem its_item (xs : List It) (j : Nat) (h : j < xs.length) : xs[j].B.length + xs[j].L.length + 1 ≤ Its xs := by
  have h1 := its_take xs j h
  have h2 := its_le xs (j + 1)
  omega
set_option maxRecDepth 100000 in
set_option maxHeartbeats 4000000 in
theorem few_any (w : World) (C : Nat) (v : Value) (xs : List It) (hr : RdIt w C v xs) (hs : Its xs ≤ 2000000) :
    Calls Tryd.prog 10 #[v] w fun e w' => e = .returned (.bool (decide ((Its xs : Int) ≤ 8192))) ∧ ∃ q, w' = w.drewN q := by
  obtain ⟨A, c, rfl, hc1, hc2, hc3⟩ := id hr
  clear hc3
  unfold maxLen at hc2
  have hnl : xs.length ≤ 2000000 := by rw [its_eq] at hs; omega
  have HR := Lib.hid hr
  clear hr
  go_enter Tryd.func10, Tryd.ntmps10
  go_wp2_with fail
  go_loopw [3, 4] (fun n i wr => ∃ j q : Nat, j ≤ xs.length ∧ i = .int .i64 j ∧ n = .int .i64 (Its (xs.take j) : Nat) ∧ wr = w.drewN q) (fun _ i _ => xs.length - (intOf i).toNat)
  case atStart => exact ⟨0, 0, by omega, rfl, rfl, rfl⟩
  case round =>
    obtain ⟨j, q, hj, rfl, rfl, rfl⟩ := hrel
    by_cases hlt : j < xs.length
    · have hst := its_take xs j hlt
      have hle := its_le xs (j + 1)
      obtain ⟨b, off, rfl, hb, a0, a1, ⟨u2, a2, r2⟩, ⟨u3, a3, r3⟩, a4, a5⟩ := HR.out.get hlt
      obtain ⟨A2, c2, rfl, _⟩ := r2
      obtain ⟨A3, c3, rfl, _⟩ := r3
      rw [bv_length] at a2
      rw [iv_length] at a3
      have HST := Lib.hid hst
      generalize xs[j] = x at *
      generalize hB : x.B.length = nB at *
      generalize hL : x.L.length = nL at *
      generalize hT : Its (xs.take j) = T at *
      generalize hT2 : Its (xs.take (j + 1)) = T2 at *
      have HT2 := Lib.hid hT2
      clear a0 a1 a4 a5 hB hL hT hT2
      have d2 : (w.drewN q).cell? ⟨b, off + j * 6 + 2, none⟩ = some (.slice A2 nB c2) := a2
      have d3 : (w.drewN q).cell? ⟨b, off + j * 6 + 3, none⟩ = some (.slice A3 nL c3) := a3
      go_wp2
      go_quiet (fail)
      go_wp2
      go_roundw
      case rel => exact ⟨j + 1, _, by omega, by go_num, by rw [HT2.out]; congr 1; have := HST.out; omega, rfl⟩
      case measure => simp [intOf]; omega
    · obtain rfl : j = xs.length := by omega
      rw [List.take_length]
      go_wp2
      go_ret
      exact ⟨rfl, q, rfl⟩
def encIt (x : It) : List UInt8 := if x.k = 1 then encI x.v else if x.k = 2 then encI x.B.length ++ x.B else if x.k = 3 then encI x.L.length ++ encL x.L else []
def encAll (xs : List It) : List UInt8 := xs.flatMap encIt
theorem encIt_length (x : It) : (encIt x).length ≤ 10 * (x.B.length + x.L.length + 1) := by
  unfold encIt
  have h1 := encI_length x.v
  have h2 := encI_length x.B.length
  have h3 := encI_length x.L.length
  have h4 := encL_length x.L
  split
  · omega
  · split
    · rw [List.length_append]; omega
    · split
      · rw [List.length_append]; omega
      · simp
theorem encAll_length (xs : List It) : (encAll xs).length ≤ 10 * Its xs := by
  unfold encAll Its
  induction xs with
  | nil => simp
  | cons x r ih => simp only [List.flatMap_cons, List.length_append, List.map_cons, List.sum_cons]; have := encIt_length x; omega
theorem encAll_take (xs : List It) (j : Nat) (h : j < xs.length) : encAll (xs.take (j + 1)) = encAll (xs.take j) ++ encIt xs[j] := by
  unfold encAll; rw [List.take_succ_eq_append_getElem h, List.flatMap_append]; simp
/-- a writer in k and a row, apart, that have both laid l -/
def LB (w wr : World) (k : Nat) (rb : Value) (l : List UInt8) : Prop := Below w.heap.size w wr ∧ wr.ownsRow w.heap.size 5 1 rb l.length (bv l) ∧ ∃ O : Nat → Prop, Wr w.heap.size O wr k l ∧ ∀ g, rb.ownBlock = some g → ¬ O g ∧ g ≠ k
theorem own_keep {w w' : World} {base : Nat} {e : TypeId} {v : Value} {n : Nat} {xs : List Value} (h : w.ownsRow base e 1 v n xs) (hk : ∀ g, v.ownBlock = some g → w'.heap[g]? = w.heap[g]?) : w'.ownsRow base e 1 v n xs := by
  refine ⟨h.1, ?_⟩
  rcases h.2 with h0 | ⟨g, cap, cur, rfl, hg, hh, r⟩
  · exact Or.inl h0
  · exact Or.inr ⟨g, cap, cur, rfl, hg, (hk g rfl).trans hh, r⟩
/-- behind the writer's step -/
theorem LB.mid {w wr w1 : World} {k : Nat} {rb : Value} {l l' : List UInt8} {e : Ending} {O : Nat → Prop} (hb : Below w.heap.size w wr) (ho : wr.ownsRow w.heap.size 5 1 rb l.length (bv l)) (hO : ∀ g, rb.ownBlock = some g → ¬ O g ∧ g ≠ k) (h : WrP w.heap.size O wr k l' e w1) :
    e = .returned (.pointer (some ⟨k, 0, none⟩)) ∧ Below w.heap.size w w1 ∧ w1.ownsRow w.heap.size 5 1 rb l.length (bv l) ∧ ∃ O' : Nat → Prop, Wr w.heap.size O' w1 k l' ∧ ∀ g, rb.ownBlock = some g → ¬ O' g ∧ g ≠ k := by
  obtain ⟨h1, h2, h3, h4⟩ := h
  refine ⟨h1, hb.trans h3, own_keep ho (fun g hg => h4 g (ho.lt g hg).2 (hO g hg).2 (hO g hg).1), _, h2, fun g hg => ⟨fun x => ?_, (hO g hg).2⟩⟩
  rcases x with x | x
  · exact (hO g hg).1 x
  · have := (ho.lt g hg).2; omega
/-- behind the row's step -/
theorem LB.fin {w w1 w2 : World} {k : Nat} {rb r2 : Value} {l l' : List UInt8} {O : Nat → Prop} (hb : Below w.heap.size w w1) (ho : w1.ownsRow w.heap.size 5 1 rb l.length (bv l)) (hw : Wr w.heap.size O w1 k l') (hO : ∀ g, rb.ownBlock = some g → ¬ O g ∧ g ≠ k)
    (ho2 : w2.ownsRow w.heap.size 5 1 r2 l'.length (bv l')) (hb2 : Below w.heap.size w1 w2) (hy : Only w1 w2 rb r2) : LB w w2 k r2 l' := by
  obtain ⟨y1, y2⟩ := hy
  obtain ⟨v, a1, a2, a3, a4, a5⟩ := hw
  have hkb : some k ≠ rb.ownBlock := fun e => (hO k e.symm).2 rfl
  refine ⟨hb.trans hb2, ho2, fun g => O g ∧ g < w1.heap.size, ⟨v, a1, a2.grown y1 hkb, own_keep a3 (fun g hg => y1.block g (a3.lt g hg).2 (fun e => (hO g e.symm).1 (a5 g hg))), a4, fun g hg => ⟨a5 g hg, (a3.lt g hg).2⟩⟩, fun g hg => ?_⟩
  rcases y2 with y2 | ⟨g', y2, hg'⟩
  · rw [y2] at hg
    exact ⟨fun x => (hO g hg).1 x.1, (hO g hg).2⟩
  · rw [y2] at hg
    injection hg with hg
    subst hg
    refine ⟨fun x => by omega, ?_⟩
    have := a2.lt
    omega
set_option maxRecDepth 100000 in
set_option maxHeartbeats 8000000 in
theorem written_any (w : World) (v : Value) (xs : List It) (hr : RdIt w w.heap.size v xs) (hwf : ∀ x ∈ xs, x.wf) (hs : Its xs ≤ 1000000) :
    Calls Tryd.prog 11 #[v] w fun e w' => ∃ r1 r2, e = .returned (.tuple #[r1, r2]) ∧ RdV w' w'.heap.size r1 (bv (encAll xs)) ∧ RdV w' w'.heap.size r2 (bv (encAll xs)) ∧ Below w.heap.size w w' := by
  obtain ⟨A, c, rfl, hc1, hc2, hc3⟩ := id hr
  clear hc3
  unfold maxLen at hc2
  have hnl : xs.length ≤ 1000000 := by rw [its_eq] at hs; omega
  have hnew := wnew_any w
  have HR := Lib.hid hr
  have HW := Lib.hid hnew
  clear hr hnew
  go_enter Tryd.func11, Tryd.ntmps11
  go_wp2_with fail
  refine HW.out.mono ?_
  rintro e w1 ⟨rfl, hw1, hb1, _⟩
  have hlb0 : LB w w1 w.heap.size (.slice none 0 0) [] := ⟨hb1, ⟨by simp [bv], Or.inl ⟨rfl, rfl⟩⟩, _, hw1, fun g hg => by simp [Value.ownBlock] at hg⟩
  have HL0 := Lib.hid hlb0
  clear hw1 hb1 hlb0
  go_wp2_with fail
  go_loopw [5, 6] (fun b i wr => ∃ j : Nat, j ≤ xs.length ∧ i = .int .i64 j ∧ LB w wr w.heap.size b (encAll (xs.take j))) (fun _ i _ => xs.length - (intOf i).toNat)
  case atStart => exact ⟨0, by omega, rfl, HL0.out⟩
  case round =>
    obtain ⟨j, hj, rfl, hlb⟩ := hrel
    by_cases hlt : j < xs.length
    · have hst := encAll_take xs j hlt
      have hle := its_le xs j
      have hln := encAll_length (xs.take j)
      have hit := its_item xs j hlt
      have hxw := hwf xs[j] (List.getElem_mem hlt)
      obtain ⟨hbw, how, O, hwr, hO⟩ := hlb
      have hsz := hbw.size
      obtain ⟨b, off, rfl, hb, hat⟩ := (HR.out.below hbw).get hlt
      have hkeep : ∀ w1, Below w.heap.size w w1 → ∀ k, k < w.heap.size → w1.heap[k]? = wr.heap[k]? := fun w1 h k hk => (h.block k hk).trans (hbw.block k hk).symm
      have hcell : ∀ w1, Below w.heap.size w w1 → ∀ o, w1.cell? ⟨b, o, none⟩ = wr.cell? ⟨b, o, none⟩ := fun w1 h o => by unfold World.cell?; rw [hkeep w1 h b hb]
      generalize xs[j] = x at *
      generalize encAll (xs.take j) = l at *
      obtain ⟨a0, a1, ⟨u2, a2, r2⟩, ⟨u3, a3, r3⟩, a4, a5⟩ := hat
      obtain ⟨xk, xv, xL, _, _⟩ := hxw
      have HST := Lib.hid hst
      have HKEEP := Lib.hid hkeep
      have HCELL := Lib.hid hcell
      have HBW := Lib.hid hbw
      have HOW := Lib.hid how
      have HWR := Lib.hid hwr
      have HO := Lib.hid hO
      clear hst hkeep hcell hbw how hwr hO
      have hz : Its xs ≤ 1000000 := hs
      by_cases k1 : x.k = 1
      · rw [k1] at a0
        have hE : encIt x = encI x.v := by unfold encIt; rw [if_pos k1]
        have h1 : Calls Tryd.prog 30 #[.pointer (some ⟨w.heap.size, 0, none⟩), .int .i64 x.v] wr (WrP w.heap.size O wr w.heap.size (l ++ encI x.v)) := wint_any wr w.heap.size O w.heap.size l x.v xv.1 xv.2 HWR.out (by omega)
        have H1 := Lib.hid h1
        have HE := Lib.hid hE
        clear h1 hE a2 a3 a4 a5 r2 r3 k1
        go_wp2_with fail
        refine H1.out.mono ?_
        intro e w2 hw2
        obtain ⟨rfl, hb2, ho2, O2, hwr2, hO2⟩ := LB.mid HBW.out HOW.out HO.out hw2
        have hs2 := hb2.size
        have q1 := (HCELL.out w2 hb2 (off + j * 6 + 1)).trans a1
        have h3 := eint_any w2 w.heap.size hs2 _ l x.v xv.1 xv.2 (by omega) ho2
        have H3 := Lib.hid h3
        have HB2 := Lib.hid hb2
        have HO2 := Lib.hid ho2
        have HWR2 := Lib.hid hwr2
        have HOO := Lib.hid hO2
        clear h3 hb2 ho2 hwr2 hO2 hw2
        go_wp2_with fail
        refine H3.out.mono ?_
        rintro e w3 ⟨r4, rfl, ho4, hb4, hy4⟩
        have hfin := LB.fin HB2.out HO2.out HWR2.out HOO.out ho4 hb4 hy4
        have HF := Lib.hid hfin
        clear hfin ho4 hb4 hy4
        go_wp2
        go_roundw
        case rel => exact ⟨j + 1, by omega, by go_num, by rw [HST.out, HE.out]; exact HF.out⟩
        case measure => simp [intOf]; omega
      · by_cases k2 : x.k = 2
        · rw [k2] at a0
          have hE : encIt x = encI x.B.length ++ x.B := by unfold encIt; rw [if_neg k1, if_pos k2]
          obtain ⟨A2, c2, rfl, hq1, hq2, _⟩ := id r2
          rw [bv_length] at a2 hq1 r2
          unfold maxLen at hq2
          have h1 := wbytes_all wr w.heap.size O w.heap.size l A2 c2 x.B w.heap.size (fun w1 h _ => r2.keep h.block) (by omega) HWR.out (by omega)
          rw [List.append_assoc] at h1
          have H1 := Lib.hid h1
          have HE := Lib.hid hE
          have HR2 := Lib.hid r2
          clear h1 hE a1 a3 a4 a5 r2 r3 k1 k2
          go_wp2_with fail
          refine H1.out.mono ?_
          intro e w2 hw2
          obtain ⟨rfl, hb2, ho2, O2, hwr2, hO2⟩ := LB.mid HBW.out HOW.out HO.out hw2
          have hs2 := hb2.size
          have q1 := (HCELL.out w2 hb2 (off + j * 6 + 2)).trans a2
          have r5 := HR2.out.keep (HKEEP.out w2 hb2)
          have h3 := ebytes_any w2 w.heap.size w.heap.size hs2 _ l _ x.B r5 (Nat.le_refl _) (by omega) (by omega) ho2
          rw [List.append_assoc] at h3
          have H3 := Lib.hid h3
          have HB2 := Lib.hid hb2
          have HO2 := Lib.hid ho2
          have HWR2 := Lib.hid hwr2
          have HOO := Lib.hid hO2
          clear h3 hb2 ho2 hwr2 hO2 hw2
          go_wp2_with fail
          refine H3.out.mono ?_
          rintro e w3 ⟨r4, rfl, ho4, hb4, hy4⟩
          have hfin := LB.fin HB2.out HO2.out HWR2.out HOO.out ho4 hb4 hy4
          have HF := Lib.hid hfin
          clear hfin ho4 hb4 hy4
          go_wp2
          go_roundw
          case rel => exact ⟨j + 1, by omega, by go_num, by rw [HST.out, HE.out]; exact HF.out⟩
          case measure => simp [intOf]; omega
        · by_cases k3 : x.k = 3
          · rw [k3] at a0
            have hE : encIt x = encI x.L.length ++ encL x.L := by unfold encIt; rw [if_neg k1, if_neg k2, if_pos k3]
            have h1 := wlist_any wr w.heap.size O w.heap.size l u3 x.L w.heap.size xL (fun w1 h _ => r3.keep h.block) (by omega) HWR.out (by omega)
            rw [List.append_assoc] at h1
            have H1 := Lib.hid h1
            have HE := Lib.hid hE
            have HR3 := Lib.hid r3
            clear h1 hE a1 a2 a4 a5 r2 r3 k1 k2 k3
            go_wp2_with fail
            refine H1.out.mono ?_
            intro e w2 hw2
            obtain ⟨rfl, hb2, ho2, O2, hwr2, hO2⟩ := LB.mid HBW.out HOW.out HO.out hw2
            have hs2 := hb2.size
            have q1 := (HCELL.out w2 hb2 (off + j * 6 + 3)).trans a3
            have r5 := HR3.out.keep (HKEEP.out w2 hb2)
            have h3 := elist_any w2 w.heap.size w.heap.size hs2 _ l _ x.L xL r5 (Nat.le_refl _) (by omega) (by omega) ho2
            rw [List.append_assoc] at h3
            have H3 := Lib.hid h3
            have HB2 := Lib.hid hb2
            have HO2 := Lib.hid ho2
            have HWR2 := Lib.hid hwr2
            have HOO := Lib.hid hO2
            clear h3 hb2 ho2 hwr2 hO2 hw2
            go_wp2_with fail
            refine H3.out.mono ?_
            rintro e w3 ⟨r4, rfl, ho4, hb4, hy4⟩
            have hfin := LB.fin HB2.out HO2.out HWR2.out HOO.out ho4 hb4 hy4
            have HF := Lib.hid hfin
            clear hfin ho4 hb4 hy4
            go_wp2
            go_roundw
            case rel => exact ⟨j + 1, by omega, by go_num, by rw [HST.out, HE.out]; exact HF.out⟩
            case measure => simp [intOf]; omega
          · have hE : encIt x = [] := by unfold encIt; rw [if_neg k1, if_neg k2, if_neg k3]
            have HE := Lib.hid hE
            have d1 : (x.k == 1) = false := by rw [beq_eq_false_iff_ne]; exact k1
            have d2 : (x.k == 2) = false := by rw [beq_eq_false_iff_ne]; exact k2
            have d3 : (x.k == 3) = false := by rw [beq_eq_false_iff_ne]; exact k3
            clear hE a1 a2 a3 a4 a5 r2 r3 k1 k2 k3
            go_wp2
            go_roundw
            case rel => exact ⟨j + 1, by omega, by go_num, by rw [HST.out, HE.out, List.append_nil]; exact ⟨HBW.out, HOW.out, O, HWR.out, HO.out⟩⟩
            case measure => simp [intOf]; omega
    · obtain rfl : j = xs.length := by omega
      rw [List.take_length] at hlb
      have hln := encAll_length xs
      obtain ⟨hbw, how, O, hwr, hO⟩ := hlb
      have h1 := wdone_any wr w.heap.size O w.heap.size (encAll xs) hwr (by omega)
      have H1 := Lib.hid h1
      have HOW := Lib.hid how
      have HBW := Lib.hid hbw
      clear h1 how hbw hwr hO
      go_wp2_with fail
      refine H1.out.mono ?_
      rintro e w2 ⟨r, rfl, hr2, hb2⟩
      have hr3 := (RdV.own HOW.out).below hb2
      have hs2 := hb2.size
      have hb3 := nextB hb2 HBW.out
      go_wp2
      go_ret2
      exact ⟨_, _, rfl, hr2, hr3.more hs2, hb3⟩
end Go.Proofs.YtgcgehdbgegfeaaDoor
