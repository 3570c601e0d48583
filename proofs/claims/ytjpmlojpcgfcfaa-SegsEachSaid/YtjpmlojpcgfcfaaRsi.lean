/- The document's table of segments: Release, New, Load. Conditions: none. -/
import Derived.Test.YtjpmlojpcgfcfaaRsh
namespace Go.Proofs.Ytjpmlojpcgfcfaa
open Go.ChangeShapes Go.WideShapes Go.ChangeAt Go.RowKit Go.Maps
set_option linter.unusedSimpArgs false
set_option linter.unusedVariables false
theorem relN_lt {f : Int → Ent} {ep : Int} {N k : Nat} (h : k ∈ relN f ep N) : k < N := (relN_mem.1 h).1
theorem relP_at {f : Int → Ent} {ep : Int} (j : Nat) : relP f (relN f ep j) (j : Nat) = f (j : Nat) := by
  unfold relP
  rw [if_neg]
  rintro ⟨_, h⟩
  have := relN_lt h
  omega
theorem Frm.then_below {O : Nat → Prop} {a b c : World} (h : Frm O a b) (k : Below a.heap.size b c) : Frm O a c :=
  ⟨k.os.trans h.os, k.tape.trans h.tape, k.output.trans h.output, Nat.le_trans h.size k.size, fun j hj ho => (k.block j hj).trans (h.block j hj ho)⟩
theorem RTab.keepB {w w' : World} {rb gb N B : Nat} {f : Int → Ent} (h : RTab w rb gb N f) (hb : Below B w w') (h1 : rb < B) (h2 : gb < B) : RTab w' rb gb N f := by
  obtain ⟨cs, h3, h4⟩ := h.row
  exact h.other (hb.block rb h1) ⟨cs, (hb.block gb h2).trans h3, h4⟩
set_option maxRecDepth 100000 in
set_option maxHeartbeats 2000000 in
theorem rrelease_any (rb gb N : Nat) (f : Int → Ent) (w : World) (h : RTab w rb gb N f) (ep : Int) :
    Calls Try.prog 31 #[.pointer (some ⟨rb, 0, none⟩), .int .i64 ep] w fun e w' => ∃ v, e = .returned v ∧ w'.ownsRow w.heap.size 3 1 v (relN f ep N).length (intsV (relN f ep N)) ∧ RTab w' rb gb N (relP f (relN f ep N)) ∧ Frm (fun j => j = gb) w w' := by
  have hbn := h.bound
  have hgb := h.lt
  have H := Lib.hid h
  clear h
  go_enter Try.func31, Try.ntmps31
  have hc0 := H.out.cell
  go_wp2
  clear hc0
  go_loopw [5, 6] (fun v i wr => ∃ j : Nat, j ≤ N ∧ i = .int .i64 j ∧ wr.ownsRow w.heap.size 3 1 v (relN f ep j).length (intsV (relN f ep j)) ∧ RTab wr rb gb N (relP f (relN f ep j)) ∧ Frm (fun j => j = gb) w wr) (fun v i wr => N - (intOf i).toNat)
  case atStart => exact ⟨0, by omega, rfl, ⟨rfl, Or.inl ⟨rfl, rfl⟩⟩, by rw [relN, relP_nil]; exact H.out, Frm.refl _ _⟩
  case round =>
    obtain ⟨j, hj, rfl, ho, hT, hF⟩ := hrel
    have hc := hT.cell
    by_cases hlt : j < N
    · obtain ⟨e, a, a1, a2, a3⟩ := hT.at j hlt
      rw [relP_at] at a a2 a3
      have hlen := relN_len f ep j
      have HO := Lib.hid ho
      have HT := Lib.hid hT
      have HF := Lib.hid hF
      clear ho hT hF
      by_cases hs : (f (j : Nat)).st = 3
      · have hep := a3 hs
        subst hep
        rw [hs] at a
        by_cases he : (f (j : Nat)).ep ≤ ep
        · have hr : relN f ep (j + 1) = relN f ep j ++ [j] := by rw [relN, if_pos ⟨hs, he⟩]
          have h2 := HT.out.clear j hlt
          rw [← relP_snoc, ← hr] at h2
          have f0 := HT.out.free (j * 3)
          have f1 := HT.out.free (j * 3 + 1)
          have f2 := HT.out.free (j * 3 + 2)
          have hF2 : Frm (fun j => j = gb) w (((wr.setCell ⟨gb, j * 3, none⟩ (.int .i64 0)).setCell ⟨gb, j * 3 + 1, none⟩ (.int .i64 0)).setCell ⟨gb, j * 3 + 2, none⟩ (.int .i64 0)) := ((HF.out.setCell gb _ (Or.inl rfl) _).setCell gb _ (Or.inl rfl) _).setCell gb _ (Or.inl rfl) _
          have hFr : Frm (fun j => j = gb) wr (((wr.setCell ⟨gb, j * 3, none⟩ (.int .i64 0)).setCell ⟨gb, j * 3 + 1, none⟩ (.int .i64 0)).setCell ⟨gb, j * 3 + 2, none⟩ (.int .i64 0)) := (((Frm.refl (fun j => j = gb) wr).setCell gb _ (Or.inl rfl) _).setCell gb _ (Or.inl rfl) _).setCell gb _ (Or.inl rfl) _
          have h2' : RTab (((wr.setCell ⟨gb, j * 3, none⟩ (.int .i64 0)).setCell ⟨gb, j * 3 + 1, none⟩ (.int .i64 0)).setCell ⟨gb, j * 3 + 2, none⟩ (.int .i64 0)) rb gb N (relP f (relN f ep (j + 1))) := h2
          have ho2 := own_frm HO.out hFr (by omega)
          have H2 := Lib.hid h2'
          have HF2 := Lib.hid hF2
          have HO2 := Lib.hid ho2
          have HR := Lib.hid hr
          clear h2 h2' hF2 hFr hr a3 hs ho2
          generalize (f (j : Nat)).ep = e at a1 he
          generalize (f (j : Nat)).us = us at a2
          go_upto_region 7 with (fail)
          generalize (((wr.setCell ⟨gb, j * 3, none⟩ (.int .i64 0)).setCell ⟨gb, j * 3 + 1, none⟩ (.int .i64 0)).setCell ⟨gb, j * 3 + 2, none⟩ (.int .i64 0)) = W at H2 HF2 HO2 ⊢
          refine wp_region_lit ?_
          refine wpList_plain rfl fun K1 hK1 => ?_
          go_simp
          refine hK1 _ _ ?_
          refine wpList_plain rfl fun K2 hK2 => ?_
          go_simp
          refine hK2 _ _ ?_
          refine wpList_plain rfl fun K3 hK3 => ?_
          go_simp
          refine hK3 _ _ ?_
          clear hK1 hK2 hK3
          have hba : w.heap.size ≤ (W.alloc (.cells #[.int .i64 (j : Nat)] 3)).heap.size := by have := HF2.out.size; simp; omega
          have HL := Lib.hid (RdV.one W (.int .i64 (j : Nat)) 3)
          refine wpList_append_rd _ rfl _ _ 53 rfl w.heap.size 3 (.int .i64 0) 8 Try.underlying53 infI rfl _ _ _ rfl (HO2.out.alloc _) _ rfl _ [.int .i64 (j : Nat)] HL.out (by intro u hu; simp at hu; subst hu; rfl) (by show (_ + 1) * 8 ≤ _; omega) (by omega) hba ?_
          intro v2 w2 ho hg hv
          have hg' : (W.alloc (.cells #[.int .i64 (j : Nat)] 3)).grownBy w2 u5.ownBlock := hg
          have hB2 : Below w.heap.size W w2 := ((Below.refl _ W).alloc HF2.out.size (.cells #[.int .i64 (j : Nat)] 3)).grown hg' hba (fun g e => (HO2.out.lt g e).1)
          have HT2 := Lib.hid (H2.out.keepB hB2 hgb.1 hgb.2)
          have HF3 := Lib.hid (HF2.out.then_below hB2)
          have HO3 := Lib.hid (show w2.ownsRow w.heap.size 3 1 v2 (relN f ep (j + 1)).length (intsV (relN f ep (j + 1))) by rw [HR.out]; simpa [intsV] using ho)
          clear ho hg hg' hv hB2 HO2 HL H2 HF2 HR HO HT HF hc f0 f1 f2 a a1 a2
          refine wpList_plain rfl fun K4 hK4 => ?_
          go_simp
          refine hK4 _ _ ?_
          clear hK4
          refine wpList_nil ?_
          go_wp2
          go_roundw
          case rel => exact ⟨j + 1, by omega, by go_num, HO3.out, HT2.out, HF3.out⟩
          case measure => simp [intOf]; omega
        · have hr : relN f ep (j + 1) = relN f ep j := by rw [relN, if_neg (fun x => he x.2), List.append_nil]
          have HR := Lib.hid hr
          clear hr a3 hs a2
          generalize (f (j : Nat)).ep = e at a1 he
          go_wp2
          go_roundw
          case rel => exact ⟨j + 1, by omega, by go_num, by rw [HR.out]; exact HO.out, by rw [HR.out]; exact HT.out, HF.out⟩
          case measure => simp [intOf]; omega
      · have hr : relN f ep (j + 1) = relN f ep j := by rw [relN, if_neg (fun x => hs x.1), List.append_nil]
        have t0 : ((f (j : Nat)).st == 3) = false := by rw [beq_eq_false_iff_ne]; exact hs
        have HR := Lib.hid hr
        clear hr a3 hs a2 a1
        generalize (f (j : Nat)).st = st at a t0
        go_wp2
        go_roundw
        case rel => exact ⟨j + 1, by omega, by go_num, by rw [HR.out]; exact HO.out, by rw [HR.out]; exact HT.out, HF.out⟩
        case measure => simp [intOf]; omega
    · obtain rfl : j = N := by omega
      have HO := Lib.hid ho
      have HT := Lib.hid hT
      have HF := Lib.hid hF
      clear ho hT hF
      go_wp2
      go_ret
      exact ⟨_, rfl, HO.out, HT.out, HF.out⟩
end Go.Proofs.Ytjpmlojpcgfcfaa
