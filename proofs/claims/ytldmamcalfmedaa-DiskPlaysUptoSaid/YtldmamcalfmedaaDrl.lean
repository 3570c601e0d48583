/- The document's disk: Flush, Cut, Arm. Conditions: none. -/
import Derived.Test.YtldmamcalfmedaaDrk
namespace Go.Proofs.Ytldmamcalfmedaa
open Go.ChangeShapes Go.WideShapes Go.ChangeAt Go.RowKit Go.Maps
set_option linter.unusedSimpArgs false
set_option linter.unusedVariables false
theorem setL_take (size : Nat) (kp : Nat → Bool) (l : List (Nat × List UInt8)) (k : Nat) (hk : k < l.length) (K : List UInt8) : setL size kp (l.take (k + 1)) 0 K = if kp k = true then layP size (setL size kp (l.take k) 0 K) (l[k].1, l[k].2) else setL size kp (l.take k) 0 K := by
  rw [List.take_succ_eq_append_getElem hk, setL_snoc, Nat.zero_add, List.length_take, Nat.min_eq_left (by omega)]
/-- nothing is pending any more -/
theorem RBox.emptied {w : World} {rb rk rl : Nat} {d : Dk} (h : RBox w rb rk rl d) : RBox (w.setCell ⟨rb, 3, none⟩ (.slice none 0 0)) rb rk rl { d with pend := [] } ∧ Frm (fun j => j = rb) w (w.setCell ⟨rb, 3, none⟩ (.slice none 0 0)) := by
  have hF : Frm (fun j => j = rb) w (w.setCell ⟨rb, 3, none⟩ (.slice none 0 0)) := (Frm.refl (fun j => j = rb) w).setCell rb 3 (Or.inl rfl) (.slice none 0 0)
  obtain ⟨keepV, lv, bc, h1, h2, h3, h4, h5⟩ := h.cells
  obtain ⟨n1, n4⟩ := h.ne
  refine ⟨⟨⟨keepV, .slice none 0 0, bc, ?_, h2.frm hF (fun j hj => Or.inl (Or.inl hj)), own_keep h3 (fun g hg => by injection hg with hg; subst hg; exact hF.block _ h.lt.2 (fun x => n1 x.symm)), ⟨[], ⟨rfl, Or.inl ⟨rfl, rfl⟩⟩, fun g hg => (by cases hg), fun i p hi => (by simp at hi)⟩, fun _ => rfl⟩, ⟨n1, fun h => absurd rfl h⟩, ⟨h.ok.n, h.ok.size, h.ok.kept, fun p hp => by simp at hp⟩, Nat.lt_of_lt_of_le h.small hF.size, fun j hj => Nat.lt_of_lt_of_le (h.away j hj) hF.size⟩, hF⟩
  have := heap_setCell_same w rb 3 _ _ (.slice none 0 0) h1
  rw [this]
  rfl
def rcutD (d : Dk) (bs : List Bool) : Dk := { d with kept := setL d.size (keeps bs) d.pend 0 d.kept, pend := [], off := true, armed := false, left := 0 }
section
variable (rb rk rl : Nat) (d : Dk) (w : World) (h : RBox w rb rk rl d)
include h
set_option maxRecDepth 100000 in
theorem rflush_off (ho : d.off = true) : Calls Try.prog 16 #[.pointer (some ⟨rb, 0, none⟩)] w fun e w' => e = .returned (.int .i64 8) ∧ w = w' := by
  obtain ⟨keepV, lv, bc, _, _, _, _, _, c0, c1, c2, c3, c4, _⟩ := h.at
  rw [ho] at c4
  clear h ho
  go_enter Try.func16, Try.ntmps16
  go_wp2
  go_ret
  exact ⟨rfl, rfl⟩
set_option maxRecDepth 100000 in
set_option maxHeartbeats 4000000 in
theorem rflush_on (ho : d.off = false) (hlen : d.pend.length ≤ 1000000) : Calls Try.prog 16 #[.pointer (some ⟨rb, 0, none⟩)] w fun e w' => e = .returned (.int .i64 0) ∧ RBox w' rb rk rl (flushD d) ∧ Frm (fun j => j = rb ∨ j = rk) w w' := by
  obtain ⟨keepV0, lv0, bc0, _, _, _, r40, _, _, _, _, c3, c4, _⟩ := h.at
  rw [ho] at c4
  obtain ⟨A, c, rfl⟩ : ∃ A c, lv0 = .slice A d.pend.length c := by
    obtain ⟨xs, ho, _⟩ := r40
    obtain ⟨_, ⟨e, h0⟩ | ⟨g, cap, _, e, _⟩⟩ := ho
    · exact ⟨none, 0, by rw [e, h0]⟩
    · exact ⟨_, _, e⟩
  have H := Lib.hid h
  have hlt := h.lt
  have hne := h.ne.1
  clear h r40
  go_enter Try.func16, Try.ntmps16
  go_wp2
  clear c3 c4
  go_loopw [3] (fun i wx => ∃ k : Nat, k ≤ d.pend.length ∧ i = .int .i64 k ∧ RBox wx rb rk rl { d with kept := setL d.size (fun _ => true) (d.pend.take k) 0 d.kept } ∧ Frm (fun j => j = rk) w wx) (fun i wx => d.pend.length - (intOf i).toNat)
  case atStart => exact ⟨0, by omega, rfl, by rw [List.take_zero]; exact H.out, Frm.refl _ _⟩
  case round =>
    obtain ⟨k, hk, rfl, hR, hF⟩ := hrel
    obtain ⟨keepV, lv, bc, r1, r2, r3, r4, _, c0, c1, c2c, c3, _, _, _, _, _, fr⟩ := hR.at
    by_cases hlt2 : k < d.pend.length
    · have hpk : d.pend[k]? = some d.pend[k] := List.getElem?_eq_getElem hlt2
      have hpn : d.pend ≠ [] := fun e => by rw [e] at hlt2; simp at hlt2
      obtain ⟨cap, v, e1, y0, y1, hv⟩ := PRowR.cells (show PRowR wr (Own3X d.away rb rk rl) rl lv d.pend from r4) hpk
      subst e1
      have hpok := H.out.ok.pend _ (List.getElem_mem hlt2)
      have hsn := setL_take d.size (fun _ => true) d.pend k hlt2 d.kept
      have hvk : RdX (fun j => j = rk) wr v (bv d.pend[k].2) := hv.mono (fun j _ hj => Or.inl (Or.inr (Or.inl hj)))
      have hkk := rkeep_any rb rk rl _ wr hR d.pend[k].1 hpok.1 v d.pend[k].2 hvk hpok.2
      obtain ⟨A2, c2, rfl, v1, v2, v3⟩ := id hvk
      have HKK := Lib.hid hkk
      have HSN := Lib.hid hsn
      have HF := Lib.hid hF
      clear hR hF r1 r2 r3 r4 c0 c1 c2c hkk hsn hpk hv hvk v3 hpok fr
      generalize d.pend[k].1 = ps at *
      generalize d.pend[k].2 = pbl at *
      rw [bv_length] at y1 HKK v1
      generalize pbl.length = pl at *
      go_wp2_with fail
      refine HKK.out.mono ?_
      rintro e w3 ⟨rfl, hR3, hF3⟩
      have HR3 := Lib.hid hR3
      have HF3 := Lib.hid (HF.out.trans hF3)
      clear hR3 hF3
      go_wp2
      go_roundw
      case rel =>
        refine ⟨k + 1, by omega, by go_num, ?_, HF3.out⟩
        have e := HSN.out
        simp only [if_true] at e
        rw [e]
        exact HR3.out
      case measure => simp [intOf]; omega
    · obtain rfl : k = d.pend.length := by omega
      obtain ⟨A3, c3v, rfl⟩ : ∃ A c, lv = .slice A d.pend.length c := by
        obtain ⟨xs, ho, _⟩ := r4
        obtain ⟨_, ⟨e, h0⟩ | ⟨g, cap, _, e, _⟩⟩ := ho
        · exact ⟨none, 0, by rw [e]; exact congrArg (fun n => Value.slice none n 0) h0.symm⟩
        · exact ⟨_, _, e⟩
      rw [List.take_length] at hR
      have HE := Lib.hid hR.emptied
      have HF := Lib.hid hF
      have fr3 := fr 3
      clear hR hF r1 r2 r3 r4 c0 c1 c2c fr
      go_wp2
      go_ret
      exact ⟨rfl, HE.out.1, (HF.out.mono fun j _ h => Or.inr h).trans (HE.out.2.mono fun j _ h => Or.inl h)⟩
set_option maxRecDepth 100000 in
set_option maxHeartbeats 4000000 in
theorem rcut_any (vk : Value) (bs : List Bool) (hvk0 : RdX (fun j => j = rb ∨ j = rk) w vk (boolV bs)) (hlen : d.pend.length ≤ 1000000) : Calls Try.prog 20 #[.pointer (some ⟨rb, 0, none⟩), vk] w fun e w' => e = .returned (.tuple #[]) ∧ RBox w' rb rk rl (rcutD d bs) ∧ Frm (fun j => j = rb ∨ j = rk) w w' := by
  have H := Lib.hid h
  have hlt := h.lt
  have hne := h.ne.1
  obtain ⟨Ak, ck, rfl, hk1, hk2, _⟩ := id hvk0
  rw [boolV_length] at hk1 hvk0 ⊢
  unfold maxLen at hk2
  have hk3 : bs.length ≤ 9223372036854775807 := by omega
  have HVK := Lib.hid hvk0
  clear h hvk0 hk2
  go_enter Try.func20, Try.ntmps20
  go_wp2
  go_loopw [4] (fun i wx => ∃ k : Nat, k ≤ d.pend.length ∧ i = .int .i64 k ∧ RBox wx rb rk rl { d with kept := setL d.size (keeps bs) (d.pend.take k) 0 d.kept } ∧ Frm (fun j => j = rk) w wx) (fun i wx => d.pend.length - (intOf i).toNat)
  case atStart => exact ⟨0, by omega, rfl, by rw [List.take_zero]; exact H.out, Frm.refl _ _⟩
  case round =>
    obtain ⟨k, hk, rfl, hR, hF⟩ := hrel
    obtain ⟨keepV, lv, bc, r1, r2, r3, r4, _, c0, c1, c2c, c3, c4, c5, _, _, _, fr⟩ := hR.at
    by_cases hlt2 : k < d.pend.length
    · have HRR := Lib.hid hR
      have hpk : d.pend[k]? = some d.pend[k] := List.getElem?_eq_getElem hlt2
      have hpn : d.pend ≠ [] := fun e => by rw [e] at hlt2; simp at hlt2
      obtain ⟨cap, v, e1, y0, y1, hv⟩ := PRowR.cells (show PRowR wr (Own3X d.away rb rk rl) rl lv d.pend from r4) hpk
      subst e1
      have hpok := H.out.ok.pend _ (List.getElem_mem hlt2)
      have hsn := setL_take d.size (keeps bs) d.pend k hlt2 d.kept
      have hvk : RdX (fun j => j = rk) wr v (bv d.pend[k].2) := hv.mono (fun j _ hj => Or.inl (Or.inr (Or.inl hj)))
      have hkk := rkeep_any rb rk rl _ wr hR d.pend[k].1 hpok.1 v d.pend[k].2 hvk hpok.2
      obtain ⟨A2, c2, rfl, v1, v2, v3⟩ := id hvk
      have HKK := Lib.hid hkk
      have HSN := Lib.hid hsn
      have HF := Lib.hid hF
      clear hR hF r1 r2 r3 r4 c0 c1 c2c hkk hsn hpk hv hvk v3 hpok fr
      generalize d.pend[k].1 = ps at *
      generalize d.pend[k].2 = pbl at *
      rw [bv_length] at y1 HKK v1
      generalize pbl.length = pl at *
      by_cases hkb : k < bs.length
      · have hgk : keeps bs k = bs[k] := by simp [keeps, List.getD, hkb]
        obtain ⟨b0, off, rfl, hbB, hcell⟩ := ((HVK.out.frm (HF.out.mono fun j _ h => Or.inr h) (fun j h => h)).rd).get (j := k) (u := .bool bs[k]) (by unfold boolV; rw [List.getElem?_map, List.getElem?_eq_getElem hkb]; rfl)
        generalize bs[k] = x at hcell hgk
        have HGK := Lib.hid hgk
        clear hgk
        cases x with
        | true =>
          go_wp2_with fail
          refine HKK.out.mono ?_
          rintro e w3 ⟨rfl, hR3, hF3⟩
          have HR3 := Lib.hid hR3
          have HF3 := Lib.hid (HF.out.trans hF3)
          clear hR3 hF3
          go_wp2
          go_roundw
          case rel =>
            refine ⟨k + 1, by omega, by go_num, ?_, HF3.out⟩
            have := HR3.out
            rw [HSN.out, if_pos HGK.out]
            exact this
          case measure => simp [intOf]; omega
        | false =>
          go_wp2
          go_roundw
          case rel =>
            refine ⟨k + 1, by omega, by go_num, ?_, HF.out⟩
            rw [HSN.out, if_neg (by rw [HGK.out]; simp)]
            exact HRR.out
          case measure => simp [intOf]; omega
      · have hgk : keeps bs k = false := by simp [keeps, List.getD, List.getElem?_eq_none (Nat.le_of_not_lt hkb)]
        have HGK := Lib.hid hgk
        clear hgk
        go_wp2
        go_roundw
        case rel =>
          refine ⟨k + 1, by omega, by go_num, ?_, HF.out⟩
          rw [HSN.out, if_neg (by rw [HGK.out]; simp)]
          exact HRR.out
        case measure => simp [intOf]; omega
    · obtain rfl : k = d.pend.length := by omega
      obtain ⟨A3, c3v, rfl⟩ : ∃ A c, lv = .slice A d.pend.length c := by
        obtain ⟨xs, ho, _⟩ := r4
        obtain ⟨_, ⟨e, h0⟩ | ⟨g, cap, _, e, _⟩⟩ := ho
        · exact ⟨none, 0, by rw [e]; exact congrArg (fun n => Value.slice none n 0) h0.symm⟩
        · exact ⟨_, _, e⟩
      rw [List.take_length] at hR
      have HE := Lib.hid hR.emptied
      have HF := Lib.hid hF
      have fr3 := fr 3
      have fr4 := fr 4
      have fr5 := fr 5
      have hE4 := HE.out.1.turn (d' := { d with kept := setL d.size (keeps bs) d.pend 0 d.kept, pend := [], off := true }) ((Frm.refl (fun j => j = rb) _).setCell rb 4 (Or.inl rfl) (.bool true)) (fun _ _ _ h1 => heap_setCell_same _ rb 4 _ _ _ h1) rfl rfl rfl rfl rfl
      have hE5 := hE4.turn (d' := rcutD d bs) ((Frm.refl (fun j => j = rb) _).setCell rb 5 (Or.inl rfl) (.int .i64 0)) (fun _ _ _ h1 => heap_setCell_same _ rb 5 _ _ _ h1) rfl rfl rfl rfl rfl
      have HE5 := Lib.hid hE5
      clear hR hF r1 r2 r3 r4 c0 c1 c2c fr hE4 hE5
      go_wp2
      go_end0
      exact ⟨rfl, HE5.out, (HF.out.mono fun j _ h => Or.inr h).trans ((HE.out.2.mono fun j _ h => Or.inl h).trans (((Frm.refl (fun j => j = rb ∨ j = rk) _).setCell rb 4 (Or.inl (Or.inl rfl)) (.bool true)).setCell rb 5 (Or.inl (Or.inl rfl)) (.int .i64 0)))⟩
end
end Go.Proofs.Ytldmamcalfmedaa
