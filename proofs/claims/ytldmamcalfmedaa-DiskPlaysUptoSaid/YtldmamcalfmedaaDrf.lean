/- The document's disk: Read. Conditions: none. -/
import Derived.Test.YtldmamcalfmedaaDre
namespace Go.Proofs.Ytldmamcalfmedaa
open Go.ChangeShapes Go.WideShapes Go.ChangeAt Go.RowKit Go.Maps
set_option linter.unusedSimpArgs false
set_option linter.unusedVariables false
theorem lastP_eq (s : Nat) : ∀ (n : Nat) (l : List (Nat × List UInt8)), l.length = n → ∀ (i : Nat) (p : Nat × List UInt8), l[i]? = some p → p.1 = s → (∀ j q, i < j → l[j]? = some q → q.1 ≠ s) → lastP l s = some p.2
  | 0, l, hl, i, p, hi, _, _ => by
    obtain rfl : l = [] := List.eq_nil_of_length_eq_zero hl
    simp at hi
  | n + 1, l, hl, i, p, hi, hp, hlater => by
    obtain ⟨r, z, rfl⟩ : ∃ r z, l = r ++ [z] := ⟨l.dropLast, l.getLast (fun e => by rw [e] at hl; cases hl), (List.dropLast_concat_getLast _).symm⟩
    have hr : r.length = n := by simp at hl; exact hl
    have hz : (r ++ [z])[r.length]? = some z := by simp
    have hil := (List.getElem?_eq_some_iff.1 hi).1
    rw [List.length_append] at hil
    simp at hil
    rw [lastP_snoc]
    rcases Nat.lt_or_ge i r.length with h | h
    · rw [if_neg (hlater r.length z h hz)]
      rw [List.getElem?_append_left h] at hi
      exact lastP_eq s n r hr i p hi hp (fun j q hj hq => hlater j q hj (by rw [List.getElem?_append_left ((List.getElem?_eq_some_iff.1 hq).1)]; exact hq))
    · obtain rfl : i = r.length := by omega
      rw [hz] at hi
      injection hi with hi
      subst hi
      rw [if_pos hp]
theorem lastP_no (s : Nat) : ∀ (n : Nat) (l : List (Nat × List UInt8)), l.length = n → (∀ (j : Nat) (q : Nat × List UInt8), l[j]? = some q → q.1 ≠ s) → lastP l s = none
  | 0, l, hl, _ => by
    obtain rfl : l = [] := List.eq_nil_of_length_eq_zero hl
    rfl
  | n + 1, l, hl, h => by
    obtain ⟨r, z, rfl⟩ : ∃ r z, l = r ++ [z] := ⟨l.dropLast, l.getLast (fun e => by rw [e] at hl; cases hl), (List.dropLast_concat_getLast _).symm⟩
    have hr : r.length = n := by simp at hl; exact hl
    rw [lastP_snoc, if_neg (h r.length z (by simp))]
    exact lastP_no s n r hr (fun j q hq => h j q (by rw [List.getElem?_append_left ((List.getElem?_eq_some_iff.1 hq).1)]; exact hq))
theorem PRowR.cells {w : World} {M : Nat → Prop} {pb : Nat} {pv : Value} {pend : List (Nat × List UInt8)} (h : PRowR w M pb pv pend) {i : Nat} {p : Nat × List UInt8} (hi : pend[i]? = some p) :
    ∃ cap v, pv = .slice (some ⟨pb, 0, none⟩) pend.length cap ∧ w.cell? ⟨pb, i * 2, none⟩ = some (.int .i64 (p.1 : Nat)) ∧ w.cell? ⟨pb, i * 2 + 1, none⟩ = some v ∧ RdX M w v (bv p.2) := by
  obtain ⟨xs, h1, h2, h3⟩ := h
  have hlt : i < pend.length := (List.getElem?_eq_some_iff.1 hi).1
  obtain ⟨e1, v, e2, e3⟩ := h3 i p hi
  obtain ⟨g, cap, hpv⟩ := own_form2 h1 (by omega)
  have hg : g = pb := h2 g (by rw [hpv]; rfl)
  subst hg hpv
  refine ⟨cap, v, rfl, ?_, ?_, e3⟩
  · rw [h1.cellAt (i * 2) (by omega), Nat.mul_comm]; exact e1
  · rw [h1.cellAt (i * 2 + 1) (by omega), Nat.mul_comm]; exact e2
section
variable (rb rk rl : Nat) (d : Dk) (w : World) (h : RBox w rb rk rl d)
include h
set_option maxRecDepth 100000 in
theorem rread_off (ho : d.off = true) (s : Int) : Calls Try.prog 48 #[.pointer (some ⟨rb, 0, none⟩), .int .i64 s] w fun e w' => e = .returned (.tuple #[.slice none 0 0, .int .i64 8]) ∧ w = w' := by
  obtain ⟨_, _, _, _, _, _, _, _, _, _, _, _, c4, _⟩ := h.at
  rw [ho] at c4
  clear h ho
  go_enter Try.func48, Try.ntmps48
  go_wp2
  go_ret2
  exact ⟨rfl, rfl⟩
set_option maxRecDepth 100000 in
theorem rread_bad (ho : d.off = false) (s : Int) (hbad : ¬ (0 ≤ s ∧ s < (d.n : Nat))) : Calls Try.prog 48 #[.pointer (some ⟨rb, 0, none⟩), .int .i64 s] w fun e w' => e = .returned (.tuple #[.slice none 0 0, .int .i64 1]) ∧ w = w' := by
  obtain ⟨_, _, _, _, _, _, _, _, c0, _, _, _, c4, _⟩ := h.at
  rw [ho] at c4
  have hn := h.ok.n
  clear h ho
  generalize d.n = n at *
  by_cases h0 : s < 0
  · clear hbad
    go_enter Try.func48, Try.ntmps48
    go_wp2
    go_ret2
    exact ⟨rfl, rfl⟩
  · have h1 : (n : Int) ≤ s := by omega
    clear hbad
    go_enter Try.func48, Try.ntmps48
    go_wp2
    go_ret2
    exact ⟨rfl, rfl⟩
set_option maxRecDepth 100000 in
set_option maxHeartbeats 4000000 in
theorem rread_ok (ho : d.off = false) (s : Nat) (hs : s < d.n) (hrd : 0 ≤ d.reads ∧ d.reads ≤ 1000000000000) (hpl : d.pend.length ≤ 1000000) : Calls Try.prog 48 #[.pointer (some ⟨rb, 0, none⟩), .int .i64 (s : Nat)] w fun e w' => ∃ v, e = .returned (.tuple #[v, .int .i64 0]) ∧ RdV w' w'.heap.size v (bv (readB d s)) ∧ RBox w' rb rk rl { d with reads := d.reads + 1 } ∧ Frm (fun j => j = rb) w w' := by
  obtain ⟨_, lv, bc, h1, _, _, _, _, c0, _, _, _, c4, _, _, _, c8, fr⟩ := h.at
  rw [ho] at c4
  have f8 := fr 8
  have hn := h.ok.n
  have hsz := h.ok.size
  have hF4 : Frm (fun j => j = rb) w (w.setCell ⟨rb, 8, none⟩ (.int .i64 (d.reads + 1))) := (Frm.refl (fun j => j = rb) w).setCell rb 8 (Or.inl rfl) _
  have hD4 := h.turn (d' := { d with reads := d.reads + 1 }) hF4 (fun _ _ _ h1 => heap_setCell_same _ rb 8 _ _ _ h1) rfl rfl rfl rfl rfl
  have hkl := h.ok.kept
  clear h h1 fr ho
  go_enter Try.func48, Try.ntmps48
  have HD4 := Lib.hid hD4
  have HF4 := Lib.hid hF4
  clear hD4 hF4
  go_upto_region 6 with (fail)
  generalize w.setCell ⟨rb, 8, none⟩ (.int .i64 (d.reads + 1)) = W4 at HD4 HF4 ⊢
  obtain ⟨_, lv, bc, g1, _, g3, g4, g5, b0, b1, b2, b3, _⟩ := HD4.out.at
  have g4' : PRowR W4 (Own3X d.away rb rk rl) rl lv d.pend := g4
  obtain ⟨Al, cl, rfl⟩ : ∃ A c, lv = .slice A d.pend.length c := by
    obtain ⟨xs, ho, _⟩ := g4'
    obtain ⟨_, ⟨e, h0⟩ | ⟨g, cap, _, e, _⟩⟩ := ho
    · exact ⟨none, 0, by rw [e, h0]⟩
    · exact ⟨_, _, e⟩
  have b2' : W4.cell? ⟨rb, 2, none⟩ = some (.slice (some ⟨rk, 0, none⟩) d.kept.length bc) := b2
  have b1' : W4.cell? ⟨rb, 1, none⟩ = some (.int .i64 (d.size : Nat)) := b1
  have G3 := Lib.hid (show W4.ownsRow 0 5 1 (.slice (some ⟨rk, 0, none⟩) d.kept.length bc) d.kept.length (bv d.kept) from g3)
  have G4 := Lib.hid g4'
  clear g1 g3 g4 g5 g4' b2 b1 b0
  go_wp2
  go_loopw [6] (fun i wr => ∃ k : Nat, k ≤ d.pend.length ∧ i = .int .i64 ((k : Int) - 1) ∧ (∀ (j : Nat) (q : Nat × List UInt8), k ≤ j → d.pend[j]? = some q → q.1 ≠ s) ∧ W4 = wr) (fun i wr => (intOf i + 1).toNat)
  case atStart => exact ⟨d.pend.length, Nat.le_refl _, rfl, fun j q hj hq => (by rw [List.getElem?_eq_none hj] at hq; cases hq), rfl⟩
  case round =>
    obtain ⟨k, hk, rfl, hno, rfl⟩ := hrel
    by_cases hk0 : k = 0
    · subst hk0
      have hlp := lastP_no s _ d.pend rfl (fun j q hq => hno j q (Nat.zero_le _) hq)
      have hrb : readB d s = (d.kept.drop (s * d.size)).take d.size := by unfold readB; rw [hlp]; rfl
      have hb : d.n * d.size ≤ 65536 * 4096 := Nat.mul_le_mul hn.2 hsz.2
      have hb2 : (s + 1) * d.size ≤ d.n * d.size := Nat.mul_le_mul_right _ hs
      rw [Nat.add_mul, Nat.one_mul] at hb2
      have hcap : d.kept.length ≤ bc ∧ bc ≤ 9223372036854775807 := by
        obtain ⟨_, ⟨e, _⟩ | ⟨g, cap, cur, e, _, _, a, b, _⟩⟩ := G3.out
        · cases e
        · injection e with _ _ e
          subst e
          exact ⟨a, b⟩
      have hlo : ((s : Nat) : Int) * ((d.size : Nat) : Int) = ((s * d.size : Nat) : Int) := by rw [Int.natCast_mul]
      have hhi : (((s : Nat) : Int) + 1) * ((d.size : Nat) : Int) = ((s * d.size + d.size : Nat) : Int) := by rw [Int.natCast_add, Int.natCast_mul, Int.add_mul, Int.one_mul]
      have hp1 : 0 ≤ ((s : Nat) : Int) * ((d.size : Nat) : Int) ∧ ((s : Nat) : Int) * ((d.size : Nat) : Int) ≤ 268435456 := by rw [hlo]; omega
      have hp2 : 0 ≤ (((s : Nat) : Int) + 1) * ((d.size : Nat) : Int) ∧ (((s : Nat) : Int) + 1) * ((d.size : Nat) : Int) ≤ 268435456 := by rw [hhi]; omega
      have hp3 : ((s : Nat) : Int) * ((d.size : Nat) : Int) ≤ (((s : Nat) : Int) + 1) * ((d.size : Nat) : Int) := by rw [hlo, hhi]; omega
      have hp4 : (((s : Nat) : Int) + 1) * ((d.size : Nat) : Int) ≤ (bc : Nat) := by rw [hhi]; omega
      have hsrc0 := (RdV.own G3.out).part (s * d.size) d.size (by rw [bv_length]; omega)
      rw [Nat.zero_add, show ((bv d.kept).drop (s * d.size)).take d.size = bv (readB d s) from by rw [hrb]; simp [bv]] at hsrc0
      have HSRC := Lib.hid hsrc0
      have HLO := Lib.hid hlo
      have HHI := Lib.hid hhi
      have hne1 : ¬ bc = s * d.size := by omega
      have hne2 : s * d.size < bc := by omega
      have HE := Lib.hid (show (s + 1) * d.size - s * d.size = d.size by rw [Nat.add_mul, Nat.one_mul, Nat.add_sub_cancel_left])
      clear hno hlp hrb hsrc0 hlo hhi hb hb2
      go_wp2_with fail
      go_quiet (fail)
      go_wp2
      go_ret2
      exact ⟨_, rfl, by rw [HE.out]; exact HSRC.out, HD4.out.next (Frm.drewN _ _), HF4.out.trans (Frm.drewN _ _)⟩
    · obtain ⟨m, rfl⟩ := Nat.exists_eq_succ_of_ne_zero hk0
      have hmk : d.pend[m]? = some d.pend[m] := List.getElem?_eq_getElem (by omega)
      obtain ⟨cap, v, e1, y0, y1, hv⟩ := G4.out.cells hmk
      injection e1 with e1 _ e2
      subst e1 e2
      obtain ⟨p, hp⟩ : ∃ p, d.pend[m] = p := ⟨_, rfl⟩
      rw [hp] at y0 hv hmk
      have hpok := HD4.out.ok.pend p (List.mem_of_getElem? hmk)
      by_cases hps : p.1 = s
      · have hlp := lastP_eq s _ d.pend rfl m p hmk hps (fun j q hj hq => hno j q (by omega) hq)
        have hrb : readB d s = p.2 := by unfold readB; rw [hlp]; rfl
        have hR := hv.rd
        rw [← hrb] at hR
        rw [hps] at y0
        obtain ⟨A9, c9, rfl, _⟩ := id hR
        have HR := Lib.hid hR
        clear hno hR hv hlp hrb hmk hp hpok hps
        go_wp2
        go_ret2
        exact ⟨_, rfl, HR.out, HD4.out, HF4.out⟩
      · have t0 : ((p.1 : Int) == (s : Int)) = false := by rw [beq_eq_false_iff_ne]; omega
        have HNO := Lib.hid hno
        have HPS := Lib.hid hps
        have HMK := Lib.hid hmk
        have hpr : (p.1 : Int) ≤ 65536 := by have : p.1 < d.n := hpok.1; omega
        clear hno hps hv hmk hp hpok
        go_wp2
        go_roundw
        case rel => exact ⟨m, by omega, by go_num, fun j q hj hq => by
          rcases Nat.lt_or_ge m j with h | h
          · exact HNO.out j q (by omega) hq
          · obtain rfl : j = m := by omega
            rw [HMK.out] at hq
            injection hq with hq
            subst hq
            exact HPS.out, trivial⟩
        case measure => first | (simp [intOf]; done) | (simp [intOf]; omega)
end
end Go.Proofs.Ytldmamcalfmedaa
