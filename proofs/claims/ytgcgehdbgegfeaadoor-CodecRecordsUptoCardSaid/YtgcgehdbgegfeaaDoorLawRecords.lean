/- The law CodecRecords answers true for any items, bytes and number that hold together at most 1048576 values and letters. Conditions: that bound; the table of package crc is laid as the program's text lays it. -/
import Derived.Test.YtgcgehdbgegfeaaDoorWri
import Derived.Test.YtgcgehdbgegfeaaDoorCrl
import Derived.Test.YtgcgehdbgegfeaaDoorRdi
import Derived.Test.YtgcgehdbgegfeaaDoorTie
import Derived.Test.YtgcgehdbgegfeaaDoorCards
import Derived.SevenTiedAt
import Derived.LaidMore
import Derived.Deep.DeepHandedRow
namespace Go.Proofs.YtgcgehdbgegfeaaDoor.lawCodecRecords
open Go.ChangeShapes Go.WideShapes Go.ChangeAt Go.RowKit
set_option linter.unusedSimpArgs false
set_option linter.unusedVariables false

theorem own : ownKnob Tryd.prog.godebug = none := by kernel_rfl
theorem laid : laidOutB Tryd.prog = true := by kernel_rfl

theorem within_len {lo hi : Int} {l : List UInt8} : ∀ {o : Out}, o = within lo hi (numO l) ∨ o = numO l → (∀ v l', o = .ok v l' → l'.length ≤ l.length) ∧ (∀ e l', o = .bad e l' → l'.length ≤ l.length) := by
  intro o h
  have hn : (∀ v l', numO l = .ok v l' → l'.length ≤ l.length) ∧ (∀ e l', numO l = .bad e l' → l'.length ≤ l.length) := ⟨fun v l' h => (numO_len h).1, fun e l' h => by rw [(numO_bad h).2]; exact Nat.le_refl _⟩
  rcases h with rfl | rfl
  · cases ho : numO l with
    | bad e l2 => exact ⟨fun v l' h => (by cases h), fun e l' h => by injection h with _ h; subst h; exact hn.2 _ _ ho⟩
    | ok v2 l2 =>
      have := hn.1 _ _ ho
      constructor
      · intro v l' h
        simp only [within] at h
        split at h
        · injection h with _ h; subst h; exact this
        · cases h
      · intro e l' h
        simp only [within] at h
        split at h
        · cases h
        · injection h with _ h; subst h; exact this
  · exact hn
theorem readV_len {lo hi : Int} {l : List UInt8} {e : Int} {o : Out} (h : o = within lo hi (numO l) ∨ o = numO l) : (readV e l o).2.1.length ≤ l.length := by
  obtain ⟨h1, h2⟩ := within_len h
  unfold readV
  split
  · exact Nat.le_refl _
  · cases o with
    | ok v l' => exact h1 _ _ rfl
    | bad ev l' => exact h2 _ _ rfl
theorem readB_len {l : List UInt8} {e most : Int} : (readB e l most).2.1.length ≤ l.length := by
  obtain ⟨h1, h2⟩ := within_len (lo := 0) (hi := most) (l := l) (Or.inl rfl)
  unfold readB
  split
  · exact Nat.le_refl _
  · cases ho : within 0 most (numO l) with
    | bad ev l' => exact h2 _ _ ho
    | ok v l' =>
      have := h1 _ _ ho
      simp only [roomO]
      by_cases hv : v ≤ l'.length
      · rw [if_pos hv]; show (l'.drop _).length ≤ _; rw [List.length_drop]; omega
      · rw [if_neg hv]; exact this
theorem nums_len : ∀ (n : Nat) (l : List UInt8), (nums n l).1.length + (nums n l).2.1.length ≤ l.length
  | 0, l => by simp [nums]
  | n + 1, l => by
    unfold nums
    cases ho : numO l with
    | bad ev l' => simp; rw [(numO_bad ho).2]; exact Nat.le_refl _
    | ok v l' =>
      have h1 := nums_len n l'
      have h2 := numO_less ho
      simp
      omega
theorem readL_len {l : List UInt8} {e most : Int} : (readL e l most).2.1.length ≤ l.length ∧ (readL e l most).1.length ≤ l.length := by
  have hL : (listO most l).1.length ≤ l.length ∧ (listO most l).2.1.length ≤ l.length := by
    obtain ⟨h1, h2⟩ := within_len (lo := 0) (hi := most) (l := l) (Or.inl rfl)
    unfold listO
    cases ho : within 0 most (numO l) with
    | bad ev l' => exact ⟨by simp, h2 _ _ ho⟩
    | ok v l' =>
      have := h1 _ _ ho
      have h3 := nums_len v.toNat l'
      exact ⟨by show (nums _ _).1.length ≤ _; omega, by show (nums _ _).2.1.length ≤ _; omega⟩
  unfold readL
  split
  · exact ⟨Nat.le_refl _, by simp⟩
  · split
    · exact ⟨hL.2, hL.1⟩
    · exact ⟨hL.2, by simp⟩
theorem rd_other {C : Nat} {w w' : World} {B k : Nat} {u : Value} {l l2 : List UInt8} {e : Int} (h : RdV w B u (bv l)) (hq : QBox C w k l2 e) (hf : Frm (· = k) w w') (hB : B ≤ w.heap.size) : RdV w' B u (bv l) := by
  obtain ⟨A, c, e1, h1, h2, h3⟩ := h
  refine ⟨A, c, e1, h1, h2, fun hn => ?_⟩
  obtain ⟨b, off, eA, hb, hc⟩ := h3 hn
  have hbk : b ≠ k := by
    rintro rfl
    have hl : 0 < l.length := by rw [bv_length] at hn; exact hn
    have h5 := hc 0 _ ((bv_get l 0).trans (by rw [List.getElem?_eq_getElem hl]; rfl))
    obtain ⟨A', n', c', B', hk, _⟩ := hq
    have h6 := (cell_of_row w b (off + 0) _ _ (0, 0) hk).symm.trans h5
    rcases off with _ | _ | n
    · simp at h6
    · simp at h6
    · simp at h6
  refine ⟨b, off, eA, hb, fun j u hu => ?_⟩
  have := hc j u hu
  unfold World.cell? at this ⊢
  rw [hf.block b (by omega) hbk]
  exact this
set_option maxRecDepth 100000 in
set_option maxHeartbeats 16000000 in
theorem walk {W0 : World} (v : Value) (xs : List It) (hr : RdIt W0 W0.heap.size v xs) (hwf : ∀ x ∈ xs, x.wf) (hIts : Its xs ≤ 1048576) (vb : Value) (lb : List UInt8) (hrb : RdV W0 W0.heap.size vb (bv lb)) (hlb : lb.length ≤ 1048576) (most : Int) (wm : (Lit.int .i64 most).wf = true) (w : World) (hw : W0 = w) (hN : Nibs w) :
    Calls Tryd.prog 3 #[v, vb, .int .i64 most] w fun e w' => e = .returned (.bool true) ∧ Below w.heap.size w w' := by
  subst hw
  obtain ⟨hm0, hm1⟩ : -9223372036854775808 ≤ most ∧ most ≤ 9223372036854775807 := by simpa [Lit.wf, IntKind.min, IntKind.max, IntKind.signed, IntKind.bits] using wm
  clear wm
  obtain ⟨A, c, rfl, hc1, hc2, hc3⟩ := id hr
  clear hc3
  obtain ⟨A2, c2, rfl, hd1, hd2, hd3⟩ := id hrb
  clear hd3
  rw [bv_length] at hd1 hrb ⊢
  unfold maxLen at hc2 hd2
  have hk := kcodec_any W0 hN
  have hfew := fun w1 (hb : Below W0.heap.size W0 w1) => few_any w1 W0.heap.size _ xs (hr.below hb) (by omega)
  have hnl : xs.length ≤ 1048576 := by rw [its_eq] at hIts; omega
  have HK := Lib.hid hk
  have HF := Lib.hid hfew
  have HR := Lib.hid hr
  have HB := Lib.hid hrb
  clear hk hfew hr hrb
  by_cases l1 : Its xs ≤ 8192
  case neg =>
    have d1 : decide ((Its xs : Int) ≤ 8192) = false := decide_eq_false (by omega)
    rw [d1] at HF
    go_enter Tryd.func3, Tryd.ntmps3
    go_wp2_with fail
    refine HK.out.mono ?_
    rintro e w1 ⟨rfl, hb1⟩
    go_wp2_with fail
    refine (HF.out _ hb1).mono ?_
    rintro e w2 ⟨rfl, q, rfl⟩
    go_wp2
    go_ret
    exact ⟨rfl, belowN hb1 q⟩
  have d1 : decide ((Its xs : Int) ≤ 8192) = true := decide_eq_true (by omega)
  rw [d1] at HF
  clear d1
  by_cases l2 : lb.length ≤ 8192
  case neg =>
    go_enter Tryd.func3, Tryd.ntmps3
    go_wp2_with fail
    refine HK.out.mono ?_
    rintro e w1 ⟨rfl, hb1⟩
    go_wp2_with fail
    refine (HF.out _ hb1).mono ?_
    rintro e w2 ⟨rfl, q, rfl⟩
    go_wp2
    go_ret
    exact ⟨rfl, belowN hb1 q⟩
  go_enter Tryd.func3, Tryd.ntmps3
  go_wp2_with fail
  refine HK.out.mono ?_
  rintro e w1 ⟨rfl, hb1⟩
  go_wp2_with fail
  refine (HF.out _ hb1).mono ?_
  rintro e w2 ⟨rfl, q, hq⟩
  have hb2 : Below W0.heap.size W0 w2 := by rw [hq]; exact belowN hb1 q
  clear hq hb1
  have hz2 := hb2.size
  have hwr := written_any w2 _ xs (RdIt.more (HR.out.below hb2) hz2) hwf (by omega)
  have HWR := Lib.hid hwr
  clear hwr
  go_wp2_with fail
  refine HWR.out.mono ?_
  rintro e w3 ⟨r1, r2, rfl, hr1, hr2, hb3'⟩
  have hb3 := nextB hb3' hb2
  have z1 := run_conv_rd (P := Tryd.prog) w3 23 9 5 Tryd.underlying23 Tryd.underlying5 Tryd.underlying9 _ _ _ hr1
  have z2 := run_conv_rd (P := Tryd.prog) w3 23 9 5 Tryd.underlying23 Tryd.underlying5 Tryd.underlying9 _ _ _ hr2
  generalize encAll xs = enc at *
  clear hr1 hr2 hb3'
  have hz3 := hb3.size
  have hnr := newreader_any (.slice A2 lb.length c2) lb (by omega) w3 W0.heap.size hz3 (HB.out.below hb3)
  have HNR := Lib.hid hnr
  clear hnr
  go_wp2_with fail
  refine HNR.out.mono ?_
  rintro e w4 ⟨kp, rfl, hkp, hx4, hb4'⟩
  have hb4 := nextB hb4' hb3
  have hz4 := hb4.size
  have hkl := hx4.lt
  have hx5 : CBox (w4.alloc (.cells #[.slice A2 lb.length c2, .int .i64 0] 32)) kp lb 0 := hx4.next ((Below.refl _ _).alloc (Nat.le_refl _) _)
  have hq5 : QBox W0.heap.size (w4.alloc (.cells #[.slice A2 lb.length c2, .int .i64 0] 32)) w4.heap.size lb 0 := ⟨A2, lb.length, c2, W0.heap.size, heap_alloc_new w4 _, (HB.out.below hb4).alloc hz4 _, Nat.le_refl _, hz4⟩
  have hb5 := hb4.alloc hz4 (.cells #[.slice A2 lb.length c2, .int .i64 0] 32)
  have HX5 := Lib.hid hx5
  have HQ5 := Lib.hid hq5
  have HB5 := Lib.hid hb5
  have hkk : W0.heap.size ≤ kp := by omega
  clear hx4 hx5 hq5 hb5 hb4' hb4 hb3 z1 z2
  go_wp2_with fail
  go_loopw [11] (fun i wr => ∃ (j : Nat) (l : List UInt8) (e : Int), j ≤ xs.length ∧ i = .int .i64 j ∧ CBox wr kp l e ∧ QBox W0.heap.size wr w4.heap.size l e ∧ l.length ≤ lb.length ∧ Below W0.heap.size W0 wr) (fun i _ => xs.length - (intOf i).toNat)
  case atStart => exact ⟨0, lb, 0, by omega, rfl, HX5.out, HQ5.out, Nat.le_refl _, HB5.out⟩
  case round =>
    obtain ⟨j, l, e0, hj, rfl, hx, hq, hll, hbel⟩ := hrel
    generalize w4.heap.size = kq at *
    have hsz := hbel.size
    clear HX5 HQ5 HB5
    by_cases hlt : j < xs.length
    · obtain ⟨b, off, rfl, hb, a0, a1, _, _, a4, a5⟩ := (HR.out.below hbel).get hlt
      have hcell : ∀ w1, Below W0.heap.size W0 w1 → ∀ o, w1.cell? ⟨b, o, none⟩ = wr.cell? ⟨b, o, none⟩ := fun w1 h o => by unfold World.cell?; rw [h.block b hb, hbel.block b hb]
      obtain ⟨xk, _, _, xlo, xhi⟩ := hwf xs[j] (List.getElem_mem hlt)
      generalize xs[j] = x at *
      have HX := Lib.hid hx
      have HQ := Lib.hid hq
      have HBL := Lib.hid hbel
      have HCELL := Lib.hid hcell
      clear hx hq hbel hcell
      by_cases k1 : x.k = 1
      · rw [k1] at a0
        have hp := rint_any wr kp l e0 HX.out (by omega)
        have hq := fun w1 (h : QBox W0.heap.size w1 kq l e0) => qint_any w1 kq l e0 h (by omega)
        have hlen := readV_len (lo := 0) (hi := 0) (l := l) (e := e0) (Or.inr rfl)
        generalize readV e0 l (numO l) = R at *
        obtain ⟨z, l', e'⟩ := R
        have HP := Lib.hid hp
        have HQI := Lib.hid hq
        dsimp only at hlen
        clear hp hq a1 a4 a5 k1
        go_wp2_with fail
        refine HP.out.mono ?_
        rintro e w5 ⟨rfl, hx5, hf5⟩
        have HX6 := Lib.hid hx5
        have HF5 := Lib.hid hf5
        have HQ6 := Lib.hid (HQ.out.frm hf5 (fun j hj => by omega))
        clear hx5 hf5
        go_wp2_with fail
        refine (HQI.out _ HQ6.out).mono ?_
        rintro e w6 ⟨rfl, hq6, hf6⟩
        have HX7 := Lib.hid (HX6.out.frm hf6 (fun j hj => by omega))
        have HQ7 := Lib.hid hq6
        have HB7 := Lib.hid ((HBL.out.trans (HF5.out.below (B := W0.heap.size) (by omega) hsz)).trans (hf6.below (B := W0.heap.size) (by omega) (by have := HF5.out.size; omega)))
        clear hq6 hf6
        go_wp2
        go_roundw
        case rel => exact ⟨j + 1, l', e', by omega, by go_num, HX7.out, HQ7.out, by omega, HB7.out⟩
        case measure => simp [intOf]; omega
      by_cases k2 : x.k = 2
      · rw [k2] at a0
        have hp := fun w1 (h : CBox w1 kp l e0) => rbytes_any w1 kp l e0 most hm1 h (by omega)
        have hq := fun w1 (h : QBox W0.heap.size w1 kq l e0) => qbytes_any w1 kq l e0 most h (by omega)
        have hlen := readB_len (l := l) (e := e0) (most := most)
        generalize readB e0 l most = R at *
        obtain ⟨z, l', e'⟩ := R
        have HP := Lib.hid hp
        have HQI := Lib.hid hq
        dsimp only at hlen
        clear hp hq a1 a4 a5 k1 k2
        go_wp2
        first
          | go_region_law (first
            | (refine step_wanted _ rfl ?_; go_simp; go_at_call 15; refine Calls.mono (HP.out _ (by exact HX.out)) ?_; rintro e w5 ⟨u5, rfl, hr5, hx5, hf5⟩; have z5 := run_conv_rd (P := Tryd.prog) w5 23 9 5 Tryd.underlying23 Tryd.underlying5 Tryd.underlying9 _ _ _ (hr5); have HR5 := Lib.hid hr5; have HX6 := Lib.hid hx5; have HF5 := Lib.hid hf5; have HQ6 := Lib.hid (HQ.out.drew.frm hf5 (fun j hj => by omega)); clear hr5 hx5 hf5)
            | (refine step_wanted _ rfl ?_; go_simp; go_at_call 16; refine Calls.mono (HQI.out _ (by exact HQ6.out)) ?_; rintro e w6 ⟨u6, rfl, hr6, hq6, hf6⟩; have y5 := run_conv_rd (P := Tryd.prog) w6 23 9 5 Tryd.underlying23 Tryd.underlying5 Tryd.underlying9 _ _ _ (rd_other HR5.out HQ6.out hf6 (Nat.le_refl _)); have y6 := run_conv_rd (P := Tryd.prog) w6 23 9 5 Tryd.underlying23 Tryd.underlying5 Tryd.underlying9 _ _ _ (hr6); have HX7 := Lib.hid (HX6.out.frm hf6 (fun j hj => by omega)); have HQ7 := Lib.hid hq6; have HB7 := Lib.hid ((HBL.out.trans ((Frm.drew (Frm.refl (fun x => x = kp) wr)).trans HF5.out |>.below (B := W0.heap.size) (by omega) hsz)).trans (hf6.below (B := W0.heap.size) (by omega) (by have := HF5.out.size; exact Nat.le_trans hsz this))); clear hr6 hq6 hf6)
            | fail)
          | fail
        all_goals (
          go_wp2
          go_roundw
          case rel => exact ⟨j + 1, l', e', by omega, by go_num, HX7.out, HQ7.out, by omega, HB7.out⟩
          case measure => simp [intOf]; omega)
      by_cases k3 : x.k = 3
      · rw [k3] at a0
        have hp := rlist_any wr kp l e0 most hm1 HX.out (by omega)
        have hq := fun w1 (h : QBox W0.heap.size w1 kq l e0) => qlist_any w1 kq l e0 most hm1 h (by omega)
        have hlen := readL_len (l := l) (e := e0) (most := most)
        have hql := HQ.out.lt
        generalize readL e0 l most = R at *
        obtain ⟨zs, l', e'⟩ := R
        have HP := Lib.hid hp
        have HQI := Lib.hid hq
        dsimp only at hlen
        clear hp hq a1 a4 a5 k1 k2 k3
        go_wp2_with fail
        refine HP.out.mono ?_
        rintro e w5 ⟨u5, rfl, ho5, hx5, hf5⟩
        have HO5 := Lib.hid ho5
        have HX6 := Lib.hid hx5
        have HF5 := Lib.hid hf5
        have HQ6 := Lib.hid (HQ.out.frm hf5 (fun j hj => by omega))
        clear hx5 hf5 ho5
        go_wp2_with fail
        refine (HQI.out _ HQ6.out).mono ?_
        rintro e w6 ⟨u6, rfl, ho6, hq6, hf6⟩
        have hin := ints_any w6 w6.heap.size u5 u6 zs (RdV.own (own_frm HO5.out hf6 (fun j hj => by omega))) (RdV.own ho6) (by omega)
        have HIN := Lib.hid hin
        have HX7 := Lib.hid (HX6.out.frm hf6 (fun j hj => by omega))
        have HQ7 := Lib.hid hq6
        have HB7 := Lib.hid ((HBL.out.trans (HF5.out.below (B := W0.heap.size) (by omega) hsz)).trans (hf6.below (B := W0.heap.size) (by omega) (by have := HF5.out.size; omega)))
        clear hq6 hf6 ho6 hin
        go_wp2_with fail
        refine HIN.out.mono ?_
        rintro e w7 ⟨rfl, q, rfl⟩
        go_wp2
        go_roundw
        case rel => exact ⟨j + 1, l', e', by omega, by go_num, HX7.out.next (belowN (Below.refl _ _) q), HQ7.out.next (belowN (Below.refl _ _) q), by omega, belowN HB7.out q⟩
        case measure => simp [intOf]; omega
      by_cases k4 : x.k = 4
      · rw [k4] at a0
        have hp := fun w1 (h : CBox w1 kp l e0) => rbetween_any w1 kp l e0 x.lo x.hi h (by omega)
        have hq := fun w1 (h : QBox W0.heap.size w1 kq l e0) => qbetween_any w1 kq l e0 x.lo x.hi h (by omega)
        have hlen := readV_len (lo := x.lo) (hi := x.hi) (l := l) (e := e0) (Or.inl rfl)
        generalize readV e0 l (within x.lo x.hi (numO l)) = R at *
        obtain ⟨z, l', e'⟩ := R
        have HP := Lib.hid hp
        have HQI := Lib.hid hq
        dsimp only at hlen
        clear hp hq a1 k1 k2 k3 k4
        go_wp2
        first
          | go_region_law (first
            | (refine step_wanted _ rfl ?_; go_simp; go_at_call 20; refine Calls.mono (HP.out _ (by exact HX.out)) ?_; rintro e w5 ⟨rfl, hx5, hf5⟩; have hb5 := HBL.out.trans ((Frm.drew (Frm.refl (fun x => x = kp) wr)).trans hf5 |>.below (B := W0.heap.size) (by omega) hsz); have c4 := (HCELL.out w5 hb5 (off + j * 6 + 4)).trans a4; have c5 := (HCELL.out w5 hb5 (off + j * 6 + 5)).trans a5; have HX6 := Lib.hid hx5; have HF5 := Lib.hid hf5; have HQ6 := Lib.hid (HQ.out.drew.frm hf5 (fun j hj => by omega)); have HB6 := Lib.hid hb5; clear hx5 hf5 hb5)
            | (refine step_wanted _ rfl ?_; go_simp; go_at_call 21; refine Calls.mono (HQI.out _ (by exact HQ6.out)) ?_; rintro e w6 ⟨rfl, hq6, hf6⟩; have HX7 := Lib.hid (HX6.out.frm hf6 (fun j hj => by omega)); have HQ7 := Lib.hid hq6; have HB7 := Lib.hid (HB6.out.trans (hf6.below (B := W0.heap.size) (by omega) HB6.out.size)); clear hq6 hf6)
            | fail)
          | fail
        all_goals (
          go_wp2
          go_roundw
          case rel => exact ⟨j + 1, l', e', by omega, by go_num, HX7.out, HQ7.out, by omega, HB7.out⟩
          case measure => simp [intOf]; omega)
      have e1 : (x.k == 1) = false := by rw [beq_eq_false_iff_ne]; exact k1
      have e2 : (x.k == 2) = false := by rw [beq_eq_false_iff_ne]; exact k2
      have e3 : (x.k == 3) = false := by rw [beq_eq_false_iff_ne]; exact k3
      have e4 : (x.k == 4) = false := by rw [beq_eq_false_iff_ne]; exact k4
      clear a1 a4 a5 k1 k2 k3 k4
      go_wp2
      go_roundw
      case rel => exact ⟨j + 1, l, e0, by omega, by go_num, HX.out, HQ.out, hll, HBL.out⟩
      case measure => simp [intOf]; omega
    · obtain rfl : j = xs.length := by omega
      have hp := end_any wr kp l e0 hx
      have hq2 := qend_any wr kq l e0 hq
      have HP := Lib.hid hp
      have HQI := Lib.hid hq2
      have HBL := Lib.hid hbel
      clear hp hq2 hx hq hbel
      generalize (if e0 = 0 ∧ l ≠ [] then (22 : Int) else e0) = ee at *
      go_wp2_with fail
      refine HP.out.mono ?_
      rintro e w5 ⟨rfl, rfl⟩
      go_wp2_with fail
      refine HQI.out.mono ?_
      rintro e w6 ⟨rfl, rfl⟩
      go_wp2
      go_ret
      exact ⟨rfl, HBL.out⟩

theorem door_met (os : Os) (args : Array Value) : laidMetH Tryd.prog Rows.codecRecordsUptoRow.laid ((World.doorLaid Tryd.prog 400 os).forCall (fun _ _ => 0) ⟨#[], args, []⟩).memory :=
  laidMetH_of_parts3 (fuel := 8) (laidMet_of_run' 8 (by kernel_rfl) (by kernel_rfl)) (by kernel_rfl) (by kernel_rfl)
theorem reads (os : Os) {H : Type} (enc : TypeId × Value → H) : ∃ places, DataW.whole enc Tryd.prog ((World.doorLaid Tryd.prog 400 os).forCall (fun _ _ => 0) ⟨#[], #[.slice none 0 0, .slice none 0 0, .int .i64 0], []⟩).memory Tryd.f3.params.toList Rows.codecRecordsSpec.vars false #[.slice none 0 0, .slice none 0 0, .int .i64 0].toList 8 = some ([.nil, .nil, .lit (.int .i64 0)], [], places) :=
  ⟨[], by kernel_rfl⟩
set_option maxRecDepth 100000 in
theorem lifted (os : Os) (started : os.Started) (H : Type) (enc : TypeId × Value → H) (F : Stop.Interp) :
    ReturnsInHanded {} Tryd.checked os 3 .any ((Rows.OpenSpec.upto Rows.codecRecordsSpec).preRow enc Tryd.prog Tryd.f3 Rows.codecRecordsUptoRow.domain false Rows.codecRecordsUptoRow.laid) (((Rows.OpenSpec.upto Rows.codecRecordsSpec).at F).post enc Tryd.prog Tryd.f3 false true false false) := by
  obtain ⟨places, hx⟩ := reads os enc
  refine returnsInHanded_of_row (C := Tryd.checked) (s := Rows.OpenSpec.upto Rows.codecRecordsSpec) own started (by kernel_rfl) Tryd.func3
    ⟨World.doorLaid Tryd.prog 400 os, fun _ _ => 0, ⟨#[], #[.slice none 0 0, .slice none 0 0, .int .i64 0], []⟩, rfl, World.shaped_of_RefB (by kernel_rfl) (by kernel_rfl), rfl, (Input.okWide_of_okWideB (by kernel_rfl)).2,
      OpenSpec.preRow_of_cond 8 hx (by kernel_rfl) (fun k hk => by cases hk; kernel_rfl) (by kernel_rfl) (door_met os _), by
        simp only [Assume.holds]
        exact ⟨by simp, by simp, fun _ => Modest.zero, by simp, by simp⟩⟩ ?_
  intro W base args ds gs before hval0 hW _ hcond _ hL _ _
  have hval : ∀ (j : Nat) t v, Tryd.f3.params[j]? = some t → args[j]? = some v → Value.okWide Tryd.prog W .any base t v := hval0
  have hW' := hW
  obtain ⟨p, q, hA0, hV, rfl, hfz, hnd⟩ := hW
  have hA : DataW.TrodAll enc Tryd.prog W 0 (fun _ => true) true Tryd.f3.params.toList args.toList ds p := hA0
  rw [Tryd.params3] at hA hval
  obtain ⟨v0, vs0, d0, ds0, p0, q0, hargs, rfl, rfl, h0, r0⟩ := trodAll_cons hA
  obtain ⟨v1, vs1, d1, ds1, p1, q1, rfl, rfl, rfl, h1, r1⟩ := trodAll_cons r0
  obtain ⟨v2, vs2, d2, ds2, p2, q2, rfl, rfl, rfl, h2, r2⟩ := trodAll_cons r1
  obtain ⟨rfl, rfl, rfl⟩ := trodAll_nil r2
  obtain rfl : args = #[v0, v1, v2] := by cases args; simp_all
  obtain ⟨rfl, rfl⟩ := trodVars_none hV
  have hbulk := bulk_of (hcond _ rfl)
  rw [List.append_nil] at hbulk
  obtain ⟨xs, hxs, hwf, m0⟩ := open_items Tryd.underlying22 Tryd.underlying35 (by kernel_rfl) rfl rfl rfl rfl rfl rfl (by kernel_rfl) (by kernel_rfl) (by kernel_rfl) (by kernel_rfl) (by kernel_rfl) (by kernel_rfl) Tryd.underlying3 Tryd.underlying2 Tryd.underlying23 Tryd.underlying33 Tryd.underlying3 Tryd.underlying3 Tryd.underlying5 Tryd.underlying3 (by kernel_rfl) (by kernel_rfl) (hval 0 22 v0 rfl rfl) h0
  obtain ⟨l1, b1⟩ := open_bytes Tryd.underlying23 Tryd.underlying5 (by kernel_rfl) (hval 1 23 v1 rfl rfl) h1
  have m1 := bytes_bulk Tryd.underlying23 Tryd.underlying5 (by kernel_rfl) (hval 1 23 v1 rfl rfl) h1 b1
  obtain ⟨a2, rfl, rfl, rfl, w2⟩ := open_int Tryd.underlying3 (hval 2 3 v2 rfl rfl) h2
  simp only [Rows.uptoBulkAll] at hbulk
  have hN := of_laid hL
  clear hA0 hval0
  refine (walk v0 xs hxs hwf (by rw [its_eq]; omega) v1 l1 b1 (by omega) a2 w2 W rfl hN).mono fun e W' ⟨he, hb⟩ => ?_
  subst he
  exact ⟨_, rfl, law_post hW' rfl laid (by kernel_rfl) rfl Tryd.underlying4 rfl hb⟩

theorem over : Rows.CodecRecordsUptoSaid :=
  OpenClaim.holds_of_cond 3 Tryd.f3 rfl rfl rfl rfl rfl rfl rfl ⟨rfl, rfl, rfl, rfl, rfl⟩ rfl rfl rfl rfl rfl (by kernel_rfl) Tryd.func3 (by kernel_rfl)
    (of_decide_eq_true (by kernel_rfl)) (by unfold Func.isWrapper; first | (rw [if_pos (by decide +kernel)]; kernel_rfl) | (rw [if_neg (by decide +kernel)]; exact ⟨rfl, rfl⟩))
    (fun os started H enc _ F => by rw [OpenClaim.pre_eq_preRow]; exact lifted os started H enc F)
theorem proved : Rows.CodecRecordsUptoCardSaid :=
  Claim7.holds_tied_plain_at .later [] _ _ _ _
    over (fun _ h => by cases h) (by kernel_rfl) (fun _ h => by cases h) codecRecordsUpto_row_tie rfl ⟨rfl, rfl⟩ (by kernel_rfl) rfl
    (fun f fn hf hfn => by
      obtain rfl : f = 3 := Option.some.inj ((show Tryd.prog.funcNamed Rows.codecRecordsUptoRow.func = some 3 by kernel_rfl).symm.trans hf) |>.symm
      obtain rfl : fn = Tryd.f3 := (Option.some.inj (Tryd.func3.symm.trans hfn)).symm
      exact ⟨by kernel_rfl, fun j t ht => by
        rw [Tryd.params3] at ht
        have hm : t ∈ [22, 23, 3] := by simpa using Array.mem_of_getElem? ht
        have hall : ([22, 23, 3].all fun u => !Tryd.prog.wantsStandIn u) = true := by kernel_rfl
        exact (show Tryd.prog.wantsStandIn t = false by simpa using List.all_eq_true.1 hall t hm)⟩)
    (by kernel_rfl)
end Go.Proofs.YtgcgehdbgegfeaaDoor.lawCodecRecords
