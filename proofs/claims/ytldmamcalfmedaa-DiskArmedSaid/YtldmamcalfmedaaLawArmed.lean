/- The law DiskArmed answers true for any numbers: of writes just so many are OK ahead of the cut that was armed. Conditions: none. -/
import Derived.Test.YtldmamcalfmedaaDkn
namespace Go.Proofs.Ytldmamcalfmedaa.lawDiskArmed
open Go.ChangeShapes Go.WideShapes Go.ChangeAt Go.RowKit
set_option linter.unusedSimpArgs false
set_option linter.unusedVariables false

theorem own : ownKnob Try.prog.godebug = none := by kernel_rfl
theorem laid : laidOutB Try.prog = true := by kernel_rfl

/-- where the play stands behind i writes -/
def AInv (db kb mb base : Nat) (A : Int) (i : Nat) (ok : Int) (w : World) : Prop :=
  ∃ pb mm d, DBox w db kb mb pb mm d ∧ mm ≤ i ∧ base ≤ pb ∧ d.n = 4 ∧ d.size = 64 ∧
    (((i : Int) < A ∧ d.off = false ∧ d.armed = true ∧ d.left = A - i ∧ d.writes = i ∧ d.pend.length ≤ i ∧ ok = i) ∨ (A ≤ (i : Int) ∧ d.off = true ∧ d.armed = false ∧ d.writes = A - 1 ∧ d.pend = [] ∧ ok = A - 1))
theorem AInv.next {db kb mb base : Nat} {A : Int} {i : Nat} {ok : Int} {w w' : World} (h : AInv db kb mb base A i ok w) (hF : Frm (fun _ => False) w w') : AInv db kb mb base A i ok w' := by
  obtain ⟨pb, mm, d, hD, r⟩ := h
  exact ⟨pb, mm, d, hD.next hF, r⟩
theorem aflush {db kb mb base : Nat} {A : Int} {i : Nat} {ok : Int} {w : World} (hd : base ≤ db ∧ base ≤ kb ∧ base ≤ mb) (hi : i ≤ 1000) (h : AInv db kb mb base A i ok w) (hB : base ≤ w.heap.size) :
    Calls Try.prog 15 #[.pointer (some ⟨db, 0, none⟩)] w fun e w' => (∃ x, e = .returned (.int .i64 x)) ∧ AInv db kb mb base A i ok w' ∧ Below base w w' := by
  obtain ⟨pb, mm, d, hD, h1, h2, h3, h4, ⟨c1, c2, c3, c4, c5, c6, c7⟩ | ⟨c1, c2, c3, c4, c5, c6⟩⟩ := h
  · refine (flush_on db kb mb pb mm d w hD c2 (by omega)).mono ?_
    rintro e w' ⟨rfl, hD', hF⟩
    exact ⟨⟨_, rfl⟩, ⟨pb, mm, _, hD', h1, h2, h3, h4, Or.inl ⟨c1, c2, c3, c4, c5, Nat.zero_le _, c7⟩⟩, hF.below (by rintro j (h | h | h) <;> omega) hB⟩
  · refine (flush_off db kb mb pb mm d w hD c2).mono ?_
    rintro e w' ⟨rfl, rfl⟩
    exact ⟨⟨_, rfl⟩, ⟨pb, mm, d, hD, h1, h2, h3, h4, Or.inr ⟨c1, c2, c3, c4, c5, c6⟩⟩, Below.refl _ _⟩
theorem awrite {db kb mb base : Nat} {A : Int} {i : Nat} {ok : Int} {w0 w : World} (hA : A ≤ 9223372036854775807) (hd : base ≤ db ∧ base ≤ kb ∧ base ≤ mb) (hi : i ≤ 1000) (h : AInv db kb mb base A i ok w0) (hB : base ≤ w0.heap.size) (hm : Frm (fun _ => False) w0 w) (v : Value) (bl : List UInt8) (ho : w.ownsRow w0.heap.size 5 1 v 64 (bv bl)) (hbl : bl.length = 64) (s : Nat) (hs : s < 4) :
    Calls Try.prog 12 #[.pointer (some ⟨db, 0, none⟩), .int .i64 (s : Nat), v] w fun e w' => ((e = .returned (.int .i64 0) ∧ AInv db kb mb base A (i + 1) (ok + 1) w') ∨ (e = .returned (.int .i64 8) ∧ AInv db kb mb base A (i + 1) ok w')) ∧ Below base w w' := by
  have hz := hm.size
  obtain ⟨pb, mm, d, hD0, h1, h2, h3, h4, hc⟩ := h
  have hlt := hD0.lt
  have hsm := hD0.small
  have hD := hD0.next hm
  have hx : RdX (Own db kb mb pb) w v (bv bl) := RdX.of_own2 ho (fun j hj _ => by unfold Own; omega)
  rcases hc with ⟨c1, c2, c3, c4, c5, c6, c7⟩ | ⟨c1, c2, c3, c4, c5, c6⟩
  · by_cases hl : d.left = 1
    · refine (write_cut db kb mb pb mm d w hD c2 c3 hl (s : Nat) ⟨by omega, by omega⟩ v 0 _ (bv bl) hx.rd (by rw [bv_length, hbl, h4]) (by omega)).mono ?_
      rintro e w' ⟨rfl, hD', hF⟩
      exact ⟨Or.inr ⟨rfl, ⟨pb, mm, _, hD', by omega, h2, h3, h4, Or.inr ⟨by omega, rfl, rfl, by show d.writes = A - 1; omega, rfl, by omega⟩⟩⟩, hF.below (by rintro j (h | h | h) <;> omega) (by omega)⟩
    · refine (write_ok db kb mb pb mm d w hD c2 (fun _ => ⟨by omega, by omega⟩) s (by omega) v bl hx (by rw [hbl, h4]) (by omega) (by omega) ⟨by omega, by omega⟩).mono ?_
      rintro e w' ⟨rfl, pb', hD', hp, hF⟩
      refine ⟨Or.inl ⟨rfl, ⟨pb', mm + 1, _, hD', by omega, by omega, h3, h4, Or.inl ⟨by omega, c2, c3, ?_, ?_, ?_, by omega⟩⟩⟩, hF.below (by rintro j (h | h | h | h) <;> omega) (by omega)⟩
      · show (if d.armed then d.left - 1 else d.left) = _
        rw [c3]
        simp only [if_true]
        omega
      · show d.writes + 1 = _
        omega
      · show (d.pend ++ [(s, bl)]).length ≤ _
        simp
        omega
  · refine (write_off db kb mb pb mm d w hD c2 (s : Nat) v).mono ?_
    rintro e w' ⟨rfl, rfl⟩
    exact ⟨Or.inr ⟨rfl, ⟨pb, mm, d, hD, by omega, h2, h3, h4, Or.inr ⟨by omega, c2, c3, c4, c5, c6⟩⟩⟩, Below.refl _ _⟩
set_option maxRecDepth 100000 in
set_option maxHeartbeats 8000000 in
theorem walk (n wr_ fl : Int) (w : World) (hn0 : (Lit.int .i64 n).wf = true) : Calls Try.prog 7 #[.int .i64 n, .int .i64 wr_, .int .i64 fl] w fun e w' => e = .returned (.bool true) ∧ Below w.heap.size w w' := by
  have hnr : -9223372036854775808 ≤ n ∧ n ≤ 9223372036854775807 := by simpa [Lit.wf, IntKind.min, IntKind.max, IntKind.signed, IntKind.bits] using hn0
  have HK := Lib.hid (known_any w)
  clear hn0
  by_cases c0 : wr_ < 0
  · go_enter Try.func7, Try.ntmps7
    go_wp2_with fail
    refine HK.out.mono ?_
    rintro e w1 ⟨rfl, hb1⟩
    go_wp2
    go_ret
    exact ⟨rfl, hb1⟩
  by_cases c1 : 100 < wr_
  · go_enter Try.func7, Try.ntmps7
    go_wp2_with fail
    refine HK.out.mono ?_
    rintro e w1 ⟨rfl, hb1⟩
    go_wp2
    go_ret
    exact ⟨rfl, hb1⟩
  obtain ⟨W, rfl⟩ := Int.eq_ofNat_of_zero_le (show 0 ≤ wr_ by omega)
  go_enter Try.func7, Try.ntmps7
  go_wp2_with fail
  refine HK.out.mono ?_
  rintro e w1 ⟨rfl, hb1⟩
  have HB1 := Lib.hid hb1
  have HN := Lib.hid (dnew_ok 4 64 (by omega) (by omega) w1)
  clear hb1
  go_wp2_with fail
  refine HN.out.mono ?_
  rintro e w2 ⟨db, kb, mb, hd1, hd2, hd3, rfl, hD, hb2⟩
  have hz1 := HB1.out.size
  have HB2 := Lib.hid (HB1.out.trans (hb2.mono hz1))
  have HAR := Lib.hid (arm_any db kb mb db 0 _ w2 hD n (.slice none 0 0) [] 0 (RdV.nil_ _ _) (by simp))
  clear hD hb2
  go_wp2_with fail
  refine HAR.out.mono ?_
  rintro e w3 ⟨rfl, hD3, hF3⟩
  obtain ⟨A, hA⟩ : ∃ A, max n 1 = A := ⟨_, rfl⟩
  have hA1 : 1 ≤ A ∧ A ≤ 9223372036854775807 := by omega
  have HD3 := Lib.hid (show AInv db kb mb w.heap.size A 0 0 w3 from ⟨db, 0, _, hD3, Nat.le_refl _, by omega, rfl, rfl, Or.inl ⟨by omega, rfl, rfl, by show max n 1 = A - 0; omega, rfl, Nat.zero_le _, rfl⟩⟩)
  have HB3 := Lib.hid (HB2.out.trans (hF3.below (B := w.heap.size) (by rintro j rfl; omega) HB2.out.size))
  clear hD3 hF3
  by_cases hn1 : n < 1
  · obtain rfl : A = 1 := by omega
    clear hA
    go_wp2
    go_loopw [9, 10] (fun k i wx => ∃ (q : Nat) (ok : Int), q ≤ W ∧ i = .int .i64 q ∧ k = .int .i64 ok ∧ 0 ≤ ok ∧ ok ≤ q ∧ AInv db kb mb w.heap.size 1 q ok wx ∧ Below w.heap.size w wx) (fun k i wx => W - (intOf i).toNat)
    case atStart => exact ⟨0, 0, by omega, rfl, rfl, by omega, by omega, HD3.out, HB3.out⟩
    case round =>
      obtain ⟨q, ok, hq, rfl, rfl, hk0, hk1, hI, hB⟩ := hrel
      by_cases hlt : q < W
      · have hq4 : ((q : Nat) : Int) % 4 = ((q % 4 : Nat) : Int) := by omega
        have HQ4 := Lib.hid hq4
        clear hq4
        by_cases hfl : (q : Int) = fl
        · have FL := Lib.hid (aflush ⟨by omega, by omega, by omega⟩ (by omega) hI hB.size)
          have HB := Lib.hid hB
          clear hI hB
          go_wp2_with fail
          refine FL.out.mono ?_
          rintro e w4 ⟨⟨x, rfl⟩, hI, hb4⟩
          have hB := HB.out.trans hb4
          clear hb4 hfl
          have HI := Lib.hid hI
          have HB := Lib.hid hB
          clear hI hB
          go_wp2_with first
            | (at_make; go_loud (refine wpList_make_rd _ rfl _ _ 32 rfl w4.heap.size 5 (.int .u8 0) 1 Try.underlying32 inf8 rfl .i64 .i64 64 64 _ _ rfl rfl rfl rfl (Nat.le_refl _) (by omega) (by unfold maxLen; omega) (Nat.le_refl _) ?_; intro w5 ho5 hg5))
            | fail
          have hm5 : Frm (fun _ => False) w4 w5 := ⟨hg5.os, hg5.tape, hg5.output, hg5.size, fun j hj _ => hg5.block j hj (by simp)⟩
          have hbv : bv (List.replicate 64 0) = List.replicate 64 (Value.int .u8 0) := by simp [bv]
          rw [HQ4.out]
          have hm5b : Below w.heap.size w4 w5 := hm5.below (fun _ h => h.elim) HB.out.size
          have AW := Lib.hid (awrite (db := db) (kb := kb) (mb := mb) (base := w.heap.size) (by omega) ⟨by omega, by omega, by omega⟩ (by omega) HI.out HB.out.size hm5 _ (List.replicate 64 0) (by rw [hbv]; exact ho5) (by simp) (q % 4) (by omega))
          have HB5 := Lib.hid (HB.out.trans hm5b)
          clear hm5 hm5b hbv ho5 hg5
          refine AW.out.mono ?_
          rintro e w6 ⟨⟨rfl, hI⟩ | ⟨rfl, hI⟩, hb6⟩
          · have HI6 := Lib.hid hI
            have HB6 := Lib.hid (HB5.out.trans hb6)
            clear hI hb6
            go_wp2
            go_roundw
            case rel => exact ⟨q + 1, ok + 1, by omega, by go_num, by go_num, by omega, by omega, HI6.out, HB6.out⟩
            case measure => simp [intOf]; omega
          · have HI6 := Lib.hid hI
            have HB6 := Lib.hid (HB5.out.trans hb6)
            clear hI hb6
            go_wp2
            go_roundw
            case rel => exact ⟨q + 1, ok, by omega, by go_num, rfl, by omega, by omega, HI6.out, HB6.out⟩
            case measure => simp [intOf]; omega
        · have hfl2 : ((q : Int) == fl) = false := by rw [beq_eq_false_iff_ne]; exact hfl
          clear hfl
          have HI := Lib.hid hI
          have HB := Lib.hid hB
          clear hI hB
          go_wp2_with first
            | (at_make; go_loud (refine wpList_make_rd _ rfl _ _ 32 rfl wr.heap.size 5 (.int .u8 0) 1 Try.underlying32 inf8 rfl .i64 .i64 64 64 _ _ rfl rfl rfl rfl (Nat.le_refl _) (by omega) (by unfold maxLen; omega) (Nat.le_refl _) ?_; intro w5 ho5 hg5))
            | fail
          have hm5 : Frm (fun _ => False) wr w5 := ⟨hg5.os, hg5.tape, hg5.output, hg5.size, fun j hj _ => hg5.block j hj (by simp)⟩
          have hbv : bv (List.replicate 64 0) = List.replicate 64 (Value.int .u8 0) := by simp [bv]
          rw [HQ4.out]
          have hm5b : Below w.heap.size wr w5 := hm5.below (fun _ h => h.elim) HB.out.size
          have AW := Lib.hid (awrite (db := db) (kb := kb) (mb := mb) (base := w.heap.size) (by omega) ⟨by omega, by omega, by omega⟩ (by omega) HI.out HB.out.size hm5 _ (List.replicate 64 0) (by rw [hbv]; exact ho5) (by simp) (q % 4) (by omega))
          have HB5 := Lib.hid (HB.out.trans hm5b)
          clear hm5 hm5b hbv ho5 hg5
          refine AW.out.mono ?_
          rintro e w6 ⟨⟨rfl, hI⟩ | ⟨rfl, hI⟩, hb6⟩
          · have HI6 := Lib.hid hI
            have HB6 := Lib.hid (HB5.out.trans hb6)
            clear hI hb6
            go_wp2
            go_roundw
            case rel => exact ⟨q + 1, ok + 1, by omega, by go_num, by go_num, by omega, by omega, HI6.out, HB6.out⟩
            case measure => simp [intOf]; omega
          · have HI6 := Lib.hid hI
            have HB6 := Lib.hid (HB5.out.trans hb6)
            clear hI hb6
            go_wp2
            go_roundw
            case rel => exact ⟨q + 1, ok, by omega, by go_num, rfl, by omega, by omega, HI6.out, HB6.out⟩
            case measure => simp [intOf]; omega
      · obtain rfl : q = W := by omega
        obtain ⟨pb, mm, d, hD, h1, h2, h3, h4, hc⟩ := hI
        have hz := hB.size
        rcases hc with ⟨c1, c2, c3, c4, c5, c6, c7⟩ | ⟨c1, c2, c3, c4, c5, c6⟩
        · subst c7
          have OF := off_any db kb mb pb mm d wr hD
          rw [c2] at OF
          have WR := writes_any db kb mb pb mm d wr hD
          rw [c5] at WR
          have OF := Lib.hid OF
          have WR := Lib.hid WR
          have HB := Lib.hid hB
          have hle : ¬ 1 ≤ (q : Int) := by omega
          clear hD hB h1 h2 h3 h4 c1 c2 c3 c4 c5 c6
          go_wp2_with fail
          refine OF.out.mono ?_
          rintro e w5 ⟨rfl, rfl⟩
          go_wp2_with fail
          refine WR.out.mono ?_
          rintro e w5 ⟨rfl, rfl⟩
          go_wp2_with fail
          refine OF.out.mono ?_
          rintro e w5 ⟨rfl, rfl⟩
          go_wp2
          go_ret
          exact ⟨rfl, HB.out⟩
        · subst c6
          have OF := off_any db kb mb pb mm d wr hD
          rw [c2] at OF
          have WR := writes_any db kb mb pb mm d wr hD
          rw [c4] at WR
          have RO := Lib.hid (read_off db kb mb pb mm d wr hD c2 0)
          have FO := Lib.hid (flush_off db kb mb pb mm d wr hD c2)
          have ON := Lib.hid (on_any db kb mb pb mm d wr hD)
          have OF := Lib.hid OF
          have WR := Lib.hid WR
          have HB := Lib.hid hB
          have hle : 1 ≤ (q : Int) := by omega
          have hlt5 := hD.lt
          have hsm5 := hD.small
          clear hD hB
          go_wp2_with fail
          refine OF.out.mono ?_
          rintro e w5 ⟨rfl, rfl⟩
          go_wp2_with fail
          refine WR.out.mono ?_
          rintro e w5 ⟨rfl, rfl⟩
          go_wp2_with fail
          refine OF.out.mono ?_
          rintro e w5 ⟨rfl, rfl⟩
          go_wp2_with fail
          refine RO.out.mono ?_
          rintro e w5 ⟨rfl, rfl⟩
          go_wp2_with fail
          refine FO.out.mono ?_
          rintro e w5 ⟨rfl, rfl⟩
          go_wp2_with fail
          refine ON.out.mono ?_
          rintro e w5 ⟨rfl, hD5, hF5⟩
          have hz5 := hF5.size
          have HD5 := Lib.hid hD5
          have HB5 := Lib.hid (HB.out.trans (hF5.below (B := w.heap.size) (by rintro j rfl; omega) HB.out.size))
          clear hD5 hF5
          go_wp2_with first
            | (at_make; go_loud (refine wpList_make_rd _ rfl _ _ 32 rfl w5.heap.size 5 (.int .u8 0) 1 Try.underlying32 inf8 rfl .i64 .i64 64 64 _ _ rfl rfl rfl rfl (Nat.le_refl _) (by omega) (by unfold maxLen; omega) (Nat.le_refl _) ?_; intro w6 ho6 hg6))
            | fail
          have hm6 : Frm (fun _ => False) w5 w6 := ⟨hg6.os, hg6.tape, hg6.output, hg6.size, fun j hj _ => hg6.block j hj (by simp)⟩
          have hbv : bv (List.replicate 64 0) = List.replicate 64 (Value.int .u8 0) := by simp [bv]
          rw [← hbv] at ho6
          have hz6 := hm6.size
          have hx6 : RdX (Own db kb mb pb) w6 (.slice (some ⟨w5.heap.size, 0, none⟩) 64 64) (bv (List.replicate 64 0)) := RdX.of_own2 ho6 (fun j hj _ => by unfold Own; omega)
          have WO := Lib.hid (write_ok db kb mb pb mm _ w6 (HD5.out.next hm6) rfl (fun h => by rw [show ({ d with off := false } : Dk).armed = d.armed from rfl, c3] at h; cases h) 0 (by show 0 < d.n; omega) _ (List.replicate 64 0) hx6 (by rw [List.length_replicate]; exact h4.symm) (by show d.pend.length ≤ 1000000; rw [c5]; simp) (by omega) (by show 0 ≤ d.writes ∧ d.writes ≤ 1000000000000; omega))
          have HB6 := Lib.hid (HB5.out.trans (hm6.below (B := w.heap.size) (fun _ h => h.elim) HB5.out.size))
          clear ho6 hg6 hm6 hx6 hbv
          refine WO.out.mono ?_
          rintro e w7 ⟨rfl, pb7, hD7, hp7, hF7⟩
          have PE := pending_any db kb mb pb7 _ _ w7 hD7
          have hpl : (wroteD { d with off := false } 0 (List.replicate 64 0)).pend.length = 1 := by show (d.pend ++ _).length = 1; rw [c5]; rfl
          rw [hpl] at PE
          have PE := Lib.hid PE
          have HB7 := Lib.hid (HB6.out.trans (hF7.below (B := w.heap.size) (by rintro j (h | h | h | h) <;> omega) HB6.out.size))
          clear hD7 hF7 hp7 hpl
          go_wp2_with fail
          refine PE.out.mono ?_
          rintro e w8 ⟨rfl, rfl⟩
          go_wp2
          go_ret
          exact ⟨rfl, HB7.out⟩
  · obtain rfl : A = n := by omega
    clear hA
    go_wp2
    go_loopw [9, 10] (fun k i wx => ∃ (q : Nat) (ok : Int), q ≤ W ∧ i = .int .i64 q ∧ k = .int .i64 ok ∧ 0 ≤ ok ∧ ok ≤ q ∧ AInv db kb mb w.heap.size A q ok wx ∧ Below w.heap.size w wx) (fun k i wx => W - (intOf i).toNat)
    case atStart => exact ⟨0, 0, by omega, rfl, rfl, by omega, by omega, HD3.out, HB3.out⟩
    case round =>
      obtain ⟨q, ok, hq, rfl, rfl, hk0, hk1, hI, hB⟩ := hrel
      by_cases hlt : q < W
      · have hq4 : ((q : Nat) : Int) % 4 = ((q % 4 : Nat) : Int) := by omega
        have HQ4 := Lib.hid hq4
        clear hq4
        by_cases hfl : (q : Int) = fl
        · have FL := Lib.hid (aflush ⟨by omega, by omega, by omega⟩ (by omega) hI hB.size)
          have HB := Lib.hid hB
          clear hI hB
          go_wp2_with fail
          refine FL.out.mono ?_
          rintro e w4 ⟨⟨x, rfl⟩, hI, hb4⟩
          have hB := HB.out.trans hb4
          clear hb4 hfl
          have HI := Lib.hid hI
          have HB := Lib.hid hB
          clear hI hB
          go_wp2_with first
            | (at_make; go_loud (refine wpList_make_rd _ rfl _ _ 32 rfl w4.heap.size 5 (.int .u8 0) 1 Try.underlying32 inf8 rfl .i64 .i64 64 64 _ _ rfl rfl rfl rfl (Nat.le_refl _) (by omega) (by unfold maxLen; omega) (Nat.le_refl _) ?_; intro w5 ho5 hg5))
            | fail
          have hm5 : Frm (fun _ => False) w4 w5 := ⟨hg5.os, hg5.tape, hg5.output, hg5.size, fun j hj _ => hg5.block j hj (by simp)⟩
          have hbv : bv (List.replicate 64 0) = List.replicate 64 (Value.int .u8 0) := by simp [bv]
          rw [HQ4.out]
          have hm5b : Below w.heap.size w4 w5 := hm5.below (fun _ h => h.elim) HB.out.size
          have AW := Lib.hid (awrite (db := db) (kb := kb) (mb := mb) (base := w.heap.size) (by omega) ⟨by omega, by omega, by omega⟩ (by omega) HI.out HB.out.size hm5 _ (List.replicate 64 0) (by rw [hbv]; exact ho5) (by simp) (q % 4) (by omega))
          have HB5 := Lib.hid (HB.out.trans hm5b)
          clear hm5 hm5b hbv ho5 hg5
          refine AW.out.mono ?_
          rintro e w6 ⟨⟨rfl, hI⟩ | ⟨rfl, hI⟩, hb6⟩
          · have HI6 := Lib.hid hI
            have HB6 := Lib.hid (HB5.out.trans hb6)
            clear hI hb6
            go_wp2
            go_roundw
            case rel => exact ⟨q + 1, ok + 1, by omega, by go_num, by go_num, by omega, by omega, HI6.out, HB6.out⟩
            case measure => simp [intOf]; omega
          · have HI6 := Lib.hid hI
            have HB6 := Lib.hid (HB5.out.trans hb6)
            clear hI hb6
            go_wp2
            go_roundw
            case rel => exact ⟨q + 1, ok, by omega, by go_num, rfl, by omega, by omega, HI6.out, HB6.out⟩
            case measure => simp [intOf]; omega
        · have hfl2 : ((q : Int) == fl) = false := by rw [beq_eq_false_iff_ne]; exact hfl
          clear hfl
          have HI := Lib.hid hI
          have HB := Lib.hid hB
          clear hI hB
          go_wp2_with first
            | (at_make; go_loud (refine wpList_make_rd _ rfl _ _ 32 rfl wr.heap.size 5 (.int .u8 0) 1 Try.underlying32 inf8 rfl .i64 .i64 64 64 _ _ rfl rfl rfl rfl (Nat.le_refl _) (by omega) (by unfold maxLen; omega) (Nat.le_refl _) ?_; intro w5 ho5 hg5))
            | fail
          have hm5 : Frm (fun _ => False) wr w5 := ⟨hg5.os, hg5.tape, hg5.output, hg5.size, fun j hj _ => hg5.block j hj (by simp)⟩
          have hbv : bv (List.replicate 64 0) = List.replicate 64 (Value.int .u8 0) := by simp [bv]
          rw [HQ4.out]
          have hm5b : Below w.heap.size wr w5 := hm5.below (fun _ h => h.elim) HB.out.size
          have AW := Lib.hid (awrite (db := db) (kb := kb) (mb := mb) (base := w.heap.size) (by omega) ⟨by omega, by omega, by omega⟩ (by omega) HI.out HB.out.size hm5 _ (List.replicate 64 0) (by rw [hbv]; exact ho5) (by simp) (q % 4) (by omega))
          have HB5 := Lib.hid (HB.out.trans hm5b)
          clear hm5 hm5b hbv ho5 hg5
          refine AW.out.mono ?_
          rintro e w6 ⟨⟨rfl, hI⟩ | ⟨rfl, hI⟩, hb6⟩
          · have HI6 := Lib.hid hI
            have HB6 := Lib.hid (HB5.out.trans hb6)
            clear hI hb6
            go_wp2
            go_roundw
            case rel => exact ⟨q + 1, ok + 1, by omega, by go_num, by go_num, by omega, by omega, HI6.out, HB6.out⟩
            case measure => simp [intOf]; omega
          · have HI6 := Lib.hid hI
            have HB6 := Lib.hid (HB5.out.trans hb6)
            clear hI hb6
            go_wp2
            go_roundw
            case rel => exact ⟨q + 1, ok, by omega, by go_num, rfl, by omega, by omega, HI6.out, HB6.out⟩
            case measure => simp [intOf]; omega
      · obtain rfl : q = W := by omega
        obtain ⟨pb, mm, d, hD, h1, h2, h3, h4, hc⟩ := hI
        have hz := hB.size
        rcases hc with ⟨c1, c2, c3, c4, c5, c6, c7⟩ | ⟨c1, c2, c3, c4, c5, c6⟩
        · subst c7
          have OF := off_any db kb mb pb mm d wr hD
          rw [c2] at OF
          have WR := writes_any db kb mb pb mm d wr hD
          rw [c5] at WR
          have OF := Lib.hid OF
          have WR := Lib.hid WR
          have HB := Lib.hid hB
          have hle : ¬ A ≤ (q : Int) := by omega
          clear hD hB h1 h2 h3 h4 c1 c2 c3 c4 c5 c6
          go_wp2_with fail
          refine OF.out.mono ?_
          rintro e w5 ⟨rfl, rfl⟩
          go_wp2_with fail
          refine WR.out.mono ?_
          rintro e w5 ⟨rfl, rfl⟩
          go_wp2_with fail
          refine OF.out.mono ?_
          rintro e w5 ⟨rfl, rfl⟩
          go_wp2
          go_ret
          exact ⟨rfl, HB.out⟩
        · subst c6
          have OF := off_any db kb mb pb mm d wr hD
          rw [c2] at OF
          have WR := writes_any db kb mb pb mm d wr hD
          rw [c4] at WR
          have RO := Lib.hid (read_off db kb mb pb mm d wr hD c2 0)
          have FO := Lib.hid (flush_off db kb mb pb mm d wr hD c2)
          have ON := Lib.hid (on_any db kb mb pb mm d wr hD)
          have OF := Lib.hid OF
          have WR := Lib.hid WR
          have HB := Lib.hid hB
          have hle : A ≤ (q : Int) := by omega
          have hlt5 := hD.lt
          have hsm5 := hD.small
          clear hD hB
          go_wp2_with fail
          refine OF.out.mono ?_
          rintro e w5 ⟨rfl, rfl⟩
          go_wp2_with fail
          refine WR.out.mono ?_
          rintro e w5 ⟨rfl, rfl⟩
          go_wp2_with fail
          refine OF.out.mono ?_
          rintro e w5 ⟨rfl, rfl⟩
          go_wp2_with fail
          refine RO.out.mono ?_
          rintro e w5 ⟨rfl, rfl⟩
          go_wp2_with fail
          refine FO.out.mono ?_
          rintro e w5 ⟨rfl, rfl⟩
          go_wp2_with fail
          refine ON.out.mono ?_
          rintro e w5 ⟨rfl, hD5, hF5⟩
          have hz5 := hF5.size
          have HD5 := Lib.hid hD5
          have HB5 := Lib.hid (HB.out.trans (hF5.below (B := w.heap.size) (by rintro j rfl; omega) HB.out.size))
          clear hD5 hF5
          go_wp2_with first
            | (at_make; go_loud (refine wpList_make_rd _ rfl _ _ 32 rfl w5.heap.size 5 (.int .u8 0) 1 Try.underlying32 inf8 rfl .i64 .i64 64 64 _ _ rfl rfl rfl rfl (Nat.le_refl _) (by omega) (by unfold maxLen; omega) (Nat.le_refl _) ?_; intro w6 ho6 hg6))
            | fail
          have hm6 : Frm (fun _ => False) w5 w6 := ⟨hg6.os, hg6.tape, hg6.output, hg6.size, fun j hj _ => hg6.block j hj (by simp)⟩
          have hbv : bv (List.replicate 64 0) = List.replicate 64 (Value.int .u8 0) := by simp [bv]
          rw [← hbv] at ho6
          have hz6 := hm6.size
          have hx6 : RdX (Own db kb mb pb) w6 (.slice (some ⟨w5.heap.size, 0, none⟩) 64 64) (bv (List.replicate 64 0)) := RdX.of_own2 ho6 (fun j hj _ => by unfold Own; omega)
          have WO := Lib.hid (write_ok db kb mb pb mm _ w6 (HD5.out.next hm6) rfl (fun h => by rw [show ({ d with off := false } : Dk).armed = d.armed from rfl, c3] at h; cases h) 0 (by show 0 < d.n; omega) _ (List.replicate 64 0) hx6 (by rw [List.length_replicate]; exact h4.symm) (by show d.pend.length ≤ 1000000; rw [c5]; simp) (by omega) (by show 0 ≤ d.writes ∧ d.writes ≤ 1000000000000; omega))
          have HB6 := Lib.hid (HB5.out.trans (hm6.below (B := w.heap.size) (fun _ h => h.elim) HB5.out.size))
          clear ho6 hg6 hm6 hx6 hbv
          refine WO.out.mono ?_
          rintro e w7 ⟨rfl, pb7, hD7, hp7, hF7⟩
          have PE := pending_any db kb mb pb7 _ _ w7 hD7
          have hpl : (wroteD { d with off := false } 0 (List.replicate 64 0)).pend.length = 1 := by show (d.pend ++ _).length = 1; rw [c5]; rfl
          rw [hpl] at PE
          have PE := Lib.hid PE
          have HB7 := Lib.hid (HB6.out.trans (hF7.below (B := w.heap.size) (by rintro j (h | h | h | h) <;> omega) HB6.out.size))
          clear hD7 hF7 hp7 hpl
          go_wp2_with fail
          refine PE.out.mono ?_
          rintro e w8 ⟨rfl, rfl⟩
          go_wp2
          go_ret
          exact ⟨rfl, HB7.out⟩

set_option maxRecDepth 100000 in
theorem lifted (os : Os) (started : os.Started) (H : Type) (enc : TypeId × Value → H) :
    ReturnsInHanded {} Try.checked os 7 .any (Rows.diskArmedSpec.pre6 enc Try.prog Try.f7 Rows.diskArmedRow.domain false) (Rows.diskArmedSpec.post enc Try.prog Try.f7 false true false false) := by
  refine returnsInHanded_of_change (C := Try.checked) own started (by kernel_rfl) Try.func7
    (ChangeSpec.witness6 (enc := enc) (C := Try.checked) false ⟨#[], #[.int .i64 0, .int .i64 0, .int .i64 0], []⟩ 8 (by kernel_rfl) (by kernel_rfl) (by kernel_rfl) (by kernel_rfl)) ?_
  intro W base args ds gs before hval0 hW hcnd _
  have hval : ∀ (j : Nat) t v, Try.f7.params[j]? = some t → args[j]? = some v → Value.okWide Try.prog W .any base t v := hval0
  have hW' := hW
  obtain ⟨p, q, hA0, hV, rfl, hfz, hnd⟩ := hW
  have hA : DataW.TrodAll enc Try.prog W 0 (fun _ => true) true Try.f7.params.toList args.toList ds p := hA0
  rw [Try.params7] at hA hval
  obtain ⟨v0, vs0, d0, ds0, p0, q0, hargs, rfl, rfl, h0, r0⟩ := trodAll_cons hA
  obtain ⟨v1, vs1, d1, ds1, p1, q1, rfl, rfl, rfl, h1, r1⟩ := trodAll_cons r0
  obtain ⟨v2, vs2, d2, ds2, p2, q2, rfl, rfl, rfl, h2, r2⟩ := trodAll_cons r1
  obtain ⟨rfl, rfl, rfl⟩ := trodAll_nil r2
  obtain rfl : args = #[v0, v1, v2] := by cases args; simp_all
  obtain ⟨rfl, rfl⟩ := trodVars_none hV
  obtain ⟨a0, rfl, rfl, rfl, w0⟩ := open_int Try.underlying3 (hval 0 3 v0 rfl rfl) h0
  obtain ⟨a1, rfl, rfl, rfl, w1⟩ := open_int Try.underlying3 (hval 1 3 v1 rfl rfl) h1
  obtain ⟨a2, rfl, rfl, rfl, w2⟩ := open_int Try.underlying3 (hval 2 3 v2 rfl rfl) h2
  clear hA0 hval0
  refine (walk a0 a1 a2 W w0).mono fun e W' ⟨he, hb⟩ => ?_
  subst he
  exact ⟨_, rfl, law_post hW' rfl laid (by kernel_rfl) rfl Try.underlying4 rfl hb⟩

theorem over : Rows.diskArmedRow.holds Try.pinned (OpenSpec.ofChange Rows.diskArmedSpec) :=
  OpenClaim.holds_of_wide 7 Try.f7 rfl rfl rfl rfl rfl rfl rfl ⟨rfl, rfl, rfl, rfl, rfl⟩ rfl rfl rfl rfl rfl (by kernel_rfl) Try.func7 (by kernel_rfl)
    (of_decide_eq_true (by kernel_rfl)) (by unfold Func.isWrapper; first | (rw [if_pos (by decide +kernel)]; kernel_rfl) | (rw [if_neg (by decide +kernel)]; exact ⟨rfl, rfl⟩))
    (fun os started H enc _ => lifted os started H enc)

theorem proved : Rows.DiskArmedSaid :=
  over
end Go.Proofs.Ytldmamcalfmedaa.lawDiskArmed
