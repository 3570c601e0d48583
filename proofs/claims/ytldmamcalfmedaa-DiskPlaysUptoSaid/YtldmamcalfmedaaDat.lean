/- What an act writes; whether acts are few. Conditions: none. -/
import Derived.Test.YtldmamcalfmedaaAcs
import Derived.Test.YtldmamcalfmedaaDsn
import Derived.Test.YtldmamcalfmedaaDsz
namespace Go.Proofs.Ytldmamcalfmedaa
open Go.ChangeShapes Go.WideShapes Go.ChangeAt Go.RowKit Go.Maps
set_option linter.unusedSimpArgs false
set_option linter.unusedVariables false
def fillB (f : Int) (i : Nat) : UInt8 := UInt8.ofNat (f.toNat + i)
def fillL (f : Int) (size q : Nat) : List UInt8 := (List.range size).map fun i => if i < q then fillB f i else 0
def dataB (x : Ac) (size : Nat) : List UInt8 := if 0 < x.B.length then x.B else fillL x.fill size size
theorem fillL_length (f : Int) (size q : Nat) : (fillL f size q).length = size := by simp [fillL]
theorem fillL_zero (f : Int) (size : Nat) : bv (fillL f size 0) = List.replicate size (.int .u8 0) := by
  unfold fillL bv
  apply List.ext_getElem?
  intro j
  rcases Nat.lt_or_ge j size with h | h
  · simp [h]
  · rw [List.getElem?_eq_none (by simpa using h), List.getElem?_eq_none (by simpa using h)]
theorem fillL_set (f : Int) (size q : Nat) (hq : q < size) (z : Int) (hf : 0 ≤ f) (hz : z = ((f.toNat + q) % 256 : Nat)) : (bv (fillL f size q)).set q (.int .u8 z) = bv (fillL f size (q + 1)) := by
  apply List.ext_getElem?
  intro j
  unfold bv fillL
  rw [List.getElem?_set]
  by_cases hj : q = j
  · subst hj
    simp only [List.map_map, List.length_map, List.length_range, hq, if_true, List.getElem?_map, List.getElem?_range hq, Option.map_some, Function.comp_apply, Nat.lt_succ_self]
    rw [hz]
    simp [fillB]
  · rw [if_neg hj]
    rcases Nat.lt_or_ge j size with h | h
    · simp only [List.getElem?_map, List.getElem?_range h, Option.map_some]
      congr 3
      have : (j < q) ↔ (j < q + 1) := by omega
      simp only [this]
    · rw [List.getElem?_eq_none (by simpa using h), List.getElem?_eq_none (by simpa using h)]
abbrev acV (x : Ac) (uB uK : Value) : Value := .agg #[.int .i64 x.op, .int .i64 x.sec, .int .u8 x.fill, uB, .int .i64 x.n, uK, .int .u32 x.pat]
set_option maxRecDepth 100000 in
set_option maxHeartbeats 4000000 in
theorem data_any (x : Ac) (hx : x.wf) (uB uK : Value) (size : Nat) (hsz : size ≤ 100000) (w : World) (B : Nat) (hB : B ≤ w.heap.size) (rB : RdV w B uB (bv x.B)) :
    Calls Try.prog 13 #[acV x uB uK, .int .i64 (size : Nat)] w fun e w' => ∃ v, e = .returned v ∧ (∀ M : Nat → Prop, (∀ j, j < B → ¬ M j) → (∀ j, w.heap.size ≤ j → j < w'.heap.size → ¬ M j) → RdX M w' v (bv (dataB x size))) ∧ Below w.heap.size w w' := by
  obtain ⟨A, c, rfl, hc1, hc2, _⟩ := id rB
  rw [bv_length] at hc1 rB ⊢
  obtain ⟨_, _, hfl, _, _⟩ := hx
  by_cases hn : 0 < x.B.length
  · have hd : dataB x size = x.B := if_pos hn
    have R := Lib.hid rB
    have HD := Lib.hid hd
    obtain ⟨L, hL⟩ : ∃ L, x.B.length = L := ⟨_, rfl⟩
    have HL := Lib.hid hL
    rw [hL] at hc1 hn ⊢
    clear rB hd hL
    go_enter Try.func13, Try.ntmps13
    go_wp2
    go_ret
    have hb : Below w.heap.size w (w.alloc (.cells #[.int .i64 x.op, .int .i64 x.sec, .int .u8 x.fill, .slice A L c, .int .i64 x.n, uK, .int .u32 x.pat] 36)) := (Below.refl _ _).alloc (Nat.le_refl _) _
    refine ⟨_, rfl, fun M h1 h2 => ?_, hb⟩
    rw [HD.out]
    have := R.out
    rw [HL.out] at this
    exact RdX.of_rd (this.below' hb hB) (by have := hb.size; omega) h1
  · have hd : dataB x size = fillL x.fill size size := if_neg hn
    have hL : x.B.length = 0 := by omega
    have HD := Lib.hid hd
    have HL := Lib.hid hL
    rw [hL] at hc1 ⊢
    clear rB hd hn hL
    go_enter Try.func13, Try.ntmps13
    go_upto_region 3 with (fail)
    obtain ⟨w1, hw1⟩ : ∃ w1, w.alloc (.cells #[.int .i64 x.op, .int .i64 x.sec, .int .u8 x.fill, .slice A 0 c, .int .i64 x.n, uK, .int .u32 x.pat] 36) = w1 := ⟨_, rfl⟩
    have hb1 : Below w.heap.size w w1 := by rw [← hw1]; exact (Below.refl _ _).alloc (Nat.le_refl _) _
    have hz1 : w1.heap.size = w.heap.size + 1 := by rw [← hw1]; simp
    have hc1' : w1.cell? ⟨w.heap.size, 2, none⟩ = some (.int .u8 x.fill) := by rw [← hw1]; simp [go_sem]
    rw [hw1]
    clear hw1
    refine wp_region_lit ?_
    refine wpList_plain rfl fun K hK => ?_
    go_simp
    refine hK _ _ ?_
    clear hK K
    refine wpList_make_rd _ rfl _ _ 32 rfl w1.heap.size 5 (.int .u8 0) 1 Try.underlying32 inf8n rfl .i64 .i64 size size _ _ rfl rfl rfl rfl (Nat.le_refl _) (by omega) (by unfold maxLen; omega) (Nat.le_refl _) ?_
    intro w2 ho2 hg2
    refine wpList_plain rfl fun K hK => ?_
    go_simp
    refine hK _ _ ?_
    clear hK K
    refine wpList_nil ?_
    rw [← fillL_zero x.fill size] at ho2
    have hb2 := hb1.trans (((Below.refl w1.heap.size w1).grown hg2 (Nat.le_refl _) (by intro g h; cases h)).mono (by omega))
    have hc2' : w2.cell? ⟨w.heap.size, 2, none⟩ = some (.int .u8 x.fill) := (World.cell?_of_block (a := ⟨w.heap.size, 2, none⟩) (hg2.block w.heap.size (by omega) (by simp))).trans hc1'
    have HI0 := Lib.hid ho2
    have HB2 := Lib.hid hb2
    have HC2 := Lib.hid hc2'
    clear ho2 hb2 hc2' hb1 hc1' hg2
    rw [hz1] at HI0
    go_wp2
    go_loopw [6] (fun i wx => ∃ q : Nat, q ≤ size ∧ i = .int .i64 q ∧ wx.ownsRow (w.heap.size + 1) 5 1 (.slice (some ⟨w.heap.size + 1, 0, none⟩) size size) size (bv (fillL x.fill size q)) ∧ wx.cell? ⟨w.heap.size, 2, none⟩ = some (.int .u8 x.fill) ∧ Below w.heap.size w wx) (fun i wx => size - (intOf i).toNat)
    case atStart => exact ⟨0, by omega, rfl, HI0.out, HC2.out, HB2.out⟩
    case round =>
      obtain ⟨q, hq, rfl, ho, hc, hb⟩ := hrel
      by_cases hlt : q < size
      · have e0 : wr.cell? ⟨w.heap.size + 1, q, none⟩ = some (.int .u8 0) := (ho.cellAt q (by omega)).trans (by simp [bv, fillL, hlt])
        have f0 := ho.frozenAt q
        have HO := Lib.hid ho
        have HB := Lib.hid hb
        have HC := Lib.hid hc
        have hst := (ho.stored q (.int .u8 ((x.fill + (q : Int)) % 256))).1
        rw [fillL_set x.fill size q hlt _ hfl.1 (by omega)] at hst
        have HST := Lib.hid hst
        clear ho hb hst
        go_wp2
        go_roundw
        case rel => exact ⟨q + 1, by omega, by go_num, HST.out, (World.cell?_of_block (a := ⟨w.heap.size, 2, none⟩) (Below.heap_setCell wr ⟨w.heap.size + 1, q, none⟩ _ w.heap.size (by show w.heap.size ≠ w.heap.size + 1; omega))).trans HC.out, HB.out.setCell (by show w.heap.size ≤ w.heap.size + 1; omega) _⟩
        case measure => simp [intOf]; omega
      · obtain rfl : q = size := by omega
        have HO := Lib.hid ho
        have HB := Lib.hid hb
        clear ho hb
        go_wp2
        go_ret
        refine ⟨_, rfl, fun M h1 h2 => ?_, HB.out⟩
        rw [HD.out]
        exact RdX.of_own2 HO.out (fun j h3 h4 => h2 j (by omega) h4)
def acW (l : List Ac) : Nat := (l.map fun x => x.B.length + x.K.length).sum
theorem acW_take (l : List Ac) (i : Nat) (h : i < l.length) : acW (l.take (i + 1)) = acW (l.take i) + (l[i].B.length + l[i].K.length) := by
  unfold acW
  rw [List.take_succ_eq_append_getElem h, List.map_append, List.sum_append]
  simp
theorem acW_le (l : List Ac) (i : Nat) : acW (l.take i) ≤ acW l := by
  unfold acW
  conv => rhs; rw [← List.take_append_drop i l]
  rw [List.map_append, List.sum_append]
  omega
set_option maxRecDepth 100000 in
set_option maxHeartbeats 4000000 in
theorem few_any (v : Value) (l : List Ac) (w : World) (B : Nat) (hr : RdAc w B v l) (hs : acW l + l.length ≤ 1048576) :
    Calls Try.prog 9 #[v] w fun e w' => e = .returned (.bool (decide (l.length ≤ 200 ∧ acW l ≤ 32768))) ∧ ∃ k, w' = w.drewN k := by
  have R := Lib.hid hr
  obtain ⟨A, c, rfl, hc1, hc2, hc3⟩ := hr
  go_enter Try.func9, Try.ntmps9
  go_wp2
  go_loopw [3, 4] (fun s i wx => ∃ q : Nat, q ≤ l.length ∧ i = .int .i64 q ∧ s = .int .i64 (acW (l.take q) : Nat) ∧ ∃ k, wx = w.drewN k) (fun s i wx => l.length - (intOf i).toNat)
  case atStart => exact ⟨0, by omega, rfl, rfl, 0, rfl⟩
  case round =>
    obtain ⟨q, hq, rfl, rfl, k, rfl⟩ := hrel
    by_cases hlt : q < l.length
    · obtain ⟨b, off, uB, uK, rfl, hb, g0, g1, g2, g3, g4, g5, g6, rB, rK⟩ := R.out.get (i := q) (x := l[q]) (List.getElem?_eq_getElem hlt)
      obtain ⟨AB, cB, rfl, _, _, _⟩ := rB
      obtain ⟨AK, cK, rfl, _, _, _⟩ := rK
      rw [bv_length] at g3
      rw [boolV_length] at g5
      have hn := acW_take l q hlt
      have hle := acW_le l (q + 1)
      have g3' : ∀ n, (w.drewN n).cell? ⟨b, off + q * 7 + 3, none⟩ = some (.slice AB l[q].B.length cB) := fun n => g3
      have g5' : ∀ n, (w.drewN n).cell? ⟨b, off + q * 7 + 5, none⟩ = some (.slice AK l[q].K.length cK) := fun n => g5
      generalize l[q].B.length = nB at *
      generalize l[q].K.length = nK at *
      generalize hS : acW (l.take q) = S at *
      have HN := Lib.hid hn
      have HS := Lib.hid hS
      clear g0 g1 g2 g3 g4 g5 g6 hc3 hn hS
      go_wp2_with fail
      go_quiet (fail)
      have hw1 : wrap64 ((S : Int) + (nB : Int)) = ((S + nB : Nat) : Int) := by rw [IntWalk.wrap64_in _ (by have := HN.out; omega)]; omega
      have hw2 : wrap64 (((S + nB : Nat) : Int) + (nK : Int)) = ((S + (nB + nK) : Nat) : Int) := by rw [IntWalk.wrap64_in _ (by have := HN.out; omega)]; omega
      rw [hw1, hw2]
      go_wp2
      go_roundw
      case rel => exact ⟨q + 1, by omega, by go_num, by rw [HN.out], k + nq, rfl⟩
      case measure => simp [intOf]; omega
    · obtain rfl : q = l.length := by omega
      rw [List.take_length]
      generalize hS : acW l = S at *
      have HS := Lib.hid hS
      clear hS
      by_cases h1 : l.length ≤ 200
      · go_wp2
        go_ret
        exact ⟨by rw [HS.out]; show Ending.returned (.bool (decide ((S : Int) ≤ 32768))) = _; rw [decide_eq_decide.2 (show ((S : Int) ≤ 32768) ↔ (l.length ≤ 200 ∧ S ≤ 32768) by omega)], _, rfl⟩
      · go_wp2
        go_ret
        exact ⟨rfl, _, rfl⟩
end Go.Proofs.Ytldmamcalfmedaa
