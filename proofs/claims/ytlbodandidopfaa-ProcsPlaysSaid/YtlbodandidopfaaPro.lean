/- Contracts of procs.Of and of the document's own Of. Conditions: the numbers fit their kinds. -/
import Derived.Test.YtlbodandidopfaaPrr
namespace Go.Proofs.Ytlbodandidopfaa
open Go.ChangeShapes Go.WideShapes Go.ChangeAt Go.RowKit
set_option linter.unusedSimpArgs false
set_option linter.unusedVariables false
def ofGo (n b : Nat) : List Int → Option Nat
  | [] => some b
  | z :: zs => if z < 0 ∨ (n : Int) ≤ z ∨ Pm.hb b z.toNat = true then none else ofGo n (Pm.put b z.toNat) zs
theorem ofGo_cons {n b : Nat} {zs : List Int} {j : Nat} (h : j < zs.length) : ofGo n b (zs.drop j) = if zs[j] < 0 ∨ (n : Int) ≤ zs[j] ∨ Pm.hb b zs[j].toNat = true then none else ofGo n (Pm.put b zs[j].toNat) (zs.drop (j + 1)) := by
  rw [List.drop_eq_getElem_cons h]; rfl
def OfP (n : Nat) (zs : List Int) (w : World) (e : Ending) (w' : World) : Prop :=
  ((ofGo n 0 zs = none ∧ e = .returned (.tuple #[.pointer none, .int .i64 1])) ∨ (∃ b k, ofGo n 0 zs = some b ∧ e = .returned (.tuple #[.pointer (some ⟨k, 0, none⟩), .int .i64 0]) ∧ SBox w' k n b ∧ w.heap.size ≤ k ∧ b < 2 ^ n)) ∧ Below w.heap.size w w'
set_option maxRecDepth 100000 in
set_option maxHeartbeats 8000000 in
theorem pof_any (w : World) (B : Nat) (v : Value) (zs : List Int) (n : Nat) (h1 : 1 ≤ n) (h2 : n ≤ 64) (hB : B ≤ w.heap.size) (hr : RdV w B v (iv .i64 zs)) (hz : ∀ z ∈ zs, (Lit.int .i64 z).wf = true) :
    Calls Try.prog 52 #[.int .i64 n, v] w (OfP n zs w) := by
  have hrr := hr
  obtain ⟨A, c, rfl, hc1, hc2, hc3⟩ := hr
  rw [iv_length] at hc1 hc3 hrr ⊢
  clear hc3
  unfold maxLen at hc2
  have hnew := pnew_yes n h1 h2 w
  have hx0 := SBox.new w n 0
  have hb0 : Below w.heap.size w (w.alloc (.cells (S2 n 0) 122)) := (Below.refl _ _).alloc (Nat.le_refl _) _
  have hp2 : 2 ^ n ≤ 18446744073709551616 := Nat.pow_le_pow_right (n := 2) (by decide) (show n ≤ 64 from h2)
  have HP2 := Lib.hid hp2
  have HN := Lib.hid hnew
  have HX := Lib.hid hx0
  have HR := Lib.hid hrr
  have HZ := Lib.hid hz
  have HB := Lib.hid hb0
  clear hnew hx0 hrr hz hb0 hp2
  go_enter Try.func52, Try.ntmps52
  go_wp2_with fail
  refine HN.out.mono ?_
  rintro e w1 ⟨rfl, rfl⟩
  go_wp2_with fail
  go_loopw [20] (fun i wr => ∃ j b : Nat, j ≤ zs.length ∧ i = .int .i64 j ∧ Hid (b < 2 ^ n) ∧ SBox wr w.heap.size n b ∧ Below w.heap.size w wr ∧ Hid (ofGo n 0 zs = ofGo n b (zs.drop j))) (fun i _ => zs.length - (intOf i).toNat)
  case atStart => exact ⟨0, 0, by omega, rfl, Lib.hid (Nat.two_pow_pos n), HX.out, HB.out, Lib.hid rfl⟩
  case round =>
    obtain ⟨j, b, hj, rfl, HL, hx, hbel, HO⟩ := hrel
    have hb64 : b < 18446744073709551616 := Nat.lt_of_lt_of_le HL.out HP2.out
    by_cases hlt : j < zs.length
    · have hwf := HZ.out zs[j] (List.getElem_mem hlt)
      have hcons := ofGo_cons (n := n) (b := b) hlt
      rw [← HO.out] at hcons
      obtain ⟨bq, oq, rfl, hbq, hcq⟩ := RdV.get (HR.out.below' hbel hB) (j := j) (u := .int .i64 zs[j]) (by rw [iv_get, List.getElem?_eq_getElem hlt]; rfl)
      have hzr : -9223372036854775808 ≤ zs[j] ∧ zs[j] ≤ 9223372036854775807 := by simpa [Lit.wf, IntKind.min, IntKind.max, IntKind.signed, IntKind.bits] using hwf
      generalize zs[j] = z at *
      clear hwf
      by_cases hz0 : z < 0
      · have hfin : OfP n zs w (.returned (.tuple #[.pointer none, .int .i64 1])) wr := ⟨Or.inl ⟨by rw [hcons, if_pos (Or.inl hz0)], rfl⟩, hbel⟩
        have HF := Lib.hid hfin
        clear hfin hcons
        go_wp2
        go_ret2
        exact HF.out
      · by_cases hzn : (n : Int) ≤ z
        · have hfin : OfP n zs w (.returned (.tuple #[.pointer none, .int .i64 1])) wr := ⟨Or.inl ⟨by rw [hcons, if_pos (Or.inr (Or.inl hzn))], rfl⟩, hbel⟩
          have HF := Lib.hid hfin
          clear hfin hcons
          go_wp2
          go_ret2
          exact HF.out
        · obtain ⟨p, rfl⟩ := Int.eq_ofNat_of_zero_le (show 0 ≤ z by omega)
          rw [Int.toNat_natCast] at hcons
          have hpn : p < n := by omega
          have hh := phas_in wr w.heap.size n b p hx h2 hb64 hpn
          cases ht : Pm.hb b p with
          | true =>
            rw [ht] at hh
            have hfin : OfP n zs w (.returned (.tuple #[.pointer none, .int .i64 1])) wr := ⟨Or.inl ⟨by rw [hcons, if_pos (Or.inr (Or.inr ht))], rfl⟩, hbel⟩
            have HF := Lib.hid hfin
            have HH := Lib.hid hh
            clear hfin hcons hh ht
            go_wp2_with fail
            refine HH.out.mono ?_
            rintro e w2 ⟨rfl, rfl⟩
            go_wp2
            go_ret2
            exact HF.out
          | false =>
            rw [ht] at hh
            have hgo : ofGo n 0 zs = ofGo n (Pm.put b p) (zs.drop (j + 1)) := by rw [hcons, if_neg (by rw [ht]; simp; omega)]
            obtain ⟨c0, c1⟩ := hx.cells
            have f0 := hx.free 0
            have f1 := hx.free 1
            have hor := or_walk b p hb64 (by omega)
            have hst := STo.store hx (Pm.put b p)
            have hpl := Pm.put_lt HL.out hpn
            have HH := Lib.hid hh
            have HG := Lib.hid hgo
            have HS := Lib.hid hst
            have HPL := Lib.hid hpl
            clear hcons hh ht hgo hst hpl hx
            go_wp2_with fail
            refine HH.out.mono ?_
            rintro e w2 ⟨rfl, rfl⟩
            go_wp2
            first
              | go_region_with (fail)
              | fail
            all_goals go_wp2
            all_goals go_roundw
            case rel => exact ⟨j + 1, Pm.put b p, by omega, by go_num, HPL, HS.out.1, hbel.trans (HS.out.2.1 _ (Nat.le_refl _)), HG⟩
            case measure => simp [intOf]; omega
    · have hend : ofGo n 0 zs = some b := by rw [HO.out, List.drop_of_length_le (by omega)]; rfl
      have hfin : OfP n zs w (.returned (.tuple #[.pointer (some ⟨w.heap.size, 0, none⟩), .int .i64 0])) wr := ⟨Or.inr ⟨b, _, hend, rfl, hx, Nat.le_refl _, HL.out⟩, hbel⟩
      have HF := Lib.hid hfin
      clear hfin hend
      go_wp2
      go_ret2
      exact HF.out
def ROfP (n : Nat) (zs : List Int) (w : World) (e : Ending) (w' : World) : Prop :=
  ((ofGo n 0 zs = none ∧ e = .returned (.tuple #[.pointer none, .int .i64 1])) ∨ (∃ b k g, ofGo n 0 zs = some b ∧ e = .returned (.tuple #[.pointer (some ⟨k, 0, none⟩), .int .i64 0]) ∧ RBox w' k g n b ∧ w.heap.size ≤ g ∧ b < 2 ^ n)) ∧ Below w.heap.size w w'
abbrev yesO : Bool := true
set_option maxRecDepth 100000 in
set_option maxHeartbeats 8000000 in
theorem rof_any (w : World) (B : Nat) (v : Value) (zs : List Int) (n : Nat) (h1 : 1 ≤ n) (h2 : n ≤ 64) (hB : B ≤ w.heap.size) (hr : RdV w B v (iv .i64 zs)) (hz : ∀ z ∈ zs, (Lit.int .i64 z).wf = true) :
    Calls Try.prog 53 #[.int .i64 n, v] w (ROfP n zs w) := by
  have hrr := hr
  obtain ⟨A, c, rfl, hc1, hc2, hc3⟩ := hr
  rw [iv_length] at hc1 hc3 hrr ⊢
  clear hc3
  unfold maxLen at hc2
  have hnew := rnew_yes n h1 h2 w
  have hp2 : 2 ^ n ≤ 18446744073709551616 := Nat.pow_le_pow_right (n := 2) (by decide) (show n ≤ 64 from h2)
  have HP2 := Lib.hid hp2
  have HN := Lib.hid hnew
  have HR := Lib.hid hrr
  have HZ := Lib.hid hz
  clear hnew hrr hz hp2
  go_enter Try.func53, Try.ntmps53
  go_wp2_with fail
  refine HN.out.mono ?_
  rintro e w1 ⟨k, g, rfl, hx1, hg1, hb1⟩
  have HX1 := Lib.hid hx1
  clear hx1
  go_wp2_with fail
  go_loopw [8] (fun i wr => ∃ j b : Nat, j ≤ zs.length ∧ i = .int .i64 j ∧ Hid (b < 2 ^ n) ∧ RBox wr k g n b ∧ Below w.heap.size w wr ∧ Hid (ofGo n 0 zs = ofGo n b (zs.drop j))) (fun i _ => zs.length - (intOf i).toNat)
  case atStart => exact ⟨0, 0, by omega, rfl, Lib.hid (Nat.two_pow_pos n), HX1.out, hb1, Lib.hid rfl⟩
  case round =>
    obtain ⟨j, b, hj, rfl, HL, hx, hbel, HO⟩ := hrel
    have hb64 : b < 18446744073709551616 := Nat.lt_of_lt_of_le HL.out HP2.out
    by_cases hlt : j < zs.length
    · have hwf := HZ.out zs[j] (List.getElem_mem hlt)
      have hcons := ofGo_cons (n := n) (b := b) hlt
      rw [← HO.out] at hcons
      obtain ⟨bq, oq, rfl, hbq, hcq⟩ := RdV.get (HR.out.below' hbel hB) (j := j) (u := .int .i64 zs[j]) (by rw [iv_get, List.getElem?_eq_getElem hlt]; rfl)
      have hzr : -9223372036854775808 ≤ zs[j] ∧ zs[j] ≤ 9223372036854775807 := by simpa [Lit.wf, IntKind.min, IntKind.max, IntKind.signed, IntKind.bits] using hwf
      generalize zs[j] = z at *
      clear hwf
      by_cases hz0 : z < 0
      · have hfin : ∀ q, ROfP n zs w (.returned (.tuple #[.pointer none, .int .i64 1])) (wr.drewN q) := fun q => ⟨Or.inl ⟨by rw [hcons, if_pos (Or.inl hz0)], rfl⟩, belowN hbel q⟩
        have HF := Lib.hid hfin
        have y1 : decide (z < 0) = yesO := by simp [hz0]
        clear hfin hcons
        go_wp2
        go_quiet (fail)
        go_wp2
        go_ret2
        exact HF.out _
      · by_cases hzn : (n : Int) ≤ z
        · have hfin : ∀ q, ROfP n zs w (.returned (.tuple #[.pointer none, .int .i64 1])) (wr.drewN q) := fun q => ⟨Or.inl ⟨by rw [hcons, if_pos (Or.inr (Or.inl hzn))], rfl⟩, belowN hbel q⟩
          have HF := Lib.hid hfin
          have y1 : decide (z < 0) = false := by simp [hz0]
          have y2 : decide ((n : Int) ≤ z) = yesO := by simp [hzn]
          clear hfin hcons
          go_wp2
          go_quiet (fail)
          go_wp2
          go_ret2
          exact HF.out _
        · obtain ⟨p, rfl⟩ := Int.eq_ofNat_of_zero_le (show 0 ≤ z by omega)
          rw [Int.toNat_natCast] at hcons
          have hpn : p < n := by omega
          have y1 : decide ((p : Int) < 0) = false := by simp
          have y2 : decide ((n : Int) ≤ (p : Int)) = false := by simp; omega
          have c0 := hx.top
          have c1 := hx.at_ p hpn
          cases ht : Pm.hb b p with
          | true =>
            rw [ht] at c1
            have hfin : ∀ q, ROfP n zs w (.returned (.tuple #[.pointer none, .int .i64 1])) (wr.drewN q) := fun q => ⟨Or.inl ⟨by rw [hcons, if_pos (Or.inr (Or.inr ht))], rfl⟩, belowN hbel q⟩
            have HF := Lib.hid hfin
            clear hfin hcons ht hx
            go_wp2
            go_quiet (fail)
            go_wp2
            go_ret2
            exact HF.out _
          | false =>
            rw [ht] at c1
            have hgo : ofGo n 0 zs = ofGo n (Pm.put b p) (zs.drop (j + 1)) := by rw [hcons, if_neg (by rw [ht]; simp; omega)]
            have f1 := hx.free p
            have hst : ∀ q, RBox ((wr.drewN q).setCell ⟨g, p, none⟩ (.bool true)) k g n (Pm.put b p) := fun q => RBox.store (w := wr.drewN q) hx p true (arr_put n b p)
            have hpl := Pm.put_lt HL.out hpn
            have HG := Lib.hid hgo
            have HS := Lib.hid hst
            have HPL := Lib.hid hpl
            clear hcons ht hgo hst hpl hx
            go_wp2
            go_quiet (fail)
            go_wp2
            first
              | go_region_with (fail)
              | fail
            all_goals go_wp2
            all_goals
              go_roundw
              case rel => exact ⟨j + 1, Pm.put b p, by omega, by go_num, HPL, HS.out _, belowSetAt (belowN hbel _) hg1 _ _, HG⟩
              case measure => simp [intOf]; omega
    · have hend : ofGo n 0 zs = some b := by rw [HO.out, List.drop_of_length_le (by omega)]; rfl
      have hfin : ROfP n zs w (.returned (.tuple #[.pointer (some ⟨k, 0, none⟩), .int .i64 0])) wr := ⟨Or.inr ⟨b, k, g, hend, rfl, hx, hg1, HL.out⟩, hbel⟩
      have HF := Lib.hid hfin
      clear hfin hend
      go_wp2
      go_ret2
      exact HF.out
end Go.Proofs.Ytlbodandidopfaa
