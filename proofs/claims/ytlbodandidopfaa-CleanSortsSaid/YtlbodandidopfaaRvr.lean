/- Contracts of ints.ReadVar and ints.Zag, and of the document's own. Conditions: the rows are shorter than 2^32. -/
import Derived.Test.YtlbodandidopfaaPv
import Derived.Test.YtlbodandidopfaaInm
namespace Go.Proofs.Ytlbodandidopfaa
open Go.ChangeShapes Go.WideShapes Go.ChangeAt Go.RowKit
set_option linter.unusedSimpArgs false
set_option linter.unusedVariables false
theorem zag_any (a : Int) (h0 : 0 ≤ a) (h1 : a ≤ 18446744073709551615) (w : World) : Calls Try.prog 106 #[.int .u64 a] w fun e w' => e = .returned (.int .i64 (Pu.zag a)) ∧ w = w' := by
  go_enter Try.func106, Try.ntmps106
  go_wp2
  go_ret
  exact ⟨ret_int (Pu.bits_zag a h0 h1), rfl⟩

theorem rzag_any (a : Int) (h0 : 0 ≤ a) (h1 : a ≤ 18446744073709551615) (w : World) : Calls Try.prog 99 #[.int .u64 a] w fun e w' => e = .returned (.int .i64 (Pu.zag a)) ∧ w = w' := by
  go_enter Try.func99, Try.ntmps99
  by_cases hn : a % 2 = 1 <;> (go_wp2; go_ret; refine ⟨ret_int ?_, rfl⟩; unfold Pu.zag; simp [hn])

def RvRel (l : List UInt8) (u i : Value) : Prop := ∃ k x : Nat, k ≤ Pu.cont l ∧ x < 18446744073709551616 ∧ (k ≤ 9 → x = Pu.le128 (l.take k)) ∧ i = .int .i64 k ∧ u = .int .u64 x

set_option maxRecDepth 100000 in
set_option maxHeartbeats 1000000 in
theorem readvar_any (vb : Value) (l : List UInt8) (hl : l.length < 4294967296) (w : World) (B : Nat) (hr : RdV w B vb (bv l)) :
    Calls Try.prog 105 #[vb] w fun e w' => e = .returned (.tuple #[.int .u64 (Pu.rvV l : Nat), .int .i64 (Pu.rvN l : Nat), .int .i64 (Pu.rvE l : Nat)]) ∧ w = w' := by
  obtain ⟨A, c, rfl, hc1, hc2, hc3⟩ := id hr
  rw [bv_length] at hc1 hc3 hr ⊢
  clear hc3
  have hcl := Pu.cont_le l
  obtain ⟨hcl1, hcl2⟩ := hcl
  go_enter Try.func105, Try.ntmps105
  go_wp2
  go_loop [5, 7] (fun u i => RvRel l u i) (fun _ i => 10 - (intOf i).toNat)
  case atStart => exact ⟨0, 0, by omega, by omega, fun _ => rfl, rfl, rfl⟩
  case round =>
    obtain ⟨k, x, hk, hx64, hx, rfl, rfl⟩ := hrel
    have HX := Lib.hid hx
    clear hx
    by_cases h10 : k = 10
    · subst h10
      have E0 : Hid (Pu.rvE l = 22) := by show _ = _; unfold Pu.rvE; rw [if_pos (by omega)]
      have E1 : Hid (Pu.rvV l = 0) := by show _ = _; unfold Pu.rvV; rw [E0.out]; rfl
      have E2 : Hid (Pu.rvN l = 0) := by show _ = _; unfold Pu.rvN; rw [E0.out]; rfl
      go_wp2
      go_ret3
      exact ⟨by rw [E0.out, E1.out, E2.out]; rfl, rfl⟩
    · have hk10 : k < 10 := by omega
      by_cases hkl : k = l.length
      · have E0 : Hid (Pu.rvE l = 21) := by show _ = _; unfold Pu.rvE; rw [if_neg (by omega), if_pos (by omega)]
        have E1 : Hid (Pu.rvV l = 0) := by show _ = _; unfold Pu.rvV; rw [E0.out]; rfl
        have E2 : Hid (Pu.rvN l = 0) := by show _ = _; unfold Pu.rvN; rw [E0.out]; rfl
        have t0 : ((k : Int) == (l.length : Int)) = true := by rw [beq_iff_eq]; omega
        clear hkl h10
        go_wp2
        go_ret3
        exact ⟨by rw [E0.out, E1.out, E2.out]; rfl, rfl⟩
      · have hkl2 : k < l.length := by omega
        have t0 : ((k : Int) == (l.length : Int)) = false := by rw [beq_eq_false_iff_ne]; omega
        obtain ⟨b, off, rfl, hbB, hcell⟩ := hr.get (j := k) (u := .int .u8 (l[k].toNat : Int)) (by rw [bv_get, List.getElem?_eq_getElem hkl2]; rfl)
        have hb := (l[k]).toNat_lt
        have hon : k < Pu.cont l → 128 ≤ l[k].toNat := fun h => Pu.cont_on l k h hkl2
        have hoff : k = Pu.cont l → l[k].toNat < 128 := fun h => by subst h; exact Pu.cont_off l (by omega) hkl2
        have hgd : l.getD k 0 = l[k] := by simp [List.getD, List.getElem?_eq_getElem hkl2]
        have htk := Pu.le128_take l k hkl2
        have hy0 : l[k] = 0 ↔ l[k].toNat = 0 := ⟨fun h => by rw [h]; rfl, fun h => by rw [← UInt8.toNat_inj]; exact h⟩
        have hlt7 : k ≤ 9 → x < 2 ^ (7 * k) := fun h => by
          have := Pu.le128_lt (l.take k)
          rw [List.length_take, Nat.min_eq_left (by omega), show 128 ^ k = 2 ^ (7 * k) from by rw [Nat.pow_mul]] at this
          rw [HX.out h]; exact this
        have HL := Lib.hid hlt7
        generalize hY : (l[k]).toNat = y at *
        have HY := Lib.hid hY
        have HT := Lib.hid htk
        have HG := Lib.hid hgd
        have HY0 := Lib.hid hy0
        have hand : bits .and .u8 (y : Int) 127 = ((y % 128 : Nat) : Int) := Pu.u8_and127 y hb
        generalize hZ : y % 128 = z at *
        have hz : z < 128 := by omega
        have HZ := Lib.hid hZ
        obtain ⟨x', hor, hx', hxs⟩ := Pu.or_any x z k hx64
        have HS := Lib.hid hxs
        clear hY hZ hkl h10 htk hgd hy0 hlt7 hxs
        by_cases hge : 128 ≤ y
        · have hk1 : k + 1 ≤ Pu.cont l := by
            rcases Nat.lt_or_ge k (Pu.cont l) with h | h
            · omega
            · have := hoff (by omega); omega
          clear hon hoff
          go_wp2
          go_round
          case rel => exact ⟨k + 1, x', hk1, hx', fun h9 => by rw [HS.out (HL.out (by omega)) (Or.inl ⟨by omega, hz⟩), HX.out (by omega)]; have := HT.out; rw [this], by go_num, rfl⟩
          case measure => simp [intOf]; omega
        · have hk1 : k = Pu.cont l := by
            rcases Nat.lt_or_ge k (Pu.cont l) with h | h
            · have := hon h; omega
            · omega
          have HC := Lib.hid hk1
          clear hon hoff hk1
          by_cases hbad : (0 < k ∧ y = 0) ∨ (k = 9 ∧ 1 < y)
          · have E0 : Hid (Pu.rvE l = 22) := by
              show _ = _
              unfold Pu.rvE
              rw [if_neg (by have := HC.out; omega), if_neg (by have := HC.out; omega), ← HC.out, HG.out]
              rw [if_pos]
              rcases hbad with ⟨h1, h2⟩ | ⟨h1, h2⟩
              · exact Or.inl ⟨h1, HY0.out.2 h2⟩
              · exact Or.inr ⟨h1, by rw [HY.out]; exact h2⟩
            have E1 : Hid (Pu.rvV l = 0) := by show _ = _; unfold Pu.rvV; rw [E0.out]; rfl
            have E2 : Hid (Pu.rvN l = 0) := by show _ = _; unfold Pu.rvN; rw [E0.out]; rfl
            rcases hbad with ⟨h1, rfl⟩ | ⟨rfl, h2⟩
            · go_wp2
              go_ret3
              exact ⟨by rw [E0.out, E1.out, E2.out]; rfl, rfl⟩
            · have t1 : ((y : Int) == 0) = false := by rw [beq_eq_false_iff_ne]; omega
              go_wp2
              go_ret3
              exact ⟨by rw [E0.out, E1.out, E2.out]; rfl, rfl⟩
          · have E0 : Hid (Pu.rvE l = 0) := by
              show _ = _
              unfold Pu.rvE
              rw [if_neg (by have := HC.out; omega), if_neg (by have := HC.out; omega), ← HC.out, HG.out]
              rw [if_neg]
              rintro (⟨h1, h2⟩ | ⟨h1, h2⟩)
              · exact hbad (Or.inl ⟨h1, HY0.out.1 h2⟩)
              · exact hbad (Or.inr ⟨h1, by rw [HY.out] at h2; exact h2⟩)
            have E1 : Hid (Pu.rvV l = x') := by
              show _ = _
              unfold Pu.rvV
              rw [if_pos E0.out, ← HC.out, HT.out, HS.out (HL.out (by omega)) (by have := HZ.out; omega), HX.out (by omega)]
            have E2 : Hid (Pu.rvN l = k + 1) := by show _ = _; unfold Pu.rvN; rw [if_pos E0.out, ← HC.out]
            by_cases hk0 : 0 < k
            · have t1 : ((y : Int) == 0) = false := by rw [beq_eq_false_iff_ne]; omega
              by_cases hk9 : k = 9
              · have t2 : ¬ (1 < y) := by omega
                have t3 : ((k : Int) == 9) = true := by rw [beq_iff_eq]; omega
                clear hbad hk9
                go_wp2
                go_ret3
                exact ⟨by rw [E0.out, E1.out, E2.out]; rfl, rfl⟩
              · have t2 : ((k : Int) == 9) = false := by rw [beq_eq_false_iff_ne]; omega
                clear hbad
                go_wp2
                go_ret3
                exact ⟨by rw [E0.out, E1.out, E2.out]; rfl, rfl⟩
            · have t2 : ((k : Int) == 9) = false := by rw [beq_eq_false_iff_ne]; omega
              clear hbad
              go_wp2
              go_ret3
              exact ⟨by rw [E0.out, E1.out, E2.out]; rfl, rfl⟩

set_option maxRecDepth 100000 in
set_option maxHeartbeats 1000000 in
theorem rreadvar_any (vb : Value) (l : List UInt8) (hl : l.length < 4294967296) (w : World) (B : Nat) (hr : RdV w B vb (bv l)) :
    Calls Try.prog 97 #[vb] w fun e w' => e = .returned (.tuple #[.int .u64 (Pu.rvV l : Nat), .int .i64 (Pu.rvN l : Nat), .int .i64 (Pu.rvE l : Nat)]) ∧ w = w' := by
  obtain ⟨A, c, rfl, hc1, hc2, hc3⟩ := id hr
  rw [bv_length] at hc1 hc3 hr ⊢
  clear hc3
  have hcl := Pu.cont_le l
  obtain ⟨hcl1, hcl2⟩ := hcl
  go_enter Try.func97, Try.ntmps97
  go_wp2
  go_loop [5] (fun i => ∃ k : Nat, k ≤ Pu.cont l ∧ i = .int .i64 k) (fun i => 10 - (intOf i).toNat)
  case atStart => exact ⟨0, by omega, rfl⟩
  case round =>
    obtain ⟨k, hk, rfl⟩ := hrel
    by_cases hkc : k < Pu.cont l
    · have hkl2 : k < l.length := by omega
      obtain ⟨b, off, rfl, hbB, hcell⟩ := hr.get (j := k) (u := .int .u8 (l[k].toNat : Int)) (by rw [bv_get, List.getElem?_eq_getElem hkl2]; rfl)
      have hb := (l[k]).toNat_lt
      have hon : 128 ≤ l[k].toNat := Pu.cont_on l k hkc hkl2
      generalize hY : (l[k]).toNat = y at *
      have HY := Lib.hid hY
      clear hY
      go_wp2
      go_round
      case rel => exact ⟨k + 1, by omega, by go_num⟩
      case measure => simp [intOf]; omega
    · have hke : k = Pu.cont l := by omega
      have HC := Lib.hid hke
      clear hke hkc
      by_cases h10 : 10 ≤ k
      · have E0 : Hid (Pu.rvE l = 22) := by show _ = _; unfold Pu.rvE; rw [if_pos (by have := HC.out; omega)]
        have E1 : Hid (Pu.rvV l = 0) := by show _ = _; unfold Pu.rvV; rw [E0.out]; rfl
        have E2 : Hid (Pu.rvN l = 0) := by show _ = _; unfold Pu.rvN; rw [E0.out]; rfl
        have t3 : ((k : Int) == 10) = true := by rw [beq_iff_eq]; omega
        by_cases hkl : k < l.length
        · go_wp2
          go_ret3
          exact ⟨by rw [E0.out, E1.out, E2.out]; rfl, rfl⟩
        · go_wp2
          go_ret3
          exact ⟨by rw [E0.out, E1.out, E2.out]; rfl, rfl⟩
      · have t3 : ((k : Int) == 10) = false := by rw [beq_eq_false_iff_ne]; omega
        by_cases hkl : l.length ≤ k
        · have E0 : Hid (Pu.rvE l = 21) := by show _ = _; unfold Pu.rvE; rw [if_neg (by have := HC.out; omega), if_pos (by have := HC.out; omega)]
          have E1 : Hid (Pu.rvV l = 0) := by show _ = _; unfold Pu.rvV; rw [E0.out]; rfl
          have E2 : Hid (Pu.rvN l = 0) := by show _ = _; unfold Pu.rvN; rw [E0.out]; rfl
          have t0 : ((k : Int) == (l.length : Int)) = true := by rw [beq_iff_eq]; omega
          go_wp2
          go_ret3
          exact ⟨by rw [E0.out, E1.out, E2.out]; rfl, rfl⟩
        · have hkl2 : k < l.length := by omega
          have t0 : ((k : Int) == (l.length : Int)) = false := by rw [beq_eq_false_iff_ne]; omega
          obtain ⟨b, off, rfl, hbB, hcell⟩ := hr.get (j := k) (u := .int .u8 (l[k].toNat : Int)) (by rw [bv_get, List.getElem?_eq_getElem hkl2]; rfl)
          have hb := (l[k]).toNat_lt
          have hoff : l[k].toNat < 128 := by have h := HC.out; subst h; exact Pu.cont_off l (by omega) hkl2
          have hgd : l.getD k 0 = l[k] := by simp [List.getD, List.getElem?_eq_getElem hkl2]
          have hy0 : l[k] = 0 ↔ l[k].toNat = 0 := ⟨fun h => by rw [h]; rfl, fun h => by rw [← UInt8.toNat_inj]; exact h⟩
          have htop := fun (j d : Nat) => Pu.le128_top l k j d hkl2
          generalize hY : (l[k]).toNat = y at *
          have HY := Lib.hid hY
          have HG := Lib.hid hgd
          have HY0 := Lib.hid hy0
          have HTop := Lib.hid htop
          clear hY hgd hy0 hkl htop
          by_cases hbad : (0 < k ∧ y = 0) ∨ (k = 9 ∧ 1 < y)
          · have E0 : Hid (Pu.rvE l = 22) := by
              show _ = _
              unfold Pu.rvE
              rw [if_neg (by have := HC.out; omega), if_neg (by have := HC.out; omega), ← HC.out, HG.out]
              rw [if_pos]
              rcases hbad with ⟨h1, h2⟩ | ⟨h1, h2⟩
              · exact Or.inl ⟨h1, HY0.out.2 h2⟩
              · exact Or.inr ⟨h1, by rw [HY.out]; exact h2⟩
            have E1 : Hid (Pu.rvV l = 0) := by show _ = _; unfold Pu.rvV; rw [E0.out]; rfl
            have E2 : Hid (Pu.rvN l = 0) := by show _ = _; unfold Pu.rvN; rw [E0.out]; rfl
            rcases hbad with ⟨h1, rfl⟩ | ⟨h1, h2⟩
            · go_wp2
              go_ret3
              exact ⟨by rw [E0.out, E1.out, E2.out]; rfl, rfl⟩
            · have t1 : ((y : Int) == 0) = false := by rw [beq_eq_false_iff_ne]; omega
              have t2 : ((k : Int) == 9) = true := by rw [beq_iff_eq]; omega
              have t4 : 0 < k := by omega
              clear h1
              go_wp2
              go_ret3
              exact ⟨by rw [E0.out, E1.out, E2.out]; rfl, rfl⟩
          · have E0 : Hid (Pu.rvE l = 0) := by
              show _ = _
              unfold Pu.rvE
              rw [if_neg (by have := HC.out; omega), if_neg (by have := HC.out; omega), ← HC.out, HG.out]
              rw [if_neg]
              rintro (⟨h1, h2⟩ | ⟨h1, h2⟩)
              · exact hbad (Or.inl ⟨h1, HY0.out.1 h2⟩)
              · exact hbad (Or.inr ⟨h1, by rw [HY.out] at h2; exact h2⟩)
            have E1 : Hid (Pu.rvV l = Pu.le128 (l.take (k + 1))) := by
              show _ = _
              unfold Pu.rvV
              rw [if_pos E0.out, ← HC.out]
            have E2 : Hid (Pu.rvN l = k + 1) := by show _ = _; unfold Pu.rvN; rw [if_pos E0.out, ← HC.out]
            have hroom : ∀ j, j ≤ k → Pu.le128 ((l.take (k + 1)).drop j) < 2 * 128 ^ (9 - j) := by
              intro j hj
              by_cases h9 : k = 9
              · have := HTop.out j 1 hj (by rw [Nat.mod_eq_of_lt hoff]; omega)
                rw [h9] at this
                rw [h9]
                exact this
              · have h1 := Pu.le128_lt ((l.take (k + 1)).drop j)
                have h2 : 128 ^ ((l.take (k + 1)).drop j).length ≤ 128 ^ (9 - j) := Nat.pow_le_pow_right (by omega) (by rw [List.length_drop, List.length_take]; omega)
                omega
            have HR := Lib.hid hroom
            clear hroom
            have hk0' : ∀ P : Prop, (0 < k → ((y : Int) == 0) = false → P) → (k = 0 → P) → P := fun P h1 h2 => by
              rcases Nat.eq_zero_or_pos k with h | h
              · exact h2 h
              · exact h1 h (by rw [beq_eq_false_iff_ne]; omega)
            have HK0 := Lib.hid hk0'
            clear hk0'
            by_cases hk0 : 0 < k
            · have t1 : ((y : Int) == 0) = false := by rw [beq_eq_false_iff_ne]; omega
              by_cases hk9 : 9 ≤ k
              · have t2 : ¬ (1 < y) := by omega
                have t4 : ((k : Int) == 9) = true := by rw [beq_iff_eq]; omega
                clear hbad
                go_wp2
                go_loop [6, 7] (fun u i => ∃ j : Nat, j ≤ k + 1 ∧ i = .int .i64 ((j : Int) - 1) ∧ u = .int .u64 (Pu.le128 ((l.take (k + 1)).drop j) : Nat)) (fun _ i => (intOf i + 1).toNat)
                case atStart => exact ⟨k + 1, by omega, by go_num, by rw [List.drop_eq_nil_of_le (by rw [List.length_take]; omega)]; rfl⟩
                case round =>
                  obtain ⟨j, hj, rfl, rfl⟩ := hrel
                  by_cases hlt : 0 < j
                  · obtain ⟨i, rfl⟩ : ∃ i, j = i + 1 := ⟨j - 1, by omega⟩
                    have hil : i < l.length := by omega
                    obtain ⟨b', off', hbo, hbB', hcell'⟩ := hr.get (j := i) (u := .int .u8 (l[i].toNat : Int)) (by rw [bv_get, List.getElem?_eq_getElem hil]; rfl)
                    injection hbo with hbo
                    injection hbo with hbo1 hbo2 _
                    subst hbo1 hbo2
                    have hb' := (l[i]).toNat_lt
                    have hd := Pu.le128_drop (l.take (k + 1)) i (by rw [List.length_take]; omega)
                    rw [List.getElem_take] at hd
                    have hnow := HR.out i (by omega)
                    have hnow2 : 128 ^ (9 - i) ≤ 128 ^ 9 := Nat.pow_le_pow_right (by omega) (by omega)
                    have hnow3 : Pu.le128 ((l.take (k + 1)).drop i) < 18446744073709551616 := by omega
                    rw [hd] at hnow3
                    clear hnow hnow2
                    generalize hX2 : (l[i]).toNat = x2 at *
                    generalize hV2 : Pu.le128 ((l.take (k + 1)).drop (i + 1)) = v2 at *
                    have HD := Lib.hid hd
                    have HX2 := Lib.hid hX2
                    have HV2 := Lib.hid hV2
                    clear hd hX2 hV2
                    rw [show (((i + 1 : Nat) : Int) - 1) = (i : Int) from by omega]
                    go_wp2
                    go_round
                    case rel => exact ⟨i, by omega, by go_num, by rw [HD.out]; go_num⟩
                    case measure => simp [intOf]
                  · obtain rfl : j = 0 := by omega
                    go_wp2
                    go_ret3
                    exact ⟨by rw [E0.out, E1.out, E2.out]; rfl, rfl⟩
              · have t2 : ((k : Int) == 9) = false := by rw [beq_eq_false_iff_ne]; omega
                clear hbad
                go_wp2
                go_loop [6, 7] (fun u i => ∃ j : Nat, j ≤ k + 1 ∧ i = .int .i64 ((j : Int) - 1) ∧ u = .int .u64 (Pu.le128 ((l.take (k + 1)).drop j) : Nat)) (fun _ i => (intOf i + 1).toNat)
                case atStart => exact ⟨k + 1, by omega, by go_num, by rw [List.drop_eq_nil_of_le (by rw [List.length_take]; omega)]; rfl⟩
                case round =>
                  obtain ⟨j, hj, rfl, rfl⟩ := hrel
                  by_cases hlt : 0 < j
                  · obtain ⟨i, rfl⟩ : ∃ i, j = i + 1 := ⟨j - 1, by omega⟩
                    have hil : i < l.length := by omega
                    obtain ⟨b', off', hbo, hbB', hcell'⟩ := hr.get (j := i) (u := .int .u8 (l[i].toNat : Int)) (by rw [bv_get, List.getElem?_eq_getElem hil]; rfl)
                    injection hbo with hbo
                    injection hbo with hbo1 hbo2 _
                    subst hbo1 hbo2
                    have hb' := (l[i]).toNat_lt
                    have hd := Pu.le128_drop (l.take (k + 1)) i (by rw [List.length_take]; omega)
                    rw [List.getElem_take] at hd
                    have hnow := HR.out i (by omega)
                    have hnow2 : 128 ^ (9 - i) ≤ 128 ^ 9 := Nat.pow_le_pow_right (by omega) (by omega)
                    have hnow3 : Pu.le128 ((l.take (k + 1)).drop i) < 18446744073709551616 := by omega
                    rw [hd] at hnow3
                    clear hnow hnow2
                    generalize hX2 : (l[i]).toNat = x2 at *
                    generalize hV2 : Pu.le128 ((l.take (k + 1)).drop (i + 1)) = v2 at *
                    have HD := Lib.hid hd
                    have HX2 := Lib.hid hX2
                    have HV2 := Lib.hid hV2
                    clear hd hX2 hV2
                    rw [show (((i + 1 : Nat) : Int) - 1) = (i : Int) from by omega]
                    go_wp2
                    go_round
                    case rel => exact ⟨i, by omega, by go_num, by rw [HD.out]; go_num⟩
                    case measure => simp [intOf]
                  · obtain rfl : j = 0 := by omega
                    go_wp2
                    go_ret3
                    exact ⟨by rw [E0.out, E1.out, E2.out]; rfl, rfl⟩
            · have t2 : ((k : Int) == 9) = false := by rw [beq_eq_false_iff_ne]; omega
              clear hbad
              go_wp2
              go_loop [6, 7] (fun u i => ∃ j : Nat, j ≤ k + 1 ∧ i = .int .i64 ((j : Int) - 1) ∧ u = .int .u64 (Pu.le128 ((l.take (k + 1)).drop j) : Nat)) (fun _ i => (intOf i + 1).toNat)
              case atStart => exact ⟨k + 1, by omega, by go_num, by rw [List.drop_eq_nil_of_le (by rw [List.length_take]; omega)]; rfl⟩
              case round =>
                obtain ⟨j, hj, rfl, rfl⟩ := hrel
                by_cases hlt : 0 < j
                · obtain ⟨i, rfl⟩ : ∃ i, j = i + 1 := ⟨j - 1, by omega⟩
                  have hil : i < l.length := by omega
                  obtain ⟨b', off', hbo, hbB', hcell'⟩ := hr.get (j := i) (u := .int .u8 (l[i].toNat : Int)) (by rw [bv_get, List.getElem?_eq_getElem hil]; rfl)
                  injection hbo with hbo
                  injection hbo with hbo1 hbo2 _
                  subst hbo1 hbo2
                  have hb' := (l[i]).toNat_lt
                  have hd := Pu.le128_drop (l.take (k + 1)) i (by rw [List.length_take]; omega)
                  rw [List.getElem_take] at hd
                  have hnow := HR.out i (by omega)
                  have hnow2 : 128 ^ (9 - i) ≤ 128 ^ 9 := Nat.pow_le_pow_right (by omega) (by omega)
                  have hnow3 : Pu.le128 ((l.take (k + 1)).drop i) < 18446744073709551616 := by omega
                  rw [hd] at hnow3
                  clear hnow hnow2
                  generalize hX2 : (l[i]).toNat = x2 at *
                  generalize hV2 : Pu.le128 ((l.take (k + 1)).drop (i + 1)) = v2 at *
                  have HD := Lib.hid hd
                  have HX2 := Lib.hid hX2
                  have HV2 := Lib.hid hV2
                  clear hd hX2 hV2
                  rw [show (((i + 1 : Nat) : Int) - 1) = (i : Int) from by omega]
                  go_wp2
                  go_round
                  case rel => exact ⟨i, by omega, by go_num, by rw [HD.out]; go_num⟩
                  case measure => simp [intOf]
                · obtain rfl : j = 0 := by omega
                  go_wp2
                  go_ret3
                  exact ⟨by rw [E0.out, E1.out, E2.out]; rfl, rfl⟩
end Go.Proofs.Ytlbodandidopfaa
