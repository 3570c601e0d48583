/- Contract of the document's own Burst: bit by bit. Conditions: the row is shorter than 2^30. -/
import Derived.Test.YtclenafidfpinaaDoorCrb
import Derived.Test.YtclenafidfpinaaDoorPg
import Derived.Deep.DeepCutAuto
namespace Go.Proofs.YtclenafidfpinaaDoor
open Go.ChangeShapes Go.WideShapes Go.ChangeAt Go.RowKit
set_option linter.unusedSimpArgs false
set_option linter.unusedVariables false
theorem eb_bit (n p j b : Nat) : (eb n p j).testBit b = (decide (b < 8) && (decide (n ≤ 8 * j + b) && p.testBit (8 * j + b - n))) := by
  by_cases h : n / 8 ≤ j
  · rw [eb_at n p j h, show (256 : Nat) = 2 ^ 8 from rfl, ← Nat.pow_mul, Nat.testBit_mod_two_pow, Nat.testBit_div_two_pow, Nat.testBit_mul_two_pow]
    congr 1
    have e1 : (n % 8 ≤ b + 8 * (j - n / 8)) ↔ (n ≤ 8 * j + b) := by omega
    have e2 : b + 8 * (j - n / 8) - n % 8 = 8 * j + b - n := by omega
    rw [e2]
    congr 1
    exact decide_eq_decide.2 e1
  · have : eb n p j = 0 := by unfold eb; rw [if_neg (by omega)]
    rw [this, Nat.zero_testBit]
    by_cases hb : b < 8
    · have : ¬ n ≤ 8 * j + b := by omega
      simp [this]
    · simp [hb]
theorem eb_succ (n p i j : Nat) (h : p.testBit i = true) : eb n (p % 2 ^ (i + 1)) j = eb n (p % 2 ^ i) j ^^^ (if j = (n + i) / 8 then 2 ^ ((n + i) % 8) else 0) := by
  apply Nat.eq_of_testBit_eq
  intro b
  rw [Nat.testBit_xor, eb_bit, eb_bit, Nat.testBit_mod_two_pow, Nat.testBit_mod_two_pow]
  by_cases hb : b < 8
  · by_cases hn : n ≤ 8 * j + b
    · rcases Nat.lt_trichotomy (8 * j + b - n) i with h1 | h1 | h1
      · have h2 : ¬ (j = (n + i) / 8 ∧ b = (n + i) % 8) := by omega
        have h3 : (if j = (n + i) / 8 then 2 ^ ((n + i) % 8) else 0).testBit b = false := by
          split
          · next hj => rw [Nat.testBit_two_pow]; simp; omega
          · exact Nat.zero_testBit b
        rw [h3]; simp [hb, hn, h1, show 8 * j + b - n < i + 1 from by omega]
      · have hj : j = (n + i) / 8 := by omega
        have hbr : b = (n + i) % 8 := by omega
        rw [if_pos hj, Nat.testBit_two_pow, h1, h]
        simp [hb, hn, hbr]; omega
      · have h3 : (if j = (n + i) / 8 then 2 ^ ((n + i) % 8) else 0).testBit b = false := by
          split
          · next hj => rw [Nat.testBit_two_pow]; simp; omega
          · exact Nat.zero_testBit b
        rw [h3]; simp [show ¬ 8 * j + b - n < i from by omega, show ¬ 8 * j + b - n < i + 1 from by omega]
    · have h3 : (if j = (n + i) / 8 then 2 ^ ((n + i) % 8) else 0).testBit b = false := by
        split
        · next hj => rw [Nat.testBit_two_pow]; simp; omega
        · exact Nat.zero_testBit b
      rw [h3]; simp [hn]
  · have h3 : (if j = (n + i) / 8 then 2 ^ ((n + i) % 8) else 0).testBit b = false := by
      split
      · next hj => rw [Nat.testBit_two_pow]; simp; omega
      · exact Nat.zero_testBit b
    rw [h3]; simp [hb]
theorem eb_skip (n p i j : Nat) (h : p.testBit i = false) : eb n (p % 2 ^ (i + 1)) j = eb n (p % 2 ^ i) j := by
  apply Nat.eq_of_testBit_eq
  intro b
  rw [eb_bit, eb_bit, Nat.testBit_mod_two_pow, Nat.testBit_mod_two_pow]
  rcases Nat.lt_trichotomy (8 * j + b - n) i with h1 | h1 | h1
  · simp [h1, show 8 * j + b - n < i + 1 from by omega]
  · rw [h1, h]; simp
  · simp [show ¬ 8 * j + b - n < i from by omega, show ¬ 8 * j + b - n < i + 1 from by omega]
theorem eb_end (n p i j : Nat) (h : 8 * (j + 1) ≤ n + i) : eb n (p % 2 ^ i) j = eb n p j := by
  apply Nat.eq_of_testBit_eq
  intro b
  rw [eb_bit, eb_bit, Nat.testBit_mod_two_pow]
  by_cases hb : b < 8
  · by_cases hn : n ≤ 8 * j + b
    · simp [hb, hn, show 8 * j + b - n < i from by omega]
    · simp [hn]
  · simp [hb]
theorem burst_same (l : List UInt8) (b : Int) (p q : Nat) (h : ∀ j, j < l.length → eb b p j = eb b q j) : burst l b p = burst l b q := by
  apply List.ext_getElem?
  intro j
  rw [burst_get, burst_get]
  rcases Nat.lt_or_ge j l.length with hj | hj
  · rw [h j hj]
  · rw [List.getElem?_eq_none hj]; rfl
theorem burst_out (l : List UInt8) (b : Int) (p : Nat) (h : b < 0 ∨ 8 * (l.length : Int) ≤ b) : burst l b p = l := by
  have h2 := burst_same l b p 0 (fun j hj => by rw [eb_zero]; unfold eb; rw [if_neg (by omega)])
  rw [h2, burst_zero]
theorem burst_step (l : List UInt8) (n p i : Nat) (h : p.testBit i = true) (hq : (n + i) / 8 < l.length) (y : UInt8) (hy : (burst l n (p % 2 ^ i))[(n + i) / 8]? = some y) :
    (bv (burst l n (p % 2 ^ i))).set ((n + i) / 8) (.int .u8 ((y.toNat ^^^ 2 ^ ((n + i) % 8) : Nat) : Int)) = bv (burst l n (p % 2 ^ (i + 1))) := by
  have hr : 2 ^ ((n + i) % 8) < 256 := Nat.pow_lt_pow_right (n := 8) (by decide) (show (n + i) % 8 < 8 by omega)
  apply List.ext_getElem?
  intro j
  rw [List.getElem?_set]
  by_cases hj : (n + i) / 8 = j
  · rw [if_pos hj, if_pos (by rw [bv_length, burst_length]; omega), bv_get, burst_get, ← hj, List.getElem?_eq_getElem hq]
    rw [burst_get, List.getElem?_eq_getElem hq] at hy
    injection hy with hy
    simp only [Option.map_some]
    rw [eb_succ n p i _ h, if_pos rfl, ← hy, xor_byte l[(n + i) / 8].toNat_lt (eb_lt _ _ _), ← Nat.xor_assoc, xor_byte (Nat.xor_lt_two_pow (n := 8) l[(n + i) / 8].toNat_lt (eb_lt _ _ _)) hr]
  · rw [if_neg hj, bv_get, bv_get, burst_get, burst_get, eb_succ n p i _ h, if_neg (fun e => hj e.symm), Nat.xor_zero]
theorem burst_skip (l : List UInt8) (n p i : Nat) (h : p.testBit i = false) : burst l n (p % 2 ^ (i + 1)) = burst l n (p % 2 ^ i) := burst_same l n _ _ (fun j _ => eb_skip n p i j h)
set_option maxRecDepth 100000 in
set_option maxHeartbeats 8000000 in
theorem rburst_any (vb : Value) (l : List UInt8) (bit : Int) (p : Nat) (b0 : -9223372036854775808 ≤ bit) (b1 : bit ≤ 9223372036854775807) (hp : p < 4294967296) (hl : l.length < 1073741824) (w : World) (B : Nat) (hB : B ≤ w.heap.size) (hr : RdV w B vb (bv l)) :
    Calls Tryd.prog 17 #[vb, .int .i64 bit, .int .u32 p] w (GivesB w.heap.size w (burst l bit p)) := by
  obtain ⟨A, c, rfl, hc1, hc2, hc3⟩ := id hr
  rw [bv_length] at hc1 hc3 hr ⊢
  clear hc3
  unfold maxLen at hc2
  have hE := Emp.new w 5
  have hr1 := hr.alloc hB (.cells #[] 5)
  have hb1 : Below w.heap.size w (w.alloc (.cells #[] 5)) := (Below.refl _ _).alloc (Nat.le_refl _) _
  by_cases hout : bit < 0 ∨ 8 * (l.length : Int) ≤ bit
  · rw [burst_out l bit p hout]
    rcases hout with hout | hout
    · go_enter Tryd.func17, Tryd.ntmps17
      go_wp2_with (at_builtin; refine wpList_append_rd _ rfl (.tmp 9) (.tmp 10) 23 rfl w.heap.size 5 (.int .u8 0) 1 Tryd.underlying23 Tryd.inf5 rfl _ 0 [] rfl (Emp.own hE (Nat.le_refl _)) _ rfl _ (bv l) hr1 (bv_one _) (by rw [bv_length]; omega) (by omega) (by simp) ?_; intro v2 w2 ho2 hg2' _; rw [List.nil_append, Nat.zero_add, bv_length] at ho2; have hg2 : (w.alloc (.cells #[] 5)).grownBy w2 (some w.heap.size) := hg2'; have hb2 : Below w.heap.size w w2 := hb1.grown hg2 (by simp) (by intro g hg; injection hg with hg; omega); clear hg2')
      go_ret
      exact ⟨v2, rfl, ho2, hb2⟩
    · have hp0 : 0 ≤ bit := by omega
      go_enter Tryd.func17, Tryd.ntmps17
      go_upto_region 2 with (at_builtin; refine wpList_append_rd _ rfl (.tmp 9) (.tmp 10) 23 rfl w.heap.size 5 (.int .u8 0) 1 Tryd.underlying23 Tryd.inf5 rfl _ 0 [] rfl (Emp.own hE (Nat.le_refl _)) _ rfl _ (bv l) hr1 (bv_one _) (by rw [bv_length]; omega) (by omega) (by simp) ?_; intro v2 w2 ho2 hg2' _; rw [List.nil_append, Nat.zero_add, bv_length] at ho2; have hg2 : (w.alloc (.cells #[] 5)).grownBy w2 (some w.heap.size) := hg2'; have hb2 : Below w.heap.size w w2 := hb1.grown hg2 (by simp) (by intro g hg; injection hg with hg; omega); clear hg2')
      have HO := Lib.hid ho2
      rcases Joins.ownsRow_forms ho2 with ⟨rfl, h0⟩ | ⟨g2, cap2, rfl⟩
      · rw [h0] at hout
        clear ho2 h0
        go_wp2
        go_ret
        exact ⟨_, rfl, HO.out, hb2⟩
      · clear ho2
        go_wp2
        go_ret
        exact ⟨_, rfl, HO.out, hb2⟩
  · obtain ⟨n, rfl⟩ := Int.eq_ofNat_of_zero_le (show 0 ≤ bit by omega)
    have hn8 : n < 8 * l.length := by omega
    have hlp : 0 < l.length := by omega
    clear hout
    go_enter Tryd.func17, Tryd.ntmps17
    go_wp2_with (at_builtin; refine wpList_append_rd _ rfl (.tmp 9) (.tmp 10) 23 rfl w.heap.size 5 (.int .u8 0) 1 Tryd.underlying23 Tryd.inf5 rfl _ 0 [] rfl (Emp.own hE (Nat.le_refl _)) _ rfl _ (bv l) hr1 (bv_one _) (by rw [bv_length]; omega) (by omega) (by simp) ?_; intro v2 w2 ho2 hg2' _; rw [List.nil_append, Nat.zero_add, bv_length] at ho2; have hg2 : (w.alloc (.cells #[] 5)).grownBy w2 (some w.heap.size) := hg2'; have hb2 : Below w.heap.size w w2 := hb1.grown hg2 (by simp) (by intro g hg; injection hg with hg; omega); clear hg2'; obtain ⟨g2, cap2, rfl⟩ := Joins.ownsRow_form ho2 hlp)
    have HO1 := Lib.hid ho2
    go_loopw [8] (fun x wr => ∃ i : Nat, i ≤ 32 ∧ x = .int .i64 i ∧ wr.ownsRow w.heap.size 5 1 (.slice (some ⟨g2, 0, none⟩) l.length cap2) l.length (bv (burst l n (p % 2 ^ i))) ∧ Below w.heap.size w wr) (fun x _ => 32 - (intOf x).toNat)
    case atStart => exact ⟨0, by omega, rfl, by rw [show p % 2 ^ 0 = 0 from by simp [Nat.mod_one], burst_zero]; exact ho2, hb2⟩
    case round =>
      clear hb2 ho2
      obtain ⟨i, hi, rfl, hown, hbel⟩ := hrel
      by_cases h32 : i < 32
      · by_cases hend : n + i < 8 * l.length
        · have hq : (n + i) / 8 < l.length := by omega
          obtain ⟨y, hy⟩ : ∃ y, (burst l n (p % 2 ^ i))[(n + i) / 8]? = some y := ⟨_, List.getElem?_eq_getElem (by rw [burst_length]; exact hq)⟩
          have hcell := hown.cellAt ((n + i) / 8) (by omega)
          rw [bv_get, hy] at hcell
          simp only [Option.map_some] at hcell
          have hfr := hown.frozenAt ((n + i) / 8)
          have hyl := y.toNat_lt
          cases ht : p.testBit i with
          | true =>
            have hst := hown.stored ((n + i) / 8) (.int .u8 ((y.toNat ^^^ 2 ^ ((n + i) % 8) : Nat) : Int))
            rw [burst_step l n p i ht hq y hy] at hst
            have hbt : (bits .and .u32 ((p : Int) / 2 ^ i) 1 == 1) = true := by
              have e : ((p : Int) / 2 ^ i) = ((p / 2 ^ i : Nat) : Int) := by simp
              have hle : p / 2 ^ i ≤ p := Nat.div_le_self _ _
              rw [e, show (1 : Int) = ((1 : Nat) : Int) from rfl, u32_and_nat _ _ (by omega) (by decide), nat_mask1]
              rw [Nat.testBit_eq_decide_div_mod_eq] at ht
              have := of_decide_eq_true ht
              rw [this]; rfl
            have hr8 : 2 ^ ((n + i) % 8) < 256 := Nat.pow_lt_pow_right (n := 8) (by decide) (show (n + i) % 8 < 8 by omega)
            have xf : bits .xor .u8 (y.toNat : Int) (2 ^ ((n + i) % 8) % 256) = ((y.toNat ^^^ 2 ^ ((n + i) % 8) : Nat) : Int) := by
              rw [show ((2 : Int) ^ ((n + i) % 8) % 256) = ((2 ^ ((n + i) % 8) : Nat) : Int) from by
                rw [show ((2 : Int) ^ ((n + i) % 8)) = ((2 ^ ((n + i) % 8) : Nat) : Int) from by simp]; generalize 2 ^ ((n + i) % 8) = q at hr8 ⊢; omega]
              exact u8_xor_nat _ _ hyl hr8
            have HS := Lib.hid hst
            clear hst hy ht hown hr8
            go_wp2
            go_roundw
            case rel => exact ⟨i + 1, by omega, by go_num, HS.out.1, hbel.grown HS.out.2 hbel.size (by intro g hg; injection hg with hg; subst hg; exact (HO1.out.lt _ rfl).1)⟩
            case measure => simp [intOf]; omega
          | false =>
            have hsk := burst_skip l n p i ht
            have hbt : (bits .and .u32 ((p : Int) / 2 ^ i) 1 == 1) = false := by
              have e : ((p : Int) / 2 ^ i) = ((p / 2 ^ i : Nat) : Int) := by simp
              have hle : p / 2 ^ i ≤ p := Nat.div_le_self _ _
              rw [e, show (1 : Int) = ((1 : Nat) : Int) from rfl, u32_and_nat _ _ (by omega) (by decide), nat_mask1]
              rw [Nat.testBit_eq_decide_div_mod_eq] at ht
              have := of_decide_eq_false ht
              rw [show p / 2 ^ i % 2 = 0 from by omega]; rfl
            rw [← hsk] at hown
            have HS := Lib.hid hown
            clear hy ht hown hcell hfr hsk
            go_wp2
            go_roundw
            case rel => exact ⟨i + 1, by omega, by go_num, HS.out, hbel⟩
            case measure => simp [intOf]; omega
        · have hall : burst l n (p % 2 ^ i) = burst l n p := burst_same l n _ _ (fun j hj => eb_end n p i j (by omega))
          rw [hall] at hown
          have HS := Lib.hid hown
          clear hall hown
          go_wp2
          go_ret
          exact ⟨_, rfl, by rw [burst_length]; exact HS.out, hbel⟩
      · obtain rfl : i = 32 := by omega
        have hall : burst l n (p % 2 ^ 32) = burst l n p := by rw [Nat.mod_eq_of_lt hp]
        rw [hall] at hown
        have HS := Lib.hid hown
        clear hall hown
        go_wp2
        go_ret
        exact ⟨_, rfl, by rw [burst_length]; exact HS.out, hbel⟩
end Go.Proofs.YtclenafidfpinaaDoor
