/- Contract of Burst, the program's and the document's. Conditions: the row is shorter than 2^30. -/
import Derived.Test.YtldmamcalfmedaaMem
import Derived.Test.YtldmamcalfmedaaCrp
import Derived.Laws.BitsAllLaws
import Derived.Lib.SmallJoins
import Derived.LaidMore
import Derived.OpenShut
import Derived.Deep.DeepCutAuto
namespace Go.Proofs.Ytldmamcalfmedaa
open Go.ChangeShapes Go.WideShapes Go.ChangeAt Go.RowKit
set_option linter.unusedSimpArgs false
set_option linter.unusedVariables false
theorem Try.inf5 : (Try.prog.info? 5).map (fun i => (i.zero, i.size, i.bytes)) = some (some (.int .u8 0), 1, 1) := by kernel_rfl

def GivesB (base : Nat) (w : World) (l : List UInt8) (e : Ending) (w' : World) : Prop := ∃ r, e = .returned r ∧ w'.ownsRow base 5 1 r l.length (bv l) ∧ Below base w w'
/-- what a burst turns in the byte at i -/
def eb (bit : Int) (p : Nat) (i : Nat) : Nat := if 0 ≤ bit ∧ bit / 8 ≤ i then p * 2 ^ (bit % 8).toNat / 256 ^ (i - (bit / 8).toNat) % 256 else 0
def burst (l : List UInt8) (bit : Int) (p : Nat) : List UInt8 := l.mapIdx fun i b => UInt8.ofNat (b.toNat ^^^ eb bit p i)
theorem burst_length (l : List UInt8) (bit : Int) (p : Nat) : (burst l bit p).length = l.length := by simp [burst]
theorem eb_lt (bit : Int) (p i : Nat) : eb bit p i < 256 := by unfold eb; split <;> omega
theorem burst_get (l : List UInt8) (bit : Int) (p i : Nat) : (burst l bit p)[i]? = l[i]?.map fun b => UInt8.ofNat (b.toNat ^^^ eb bit p i) := by simp [burst]
theorem xor_byte {a b : Nat} (ha : a < 256) (hb : b < 256) : (UInt8.ofNat (a ^^^ b)).toNat = a ^^^ b := by
  have := Nat.xor_lt_two_pow (n := 8) ha hb
  rw [UInt8.toNat_ofNat', Nat.mod_eq_of_lt this]
theorem burst_twice (l : List UInt8) (bit : Int) (p : Nat) : burst (burst l bit p) bit p = l := by
  apply List.ext_getElem?
  intro i
  rw [burst_get, burst_get]
  rcases h : l[i]? with _ | b
  · rfl
  · simp only [Option.map_some]
    rw [xor_byte b.toNat_lt (eb_lt _ _ _), Nat.xor_assoc, Nat.xor_self, Nat.xor_zero]
    simp
theorem eb_zero (bit : Int) (i : Nat) : eb bit 0 i = 0 := by unfold eb; split <;> simp
theorem burst_zero (l : List UInt8) (bit : Int) : burst l bit 0 = l := by
  apply List.ext_getElem?
  intro i
  rw [burst_get, eb_zero]
  rcases h : l[i]? with _ | b
  · rfl
  · simp
theorem Try.inf5C : (Try.prog.info? 5).map (fun i => (i.zero, i.size, i.bytes)) = some (some (.int .u8 0), 1, 1) := by kernel_rfl
/-- hands back a row that reads as l; memory has only been made -/
def TellC (w : World) (l : List UInt8) (e : Ending) (w' : World) : Prop := ∃ r, e = .returned r ∧ RdV w' w'.heap.size r (bv l) ∧ Below w.heap.size w w'
/-- the first k bytes are turned -/
def burstTo (l : List UInt8) (bit : Int) (p k : Nat) : List UInt8 := l.mapIdx fun i b => if i < k then UInt8.ofNat (b.toNat ^^^ eb bit p i) else b
theorem i64_and7 (n : Nat) (h : n < 9223372036854775808) : bits .and .i64 (n : Int) 7 = ((n % 8 : Nat) : Int) := by
  have := bits_mask .i64 63 (by decide) (fun n h0 h1 => by rw [IntKind.wrap_i64]; omega) 3 (by decide) (n : Int) (by omega) (by omega)
  rw [show ((2 : Int) ^ 3 - 1) = 7 from rfl] at this
  rw [this]; simp
theorem burstTo_get (l : List UInt8) (bit : Int) (p k i : Nat) : (burstTo l bit p k)[i]? = l[i]?.map fun b => if i < k then UInt8.ofNat (b.toNat ^^^ eb bit p i) else b := by simp [burstTo]
theorem burstTo_length (l : List UInt8) (bit : Int) (p k : Nat) : (burstTo l bit p k).length = l.length := by simp [burstTo]
theorem burstTo_low (l : List UInt8) (n p k : Nat) (hk : k ≤ n / 8) : burstTo l n p k = l := by
  apply List.ext_getElem?
  intro i
  rw [burstTo_get]
  rcases h : l[i]? with _ | b
  · rfl
  · by_cases hi : i < k
    · have : eb n p i = 0 := by unfold eb; rw [if_neg (by omega)]
      simp [this]
    · simp [hi]
theorem burstTo_all (l : List UInt8) (bit : Int) (p k : Nat) (hk : ∀ i, k ≤ i → i < l.length → eb bit p i = 0) : burstTo l bit p k = burst l bit p := by
  apply List.ext_getElem?
  intro i
  rw [burstTo_get, burst_get]
  rcases h : l[i]? with _ | b
  · rfl
  · by_cases hi : i < k
    · simp [hi]
    · have := hk i (by omega) (List.getElem?_eq_some_iff.1 h).1
      simp [hi, this]
theorem burstTo_set (l : List UInt8) (bit : Int) (p k : Nat) (hk : k < l.length) : (bv (burstTo l bit p k)).set k (.int .u8 ((l[k].toNat ^^^ eb bit p k : Nat) : Int)) = bv (burstTo l bit p (k + 1)) := by
  apply List.ext_getElem?
  intro i
  rw [List.getElem?_set]
  by_cases h : k = i
  · subst h
    rw [if_pos rfl, if_pos (by rw [bv_length, burstTo_length]; exact hk), bv_get, burstTo_get, List.getElem?_eq_getElem hk]
    simp only [Option.map_some, Nat.lt_succ_self, if_true]
    rw [xor_byte l[k].toNat_lt (eb_lt _ _ _)]
  · rw [if_neg h, bv_get, bv_get, burstTo_get, burstTo_get]
    rcases h2 : l[i]? with _ | b
    · rfl
    · by_cases hi : i < k
      · simp [hi, show i < k + 1 from by omega]
      · simp [hi, show ¬ i < k + 1 from by omega]
theorem eb_at (n p a : Nat) (h : n / 8 ≤ a) : eb n p a = p * 2 ^ (n % 8) / 256 ^ (a - n / 8) % 256 := by
  unfold eb
  rw [if_pos (by omega), show ((n : Int) % 8).toNat = n % 8 from by omega, show ((n : Int) / 8).toNat = n / 8 from by omega]
set_option maxRecDepth 100000 in
set_option maxHeartbeats 4000000 in
theorem burst_any (vb : Value) (l : List UInt8) (bit : Int) (p : Nat) (b0 : -9223372036854775808 ≤ bit) (b1 : bit ≤ 9223372036854775807) (hp : p < 4294967296) (hl : l.length < 4294967296) (w : World) (B : Nat) (hB : B ≤ w.heap.size) (hr : RdV w B vb (bv l)) :
    Calls Try.prog 46 #[vb, .int .i64 bit, .int .u32 p] w (GivesB w.heap.size w (burst l bit p)) := by
  obtain ⟨A, c, rfl, hc1, hc2, hc3⟩ := id hr
  rw [bv_length] at hc1 hc3 hr ⊢
  clear hc3
  unfold maxLen at hc2
  by_cases hneg : bit < 0
  · have hbu : burst l bit p = l := by
      apply List.ext_getElem?
      intro i
      rw [burst_get]
      have : eb bit p i = 0 := by unfold eb; rw [if_neg (by omega)]
      rw [this]
      rcases h : l[i]? with _ | b
      · rfl
      · simp
    rw [hbu]
    clear hbu
    go_enter Try.func46, Try.ntmps46
    go_wp2_with (first
      | (at_make; refine wpList_make_rd _ rfl _ _ 32 rfl w.heap.size 5 (.int .u8 0) 1 Try.underlying32 Try.inf5C rfl .i64 .i64 l.length l.length _ _ rfl rfl rfl rfl (by omega) (by omega) (by unfold maxLen; omega) (Nat.le_refl _) ?_; intro w1 ho1 hg1)
      | (refine wpList_copy_rd _ rfl (.tmp 14) (.tmp 15) 32 32 rfl w.heap.size 5 (.int .u8 0) 1 Try.underlying32 Try.inf5C _ _ _ _ rfl ho1 _ rfl B (bv l) (hr.grown hg1 hB (by intro g h; cases h)) (bv_length l) (bv_one l) ?_; intro w2 ho2 hg2))
    go_ret
    exact ⟨_, rfl, (by first | exact ho2 | (rw [burst_length]; exact ho2)), ((Below.refl _ _).grown hg1 (Nat.le_refl _) (by intro g h; cases h)).grown hg2 hg1.size (by intro g h; injection h with h; omega)⟩
  · obtain ⟨n, rfl⟩ := Int.eq_ofNat_of_zero_le (show 0 ≤ bit by omega)
    have h7 := i64_and7 n (by omega)
    have hk8 : n % 8 < 8 := by omega
    generalize hk : n % 8 = k at *
    have HK := Lib.hid hk
    clear hk
    go_enter Try.func46, Try.ntmps46
    go_wp2_with (first
      | (at_make; refine wpList_make_rd _ rfl _ _ 32 rfl w.heap.size 5 (.int .u8 0) 1 Try.underlying32 Try.inf5C rfl .i64 .i64 l.length l.length _ _ rfl rfl rfl rfl (by omega) (by omega) (by unfold maxLen; omega) (Nat.le_refl _) ?_; intro w1 ho1 hg1)
      | (refine wpList_copy_rd _ rfl (.tmp 14) (.tmp 15) 32 32 rfl w.heap.size 5 (.int .u8 0) 1 Try.underlying32 Try.inf5C _ _ _ _ rfl ho1 _ rfl B (bv l) (hr.grown hg1 hB (by intro g h; cases h)) (bv_length l) (bv_one l) ?_; intro w2 ho2 hg2))
    have hT0 : p * 2 ^ k < 549755813888 := by
      have h1 : 2 ^ k ≤ 128 := by
        have := Nat.pow_le_pow_right (n := 2) (by decide) (show k ≤ 7 by omega)
        simpa using this
      have h2 : p * 2 ^ k ≤ p * 128 := Nat.mul_le_mul_left p h1
      omega
    have hwr : IntKind.u64.wrap ((p : Int) * 2 ^ k) = ((p * 2 ^ k : Nat) : Int) := by
      rw [show ((p : Int) * 2 ^ k) = ((p * 2 ^ k : Nat) : Int) from by simp, IntKind.wrap_u64]; omega
    rw [hwr]
    generalize hT : p * 2 ^ k = T at *
    have HT := Lib.hid hT
    have hb2 : Below w.heap.size w w2 := ((Below.refl _ _).grown hg1 (Nat.le_refl _) (by intro g h; cases h)).grown hg2 hg1.size (by intro g h; injection h with h; omega)
    have hbyte : ∀ a, n / 8 ≤ a → eb n p a = T / 256 ^ (a - n / 8) % 256 := fun a ha => by rw [eb_at n p a ha, HK.out, HT.out]
    have HE := Lib.hid hbyte
    clear hT hwr h7 hbyte
    go_loopw [8, 10] (fun i t wr => ∃ a x : Nat, i = .int .i64 a ∧ t = .int .u64 x ∧ n / 8 ≤ a ∧ a ≤ 9223372036854775807 ∧ x < 549755813888 ∧ Hid (x = T / 256 ^ (a - n / 8)) ∧ wr.ownsRow w.heap.size 5 1 (.slice (some ⟨w.heap.size, 0, none⟩) l.length l.length) l.length (bv (burstTo l n p a)) ∧ Below w.heap.size w wr) (fun i _ _ => l.length - (intOf i).toNat)
    case atStart => exact ⟨n / 8, T, by first | rfl | simp, rfl, by omega, by omega, hT0, Lib.hid (by simp), by rw [burstTo_low l n p _ (Nat.le_refl _)]; exact ho2, hb2⟩
    case round =>
      obtain ⟨a, x, rfl, rfl, ha0, ha1, hx, HX, hown, hbel⟩ := hrel
      by_cases hx0 : x = 0
      · have hall : burstTo l n p a = burst l n p := burstTo_all l n p a (fun i hi _ => by
          rw [HE.out i (by omega), show i - n / 8 = (a - n / 8) + (i - a) from by omega, Nat.pow_add, ← Nat.div_div_eq_div_mul, ← HX.out, hx0]; simp)
        rw [hall] at hown
        subst hx0
        clear hall HX
        go_wp2
        go_ret
        exact ⟨_, rfl, (by first | exact hown | (rw [burst_length]; exact hown)), hbel⟩
      · by_cases hlt : a < l.length
        · have hget : (burstTo l n p a)[a]? = some l[a] := by rw [burstTo_get, List.getElem?_eq_getElem hlt]; simp
          have hcell := hown.cellAt a (by omega)
          rw [bv_get, hget] at hcell
          have hfr := hown.frozenAt a
          have hst := hown.stored a (.int .u8 ((l[a].toNat ^^^ eb n p a : Nat) : Int))
          rw [burstTo_set l n p a hlt, HE.out a ha0, ← HX.out] at hst
          have hxr := u8_xor_nat l[a].toNat (x % 256) l[a].toNat_lt (by omega)
          rw [show ((x % 256 : Nat) : Int) = (x : Int) % 256 from by simp] at hxr
          have hnx : x / 256 = T / 256 ^ (a + 1 - n / 8) := by
            rw [show a + 1 - n / 8 = (a - n / 8) + 1 from by omega, Nat.pow_succ, ← Nat.div_div_eq_div_mul, ← HX.out]
          have HS := Lib.hid hst
          have HN := Lib.hid hnx
          have hlb := l[a].toNat_lt
          simp only [Option.map_some] at hcell
          generalize l[a].toNat = y at *
          clear hget hst hnx hown
          go_wp2
          go_roundw
          case rel => exact ⟨a + 1, x / 256, by go_num, by first | rfl | simp, by omega, by omega, by omega, HN, HS.out.1, hbel.grown HS.out.2 hbel.size (by intro g h; injection h with h; omega)⟩
          case measure => simp [intOf]; omega
        · have hall : burstTo l n p a = burst l n p := burstTo_all l n p a (fun i hi hi2 => by omega)
          rw [hall] at hown
          clear hall HX
          go_wp2
          go_ret
          exact ⟨_, rfl, (by first | exact hown | (rw [burst_length]; exact hown)), hbel⟩
theorem eb_bit (n p j b : Nat) : (eb n p j).testBit b = (decide (b < 8) && (decide (n ≤ 8 * j + b) && p.testBit (8 * j + b - n))) := by
  by_cases h : n / 8 ≤ j
  · rw [eb_at n p j h, show (256 : Nat) = 2 ^ 8 from rfl, ← Nat.pow_mul, Nat.testBit_mod_two_pow, Nat.testBit_div_two_pow, Nat.testBit_mul_two_pow]
    congr 1
    have e1 : (n % 8 ≤ b + 8 * (j - n / 8)) ↔ (n ≤ 8 * j + b) := by omega
    have e2 : b + 8 * (j - n / 8) - n % 8 = 8 * j + b - n := by omega
    rw [e2]
    congr 1
    exact decide_eq_decide.2 e1
  · have : eb n p j = 0 := by unfold eb; rw [if_neg (by omega)]
    rw [this, Nat.zero_testBit]
    by_cases hb : b < 8
    · have : ¬ n ≤ 8 * j + b := by omega
      simp [this]
    · simp [hb]
theorem eb_succ (n p i j : Nat) (h : p.testBit i = true) : eb n (p % 2 ^ (i + 1)) j = eb n (p % 2 ^ i) j ^^^ (if j = (n + i) / 8 then 2 ^ ((n + i) % 8) else 0) := by
  apply Nat.eq_of_testBit_eq
  intro b
  rw [Nat.testBit_xor, eb_bit, eb_bit, Nat.testBit_mod_two_pow, Nat.testBit_mod_two_pow]
  by_cases hb : b < 8
  · by_cases hn : n ≤ 8 * j + b
    · rcases Nat.lt_trichotomy (8 * j + b - n) i with h1 | h1 | h1
      · have h2 : ¬ (j = (n + i) / 8 ∧ b = (n + i) % 8) := by omega
        have h3 : (if j = (n + i) / 8 then 2 ^ ((n + i) % 8) else 0).testBit b = false := by
          split
          · next hj => rw [Nat.testBit_two_pow]; simp; omega
          · exact Nat.zero_testBit b
        rw [h3]; simp [hb, hn, h1, show 8 * j + b - n < i + 1 from by omega]
      · have hj : j = (n + i) / 8 := by omega
        have hbr : b = (n + i) % 8 := by omega
        rw [if_pos hj, Nat.testBit_two_pow, h1, h]
        simp [hb, hn, hbr]; omega
      · have h3 : (if j = (n + i) / 8 then 2 ^ ((n + i) % 8) else 0).testBit b = false := by
          split
          · next hj => rw [Nat.testBit_two_pow]; simp; omega
          · exact Nat.zero_testBit b
        rw [h3]; simp [show ¬ 8 * j + b - n < i from by omega, show ¬ 8 * j + b - n < i + 1 from by omega]
    · have h3 : (if j = (n + i) / 8 then 2 ^ ((n + i) % 8) else 0).testBit b = false := by
        split
        · next hj => rw [Nat.testBit_two_pow]; simp; omega
        · exact Nat.zero_testBit b
      rw [h3]; simp [hn]
  · have h3 : (if j = (n + i) / 8 then 2 ^ ((n + i) % 8) else 0).testBit b = false := by
      split
      · next hj => rw [Nat.testBit_two_pow]; simp; omega
      · exact Nat.zero_testBit b
    rw [h3]; simp [hb]
theorem eb_skip (n p i j : Nat) (h : p.testBit i = false) : eb n (p % 2 ^ (i + 1)) j = eb n (p % 2 ^ i) j := by
  apply Nat.eq_of_testBit_eq
  intro b
  rw [eb_bit, eb_bit, Nat.testBit_mod_two_pow, Nat.testBit_mod_two_pow]
  rcases Nat.lt_trichotomy (8 * j + b - n) i with h1 | h1 | h1
  · simp [h1, show 8 * j + b - n < i + 1 from by omega]
  · rw [h1, h]; simp
  · simp [show ¬ 8 * j + b - n < i from by omega, show ¬ 8 * j + b - n < i + 1 from by omega]
theorem eb_end (n p i j : Nat) (h : 8 * (j + 1) ≤ n + i) : eb n (p % 2 ^ i) j = eb n p j := by
  apply Nat.eq_of_testBit_eq
  intro b
  rw [eb_bit, eb_bit, Nat.testBit_mod_two_pow]
  by_cases hb : b < 8
  · by_cases hn : n ≤ 8 * j + b
    · simp [hb, hn, show 8 * j + b - n < i from by omega]
    · simp [hn]
  · simp [hb]
theorem burst_same (l : List UInt8) (b : Int) (p q : Nat) (h : ∀ j, j < l.length → eb b p j = eb b q j) : burst l b p = burst l b q := by
  apply List.ext_getElem?
  intro j
  rw [burst_get, burst_get]
  rcases Nat.lt_or_ge j l.length with hj | hj
  · rw [h j hj]
  · rw [List.getElem?_eq_none hj]; rfl
theorem burst_out (l : List UInt8) (b : Int) (p : Nat) (h : b < 0 ∨ 8 * (l.length : Int) ≤ b) : burst l b p = l := by
  have h2 := burst_same l b p 0 (fun j hj => by rw [eb_zero]; unfold eb; rw [if_neg (by omega)])
  rw [h2, burst_zero]
theorem burst_step (l : List UInt8) (n p i : Nat) (h : p.testBit i = true) (hq : (n + i) / 8 < l.length) (y : UInt8) (hy : (burst l n (p % 2 ^ i))[(n + i) / 8]? = some y) :
    (bv (burst l n (p % 2 ^ i))).set ((n + i) / 8) (.int .u8 ((y.toNat ^^^ 2 ^ ((n + i) % 8) : Nat) : Int)) = bv (burst l n (p % 2 ^ (i + 1))) := by
  have hr : 2 ^ ((n + i) % 8) < 256 := Nat.pow_lt_pow_right (n := 8) (by decide) (show (n + i) % 8 < 8 by omega)
  apply List.ext_getElem?
  intro j
  rw [List.getElem?_set]
  by_cases hj : (n + i) / 8 = j
  · rw [if_pos hj, if_pos (by rw [bv_length, burst_length]; omega), bv_get, burst_get, ← hj, List.getElem?_eq_getElem hq]
    rw [burst_get, List.getElem?_eq_getElem hq] at hy
    injection hy with hy
    simp only [Option.map_some]
    rw [eb_succ n p i _ h, if_pos rfl, ← hy, xor_byte l[(n + i) / 8].toNat_lt (eb_lt _ _ _), ← Nat.xor_assoc, xor_byte (Nat.xor_lt_two_pow (n := 8) l[(n + i) / 8].toNat_lt (eb_lt _ _ _)) hr]
  · rw [if_neg hj, bv_get, bv_get, burst_get, burst_get, eb_succ n p i _ h, if_neg (fun e => hj e.symm), Nat.xor_zero]
theorem burst_skip (l : List UInt8) (n p i : Nat) (h : p.testBit i = false) : burst l n (p % 2 ^ (i + 1)) = burst l n (p % 2 ^ i) := burst_same l n _ _ (fun j _ => eb_skip n p i j h)
set_option maxRecDepth 100000 in
set_option maxHeartbeats 8000000 in
theorem rburst_any (vb : Value) (l : List UInt8) (bit : Int) (p : Nat) (b0 : -9223372036854775808 ≤ bit) (b1 : bit ≤ 9223372036854775807) (hp : p < 4294967296) (hl : l.length < 1073741824) (w : World) (B : Nat) (hB : B ≤ w.heap.size) (hr : RdV w B vb (bv l)) :
    Calls Try.prog 47 #[vb, .int .i64 bit, .int .u32 p] w (GivesB w.heap.size w (burst l bit p)) := by
  obtain ⟨A, c, rfl, hc1, hc2, hc3⟩ := id hr
  rw [bv_length] at hc1 hc3 hr ⊢
  clear hc3
  unfold maxLen at hc2
  have hE := Emp.new w 5
  have hr1 := hr.alloc hB (.cells #[] 5)
  have hb1 : Below w.heap.size w (w.alloc (.cells #[] 5)) := (Below.refl _ _).alloc (Nat.le_refl _) _
  by_cases hout : bit < 0 ∨ 8 * (l.length : Int) ≤ bit
  · rw [burst_out l bit p hout]
    rcases hout with hout | hout
    · go_enter Try.func47, Try.ntmps47
      go_wp2_with (at_builtin; refine wpList_append_rd _ rfl (.tmp 9) (.tmp 10) 32 rfl w.heap.size 5 (.int .u8 0) 1 Try.underlying32 Try.inf5 rfl _ 0 [] rfl (Emp.own hE (Nat.le_refl _)) _ rfl _ (bv l) hr1 (bv_one _) (by rw [bv_length]; omega) (by omega) (by simp) ?_; intro v2 w2 ho2 hg2' _; rw [List.nil_append, Nat.zero_add, bv_length] at ho2; have hg2 : (w.alloc (.cells #[] 5)).grownBy w2 (some w.heap.size) := hg2'; have hb2 : Below w.heap.size w w2 := hb1.grown hg2 (by simp) (by intro g hg; injection hg with hg; omega); clear hg2')
      go_ret
      exact ⟨v2, rfl, ho2, hb2⟩
    · have hp0 : 0 ≤ bit := by omega
      go_enter Try.func47, Try.ntmps47
      go_upto_region 2 with (at_builtin; refine wpList_append_rd _ rfl (.tmp 9) (.tmp 10) 32 rfl w.heap.size 5 (.int .u8 0) 1 Try.underlying32 Try.inf5 rfl _ 0 [] rfl (Emp.own hE (Nat.le_refl _)) _ rfl _ (bv l) hr1 (bv_one _) (by rw [bv_length]; omega) (by omega) (by simp) ?_; intro v2 w2 ho2 hg2' _; rw [List.nil_append, Nat.zero_add, bv_length] at ho2; have hg2 : (w.alloc (.cells #[] 5)).grownBy w2 (some w.heap.size) := hg2'; have hb2 : Below w.heap.size w w2 := hb1.grown hg2 (by simp) (by intro g hg; injection hg with hg; omega); clear hg2')
      have HO := Lib.hid ho2
      rcases Joins.ownsRow_forms ho2 with ⟨rfl, h0⟩ | ⟨g2, cap2, rfl⟩
      · rw [h0] at hout
        clear ho2 h0
        go_wp2
        go_ret
        exact ⟨_, rfl, HO.out, hb2⟩
      · clear ho2
        go_wp2
        go_ret
        exact ⟨_, rfl, HO.out, hb2⟩
  · obtain ⟨n, rfl⟩ := Int.eq_ofNat_of_zero_le (show 0 ≤ bit by omega)
    have hn8 : n < 8 * l.length := by omega
    have hlp : 0 < l.length := by omega
    clear hout
    go_enter Try.func47, Try.ntmps47
    go_wp2_with (at_builtin; refine wpList_append_rd _ rfl (.tmp 9) (.tmp 10) 32 rfl w.heap.size 5 (.int .u8 0) 1 Try.underlying32 Try.inf5 rfl _ 0 [] rfl (Emp.own hE (Nat.le_refl _)) _ rfl _ (bv l) hr1 (bv_one _) (by rw [bv_length]; omega) (by omega) (by simp) ?_; intro v2 w2 ho2 hg2' _; rw [List.nil_append, Nat.zero_add, bv_length] at ho2; have hg2 : (w.alloc (.cells #[] 5)).grownBy w2 (some w.heap.size) := hg2'; have hb2 : Below w.heap.size w w2 := hb1.grown hg2 (by simp) (by intro g hg; injection hg with hg; omega); clear hg2'; obtain ⟨g2, cap2, rfl⟩ := Joins.ownsRow_form ho2 hlp)
    have HO1 := Lib.hid ho2
    go_loopw [8] (fun x wr => ∃ i : Nat, i ≤ 32 ∧ x = .int .i64 i ∧ wr.ownsRow w.heap.size 5 1 (.slice (some ⟨g2, 0, none⟩) l.length cap2) l.length (bv (burst l n (p % 2 ^ i))) ∧ Below w.heap.size w wr) (fun x _ => 32 - (intOf x).toNat)
    case atStart => exact ⟨0, by omega, rfl, by rw [show p % 2 ^ 0 = 0 from by simp [Nat.mod_one], burst_zero]; exact ho2, hb2⟩
    case round =>
      clear hb2 ho2
      obtain ⟨i, hi, rfl, hown, hbel⟩ := hrel
      by_cases h32 : i < 32
      · by_cases hend : n + i < 8 * l.length
        · have hq : (n + i) / 8 < l.length := by omega
          obtain ⟨y, hy⟩ : ∃ y, (burst l n (p % 2 ^ i))[(n + i) / 8]? = some y := ⟨_, List.getElem?_eq_getElem (by rw [burst_length]; exact hq)⟩
          have hcell := hown.cellAt ((n + i) / 8) (by omega)
          rw [bv_get, hy] at hcell
          simp only [Option.map_some] at hcell
          have hfr := hown.frozenAt ((n + i) / 8)
          have hyl := y.toNat_lt
          cases ht : p.testBit i with
          | true =>
            have hst := hown.stored ((n + i) / 8) (.int .u8 ((y.toNat ^^^ 2 ^ ((n + i) % 8) : Nat) : Int))
            rw [burst_step l n p i ht hq y hy] at hst
            have hbt : (bits .and .u32 ((p : Int) / 2 ^ i) 1 == 1) = true := by
              have e : ((p : Int) / 2 ^ i) = ((p / 2 ^ i : Nat) : Int) := by simp
              have hle : p / 2 ^ i ≤ p := Nat.div_le_self _ _
              rw [e, show (1 : Int) = ((1 : Nat) : Int) from rfl, u32_and_nat _ _ (by omega) (by decide), nat_mask1]
              rw [Nat.testBit_eq_decide_div_mod_eq] at ht
              have := of_decide_eq_true ht
              rw [this]; rfl
            have hr8 : 2 ^ ((n + i) % 8) < 256 := Nat.pow_lt_pow_right (n := 8) (by decide) (show (n + i) % 8 < 8 by omega)
            have xf : bits .xor .u8 (y.toNat : Int) (2 ^ ((n + i) % 8) % 256) = ((y.toNat ^^^ 2 ^ ((n + i) % 8) : Nat) : Int) := by
              rw [show ((2 : Int) ^ ((n + i) % 8) % 256) = ((2 ^ ((n + i) % 8) : Nat) : Int) from by
                rw [show ((2 : Int) ^ ((n + i) % 8)) = ((2 ^ ((n + i) % 8) : Nat) : Int) from by simp]; generalize 2 ^ ((n + i) % 8) = q at hr8 ⊢; omega]
              exact u8_xor_nat _ _ hyl hr8
            have HS := Lib.hid hst
            clear hst hy ht hown hr8
            go_wp2
            go_roundw
            case rel => exact ⟨i + 1, by omega, by go_num, HS.out.1, hbel.grown HS.out.2 hbel.size (by intro g hg; injection hg with hg; subst hg; exact (HO1.out.lt _ rfl).1)⟩
            case measure => simp [intOf]; omega
          | false =>
            have hsk := burst_skip l n p i ht
            have hbt : (bits .and .u32 ((p : Int) / 2 ^ i) 1 == 1) = false := by
              have e : ((p : Int) / 2 ^ i) = ((p / 2 ^ i : Nat) : Int) := by simp
              have hle : p / 2 ^ i ≤ p := Nat.div_le_self _ _
              rw [e, show (1 : Int) = ((1 : Nat) : Int) from rfl, u32_and_nat _ _ (by omega) (by decide), nat_mask1]
              rw [Nat.testBit_eq_decide_div_mod_eq] at ht
              have := of_decide_eq_false ht
              rw [show p / 2 ^ i % 2 = 0 from by omega]; rfl
            rw [← hsk] at hown
            have HS := Lib.hid hown
            clear hy ht hown hcell hfr hsk
            go_wp2
            go_roundw
            case rel => exact ⟨i + 1, by omega, by go_num, HS.out, hbel⟩
            case measure => simp [intOf]; omega
        · have hall : burst l n (p % 2 ^ i) = burst l n p := burst_same l n _ _ (fun j hj => eb_end n p i j (by omega))
          rw [hall] at hown
          have HS := Lib.hid hown
          clear hall hown
          go_wp2
          go_ret
          exact ⟨_, rfl, by rw [burst_length]; exact HS.out, hbel⟩
      · obtain rfl : i = 32 := by omega
        have hall : burst l n (p % 2 ^ 32) = burst l n p := by rw [Nat.mod_eq_of_lt hp]
        rw [hall] at hown
        have HS := Lib.hid hown
        clear hall hown
        go_wp2
        go_ret
        exact ⟨_, rfl, by rw [burst_length]; exact HS.out, hbel⟩

end Go.Proofs.Ytldmamcalfmedaa
