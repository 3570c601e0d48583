/- Contract of package crc: Burst. Conditions: the row is shorter than 2^32. -/
import Derived.Test.YtclenafidfpinaaDoorCrl
namespace Go.Proofs.YtclenafidfpinaaDoor
open Go.ChangeShapes Go.WideShapes Go.ChangeAt Go.RowKit
set_option linter.unusedSimpArgs false
set_option linter.unusedVariables false
/-- what a burst turns in the byte at i -/
def eb (bit : Int) (p : Nat) (i : Nat) : Nat := if 0 ≤ bit ∧ bit / 8 ≤ i then p * 2 ^ (bit % 8).toNat / 256 ^ (i - (bit / 8).toNat) % 256 else 0
def burst (l : List UInt8) (bit : Int) (p : Nat) : List UInt8 := l.mapIdx fun i b => UInt8.ofNat (b.toNat ^^^ eb bit p i)
theorem burst_length (l : List UInt8) (bit : Int) (p : Nat) : (burst l bit p).length = l.length := by simp [burst]
theorem eb_lt (bit : Int) (p i : Nat) : eb bit p i < 256 := by unfold eb; split <;> omega
theorem burst_get (l : List UInt8) (bit : Int) (p i : Nat) : (burst l bit p)[i]? = l[i]?.map fun b => UInt8.ofNat (b.toNat ^^^ eb bit p i) := by simp [burst]
theorem xor_byte {a b : Nat} (ha : a < 256) (hb : b < 256) : (UInt8.ofNat (a ^^^ b)).toNat = a ^^^ b := by
  have := Nat.xor_lt_two_pow (n := 8) ha hb
  rw [UInt8.toNat_ofNat', Nat.mod_eq_of_lt this]
theorem burst_twice (l : List UInt8) (bit : Int) (p : Nat) : burst (burst l bit p) bit p = l := by
  apply List.ext_getElem?
  intro i
  rw [burst_get, burst_get]
  rcases h : l[i]? with _ | b
  · rfl
  · simp only [Option.map_some]
    rw [xor_byte b.toNat_lt (eb_lt _ _ _), Nat.xor_assoc, Nat.xor_self, Nat.xor_zero]
    simp
theorem eb_zero (bit : Int) (i : Nat) : eb bit 0 i = 0 := by unfold eb; split <;> simp
theorem burst_zero (l : List UInt8) (bit : Int) : burst l bit 0 = l := by
  apply List.ext_getElem?
  intro i
  rw [burst_get, eb_zero]
  rcases h : l[i]? with _ | b
  · rfl
  · simp
theorem Tryd.inf5C : (Tryd.prog.info? 5).map (fun i => (i.zero, i.size, i.bytes)) = some (some (.int .u8 0), 1, 1) := by kernel_rfl
/-- hands back a row that reads as l; memory has only been made -/
def TellC (w : World) (l : List UInt8) (e : Ending) (w' : World) : Prop := ∃ r, e = .returned r ∧ RdV w' w'.heap.size r (bv l) ∧ Below w.heap.size w w'
/-- the first k bytes are turned -/
def burstTo (l : List UInt8) (bit : Int) (p k : Nat) : List UInt8 := l.mapIdx fun i b => if i < k then UInt8.ofNat (b.toNat ^^^ eb bit p i) else b
theorem i64_and7 (n : Nat) (h : n < 9223372036854775808) : bits .and .i64 (n : Int) 7 = ((n % 8 : Nat) : Int) := by
  have := bits_mask .i64 63 (by decide) (fun n h0 h1 => by rw [IntKind.wrap_i64]; omega) 3 (by decide) (n : Int) (by omega) (by omega)
  rw [show ((2 : Int) ^ 3 - 1) = 7 from rfl] at this
  rw [this]; simp
theorem burstTo_get (l : List UInt8) (bit : Int) (p k i : Nat) : (burstTo l bit p k)[i]? = l[i]?.map fun b => if i < k then UInt8.ofNat (b.toNat ^^^ eb bit p i) else b := by simp [burstTo]
theorem burstTo_length (l : List UInt8) (bit : Int) (p k : Nat) : (burstTo l bit p k).length = l.length := by simp [burstTo]
theorem burstTo_low (l : List UInt8) (n p k : Nat) (hk : k ≤ n / 8) : burstTo l n p k = l := by
  apply List.ext_getElem?
  intro i
  rw [burstTo_get]
  rcases h : l[i]? with _ | b
  · rfl
  · by_cases hi : i < k
    · have : eb n p i = 0 := by unfold eb; rw [if_neg (by omega)]
      simp [this]
    · simp [hi]
theorem burstTo_all (l : List UInt8) (bit : Int) (p k : Nat) (hk : ∀ i, k ≤ i → i < l.length → eb bit p i = 0) : burstTo l bit p k = burst l bit p := by
  apply List.ext_getElem?
  intro i
  rw [burstTo_get, burst_get]
  rcases h : l[i]? with _ | b
  · rfl
  · by_cases hi : i < k
    · simp [hi]
    · have := hk i (by omega) (List.getElem?_eq_some_iff.1 h).1
      simp [hi, this]
theorem burstTo_set (l : List UInt8) (bit : Int) (p k : Nat) (hk : k < l.length) : (bv (burstTo l bit p k)).set k (.int .u8 ((l[k].toNat ^^^ eb bit p k : Nat) : Int)) = bv (burstTo l bit p (k + 1)) := by
  apply List.ext_getElem?
  intro i
  rw [List.getElem?_set]
  by_cases h : k = i
  · subst h
    rw [if_pos rfl, if_pos (by rw [bv_length, burstTo_length]; exact hk), bv_get, burstTo_get, List.getElem?_eq_getElem hk]
    simp only [Option.map_some, Nat.lt_succ_self, if_true]
    rw [xor_byte l[k].toNat_lt (eb_lt _ _ _)]
  · rw [if_neg h, bv_get, bv_get, burstTo_get, burstTo_get]
    rcases h2 : l[i]? with _ | b
    · rfl
    · by_cases hi : i < k
      · simp [hi, show i < k + 1 from by omega]
      · simp [hi, show ¬ i < k + 1 from by omega]
theorem eb_at (n p a : Nat) (h : n / 8 ≤ a) : eb n p a = p * 2 ^ (n % 8) / 256 ^ (a - n / 8) % 256 := by
  unfold eb
  rw [if_pos (by omega), show ((n : Int) % 8).toNat = n % 8 from by omega, show ((n : Int) / 8).toNat = n / 8 from by omega]
set_option maxRecDepth 100000 in
set_option maxHeartbeats 4000000 in
theorem burst_any (vb : Value) (l : List UInt8) (bit : Int) (p : Nat) (b0 : -9223372036854775808 ≤ bit) (b1 : bit ≤ 9223372036854775807) (hp : p < 4294967296) (hl : l.length < 4294967296) (w : World) (B : Nat) (hB : B ≤ w.heap.size) (hr : RdV w B vb (bv l)) :
    Calls Tryd.prog 16 #[vb, .int .i64 bit, .int .u32 p] w (TellC w (burst l bit p)) := by
  obtain ⟨A, c, rfl, hc1, hc2, hc3⟩ := id hr
  rw [bv_length] at hc1 hc3 hr ⊢
  clear hc3
  unfold maxLen at hc2
  by_cases hneg : bit < 0
  · have hbu : burst l bit p = l := by
      apply List.ext_getElem?
      intro i
      rw [burst_get]
      have : eb bit p i = 0 := by unfold eb; rw [if_neg (by omega)]
      rw [this]
      rcases h : l[i]? with _ | b
      · rfl
      · simp
    rw [hbu]
    clear hbu
    go_enter Tryd.func16, Tryd.ntmps16
    go_wp2_with (first
      | (at_make; refine wpList_make_rd _ rfl _ _ 23 rfl w.heap.size 5 (.int .u8 0) 1 Tryd.underlying23 Tryd.inf5C rfl .i64 .i64 l.length l.length _ _ rfl rfl rfl rfl (by omega) (by omega) (by unfold maxLen; omega) (Nat.le_refl _) ?_; intro w1 ho1 hg1)
      | (refine wpList_copy_rd _ rfl (.tmp 14) (.tmp 15) 23 23 rfl w.heap.size 5 (.int .u8 0) 1 Tryd.underlying23 Tryd.inf5C _ _ _ _ rfl ho1 _ rfl B (bv l) (hr.grown hg1 hB (by intro g h; cases h)) (bv_length l) (bv_one l) ?_; intro w2 ho2 hg2))
    go_ret
    exact ⟨_, rfl, RdV.own ho2, ((Below.refl _ _).grown hg1 (Nat.le_refl _) (by intro g h; cases h)).grown hg2 hg1.size (by intro g h; injection h with h; omega)⟩
  · obtain ⟨n, rfl⟩ := Int.eq_ofNat_of_zero_le (show 0 ≤ bit by omega)
    have h7 := i64_and7 n (by omega)
    have hk8 : n % 8 < 8 := by omega
    generalize hk : n % 8 = k at *
    have HK := Lib.hid hk
    clear hk
    go_enter Tryd.func16, Tryd.ntmps16
    go_wp2_with (first
      | (at_make; refine wpList_make_rd _ rfl _ _ 23 rfl w.heap.size 5 (.int .u8 0) 1 Tryd.underlying23 Tryd.inf5C rfl .i64 .i64 l.length l.length _ _ rfl rfl rfl rfl (by omega) (by omega) (by unfold maxLen; omega) (Nat.le_refl _) ?_; intro w1 ho1 hg1)
      | (refine wpList_copy_rd _ rfl (.tmp 14) (.tmp 15) 23 23 rfl w.heap.size 5 (.int .u8 0) 1 Tryd.underlying23 Tryd.inf5C _ _ _ _ rfl ho1 _ rfl B (bv l) (hr.grown hg1 hB (by intro g h; cases h)) (bv_length l) (bv_one l) ?_; intro w2 ho2 hg2))
    have hT0 : p * 2 ^ k < 549755813888 := by
      have h1 : 2 ^ k ≤ 128 := by
        have := Nat.pow_le_pow_right (n := 2) (by decide) (show k ≤ 7 by omega)
        simpa using this
      have h2 : p * 2 ^ k ≤ p * 128 := Nat.mul_le_mul_left p h1
      omega
    have hwr : IntKind.u64.wrap ((p : Int) * 2 ^ k) = ((p * 2 ^ k : Nat) : Int) := by
      rw [show ((p : Int) * 2 ^ k) = ((p * 2 ^ k : Nat) : Int) from by simp, IntKind.wrap_u64]; omega
    rw [hwr]
    generalize hT : p * 2 ^ k = T at *
    have HT := Lib.hid hT
    have hb2 : Below w.heap.size w w2 := ((Below.refl _ _).grown hg1 (Nat.le_refl _) (by intro g h; cases h)).grown hg2 hg1.size (by intro g h; injection h with h; omega)
    have hbyte : ∀ a, n / 8 ≤ a → eb n p a = T / 256 ^ (a - n / 8) % 256 := fun a ha => by rw [eb_at n p a ha, HK.out, HT.out]
    have HE := Lib.hid hbyte
    clear hT hwr h7 hbyte
    go_loopw [8, 10] (fun i t wr => ∃ a x : Nat, i = .int .i64 a ∧ t = .int .u64 x ∧ n / 8 ≤ a ∧ a ≤ 9223372036854775807 ∧ x < 549755813888 ∧ Hid (x = T / 256 ^ (a - n / 8)) ∧ wr.ownsRow w.heap.size 5 1 (.slice (some ⟨w.heap.size, 0, none⟩) l.length l.length) l.length (bv (burstTo l n p a)) ∧ Below w.heap.size w wr) (fun i _ _ => l.length - (intOf i).toNat)
    case atStart => exact ⟨n / 8, T, by first | rfl | simp, rfl, by omega, by omega, hT0, Lib.hid (by simp), by rw [burstTo_low l n p _ (Nat.le_refl _)]; exact ho2, hb2⟩
    case round =>
      obtain ⟨a, x, rfl, rfl, ha0, ha1, hx, HX, hown, hbel⟩ := hrel
      by_cases hx0 : x = 0
      · have hall : burstTo l n p a = burst l n p := burstTo_all l n p a (fun i hi _ => by
          rw [HE.out i (by omega), show i - n / 8 = (a - n / 8) + (i - a) from by omega, Nat.pow_add, ← Nat.div_div_eq_div_mul, ← HX.out, hx0]; simp)
        rw [hall] at hown
        subst hx0
        clear hall HX
        go_wp2
        go_ret
        exact ⟨_, rfl, RdV.own hown, hbel⟩
      · by_cases hlt : a < l.length
        · have hget : (burstTo l n p a)[a]? = some l[a] := by rw [burstTo_get, List.getElem?_eq_getElem hlt]; simp
          have hcell := hown.cellAt a (by omega)
          rw [bv_get, hget] at hcell
          have hfr := hown.frozenAt a
          have hst := hown.stored a (.int .u8 ((l[a].toNat ^^^ eb n p a : Nat) : Int))
          rw [burstTo_set l n p a hlt, HE.out a ha0, ← HX.out] at hst
          have hxr := u8_xor_nat l[a].toNat (x % 256) l[a].toNat_lt (by omega)
          rw [show ((x % 256 : Nat) : Int) = (x : Int) % 256 from by simp] at hxr
          have hnx : x / 256 = T / 256 ^ (a + 1 - n / 8) := by
            rw [show a + 1 - n / 8 = (a - n / 8) + 1 from by omega, Nat.pow_succ, ← Nat.div_div_eq_div_mul, ← HX.out]
          have HS := Lib.hid hst
          have HN := Lib.hid hnx
          have hlb := l[a].toNat_lt
          simp only [Option.map_some] at hcell
          generalize l[a].toNat = y at *
          clear hget hst hnx hown
          go_wp2
          go_roundw
          case rel => exact ⟨a + 1, x / 256, by go_num, by first | rfl | simp, by omega, by omega, by omega, HN, HS.out.1, hbel.grown HS.out.2 hbel.size (by intro g h; injection h with h; omega)⟩
          case measure => simp [intOf]; omega
        · have hall : burstTo l n p a = burst l n p := burstTo_all l n p a (fun i hi hi2 => by omega)
          rw [hall] at hown
          clear hall HX
          go_wp2
          go_ret
          exact ⟨_, rfl, RdV.own hown, hbel⟩
end Go.Proofs.YtclenafidfpinaaDoor
