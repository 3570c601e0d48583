/- Contracts of the functions of package ints that lay and read bytes, and of the document's own: what each returns; memory is only made. Conditions: the rows are shorter than 2^32. -/
import Derived.Test.YtpeofopknpdpaaaMem
import Derived.Test.YtpeofopknpdpaaaScal
namespace Go.Proofs.Ytpeofopknpdpaaa
open Go.ChangeShapes Go.WideShapes Go.ChangeAt Go.RowKit
set_option linter.unusedSimpArgs false
set_option linter.unusedVariables false

theorem Try.inf5 : (Try.prog.info? 5).map (fun i => (i.zero, i.size, i.bytes)) = some (some (.int .u8 0), 1, 1) := by kernel_rfl

/-- hands back a row of the call's own (from block 'base' on) that reads as l -/
def GivesB (base : Nat) (w : World) (l : List UInt8) (e : Ending) (w' : World) : Prop := ∃ r, e = .returned r ∧ w'.ownsRow base 5 1 r l.length (bv l) ∧ Below base w w'
theorem GivesB.held {base : Nat} {w : World} {l : List UInt8} {e : Ending} {w' : World} (h : GivesB base w l e w') : ∃ r, e = .returned r ∧ HeldR w' base r (bv l) ∧ Below base w w' := by
  obtain ⟨r, h1, h2, h3⟩ := h
  exact ⟨r, h1, HeldR.of_own h2, h3⟩

/-- likewise; and of what was there one row alone may have turned -/
def GivesO (base : Nat) (w : World) (vb : Value) (l : List UInt8) (e : Ending) (w' : World) : Prop := ∃ r, e = .returned r ∧ w'.ownsRow base 5 1 r l.length (bv l) ∧ Below base w w' ∧ Only w w' vb r

def PutRel (base : Nat) (w wr : World) (l : List UInt8) (v : Nat) (o u i : Value) (n : Nat) : Prop :=
  ∃ k : Nat, k ≤ n ∧ i = .int .i64 k ∧ u = .int .u64 ((v / 256 ^ k : Nat) : Int) ∧ wr.ownsRow base 5 1 o (l.length + k) (bv (l ++ Pu.putL v k)) ∧ Below base w wr

theorem put_step {base : Nat} {w wr w1 : World} {l : List UInt8} {v k : Nat} {o o' u : Value} {row : Option Nat}
    (hb : Below base w wr) (hbase : base ≤ wr.heap.size) (hown : wr.ownsRow base 5 1 o (l.length + k) (bv (l ++ Pu.putL v k))) (t : TypeId)
    (h1 : w1.ownsRow base 5 1 o' (l.length + k + [u].length) (bv (l ++ Pu.putL v k) ++ [u]))
    (hg : (wr.alloc (.cells #[u] t)).grownBy w1 row) (hrow : row = o.ownBlock) (hu : u = .int .u8 ((v / 256 ^ k % 256 : Nat) : Int)) :
    w1.ownsRow base 5 1 o' (l.length + (k + 1)) (bv (l ++ Pu.putL v (k + 1))) ∧ Below base w w1 := by
  subst hu
  constructor
  · have e : bv (l ++ Pu.putL v (k + 1)) = bv (l ++ Pu.putL v k) ++ [Value.int .u8 ((v / 256 ^ k % 256 : Nat) : Int)] := by
      rw [Pu.putL, ← List.append_assoc, bv_append]
      congr 1
    rw [e]
    exact h1
  · refine (hb.alloc hbase _).grown hg (by simp; omega) ?_
    intro g hg2
    rw [hrow] at hg2
    exact (hown.lt g hg2).1

set_option maxHeartbeats 1000000 in
theorem put_any (vb : Value) (l : List UInt8) (v : Nat) (n : Int) (hv : v < 18446744073709551616) (n0 : -9223372036854775808 ≤ n) (n1 : n ≤ 9223372036854775807) (hl : l.length < 4294967296) (w : World) (B : Nat) (hB : B ≤ w.heap.size) (hr : RdV w B vb (bv l)) :
    Calls Try.prog 19 #[vb, .int .u64 v, .int .i64 n] w (GivesB w.heap.size w (l ++ Pu.putL v (Pu.clip n))) := by
  obtain ⟨A, c, rfl, hc1, hc2, hc3⟩ := id hr
  rw [bv_length] at hc1 hc3 hr ⊢
  clear hc3
  obtain ⟨m, hm, hm64, hcase⟩ : ∃ m : Nat, Pu.clip n = m ∧ m ≤ 64 ∧ ((n < 0 ∧ m = 0) ∨ (64 < n ∧ m = 64) ∨ n = m) := ⟨Pu.clip n, rfl, Pu.clip_le n, by unfold Pu.clip; split <;> (try split) <;> omega⟩
  rw [hm]
  clear hm
  have hunb : w.heap.size ≤ w.heap.size := Nat.le_refl _
  rcases hcase with ⟨hn, rfl⟩ | ⟨hn, rfl⟩ | rfl
  · go_enter Try.func19, Try.ntmps19
    go_wp2_with (first
      | (at_make; refine wpList_make_rd _ rfl _ _ 29 rfl w.heap.size 5 (.int .u8 0) 1 Try.underlying29 Try.inf5 rfl .i64 .i64 l.length (l.length + 0) _ _ rfl rfl rfl (by simp) (by omega) (by omega) (by unfold maxLen; omega) (Nat.le_refl _) ?_; intro w1 ho1 hg1)
      | (refine wpList_copy_rd _ rfl (.tmp 18) (.tmp 19) 29 29 rfl w.heap.size 5 (.int .u8 0) 1 Try.underlying29 Try.inf5 _ _ _ _ rfl ho1 _ rfl B (bv l) (hr.grown hg1 hB (by intro g h; cases h)) (bv_length l) (bv_one l) ?_; intro w2 ho2 hg2))
    go_loopw [1, 7, 22] (fun u o i wr => PutRel w.heap.size w wr l v o u i 0) (fun _ _ i _ => 0 - (intOf i).toNat)
    case atStart => exact ⟨0, by omega, rfl, by simp, by simpa [Pu.putL] using ho2, ((Below.refl _ _).grown hg1 (Nat.le_refl _) (by intro g h; cases h)).grown hg2 hg1.size (by intro g h; injection h with h; omega)⟩
    case round =>
      obtain ⟨k, hk, rfl, rfl, hown, hbel⟩ := hrel
      have hsz := hbel.size
      obtain rfl : k = 0 := by omega
      go_wp2
      go_ret
      exact ⟨_, rfl, by simpa [Pu.putL_length] using hown, hbel⟩
  · go_enter Try.func19, Try.ntmps19
    go_wp2_with (first
      | (at_make; refine wpList_make_rd _ rfl _ _ 29 rfl w.heap.size 5 (.int .u8 0) 1 Try.underlying29 Try.inf5 rfl .i64 .i64 l.length (l.length + 64) _ _ rfl rfl rfl (by simp) (by omega) (by omega) (by unfold maxLen; omega) (Nat.le_refl _) ?_; intro w1 ho1 hg1)
      | (refine wpList_copy_rd _ rfl (.tmp 18) (.tmp 19) 29 29 rfl w.heap.size 5 (.int .u8 0) 1 Try.underlying29 Try.inf5 _ _ _ _ rfl ho1 _ rfl B (bv l) (hr.grown hg1 hB (by intro g h; cases h)) (bv_length l) (bv_one l) ?_; intro w2 ho2 hg2))
    go_loopw [1, 7, 22] (fun u o i wr => PutRel w.heap.size w wr l v o u i 64) (fun _ _ i _ => 64 - (intOf i).toNat)
    case atStart => exact ⟨0, by omega, rfl, by simp, by simpa [Pu.putL] using ho2, ((Below.refl _ _).grown hg1 (Nat.le_refl _) (by intro g h; cases h)).grown hg2 hg1.size (by intro g h; injection h with h; omega)⟩
    case round =>
      obtain ⟨k, hk, rfl, rfl, hown, hbel⟩ := hrel
      have hsz := hbel.size
      by_cases hlt : k < 64
      · go_wp2_with (at_builtin; refine wpList_append_rd _ rfl _ _ 29 rfl w.heap.size 5 (.int .u8 0) 1 Try.underlying29 Try.inf5 rfl _ _ _ rfl (hown.alloc _) _ rfl _ _ (RdV.one _ _ _) (by intro u hu; simp at hu; subst hu; rfl) (by simp; omega) (by omega) (by simp; omega) ?_; intro o' w1 ho1' hg1' _)
        have hps := put_step hbel hsz hown _ ho1' hg1' rfl (by simp)
        go_roundw
        case rel => exact ⟨k + 1, by omega, by go_num, by rw [Nat.pow_succ, ← Nat.div_div_eq_div_mul]; simp, hps.1, hps.2⟩
        case measure => simp [intOf]; omega
      · obtain rfl : k = 64 := by omega
        go_wp2
        go_ret
        exact ⟨_, rfl, by simpa [Pu.putL_length] using hown, hbel⟩
  · go_enter Try.func19, Try.ntmps19
    go_wp2_with (first
      | (at_make; refine wpList_make_rd _ rfl _ _ 29 rfl w.heap.size 5 (.int .u8 0) 1 Try.underlying29 Try.inf5 rfl .i64 .i64 l.length (l.length + m) _ _ rfl rfl rfl (by simp) (by omega) (by omega) (by unfold maxLen; omega) (Nat.le_refl _) ?_; intro w1 ho1 hg1)
      | (refine wpList_copy_rd _ rfl (.tmp 18) (.tmp 19) 29 29 rfl w.heap.size 5 (.int .u8 0) 1 Try.underlying29 Try.inf5 _ _ _ _ rfl ho1 _ rfl B (bv l) (hr.grown hg1 hB (by intro g h; cases h)) (bv_length l) (bv_one l) ?_; intro w2 ho2 hg2))
    go_loopw [1, 7, 22] (fun u o i wr => PutRel w.heap.size w wr l v o u i m) (fun _ _ i _ => m - (intOf i).toNat)
    case atStart => exact ⟨0, by omega, rfl, by simp, by simpa [Pu.putL] using ho2, ((Below.refl _ _).grown hg1 (Nat.le_refl _) (by intro g h; cases h)).grown hg2 hg1.size (by intro g h; injection h with h; omega)⟩
    case round =>
      obtain ⟨k, hk, rfl, rfl, hown, hbel⟩ := hrel
      have hsz := hbel.size
      by_cases hlt : k < m
      · go_wp2_with (at_builtin; refine wpList_append_rd _ rfl _ _ 29 rfl w.heap.size 5 (.int .u8 0) 1 Try.underlying29 Try.inf5 rfl _ _ _ rfl (hown.alloc _) _ rfl _ _ (RdV.one _ _ _) (by intro u hu; simp at hu; subst hu; rfl) (by simp; omega) (by omega) (by simp; omega) ?_; intro o' w1 ho1' hg1' _)
        have hps := put_step hbel hsz hown _ ho1' hg1' rfl (by simp)
        go_roundw
        case rel => exact ⟨k + 1, by omega, by go_num, by rw [Nat.pow_succ, ← Nat.div_div_eq_div_mul]; simp, hps.1, hps.2⟩
        case measure => simp [intOf]; omega
      · obtain rfl : k = m := by omega
        go_wp2
        go_ret
        exact ⟨_, rfl, by simpa [Pu.putL_length] using hown, hbel⟩

theorem take_id (l : List UInt8) (n : Nat) (h : l.length ≤ n) : l.take n = l := List.take_of_length_le h

set_option maxHeartbeats 1000000 in
theorem get_any (vb : Value) (l : List UInt8) (n : Int) (n0 : -9223372036854775808 ≤ n) (n1 : n ≤ 9223372036854775807) (hl : l.length < 4294967296) (w : World) (B : Nat) (hr : RdV w B vb (bv l)) :
    Calls Try.prog 21 #[vb, .int .i64 n] w fun e w' => e = .returned (.tuple #[.int .u64 (Pu.getV l n : Nat), .bool (Pu.getB l n)]) ∧ w = w' := by
  obtain ⟨A, c, rfl, hc1, hc2, hc3⟩ := id hr
  rw [bv_length] at hc1 hc3 hr ⊢
  clear hc3
  by_cases hc : 0 ≤ n ∧ n ≤ 8 ∧ n ≤ (l.length : Int)
  · have hb : Pu.getB l n = true := by unfold Pu.getB; simpa using hc
    have hv : Pu.getV l n = Pu.leN (l.take n.toNat) := by unfold Pu.getV; rw [if_pos hb]
    rw [hb, hv]
    obtain ⟨c1, c2, c3⟩ := hc
    obtain ⟨m, rfl⟩ := Int.eq_ofNat_of_zero_le c1
    rw [Int.toNat_natCast]
    clear hb hv
    go_enter Try.func21, Try.ntmps21
    go_wp2
    go_loop [6, 21] (fun u i => ∃ k : Nat, k ≤ m ∧ i = .int .i64 k ∧ u = .int .u64 (Pu.leN (l.take k) : Nat)) (fun _ i => m - (intOf i).toNat)
    case atStart => exact ⟨0, by omega, rfl, rfl⟩
    case round =>
      obtain ⟨k, hk, rfl, rfl⟩ := hrel
      by_cases hlt : k < m
      · have hkl : k < l.length := by omega
        obtain ⟨b, off, rfl, hbB, hcell⟩ := hr.get (j := k) (u := .int .u8 (l[k].toNat : Int)) (by rw [bv_get, List.getElem?_eq_getElem hkl]; rfl)
        have hb := (l[k]).toNat_lt
        generalize hX : (l[k]).toNat = x at *
        have HX := Lib.hid hX
        clear hX
        go_wp2
        go_round
        case rel =>
          refine ⟨k + 1, by omega, by go_num, ?_⟩
          have h1 := Pu.leN_lt (l.take k)
          rw [List.length_take, Nat.min_eq_left (by omega), show 256 ^ k = 2 ^ (8 * k) from by rw [Nat.pow_mul]] at h1
          rw [Pu.or_up _ _ (8 * k) 8 h1 hb (by omega), Pu.leN_take l k hkl, HX.out, Nat.pow_mul]
        case measure => simp [intOf]; omega
      · obtain rfl : k = m := by omega
        go_wp2
        go_ret2
        exact ⟨rfl, rfl⟩
  · have hb : Pu.getB l n = false := by unfold Pu.getB; simpa using hc
    have hv : Pu.getV l n = 0 := by unfold Pu.getV; rw [hb]; rfl
    rw [hb, hv]
    clear hb hv
    by_cases c1 : n < 0
    · go_enter Try.func21, Try.ntmps21
      go_wp2
      go_ret2
      exact ⟨rfl, rfl⟩
    · by_cases c2 : 8 < n
      · go_enter Try.func21, Try.ntmps21
        go_wp2
        go_ret2
        exact ⟨rfl, rfl⟩
      · have c3 : (l.length : Int) < n := by omega
        go_enter Try.func21, Try.ntmps21
        go_wp2
        go_ret2
        exact ⟨rfl, rfl⟩

set_option maxHeartbeats 1000000 in
theorem rget_any (vb : Value) (l : List UInt8) (n : Int) (n0 : -9223372036854775808 ≤ n) (n1 : n ≤ 9223372036854775807) (hl : l.length < 4294967296) (w : World) (B : Nat) (hr : RdV w B vb (bv l)) :
    Calls Try.prog 22 #[vb, .int .i64 n] w fun e w' => e = .returned (.tuple #[.int .u64 (Pu.getV l n : Nat), .bool (Pu.getB l n)]) ∧ w = w' := by
  obtain ⟨A, c, rfl, hc1, hc2, hc3⟩ := id hr
  rw [bv_length] at hc1 hc3 hr ⊢
  clear hc3
  by_cases hc : 0 ≤ n ∧ n ≤ 8 ∧ n ≤ (l.length : Int)
  · have hb : Pu.getB l n = true := by unfold Pu.getB; simpa using hc
    have hv : Pu.getV l n = Pu.leN (l.take n.toNat) := by unfold Pu.getV; rw [if_pos hb]
    rw [hb, hv]
    obtain ⟨c1, c2, c3⟩ := hc
    obtain ⟨m, rfl⟩ := Int.eq_ofNat_of_zero_le c1
    rw [Int.toNat_natCast]
    clear hb hv
    have hml : m ≤ l.length := by omega
    have hm8 : m ≤ 8 := by omega
    go_enter Try.func22, Try.ntmps22
    go_wp2
    go_loop [6, 7] (fun u i => ∃ k : Nat, k ≤ m ∧ i = .int .i64 ((k : Int) - 1) ∧ u = .int .u64 (Pu.leN ((l.take m).drop k) : Nat)) (fun _ i => (intOf i + 1).toNat)
    case atStart => exact ⟨m, by omega, rfl, by rw [List.drop_eq_nil_of_le (by rw [List.length_take]; omega)]; rfl⟩
    case round =>
      obtain ⟨k, hk, rfl, rfl⟩ := hrel
      by_cases hlt : 0 < k
      · obtain ⟨j, rfl⟩ : ∃ j, k = j + 1 := ⟨k - 1, by omega⟩
        have hkl : j < l.length := by omega
        obtain ⟨b, off, rfl, hbB, hcell⟩ := hr.get (j := j) (u := .int .u8 (l[j].toNat : Int)) (by rw [bv_get, List.getElem?_eq_getElem hkl]; rfl)
        have hb := (l[j]).toNat_lt
        have hd := Pu.leN_drop (l.take m) j (by rw [List.length_take]; omega)
        rw [List.getElem_take] at hd
        have hlt := Pu.leN_lt ((l.take m).drop (j + 1))
        have hpw : 256 ^ ((l.take m).drop (j + 1)).length ≤ 256 ^ 7 := Nat.pow_le_pow_right (by omega) (by rw [List.length_drop, List.length_take]; omega)
        have hlt2 : Pu.leN ((l.take m).drop (j + 1)) < 72057594037927936 := by omega
        clear hlt hpw
        generalize hX : (l[j]).toNat = x at *
        generalize hY : Pu.leN ((l.take m).drop (j + 1)) = y at *
        have HX := Lib.hid hX
        have HY := Lib.hid hY
        have HD := Lib.hid hd
        clear hX hY hd
        rw [show (((j + 1 : Nat) : Int) - 1) = (j : Int) from by omega]
        go_wp2
        go_round
        case rel => exact ⟨j, by omega, rfl, by rw [HD.out]; go_num⟩
        case measure => simp [intOf]
      · obtain rfl : k = 0 := by omega
        go_wp2
        go_ret2
        exact ⟨rfl, rfl⟩
  · have hb : Pu.getB l n = false := by unfold Pu.getB; simpa using hc
    have hv : Pu.getV l n = 0 := by unfold Pu.getV; rw [hb]; rfl
    rw [hb, hv]
    clear hb hv
    by_cases c1 : n < 0
    · go_enter Try.func22, Try.ntmps22
      go_wp2
      go_ret2
      exact ⟨rfl, rfl⟩
    · by_cases c2 : 8 < n
      · go_enter Try.func22, Try.ntmps22
        go_wp2
        go_ret2
        exact ⟨rfl, rfl⟩
      · have c3 : (l.length : Int) < n := by omega
        go_enter Try.func22, Try.ntmps22
        go_wp2
        go_ret2
        exact ⟨rfl, rfl⟩

set_option maxHeartbeats 1000000 in
theorem rput_any (vb : Value) (l : List UInt8) (v : Nat) (n : Int) (hv : v < 18446744073709551616) (n0 : -9223372036854775808 ≤ n) (n1 : n ≤ 9223372036854775807) (hl : l.length < 4294967296) (w : World) (base : Nat) (hB : base ≤ w.heap.size) (hown0 : w.ownsRow base 5 1 vb l.length (bv l)) :
    Calls Try.prog 20 #[vb, .int .u64 v, .int .i64 n] w (GivesO base w vb (l ++ Pu.putL v (Pu.clip n))) := by
  obtain ⟨m, hm, hm64, hcase⟩ : ∃ m : Nat, Pu.clip n = m ∧ m ≤ 64 ∧ ((n < 0 ∧ m = 0) ∨ (64 < n ∧ m = 64) ∨ n = m) := ⟨Pu.clip n, rfl, Pu.clip_le n, by unfold Pu.clip; split <;> (try split) <;> omega⟩
  rw [hm]
  clear hm
  rcases hcase with ⟨hn, rfl⟩ | ⟨hn, rfl⟩ | rfl
  · go_enter Try.func20, Try.ntmps20
    go_wp2
    go_loopw [0, 1, 7] (fun o u i wr => PutRel base w wr l v o u i 0 ∧ Only w wr vb o) (fun _ _ i _ => 0 - (intOf i).toNat)
    case atStart => exact ⟨⟨0, by omega, rfl, by simp, by simpa [Pu.putL] using hown0, Below.refl _ _⟩, Only.refl _ _⟩
    case round =>
      obtain ⟨⟨k, hk, rfl, rfl, hown, hbel⟩, honly⟩ := hrel
      have hsz := hbel.size
      by_cases hlt : (k : Int) < n
      · exfalso; omega
      · obtain rfl : k = 0 := by omega
        go_wp2
        go_ret
        exact ⟨_, rfl, by simpa [Pu.putL_length] using hown, hbel, honly⟩
  · go_enter Try.func20, Try.ntmps20
    go_wp2
    go_loopw [0, 1, 7] (fun o u i wr => PutRel base w wr l v o u i 64 ∧ Only w wr vb o) (fun _ _ i _ => 64 - (intOf i).toNat)
    case atStart => exact ⟨⟨0, by omega, rfl, by simp, by simpa [Pu.putL] using hown0, Below.refl _ _⟩, Only.refl _ _⟩
    case round =>
      obtain ⟨⟨k, hk, rfl, rfl, hown, hbel⟩, honly⟩ := hrel
      have hsz := hbel.size
      by_cases hlt : k < 64
      · have hxx : v / 256 ^ k < 18446744073709551616 := Nat.lt_of_le_of_lt (Nat.div_le_self _ _) hv
        generalize hX : v / 256 ^ k = x at *
        have HX := Lib.hid hX
        clear hX
        go_wp2_with (at_builtin; refine wpList_append_rd _ rfl _ _ 29 rfl base 5 (.int .u8 0) 1 Try.underlying29 Try.inf5 rfl _ _ _ rfl (hown.alloc _) _ rfl _ _ (RdV.one _ _ _) (by intro u hu; simp at hu; subst hu; rfl) (by simp; omega) (by omega) (by simp; omega) ?_; intro o' w1 ho1' hg1' hw1')
        have hps := put_step hbel (by omega) hown _ ho1' hg1' rfl (by rw [← HX.out]; simp)
        go_roundw
        case rel => exact ⟨⟨k + 1, by omega, by go_num, by rw [Nat.pow_succ, ← Nat.div_div_eq_div_mul, HX.out]; simp, hps.1, hps.2⟩, honly.step hg1' hw1'⟩
        case measure => simp [intOf]; omega
      · obtain rfl : k = 64 := by omega
        go_wp2
        go_ret
        exact ⟨_, rfl, by simpa [Pu.putL_length] using hown, hbel, honly⟩
  · go_enter Try.func20, Try.ntmps20
    go_wp2
    go_loopw [0, 1, 7] (fun o u i wr => PutRel base w wr l v o u i m ∧ Only w wr vb o) (fun _ _ i _ => m - (intOf i).toNat)
    case atStart => exact ⟨⟨0, by omega, rfl, by simp, by simpa [Pu.putL] using hown0, Below.refl _ _⟩, Only.refl _ _⟩
    case round =>
      obtain ⟨⟨k, hk, rfl, rfl, hown, hbel⟩, honly⟩ := hrel
      have hsz := hbel.size
      by_cases hlt : k < m
      · have hxx : v / 256 ^ k < 18446744073709551616 := Nat.lt_of_le_of_lt (Nat.div_le_self _ _) hv
        generalize hX : v / 256 ^ k = x at *
        have HX := Lib.hid hX
        clear hX
        go_wp2_with (at_builtin; refine wpList_append_rd _ rfl _ _ 29 rfl base 5 (.int .u8 0) 1 Try.underlying29 Try.inf5 rfl _ _ _ rfl (hown.alloc _) _ rfl _ _ (RdV.one _ _ _) (by intro u hu; simp at hu; subst hu; rfl) (by simp; omega) (by omega) (by simp; omega) ?_; intro o' w1 ho1' hg1' hw1')
        have hps := put_step hbel (by omega) hown _ ho1' hg1' rfl (by rw [← HX.out]; simp)
        go_roundw
        case rel => exact ⟨⟨k + 1, by omega, by go_num, by rw [Nat.pow_succ, ← Nat.div_div_eq_div_mul, HX.out]; simp, hps.1, hps.2⟩, honly.step hg1' hw1'⟩
        case measure => simp [intOf]; omega
      · obtain rfl : k = m := by omega
        go_wp2
        go_ret
        exact ⟨_, rfl, by simpa [Pu.putL_length] using hown, hbel, honly⟩

set_option maxHeartbeats 1000000 in
theorem field_any (vb : Value) (l : List UInt8) (a n : Int) (a0 : -9223372036854775808 ≤ a) (a1 : a ≤ 9223372036854775807) (n0 : -9223372036854775808 ≤ n) (n1 : n ≤ 9223372036854775807) (hl : l.length < 4294967296) (w : World) (B : Nat) (hr : RdV w B vb (bv l)) :
    Calls Try.prog 25 #[vb, .int .i64 a, .int .i64 n] w fun e w' => e = .returned (.tuple #[.int .u64 (Pu.fieldV l a n : Nat), .bool (Pu.fieldB l a n)]) ∧ w = w' := by
  obtain ⟨A, c, rfl, hc1, hc2, hc3⟩ := id hr
  rw [bv_length] at hc1 hc3 hr ⊢
  clear hc3
  by_cases hc : 0 ≤ n ∧ n ≤ 64 ∧ 0 ≤ a ∧ a + n ≤ 8 * (l.length : Int)
  · have hb : Pu.fieldB l a n = true := by unfold Pu.fieldB; simpa using hc
    have hv : Pu.fieldV l a n = Pu.fieldN l a.toNat n.toNat := by unfold Pu.fieldV; rw [if_pos hb]
    rw [hb, hv]
    obtain ⟨c1, c2, c3, c4⟩ := hc
    obtain ⟨m, rfl⟩ := Int.eq_ofNat_of_zero_le c1
    obtain ⟨q, rfl⟩ := Int.eq_ofNat_of_zero_le c3
    rw [Int.toNat_natCast, Int.toNat_natCast]
    clear hb hv
    go_enter Try.func25, Try.ntmps25
    go_wp2
    go_loop [8, 38] (fun u i => ∃ k : Nat, k ≤ m ∧ i = .int .i64 k ∧ u = .int .u64 (Pu.fieldN l q k : Nat)) (fun _ i => m - (intOf i).toNat)
    case atStart => exact ⟨0, by omega, rfl, rfl⟩
    case round =>
      obtain ⟨k, hk, rfl, rfl⟩ := hrel
      by_cases hlt : k < m
      · have hkl : (q + k) / 8 < l.length := by omega
        obtain ⟨b, off, rfl, hbB, hcell⟩ := hr.get (j := (q + k) / 8) (u := .int .u8 (l[(q + k) / 8].toNat : Int)) (by rw [bv_get, List.getElem?_eq_getElem hkl]; rfl)
        have hb := (l[(q + k) / 8]).toNat_lt
        generalize hX : (l[(q + k) / 8]).toNat = x at *
        have HX := Lib.hid hX
        clear hX
        have hand : bits .and .i64 ((q : Int) + (k : Int)) 7 = (((q + k) % 8 : Nat) : Int) := by rw [← Int.natCast_add]; exact Pu.i64_and7 _ (by omega)
        generalize hY : (q + k) % 8 = y at *
        have hy : y < 8 := by omega
        have HY := Lib.hid hY
        clear hY
        go_wp2
        go_round
        case rel => exact ⟨k + 1, by omega, by go_num, by rw [Pu.field_or hkl HX.out HY.out (by omega) hb]⟩
        case measure => simp [intOf]; omega
      · obtain rfl : k = m := by omega
        go_wp2
        go_ret2
        exact ⟨rfl, rfl⟩
  · have hb : Pu.fieldB l a n = false := by unfold Pu.fieldB; simp; omega
    have hv : Pu.fieldV l a n = 0 := by unfold Pu.fieldV; rw [hb]; rfl
    rw [hb, hv]
    clear hb hv
    by_cases c1 : n < 0
    · go_enter Try.func25, Try.ntmps25
      go_wp2
      go_ret2
      exact ⟨rfl, rfl⟩
    · by_cases c2 : 64 < n
      · go_enter Try.func25, Try.ntmps25
        go_wp2
        go_ret2
        exact ⟨rfl, rfl⟩
      · by_cases c3 : a < 0
        · go_enter Try.func25, Try.ntmps25
          go_wp2
          go_ret2
          exact ⟨rfl, rfl⟩
        · by_cases c4 : (l.length : Int) < a / 8
          · go_enter Try.func25, Try.ntmps25
            go_wp2
            go_ret2
            exact ⟨rfl, rfl⟩
          · have c5 : (l.length : Int) * 8 < a + n := by omega
            go_enter Try.func25, Try.ntmps25
            go_wp2
            go_ret2
            exact ⟨rfl, rfl⟩

set_option maxHeartbeats 1000000 in
theorem rfield_any (vb : Value) (l : List UInt8) (a n : Int) (a0 : -9223372036854775808 ≤ a) (a1 : a ≤ 9223372036854775807) (n0 : -9223372036854775808 ≤ n) (n1 : n ≤ 9223372036854775807) (hl : l.length < 4294967296) (w : World) (B : Nat) (hr : RdV w B vb (bv l)) :
    Calls Try.prog 26 #[vb, .int .i64 a, .int .i64 n] w fun e w' => e = .returned (.tuple #[.int .u64 (Pu.fieldV l a n : Nat), .bool (Pu.fieldB l a n)]) ∧ w = w' := by
  obtain ⟨A, c, rfl, hc1, hc2, hc3⟩ := id hr
  rw [bv_length] at hc1 hc3 hr ⊢
  clear hc3
  by_cases hc : 0 ≤ n ∧ n ≤ 64 ∧ 0 ≤ a ∧ a + n ≤ 8 * (l.length : Int)
  · have hb : Pu.fieldB l a n = true := by unfold Pu.fieldB; simpa using hc
    have hv : Pu.fieldV l a n = Pu.fieldN l a.toNat n.toNat := by unfold Pu.fieldV; rw [if_pos hb]
    rw [hb, hv]
    obtain ⟨c1, c2, c3, c4⟩ := hc
    obtain ⟨m, rfl⟩ := Int.eq_ofNat_of_zero_le c1
    obtain ⟨q, rfl⟩ := Int.eq_ofNat_of_zero_le c3
    rw [Int.toNat_natCast, Int.toNat_natCast]
    clear hb hv
    go_enter Try.func26, Try.ntmps26
    go_wp2
    go_loop [8, 9] (fun u i => ∃ k : Nat, k ≤ m ∧ i = .int .i64 ((k : Int) - 1) ∧ u = .int .u64 (Pu.fieldN l (q + k) (m - k) : Nat)) (fun _ i => (intOf i + 1).toNat)
    case atStart => exact ⟨m, by omega, rfl, by rw [Nat.sub_self]; rfl⟩
    case round =>
      obtain ⟨k, hk, rfl, rfl⟩ := hrel
      by_cases hlt : 0 < k
      · obtain ⟨j, rfl⟩ : ∃ j, k = j + 1 := ⟨k - 1, by omega⟩
        have hkl : (q + j) / 8 < l.length := by omega
        obtain ⟨b, off, rfl, hbB, hcell⟩ := hr.get (j := (q + j) / 8) (u := .int .u8 (l[(q + j) / 8].toNat : Int)) (by rw [bv_get, List.getElem?_eq_getElem hkl]; rfl)
        have hb := (l[(q + j) / 8]).toNat_lt
        generalize hX : (l[(q + j) / 8]).toNat = x at *
        have HX := Lib.hid hX
        clear hX
        have hlt1 := Pu.fieldN_lt l (q + (j + 1)) (m - (j + 1))
        have hpw : 2 ^ (m - (j + 1)) ≤ 2 ^ 63 := Nat.pow_le_pow_right (by omega) (by omega)
        have hlt2 : Pu.fieldN l (q + (j + 1)) (m - (j + 1)) < 9223372036854775808 := by omega
        have hd := Pu.field_add hkl HX.out rfl hb (m - (j + 1))
        rw [show m - (j + 1) + 1 = m - j from by omega] at hd
        have hbt : 0 ≤ bits .and .u8 ((x : Int) / 2 ^ ((q + j) % 8)) 1 ∧ bits .and .u8 ((x : Int) / 2 ^ ((q + j) % 8)) 1 ≤ 1 := by
          have e1 : (x : Int) / 2 ^ ((q + j) % 8) = ((x / 2 ^ ((q + j) % 8) : Nat) : Int) := by simp
          have h1 : x / 2 ^ ((q + j) % 8) ≤ x := Nat.div_le_self _ _
          rw [e1, Pu.u8_mask1 _ (by omega)]
          omega
        obtain ⟨hbt1, hbt2⟩ := hbt
        clear hlt1 hpw
        have HD := Lib.hid hd
        clear hd
        rw [show (((j + 1 : Nat) : Int) - 1) = (j : Int) from by omega]
        generalize hY : Pu.fieldN l (q + (j + 1)) (m - (j + 1)) = y at *
        have HY := Lib.hid hY
        clear hY
        have hqj : (((q : Int) + (j : Int)) % 8) = (((q + j) % 8 : Nat) : Int) := by omega
        generalize hZ : (q + j) % 8 = z at *
        have hz8 : z < 8 := by omega
        have HZ := Lib.hid hZ
        clear hZ
        go_wp2
        go_round
        case rel => exact ⟨j, by omega, by go_num, by rw [← HD.out]⟩
        case measure => simp [intOf]
      · obtain rfl : k = 0 := by omega
        go_wp2
        go_ret2
        exact ⟨rfl, rfl⟩
  · have hb : Pu.fieldB l a n = false := by unfold Pu.fieldB; simp; omega
    have hv : Pu.fieldV l a n = 0 := by unfold Pu.fieldV; rw [hb]; rfl
    rw [hb, hv]
    clear hb hv
    by_cases c1 : n < 0
    · go_enter Try.func26, Try.ntmps26
      go_wp2
      go_ret2
      exact ⟨rfl, rfl⟩
    · by_cases c2 : 64 < n
      · go_enter Try.func26, Try.ntmps26
        go_wp2
        go_ret2
        exact ⟨rfl, rfl⟩
      · by_cases c3 : a < 0
        · go_enter Try.func26, Try.ntmps26
          go_wp2
          go_ret2
          exact ⟨rfl, rfl⟩
        · by_cases c4 : 8 * (l.length : Int) < a
          · go_enter Try.func26, Try.ntmps26
            go_wp2
            go_ret2
            exact ⟨rfl, rfl⟩
          · have c5 : 8 * (l.length : Int) - a < n := by omega
            go_enter Try.func26, Try.ntmps26
            go_wp2
            go_ret2
            exact ⟨rfl, rfl⟩

/-- hands back a row that reads as l, made by the call -/
def TellsB (w : World) (l : List UInt8) (e : Ending) (w' : World) : Prop := ∃ r, e = .returned r ∧ RdV w' w'.heap.size r (bv l) ∧ Below w.heap.size w w'
/-- likewise, and the row has no spare room -/
def FullB (w : World) (l : List UInt8) (e : Ending) (w' : World) : Prop := ∃ g, e = .returned (.slice (some ⟨g, 0, none⟩) l.length l.length) ∧ RdV w' w'.heap.size (.slice (some ⟨g, 0, none⟩) l.length l.length) (bv l) ∧ Below w.heap.size w w' ∧ w.heap.size ≤ g ∧ g < w'.heap.size
theorem FullB.held {w : World} {l : List UInt8} {e : Ending} {w' : World} (h : FullB w l e w') : ∃ r, e = .returned r ∧ HeldR w' w.heap.size r (bv l) ∧ Below w.heap.size w w' := by
  obtain ⟨g, h1, h2, h3, h4, h5⟩ := h
  refine ⟨_, h1, ⟨h2, fun k hk => ?_⟩, h3⟩
  simp [Value.ownBlock] at hk
  omega
theorem FullB.tells {w : World} {l : List UInt8} {e : Ending} {w' : World} (h : FullB w l e w') : TellsB w l e w' := by
  obtain ⟨g, h1, h2, h3, _⟩ := h
  exact ⟨_, h1, h2, h3⟩

def VarRel (base : Nat) (w wr : World) (l : List UInt8) (v : Nat) (o u : Value) : Prop :=
  ∃ (k x : Nat) (pre : List UInt8), k ≤ 9 ∧ pre.length = k ∧ Hid (pre ++ Pu.varF (10 - k) x = Pu.varL v) ∧ x < 2 ^ (64 - 7 * k) ∧ x < 18446744073709551616 ∧ u = .int .u64 x ∧ wr.ownsRow base 5 1 o (l.length + k) (bv (l ++ pre)) ∧ Below base w wr

theorem own_step {base : Nat} {w wr w1 : World} {l : List UInt8} {n : Nat} {o o' u : Value} {row : Option Nat} {b : UInt8}
    (hb : Below base w wr) (hbase : base ≤ wr.heap.size) (hown : wr.ownsRow base 5 1 o n (bv l)) (t : TypeId)
    (h1 : w1.ownsRow base 5 1 o' (n + [u].length) (bv l ++ [u]))
    (hg : (wr.alloc (.cells #[u] t)).grownBy w1 row) (hrow : row = o.ownBlock) (hu : u = .int .u8 (b.toNat : Int)) :
    w1.ownsRow base 5 1 o' (n + 1) (bv (l ++ [b])) ∧ Below base w w1 := by
  subst hu
  constructor
  · rw [bv_append]; exact h1
  · refine (hb.alloc hbase _).grown hg (by simp; omega) ?_
    intro g hg2
    rw [hrow] at hg2
    exact (hown.lt g hg2).1

theorem RdV.short {w : World} {base : Nat} {g n cap : Nat} {xs : List Value} {e : TypeId} (h : w.ownsRow base e 1 (.slice (some ⟨g, 0, none⟩) n cap) n xs) : RdV w w.heap.size (.slice (some ⟨g, 0, none⟩) n n) xs := by
  obtain ⟨A, c, h1, h2, h3, h4⟩ := RdV.own h
  injection h1 with e1 e2 e3
  subst e1
  exact ⟨_, n, by rw [e2], by omega, by omega, h4⟩

set_option maxRecDepth 100000 in
set_option maxHeartbeats 1000000 in
theorem var_full (vb : Value) (l : List UInt8) (v : Nat) (hv : v < 18446744073709551616) (hl : l.length < 4294967296) (w : World) (B : Nat) (hB : B ≤ w.heap.size) (hr : RdV w B vb (bv l)) :
    Calls Try.prog 35 #[vb, .int .u64 v] w (FullB w (l ++ Pu.varL v)) := by
  obtain ⟨A, c, rfl, hc1, hc2, hc3⟩ := id hr
  rw [bv_length] at hc1 hc3 hr ⊢
  clear hc3
  go_enter Try.func35, Try.ntmps35
  go_wp2_with (first
      | (at_make; refine wpList_make_rd _ rfl _ _ 29 rfl w.heap.size 5 (.int .u8 0) 1 Try.underlying29 Try.inf5 rfl .i64 .i64 l.length (l.length + 10) _ _ rfl rfl rfl (by simp) (by omega) (by omega) (by unfold maxLen; omega) (Nat.le_refl _) ?_; intro w1 ho1 hg1)
      | (refine wpList_copy_rd _ rfl (.tmp 12) (.tmp 13) 29 29 rfl w.heap.size 5 (.int .u8 0) 1 Try.underlying29 Try.inf5 _ _ _ _ rfl ho1 _ rfl B (bv l) (hr.grown hg1 hB (by intro g h; cases h)) (bv_length l) (bv_one l) ?_; intro w2 ho2 hg2))
  go_frame
  go_loopw [1, 5] (fun u o wr => VarRel w.heap.size w wr l v o u) (fun u _ _ => (intOf u).toNat)
  case atStart => exact ⟨0, v, [], by omega, rfl, rfl, by simpa using hv, hv, rfl, by simpa using ho2, ((Below.refl _ _).grown hg1 (Nat.le_refl _) (by intro g h; cases h)).grown hg2 hg1.size (by intro g h; injection h with h; omega)⟩
  case round =>
    obtain ⟨k, x, pre, hk, hpk, hpre, hx, hx64, rfl, hown, hbel⟩ := hrel
    have hsz := hbel.size
    have HK := Lib.hid hpk
    clear hpk
    by_cases hlt : 128 ≤ x
    · obtain ⟨hk8, hx2⟩ := Pu.var_room hk hx hlt
      have HX2 := Lib.hid hx2
      clear hx2 hx
      go_wp2_with (at_builtin; refine wpList_append_rd _ rfl _ _ 29 rfl w.heap.size 5 (.int .u8 0) 1 Try.underlying29 Try.inf5 rfl _ _ _ rfl (hown.alloc _) _ rfl _ _ (RdV.one _ _ _) (by intro u hu; simp at hu; subst hu; rfl) (by simp; omega) (by omega) (by simp; omega) ?_; intro o' w1 ho1' hg1' _)
      have hps := own_step (b := UInt8.ofNat (x % 128 + 128)) hbel hsz hown _ ho1' hg1' rfl (by rw [Pu.u8_or128]; simp; omega)
      go_roundw
      case rel => exact ⟨k + 1, x / 128, pre ++ [UInt8.ofNat (x % 128 + 128)], by omega, by simp [HK.out], by have := hpre.out; rw [Pu.varF_go hk hlt] at this; simpa [Hid] using this, HX2.out, by omega, by simp, by simpa [Nat.add_assoc] using hps.1, hps.2⟩
      case measure => simp [intOf]; omega
    · have hend := Pu.varF_end hk (show x < 128 by omega)
      have HE := Lib.hid hend
      clear hend hx
      go_wp2_with (at_builtin; refine wpList_append_rd _ rfl _ _ 29 rfl w.heap.size 5 (.int .u8 0) 1 Try.underlying29 Try.inf5 rfl _ _ _ rfl (hown.alloc _) _ rfl _ _ (RdV.one _ _ _) (by intro u hu; simp at hu; subst hu; rfl) (by simp; omega) (by omega) (by simp; omega) ?_; intro o' w1 ho1' hg1' _; obtain ⟨ho3, hb3⟩ := own_step (b := UInt8.ofNat x) hbel hsz hown _ ho1' hg1' rfl (by simp; omega); obtain ⟨g, cap, rfl, hgb, hgl, hgc, hgm⟩ := own_form ho3 (by omega); clear ho1' hg1')
      go_ret
      have hsh := RdV.short ho3
      have e : (l ++ pre) ++ [UInt8.ofNat x] = l ++ Pu.varL v := by
        have := hpre.out
        rw [HE.out] at this
        rw [List.append_assoc, this]
      have e2 : (l ++ Pu.varL v).length = l.length + k + 1 := by rw [← e]; simp [HK.out]; omega
      rw [e, ← e2] at hsh
      exact ⟨g, by rw [e2]; simp, hsh, hb3, hgb, hgl⟩
theorem var_any (vb : Value) (l : List UInt8) (v : Nat) (hv : v < 18446744073709551616) (hl : l.length < 4294967296) (w : World) (B : Nat) (hB : B ≤ w.heap.size) (hr : RdV w B vb (bv l)) :
    Calls Try.prog 35 #[vb, .int .u64 v] w (TellsB w (l ++ Pu.varL v)) :=
  (var_full vb l v hv hl w B hB hr).mono fun _ _ h => h.tells

set_option maxRecDepth 100000 in
set_option maxHeartbeats 1000000 in
theorem rvar_any (vb : Value) (l : List UInt8) (v : Nat) (hv : v < 18446744073709551616) (hl : l.length < 4294967296) (w : World) (base : Nat) (hB : base ≤ w.heap.size) (hown0 : w.ownsRow base 5 1 vb l.length (bv l)) :
    Calls Try.prog 36 #[vb, .int .u64 v] w (GivesO base w vb (l ++ Pu.varL v)) := by
  go_enter Try.func36, Try.ntmps36
  go_wp2
  go_loopw [0, 1] (fun o u wr => VarRel base w wr l v o u ∧ Only w wr vb o) (fun _ u _ => (intOf u).toNat)
  case atStart => exact ⟨⟨0, v, [], by omega, rfl, rfl, by simpa using hv, hv, rfl, by simpa using hown0, Below.refl _ _⟩, Only.refl _ _⟩
  case round =>
    obtain ⟨⟨k, x, pre, hk, hpk, hpre, hx, hx64, rfl, hown, hbel⟩, honly⟩ := hrel
    have hsz := hbel.size
    have HK := Lib.hid hpk
    clear hpk
    by_cases hlt : 128 ≤ x
    · obtain ⟨hk8, hx2⟩ := Pu.var_room hk hx hlt
      have HX2 := Lib.hid hx2
      clear hx2 hx
      go_wp2_with (at_builtin; refine wpList_append_rd _ rfl _ _ 29 rfl base 5 (.int .u8 0) 1 Try.underlying29 Try.inf5 rfl _ _ _ rfl (hown.alloc _) _ rfl _ _ (RdV.one _ _ _) (by intro u hu; simp at hu; subst hu; rfl) (by simp; omega) (by omega) (by simp; omega) ?_; intro o' w1 ho1' hg1' hw1')
      have hps := own_step (b := UInt8.ofNat (x % 128 + 128)) hbel (by omega) hown _ ho1' hg1' rfl (by simp; omega)
      go_roundw
      case rel => exact ⟨⟨k + 1, x / 128, pre ++ [UInt8.ofNat (x % 128 + 128)], by omega, by simp [HK.out], by have := hpre.out; rw [Pu.varF_go hk hlt] at this; simpa [Hid] using this, HX2.out, by omega, by simp, by simpa [Nat.add_assoc] using hps.1, hps.2⟩, honly.step hg1' hw1'⟩
      case measure => simp [intOf]; omega
    · have hend := Pu.varF_end hk (show x < 128 by omega)
      have HE := Lib.hid hend
      clear hend hx
      go_wp2_with (at_builtin; refine wpList_append_rd _ rfl _ _ 29 rfl base 5 (.int .u8 0) 1 Try.underlying29 Try.inf5 rfl _ _ _ rfl (hown.alloc _) _ rfl _ _ (RdV.one _ _ _) (by intro u hu; simp at hu; subst hu; rfl) (by simp; omega) (by omega) (by simp; omega) ?_; intro o' w1 ho1' hg1' hw1'; have honly2 := honly.step hg1' hw1'; obtain ⟨ho3, hb3⟩ := own_step (b := UInt8.ofNat x) hbel (by omega) hown _ ho1' hg1' rfl (by simp; omega); clear ho1' hg1' hw1')
      go_ret
      refine ⟨_, rfl, ?_, hb3, honly2⟩
      have e : (l ++ pre) ++ [UInt8.ofNat x] = l ++ Pu.varL v := by
        have := hpre.out
        rw [HE.out] at this
        rw [List.append_assoc, this]
      rw [e] at ho3
      have e2 : (l ++ Pu.varL v).length = l.length + k + 1 := by rw [← e]; simp [HK.out]; omega
      rw [e2]
      exact ho3

def RvRel (l : List UInt8) (u i : Value) : Prop := ∃ k x : Nat, k ≤ Pu.cont l ∧ x < 18446744073709551616 ∧ (k ≤ 9 → x = Pu.le128 (l.take k)) ∧ i = .int .i64 k ∧ u = .int .u64 x

set_option maxRecDepth 100000 in
set_option maxHeartbeats 1000000 in
theorem readvar_any (vb : Value) (l : List UInt8) (hl : l.length < 4294967296) (w : World) (B : Nat) (hr : RdV w B vb (bv l)) :
    Calls Try.prog 33 #[vb] w fun e w' => e = .returned (.tuple #[.int .u64 (Pu.rvV l : Nat), .int .i64 (Pu.rvN l : Nat), .int .i64 (Pu.rvE l : Nat)]) ∧ w = w' := by
  obtain ⟨A, c, rfl, hc1, hc2, hc3⟩ := id hr
  rw [bv_length] at hc1 hc3 hr ⊢
  clear hc3
  have hcl := Pu.cont_le l
  obtain ⟨hcl1, hcl2⟩ := hcl
  go_enter Try.func33, Try.ntmps33
  go_wp2
  go_loop [5, 7] (fun u i => RvRel l u i) (fun _ i => 10 - (intOf i).toNat)
  case atStart => exact ⟨0, 0, by omega, by omega, fun _ => rfl, rfl, rfl⟩
  case round =>
    obtain ⟨k, x, hk, hx64, hx, rfl, rfl⟩ := hrel
    have HX := Lib.hid hx
    clear hx
    by_cases h10 : k = 10
    · subst h10
      have E0 : Hid (Pu.rvE l = 22) := by show _ = _; unfold Pu.rvE; rw [if_pos (by omega)]
      have E1 : Hid (Pu.rvV l = 0) := by show _ = _; unfold Pu.rvV; rw [E0.out]; rfl
      have E2 : Hid (Pu.rvN l = 0) := by show _ = _; unfold Pu.rvN; rw [E0.out]; rfl
      go_wp2
      go_ret3
      exact ⟨by rw [E0.out, E1.out, E2.out]; rfl, rfl⟩
    · have hk10 : k < 10 := by omega
      by_cases hkl : k = l.length
      · have E0 : Hid (Pu.rvE l = 21) := by show _ = _; unfold Pu.rvE; rw [if_neg (by omega), if_pos (by omega)]
        have E1 : Hid (Pu.rvV l = 0) := by show _ = _; unfold Pu.rvV; rw [E0.out]; rfl
        have E2 : Hid (Pu.rvN l = 0) := by show _ = _; unfold Pu.rvN; rw [E0.out]; rfl
        have t0 : ((k : Int) == (l.length : Int)) = true := by rw [beq_iff_eq]; omega
        clear hkl h10
        go_wp2
        go_ret3
        exact ⟨by rw [E0.out, E1.out, E2.out]; rfl, rfl⟩
      · have hkl2 : k < l.length := by omega
        have t0 : ((k : Int) == (l.length : Int)) = false := by rw [beq_eq_false_iff_ne]; omega
        obtain ⟨b, off, rfl, hbB, hcell⟩ := hr.get (j := k) (u := .int .u8 (l[k].toNat : Int)) (by rw [bv_get, List.getElem?_eq_getElem hkl2]; rfl)
        have hb := (l[k]).toNat_lt
        have hon : k < Pu.cont l → 128 ≤ l[k].toNat := fun h => Pu.cont_on l k h hkl2
        have hoff : k = Pu.cont l → l[k].toNat < 128 := fun h => by subst h; exact Pu.cont_off l (by omega) hkl2
        have hgd : l.getD k 0 = l[k] := by simp [List.getD, List.getElem?_eq_getElem hkl2]
        have htk := Pu.le128_take l k hkl2
        have hy0 : l[k] = 0 ↔ l[k].toNat = 0 := ⟨fun h => by rw [h]; rfl, fun h => by rw [← UInt8.toNat_inj]; exact h⟩
        have hlt7 : k ≤ 9 → x < 2 ^ (7 * k) := fun h => by
          have := Pu.le128_lt (l.take k)
          rw [List.length_take, Nat.min_eq_left (by omega), show 128 ^ k = 2 ^ (7 * k) from by rw [Nat.pow_mul]] at this
          rw [HX.out h]; exact this
        have HL := Lib.hid hlt7
        generalize hY : (l[k]).toNat = y at *
        have HY := Lib.hid hY
        have HT := Lib.hid htk
        have HG := Lib.hid hgd
        have HY0 := Lib.hid hy0
        have hand : bits .and .u8 (y : Int) 127 = ((y % 128 : Nat) : Int) := Pu.u8_and127 y hb
        generalize hZ : y % 128 = z at *
        have hz : z < 128 := by omega
        have HZ := Lib.hid hZ
        obtain ⟨x', hor, hx', hxs⟩ := Pu.or_any x z k hx64
        have HS := Lib.hid hxs
        clear hY hZ hkl h10 htk hgd hy0 hlt7 hxs
        by_cases hge : 128 ≤ y
        · have hk1 : k + 1 ≤ Pu.cont l := by
            rcases Nat.lt_or_ge k (Pu.cont l) with h | h
            · omega
            · have := hoff (by omega); omega
          clear hon hoff
          go_wp2
          go_round
          case rel => exact ⟨k + 1, x', hk1, hx', fun h9 => by rw [HS.out (HL.out (by omega)) (Or.inl ⟨by omega, hz⟩), HX.out (by omega)]; have := HT.out; rw [this], by go_num, rfl⟩
          case measure => simp [intOf]; omega
        · have hk1 : k = Pu.cont l := by
            rcases Nat.lt_or_ge k (Pu.cont l) with h | h
            · have := hon h; omega
            · omega
          have HC := Lib.hid hk1
          clear hon hoff hk1
          by_cases hbad : (0 < k ∧ y = 0) ∨ (k = 9 ∧ 1 < y)
          · have E0 : Hid (Pu.rvE l = 22) := by
              show _ = _
              unfold Pu.rvE
              rw [if_neg (by have := HC.out; omega), if_neg (by have := HC.out; omega), ← HC.out, HG.out]
              rw [if_pos]
              rcases hbad with ⟨h1, h2⟩ | ⟨h1, h2⟩
              · exact Or.inl ⟨h1, HY0.out.2 h2⟩
              · exact Or.inr ⟨h1, by rw [HY.out]; exact h2⟩
            have E1 : Hid (Pu.rvV l = 0) := by show _ = _; unfold Pu.rvV; rw [E0.out]; rfl
            have E2 : Hid (Pu.rvN l = 0) := by show _ = _; unfold Pu.rvN; rw [E0.out]; rfl
            rcases hbad with ⟨h1, rfl⟩ | ⟨rfl, h2⟩
            · go_wp2
              go_ret3
              exact ⟨by rw [E0.out, E1.out, E2.out]; rfl, rfl⟩
            · have t1 : ((y : Int) == 0) = false := by rw [beq_eq_false_iff_ne]; omega
              go_wp2
              go_ret3
              exact ⟨by rw [E0.out, E1.out, E2.out]; rfl, rfl⟩
          · have E0 : Hid (Pu.rvE l = 0) := by
              show _ = _
              unfold Pu.rvE
              rw [if_neg (by have := HC.out; omega), if_neg (by have := HC.out; omega), ← HC.out, HG.out]
              rw [if_neg]
              rintro (⟨h1, h2⟩ | ⟨h1, h2⟩)
              · exact hbad (Or.inl ⟨h1, HY0.out.1 h2⟩)
              · exact hbad (Or.inr ⟨h1, by rw [HY.out] at h2; exact h2⟩)
            have E1 : Hid (Pu.rvV l = x') := by
              show _ = _
              unfold Pu.rvV
              rw [if_pos E0.out, ← HC.out, HT.out, HS.out (HL.out (by omega)) (by have := HZ.out; omega), HX.out (by omega)]
            have E2 : Hid (Pu.rvN l = k + 1) := by show _ = _; unfold Pu.rvN; rw [if_pos E0.out, ← HC.out]
            by_cases hk0 : 0 < k
            · have t1 : ((y : Int) == 0) = false := by rw [beq_eq_false_iff_ne]; omega
              by_cases hk9 : k = 9
              · have t2 : ¬ (1 < y) := by omega
                have t3 : ((k : Int) == 9) = true := by rw [beq_iff_eq]; omega
                clear hbad hk9
                go_wp2
                go_ret3
                exact ⟨by rw [E0.out, E1.out, E2.out]; rfl, rfl⟩
              · have t2 : ((k : Int) == 9) = false := by rw [beq_eq_false_iff_ne]; omega
                clear hbad
                go_wp2
                go_ret3
                exact ⟨by rw [E0.out, E1.out, E2.out]; rfl, rfl⟩
            · have t2 : ((k : Int) == 9) = false := by rw [beq_eq_false_iff_ne]; omega
              clear hbad
              go_wp2
              go_ret3
              exact ⟨by rw [E0.out, E1.out, E2.out]; rfl, rfl⟩

set_option maxRecDepth 100000 in
set_option maxHeartbeats 1000000 in
theorem rreadvar_any (vb : Value) (l : List UInt8) (hl : l.length < 4294967296) (w : World) (B : Nat) (hr : RdV w B vb (bv l)) :
    Calls Try.prog 34 #[vb] w fun e w' => e = .returned (.tuple #[.int .u64 (Pu.rvV l : Nat), .int .i64 (Pu.rvN l : Nat), .int .i64 (Pu.rvE l : Nat)]) ∧ w = w' := by
  obtain ⟨A, c, rfl, hc1, hc2, hc3⟩ := id hr
  rw [bv_length] at hc1 hc3 hr ⊢
  clear hc3
  have hcl := Pu.cont_le l
  obtain ⟨hcl1, hcl2⟩ := hcl
  go_enter Try.func34, Try.ntmps34
  go_wp2
  go_loop [5] (fun i => ∃ k : Nat, k ≤ Pu.cont l ∧ i = .int .i64 k) (fun i => 10 - (intOf i).toNat)
  case atStart => exact ⟨0, by omega, rfl⟩
  case round =>
    obtain ⟨k, hk, rfl⟩ := hrel
    by_cases hkc : k < Pu.cont l
    · have hkl2 : k < l.length := by omega
      obtain ⟨b, off, rfl, hbB, hcell⟩ := hr.get (j := k) (u := .int .u8 (l[k].toNat : Int)) (by rw [bv_get, List.getElem?_eq_getElem hkl2]; rfl)
      have hb := (l[k]).toNat_lt
      have hon : 128 ≤ l[k].toNat := Pu.cont_on l k hkc hkl2
      generalize hY : (l[k]).toNat = y at *
      have HY := Lib.hid hY
      clear hY
      go_wp2
      go_round
      case rel => exact ⟨k + 1, by omega, by go_num⟩
      case measure => simp [intOf]; omega
    · have hke : k = Pu.cont l := by omega
      have HC := Lib.hid hke
      clear hke hkc
      by_cases h10 : 10 ≤ k
      · have E0 : Hid (Pu.rvE l = 22) := by show _ = _; unfold Pu.rvE; rw [if_pos (by have := HC.out; omega)]
        have E1 : Hid (Pu.rvV l = 0) := by show _ = _; unfold Pu.rvV; rw [E0.out]; rfl
        have E2 : Hid (Pu.rvN l = 0) := by show _ = _; unfold Pu.rvN; rw [E0.out]; rfl
        have t3 : ((k : Int) == 10) = true := by rw [beq_iff_eq]; omega
        by_cases hkl : k < l.length
        · go_wp2
          go_ret3
          exact ⟨by rw [E0.out, E1.out, E2.out]; rfl, rfl⟩
        · go_wp2
          go_ret3
          exact ⟨by rw [E0.out, E1.out, E2.out]; rfl, rfl⟩
      · have t3 : ((k : Int) == 10) = false := by rw [beq_eq_false_iff_ne]; omega
        by_cases hkl : l.length ≤ k
        · have E0 : Hid (Pu.rvE l = 21) := by show _ = _; unfold Pu.rvE; rw [if_neg (by have := HC.out; omega), if_pos (by have := HC.out; omega)]
          have E1 : Hid (Pu.rvV l = 0) := by show _ = _; unfold Pu.rvV; rw [E0.out]; rfl
          have E2 : Hid (Pu.rvN l = 0) := by show _ = _; unfold Pu.rvN; rw [E0.out]; rfl
          have t0 : ((k : Int) == (l.length : Int)) = true := by rw [beq_iff_eq]; omega
          go_wp2
          go_ret3
          exact ⟨by rw [E0.out, E1.out, E2.out]; rfl, rfl⟩
        · have hkl2 : k < l.length := by omega
          have t0 : ((k : Int) == (l.length : Int)) = false := by rw [beq_eq_false_iff_ne]; omega
          obtain ⟨b, off, rfl, hbB, hcell⟩ := hr.get (j := k) (u := .int .u8 (l[k].toNat : Int)) (by rw [bv_get, List.getElem?_eq_getElem hkl2]; rfl)
          have hb := (l[k]).toNat_lt
          have hoff : l[k].toNat < 128 := by have h := HC.out; subst h; exact Pu.cont_off l (by omega) hkl2
          have hgd : l.getD k 0 = l[k] := by simp [List.getD, List.getElem?_eq_getElem hkl2]
          have hy0 : l[k] = 0 ↔ l[k].toNat = 0 := ⟨fun h => by rw [h]; rfl, fun h => by rw [← UInt8.toNat_inj]; exact h⟩
          have htop := fun (j d : Nat) => Pu.le128_top l k j d hkl2
          generalize hY : (l[k]).toNat = y at *
          have HY := Lib.hid hY
          have HG := Lib.hid hgd
          have HY0 := Lib.hid hy0
          have HTop := Lib.hid htop
          clear hY hgd hy0 hkl htop
          by_cases hbad : (0 < k ∧ y = 0) ∨ (k = 9 ∧ 1 < y)
          · have E0 : Hid (Pu.rvE l = 22) := by
              show _ = _
              unfold Pu.rvE
              rw [if_neg (by have := HC.out; omega), if_neg (by have := HC.out; omega), ← HC.out, HG.out]
              rw [if_pos]
              rcases hbad with ⟨h1, h2⟩ | ⟨h1, h2⟩
              · exact Or.inl ⟨h1, HY0.out.2 h2⟩
              · exact Or.inr ⟨h1, by rw [HY.out]; exact h2⟩
            have E1 : Hid (Pu.rvV l = 0) := by show _ = _; unfold Pu.rvV; rw [E0.out]; rfl
            have E2 : Hid (Pu.rvN l = 0) := by show _ = _; unfold Pu.rvN; rw [E0.out]; rfl
            rcases hbad with ⟨h1, rfl⟩ | ⟨h1, h2⟩
            · go_wp2
              go_ret3
              exact ⟨by rw [E0.out, E1.out, E2.out]; rfl, rfl⟩
            · have t1 : ((y : Int) == 0) = false := by rw [beq_eq_false_iff_ne]; omega
              have t2 : ((k : Int) == 9) = true := by rw [beq_iff_eq]; omega
              have t4 : 0 < k := by omega
              clear h1
              go_wp2
              go_ret3
              exact ⟨by rw [E0.out, E1.out, E2.out]; rfl, rfl⟩
          · have E0 : Hid (Pu.rvE l = 0) := by
              show _ = _
              unfold Pu.rvE
              rw [if_neg (by have := HC.out; omega), if_neg (by have := HC.out; omega), ← HC.out, HG.out]
              rw [if_neg]
              rintro (⟨h1, h2⟩ | ⟨h1, h2⟩)
              · exact hbad (Or.inl ⟨h1, HY0.out.1 h2⟩)
              · exact hbad (Or.inr ⟨h1, by rw [HY.out] at h2; exact h2⟩)
            have E1 : Hid (Pu.rvV l = Pu.le128 (l.take (k + 1))) := by
              show _ = _
              unfold Pu.rvV
              rw [if_pos E0.out, ← HC.out]
            have E2 : Hid (Pu.rvN l = k + 1) := by show _ = _; unfold Pu.rvN; rw [if_pos E0.out, ← HC.out]
            have hroom : ∀ j, j ≤ k → Pu.le128 ((l.take (k + 1)).drop j) < 2 * 128 ^ (9 - j) := by
              intro j hj
              by_cases h9 : k = 9
              · have := HTop.out j 1 hj (by rw [Nat.mod_eq_of_lt hoff]; omega)
                rw [h9] at this
                rw [h9]
                exact this
              · have h1 := Pu.le128_lt ((l.take (k + 1)).drop j)
                have h2 : 128 ^ ((l.take (k + 1)).drop j).length ≤ 128 ^ (9 - j) := Nat.pow_le_pow_right (by omega) (by rw [List.length_drop, List.length_take]; omega)
                omega
            have HR := Lib.hid hroom
            clear hroom
            have hk0' : ∀ P : Prop, (0 < k → ((y : Int) == 0) = false → P) → (k = 0 → P) → P := fun P h1 h2 => by
              rcases Nat.eq_zero_or_pos k with h | h
              · exact h2 h
              · exact h1 h (by rw [beq_eq_false_iff_ne]; omega)
            have HK0 := Lib.hid hk0'
            clear hk0'
            by_cases hk0 : 0 < k
            · have t1 : ((y : Int) == 0) = false := by rw [beq_eq_false_iff_ne]; omega
              by_cases hk9 : 9 ≤ k
              · have t2 : ¬ (1 < y) := by omega
                have t4 : ((k : Int) == 9) = true := by rw [beq_iff_eq]; omega
                clear hbad
                go_wp2
                go_loop [6, 7] (fun u i => ∃ j : Nat, j ≤ k + 1 ∧ i = .int .i64 ((j : Int) - 1) ∧ u = .int .u64 (Pu.le128 ((l.take (k + 1)).drop j) : Nat)) (fun _ i => (intOf i + 1).toNat)
                case atStart => exact ⟨k + 1, by omega, by go_num, by rw [List.drop_eq_nil_of_le (by rw [List.length_take]; omega)]; rfl⟩
                case round =>
                  obtain ⟨j, hj, rfl, rfl⟩ := hrel
                  by_cases hlt : 0 < j
                  · obtain ⟨i, rfl⟩ : ∃ i, j = i + 1 := ⟨j - 1, by omega⟩
                    have hil : i < l.length := by omega
                    obtain ⟨b', off', hbo, hbB', hcell'⟩ := hr.get (j := i) (u := .int .u8 (l[i].toNat : Int)) (by rw [bv_get, List.getElem?_eq_getElem hil]; rfl)
                    injection hbo with hbo
                    injection hbo with hbo1 hbo2 _
                    subst hbo1 hbo2
                    have hb' := (l[i]).toNat_lt
                    have hd := Pu.le128_drop (l.take (k + 1)) i (by rw [List.length_take]; omega)
                    rw [List.getElem_take] at hd
                    have hnow := HR.out i (by omega)
                    have hnow2 : 128 ^ (9 - i) ≤ 128 ^ 9 := Nat.pow_le_pow_right (by omega) (by omega)
                    have hnow3 : Pu.le128 ((l.take (k + 1)).drop i) < 18446744073709551616 := by omega
                    rw [hd] at hnow3
                    clear hnow hnow2
                    generalize hX2 : (l[i]).toNat = x2 at *
                    generalize hV2 : Pu.le128 ((l.take (k + 1)).drop (i + 1)) = v2 at *
                    have HD := Lib.hid hd
                    have HX2 := Lib.hid hX2
                    have HV2 := Lib.hid hV2
                    clear hd hX2 hV2
                    rw [show (((i + 1 : Nat) : Int) - 1) = (i : Int) from by omega]
                    go_wp2
                    go_round
                    case rel => exact ⟨i, by omega, by go_num, by rw [HD.out]; go_num⟩
                    case measure => simp [intOf]
                  · obtain rfl : j = 0 := by omega
                    go_wp2
                    go_ret3
                    exact ⟨by rw [E0.out, E1.out, E2.out]; rfl, rfl⟩
              · have t2 : ((k : Int) == 9) = false := by rw [beq_eq_false_iff_ne]; omega
                clear hbad
                go_wp2
                go_loop [6, 7] (fun u i => ∃ j : Nat, j ≤ k + 1 ∧ i = .int .i64 ((j : Int) - 1) ∧ u = .int .u64 (Pu.le128 ((l.take (k + 1)).drop j) : Nat)) (fun _ i => (intOf i + 1).toNat)
                case atStart => exact ⟨k + 1, by omega, by go_num, by rw [List.drop_eq_nil_of_le (by rw [List.length_take]; omega)]; rfl⟩
                case round =>
                  obtain ⟨j, hj, rfl, rfl⟩ := hrel
                  by_cases hlt : 0 < j
                  · obtain ⟨i, rfl⟩ : ∃ i, j = i + 1 := ⟨j - 1, by omega⟩
                    have hil : i < l.length := by omega
                    obtain ⟨b', off', hbo, hbB', hcell'⟩ := hr.get (j := i) (u := .int .u8 (l[i].toNat : Int)) (by rw [bv_get, List.getElem?_eq_getElem hil]; rfl)
                    injection hbo with hbo
                    injection hbo with hbo1 hbo2 _
                    subst hbo1 hbo2
                    have hb' := (l[i]).toNat_lt
                    have hd := Pu.le128_drop (l.take (k + 1)) i (by rw [List.length_take]; omega)
                    rw [List.getElem_take] at hd
                    have hnow := HR.out i (by omega)
                    have hnow2 : 128 ^ (9 - i) ≤ 128 ^ 9 := Nat.pow_le_pow_right (by omega) (by omega)
                    have hnow3 : Pu.le128 ((l.take (k + 1)).drop i) < 18446744073709551616 := by omega
                    rw [hd] at hnow3
                    clear hnow hnow2
                    generalize hX2 : (l[i]).toNat = x2 at *
                    generalize hV2 : Pu.le128 ((l.take (k + 1)).drop (i + 1)) = v2 at *
                    have HD := Lib.hid hd
                    have HX2 := Lib.hid hX2
                    have HV2 := Lib.hid hV2
                    clear hd hX2 hV2
                    rw [show (((i + 1 : Nat) : Int) - 1) = (i : Int) from by omega]
                    go_wp2
                    go_round
                    case rel => exact ⟨i, by omega, by go_num, by rw [HD.out]; go_num⟩
                    case measure => simp [intOf]
                  · obtain rfl : j = 0 := by omega
                    go_wp2
                    go_ret3
                    exact ⟨by rw [E0.out, E1.out, E2.out]; rfl, rfl⟩
            · have t2 : ((k : Int) == 9) = false := by rw [beq_eq_false_iff_ne]; omega
              clear hbad
              go_wp2
              go_loop [6, 7] (fun u i => ∃ j : Nat, j ≤ k + 1 ∧ i = .int .i64 ((j : Int) - 1) ∧ u = .int .u64 (Pu.le128 ((l.take (k + 1)).drop j) : Nat)) (fun _ i => (intOf i + 1).toNat)
              case atStart => exact ⟨k + 1, by omega, by go_num, by rw [List.drop_eq_nil_of_le (by rw [List.length_take]; omega)]; rfl⟩
              case round =>
                obtain ⟨j, hj, rfl, rfl⟩ := hrel
                by_cases hlt : 0 < j
                · obtain ⟨i, rfl⟩ : ∃ i, j = i + 1 := ⟨j - 1, by omega⟩
                  have hil : i < l.length := by omega
                  obtain ⟨b', off', hbo, hbB', hcell'⟩ := hr.get (j := i) (u := .int .u8 (l[i].toNat : Int)) (by rw [bv_get, List.getElem?_eq_getElem hil]; rfl)
                  injection hbo with hbo
                  injection hbo with hbo1 hbo2 _
                  subst hbo1 hbo2
                  have hb' := (l[i]).toNat_lt
                  have hd := Pu.le128_drop (l.take (k + 1)) i (by rw [List.length_take]; omega)
                  rw [List.getElem_take] at hd
                  have hnow := HR.out i (by omega)
                  have hnow2 : 128 ^ (9 - i) ≤ 128 ^ 9 := Nat.pow_le_pow_right (by omega) (by omega)
                  have hnow3 : Pu.le128 ((l.take (k + 1)).drop i) < 18446744073709551616 := by omega
                  rw [hd] at hnow3
                  clear hnow hnow2
                  generalize hX2 : (l[i]).toNat = x2 at *
                  generalize hV2 : Pu.le128 ((l.take (k + 1)).drop (i + 1)) = v2 at *
                  have HD := Lib.hid hd
                  have HX2 := Lib.hid hX2
                  have HV2 := Lib.hid hV2
                  clear hd hX2 hV2
                  rw [show (((i + 1 : Nat) : Int) - 1) = (i : Int) from by omega]
                  go_wp2
                  go_round
                  case rel => exact ⟨i, by omega, by go_num, by rw [HD.out]; go_num⟩
                  case measure => simp [intOf]
                · obtain rfl : j = 0 := by omega
                  go_wp2
                  go_ret3
                  exact ⟨by rw [E0.out, E1.out, E2.out]; rfl, rfl⟩
end Go.Proofs.Ytpeofopknpdpaaa
