/- Contracts of ints.Put and ints.Get: what each returns; memory is only made. Conditions: the rows are shorter than 2^32. -/
import Derived.Test.YtgcgehdbgegfeaaDoorMem
import Derived.Test.YtgcgehdbgegfeaaDoorPure
namespace Go.Proofs.YtgcgehdbgegfeaaDoor
open Go.ChangeShapes Go.WideShapes Go.ChangeAt Go.RowKit
set_option linter.unusedSimpArgs false
set_option linter.unusedVariables false

theorem ret_int {k : IntKind} {a b : Int} (h : a = b) : Ending.returned (.int k a) = .returned (.int k b) := by rw [h]
theorem Tryd.inf5 : (Tryd.prog.info? 5).map (fun i => (i.zero, i.size, i.bytes)) = some (some (.int .u8 0), 1, 1) := by kernel_rfl

/-- hands back a row of the call's own (from block 'base' on) that reads as l -/
def GivesB (base : Nat) (w : World) (l : List UInt8) (e : Ending) (w' : World) : Prop := ∃ r, e = .returned r ∧ w'.ownsRow base 5 1 r l.length (bv l) ∧ Below base w w'
theorem GivesB.held {base : Nat} {w : World} {l : List UInt8} {e : Ending} {w' : World} (h : GivesB base w l e w') : ∃ r, e = .returned r ∧ HeldR w' base r (bv l) ∧ Below base w w' := by
  obtain ⟨r, h1, h2, h3⟩ := h
  exact ⟨r, h1, HeldR.of_own h2, h3⟩

/-- likewise; and of what was there one row alone may have turned -/
def GivesO (base : Nat) (w : World) (vb : Value) (l : List UInt8) (e : Ending) (w' : World) : Prop := ∃ r, e = .returned r ∧ w'.ownsRow base 5 1 r l.length (bv l) ∧ Below base w w' ∧ Only w w' vb r

def PutRel (base : Nat) (w wr : World) (l : List UInt8) (v : Nat) (o u i : Value) (n : Nat) : Prop :=
  ∃ k : Nat, k ≤ n ∧ i = .int .i64 k ∧ u = .int .u64 ((v / 256 ^ k : Nat) : Int) ∧ wr.ownsRow base 5 1 o (l.length + k) (bv (l ++ Pu.putL v k)) ∧ Below base w wr

theorem put_step {base : Nat} {w wr w1 : World} {l : List UInt8} {v k : Nat} {o o' u : Value} {row : Option Nat}
    (hb : Below base w wr) (hbase : base ≤ wr.heap.size) (hown : wr.ownsRow base 5 1 o (l.length + k) (bv (l ++ Pu.putL v k))) (t : TypeId)
    (h1 : w1.ownsRow base 5 1 o' (l.length + k + [u].length) (bv (l ++ Pu.putL v k) ++ [u]))
    (hg : (wr.alloc (.cells #[u] t)).grownBy w1 row) (hrow : row = o.ownBlock) (hu : u = .int .u8 ((v / 256 ^ k % 256 : Nat) : Int)) :
    w1.ownsRow base 5 1 o' (l.length + (k + 1)) (bv (l ++ Pu.putL v (k + 1))) ∧ Below base w w1 := by
  subst hu
  constructor
  · have e : bv (l ++ Pu.putL v (k + 1)) = bv (l ++ Pu.putL v k) ++ [Value.int .u8 ((v / 256 ^ k % 256 : Nat) : Int)] := by
      rw [Pu.putL, ← List.append_assoc, bv_append]
      congr 1
    rw [e]
    exact h1
  · refine (hb.alloc hbase _).grown hg (by simp; omega) ?_
    intro g hg2
    rw [hrow] at hg2
    exact (hown.lt g hg2).1

set_option maxHeartbeats 1000000 in
theorem put_any (vb : Value) (l : List UInt8) (v : Nat) (n : Int) (hv : v < 18446744073709551616) (n0 : -9223372036854775808 ≤ n) (n1 : n ≤ 9223372036854775807) (hl : l.length < 4294967296) (w : World) (B : Nat) (hB : B ≤ w.heap.size) (hr : RdV w B vb (bv l)) :
    Calls Tryd.prog 53 #[vb, .int .u64 v, .int .i64 n] w (GivesB w.heap.size w (l ++ Pu.putL v (Pu.clip n))) := by
  obtain ⟨A, c, rfl, hc1, hc2, hc3⟩ := id hr
  rw [bv_length] at hc1 hc3 hr ⊢
  clear hc3
  obtain ⟨m, hm, hm64, hcase⟩ : ∃ m : Nat, Pu.clip n = m ∧ m ≤ 64 ∧ ((n < 0 ∧ m = 0) ∨ (64 < n ∧ m = 64) ∨ n = m) := ⟨Pu.clip n, rfl, Pu.clip_le n, by unfold Pu.clip; split <;> (try split) <;> omega⟩
  rw [hm]
  clear hm
  have hunb : w.heap.size ≤ w.heap.size := Nat.le_refl _
  rcases hcase with ⟨hn, rfl⟩ | ⟨hn, rfl⟩ | rfl
  · go_enter Tryd.func53, Tryd.ntmps53
    go_wp2_with (first
      | (at_make; refine wpList_make_rd _ rfl _ _ 23 rfl w.heap.size 5 (.int .u8 0) 1 Tryd.underlying23 Tryd.inf5 rfl .i64 .i64 l.length (l.length + 0) _ _ rfl rfl rfl (by simp) (by omega) (by omega) (by unfold maxLen; omega) (Nat.le_refl _) ?_; intro w1 ho1 hg1)
      | (refine wpList_copy_rd _ rfl (.tmp 18) (.tmp 19) 23 23 rfl w.heap.size 5 (.int .u8 0) 1 Tryd.underlying23 Tryd.inf5 _ _ _ _ rfl ho1 _ rfl B (bv l) (hr.grown hg1 hB (by intro g h; cases h)) (bv_length l) (bv_one l) ?_; intro w2 ho2 hg2))
    go_loopw [1, 7, 22] (fun u o i wr => PutRel w.heap.size w wr l v o u i 0) (fun _ _ i _ => 0 - (intOf i).toNat)
    case atStart => exact ⟨0, by omega, rfl, by simp, by simpa [Pu.putL] using ho2, ((Below.refl _ _).grown hg1 (Nat.le_refl _) (by intro g h; cases h)).grown hg2 hg1.size (by intro g h; injection h with h; omega)⟩
    case round =>
      obtain ⟨k, hk, rfl, rfl, hown, hbel⟩ := hrel
      have hsz := hbel.size
      obtain rfl : k = 0 := by omega
      go_wp2
      go_ret
      exact ⟨_, rfl, by simpa [Pu.putL_length] using hown, hbel⟩
  · go_enter Tryd.func53, Tryd.ntmps53
    go_wp2_with (first
      | (at_make; refine wpList_make_rd _ rfl _ _ 23 rfl w.heap.size 5 (.int .u8 0) 1 Tryd.underlying23 Tryd.inf5 rfl .i64 .i64 l.length (l.length + 64) _ _ rfl rfl rfl (by simp) (by omega) (by omega) (by unfold maxLen; omega) (Nat.le_refl _) ?_; intro w1 ho1 hg1)
      | (refine wpList_copy_rd _ rfl (.tmp 18) (.tmp 19) 23 23 rfl w.heap.size 5 (.int .u8 0) 1 Tryd.underlying23 Tryd.inf5 _ _ _ _ rfl ho1 _ rfl B (bv l) (hr.grown hg1 hB (by intro g h; cases h)) (bv_length l) (bv_one l) ?_; intro w2 ho2 hg2))
    go_loopw [1, 7, 22] (fun u o i wr => PutRel w.heap.size w wr l v o u i 64) (fun _ _ i _ => 64 - (intOf i).toNat)
    case atStart => exact ⟨0, by omega, rfl, by simp, by simpa [Pu.putL] using ho2, ((Below.refl _ _).grown hg1 (Nat.le_refl _) (by intro g h; cases h)).grown hg2 hg1.size (by intro g h; injection h with h; omega)⟩
    case round =>
      obtain ⟨k, hk, rfl, rfl, hown, hbel⟩ := hrel
      have hsz := hbel.size
      by_cases hlt : k < 64
      · go_wp2_with (at_builtin; refine wpList_append_rd _ rfl _ _ 23 rfl w.heap.size 5 (.int .u8 0) 1 Tryd.underlying23 Tryd.inf5 rfl _ _ _ rfl (hown.alloc _) _ rfl _ _ (RdV.one _ _ _) (by intro u hu; simp at hu; subst hu; rfl) (by simp; omega) (by omega) (by simp; omega) ?_; intro o' w1 ho1' hg1' _)
        have hps := put_step hbel hsz hown _ ho1' hg1' rfl (by simp)
        go_roundw
        case rel => exact ⟨k + 1, by omega, by go_num, by rw [Nat.pow_succ, ← Nat.div_div_eq_div_mul]; simp, hps.1, hps.2⟩
        case measure => simp [intOf]; omega
      · obtain rfl : k = 64 := by omega
        go_wp2
        go_ret
        exact ⟨_, rfl, by simpa [Pu.putL_length] using hown, hbel⟩
  · go_enter Tryd.func53, Tryd.ntmps53
    go_wp2_with (first
      | (at_make; refine wpList_make_rd _ rfl _ _ 23 rfl w.heap.size 5 (.int .u8 0) 1 Tryd.underlying23 Tryd.inf5 rfl .i64 .i64 l.length (l.length + m) _ _ rfl rfl rfl (by simp) (by omega) (by omega) (by unfold maxLen; omega) (Nat.le_refl _) ?_; intro w1 ho1 hg1)
      | (refine wpList_copy_rd _ rfl (.tmp 18) (.tmp 19) 23 23 rfl w.heap.size 5 (.int .u8 0) 1 Tryd.underlying23 Tryd.inf5 _ _ _ _ rfl ho1 _ rfl B (bv l) (hr.grown hg1 hB (by intro g h; cases h)) (bv_length l) (bv_one l) ?_; intro w2 ho2 hg2))
    go_loopw [1, 7, 22] (fun u o i wr => PutRel w.heap.size w wr l v o u i m) (fun _ _ i _ => m - (intOf i).toNat)
    case atStart => exact ⟨0, by omega, rfl, by simp, by simpa [Pu.putL] using ho2, ((Below.refl _ _).grown hg1 (Nat.le_refl _) (by intro g h; cases h)).grown hg2 hg1.size (by intro g h; injection h with h; omega)⟩
    case round =>
      obtain ⟨k, hk, rfl, rfl, hown, hbel⟩ := hrel
      have hsz := hbel.size
      by_cases hlt : k < m
      · go_wp2_with (at_builtin; refine wpList_append_rd _ rfl _ _ 23 rfl w.heap.size 5 (.int .u8 0) 1 Tryd.underlying23 Tryd.inf5 rfl _ _ _ rfl (hown.alloc _) _ rfl _ _ (RdV.one _ _ _) (by intro u hu; simp at hu; subst hu; rfl) (by simp; omega) (by omega) (by simp; omega) ?_; intro o' w1 ho1' hg1' _)
        have hps := put_step hbel hsz hown _ ho1' hg1' rfl (by simp)
        go_roundw
        case rel => exact ⟨k + 1, by omega, by go_num, by rw [Nat.pow_succ, ← Nat.div_div_eq_div_mul]; simp, hps.1, hps.2⟩
        case measure => simp [intOf]; omega
      · obtain rfl : k = m := by omega
        go_wp2
        go_ret
        exact ⟨_, rfl, by simpa [Pu.putL_length] using hown, hbel⟩

theorem take_id (l : List UInt8) (n : Nat) (h : l.length ≤ n) : l.take n = l := List.take_of_length_le h

set_option maxHeartbeats 1000000 in
theorem get_any (vb : Value) (l : List UInt8) (n : Int) (n0 : -9223372036854775808 ≤ n) (n1 : n ≤ 9223372036854775807) (hl : l.length < 4294967296) (w : World) (B : Nat) (hr : RdV w B vb (bv l)) :
    Calls Tryd.prog 50 #[vb, .int .i64 n] w fun e w' => e = .returned (.tuple #[.int .u64 (Pu.getV l n : Nat), .bool (Pu.getB l n)]) ∧ w = w' := by
  obtain ⟨A, c, rfl, hc1, hc2, hc3⟩ := id hr
  rw [bv_length] at hc1 hc3 hr ⊢
  clear hc3
  by_cases hc : 0 ≤ n ∧ n ≤ 8 ∧ n ≤ (l.length : Int)
  · have hb : Pu.getB l n = true := by unfold Pu.getB; simpa using hc
    have hv : Pu.getV l n = Pu.leN (l.take n.toNat) := by unfold Pu.getV; rw [if_pos hb]
    rw [hb, hv]
    obtain ⟨c1, c2, c3⟩ := hc
    obtain ⟨m, rfl⟩ := Int.eq_ofNat_of_zero_le c1
    rw [Int.toNat_natCast]
    clear hb hv
    go_enter Tryd.func50, Tryd.ntmps50
    go_wp2
    go_loop [6, 21] (fun u i => ∃ k : Nat, k ≤ m ∧ i = .int .i64 k ∧ u = .int .u64 (Pu.leN (l.take k) : Nat)) (fun _ i => m - (intOf i).toNat)
    case atStart => exact ⟨0, by omega, rfl, rfl⟩
    case round =>
      obtain ⟨k, hk, rfl, rfl⟩ := hrel
      by_cases hlt : k < m
      · have hkl : k < l.length := by omega
        obtain ⟨b, off, rfl, hbB, hcell⟩ := hr.get (j := k) (u := .int .u8 (l[k].toNat : Int)) (by rw [bv_get, List.getElem?_eq_getElem hkl]; rfl)
        have hb := (l[k]).toNat_lt
        generalize hX : (l[k]).toNat = x at *
        have HX := Lib.hid hX
        clear hX
        go_wp2
        go_round
        case rel =>
          refine ⟨k + 1, by omega, by go_num, ?_⟩
          have h1 := Pu.leN_lt (l.take k)
          rw [List.length_take, Nat.min_eq_left (by omega), show 256 ^ k = 2 ^ (8 * k) from by rw [Nat.pow_mul]] at h1
          rw [Pu.or_up _ _ (8 * k) 8 h1 hb (by omega), Pu.leN_take l k hkl, HX.out, Nat.pow_mul]
        case measure => simp [intOf]; omega
      · obtain rfl : k = m := by omega
        go_wp2
        go_ret2
        exact ⟨rfl, rfl⟩
  · have hb : Pu.getB l n = false := by unfold Pu.getB; simpa using hc
    have hv : Pu.getV l n = 0 := by unfold Pu.getV; rw [hb]; rfl
    rw [hb, hv]
    clear hb hv
    by_cases c1 : n < 0
    · go_enter Tryd.func50, Tryd.ntmps50
      go_wp2
      go_ret2
      exact ⟨rfl, rfl⟩
    · by_cases c2 : 8 < n
      · go_enter Tryd.func50, Tryd.ntmps50
        go_wp2
        go_ret2
        exact ⟨rfl, rfl⟩
      · have c3 : (l.length : Int) < n := by omega
        go_enter Tryd.func50, Tryd.ntmps50
        go_wp2
        go_ret2
        exact ⟨rfl, rfl⟩

set_option maxHeartbeats 1000000 in
theorem rget_any (vb : Value) (l : List UInt8) (n : Int) (n0 : -9223372036854775808 ≤ n) (n1 : n ≤ 9223372036854775807) (hl : l.length < 4294967296) (w : World) (B : Nat) (hr : RdV w B vb (bv l)) :
    Calls Tryd.prog 52 #[vb, .int .i64 n] w fun e w' => e = .returned (.tuple #[.int .u64 (Pu.getV l n : Nat), .bool (Pu.getB l n)]) ∧ w = w' := by
  obtain ⟨A, c, rfl, hc1, hc2, hc3⟩ := id hr
  rw [bv_length] at hc1 hc3 hr ⊢
  clear hc3
  by_cases hc : 0 ≤ n ∧ n ≤ 8 ∧ n ≤ (l.length : Int)
  · have hb : Pu.getB l n = true := by unfold Pu.getB; simpa using hc
    have hv : Pu.getV l n = Pu.leN (l.take n.toNat) := by unfold Pu.getV; rw [if_pos hb]
    rw [hb, hv]
    obtain ⟨c1, c2, c3⟩ := hc
    obtain ⟨m, rfl⟩ := Int.eq_ofNat_of_zero_le c1
    rw [Int.toNat_natCast]
    clear hb hv
    have hml : m ≤ l.length := by omega
    have hm8 : m ≤ 8 := by omega
    go_enter Tryd.func52, Tryd.ntmps52
    go_wp2
    go_loop [6, 7] (fun u i => ∃ k : Nat, k ≤ m ∧ i = .int .i64 ((k : Int) - 1) ∧ u = .int .u64 (Pu.leN ((l.take m).drop k) : Nat)) (fun _ i => (intOf i + 1).toNat)
    case atStart => exact ⟨m, by omega, rfl, by rw [List.drop_eq_nil_of_le (by rw [List.length_take]; omega)]; rfl⟩
    case round =>
      obtain ⟨k, hk, rfl, rfl⟩ := hrel
      by_cases hlt : 0 < k
      · obtain ⟨j, rfl⟩ : ∃ j, k = j + 1 := ⟨k - 1, by omega⟩
        have hkl : j < l.length := by omega
        obtain ⟨b, off, rfl, hbB, hcell⟩ := hr.get (j := j) (u := .int .u8 (l[j].toNat : Int)) (by rw [bv_get, List.getElem?_eq_getElem hkl]; rfl)
        have hb := (l[j]).toNat_lt
        have hd := Pu.leN_drop (l.take m) j (by rw [List.length_take]; omega)
        rw [List.getElem_take] at hd
        have hlt := Pu.leN_lt ((l.take m).drop (j + 1))
        have hpw : 256 ^ ((l.take m).drop (j + 1)).length ≤ 256 ^ 7 := Nat.pow_le_pow_right (by omega) (by rw [List.length_drop, List.length_take]; omega)
        have hlt2 : Pu.leN ((l.take m).drop (j + 1)) < 72057594037927936 := by omega
        clear hlt hpw
        generalize hX : (l[j]).toNat = x at *
        generalize hY : Pu.leN ((l.take m).drop (j + 1)) = y at *
        have HX := Lib.hid hX
        have HY := Lib.hid hY
        have HD := Lib.hid hd
        clear hX hY hd
        rw [show (((j + 1 : Nat) : Int) - 1) = (j : Int) from by omega]
        go_wp2
        go_round
        case rel => exact ⟨j, by omega, rfl, by rw [HD.out]; go_num⟩
        case measure => simp [intOf]
      · obtain rfl : k = 0 := by omega
        go_wp2
        go_ret2
        exact ⟨rfl, rfl⟩
  · have hb : Pu.getB l n = false := by unfold Pu.getB; simpa using hc
    have hv : Pu.getV l n = 0 := by unfold Pu.getV; rw [hb]; rfl
    rw [hb, hv]
    clear hb hv
    by_cases c1 : n < 0
    · go_enter Tryd.func52, Tryd.ntmps52
      go_wp2
      go_ret2
      exact ⟨rfl, rfl⟩
    · by_cases c2 : 8 < n
      · go_enter Tryd.func52, Tryd.ntmps52
        go_wp2
        go_ret2
        exact ⟨rfl, rfl⟩
      · have c3 : (l.length : Int) < n := by omega
        go_enter Tryd.func52, Tryd.ntmps52
        go_wp2
        go_ret2
        exact ⟨rfl, rfl⟩

set_option maxHeartbeats 1000000 in
theorem rput_any (vb : Value) (l : List UInt8) (v : Nat) (n : Int) (hv : v < 18446744073709551616) (n0 : -9223372036854775808 ≤ n) (n1 : n ≤ 9223372036854775807) (hl : l.length < 4294967296) (w : World) (base : Nat) (hB : base ≤ w.heap.size) (hown0 : w.ownsRow base 5 1 vb l.length (bv l)) :
    Calls Tryd.prog 55 #[vb, .int .u64 v, .int .i64 n] w (GivesO base w vb (l ++ Pu.putL v (Pu.clip n))) := by
  obtain ⟨m, hm, hm64, hcase⟩ : ∃ m : Nat, Pu.clip n = m ∧ m ≤ 64 ∧ ((n < 0 ∧ m = 0) ∨ (64 < n ∧ m = 64) ∨ n = m) := ⟨Pu.clip n, rfl, Pu.clip_le n, by unfold Pu.clip; split <;> (try split) <;> omega⟩
  rw [hm]
  clear hm
  rcases hcase with ⟨hn, rfl⟩ | ⟨hn, rfl⟩ | rfl
  · go_enter Tryd.func55, Tryd.ntmps55
    go_wp2
    go_loopw [0, 1, 7] (fun o u i wr => PutRel base w wr l v o u i 0 ∧ Only w wr vb o) (fun _ _ i _ => 0 - (intOf i).toNat)
    case atStart => exact ⟨⟨0, by omega, rfl, by simp, by simpa [Pu.putL] using hown0, Below.refl _ _⟩, Only.refl _ _⟩
    case round =>
      obtain ⟨⟨k, hk, rfl, rfl, hown, hbel⟩, honly⟩ := hrel
      have hsz := hbel.size
      by_cases hlt : (k : Int) < n
      · exfalso; omega
      · obtain rfl : k = 0 := by omega
        go_wp2
        go_ret
        exact ⟨_, rfl, by simpa [Pu.putL_length] using hown, hbel, honly⟩
  · go_enter Tryd.func55, Tryd.ntmps55
    go_wp2
    go_loopw [0, 1, 7] (fun o u i wr => PutRel base w wr l v o u i 64 ∧ Only w wr vb o) (fun _ _ i _ => 64 - (intOf i).toNat)
    case atStart => exact ⟨⟨0, by omega, rfl, by simp, by simpa [Pu.putL] using hown0, Below.refl _ _⟩, Only.refl _ _⟩
    case round =>
      obtain ⟨⟨k, hk, rfl, rfl, hown, hbel⟩, honly⟩ := hrel
      have hsz := hbel.size
      by_cases hlt : k < 64
      · have hxx : v / 256 ^ k < 18446744073709551616 := Nat.lt_of_le_of_lt (Nat.div_le_self _ _) hv
        generalize hX : v / 256 ^ k = x at *
        have HX := Lib.hid hX
        clear hX
        go_wp2_with (at_builtin; refine wpList_append_rd _ rfl _ _ 23 rfl base 5 (.int .u8 0) 1 Tryd.underlying23 Tryd.inf5 rfl _ _ _ rfl (hown.alloc _) _ rfl _ _ (RdV.one _ _ _) (by intro u hu; simp at hu; subst hu; rfl) (by simp; omega) (by omega) (by simp; omega) ?_; intro o' w1 ho1' hg1' hw1')
        have hps := put_step hbel (by omega) hown _ ho1' hg1' rfl (by rw [← HX.out]; simp)
        go_roundw
        case rel => exact ⟨⟨k + 1, by omega, by go_num, by rw [Nat.pow_succ, ← Nat.div_div_eq_div_mul, HX.out]; simp, hps.1, hps.2⟩, honly.step hg1' hw1'⟩
        case measure => simp [intOf]; omega
      · obtain rfl : k = 64 := by omega
        go_wp2
        go_ret
        exact ⟨_, rfl, by simpa [Pu.putL_length] using hown, hbel, honly⟩
  · go_enter Tryd.func55, Tryd.ntmps55
    go_wp2
    go_loopw [0, 1, 7] (fun o u i wr => PutRel base w wr l v o u i m ∧ Only w wr vb o) (fun _ _ i _ => m - (intOf i).toNat)
    case atStart => exact ⟨⟨0, by omega, rfl, by simp, by simpa [Pu.putL] using hown0, Below.refl _ _⟩, Only.refl _ _⟩
    case round =>
      obtain ⟨⟨k, hk, rfl, rfl, hown, hbel⟩, honly⟩ := hrel
      have hsz := hbel.size
      by_cases hlt : k < m
      · have hxx : v / 256 ^ k < 18446744073709551616 := Nat.lt_of_le_of_lt (Nat.div_le_self _ _) hv
        generalize hX : v / 256 ^ k = x at *
        have HX := Lib.hid hX
        clear hX
        go_wp2_with (at_builtin; refine wpList_append_rd _ rfl _ _ 23 rfl base 5 (.int .u8 0) 1 Tryd.underlying23 Tryd.inf5 rfl _ _ _ rfl (hown.alloc _) _ rfl _ _ (RdV.one _ _ _) (by intro u hu; simp at hu; subst hu; rfl) (by simp; omega) (by omega) (by simp; omega) ?_; intro o' w1 ho1' hg1' hw1')
        have hps := put_step hbel (by omega) hown _ ho1' hg1' rfl (by rw [← HX.out]; simp)
        go_roundw
        case rel => exact ⟨⟨k + 1, by omega, by go_num, by rw [Nat.pow_succ, ← Nat.div_div_eq_div_mul, HX.out]; simp, hps.1, hps.2⟩, honly.step hg1' hw1'⟩
        case measure => simp [intOf]; omega
      · obtain rfl : k = m := by omega
        go_wp2
        go_ret
        exact ⟨_, rfl, by simpa [Pu.putL_length] using hown, hbel, honly⟩
end Go.Proofs.YtgcgehdbgegfeaaDoor
