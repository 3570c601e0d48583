/- Contracts of ints.Put and ints.Get: what each returns; memory is only made. Conditions: the rows are shorter than 2^32. -/
import Derived.Test.YtkgmelhigjjbbaaMem
import Derived.Test.YtkgmelhigjjbbaaPure
namespace Go.Proofs.Ytkgmelhigjjbbaa
open Go.ChangeShapes Go.WideShapes Go.ChangeAt Go.RowKit
set_option linter.unusedSimpArgs false
set_option linter.unusedVariables false

theorem ret_int {k : IntKind} {a b : Int} (h : a = b) : Ending.returned (.int k a) = .returned (.int k b) := by rw [h]
theorem Try.inf5 : (Try.prog.info? 5).map (fun i => (i.zero, i.size, i.bytes)) = some (some (.int .u8 0), 1, 1) := by kernel_rfl

/-- hands back a row of the call's own (from block 'base' on) that reads as l -/
def GivesB (base : Nat) (w : World) (l : List UInt8) (e : Ending) (w' : World) : Prop := ∃ r, e = .returned r ∧ w'.ownsRow base 5 1 r l.length (bv l) ∧ Below base w w'
theorem GivesB.held {base : Nat} {w : World} {l : List UInt8} {e : Ending} {w' : World} (h : GivesB base w l e w') : ∃ r, e = .returned r ∧ HeldR w' base r (bv l) ∧ Below base w w' := by
  obtain ⟨r, h1, h2, h3⟩ := h
  exact ⟨r, h1, HeldR.of_own h2, h3⟩

/-- likewise; and of what was there one row alone may have turned -/
def GivesO (base : Nat) (w : World) (vb : Value) (l : List UInt8) (e : Ending) (w' : World) : Prop := ∃ r, e = .returned r ∧ w'.ownsRow base 5 1 r l.length (bv l) ∧ Below base w w' ∧ Only w w' vb r

def PutRel (base : Nat) (w wr : World) (l : List UInt8) (v : Nat) (o u i : Value) (n : Nat) : Prop :=
  ∃ k : Nat, k ≤ n ∧ i = .int .i64 k ∧ u = .int .u64 ((v / 256 ^ k : Nat) : Int) ∧ wr.ownsRow base 5 1 o (l.length + k) (bv (l ++ Pu.putL v k)) ∧ Below base w wr

theorem put_step {base : Nat} {w wr w1 : World} {l : List UInt8} {v k : Nat} {o o' u : Value} {row : Option Nat}
    (hb : Below base w wr) (hbase : base ≤ wr.heap.size) (hown : wr.ownsRow base 5 1 o (l.length + k) (bv (l ++ Pu.putL v k))) (t : TypeId)
    (h1 : w1.ownsRow base 5 1 o' (l.length + k + [u].length) (bv (l ++ Pu.putL v k) ++ [u]))
    (hg : (wr.alloc (.cells #[u] t)).grownBy w1 row) (hrow : row = o.ownBlock) (hu : u = .int .u8 ((v / 256 ^ k % 256 : Nat) : Int)) :
    w1.ownsRow base 5 1 o' (l.length + (k + 1)) (bv (l ++ Pu.putL v (k + 1))) ∧ Below base w w1 := by
  subst hu
  constructor
  · have e : bv (l ++ Pu.putL v (k + 1)) = bv (l ++ Pu.putL v k) ++ [Value.int .u8 ((v / 256 ^ k % 256 : Nat) : Int)] := by
      rw [Pu.putL, ← List.append_assoc, bv_append]
      congr 1
    rw [e]
    exact h1
  · refine (hb.alloc hbase _).grown hg (by simp; omega) ?_
    intro g hg2
    rw [hrow] at hg2
    exact (hown.lt g hg2).1


theorem take_id (l : List UInt8) (n : Nat) (h : l.length ≤ n) : l.take n = l := List.take_of_length_le h

set_option maxHeartbeats 1000000 in
theorem get_any (vb : Value) (l : List UInt8) (n : Int) (n0 : -9223372036854775808 ≤ n) (n1 : n ≤ 9223372036854775807) (hl : l.length < 4294967296) (w : World) (B : Nat) (hr : RdV w B vb (bv l)) :
    Calls Try.prog 30 #[vb, .int .i64 n] w fun e w' => e = .returned (.tuple #[.int .u64 (Pu.getV l n : Nat), .bool (Pu.getB l n)]) ∧ w = w' := by
  obtain ⟨A, c, rfl, hc1, hc2, hc3⟩ := id hr
  rw [bv_length] at hc1 hc3 hr ⊢
  clear hc3
  by_cases hc : 0 ≤ n ∧ n ≤ 8 ∧ n ≤ (l.length : Int)
  · have hb : Pu.getB l n = true := by unfold Pu.getB; simpa using hc
    have hv : Pu.getV l n = Pu.leN (l.take n.toNat) := by unfold Pu.getV; rw [if_pos hb]
    rw [hb, hv]
    obtain ⟨c1, c2, c3⟩ := hc
    obtain ⟨m, rfl⟩ := Int.eq_ofNat_of_zero_le c1
    rw [Int.toNat_natCast]
    clear hb hv
    go_enter Try.func30, Try.ntmps30
    go_wp2
    go_loop [6, 21] (fun u i => ∃ k : Nat, k ≤ m ∧ i = .int .i64 k ∧ u = .int .u64 (Pu.leN (l.take k) : Nat)) (fun _ i => m - (intOf i).toNat)
    case atStart => exact ⟨0, by omega, rfl, rfl⟩
    case round =>
      obtain ⟨k, hk, rfl, rfl⟩ := hrel
      by_cases hlt : k < m
      · have hkl : k < l.length := by omega
        obtain ⟨b, off, rfl, hbB, hcell⟩ := hr.get (j := k) (u := .int .u8 (l[k].toNat : Int)) (by rw [bv_get, List.getElem?_eq_getElem hkl]; rfl)
        have hb := (l[k]).toNat_lt
        generalize hX : (l[k]).toNat = x at *
        have HX := Lib.hid hX
        clear hX
        go_wp2
        go_round
        case rel =>
          refine ⟨k + 1, by omega, by go_num, ?_⟩
          have h1 := Pu.leN_lt (l.take k)
          rw [List.length_take, Nat.min_eq_left (by omega), show 256 ^ k = 2 ^ (8 * k) from by rw [Nat.pow_mul]] at h1
          rw [Pu.or_up _ _ (8 * k) 8 h1 hb (by omega), Pu.leN_take l k hkl, HX.out, Nat.pow_mul]
        case measure => simp [intOf]; omega
      · obtain rfl : k = m := by omega
        go_wp2
        go_ret2
        exact ⟨rfl, rfl⟩
  · have hb : Pu.getB l n = false := by unfold Pu.getB; simpa using hc
    have hv : Pu.getV l n = 0 := by unfold Pu.getV; rw [hb]; rfl
    rw [hb, hv]
    clear hb hv
    by_cases c1 : n < 0
    · go_enter Try.func30, Try.ntmps30
      go_wp2
      go_ret2
      exact ⟨rfl, rfl⟩
    · by_cases c2 : 8 < n
      · go_enter Try.func30, Try.ntmps30
        go_wp2
        go_ret2
        exact ⟨rfl, rfl⟩
      · have c3 : (l.length : Int) < n := by omega
        go_enter Try.func30, Try.ntmps30
        go_wp2
        go_ret2
        exact ⟨rfl, rfl⟩


end Go.Proofs.Ytkgmelhigjjbbaa
