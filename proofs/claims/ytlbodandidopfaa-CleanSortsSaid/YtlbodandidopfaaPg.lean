/- Contracts of ints.Put and ints.Get: what each returns; memory is only made. Conditions: the rows are shorter than 2^32. -/
import Derived.Test.YtlbodandidopfaaMem
import Derived.Test.YtlbodandidopfaaPure
namespace Go.Proofs.Ytlbodandidopfaa
open Go.ChangeShapes Go.WideShapes Go.ChangeAt Go.RowKit
set_option linter.unusedSimpArgs false
set_option linter.unusedVariables false

theorem ret_int {k : IntKind} {a b : Int} (h : a = b) : Ending.returned (.int k a) = .returned (.int k b) := by rw [h]
theorem Try.inf5 : (Try.prog.info? 5).map (fun i => (i.zero, i.size, i.bytes)) = some (some (.int .u8 0), 1, 1) := by kernel_rfl

/-- hands back a row of the call's own (from block 'base' on) that reads as l -/
def GivesB (base : Nat) (w : World) (l : List UInt8) (e : Ending) (w' : World) : Prop := ∃ r, e = .returned r ∧ w'.ownsRow base 5 1 r l.length (bv l) ∧ Below base w w'
theorem GivesB.held {base : Nat} {w : World} {l : List UInt8} {e : Ending} {w' : World} (h : GivesB base w l e w') : ∃ r, e = .returned r ∧ HeldR w' base r (bv l) ∧ Below base w w' := by
  obtain ⟨r, h1, h2, h3⟩ := h
  exact ⟨r, h1, HeldR.of_own h2, h3⟩

/-- likewise; and of what was there one row alone may have turned -/
def GivesO (base : Nat) (w : World) (vb : Value) (l : List UInt8) (e : Ending) (w' : World) : Prop := ∃ r, e = .returned r ∧ w'.ownsRow base 5 1 r l.length (bv l) ∧ Below base w w' ∧ Only w w' vb r

def PutRel (base : Nat) (w wr : World) (l : List UInt8) (v : Nat) (o u i : Value) (n : Nat) : Prop :=
  ∃ k : Nat, k ≤ n ∧ i = .int .i64 k ∧ u = .int .u64 ((v / 256 ^ k : Nat) : Int) ∧ wr.ownsRow base 5 1 o (l.length + k) (bv (l ++ Pu.putL v k)) ∧ Below base w wr

theorem put_step {base : Nat} {w wr w1 : World} {l : List UInt8} {v k : Nat} {o o' u : Value} {row : Option Nat}
    (hb : Below base w wr) (hbase : base ≤ wr.heap.size) (hown : wr.ownsRow base 5 1 o (l.length + k) (bv (l ++ Pu.putL v k))) (t : TypeId)
    (h1 : w1.ownsRow base 5 1 o' (l.length + k + [u].length) (bv (l ++ Pu.putL v k) ++ [u]))
    (hg : (wr.alloc (.cells #[u] t)).grownBy w1 row) (hrow : row = o.ownBlock) (hu : u = .int .u8 ((v / 256 ^ k % 256 : Nat) : Int)) :
    w1.ownsRow base 5 1 o' (l.length + (k + 1)) (bv (l ++ Pu.putL v (k + 1))) ∧ Below base w w1 := by
  subst hu
  constructor
  · have e : bv (l ++ Pu.putL v (k + 1)) = bv (l ++ Pu.putL v k) ++ [Value.int .u8 ((v / 256 ^ k % 256 : Nat) : Int)] := by
      rw [Pu.putL, ← List.append_assoc, bv_append]
      congr 1
    rw [e]
    exact h1
  · refine (hb.alloc hbase _).grown hg (by simp; omega) ?_
    intro g hg2
    rw [hrow] at hg2
    exact (hown.lt g hg2).1


theorem take_id (l : List UInt8) (n : Nat) (h : l.length ≤ n) : l.take n = l := List.take_of_length_le h



end Go.Proofs.Ytlbodandidopfaa
