/- The document's numbers in a row of bytes. Conditions: none of its own. Made out of XWrk: not beside it. -/
import Derived.Test.YtlbodandidopfaaCww
import Derived.Test.YtlbodandidopfaaRdk
namespace Go.Proofs.Ytlbodandidopfaa
open Go.ChangeShapes Go.WideShapes Go.ChangeAt Go.RowKit
set_option linter.unusedSimpArgs false
set_option linter.unusedVariables false
theorem rzig_any (a : Int) (h0 : -9223372036854775808 ≤ a) (h1 : a ≤ 9223372036854775807) (w : World) : Calls Try.prog 101 #[.int .i64 a] w fun e w' => e = .returned (.int .u64 (Pu.zig a)) ∧ w = w' := by
  go_enter Try.func101, Try.ntmps101
  by_cases hn : a < 0 <;> (go_wp2; go_ret; refine ⟨ret_int ?_, rfl⟩; unfold Pu.zig; simp [IntKind.wrap_u64, hn]; omega)
set_option maxRecDepth 100000 in
set_option maxHeartbeats 1000000 in
theorem rvar_any (vb : Value) (l : List UInt8) (v : Nat) (hv : v < 18446744073709551616) (hl : l.length < 4294967296) (w : World) (base : Nat) (hB : base ≤ w.heap.size) (hown0 : w.ownsRow base 5 1 vb l.length (bv l)) :
    Calls Try.prog 100 #[vb, .int .u64 v] w (GivesO base w vb (l ++ Pu.varL v)) := by
  go_enter Try.func100, Try.ntmps100
  go_wp2
  go_loopw [0, 1] (fun o u wr => VarRel base w wr l v o u ∧ Only w wr vb o) (fun _ u _ => (intOf u).toNat)
  case atStart => exact ⟨⟨0, v, [], by omega, rfl, rfl, by simpa using hv, hv, rfl, by simpa using hown0, Below.refl _ _⟩, Only.refl _ _⟩
  case round =>
    obtain ⟨⟨k, x, pre, hk, hpk, hpre, hx, hx64, rfl, hown, hbel⟩, honly⟩ := hrel
    have hsz := hbel.size
    have HK := Lib.hid hpk
    clear hpk
    by_cases hlt : 128 ≤ x
    · obtain ⟨hk8, hx2⟩ := Pu.var_room hk hx hlt
      have HX2 := Lib.hid hx2
      clear hx2 hx
      go_wp2_with (at_builtin; refine wpList_append_rd _ rfl _ _ 36 rfl base 5 (.int .u8 0) 1 Try.underlying36 Try.inf5 rfl _ _ _ rfl (hown.alloc _) _ rfl _ _ (RdV.one _ _ _) (by intro u hu; simp at hu; subst hu; rfl) (by simp; omega) (by omega) (by simp; omega) ?_; intro o' w1 ho1' hg1' hw1')
      have hps := own_step (b := UInt8.ofNat (x % 128 + 128)) hbel (by omega) hown _ ho1' hg1' rfl (by simp; omega)
      go_roundw
      case rel => exact ⟨⟨k + 1, x / 128, pre ++ [UInt8.ofNat (x % 128 + 128)], by omega, by simp [HK.out], by have := hpre.out; rw [Pu.varF_go hk hlt] at this; simpa [Hid] using this, HX2.out, by omega, by simp, by simpa [Nat.add_assoc] using hps.1, hps.2⟩, honly.step hg1' hw1'⟩
      case measure => simp [intOf]; omega
    · have hend := Pu.varF_end hk (show x < 128 by omega)
      have HE := Lib.hid hend
      clear hend hx
      go_wp2_with (at_builtin; refine wpList_append_rd _ rfl _ _ 36 rfl base 5 (.int .u8 0) 1 Try.underlying36 Try.inf5 rfl _ _ _ rfl (hown.alloc _) _ rfl _ _ (RdV.one _ _ _) (by intro u hu; simp at hu; subst hu; rfl) (by simp; omega) (by omega) (by simp; omega) ?_; intro o' w1 ho1' hg1' hw1'; have honly2 := honly.step hg1' hw1'; obtain ⟨ho3, hb3⟩ := own_step (b := UInt8.ofNat x) hbel (by omega) hown _ ho1' hg1' rfl (by simp; omega); clear ho1' hg1' hw1')
      go_ret
      refine ⟨_, rfl, ?_, hb3, honly2⟩
      have e : (l ++ pre) ++ [UInt8.ofNat x] = l ++ Pu.varL v := by
        have := hpre.out
        rw [HE.out] at this
        rw [List.append_assoc, this]
      rw [e] at ho3
      have e2 : (l ++ Pu.varL v).length = l.length + k + 1 := by rw [← e]; simp [HK.out]; omega
      rw [e2]
      exact ho3
theorem only_trans {w a b : World} {v o o' : Value} (h : Only w a v o) (k : Only a b o o') : Only w b v o' := by
  obtain ⟨h1, h2⟩ := h
  obtain ⟨k1, k2⟩ := k
  have hs := h1.size
  refine ⟨⟨k1.os.trans h1.os, k1.tape.trans h1.tape, k1.output.trans h1.output, Nat.le_trans h1.size k1.size, fun i hi hne => (k1.block i (by omega) (fun e => ?_)).trans (h1.block i hi hne)⟩, ?_⟩
  · rcases h2 with h2 | ⟨g, h2, hg⟩
    · exact hne (e.trans h2)
    · rw [h2] at e; injection e with e; omega
  · rcases k2 with k2 | ⟨g, k2, hg⟩
    · rw [k2]; exact h2
    · exact Or.inr ⟨g, k2, by omega⟩
/-- a number as a record lays it -/
def encI (z : Int) : List UInt8 := Pu.varL (Pu.zig z).toNat
theorem encI_length (z : Int) : (encI z).length ≤ 10 := Pu.varL_length _
theorem encI_pos (z : Int) : 0 < (encI z).length := by unfold encI Pu.varL Pu.varF; split <;> simp
def encL (zs : List Int) : List UInt8 := zs.flatMap encI
theorem encL_length (zs : List Int) : (encL zs).length ≤ 10 * zs.length := by
  induction zs with
  | nil => simp [encL]
  | cons z r ih => simp only [encL, List.flatMap_cons, List.length_append, List.length_cons] at ih ⊢; have := encI_length z; omega
set_option maxRecDepth 100000 in
set_option maxHeartbeats 1000000 in
theorem eint_any (w : World) (base : Nat) (hB : base ≤ w.heap.size) (vb : Value) (l : List UInt8) (z : Int) (z0 : -9223372036854775808 ≤ z) (z1 : z ≤ 9223372036854775807) (hl : l.length < 4294967296) (ho : w.ownsRow base 5 1 vb l.length (bv l)) :
    Calls Try.prog 83 #[vb, .int .i64 z] w (GivesO base w vb (l ++ encI z)) := by
  have zl := Pu.zig_lo z
  have zh := Pu.zig_hi z z0 z1
  have hz := rzig_any z z0 z1 w
  unfold encI
  obtain ⟨u, hu⟩ := Int.eq_ofNat_of_zero_le zl
  rw [hu] at hz zh ⊢
  rw [Int.toNat_natCast]
  have hv := rvar_any vb l u (by omega) hl w base hB ho
  have HV := Lib.hid hv
  have HZ := Lib.hid hz
  clear hu hv hz ho zl
  go_enter Try.func83, Try.ntmps83
  go_wp2_with fail
  refine HZ.out.mono ?_
  rintro e w1 ⟨rfl, rfl⟩
  go_wp2_with fail
  refine HV.out.mono ?_
  rintro e w1 ⟨r, rfl, h1, h2, h3⟩
  have HR := Lib.hid (show GivesO base w vb (l ++ Pu.varL u) (.returned r) w1 from ⟨r, rfl, h1, h2, h3⟩)
  clear h1 h2 h3
  go_wp2
  go_ret
  exact HR.out
end Go.Proofs.Ytlbodandidopfaa
