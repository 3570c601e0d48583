/- Contracts of ints.Var and ints.Zig. Conditions: the rows are shorter than 2^32. -/
import Derived.Test.YtlbodandidopfaaPg
namespace Go.Proofs.Ytlbodandidopfaa
open Go.ChangeShapes Go.WideShapes Go.ChangeAt Go.RowKit
set_option linter.unusedSimpArgs false
set_option linter.unusedVariables false
theorem zig_any (a : Int) (h0 : -9223372036854775808 ≤ a) (h1 : a ≤ 9223372036854775807) (w : World) : Calls Try.prog 92 #[.int .i64 a] w fun e w' => e = .returned (.int .u64 (Pu.zig a)) ∧ w = w' := by
  go_enter Try.func92, Try.ntmps92
  go_wp2
  go_ret
  exact ⟨ret_int (Pu.bits_zig a h0 h1), rfl⟩
/-- hands back a row that reads as l, made by the call -/
def TellsB (w : World) (l : List UInt8) (e : Ending) (w' : World) : Prop := ∃ r, e = .returned r ∧ RdV w' w'.heap.size r (bv l) ∧ Below w.heap.size w w'
/-- likewise, and the row has no spare room -/
def FullB (w : World) (l : List UInt8) (e : Ending) (w' : World) : Prop := ∃ g, e = .returned (.slice (some ⟨g, 0, none⟩) l.length l.length) ∧ RdV w' w'.heap.size (.slice (some ⟨g, 0, none⟩) l.length l.length) (bv l) ∧ Below w.heap.size w w' ∧ w.heap.size ≤ g ∧ g < w'.heap.size
theorem FullB.held {w : World} {l : List UInt8} {e : Ending} {w' : World} (h : FullB w l e w') : ∃ r, e = .returned r ∧ HeldR w' w.heap.size r (bv l) ∧ Below w.heap.size w w' := by
  obtain ⟨g, h1, h2, h3, h4, h5⟩ := h
  refine ⟨_, h1, ⟨h2, fun k hk => ?_⟩, h3⟩
  simp [Value.ownBlock] at hk
  omega
theorem FullB.tells {w : World} {l : List UInt8} {e : Ending} {w' : World} (h : FullB w l e w') : TellsB w l e w' := by
  obtain ⟨g, h1, h2, h3, _⟩ := h
  exact ⟨_, h1, h2, h3⟩

def VarRel (base : Nat) (w wr : World) (l : List UInt8) (v : Nat) (o u : Value) : Prop :=
  ∃ (k x : Nat) (pre : List UInt8), k ≤ 9 ∧ pre.length = k ∧ Hid (pre ++ Pu.varF (10 - k) x = Pu.varL v) ∧ x < 2 ^ (64 - 7 * k) ∧ x < 18446744073709551616 ∧ u = .int .u64 x ∧ wr.ownsRow base 5 1 o (l.length + k) (bv (l ++ pre)) ∧ Below base w wr

theorem own_step {base : Nat} {w wr w1 : World} {l : List UInt8} {n : Nat} {o o' u : Value} {row : Option Nat} {b : UInt8}
    (hb : Below base w wr) (hbase : base ≤ wr.heap.size) (hown : wr.ownsRow base 5 1 o n (bv l)) (t : TypeId)
    (h1 : w1.ownsRow base 5 1 o' (n + [u].length) (bv l ++ [u]))
    (hg : (wr.alloc (.cells #[u] t)).grownBy w1 row) (hrow : row = o.ownBlock) (hu : u = .int .u8 (b.toNat : Int)) :
    w1.ownsRow base 5 1 o' (n + 1) (bv (l ++ [b])) ∧ Below base w w1 := by
  subst hu
  constructor
  · rw [bv_append]; exact h1
  · refine (hb.alloc hbase _).grown hg (by simp; omega) ?_
    intro g hg2
    rw [hrow] at hg2
    exact (hown.lt g hg2).1

theorem RdV.short {w : World} {base : Nat} {g n cap : Nat} {xs : List Value} {e : TypeId} (h : w.ownsRow base e 1 (.slice (some ⟨g, 0, none⟩) n cap) n xs) : RdV w w.heap.size (.slice (some ⟨g, 0, none⟩) n n) xs := by
  obtain ⟨A, c, h1, h2, h3, h4⟩ := RdV.own h
  injection h1 with e1 e2 e3
  subst e1
  exact ⟨_, n, by rw [e2], by omega, by omega, h4⟩

set_option maxRecDepth 100000 in
set_option maxHeartbeats 1000000 in
theorem var_full (vb : Value) (l : List UInt8) (v : Nat) (hv : v < 18446744073709551616) (hl : l.length < 4294967296) (w : World) (B : Nat) (hB : B ≤ w.heap.size) (hr : RdV w B vb (bv l)) :
    Calls Try.prog 91 #[vb, .int .u64 v] w (FullB w (l ++ Pu.varL v)) := by
  obtain ⟨A, c, rfl, hc1, hc2, hc3⟩ := id hr
  rw [bv_length] at hc1 hc3 hr ⊢
  clear hc3
  go_enter Try.func91, Try.ntmps91
  go_wp2_with (first
      | (at_make; refine wpList_make_rd _ rfl _ _ 36 rfl w.heap.size 5 (.int .u8 0) 1 Try.underlying36 Try.inf5 rfl .i64 .i64 l.length (l.length + 10) _ _ rfl rfl rfl (by simp) (by omega) (by omega) (by unfold maxLen; omega) (Nat.le_refl _) ?_; intro w1 ho1 hg1)
      | (refine wpList_copy_rd _ rfl (.tmp 12) (.tmp 13) 36 36 rfl w.heap.size 5 (.int .u8 0) 1 Try.underlying36 Try.inf5 _ _ _ _ rfl ho1 _ rfl B (bv l) (hr.grown hg1 hB (by intro g h; cases h)) (bv_length l) (bv_one l) ?_; intro w2 ho2 hg2))
  go_frame
  go_loopw [1, 5] (fun u o wr => VarRel w.heap.size w wr l v o u) (fun u _ _ => (intOf u).toNat)
  case atStart => exact ⟨0, v, [], by omega, rfl, rfl, by simpa using hv, hv, rfl, by simpa using ho2, ((Below.refl _ _).grown hg1 (Nat.le_refl _) (by intro g h; cases h)).grown hg2 hg1.size (by intro g h; injection h with h; omega)⟩
  case round =>
    obtain ⟨k, x, pre, hk, hpk, hpre, hx, hx64, rfl, hown, hbel⟩ := hrel
    have hsz := hbel.size
    have HK := Lib.hid hpk
    clear hpk
    by_cases hlt : 128 ≤ x
    · obtain ⟨hk8, hx2⟩ := Pu.var_room hk hx hlt
      have HX2 := Lib.hid hx2
      clear hx2 hx
      go_wp2_with (at_builtin; refine wpList_append_rd _ rfl _ _ 36 rfl w.heap.size 5 (.int .u8 0) 1 Try.underlying36 Try.inf5 rfl _ _ _ rfl (hown.alloc _) _ rfl _ _ (RdV.one _ _ _) (by intro u hu; simp at hu; subst hu; rfl) (by simp; omega) (by omega) (by simp; omega) ?_; intro o' w1 ho1' hg1' _)
      have hps := own_step (b := UInt8.ofNat (x % 128 + 128)) hbel hsz hown _ ho1' hg1' rfl (by rw [Pu.u8_or128]; simp; omega)
      go_roundw
      case rel => exact ⟨k + 1, x / 128, pre ++ [UInt8.ofNat (x % 128 + 128)], by omega, by simp [HK.out], by have := hpre.out; rw [Pu.varF_go hk hlt] at this; simpa [Hid] using this, HX2.out, by omega, by simp, by simpa [Nat.add_assoc] using hps.1, hps.2⟩
      case measure => simp [intOf]; omega
    · have hend := Pu.varF_end hk (show x < 128 by omega)
      have HE := Lib.hid hend
      clear hend hx
      go_wp2_with (at_builtin; refine wpList_append_rd _ rfl _ _ 36 rfl w.heap.size 5 (.int .u8 0) 1 Try.underlying36 Try.inf5 rfl _ _ _ rfl (hown.alloc _) _ rfl _ _ (RdV.one _ _ _) (by intro u hu; simp at hu; subst hu; rfl) (by simp; omega) (by omega) (by simp; omega) ?_; intro o' w1 ho1' hg1' _; obtain ⟨ho3, hb3⟩ := own_step (b := UInt8.ofNat x) hbel hsz hown _ ho1' hg1' rfl (by simp; omega); obtain ⟨g, cap, rfl, hgb, hgl, hgc, hgm⟩ := own_form ho3 (by omega); clear ho1' hg1')
      go_ret
      have hsh := RdV.short ho3
      have e : (l ++ pre) ++ [UInt8.ofNat x] = l ++ Pu.varL v := by
        have := hpre.out
        rw [HE.out] at this
        rw [List.append_assoc, this]
      have e2 : (l ++ Pu.varL v).length = l.length + k + 1 := by rw [← e]; simp [HK.out]; omega
      rw [e, ← e2] at hsh
      exact ⟨g, by rw [e2]; simp, hsh, hb3, hgb, hgl⟩
theorem var_any (vb : Value) (l : List UInt8) (v : Nat) (hv : v < 18446744073709551616) (hl : l.length < 4294967296) (w : World) (B : Nat) (hB : B ≤ w.heap.size) (hr : RdV w B vb (bv l)) :
    Calls Try.prog 91 #[vb, .int .u64 v] w (TellsB w (l ++ Pu.varL v)) :=
  (var_full vb l v hv hl w B hB hr).mono fun _ _ h => h.tells

end Go.Proofs.Ytlbodandidopfaa
