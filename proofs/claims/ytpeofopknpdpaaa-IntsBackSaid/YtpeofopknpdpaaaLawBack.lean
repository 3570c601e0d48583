/- The law IntsBack answers true for any numbers and bytes: what was laid is read so. Conditions: none. -/
import Derived.Test.YtpeofopknpdpaaaKnown
namespace Go.Proofs.Ytpeofopknpdpaaa.lawIntsBack
open Go.ChangeShapes Go.WideShapes Go.ChangeAt Go.RowKit
set_option linter.unusedSimpArgs false
set_option linter.unusedVariables false

theorem own : ownKnob Try.prog.godebug = none := by kernel_rfl
theorem laid : laidOutB Try.prog = true := by kernel_rfl

theorem zag_zig (v : Int) (h0 : -9223372036854775808 ≤ v) (h1 : v ≤ 9223372036854775807) (w : World) : Calls Try.prog 13 #[.int .u64 (Pu.zig v)] w fun e w' => e = .returned (.int .i64 v) ∧ w = w' := by
  have h := zag_any (Pu.zig v) (Pu.zig_lo v) (Pu.zig_hi v h0 h1) w
  rw [Pu.zag_zig] at h
  exact h
theorem zig_zag (u : Int) (h0 : 0 ≤ u) (h1 : u ≤ 18446744073709551615) (w : World) : Calls Try.prog 11 #[.int .i64 (Pu.zag u)] w fun e w' => e = .returned (.int .u64 u) ∧ w = w' := by
  have h := zig_any (Pu.zag u) (Pu.zag_lo u h0 h1) (Pu.zag_hi u h0 h1) w
  rw [Pu.zig_zag u h0] at h
  exact h
theorem turn_turn (u : Nat) (h : u < 18446744073709551616) (w : World) : Calls Try.prog 17 #[.int .u64 (Pu.turn u)] w fun e w' => e = .returned (.int .u64 u) ∧ w = w' := by
  have h2 := turn_any (Pu.turn u) (Pu.turn_lt u) w
  rw [Pu.turn_turn u h] at h2
  exact h2
theorem var_nil (u : Nat) (hu : u < 18446744073709551616) (w : World) : Calls Try.prog 35 #[.slice none 0 0, .int .u64 u] w (FullB w (Pu.varL u)) := by
  have h := var_full (.slice none 0 0) [] u hu (by simp) w 0 (by omega) (RdV.nil_ w 0)
  rw [List.nil_append] at h
  exact h
theorem readvar_var (vb : Value) (u : Nat) (more : List UInt8) (hu : u < 18446744073709551616) (hl : more.length < 100000) (w : World) (B : Nat) (hr : RdV w B vb (bv (Pu.varL u ++ more))) :
    Calls Try.prog 33 #[vb] w fun e w' => e = .returned (.tuple #[.int .u64 u, .int .i64 ((Pu.varL u).length : Nat), .int .i64 0]) ∧ w = w' := by
  have h := readvar_any vb (Pu.varL u ++ more) (by have := Pu.varL_length u; rw [List.length_append]; omega) w B hr
  obtain ⟨h1, h2, h3⟩ := Pu.readvar_var u hu more
  rw [h1, h2, h3] at h
  exact h
theorem put_nil (u m : Nat) (hu : u < 18446744073709551616) (hm : m ≤ 8) (w : World) : Calls Try.prog 19 #[.slice none 0 0, .int .u64 u, .int .i64 m] w (GivesB w.heap.size w (Pu.putL u m)) := by
  have h := put_any (.slice none 0 0) [] u m hu (by omega) (by omega) (by simp) w 0 (by omega) (RdV.nil_ w 0)
  rw [show Pu.clip (m : Int) = m from by unfold Pu.clip; rw [if_neg (by omega), if_neg (by omega)]; omega, List.nil_append] at h
  exact h
theorem get_put (vb : Value) (u m : Nat) (hm : m ≤ 8) (w : World) (B : Nat) (hr : RdV w B vb (bv (Pu.putL u m))) :
    Calls Try.prog 21 #[vb, .int .i64 m] w fun e w' => e = .returned (.tuple #[.int .u64 ((u % 256 ^ m : Nat) : Int), .bool true]) ∧ w = w' := by
  have h := get_any vb (Pu.putL u m) m (by omega) (by omega) (by rw [Pu.putL_length]; omega) w B hr
  have hb : Pu.getB (Pu.putL u m) m = true := by unfold Pu.getB; rw [Pu.putL_length]; simp; omega
  have hv : Pu.getV (Pu.putL u m) m = u % 256 ^ m := by
    unfold Pu.getV
    rw [if_pos hb, Int.toNat_natCast, List.take_of_length_le (by rw [Pu.putL_length]; omega), Pu.leN_putL]
  rw [hb, hv] at h
  exact h
theorem field_put (vb : Value) (u m : Nat) (hm : m ≤ 8) (w : World) (B : Nat) (hr : RdV w B vb (bv (Pu.putL u m))) :
    Calls Try.prog 25 #[vb, .int .i64 0, .int .i64 (8 * (m : Int))] w fun e w' => e = .returned (.tuple #[.int .u64 ((u % 256 ^ m : Nat) : Int), .bool true]) ∧ w = w' := by
  have h := field_any vb (Pu.putL u m) 0 (8 * (m : Int)) (by omega) (by omega) (by omega) (by omega) (by rw [Pu.putL_length]; omega) w B hr
  have hb : Pu.fieldB (Pu.putL u m) 0 (8 * (m : Int)) = true := by unfold Pu.fieldB; rw [Pu.putL_length]; simp; omega
  have hv : Pu.fieldV (Pu.putL u m) 0 (8 * (m : Int)) = u % 256 ^ m := by
    unfold Pu.fieldV
    rw [if_pos hb, show (8 * (m : Int)).toNat = 8 * m from by omega, show (0 : Int).toNat = 0 from rfl, Pu.fieldN_bytes _ _ (by rw [Pu.putL_length]; omega), List.take_of_length_le (by rw [Pu.putL_length]; omega), Pu.leN_putL]
  rw [hb, hv] at h
  exact h

set_option maxRecDepth 100000 in
set_option maxHeartbeats 2000000 in
theorem walk (v : Int) (w0 : (Lit.int .i64 v).wf = true) (u : Int) (w1 : (Lit.int .u64 u).wf = true) (n : Int) (w2 : (Lit.int .i64 n).wf = true) (v3 : Value) (l : List UInt8) (w : World) (b3 : RdV w w.heap.size v3 (bv l)) :
    Calls Try.prog 7 #[.int .i64 v, .int .u64 u, .int .i64 n, v3] w fun e w' => e = .returned (.bool true) ∧ Below w.heap.size w w' := by
  obtain ⟨hv0, hv1⟩ : -9223372036854775808 ≤ v ∧ v ≤ 9223372036854775807 := by simpa [Lit.wf, IntKind.min, IntKind.max, IntKind.signed, IntKind.bits] using w0
  obtain ⟨hu0, hu1⟩ : 0 ≤ u ∧ u ≤ 18446744073709551615 := by simpa [Lit.wf, IntKind.min, IntKind.max, IntKind.signed, IntKind.bits] using w1
  obtain ⟨hn0, hn1⟩ : -9223372036854775808 ≤ n ∧ n ≤ 9223372036854775807 := by simpa [Lit.wf, IntKind.min, IntKind.max, IntKind.signed, IntKind.bits] using w2
  obtain ⟨A, c, rfl, hc1, hc2, hc3⟩ := id b3
  rw [bv_length] at hc1 hc3 b3 ⊢
  clear hc3
  by_cases d1 : 2000 < l.length
  · go_enter Try.func7, Try.ntmps7
    go_wp2_with fail
    refine (known_any _).mono ?_
    rintro e w1 ⟨rfl, hbel⟩
    go_wp2
    go_ret
    exact ⟨rfl, hbel⟩
  obtain ⟨m, rfl⟩ := Int.eq_ofNat_of_zero_le hu0
  have hm : m < 18446744073709551616 := by omega
  go_enter Try.func7, Try.ntmps7
  go_wp2_with fail
  refine (known_any _).mono ?_
  rintro e w1 ⟨rfl, hbel⟩
  go_wp2_with fail
  refine (zig_any v hv0 hv1 _).mono ?_
  rintro e w' ⟨rfl, rfl⟩
  go_wp2_with fail
  refine (zag_zig v hv0 hv1 _).mono ?_
  rintro e w' ⟨rfl, rfl⟩
  go_wp2_with fail
  refine (zag_any _ hu0 hu1 _).mono ?_
  rintro e w' ⟨rfl, rfl⟩
  go_wp2_with fail
  refine (zig_zag _ hu0 hu1 _).mono ?_
  rintro e w' ⟨rfl, rfl⟩
  go_wp2_with fail
  refine (turn_any m hm _).mono ?_
  rintro e w' ⟨rfl, rfl⟩
  go_wp2_with fail
  refine (turn_turn m hm _).mono ?_
  rintro e w' ⟨rfl, rfl⟩
  go_wp2_with fail
  refine (var_nil m hm _).mono ?_
  rintro e w2 ⟨g, rfl, hrd, hb2⟩
  have hq10 := Pu.varL_length m
  have hq0 : 0 < (Pu.varL m).length := by
    obtain ⟨hE, _, hN⟩ := Pu.readvar_var m hm []
    unfold Pu.rvN at hN
    rw [if_pos hE] at hN
    omega
  have hb12 := hbel.trans (hb2.mono hbel.size)
  have hr3 := b3.below hb12
  go_wp2_with (at_builtin; refine wpList_append_full _ rfl _ _ 29 rfl 5 (.int .u8 0) 1 Try.underlying29 Try.inf5 rfl g _ _ rfl _ hrd hq0 (Nat.le_refl _) _ rfl _ _ hr3 (bv_one l) (by rw [bv_length]; omega) (by omega) ?_; intro v' w3 hr4 hb3; rw [← bv_append] at hr4; obtain ⟨A', c', rfl, hc1', hc2', _⟩ := id hr4; rw [bv_length, List.length_append] at hr4 hc1' ⊢)
  refine (readvar_var _ m l hm (by omega) _ _ hr4).mono ?_
  rintro e w' ⟨rfl, rfl⟩
  generalize hQ : (Pu.varL m).length = q at *
  have hb13 := hb12.trans (hb3.mono hb12.size)
  by_cases d2 : n < 0
  · go_wp2
    go_ret
    exact ⟨rfl, hb13⟩
  by_cases d3 : 8 < n
  · go_wp2
    go_ret
    exact ⟨rfl, hb13⟩
  obtain ⟨n, rfl⟩ := Int.eq_ofNat_of_zero_le (show 0 ≤ n by omega)
  have hput := put_nil m n hm (by omega)
  have HPUT := Lib.hid hput
  clear hput
  go_wp2_with fail
  refine (HPUT.out _).mono ?_
  rintro e w4 ⟨r, rfl, ho4, hb4⟩
  have hr5 := RdV.own ho4
  have hb14 := hb13.trans (hb4.mono hb13.size)
  obtain ⟨A5, c5, rfl, hc5, hc6, _⟩ := id hr5
  rw [bv_length, Pu.putL_length] at hr5 hc5 ⊢
  obtain ⟨z, hz⟩ : ∃ z, m % 256 ^ n = z := ⟨_, rfl⟩
  have hget := fun W => get_put (.slice A5 n c5) m n (by omega) W w4.heap.size
  have hfld := fun W => field_put (.slice A5 n c5) m n (by omega) W w4.heap.size
  rw [hz] at hget hfld
  have HGET := Lib.hid hget
  have HFLD := Lib.hid hfld
  have HZ := Lib.hid hz
  clear hget hfld hz
  go_wp2_with fail
  refine (HGET.out _ hr5).mono ?_
  rintro e w' ⟨rfl, rfl⟩
  go_wp2_with fail
  refine (HFLD.out _ hr5).mono ?_
  rintro e w' ⟨rfl, rfl⟩
  by_cases d4 : n = 8
  · obtain rfl : m = z := by rw [← HZ.out, d4]; exact (Nat.mod_eq_of_lt (by simpa using hm)).symm
    have t2 : ((n : Int) == 8) = true := by rw [beq_iff_eq]; omega
    clear d4
    go_wp2
    go_ret
    exact ⟨rfl, hb14⟩
  · have t2 : ((n : Int) == 8) = false := by rw [beq_eq_false_iff_ne]; omega
    have t3 := Pu.u64_low m n hm (by omega)
    have h56 : 2 ^ (8 * n) ≤ 2 ^ 56 := Nat.pow_le_pow_right (by omega) (by omega)
    have hp0 : 0 < 2 ^ (8 * n) := Nat.two_pow_pos _
    have e1 : ((2 : Int) ^ (8 * n)) = ((2 ^ (8 * n) : Nat) : Int) := by rw [Int.natCast_pow]; rfl
    have t5 : ((z : Int) == bits .and .u64 (m : Int) (IntKind.u64.wrap (IntKind.u64.wrap (2 ^ (8 * n)) - 1))) = true := by
      have i1 : IntKind.u64.wrap ((2 : Int) ^ (8 * n)) = 2 ^ (8 * n) := IntWalk.u64_in _ (by rw [e1]; omega)
      rw [i1, IntWalk.u64_in _ (by rw [e1]; omega), t3, HZ.out, beq_iff_eq]
    clear t3 h56 hp0 e1
    go_wp2
    go_ret
    exact ⟨rfl, hb14⟩

set_option maxRecDepth 100000 in
theorem lifted (os : Os) (started : os.Started) (H : Type) (enc : TypeId × Value → H) :
    ReturnsInHanded {} Try.checked os 7 .any (Rows.intsBackSpec.pre6 enc Try.prog Try.f7 Rows.intsBackRow.domain false) (Rows.intsBackSpec.post enc Try.prog Try.f7 false true false false) := by
  refine returnsInHanded_of_change (C := Try.checked) own started (by kernel_rfl) Try.func7
    (ChangeSpec.witness6 (enc := enc) (C := Try.checked) false ⟨#[], #[.int .i64 0, .int .u64 0, .int .i64 0, .slice none 0 0], []⟩ 8 (by kernel_rfl) (by kernel_rfl) (by kernel_rfl) (by kernel_rfl)) ?_
  intro W base args ds gs before hval0 hW hcnd _
  have hval : ∀ (j : Nat) t v, Try.f7.params[j]? = some t → args[j]? = some v → Value.okWide Try.prog W .any base t v := hval0
  have hW' := hW
  obtain ⟨p, q, hA0, hV, rfl, hfz, hnd⟩ := hW
  have hA : DataW.TrodAll enc Try.prog W 0 (fun _ => true) true Try.f7.params.toList args.toList ds p := hA0
  rw [Try.params7] at hA hval
  obtain ⟨v0, vs0, d0, ds0, p0, q0, hargs, rfl, rfl, h0, r0⟩ := trodAll_cons hA
  obtain ⟨v1, vs1, d1, ds1, p1, q1, rfl, rfl, rfl, h1, r1⟩ := trodAll_cons r0
  obtain ⟨v2, vs2, d2, ds2, p2, q2, rfl, rfl, rfl, h2, r2⟩ := trodAll_cons r1
  obtain ⟨v3, vs3, d3, ds3, p3, q3, rfl, rfl, rfl, h3, r3⟩ := trodAll_cons r2
  obtain ⟨rfl, rfl, rfl⟩ := trodAll_nil r3
  obtain rfl : args = #[v0, v1, v2, v3] := by cases args; simp_all
  obtain ⟨rfl, rfl⟩ := trodVars_none hV
  obtain ⟨a0, rfl, rfl, rfl, w0⟩ := open_int Try.underlying2 (hval 0 2 v0 rfl rfl) h0
  obtain ⟨a1, rfl, rfl, rfl, w1⟩ := open_int Try.underlying22 (hval 1 22 v1 rfl rfl) h1
  obtain ⟨a2, rfl, rfl, rfl, w2⟩ := open_int Try.underlying3 (hval 2 3 v2 rfl rfl) h2
  obtain ⟨l3, b3⟩ := open_bytes Try.underlying29 Try.underlying5 (by kernel_rfl) (hval 3 29 v3 rfl rfl) h3
  clear hA0 hval0
  refine (walk a0 w0 a1 w1 a2 w2 v3 l3 W b3).mono fun e W' ⟨he, hb⟩ => ?_
  subst he
  exact ⟨_, rfl, law_post hW' rfl laid (by kernel_rfl) rfl Try.underlying4 rfl hb⟩

theorem over : Rows.intsBackRow.holds Try.pinned (OpenSpec.ofChange Rows.intsBackSpec) :=
  OpenClaim.holds_of_wide 7 Try.f7 rfl rfl rfl rfl rfl rfl rfl ⟨rfl, rfl, rfl, rfl, rfl⟩ rfl rfl rfl rfl rfl (by kernel_rfl) Try.func7 (by kernel_rfl)
    (of_decide_eq_true (by kernel_rfl)) (by unfold Func.isWrapper; first | (rw [if_pos (by decide +kernel)]; kernel_rfl) | (rw [if_neg (by decide +kernel)]; exact ⟨rfl, rfl⟩))
    (fun os started H enc _ => lifted os started H enc)

theorem proved : Rows.IntsBackSaid :=
  over
end Go.Proofs.Ytpeofopknpdpaaa.lawIntsBack
