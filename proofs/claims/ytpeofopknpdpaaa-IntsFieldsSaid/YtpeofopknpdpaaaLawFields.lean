/- The law IntsFields answers true for any bytes and places: bits taken in two pieces are those taken at once. Conditions: none. -/
import Derived.Test.YtpeofopknpdpaaaKnown
namespace Go.Proofs.Ytpeofopknpdpaaa.lawIntsFields
open Go.ChangeShapes Go.WideShapes Go.ChangeAt Go.RowKit
set_option linter.unusedSimpArgs false
set_option linter.unusedVariables false

theorem own : ownKnob Try.prog.godebug = none := by kernel_rfl
theorem laid : laidOutB Try.prog = true := by kernel_rfl

theorem fb (l : List UInt8) (a n : Nat) (h : n ≤ 64) : Pu.fieldB l a n = decide ((a : Int) + n ≤ 8 * (l.length : Int)) := by
  unfold Pu.fieldB
  congr 1
  simp only [eq_iff_iff]
  omega
theorem fv (l : List UInt8) (a n : Nat) (h : n ≤ 64) (h2 : a + n ≤ 8 * l.length) : Pu.fieldV l a n = Pu.fieldN l a n := by
  unfold Pu.fieldV
  rw [fb l a n h, if_pos (decide_eq_true (by omega)), Int.toNat_natCast, Int.toNat_natCast]
theorem fv0 (l : List UInt8) (a n : Nat) (h : n ≤ 64) (h2 : ¬ a + n ≤ 8 * l.length) : Pu.fieldV l a n = 0 := by
  unfold Pu.fieldV
  rw [fb l a n h, if_neg]
  rw [decide_eq_true_eq]
  omega

set_option maxRecDepth 100000 in
set_option maxHeartbeats 2000000 in
theorem walk (v0 : Value) (l : List UInt8) (w : World) (b0 : RdV w w.heap.size v0 (bv l)) (a : Int) (w0 : (Lit.int .i64 a).wf = true) (n : Int) (w2 : (Lit.int .i64 n).wf = true) (m : Int) (w3 : (Lit.int .i64 m).wf = true) :
    Calls Try.prog 8 #[v0, .int .i64 a, .int .i64 n, .int .i64 m] w fun e w' => e = .returned (.bool true) ∧ Below w.heap.size w w' := by
  obtain ⟨ha0, ha1⟩ : -9223372036854775808 ≤ a ∧ a ≤ 9223372036854775807 := by simpa [Lit.wf, IntKind.min, IntKind.max, IntKind.signed, IntKind.bits] using w0
  obtain ⟨hn0, hn1⟩ : -9223372036854775808 ≤ n ∧ n ≤ 9223372036854775807 := by simpa [Lit.wf, IntKind.min, IntKind.max, IntKind.signed, IntKind.bits] using w2
  obtain ⟨hm0, hm1⟩ : -9223372036854775808 ≤ m ∧ m ≤ 9223372036854775807 := by simpa [Lit.wf, IntKind.min, IntKind.max, IntKind.signed, IntKind.bits] using w3
  obtain ⟨A, c, rfl, hc1, hc2, hc3⟩ := id b0
  rw [bv_length] at hc1 hc3 b0 ⊢
  clear hc3
  by_cases d1 : 2000 < l.length
  · go_enter Try.func8, Try.ntmps8
    go_wp2_with fail
    refine (known_any _).mono ?_
    rintro e w1 ⟨rfl, hbel⟩
    go_wp2
    go_ret
    exact ⟨rfl, hbel⟩
  by_cases d2 : a < 0
  · go_enter Try.func8, Try.ntmps8
    go_wp2_with fail
    refine (known_any _).mono ?_
    rintro e w1 ⟨rfl, hbel⟩
    go_wp2
    go_ret
    exact ⟨rfl, hbel⟩
  by_cases d3 : 16000 < a
  · go_enter Try.func8, Try.ntmps8
    go_wp2_with fail
    refine (known_any _).mono ?_
    rintro e w1 ⟨rfl, hbel⟩
    go_wp2
    go_ret
    exact ⟨rfl, hbel⟩
  by_cases d4 : n < 0
  · go_enter Try.func8, Try.ntmps8
    go_wp2_with fail
    refine (known_any _).mono ?_
    rintro e w1 ⟨rfl, hbel⟩
    go_wp2
    go_ret
    exact ⟨rfl, hbel⟩
  by_cases d5 : m < 0
  · go_enter Try.func8, Try.ntmps8
    go_wp2_with fail
    refine (known_any _).mono ?_
    rintro e w1 ⟨rfl, hbel⟩
    go_wp2
    go_ret
    exact ⟨rfl, hbel⟩
  by_cases d6 : 64 < n
  · go_enter Try.func8, Try.ntmps8
    go_wp2_with fail
    refine (known_any _).mono ?_
    rintro e w1 ⟨rfl, hbel⟩
    go_wp2
    go_ret
    exact ⟨rfl, hbel⟩
  by_cases d7 : 64 - n < m
  · go_enter Try.func8, Try.ntmps8
    go_wp2_with fail
    refine (known_any _).mono ?_
    rintro e w1 ⟨rfl, hbel⟩
    go_wp2
    go_ret
    exact ⟨rfl, hbel⟩
  obtain ⟨a, rfl⟩ := Int.eq_ofNat_of_zero_le (show 0 ≤ a by omega)
  obtain ⟨n, rfl⟩ := Int.eq_ofNat_of_zero_le (show 0 ≤ n by omega)
  obtain ⟨m, rfl⟩ := Int.eq_ofNat_of_zero_le (show 0 ≤ m by omega)
  have f1 : ∀ W : World, RdV W w.heap.size (.slice A l.length c) (bv l) → _ := fun W hr => field_any _ l a n (by omega) (by omega) (by omega) (by omega) (by omega) W _ hr
  have f2 : ∀ W : World, RdV W w.heap.size (.slice A l.length c) (bv l) → _ := fun W hr => field_any _ l ((a : Int) + n) m (by omega) (by omega) (by omega) (by omega) (by omega) W _ hr
  have f3 : ∀ W : World, RdV W w.heap.size (.slice A l.length c) (bv l) → _ := fun W hr => field_any _ l a ((n : Int) + m) (by omega) (by omega) (by omega) (by omega) (by omega) W _ hr
  have e2 : (a : Int) + n = ((a + n : Nat) : Int) := by omega
  have e3 : (n : Int) + m = ((n + m : Nat) : Int) := by omega
  have qb1 : Pu.fieldB l a n = decide ((a : Int) + n ≤ 8 * (l.length : Int)) := fb l a n (by omega)
  have qb2 : Pu.fieldB l ((a : Int) + n) m = decide (((a + n : Nat) : Int) + m ≤ 8 * (l.length : Int)) := by rw [e2]; exact fb l (a + n) m (by omega)
  have qb3 : Pu.fieldB l a ((n : Int) + m) = decide ((a : Int) + ((n + m : Nat) : Int) ≤ 8 * (l.length : Int)) := by rw [e3]; exact fb l a (n + m) (by omega)
  rw [qb1] at f1
  rw [qb2] at f2
  rw [qb3] at f3
  by_cases c1 : a + n + m ≤ 8 * l.length
  · have q2 : Pu.fieldV l ((a : Int) + n) m = Pu.fieldN l (a + n) m := by rw [e2]; exact fv l (a + n) m (by omega) (by omega)
    have q3 : Pu.fieldV l a ((n : Int) + m) = Pu.fieldN l a (n + m) := by rw [e3]; exact fv l a (n + m) (by omega) (by omega)
    rw [fv l a n (by omega) (by omega), decide_eq_true (by omega)] at f1
    rw [q2, decide_eq_true (by omega)] at f2
    rw [q3, decide_eq_true (by omega)] at f3
    clear q2 q3 qb1 qb2 qb3
    have hor := Pu.or_up (Pu.fieldN l a n) (Pu.fieldN l (a + n) m) n m (Pu.fieldN_lt l a n) (Pu.fieldN_lt l (a + n) m) (by omega)
    rw [← Pu.fieldN_add] at hor
    have F1 := Lib.hid f1
    have F2 := Lib.hid f2
    have F3 := Lib.hid f3
    clear f1 f2 f3 e2 e3
    generalize Pu.fieldN l a n = x at *
    generalize Pu.fieldN l (a + n) m = y at *
    generalize Pu.fieldN l a (n + m) = z at *
    have t1 : ((z : Int) == bits .or .u64 (x : Int) (IntKind.u64.wrap ((y : Int) * 2 ^ n))) = true := by rw [hor, beq_iff_eq]
    have HOR := Lib.hid hor
    clear hor
    go_enter Try.func8, Try.ntmps8
    go_wp2_with fail
    refine (known_any _).mono ?_
    rintro e w1 ⟨rfl, hbel⟩
    go_wp2_with fail
    refine (F1.out _ (b0.below hbel)).mono ?_
    rintro e w' ⟨rfl, rfl⟩
    go_wp2_with fail
    refine (F2.out _ (b0.below hbel)).mono ?_
    rintro e w' ⟨rfl, rfl⟩
    go_wp2_with fail
    refine (F3.out _ (b0.below hbel)).mono ?_
    rintro e w' ⟨rfl, rfl⟩
    go_wp2
    go_ret
    exact ⟨rfl, hbel⟩
  · clear qb1 qb2 qb3
    rw [decide_eq_false (by omega)] at f2
    rw [decide_eq_false (by omega)] at f3
    by_cases c2 : a + n ≤ 8 * l.length
    · rw [decide_eq_true (by omega)] at f1
      have F1 := Lib.hid f1
      have F2 := Lib.hid f2
      have F3 := Lib.hid f3
      clear f1 f2 f3 e2 e3
      generalize Pu.fieldV l a n = x at *
      generalize Pu.fieldV l ((a : Int) + n) m = y at *
      generalize Pu.fieldV l a ((n : Int) + m) = z at *
      go_enter Try.func8, Try.ntmps8
      go_wp2_with fail
      refine (known_any _).mono ?_
      rintro e w1 ⟨rfl, hbel⟩
      go_wp2_with fail
      refine (F1.out _ (b0.below hbel)).mono ?_
      rintro e w' ⟨rfl, rfl⟩
      go_wp2_with fail
      refine (F2.out _ (b0.below hbel)).mono ?_
      rintro e w' ⟨rfl, rfl⟩
      go_wp2_with fail
      refine (F3.out _ (b0.below hbel)).mono ?_
      rintro e w' ⟨rfl, rfl⟩
      go_wp2
      go_ret
      exact ⟨rfl, hbel⟩
    · rw [decide_eq_false (by omega)] at f1
      have F1 := Lib.hid f1
      have F2 := Lib.hid f2
      have F3 := Lib.hid f3
      clear f1 f2 f3 e2 e3
      generalize Pu.fieldV l a n = x at *
      generalize Pu.fieldV l ((a : Int) + n) m = y at *
      generalize Pu.fieldV l a ((n : Int) + m) = z at *
      go_enter Try.func8, Try.ntmps8
      go_wp2_with fail
      refine (known_any _).mono ?_
      rintro e w1 ⟨rfl, hbel⟩
      go_wp2_with fail
      refine (F1.out _ (b0.below hbel)).mono ?_
      rintro e w' ⟨rfl, rfl⟩
      go_wp2_with fail
      refine (F2.out _ (b0.below hbel)).mono ?_
      rintro e w' ⟨rfl, rfl⟩
      go_wp2_with fail
      refine (F3.out _ (b0.below hbel)).mono ?_
      rintro e w' ⟨rfl, rfl⟩
      go_wp2
      go_ret
      exact ⟨rfl, hbel⟩

set_option maxRecDepth 100000 in
theorem lifted (os : Os) (started : os.Started) (H : Type) (enc : TypeId × Value → H) :
    ReturnsInHanded {} Try.checked os 8 .any (Rows.intsFieldsSpec.pre6 enc Try.prog Try.f8 Rows.intsFieldsRow.domain false) (Rows.intsFieldsSpec.post enc Try.prog Try.f8 false true false false) := by
  refine returnsInHanded_of_change (C := Try.checked) own started (by kernel_rfl) Try.func8
    (ChangeSpec.witness6 (enc := enc) (C := Try.checked) false ⟨#[], #[.slice none 0 0, .int .i64 0, .int .i64 0, .int .i64 0], []⟩ 8 (by kernel_rfl) (by kernel_rfl) (by kernel_rfl) (by kernel_rfl)) ?_
  intro W base args ds gs before hval0 hW hcnd _
  have hval : ∀ (j : Nat) t v, Try.f8.params[j]? = some t → args[j]? = some v → Value.okWide Try.prog W .any base t v := hval0
  have hW' := hW
  obtain ⟨p, q, hA0, hV, rfl, hfz, hnd⟩ := hW
  have hA : DataW.TrodAll enc Try.prog W 0 (fun _ => true) true Try.f8.params.toList args.toList ds p := hA0
  rw [Try.params8] at hA hval
  obtain ⟨v0, vs0, d0, ds0, p0, q0, hargs, rfl, rfl, h0, r0⟩ := trodAll_cons hA
  obtain ⟨v1, vs1, d1, ds1, p1, q1, rfl, rfl, rfl, h1, r1⟩ := trodAll_cons r0
  obtain ⟨v2, vs2, d2, ds2, p2, q2, rfl, rfl, rfl, h2, r2⟩ := trodAll_cons r1
  obtain ⟨v3, vs3, d3, ds3, p3, q3, rfl, rfl, rfl, h3, r3⟩ := trodAll_cons r2
  obtain ⟨rfl, rfl, rfl⟩ := trodAll_nil r3
  obtain rfl : args = #[v0, v1, v2, v3] := by cases args; simp_all
  obtain ⟨rfl, rfl⟩ := trodVars_none hV
  obtain ⟨l0, b0⟩ := open_bytes Try.underlying29 Try.underlying5 (by kernel_rfl) (hval 0 29 v0 rfl rfl) h0
  obtain ⟨a1, rfl, rfl, rfl, w1⟩ := open_int Try.underlying3 (hval 1 3 v1 rfl rfl) h1
  obtain ⟨a2, rfl, rfl, rfl, w2⟩ := open_int Try.underlying3 (hval 2 3 v2 rfl rfl) h2
  obtain ⟨a3, rfl, rfl, rfl, w3⟩ := open_int Try.underlying3 (hval 3 3 v3 rfl rfl) h3
  clear hA0 hval0
  refine (walk v0 l0 W b0 a1 w1 a2 w2 a3 w3).mono fun e W' ⟨he, hb⟩ => ?_
  subst he
  exact ⟨_, rfl, law_post hW' rfl laid (by kernel_rfl) rfl Try.underlying4 rfl hb⟩

theorem over : Rows.intsFieldsRow.holds Try.pinned (OpenSpec.ofChange Rows.intsFieldsSpec) :=
  OpenClaim.holds_of_wide 8 Try.f8 rfl rfl rfl rfl rfl rfl rfl ⟨rfl, rfl, rfl, rfl, rfl⟩ rfl rfl rfl rfl rfl (by kernel_rfl) Try.func8 (by kernel_rfl)
    (of_decide_eq_true (by kernel_rfl)) (by unfold Func.isWrapper; first | (rw [if_pos (by decide +kernel)]; kernel_rfl) | (rw [if_neg (by decide +kernel)]; exact ⟨rfl, rfl⟩))
    (fun os started H enc _ => lifted os started H enc)

theorem proved : Rows.IntsFieldsSaid :=
  over
end Go.Proofs.Ytpeofopknpdpaaa.lawIntsFields
