/- The law IntsBytes answers true for any bytes and numbers: numbers in bytes, multiples, bits. Conditions: none. -/
import Derived.Test.YtpeofopknpdpaaaKnown
import Derived.Deep.RegionLaw
import Derived.Deep.DeepCutAuto
import Derived.Deep.DrawnRows
namespace Go.Proofs.Ytpeofopknpdpaaa.lawIntsBytes
open Go.ChangeShapes Go.WideShapes Go.ChangeAt Go.RowKit
attribute [local go_sem ↓] Go.wp_at_zero Go.wp_at_succ
set_option linter.unusedSimpArgs false
set_option linter.unusedVariables false

theorem own : ownKnob Try.prog.godebug = none := by kernel_rfl
theorem laid : laidOutB Try.prog = true := by kernel_rfl

set_option maxRecDepth 100000 in
set_option maxHeartbeats 4000000 in
theorem walk (v0 : Value) (l : List UInt8) (w : World) (b0 : RdV w w.heap.size v0 (bv l)) (ui : Int) (w1' : (Lit.int .u64 ui).wf = true) (n : Int) (w2' : (Lit.int .i64 n).wf = true) (a : Int) (w3' : (Lit.int .i64 a).wf = true) (up : Int) (w4' : (Lit.int .i64 up).wf = true) (tt : Int) (w5' : (Lit.int .i64 tt).wf = true) :
    Calls Try.prog 4 #[v0, .int .u64 ui, .int .i64 n, .int .i64 a, .int .i64 up, .int .i64 tt] w fun e w' => e = .returned (.bool true) ∧ Below w.heap.size w w' := by
  obtain ⟨hui0, hui1⟩ : 0 ≤ ui ∧ ui ≤ 18446744073709551615 := by simpa [Lit.wf, IntKind.min, IntKind.max, IntKind.signed, IntKind.bits] using w1'
  obtain ⟨hn0, hn1⟩ : -9223372036854775808 ≤ n ∧ n ≤ 9223372036854775807 := by simpa [Lit.wf, IntKind.min, IntKind.max, IntKind.signed, IntKind.bits] using w2'
  obtain ⟨ha0, ha1⟩ : -9223372036854775808 ≤ a ∧ a ≤ 9223372036854775807 := by simpa [Lit.wf, IntKind.min, IntKind.max, IntKind.signed, IntKind.bits] using w3'
  obtain ⟨hup0, hup1⟩ : -9223372036854775808 ≤ up ∧ up ≤ 9223372036854775807 := by simpa [Lit.wf, IntKind.min, IntKind.max, IntKind.signed, IntKind.bits] using w4'
  obtain ⟨htt0, htt1⟩ : -9223372036854775808 ≤ tt ∧ tt ≤ 9223372036854775807 := by simpa [Lit.wf, IntKind.min, IntKind.max, IntKind.signed, IntKind.bits] using w5'
  obtain ⟨u, rfl⟩ := Int.eq_ofNat_of_zero_le hui0
  have hu : u < 18446744073709551616 := by omega
  obtain ⟨A, c, rfl, hc1, hc2, hc3⟩ := id b0
  rw [bv_length] at hc1 hc3 b0 ⊢
  clear hc3
  by_cases d1 : 2000 < l.length
  · go_enter Try.func4, Try.ntmps4
    go_wp2_with fail
    refine (known_any _).mono ?_
    rintro e w1 ⟨rfl, hbel⟩
    go_wp2
    go_ret
    exact ⟨rfl, hbel⟩
  go_enter Try.func4, Try.ntmps4
  go_wp2_with fail
  refine (known_any _).mono ?_
  rintro e w1 ⟨rfl, hbel⟩
  have hs1 := hbel.size
  have b1 := b0.below hbel
  have hs1a : w.heap.size ≤ (w1.alloc (.cells #[] 5)).heap.size := by simp; omega
  have b1a := (b1.alloc hs1 (.cells #[] 5)).drew
  have b1b := ((b1.alloc hs1 (.cells #[] 5)).alloc hs1a (.cells #[] 5)).drew
  have e1a := (Emp.new w1 5).drew
  have e1b := ((Emp.new w1 5).alloc (.cells #[] 5)).drew
  have e1c : Emp ((w1.alloc (.cells #[] 5)).alloc (.cells #[] 5)).drew 5 (w1.heap.size + 1) := (Emp.new' (by simp)).drew
  have B1a := (hbel.alloc hs1 (.cells #[] 5)).drew
  have B1b := ((hbel.alloc hs1 (.cells #[] 5)).alloc hs1a (.cells #[] 5)).drew
  go_wp2_with fail
  go_upto_region 5 with (fail)
  go_cut [44] (fun s wx => s = .bool false ∧ Below w.heap.size w wx)
  case first =>
    go_region_law (first
    | (refine step_append_rd _ rfl (.tmp 30) (.tmp 31) 29 (by rfl) w.heap.size 5 (.int .u8 0) 1 Try.underlying29 Try.inf5 rfl _ 0 [] (by rfl) (Emp.own (by assumption) (by first | omega | (simp; omega))) _ (by rfl) w.heap.size (bv l) (by assumption) (bv_one l) (by simp [bv_length]; omega) (by omega) (by first | omega | (simp; omega)) ?_; intro v2 w2 ho2 hg2 hv2; rw [Nat.zero_add, bv_length, List.nil_append] at ho2; have hB2 : Below w.heap.size w w2 := (by first | exact B1a.grown hg2 (by first | omega | (simp; omega)) (by intro g hg; simp [Value.ownBlock] at hg; omega) | exact B1b.grown hg2 (by first | omega | (simp; omega)) (by intro g hg; simp [Value.ownBlock] at hg; omega)); have hs2 := hB2.size; have hr2 := RdV.own ho2; have hr2a := hr2.alloc (Nat.le_refl _) (.cells #[] 5); have hB2a := hB2.alloc hs2 (.cells #[] 5); have hs2a := hB2a.size; (first | (have e2 := (Emp.other e1b e1c (by omega) hg2).1 rfl; have hl2 := e2.lt) | (have e2 := (Emp.other e1b e1c (by omega) hg2).2 rfl; have hl2 := e2.lt) | skip))
    | (refine step_wanted _ rfl ?_; go_simp; go_at_call 19; refine Calls.mono (put_any v2 l u n hu hn0 hn1 (by omega) _ w2.heap.size (by simp) (by first | exact hr2 | exact hr2a)) ?_; rintro e w3 ⟨r, rfl, ho3, hb3⟩; have hB3 : Below w.heap.size w w3 := (by first | exact hB2.trans (hb3.mono hs2) | exact hB2a.trans (hb3.mono hs2a)); have hs3 := hB3.size; have hs3' := hb3.size; (try simp at hs3'); have hcv3 := run_conv_rd (P := Try.prog) w3 29 9 5 Try.underlying29 Try.underlying5 Try.underlying9 r _ _ (RdV.own ho3); have hcv3a := run_conv_rd (P := Try.prog) (w3.alloc (.cells #[] 5)) 29 9 5 Try.underlying29 Try.underlying5 Try.underlying9 r _ _ (RdV.own (ho3.alloc _)); have hr03 := b0.below hB3; have hr03a := hr03.alloc hs3 (.cells #[] 5); have hB3a := hB3.alloc hs3 (.cells #[] 5); have e3n := Emp.new w3 5; (first | (have e3 := e2.below hb3 hl2) | (have e3 := (Emp.new w2 5).below hb3 (by simp)) | skip))
    | (refine step_append_rd _ rfl (.tmp 37) (.tmp 38) 29 (by rfl) w.heap.size 5 (.int .u8 0) 1 Try.underlying29 Try.inf5 rfl _ 0 [] (by rfl) (Emp.own (by assumption) (by first | omega | (simp; omega))) _ (by rfl) w.heap.size (bv l) (by assumption) (bv_one l) (by simp [bv_length]; omega) (by omega) (by first | omega | (simp; omega)) ?_; intro v4 w4 ho4 hg4 hv4; rw [Nat.zero_add, bv_length, List.nil_append] at ho4; have hB4 : Below w.heap.size w w4 := (by first | exact hB3.grown hg4 hs3 (by intro g hg; simp [Value.ownBlock] at hg; omega) | exact hB3a.grown hg4 (by first | omega | (simp; omega)) (by intro g hg; simp [Value.ownBlock] at hg; omega)); have hs4 := hB4.size; have ho34 := (by first | exact World.ownsRow.kept ho3 hg4 (Or.inr (by intro e; have h1 := ho3.lt _ e; simp at h1; omega)) | exact World.ownsRow.kept (ho3.alloc _) hg4 (Or.inr (by intro e; have h1 := ho3.lt _ e; simp at h1))); have hcv4 := run_conv_rd (P := Try.prog) w4 29 9 5 Try.underlying29 Try.underlying5 Try.underlying9 r _ _ (RdV.own ho34))
    | (refine step_wanted _ rfl ?_; go_simp; go_at_call 20; refine Calls.mono (rput_any v4 l u n hu hn0 hn1 (by omega) _ w.heap.size hs4 ho4) ?_; rintro e w5 ⟨r5, rfl, ho5, hb5, hon5⟩; have hB5 : Below w.heap.size w w5 := hB4.trans hb5; have ho35 := World.ownsRow.kept ho34 hon5.1 (Or.inr (by intro e; have h1 := ho3.lt; rcases hv4 with h2 | h2 <;> (rw [h2] at e; have h3 := h1 _ e; simp at h3 <;> omega))); have hcv5 := run_conv_rd (P := Try.prog) w5 29 9 5 Try.underlying29 Try.underlying5 Try.underlying9 r _ _ (RdV.own ho35); have hcw5 := run_conv_rd (P := Try.prog) w5 29 9 5 Try.underlying29 Try.underlying5 Try.underlying9 r5 _ _ (RdV.own ho5)))
    all_goals (go_wp2_with fail; go_meet; exact ⟨rfl, hB5⟩)
  case rest =>
    obtain ⟨rfl, hB5⟩ := hcut
    clear b1 b1a b1b e1a e1b e1c B1a B1b hs1 hs1a
    have hr5 := b0.below hB5
    go_wp2_with fail
    refine (get_any _ l n hn0 hn1 (by omega) _ _ hr5).mono ?_
    rintro e w' ⟨rfl, rfl⟩
    go_wp2_with fail
    refine (rget_any _ l n hn0 hn1 (by omega) _ _ hr5).mono ?_
    rintro e w' ⟨rfl, rfl⟩
    go_wp2_with fail
    refine (up_any up tt hup0 hup1 htt0 htt1 _).mono ?_
    rintro e w' ⟨rfl, rfl⟩
    go_wp2_with fail
    refine (rup_any up tt hup0 hup1 htt0 htt1 _).mono ?_
    rintro e w' ⟨rfl, rfl⟩
    go_wp2_with fail
    refine (field_any _ l a n ha0 ha1 hn0 hn1 (by omega) _ _ hr5).mono ?_
    rintro e w' ⟨rfl, rfl⟩
    go_wp2_with fail
    refine (rfield_any _ l a n ha0 ha1 hn0 hn1 (by omega) _ _ hr5).mono ?_
    rintro e w' ⟨rfl, rfl⟩
    go_wp2
    go_ret
    exact ⟨rfl, hB5⟩

set_option maxRecDepth 100000 in
theorem lifted (os : Os) (started : os.Started) (H : Type) (enc : TypeId × Value → H) :
    ReturnsInHanded {} Try.checked os 4 .any (Rows.intsBytesSpec.pre6 enc Try.prog Try.f4 Rows.intsBytesRow.domain false) (Rows.intsBytesSpec.post enc Try.prog Try.f4 false true false false) := by
  refine returnsInHanded_of_change (C := Try.checked) own started (by kernel_rfl) Try.func4
    (ChangeSpec.witness6 (enc := enc) (C := Try.checked) false ⟨#[], #[.slice none 0 0, .int .u64 0, .int .i64 0, .int .i64 0, .int .i64 0, .int .i64 0], []⟩ 8 (by kernel_rfl) (by kernel_rfl) (by kernel_rfl) (by kernel_rfl)) ?_
  intro W base args ds gs before hval0 hW hcnd _
  have hval : ∀ (j : Nat) t v, Try.f4.params[j]? = some t → args[j]? = some v → Value.okWide Try.prog W .any base t v := hval0
  have hW' := hW
  obtain ⟨p, q, hA0, hV, rfl, hfz, hnd⟩ := hW
  have hA : DataW.TrodAll enc Try.prog W 0 (fun _ => true) true Try.f4.params.toList args.toList ds p := hA0
  rw [Try.params4] at hA hval
  obtain ⟨v0, vs0, d0, ds0, p0, q0, hargs, rfl, rfl, h0, r0⟩ := trodAll_cons hA
  obtain ⟨v1, vs1, d1, ds1, p1, q1, rfl, rfl, rfl, h1, r1⟩ := trodAll_cons r0
  obtain ⟨v2, vs2, d2, ds2, p2, q2, rfl, rfl, rfl, h2, r2⟩ := trodAll_cons r1
  obtain ⟨v3, vs3, d3, ds3, p3, q3, rfl, rfl, rfl, h3, r3⟩ := trodAll_cons r2
  obtain ⟨v4, vs4, d4, ds4, p4, q4, rfl, rfl, rfl, h4, r4⟩ := trodAll_cons r3
  obtain ⟨v5, vs5, d5, ds5, p5, q5, rfl, rfl, rfl, h5, r5⟩ := trodAll_cons r4
  obtain ⟨rfl, rfl, rfl⟩ := trodAll_nil r5
  obtain rfl : args = #[v0, v1, v2, v3, v4, v5] := by cases args; simp_all
  obtain ⟨rfl, rfl⟩ := trodVars_none hV
  obtain ⟨l0, b0⟩ := open_bytes Try.underlying29 Try.underlying5 (by kernel_rfl) (hval 0 29 v0 rfl rfl) h0
  obtain ⟨a1, rfl, rfl, rfl, w1⟩ := open_int Try.underlying22 (hval 1 22 v1 rfl rfl) h1
  obtain ⟨a2, rfl, rfl, rfl, w2⟩ := open_int Try.underlying3 (hval 2 3 v2 rfl rfl) h2
  obtain ⟨a3, rfl, rfl, rfl, w3⟩ := open_int Try.underlying3 (hval 3 3 v3 rfl rfl) h3
  obtain ⟨a4, rfl, rfl, rfl, w4⟩ := open_int Try.underlying3 (hval 4 3 v4 rfl rfl) h4
  obtain ⟨a5, rfl, rfl, rfl, w5⟩ := open_int Try.underlying3 (hval 5 3 v5 rfl rfl) h5
  clear hA0 hval0
  refine (walk v0 l0 W b0 a1 w1 a2 w2 a3 w3 a4 w4 a5 w5).mono fun e W' ⟨he, hb⟩ => ?_
  subst he
  exact ⟨_, rfl, law_post hW' rfl laid (by kernel_rfl) rfl Try.underlying4 rfl hb⟩

theorem over : Rows.intsBytesRow.holds Try.pinned (OpenSpec.ofChange Rows.intsBytesSpec) :=
  OpenClaim.holds_of_wide 4 Try.f4 rfl rfl rfl rfl rfl rfl rfl ⟨rfl, rfl, rfl, rfl, rfl⟩ rfl rfl rfl rfl rfl (by kernel_rfl) Try.func4 (by kernel_rfl)
    (of_decide_eq_true (by kernel_rfl)) (by unfold Func.isWrapper; first | (rw [if_pos (by decide +kernel)]; kernel_rfl) | (rw [if_neg (by decide +kernel)]; exact ⟨rfl, rfl⟩))
    (fun os started H enc _ => lifted os started H enc)

theorem proved : Rows.IntsBytesSaid :=
  over
end Go.Proofs.Ytpeofopknpdpaaa.lawIntsBytes
