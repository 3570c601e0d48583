/- The law IntsUp answers true for any two numbers: the least multiple that is not below is one, and less than one step above. Conditions: none. -/
import Derived.Test.YtpeofopknpdpaaaKnown
namespace Go.Proofs.Ytpeofopknpdpaaa.lawIntsUp
open Go.ChangeShapes Go.WideShapes Go.ChangeAt Go.RowKit
set_option linter.unusedSimpArgs false
set_option linter.unusedVariables false

theorem own : ownKnob Try.prog.godebug = none := by kernel_rfl
theorem laid : laidOutB Try.prog = true := by kernel_rfl

set_option maxRecDepth 100000 in
set_option maxHeartbeats 1000000 in
theorem walk (v : Int) (w0 : (Lit.int .i64 v).wf = true) (to : Int) (w1 : (Lit.int .i64 to).wf = true) (w : World) :
    Calls Try.prog 9 #[.int .i64 v, .int .i64 to] w fun e w' => e = .returned (.bool true) ∧ Below w.heap.size w w' := by
  obtain ⟨hv0, hv1⟩ : -9223372036854775808 ≤ v ∧ v ≤ 9223372036854775807 := by simpa [Lit.wf, IntKind.min, IntKind.max, IntKind.signed, IntKind.bits] using w0
  obtain ⟨hto0, hto1⟩ : -9223372036854775808 ≤ to ∧ to ≤ 9223372036854775807 := by simpa [Lit.wf, IntKind.min, IntKind.max, IntKind.signed, IntKind.bits] using w1
  have hm0 : 1 ≤ to → 0 ≤ v % to ∧ v % to < to := fun h => ⟨Int.emod_nonneg v (by omega), Int.emod_lt_of_pos v (by omega)⟩
  by_cases hb : Pu.upB v to = true
  · have hup := up_any v to hv0 hv1 hto0 hto1
    have hv : Pu.upV v to = if v % to = 0 then v else v - v % to + to := by unfold Pu.upV; rw [if_pos hb]
    rw [hb] at hup
    unfold Pu.upB at hb
    have hb := of_decide_eq_true hb
    obtain ⟨c1, c2, c3, c4⟩ := hb
    obtain ⟨m0, m1⟩ := hm0 c2
    have hu1 : v ≤ Pu.upV v to := by rw [hv]; split <;> omega
    have hu2 : Pu.upV v to - v < to := by rw [hv]; split <;> omega
    have hu4 : Pu.upV v to ≤ 4611686018427387904 := by rw [hv]; split <;> omega
    have hu3 : Pu.upV v to % to = 0 := by
      rw [hv]
      split
      · assumption
      · rw [Int.add_emod_right]; have h3 := Int.mul_ediv_add_emod v to; rw [show v - v % to = to * (v / to) from by omega]; exact Int.mul_emod_right _ _
    generalize hU : Pu.upV v to = u at *
    have HU := Lib.hid hU
    have HUP := Lib.hid hup
    have t1 : (u % to == 0) = true := by rw [beq_iff_eq]; exact hu3
    clear hU hup hv c4 hm0 hu3
    go_enter Try.func9, Try.ntmps9
    go_wp2_with fail
    refine (known_any _).mono ?_
    rintro e w1 ⟨rfl, hbel⟩
    go_wp2_with fail
    refine (HUP.out _).mono ?_
    rintro e w' ⟨rfl, rfl⟩
    go_wp2
    all_goals go_ret
    all_goals exact ⟨rfl, hbel⟩
  · have hb' : Pu.upB v to = false := by simpa using hb
    have hup := up_any v to hv0 hv1 hto0 hto1
    have hv : Pu.upV v to = 0 := by unfold Pu.upV; rw [if_neg hb]
    rw [hb', hv] at hup
    have hor : v < 0 ∨ to < 1 ∨ 4611686018427387904 - to < v := by
      rcases Int.lt_or_le v 0 with h | h
      · exact Or.inl h
      · rcases Int.lt_or_le to 1 with h2 | h2
        · exact Or.inr (Or.inl h2)
        · obtain ⟨m0, m1⟩ := hm0 h2
          have m2 := Pu.emod_le_self h h2
          refine Or.inr (Or.inr ?_)
          unfold Pu.upB at hb
          have hb := fun h => hb (decide_eq_true h)
          have : ¬ (v ≤ 4611686018427387904 ∧ (v % to = 0 ∨ v - v % to + to ≤ 4611686018427387904)) := fun h3 => hb ⟨h, h2, h3.1, h3.2⟩
          omega
    have HUP := Lib.hid hup
    clear hup hv hm0 hb hb'
    by_cases d1 : v < 0
    · go_enter Try.func9, Try.ntmps9
      go_wp2_with fail
      refine (known_any _).mono ?_
      rintro e w1 ⟨rfl, hbel⟩
      go_wp2_with fail
      refine (HUP.out _).mono ?_
      rintro e w' ⟨rfl, rfl⟩
      go_wp2
      all_goals go_ret
      all_goals exact ⟨rfl, hbel⟩
    · by_cases d2 : to < 1
      · go_enter Try.func9, Try.ntmps9
        go_wp2_with fail
        refine (known_any _).mono ?_
        rintro e w1 ⟨rfl, hbel⟩
        go_wp2_with fail
        refine (HUP.out _).mono ?_
        rintro e w' ⟨rfl, rfl⟩
        go_wp2
        all_goals go_ret
        all_goals exact ⟨rfl, hbel⟩
      · have d3 : 4611686018427387904 - to < v := by omega
        clear hor
        go_enter Try.func9, Try.ntmps9
        go_wp2_with fail
        refine (known_any _).mono ?_
        rintro e w1 ⟨rfl, hbel⟩
        go_wp2_with fail
        refine (HUP.out _).mono ?_
        rintro e w' ⟨rfl, rfl⟩
        go_wp2
        all_goals go_ret
        all_goals exact ⟨rfl, hbel⟩

set_option maxRecDepth 100000 in
theorem lifted (os : Os) (started : os.Started) (H : Type) (enc : TypeId × Value → H) :
    ReturnsInHanded {} Try.checked os 9 .any (Rows.intsUpSpec.pre6 enc Try.prog Try.f9 Rows.intsUpRow.domain false) (Rows.intsUpSpec.post enc Try.prog Try.f9 false true false false) := by
  refine returnsInHanded_of_change (C := Try.checked) own started (by kernel_rfl) Try.func9
    (ChangeSpec.witness6 (enc := enc) (C := Try.checked) false ⟨#[], #[.int .i64 0, .int .i64 0], []⟩ 8 (by kernel_rfl) (by kernel_rfl) (by kernel_rfl) (by kernel_rfl)) ?_
  intro W base args ds gs before hval0 hW hcnd _
  have hval : ∀ (j : Nat) t v, Try.f9.params[j]? = some t → args[j]? = some v → Value.okWide Try.prog W .any base t v := hval0
  have hW' := hW
  obtain ⟨p, q, hA0, hV, rfl, hfz, hnd⟩ := hW
  have hA : DataW.TrodAll enc Try.prog W 0 (fun _ => true) true Try.f9.params.toList args.toList ds p := hA0
  rw [Try.params9] at hA hval
  obtain ⟨v0, vs0, d0, ds0, p0, q0, hargs, rfl, rfl, h0, r0⟩ := trodAll_cons hA
  obtain ⟨v1, vs1, d1, ds1, p1, q1, rfl, rfl, rfl, h1, r1⟩ := trodAll_cons r0
  obtain ⟨rfl, rfl, rfl⟩ := trodAll_nil r1
  obtain rfl : args = #[v0, v1] := by cases args; simp_all
  obtain ⟨rfl, rfl⟩ := trodVars_none hV
  obtain ⟨a0, rfl, rfl, rfl, w0⟩ := open_int Try.underlying3 (hval 0 3 v0 rfl rfl) h0
  obtain ⟨a1, rfl, rfl, rfl, w1⟩ := open_int Try.underlying3 (hval 1 3 v1 rfl rfl) h1
  clear hA0 hval0
  refine (walk a0 w0 a1 w1 W).mono fun e W' ⟨he, hb⟩ => ?_
  subst he
  exact ⟨_, rfl, law_post hW' rfl laid (by kernel_rfl) rfl Try.underlying4 rfl hb⟩

theorem over : Rows.intsUpRow.holds Try.pinned (OpenSpec.ofChange Rows.intsUpSpec) :=
  OpenClaim.holds_of_wide 9 Try.f9 rfl rfl rfl rfl rfl rfl rfl ⟨rfl, rfl, rfl, rfl, rfl⟩ rfl rfl rfl rfl rfl (by kernel_rfl) Try.func9 (by kernel_rfl)
    (of_decide_eq_true (by kernel_rfl)) (by unfold Func.isWrapper; first | (rw [if_pos (by decide +kernel)]; kernel_rfl) | (rw [if_neg (by decide +kernel)]; exact ⟨rfl, rfl⟩))
    (fun os started H enc _ => lifted os started H enc)

theorem proved : Rows.IntsUpSaid :=
  over
end Go.Proofs.Ytpeofopknpdpaaa.lawIntsUp
