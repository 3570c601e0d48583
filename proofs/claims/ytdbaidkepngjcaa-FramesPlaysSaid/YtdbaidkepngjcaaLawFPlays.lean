/- The law FramesPlays answers true for any size and any acts: the program's pool answers as the document's, and tells the same behind each act. Conditions: none. -/
import Derived.Test.YtdbaidkepngjcaaFsa
import Derived.Test.YtdbaidkepngjcaaFsb
namespace Go.Proofs.Ytdbaidkepngjcaa.lawFramesPlays
open Go.ChangeShapes Go.WideShapes Go.ChangeAt Go.RowKit
set_option linter.unusedSimpArgs false
set_option linter.unusedVariables false

theorem own : ownKnob Try.prog.godebug = none := by kernel_rfl
theorem laid : laidOutB Try.prog = true := by kernel_rfl

set_option maxRecDepth 100000 in
set_option maxHeartbeats 8000000 in
theorem walk (n : Int) (w0 : (Lit.int .i64 n).wf = true) (v : Value) (l : List (List Value)) (w : World) (hr : RdC 4 w w.heap.size v l) (hz : ∀ x ∈ l, FOk x) :
    Calls Try.prog 3 #[.int .i64 n, v] w fun e w' => e = .returned (.bool true) ∧ Below w.heap.size w w' := by
  have hraa := hr
  obtain ⟨A, c, rfl, hc1, hc2, hc3⟩ := hr
  have HK := Lib.hid (known_any w)
  have HR := Lib.hid hraa
  have HZ := Lib.hid hz
  clear hc3 hraa hz
  by_cases c0 : 300 < l.length
  · go_enter Try.func3, Try.ntmps3
    go_wp2_with fail
    refine HK.out.mono ?_
    rintro e w1 ⟨rfl, hb1⟩
    have HB1 := Lib.hid (Below.of_frm hb1)
    clear hb1
    go_wp2
    go_ret
    exact ⟨rfl, HB1.out⟩
  by_cases hn : n < 1 ∨ 4096 < n
  · have HN := fun w => Lib.hid (new_no n hn w)
    have HRN := fun w => Lib.hid (rnew_no n hn w)
    clear hn
    go_enter Try.func3, Try.ntmps3
    go_wp2_with fail
    refine HK.out.mono ?_
    rintro e w1 ⟨rfl, hb1⟩
    have HB1 := Lib.hid (Below.of_frm hb1)
    clear hb1
    go_wp2_with fail
    refine (HN _).out.mono ?_
    rintro e w2 ⟨rfl, rfl⟩
    go_wp2_with fail
    refine (HRN _).out.mono ?_
    rintro e w3 ⟨rfl, rfl⟩
    go_wp2
    go_ret
    exact ⟨rfl, HB1.out⟩
  obtain ⟨N, rfl⟩ : ∃ N : Nat, n = N := ⟨n.toNat, by omega⟩
  have hN : 1 ≤ N ∧ N ≤ 4096 := by omega
  clear hn
  · go_enter Try.func3, Try.ntmps3
    go_wp2_with fail
    refine HK.out.mono ?_
    rintro e w1 ⟨rfl, hb1⟩
    have HN := Lib.hid (new_ok N hN w1)
    have HF1 := Lib.hid hb1
    clear hb1
    go_wp2_with fail
    refine HN.out.mono ?_
    rintro e w2 ⟨pb, lb, mb, k1, k2, k3, rfl, hP2, hF2⟩
    have HRN := Lib.hid (rnew_ok N hN w2)
    have HP2 := Lib.hid hP2
    have HF2 := Lib.hid (HF1.out.trans hF2)
    have hlt2 := hP2.lt
    have hz1 := HF1.out.size
    have hz2 := hF2.size
    clear hP2 hF2 HN
    go_wp2_with fail
    refine HRN.out.mono ?_
    rintro e w3 ⟨qb, rb, k4, k5, rfl, hQ3, hF3⟩
    have hA : Apt pb lb mb qb rb := ⟨by rintro (e | e | e) <;> omega, by rintro (e | e | e) <;> omega⟩
    have HI := Lib.hid (show FI pb lb mb qb rb N N 0 w3 from ⟨0, newP N, Nat.le_refl _, HP2.out.next hF3, hQ3, by simp [newP]⟩)
    have HB3 := Lib.hid (Below.of_frm (HF2.out.trans hF3))
    have HOO := Lib.hid (show ∀ j, Own5 pb lb mb qb rb j → w.heap.size ≤ j from by rintro j ((e | e | e) | e | e) <;> omega)
    clear hQ3 hF3 HRN HP2 HF2 HF1
    go_wp2
    go_loopw [9] (fun i wx => ∃ q : Nat, q ≤ l.length ∧ i = .int .i64 q ∧ FI pb lb mb qb rb N N q wx ∧ Below w.heap.size w wx) (fun i wx => l.length - (intOf i).toNat)
    case atStart => exact ⟨0, by omega, rfl, HI.out, HB3.out⟩
    case round =>
      clear HI HB3
      obtain ⟨q, hq, rfl, hI, hB⟩ := hrel
      by_cases hlt : q < l.length
      · obtain ⟨ab, aoff, a0, a1, a2, bb, rfl, hab, hw1, hw2, hcell⟩ := HR.out.getF HZ.out hlt
        obtain ⟨y0, y1, y2, y3⟩ := hcell wr hB
        have ST := Lib.hid (step_any pb lb mb qb rb N N q wr hA hI (by omega) a0 a1 a2 bb hw1 hw2)
        have HB := Lib.hid hB
        have HC := Lib.hid hcell
        clear hI hB hcell
        go_wp2_with fail
        refine ST.out.mono ?_
        rintro e w5 ⟨rfl, hI5, hF5⟩
        have hB5 := HB.out.trans (hF5.below HOO.out HB.out.size)
        obtain ⟨z0, z1, z2, z3⟩ := HC.out w5 hB5
        have LK := Lib.hid (looks_any pb lb mb qb rb N N (q + 1) w5 hI5 a0 a1 a2 bb hw1 hw2)
        have HI5 := Lib.hid hI5
        have HB5 := Lib.hid hB5
        clear hI5 hB5 hF5 y0 y1 y2 y3 ST
        go_wp2_with fail
        refine LK.out.mono ?_
        rintro e w6 ⟨rfl, hF6⟩
        have HI6 := Lib.hid (HI5.out.next hF6)
        have HB6 := Lib.hid (HB5.out.trans ((Below.of_frm hF6).mono HB5.out.size))
        clear hF6 LK
        go_wp2
        go_roundw
        case rel => exact ⟨q + 1, by omega, by go_num, HI6.out, HB6.out⟩
        case measure => simp [intOf]; omega
      · have HB := Lib.hid hB
        clear hB hI
        go_wp2
        go_ret
        exact ⟨rfl, HB.out⟩

set_option maxRecDepth 100000 in
theorem lifted (os : Os) (started : os.Started) (H : Type) (enc : TypeId × Value → H) :
    ReturnsInHanded {} Try.checked os 3 .any (Rows.framesPlaysSpec.pre6 enc Try.prog Try.f3 Rows.framesPlaysRow.domain false) (Rows.framesPlaysSpec.post enc Try.prog Try.f3 false true false false) := by
  refine returnsInHanded_of_change (C := Try.checked) own started (by kernel_rfl) Try.func3
    (ChangeSpec.witness6 (enc := enc) (C := Try.checked) false ⟨#[], #[.int .i64 0, .slice none 0 0], []⟩ 8 (by kernel_rfl) (by kernel_rfl) (by kernel_rfl) (by kernel_rfl)) ?_
  intro W base args ds gs before hval0 hW hcnd _
  have hval : ∀ (j : Nat) t v, Try.f3.params[j]? = some t → args[j]? = some v → Value.okWide Try.prog W .any base t v := hval0
  have hW' := hW
  obtain ⟨p, q, hA0, hV, rfl, hfz, hnd⟩ := hW
  have hA : DataW.TrodAll enc Try.prog W 0 (fun _ => true) true Try.f3.params.toList args.toList ds p := hA0
  rw [Try.params3] at hA hval
  obtain ⟨v0, vs0, d0, ds0, p0, q0, hargs, rfl, rfl, h0, r0⟩ := trodAll_cons hA
  obtain ⟨v1, vs1, d1, ds1, p1, q1, rfl, rfl, rfl, h1, r1⟩ := trodAll_cons r0
  obtain ⟨rfl, rfl, rfl⟩ := trodAll_nil r1
  obtain rfl : args = #[v0, v1] := by cases args; simp_all
  obtain ⟨rfl, rfl⟩ := trodVars_none hV
  obtain ⟨a0, rfl, rfl, rfl, w0⟩ := open_int Try.underlying3 (hval 0 3 v0 rfl rfl) h0
  obtain ⟨l1, hr1, hz1⟩ := open_cells Try.underlying22 Try.underlying33 (by kernel_rfl) (by kernel_rfl) (by decide) (hval 1 22 v1 rfl rfl) h1
  have hz2 : ∀ x ∈ l1, FOk x := fun x hx => fok_of Try.underlying33 (hz1 x hx).1 (hz1 x hx).2
  clear hA0 hval0
  refine (walk a0 w0 v1 l1 W hr1 hz2).mono fun e W' ⟨he, hb⟩ => ?_
  subst he
  exact ⟨_, rfl, law_post hW' rfl laid (by kernel_rfl) rfl Try.underlying4 rfl hb⟩

theorem over : Rows.framesPlaysRow.holds Try.pinned (OpenSpec.ofChange Rows.framesPlaysSpec) :=
  OpenClaim.holds_of_wide 3 Try.f3 rfl rfl rfl rfl rfl rfl rfl ⟨rfl, rfl, rfl, rfl, rfl⟩ rfl rfl rfl rfl rfl (by kernel_rfl) Try.func3 (by kernel_rfl)
    (of_decide_eq_true (by kernel_rfl)) (by unfold Func.isWrapper; first | (rw [if_pos (by decide +kernel)]; kernel_rfl) | (rw [if_neg (by decide +kernel)]; exact ⟨rfl, rfl⟩))
    (fun os started H enc _ => lifted os started H enc)

theorem proved : Rows.FramesPlaysSaid :=
  over
end Go.Proofs.Ytdbaidkepngjcaa.lawFramesPlays
