/- The law GeomBytes answers true for any shape and any bytes: a shape's bytes, and bytes as a shape, are the document's, and a shape's bytes are read as that shape, if it may be. Conditions: none. -/
import Derived.Test.YtlbodandidopfaaGbq
import Derived.Test.YtlbodandidopfaaGkn
import Derived.Test.YtlbodandidopfaaGoq
import Derived.Test.YtlbodandidopfaaInm
namespace Go.Proofs.Ytlbodandidopfaa.lawGeomBytes
open Go.ChangeShapes Go.WideShapes Go.ChangeAt Go.RowKit
set_option linter.unusedSimpArgs false
set_option linter.unusedVariables false

theorem own : ownKnob Try.prog.godebug = none := by kernel_rfl
theorem laid : laidOutB Try.prog = true := by kernel_rfl

set_option maxRecDepth 100000 in
set_option maxHeartbeats 8000000 in
theorem walk (c : Cfg) (hc : c.Fits) (v : Value) (l : List UInt8) (w : World) (hr : RdV w w.heap.size v (bv l)) :
    Calls Try.prog 4 #[c.val, v] w fun e w' => e = .returned (.bool true) ∧ Below w.heap.size w w' := by
  obtain ⟨A, cp, rfl, hc1, hc2, _⟩ := id hr
  rw [bv_length] at hc1 hr ⊢
  have hbx : Boxed (w.alloc (.cells #[.int .i64 c.sectors, .int .i64 c.sector, .int .i64 c.journal, .int .i64 c.segment, .int .i64 c.page, .int .i64 c.frames, .int .i64 c.procs, .int .i64 c.regions, .int .i64 c.pages] 23)) w.heap.size c := Boxed.new w c
  have hb0 : Below w.heap.size w (w.alloc (.cells #[.int .i64 c.sectors, .int .i64 c.sector, .int .i64 c.journal, .int .i64 c.segment, .int .i64 c.page, .int .i64 c.frames, .int .i64 c.procs, .int .i64 c.regions, .int .i64 c.pages] 23)) := (Below.refl _ w).alloc (Nat.le_refl _) _
  have hs0 : (w.alloc (.cells #[.int .i64 c.sectors, .int .i64 c.sector, .int .i64 c.journal, .int .i64 c.segment, .int .i64 c.page, .int .i64 c.frames, .int .i64 c.procs, .int .i64 c.regions, .int .i64 c.pages] 23)).heap.size = w.heap.size + 1 := by simp
  have HK := fun w => Lib.hid (known_any w)
  have HFIT := Lib.hid hc
  have HGE := fun w => Lib.hid (gencode_any c hc w)
  have HRE0 := fun w => Lib.hid (rencode_any c hc w)
  have HCK0 := fun w => Lib.hid (check_any c w)
  unfold Cfg.val at HGE HRE0 HCK0 ⊢
  go_enter Try.func4, Try.ntmps4
  go_upto_region 1 with (fail)
  generalize w.alloc (.cells #[.int .i64 c.sectors, .int .i64 c.sector, .int .i64 c.journal, .int .i64 c.segment, .int .i64 c.page, .int .i64 c.frames, .int .i64 c.procs, .int .i64 c.regions, .int .i64 c.pages] 23) = w1 at hbx hb0 hs0 ⊢
  have hs1 : w.heap.size < w1.heap.size := by omega
  clear hs0 hc
  have HBX := Lib.hid hbx
  have HB0 := Lib.hid hb0
  have HR := Lib.hid hr
  clear hbx hb0 hr
  go_wp2_with fail
  refine (HK w1).out.mono ?_
  rintro e w2 ⟨rfl, hb2⟩
  have HBX2 := Lib.hid (Boxed.next hb2 HBX.out)
  have HB2 := Lib.hid (HB0.out.trans (hb2.mono (by omega)))
  have hz2 := hb2.size
  clear hb2 HBX HB0 HK
  by_cases hlen : 1000 < l.length
  · go_wp2
    go_ret
    exact ⟨rfl, HB2.out⟩
  obtain ⟨k0, k1, k2, k3, k4, k5, k6, k7, k8⟩ := HBX2.out.cells
  go_wp2_with fail
  refine (HGE w2).out.mono ?_
  rintro e w3 ⟨r, rfl, hx, hb3⟩
  clear k0 k1 k2 k3 k4 k5 k6 k7 k8
  obtain ⟨Ax, cx, rfl, hx1, hx2, _⟩ := id hx
  rw [bv_length] at hx1 hx ⊢
  have hel := encL_length (cfgL c)
  have hel : (encL (cfgL c)).length ≤ 90 := hel
  have HX3 := Lib.hid hx
  have hz3 := hb3.size
  have HBX3 := Lib.hid (Boxed.next hb3 HBX2.out)
  have HB3 := Lib.hid (HB2.out.trans (hb3.mono (by omega)))
  have HGD := Lib.hid (gdecode_any _ l (by omega) w3 w.heap.size (by omega) (HR.out.below HB3.out))
  rw [dec_same] at HGD
  clear hx hb3 HGE HBX2 HB2
  go_wp2_with fail
  refine HGD.out.mono ?_
  rintro e w4 ⟨rfl, hb4⟩
  have hz4 := hb4.size
  have HX4 := Lib.hid (HX3.out.below hb4)
  have HBX4 := Lib.hid (Boxed.next hb4 HBX3.out)
  have HB4 := Lib.hid (HB3.out.trans (hb4.mono (by omega)))
  have HRD0 := fun w5 (h : Below w.heap.size w w5) => Lib.hid (rdecode_any _ l (by omega) w5 w.heap.size h.size (HR.out.below h))
  unfold DecP at HRD0
  generalize (if (decF ri l).isSome = true then (0 : Int) else 22) = ee at *
  generalize (decF ri l).getD cfgZ = dd at *
  obtain ⟨d1, d2, d3, d4, d5, d6, d7, d8, d9⟩ := dd
  unfold Cfg.val at HRD0 ⊢
  dsimp only at HRD0 ⊢
  have hx6 : Boxed (w4.alloc (.cells #[.int .i64 d1, .int .i64 d2, .int .i64 d3, .int .i64 d4, .int .i64 d5, .int .i64 d6, .int .i64 d7, .int .i64 d8, .int .i64 d9] 23)) w4.heap.size ⟨d1, d2, d3, d4, d5, d6, d7, d8, d9⟩ := Boxed.new w4 ⟨d1, d2, d3, d4, d5, d6, d7, d8, d9⟩
  have hb6 : Below w4.heap.size w4 (w4.alloc (.cells #[.int .i64 d1, .int .i64 d2, .int .i64 d3, .int .i64 d4, .int .i64 d5, .int .i64 d6, .int .i64 d7, .int .i64 d8, .int .i64 d9] 23)) := (Below.refl _ w4).alloc (Nat.le_refl _) _
  have hs6 : (w4.alloc (.cells #[.int .i64 d1, .int .i64 d2, .int .i64 d3, .int .i64 d4, .int .i64 d5, .int .i64 d6, .int .i64 d7, .int .i64 d8, .int .i64 d9] 23)).heap.size = w4.heap.size + 1 := by simp
  clear hb4 HGD HX3 HBX3 HB3
  go_upto_region 7 with (fail)
  generalize w4.alloc (.cells #[.int .i64 d1, .int .i64 d2, .int .i64 d3, .int .i64 d4, .int .i64 d5, .int .i64 d6, .int .i64 d7, .int .i64 d8, .int .i64 d9] 23) = w5 at hx6 hb6 hs6 ⊢
  have hs6' : w4.heap.size < w5.heap.size := by omega
  clear hs6
  have HX5 := Lib.hid (HX4.out.below (hb6.mono (by omega)))
  have HBX5 := Lib.hid (Boxed.next hb6 HBX4.out)
  have HB5 := Lib.hid (HB4.out.trans (hb6.mono (by omega)))
  have HD5 := Lib.hid hx6
  have HRD := HRD0 w5 HB5.out
  clear hx6 hb6 HRD0 HX4 HBX4 HB4
  go_wp2_with fail
  refine HRD.out.mono ?_
  rintro e w6 ⟨rfl, hb6⟩
  have hz6 := hb6.size
  have hx7 : Boxed (w6.alloc (.cells #[.int .i64 d1, .int .i64 d2, .int .i64 d3, .int .i64 d4, .int .i64 d5, .int .i64 d6, .int .i64 d7, .int .i64 d8, .int .i64 d9] 23)) w6.heap.size ⟨d1, d2, d3, d4, d5, d6, d7, d8, d9⟩ := Boxed.new w6 ⟨d1, d2, d3, d4, d5, d6, d7, d8, d9⟩
  have hb7 : Below w6.heap.size w6 (w6.alloc (.cells #[.int .i64 d1, .int .i64 d2, .int .i64 d3, .int .i64 d4, .int .i64 d5, .int .i64 d6, .int .i64 d7, .int .i64 d8, .int .i64 d9] 23)) := (Below.refl _ w6).alloc (Nat.le_refl _) _
  have hs7 : (w6.alloc (.cells #[.int .i64 d1, .int .i64 d2, .int .i64 d3, .int .i64 d4, .int .i64 d5, .int .i64 d6, .int .i64 d7, .int .i64 d8, .int .i64 d9] 23)).heap.size = w6.heap.size + 1 := by simp
  have hbb : Below w5.heap.size w5 (w6.alloc (.cells #[.int .i64 d1, .int .i64 d2, .int .i64 d3, .int .i64 d4, .int .i64 d5, .int .i64 d6, .int .i64 d7, .int .i64 d8, .int .i64 d9] 23)) := hb6.trans (hb7.mono (by omega))
  clear hb6 HRD
  go_upto_region 8 with (fail)
  generalize w6.alloc (.cells #[.int .i64 d1, .int .i64 d2, .int .i64 d3, .int .i64 d4, .int .i64 d5, .int .i64 d6, .int .i64 d7, .int .i64 d8, .int .i64 d9] 23) = w7 at hx7 hb7 hs7 hbb ⊢
  have hs7' : w6.heap.size < w7.heap.size := by omega
  clear hs7 hb7
  have HX := Lib.hid (HX5.out.below (hbb.mono (by omega)))
  have HXS : w3.heap.size ≤ w7.heap.size := by omega
  have HC := Lib.hid (show ∀ wz, Grow w7 wz → Boxed wz w.heap.size c from fun wz hz => Boxed.next hz (Boxed.next hbb HBX5.out))
  have HD6 := Lib.hid (show ∀ wz, Grow w7 wz → Boxed wz w4.heap.size ⟨d1, d2, d3, d4, d5, d6, d7, d8, d9⟩ from fun wz hz => Boxed.next hz (Boxed.next hbb HD5.out))
  have HD8 := Lib.hid (show ∀ wz, Grow w7 wz → Boxed wz w6.heap.size ⟨d1, d2, d3, d4, d5, d6, d7, d8, d9⟩ from fun wz hz => Boxed.next hz hx7)
  have HB7 := Lib.hid (HB5.out.trans (hbb.mono (by omega)))
  have HRE := Lib.hid (fun w => (HRE0 w).out)
  have E := fun (w : World) => run_conv_rd (P := Try.prog) w 36 9 5 Try.underlying36 Try.underlying5 Try.underlying9
  have HE := Lib.hid E
  clear E hx7 hbb HBX5 HD5 HB5 HX5 HRE0
  go_wp2_with fail
  refine region_inv [none, none, none, some (DRow (bv (encL (cfgL c)))), none, none, none, none, none, none, none, none, none, none, none, none] (by kernel_rfl) (by kernel_rfl) ⟨DRow.stable _, trivial⟩ (by kernel_rfl) ?_
  (refine inv_val (by rfl) (by intro w hg hl; clear hl; go_simp; with_reducible rfl) (fun K hK => ?_); go_simp; refine hK _ ?_; clear hK K)
  (refine inv_val (by rfl) (by intro w hg hl; have z := HE.out w _ _ _ (hg.rd HX.out HXS); clear hl; go_simp; with_reducible rfl) (fun K hK => ?_); go_simp; refine hK _ ?_; clear hK K)
  (refine inv_val (by rfl) (by intro w hg hl; obtain ⟨c0, c1, c2, c3, c4, c5, c6, c7, c8⟩ := (HC.out w hg).cells; clear hl; go_simp; with_reducible rfl) (fun K hK => ?_); go_simp; refine hK _ ?_; clear hK K)
  refine inv_any (by rfl) (by rfl) (by
      intro w hg hl
      clear hl
      refine gets_sem ?_
      go_simp
      refine Calls.mono (HRE.out w) ?_
      rintro e w4 ⟨r4, rfl, ho4, hb4⟩
      exact ⟨r4, rfl, ho4, hb4⟩) (fun v30 hv K hK => ?_)
  clear hv
  go_simp; refine hK _ ?_; clear hK K
  (refine inv_val (by rfl) (by intro w hg hl; have z := HE.out w _ _ _ (show RdV w w.heap.size v30 (bv (encL (cfgL c))) from hl.at 3 30 (by kernel_rfl) rfl); clear hl; go_simp; with_reducible rfl) (fun K hK => ?_); go_simp; refine hK _ ?_; clear hK K)
  iterate 2 (refine inv_val (by rfl) (by intro w hg hl; clear hl; go_simp; with_reducible rfl) (fun K hK => ?_); go_simp; refine hK _ ?_; clear hK K)
  (refine inv_val (by rfl) (by intro w hg hl; obtain ⟨c0, c1, c2, c3, c4, c5, c6, c7, c8⟩ := (HD6.out w hg).cells; dsimp only at c0 c1 c2 c3 c4 c5 c6 c7 c8; clear hl; go_simp; with_reducible rfl) (fun K hK => ?_); go_simp; refine hK _ ?_; clear hK K)
  (refine inv_val (by rfl) (by intro w hg hl; obtain ⟨c0, c1, c2, c3, c4, c5, c6, c7, c8⟩ := (HD8.out w hg).cells; dsimp only at c0 c1 c2 c3 c4 c5 c6 c7 c8; clear hl; go_simp; with_reducible rfl) (fun K hK => ?_); go_simp; refine hK _ ?_; clear hK K)
  iterate 7 (refine inv_val (by rfl) (by intro w hg hl; clear hl; go_simp; with_reducible rfl) (fun K hK => ?_); go_simp; refine hK _ ?_; clear hK K)
  intro w8 hg hh
  clear hh
  have hx8 := (show RdV w8 w3.heap.size (.slice Ax (encL (cfgL c)).length cx) (bv (encL (cfgL c))) from hg.rd HX.out HXS)
  have hz8 : w7.heap.size ≤ w8.heap.size := Below.size hg
  have HX8 := Lib.hid hx8
  have HC8 := Lib.hid (HC.out w8 hg)
  have HD68 := Lib.hid (HD6.out w8 hg)
  have HB8 := Lib.hid (HB7.out.trans (Below.mono hg (by omega)))
  have HGD := Lib.hid (gdecode_any _ (encL (cfgL c)) (by omega) w8 w3.heap.size (by omega) hx8)
  rw [dec_same, dec_enc c HFIT.out] at HGD
  clear hg hx8 HX HC HD6 HD8 HB7 HRE HE
  go_wp2_with fail
  refine HGD.out.mono ?_
  rintro e w9 ⟨rfl, hb9⟩
  have hz9 := hb9.size
  have HC9 := Lib.hid (Boxed.next hb9 HC8.out)
  have HD9 := Lib.hid (Boxed.next hb9 HD68.out)
  have HB9 := Lib.hid (HB8.out.trans (hb9.mono (by omega)))
  clear hb9 HGD HX8 HC8 HD68 HB8
  obtain ⟨z0, z1, z2, z3, z4, z5, z6, z7, z8⟩ := HD9.out.cells
  dsimp only at z0 z1 z2 z3 z4 z5 z6 z7 z8
  have f0 := frozen_of_row w9 w4.heap.size 0 _ _ HD9.out
  have f1 := frozen_of_row w9 w4.heap.size 1 _ _ HD9.out
  have f2 := frozen_of_row w9 w4.heap.size 2 _ _ HD9.out
  have f3 := frozen_of_row w9 w4.heap.size 3 _ _ HD9.out
  have f4 := frozen_of_row w9 w4.heap.size 4 _ _ HD9.out
  have f5 := frozen_of_row w9 w4.heap.size 5 _ _ HD9.out
  have f6 := frozen_of_row w9 w4.heap.size 6 _ _ HD9.out
  have f7 := frozen_of_row w9 w4.heap.size 7 _ _ HD9.out
  have f8 := frozen_of_row w9 w4.heap.size 8 _ _ HD9.out
  cases hck : checkB c with
  | true =>
    have HCK := HCK0
    rw [hck] at HCK
    rw [show (if true = true then some c else none) = some c from rfl]
    unfold Cfg.val
    dsimp only [Option.getD, Option.isSome]
    clear HCK0
    go_upto_region 11 with (fail)
    have hE5 : (((((((((w9.setCell ⟨w4.heap.size, 0, none⟩ (.int .i64 c.sectors)).setCell ⟨w4.heap.size, 1, none⟩ (.int .i64 c.sector)).setCell ⟨w4.heap.size, 2, none⟩ (.int .i64 c.journal)).setCell ⟨w4.heap.size, 3, none⟩ (.int .i64 c.segment)).setCell ⟨w4.heap.size, 4, none⟩ (.int .i64 c.page)).setCell ⟨w4.heap.size, 5, none⟩ (.int .i64 c.frames)).setCell ⟨w4.heap.size, 6, none⟩ (.int .i64 c.procs)).setCell ⟨w4.heap.size, 7, none⟩ (.int .i64 c.regions)).setCell ⟨w4.heap.size, 8, none⟩ (.int .i64 c.pages)) = putC w9 w4.heap.size c := rfl
    rw [hE5]
    obtain ⟨hO5, hF5⟩ := HD9.out.store c
    generalize putC w9 w4.heap.size c = wa at hO5 hF5 ⊢
    have HCa := Lib.hid (show Boxed wa w.heap.size c from (hF5.block w.heap.size (by omega) (by omega)).trans HC9.out)
    have HBa := Lib.hid (HB9.out.trans (hF5.below (B := w.heap.size) (fun j e => by omega) (by omega)))
    have HOa := Lib.hid hO5
    have hza := hF5.size
    clear hE5 hO5 hF5 z0 z1 z2 z3 z4 z5 z6 z7 z8 f0 f1 f2 f3 f4 f5 f6 f7 f8 HC9 HD9 HB9 hck
    obtain ⟨k0, k1, k2, k3, k4, k5, k6, k7, k8⟩ := HCa.out.cells
    go_wp2_with fail
    refine (HCK wa).out.mono ?_
    rintro e wb ⟨rfl, hbb⟩
    have HBb := Lib.hid (HBa.out.trans (hbb.mono (by omega)))
    have hxc := Boxed.next hbb HCa.out
    have hxd := Boxed.next hbb HOa.out
    clear k0 k1 k2 k3 k4 k5 k6 k7 k8 hbb HCa HOa HBa HCK
    obtain ⟨k0, k1, k2, k3, k4, k5, k6, k7, k8⟩ := hxc.cells
    obtain ⟨q0, q1, q2, q3, q4, q5, q6, q7, q8⟩ := hxd.cells
    clear hxc hxd
    go_wp2
    go_ret
    exact ⟨rfl, HBb.out⟩
  | false =>
    have HCK := HCK0
    rw [hck] at HCK
    rw [show (if false = true then some c else none) = none from rfl]
    unfold Cfg.val cfgZ
    dsimp only [Option.getD, Option.isSome]
    clear HCK0
    go_upto_region 11 with (fail)
    have hE5 : (((((((((w9.setCell ⟨w4.heap.size, 0, none⟩ (.int .i64 0)).setCell ⟨w4.heap.size, 1, none⟩ (.int .i64 0)).setCell ⟨w4.heap.size, 2, none⟩ (.int .i64 0)).setCell ⟨w4.heap.size, 3, none⟩ (.int .i64 0)).setCell ⟨w4.heap.size, 4, none⟩ (.int .i64 0)).setCell ⟨w4.heap.size, 5, none⟩ (.int .i64 0)).setCell ⟨w4.heap.size, 6, none⟩ (.int .i64 0)).setCell ⟨w4.heap.size, 7, none⟩ (.int .i64 0)).setCell ⟨w4.heap.size, 8, none⟩ (.int .i64 0)) = putC w9 w4.heap.size cfgZ := rfl
    rw [hE5]
    obtain ⟨hO5, hF5⟩ := HD9.out.store cfgZ
    generalize putC w9 w4.heap.size cfgZ = wa at hO5 hF5 ⊢
    have HCa := Lib.hid (show Boxed wa w.heap.size c from (hF5.block w.heap.size (by omega) (by omega)).trans HC9.out)
    have HBa := Lib.hid (HB9.out.trans (hF5.below (B := w.heap.size) (fun j e => by omega) (by omega)))
    have HOa := Lib.hid hO5
    have hza := hF5.size
    clear hE5 hO5 hF5 z0 z1 z2 z3 z4 z5 z6 z7 z8 f0 f1 f2 f3 f4 f5 f6 f7 f8 HC9 HD9 HB9 hck
    obtain ⟨k0, k1, k2, k3, k4, k5, k6, k7, k8⟩ := HCa.out.cells
    go_wp2_with fail
    refine (HCK wa).out.mono ?_
    rintro e wb ⟨rfl, hbb⟩
    have HBb := Lib.hid (HBa.out.trans (hbb.mono (by omega)))
    have hxd := Boxed.next hbb HOa.out
    clear k0 k1 k2 k3 k4 k5 k6 k7 k8 hbb HCa HOa HBa HCK
    obtain ⟨q0, q1, q2, q3, q4, q5, q6, q7, q8⟩ := hxd.cells
    dsimp only [cfgZ] at q0 q1 q2 q3 q4 q5 q6 q7 q8
    clear hxd
    go_wp2
    go_ret
    exact ⟨rfl, HBb.out⟩

set_option maxRecDepth 100000 in
theorem lifted (os : Os) (started : os.Started) (H : Type) (enc : TypeId × Value → H) :
    ReturnsInHanded {} Try.checked os 4 .any (Rows.geomBytesSpec.pre6 enc Try.prog Try.f4 Rows.geomBytesRow.domain false) (Rows.geomBytesSpec.post enc Try.prog Try.f4 false true false false) := by
  refine returnsInHanded_of_change (C := Try.checked) own started (by kernel_rfl) Try.func4
    (ChangeSpec.witness6 (enc := enc) (C := Try.checked) false ⟨#[], #[.agg #[.int .i64 0, .int .i64 0, .int .i64 0, .int .i64 0, .int .i64 0, .int .i64 0, .int .i64 0, .int .i64 0, .int .i64 0], .slice none 0 0], []⟩ 8 (by kernel_rfl) (by kernel_rfl) (by kernel_rfl) (by kernel_rfl)) ?_
  intro W base args ds gs before hval0 hW hcnd _
  have hval : ∀ (j : Nat) t v, Try.f4.params[j]? = some t → args[j]? = some v → Value.okWide Try.prog W .any base t v := hval0
  have hW' := hW
  obtain ⟨p, q, hA0, hV, rfl, hfz, hnd⟩ := hW
  have hA : DataW.TrodAll enc Try.prog W 0 (fun _ => true) true Try.f4.params.toList args.toList ds p := hA0
  rw [Try.params4] at hA hval
  obtain ⟨v0, vs0, d0, ds0, p0, q0, hargs, rfl, rfl, h0, r0⟩ := trodAll_cons hA
  obtain ⟨v1, vs1, d1, ds1, p1, q1, rfl, rfl, rfl, h1, r1⟩ := trodAll_cons r0
  obtain ⟨rfl, rfl, rfl⟩ := trodAll_nil r1
  obtain rfl : args = #[v0, v1] := by cases args; simp_all
  obtain ⟨rfl, rfl⟩ := trodVars_none hV
  obtain ⟨c0, rfl, f0⟩ := open_cfg Try.underlying23 (by kernel_rfl) (by kernel_rfl) (by kernel_rfl) Try.underlying3 (by kernel_rfl) (hval 0 23 v0 rfl rfl) h0
  obtain ⟨l1, b1⟩ := open_bytes Try.underlying36 Try.underlying5 (by kernel_rfl) (hval 1 36 v1 rfl rfl) h1
  clear hA0 hval0
  refine (walk c0 f0 v1 l1 W b1).mono fun e W' ⟨he, hb⟩ => ?_
  subst he
  exact ⟨_, rfl, law_post hW' rfl laid (by kernel_rfl) rfl Try.underlying4 rfl hb⟩

theorem over : Rows.geomBytesRow.holds Try.pinned (OpenSpec.ofChange Rows.geomBytesSpec) :=
  OpenClaim.holds_of_wide 4 Try.f4 rfl rfl rfl rfl rfl rfl rfl ⟨rfl, rfl, rfl, rfl, rfl⟩ rfl rfl rfl rfl rfl (by kernel_rfl) Try.func4 (by kernel_rfl)
    (of_decide_eq_true (by kernel_rfl)) (by unfold Func.isWrapper; first | (rw [if_pos (by decide +kernel)]; kernel_rfl) | (rw [if_neg (by decide +kernel)]; exact ⟨rfl, rfl⟩))
    (fun os started H enc _ => lifted os started H enc)

theorem proved : Rows.GeomBytesSaid :=
  over
end Go.Proofs.Ytlbodandidopfaa.lawGeomBytes
