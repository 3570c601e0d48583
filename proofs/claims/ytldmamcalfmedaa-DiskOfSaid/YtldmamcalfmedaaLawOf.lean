/- The law DiskOf answers true for any bytes, any size of sectors and any sector: any bytes as a disk's. Conditions: none. -/
import Derived.Test.YtldmamcalfmedaaDkn
import Derived.Test.YtldmamcalfmedaaDsl
import Derived.Test.YtldmamcalfmedaaOrd
namespace Go.Proofs.Ytldmamcalfmedaa.lawDiskOf
open Go.ChangeShapes Go.WideShapes Go.ChangeAt Go.RowKit Go.Maps
set_option linter.unusedSimpArgs false
set_option linter.unusedVariables false

theorem own : ownKnob Try.prog.godebug = none := by kernel_rfl
theorem laid : laidOutB Try.prog = true := by kernel_rfl

def callsF (o : Oper) (f : Nat) : Bool := match o.op with
  | .call c => (match c.callee with | .value (.func g) => decide (g = f) | _ => false)
  | _ => false
theorem step_ifc {P : Program} {ops : Array Oper} {o : Oper} {a : Act} {w : World} {K : Act → World → Prop} {Q : Exit → Act → World → Prop} {E : Prop} (f : Nat) (ho : callsF o f = true) (hw : Region.wanted o (yielded ops a.tmps) = true) (h : Oper.wp P o a w K Q) :
    if Region.wanted o (yielded ops a.tmps) = true then Oper.wp P o a w K Q else E := by rw [if_pos hw]; exact h
set_option maxRecDepth 100000 in
set_option maxHeartbeats 16000000 in
theorem walk {W0 : World} (v : Value) (bl : List UInt8) (hv0 : RdV W0 W0.heap.size v (bv bl)) (size : Int) (ws : (Lit.int .i64 size).wf = true) (s : Int) (wss : (Lit.int .i64 s).wf = true) (w : World) (hw : W0 = w) :
    Calls Try.prog 4 #[v, .int .i64 size, .int .i64 s] w fun e w' => e = .returned (.bool true) ∧ Below w.heap.size w w' := by
  subst hw
  have HK := Lib.hid (known_any W0)
  obtain ⟨A, c, rfl, hc1, hc2, _⟩ := id hv0
  rw [bv_length] at hc1 hv0 ⊢
  unfold maxLen at hc2
  have hs' : -9223372036854775808 ≤ size ∧ size ≤ 9223372036854775807 := by simp [Lit.wf, IntKind.min, IntKind.max, IntKind.signed, IntKind.bits] at ws; omega
  have HV := Lib.hid hv0
  obtain ⟨L, hLL⟩ : ∃ L, bl.length = L := ⟨_, rfl⟩
  rw [hLL] at hc1 HV ⊢
  have HLL := Lib.hid hLL
  clear hv0 hLL ws wss
  by_cases hL : L ≤ 32768
  case neg =>
    go_enter Try.func4, Try.ntmps4
    go_wp2_with fail
    refine HK.out.mono ?_
    rintro e w1 ⟨rfl, hb1⟩
    go_wp2
    go_ret
    exact ⟨rfl, hb1⟩
  by_cases hbad : badOf L size
  · go_enter Try.func4, Try.ntmps4
    have HBD := Lib.hid hbad
    clear hbad
    go_wp2_with fail
    refine HK.out.mono ?_
    rintro e w1 ⟨rfl, hb1⟩
    have h1 := dof_bad _ bl _ size w1 (HV.out.below hb1) (by rw [HLL.out]; exact hL) (by rw [HLL.out]; exact HBD.out)
    have h2 := rof_bad _ bl _ size w1 (HV.out.below hb1) (by rw [HLL.out]; exact hL) (by rw [HLL.out]; exact HBD.out)
    have H1 := Lib.hid h1
    have H2 := Lib.hid h2
    have HB1 := Lib.hid hb1
    clear h1 h2 hb1
    go_wp2_with fail
    refine H1.out.mono ?_
    rintro e w2 ⟨rfl, rfl⟩
    go_wp2_with fail
    refine H2.out.mono ?_
    rintro e w2 ⟨rfl, rfl⟩
    go_wp2
    go_ret
    exact ⟨rfl, HB1.out⟩
  · unfold badOf at hbad
    have hsz : 64 ≤ size ∧ size ≤ 4096 := by omega
    obtain ⟨S, rfl⟩ := Int.eq_ofNat_of_zero_le (show 0 ≤ size by omega)
    have hmod : L % S = 0 := by
      have h : ((L : Nat) : Int) % ((S : Nat) : Int) = 0 := by omega
      omega
    obtain ⟨n, hn⟩ : ∃ n, L = n * S := ⟨L / S, by rw [Nat.div_mul_cancel (Nat.dvd_of_mod_eq_zero hmod)]⟩
    have hn1 : 1 ≤ n := by
      rcases Nat.eq_zero_or_pos n with h | h
      · rw [h, Nat.zero_mul] at hn; omega
      · exact h
    have hn2 : n ≤ 65536 := by
      have : n * 64 ≤ n * S := Nat.mul_le_mul_left _ (by omega)
      omega
    have hSS : 64 ≤ S ∧ S ≤ 4096 := by omega
    clear hbad hsz hs' hmod
    have HN := Lib.hid hn
    clear hn
    go_enter Try.func4, Try.ntmps4
    go_wp2_with fail
    refine HK.out.mono ?_
    rintro e w1 ⟨rfl, hb1⟩
    have h1 := dof_ok _ bl _ n S w1 (HV.out.below hb1) ⟨hn1, hn2⟩ hSS (by rw [HLL.out, HN.out])
    have H1 := Lib.hid h1
    have HB1 := Lib.hid hb1
    clear h1 hb1
    go_wp2_with fail
    refine H1.out.mono ?_
    rintro e w2 ⟨db, kb, mb, g1, g2, g3, rfl, hD2, hb2⟩
    have h2 := rof_ok _ bl _ n S w2 (HV.out.below (HB1.out.trans (hb2.mono HB1.out.size))) ⟨hn1, hn2⟩ hSS (by rw [HLL.out, HN.out]) (HB1.out.trans (hb2.mono HB1.out.size)).size
    have H2 := Lib.hid h2
    have HD2 := Lib.hid hD2
    have HB2 := Lib.hid (HB1.out.trans (hb2.mono HB1.out.size))
    have hl2 := hD2.lt
    have hm2 := hD2.small
    clear h2 hD2 hb2
    go_wp2_with fail
    refine H2.out.mono ?_
    rintro e w3 ⟨rb, rk, k1, k2, rfl, hR3, hb3⟩
    have hz1 := HB1.out.size
    have hz2 := HB2.out.size
    have hz3 := hb3.size
    have HJ := Lib.hid (JBox.made (HD2.out.next (Frm.of_below hb3)) hR3 rfl rfl (by unfold Own Own3; omega))
    have HB3 := Lib.hid (HB2.out.trans (hb3.mono HB2.out.size))
    have HS := Lib.hid (show Calls Try.prog 25 #[.pointer (some ⟨db, 0, none⟩)] w3 fun e w' => e = .returned (.tuple #[.int .i64 (n : Nat), .int .i64 (S : Nat)]) ∧ ∃ k, w' = w3.drewN k from shape_any db kb mb db 0 _ w3 HJ.out.p)
    clear hR3 hb3
    go_wp2_with fail
    refine HS.out.mono ?_
    rintro e w4 ⟨rfl, k, hk⟩
    have hF4 : Frm (fun _ => False) w3 w4 := by rw [hk]; exact Frm.drewN _ _
    have hB4 : Below W0.heap.size W0 w4 := HB3.out.trans (hF4.below (fun _ h => h.elim) HB3.out.size)
    have HJ4 := Lib.hid ((HJ.out.next hF4).next ((Frm.refl (fun _ => False) w4).drew))
    have HV4 := Lib.hid (HV.out.below hB4.drew)
    have HB4 := Lib.hid hB4.drew
    clear hk hF4 hB4 HJ
    have hsame := same_any db kb mb db 0 rb rk rb _ w4.drew HJ4.out s (by show (0 : Int) ≤ 0 ∧ (0 : Int) ≤ 1000000000000; omega) (by show 0 ≤ 1000000; omega)
    have HSA := Lib.hid hsame
    obtain ⟨_, _, _, _, _, _, _, _, r0, _⟩ := HJ4.out.r.at
    have r0' : w4.drew.cell? ⟨rb, 0, none⟩ = some (.int .i64 (n : Nat)) := r0
    have hbl : (newD n S bl).kept = bl := rfl
    have E := fun (w : World) => run_conv_rd (P := Try.prog) w 32 9 5 Try.underlying32 Try.underlying5 Try.underlying9
    have HE := Lib.hid E
    clear hsame r0 E
    go_upto_region 12 with (fail)
    refine region_ord (Below W0.heap.size W0) [false, false, false, false, true, false, false, false, false, false, false, false, false, false, false, true, false, false, false, true, true, false, false, false, false, false] (by kernel_rfl) (by kernel_rfl) (by kernel_rfl) (HB4.out) ?_
    iterate 4 (refine ord_val (by rfl) (by intro w hi; clear hi; go_simp; with_reducible rfl) (fun K hK => ?_); go_simp; refine hK _ ?_; clear hK K)
    refine ord_eff (by rfl) (fun K hK => ?_)
    refine gets_sem ?_
    go_simp
    refine ⟨HB4.out, hK _ _ ?_⟩
    clear hK K
    iterate 10 (refine ord_val (by rfl) (by intro w hi; clear hi; go_simp; with_reducible rfl) (fun K hK => ?_); go_simp; refine hK _ ?_; clear hK K)
    refine ord_eff (by rfl) (fun K hK => ?_)
    refine gets_sem ?_
    go_simp
    refine Calls.mono HSA.out ?_
    rintro e w5 ⟨rfl, hJ5, hF5⟩
    have hB5 : Below W0.heap.size W0 w5 := HB4.out.trans (hF5.below (by rintro j (h | h) <;> omega) HB4.out.size)
    have hbt := bytes_any db kb mb db 0 _ w5 hJ5.p
    have HBT := Lib.hid hbt
    have HB5 := Lib.hid hB5
    have hx5 : (lookD { newD n S bl with away := fun j => Own db kb mb db j ∨ Own3 rb rk rb j } s).kept = bl := (lookD_facts { newD n S bl with away := fun j => Own db kb mb db j ∨ Own3 rb rk rb j } s).2.2.2.2.1
    have HX5 := Lib.hid hx5
    refine ⟨_, rfl, hB5, hK _ _ ?_⟩
    clear hK K hJ5 hF5 hbt hB5 hx5
    iterate 3 (refine ord_val (by rfl) (by intro w hi; clear hi; go_simp; with_reducible rfl) (fun K hK => ?_); go_simp; refine hK _ ?_; clear hK K)
    refine ord_eff (by rfl) (fun K hK => ?_)
    refine gets_sem ?_
    go_simp
    refine Calls.mono HBT.out ?_
    rintro e w6 ⟨v6, rfl, ho6, hb6⟩
    have hB6 : Below W0.heap.size W0 w6 := HB5.out.trans (hb6.mono HB5.out.size)
    have y6 := RdV.own ho6
    rw [HX5.out] at y6
    have x6 := HE.out w6 _ _ _ y6
    have HB6 := Lib.hid hB6
    refine ⟨_, rfl, hB6, hK _ _ ?_⟩
    clear hK K ho6 hb6 hB6 y6
    refine ord_eff (by rfl) (fun K hK => ?_)
    refine gets_sem ?_
    go_simp
    refine ⟨HB6.out, hK _ _ ?_⟩
    clear hK K x6
    (refine ord_val (by rfl) (by intro w hi; clear hi; go_simp; with_reducible rfl) (fun K hK => ?_); go_simp; refine hK _ ?_; clear hK K)
    (refine ord_val (by rfl) (by intro w hi; have z := HE.out w _ _ _ (HV.out.below hi); clear hi; go_simp; with_reducible rfl) (fun K hK => ?_); go_simp; refine hK _ ?_; clear hK K)
    iterate 3 (refine ord_val (by rfl) (by intro w hi; clear hi; go_simp; with_reducible rfl) (fun K hK => ?_); go_simp; refine hK _ ?_; clear hK K)
    refine ord_nil ?_
    go_wp2
    go_ret
    exact ⟨rfl, HB6.out⟩

set_option maxRecDepth 100000 in
theorem lifted (os : Os) (started : os.Started) (H : Type) (enc : TypeId × Value → H) :
    ReturnsInHanded {} Try.checked os 4 .any (Rows.diskOfSpec.pre6 enc Try.prog Try.f4 Rows.diskOfRow.domain false) (Rows.diskOfSpec.post enc Try.prog Try.f4 false true false false) := by
  refine returnsInHanded_of_change (C := Try.checked) own started (by kernel_rfl) Try.func4
    (ChangeSpec.witness6 (enc := enc) (C := Try.checked) false ⟨#[], #[.slice none 0 0, .int .i64 0, .int .i64 0], []⟩ 8 (by kernel_rfl) (by kernel_rfl) (by kernel_rfl) (by kernel_rfl)) ?_
  intro W base args ds gs before hval0 hW hcnd _
  have hval : ∀ (j : Nat) t v, Try.f4.params[j]? = some t → args[j]? = some v → Value.okWide Try.prog W .any base t v := hval0
  have hW' := hW
  obtain ⟨p, q, hA0, hV, rfl, hfz, hnd⟩ := hW
  have hA : DataW.TrodAll enc Try.prog W 0 (fun _ => true) true Try.f4.params.toList args.toList ds p := hA0
  rw [Try.params4] at hA hval
  obtain ⟨v0, vs0, d0, ds0, p0, q0, hargs, rfl, rfl, h0, r0⟩ := trodAll_cons hA
  obtain ⟨v1, vs1, d1, ds1, p1, q1, rfl, rfl, rfl, h1, r1⟩ := trodAll_cons r0
  obtain ⟨v2, vs2, d2, ds2, p2, q2, rfl, rfl, rfl, h2, r2⟩ := trodAll_cons r1
  obtain ⟨rfl, rfl, rfl⟩ := trodAll_nil r2
  obtain rfl : args = #[v0, v1, v2] := by cases args; simp_all
  obtain ⟨rfl, rfl⟩ := trodVars_none hV
  obtain ⟨l0, b0⟩ := open_bytes Try.underlying32 Try.underlying5 (by kernel_rfl) (hval 0 32 v0 rfl rfl) h0
  obtain ⟨a1, rfl, rfl, rfl, w1⟩ := open_int Try.underlying3 (hval 1 3 v1 rfl rfl) h1
  obtain ⟨a2, rfl, rfl, rfl, w2⟩ := open_int Try.underlying3 (hval 2 3 v2 rfl rfl) h2
  clear hA0 hval0
  refine (walk v0 l0 b0 a1 w1 a2 w2 W rfl).mono fun e W' ⟨he, hb⟩ => ?_
  subst he
  exact ⟨_, rfl, law_post hW' rfl laid (by kernel_rfl) rfl Try.underlying4 rfl hb⟩

theorem over : Rows.diskOfRow.holds Try.pinned (OpenSpec.ofChange Rows.diskOfSpec) :=
  OpenClaim.holds_of_wide 4 Try.f4 rfl rfl rfl rfl rfl rfl rfl ⟨rfl, rfl, rfl, rfl, rfl⟩ rfl rfl rfl rfl rfl (by kernel_rfl) Try.func4 (by kernel_rfl)
    (of_decide_eq_true (by kernel_rfl)) (by unfold Func.isWrapper; first | (rw [if_pos (by decide +kernel)]; kernel_rfl) | (rw [if_neg (by decide +kernel)]; exact ⟨rfl, rfl⟩))
    (fun os started H enc _ => lifted os started H enc)

theorem proved : Rows.DiskOfSaid :=
  over
end Go.Proofs.Ytldmamcalfmedaa.lawDiskOf
