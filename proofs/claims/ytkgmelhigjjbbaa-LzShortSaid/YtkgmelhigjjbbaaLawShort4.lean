/- The law LzShort answers true for any byte, any number and any bytes: equal bytes are made short, however many; so is a row that comes twice. Conditions: none. -/
import Derived.Test.YtkgmelhigjjbbaaLzk
import Derived.Test.YtkgmelhigjjbbaaLzb
namespace Go.Proofs.Ytkgmelhigjjbbaa.lawLzShort
open Go.ChangeShapes Go.WideShapes Go.ChangeAt Go.RowKit
set_option linter.unusedSimpArgs false
set_option linter.unusedVariables false

theorem own : ownKnob Try.prog.godebug = none := by kernel_rfl
theorem laid : laidOutB Try.prog = true := by kernel_rfl

/-- the row that is being filled: k bytes are c -/
def FBox (w : World) (gb N k : Nat) (c : UInt8) : Prop := ∃ cs, w.heap[gb]? = some (.cells cs 5 (0, 0)) ∧ cs.size = N ∧ ∀ i, i < k → cs[i]? = some (.int .u8 (c.toNat : Int))
theorem FBox.new {w : World} {base gb N : Nat} {c : UInt8} {z : Value} (h : w.ownsRow base 5 1 (.slice (some ⟨gb, 0, none⟩) N N) N (List.replicate N z)) (h0 : 0 < N) : FBox w gb N 0 c := by
  rcases h.2 with h1 | ⟨g, cap, cur, hv, hg, hh, hn, hm, hs, ht⟩
  · have := h1.1; omega
  · injection hv with e1 e2 e3
    injection e1 with e1
    injection e1 with e1
    subst e1 e3
    exact ⟨cur, hh, by omega, fun i hi => by omega⟩
theorem FBox.set {w : World} {gb N k : Nat} {c : UInt8} (h : FBox w gb N k c) (hk : k < N) : FBox (w.setCell ⟨gb, k, none⟩ (.int .u8 (c.toNat : Int))) gb N (k + 1) c := by
  obtain ⟨cs, h1, h2, h3⟩ := h
  refine ⟨_, heap_setCell_same w gb k cs _ _ h1, by simp [h2], fun i hi => ?_⟩
  by_cases e : k = i
  · subst e; simp [h2, hk]
  · rw [Array.getElem?_setIfInBounds_ne e]
    exact h3 i (by omega)
theorem FBox.cell {w : World} {gb N k : Nat} {c : UInt8} (h : FBox w gb N k c) (hk : k < N) : (∃ u, w.cell? ⟨gb, k, none⟩ = some u) ∧ w.frozen? ⟨gb, k, none⟩ = false := by
  obtain ⟨cs, h1, h2, h3⟩ := h
  refine ⟨⟨cs[k]'(by omega), ?_⟩, frozen_of_row w gb k cs _ h1⟩
  rw [cell_of_row w gb k cs _ _ h1]
  exact Array.getElem?_eq_getElem (by omega)
theorem FBox.lt {w : World} {gb N k : Nat} {c : UInt8} (h : FBox w gb N k c) : gb < w.heap.size := by
  obtain ⟨cs, h1, _⟩ := h
  rcases Nat.lt_or_ge gb w.heap.size with h2 | h2
  · exact h2
  · rw [Array.getElem?_eq_none h2] at h1; cases h1
theorem FBox.read {w : World} {gb N : Nat} {c : UInt8} (h : FBox w gb N N c) (hN : N ≤ 65536) : RdV w w.heap.size (.slice (some ⟨gb, 0, none⟩) N N) (bv (List.replicate N c)) := by
  have hl := h.lt
  obtain ⟨cs, h1, h2, h3⟩ := h
  refine ⟨_, N, by simp [bv], by simp [bv], by unfold maxLen; omega, fun _ => ⟨gb, 0, rfl, hl, fun j u hu => ?_⟩⟩
  have hj : j < N := by have := (List.getElem?_eq_some_iff.1 hu).1; simpa [bv] using this
  rw [bv_get] at hu
  simp [hj] at hu
  rw [Nat.zero_add, cell_of_row w gb j cs _ _ h1, h3 j hj, ← hu]
theorem bv_flat (N : Nat) (c : UInt8) : (List.replicate N c).length = N := List.length_replicate
set_option maxRecDepth 100000 in
set_option maxHeartbeats 8000000 in
theorem walk (cb : Int) (wcb : (Lit.int .u8 cb).wf = true) (n : Int) (wn : (Lit.int .i64 n).wf = true) (va : Value) (la : List UInt8) {W0 : World} (hra : RdV W0 W0.heap.size va (bv la)) (w : World) (hw : W0 = w) :
    Calls Try.prog 5 #[.int .u8 cb, .int .i64 n, va] w fun e w' => e = .returned (.bool true) ∧ Below w.heap.size w w' := by
  subst hw
  have hcr : 0 ≤ cb ∧ cb ≤ 255 := by simpa [Lit.wf, IntKind.min, IntKind.max, IntKind.signed, IntKind.bits] using wcb
  have hnr : -9223372036854775808 ≤ n ∧ n ≤ 9223372036854775807 := by simpa [Lit.wf, IntKind.min, IntKind.max, IntKind.signed, IntKind.bits] using wn
  clear wcb wn
  obtain ⟨c8, hc8⟩ : ∃ c8 : UInt8, (c8.toNat : Int) = cb := ⟨UInt8.ofNat cb.toNat, by rw [UInt8.toNat_ofNat']; omega⟩
  subst hc8
  have hraa := hra
  obtain ⟨A, ca, rfl, hla, hma, hA⟩ := hra
  simp only [bv_length] at hla hA hraa ⊢
  unfold maxLen at hma
  have HK := Lib.hid (known_any W0)
  have HA := Lib.hid hraa
  clear hA hraa
  by_cases l1 : n < 8
  · go_enter Try.func5, Try.ntmps5
    go_wp2_with fail
    refine HK.out.mono ?_
    rintro e w1 ⟨rfl, hb1⟩
    go_wp2
    go_ret
    exact ⟨rfl, hb1⟩
  by_cases l2 : 65536 < n
  · go_enter Try.func5, Try.ntmps5
    go_wp2_with fail
    refine HK.out.mono ?_
    rintro e w1 ⟨rfl, hb1⟩
    go_wp2
    go_ret
    exact ⟨rfl, hb1⟩
  by_cases l3 : 2000 < la.length
  · go_enter Try.func5, Try.ntmps5
    go_wp2_with fail
    refine HK.out.mono ?_
    rintro e w1 ⟨rfl, hb1⟩
    go_wp2
    go_ret
    exact ⟨rfl, hb1⟩
  obtain ⟨N, rfl⟩ := Int.eq_ofNat_of_zero_le (show 0 ≤ n by omega)
  have hN8 : 8 ≤ N := by omega
  have hN6 : N ≤ 65536 := by omega
  have hl3 : la.length ≤ 2000 := by omega
  clear hcr hnr l1 l2 l3
  go_enter Try.func5, Try.ntmps5
  go_wp2_with fail
  refine HK.out.mono ?_
  rintro e w1 ⟨rfl, hb1⟩
  have hs1 := hb1.size
  have HB1 := Lib.hid hb1
  clear hb1
  go_wp2_with (at_make; refine wpList_make_rd _ rfl _ _ 22 rfl w1.heap.size 5 (.int .u8 0) 1 Try.underlying22 Try.inf5 rfl .i64 .i64 N N _ _ rfl rfl rfl rfl (Nat.le_refl _) (by omega) (by unfold maxLen; omega) (Nat.le_refl _) ?_; intro w2 ho2 hg2; have HF2 := Lib.hid (FBox.new (c := c8) ho2 (by omega)); have HB2 := Lib.hid (HB1.out.grown hg2 hs1 (fun g h => by cases h)); clear ho2 hg2)
  go_loopw [8] (fun i wr => ∃ k : Nat, k ≤ N ∧ i = .int .i64 k ∧ FBox wr w1.heap.size N k c8 ∧ Below W0.heap.size W0 wr) (fun i _ => N - (intOf i).toNat)
  case atStart => exact ⟨0, by omega, by rfl, HF2.out, HB2.out⟩
  case round =>
    obtain ⟨k, hk, rfl, hf, hbel⟩ := hrel
    have HF := Lib.hid hf
    have HBEL := Lib.hid hbel
    by_cases hlt : k < N
    · obtain ⟨⟨u, hcell⟩, hfro⟩ := hf.cell hlt
      clear hf hbel
      go_wp2
      go_roundw
      case rel => exact ⟨k + 1, by omega, by go_num, HF.out.set hlt, HBEL.out.setCell (p := ⟨w1.heap.size, k, none⟩) hs1 _⟩
      case measure => simp [intOf]; omega
    obtain rfl : k = N := by omega
    have hrd := hf.read hN6
    have hs3 := hbel.size
    have hp := pack_any _ (List.replicate k c8) (by rw [bv_flat]; omega) wr hrd
    have HP := Lib.hid hp
    have HRD := Lib.hid hrd
    clear hf hbel hp hrd hlt hk
    go_wp2_with fail
    refine HP.out.mono ?_
    rintro e w4 ⟨r, p, rfl, hrp, ⟨hpl, nn, hwk⟩, _, hfl, hb4⟩
    have hp16 : (p.length : Int) ≤ 16 := by
      rcases Nat.lt_or_ge k 16 with h | h
      · rw [bv_flat] at hpl; omega
      · have := hfl ⟨⟨c8, by rw [bv_flat]⟩, by rw [bv_flat]; exact h, by rw [bv_flat]; exact hN6⟩
        omega
    rw [bv_flat] at hwk
    obtain ⟨Ap, cp, rfl, _, _, _⟩ := id hrp
    rw [bv_length] at hrp ⊢
    have hB4 := nextB hb4 HBEL.out
    have hs4 := hB4.size
    have hs34 := hb4.size
    have hu := unpack_any (.slice Ap p.length cp) p (by omega) (k : Int) (by omega) (by omega) w4 hrp
    rw [show (k : Int).toNat = k from by omega] at hu
    have HU := Lib.hid hu
    have HRB := Lib.hid (HRD.out.below hb4)
    have HWK := Lib.hid hwk
    have HB4 := Lib.hid hB4
    clear hu hrp hwk hb4 hB4 hpl hfl
    go_wp2_with fail
    refine HU.out.mono ?_
    rintro e w5 ⟨o, n5, ev, r5, hwk5, rfl, hrv5, hlen5, hb5⟩
    obtain ⟨rfl, rfl, rfl⟩ := Lz.Walks.same HWK.out hwk5
    rw [if_pos rfl] at hrv5
    have hB5 := nextB hb5 HB4.out
    have hs5 := hB5.size
    have x1 := run_conv_rd (P := Try.prog) w5 22 9 5 Try.underlying22 Try.underlying5 Try.underlying9 _ _ _ hrv5
    have x2 := run_conv_rd (P := Try.prog) w5 22 9 5 Try.underlying22 Try.underlying5 Try.underlying9 _ _ _ (RdV.below' HRB.out hb5 hs34)
    have HB5 := Lib.hid hB5
    clear hwk5 hrv5 hb5 hB5 hlen5
    by_cases h32 : la.length < 32
    · go_wp2
      all_goals go_ret
      all_goals exact ⟨rfl, HB5.out⟩
    have hle1 : (0 + (bv la).length) * 1 ≤ 140737488355328 := by rw [bv_length]; omega
    have hle2 : (0 + (bv la).length + (bv la).length) * 1 ≤ 140737488355328 := by rw [bv_length]; omega
    have HX1 := Lib.hid hle1
    have HX2 := Lib.hid hle2
    have HEM := Lib.hid (Emp.own (base := w5.heap.size) (Emp.new w5 5) (Nat.le_refl _))
    have HR1 := Lib.hid (((HA.out.below HB5.out).more hs5).alloc (Nat.le_refl _) (.cells #[] 5))
    clear hle1 hle2
    go_wp2_with (first
      | (at_builtin; refine wpList_append_rd _ rfl (.tmp 62) (.tmp 63) 22 rfl w5.heap.size 5 (.int .u8 0) 1 Try.underlying22 Try.inf5 rfl _ _ _ (by rfl) HEM.out _ (by rfl) _ _ HR1.out (bv_one la) HX1.out (by omega) (by simp) ?_; intro v6 w6 ho6 hg6 hv6; have hg6' : (w5.alloc (.cells #[] 5)).grownBy w6 (some w5.heap.size) := hg6; have hb6 := ((Below.refl w5.heap.size w5).alloc (Nat.le_refl _) (.cells #[] 5)).grown hg6' (by simp) (fun g hg => by injection hg with hg; omega); have HO6 := Lib.hid ho6; have HG6 := Lib.hid hb6; have HB6 := Lib.hid (nextB hb6 HB5.out); have hs6 := hb6.size; clear hg6 hv6 ho6 hb6 hg6')
      | (at_builtin; refine wpList_append_rd _ rfl (.tmp 64) (.tmp 65) 22 rfl w5.heap.size 5 (.int .u8 0) 1 Try.underlying22 Try.inf5 rfl _ _ _ (by rfl) HO6.out _ (by rfl) _ _ (HA.out.below HB6.out) (bv_one la) HX2.out (by omega) (by omega) ?_; intro v7 w7 ho7 hg7 hv7; rw [List.nil_append, ← bv_append] at ho7; have hb7 := HG6.out.grown hg7 (by omega) (fun g hg => (HO6.out.lt g hg).1); have HO7 := Lib.hid ho7; have HB7 := Lib.hid (nextB hb7 HB5.out); obtain ⟨A7, c7, hv7', _, _, _⟩ := id (RdV.own ho7); rw [bv_length, List.length_append] at hv7'; clear hg7 hv7 ho7 hb7; subst hv7'))
    have hp2 := pack_any _ (la ++ la) (by rw [List.length_append]; omega) w7 (RdV.own HO7.out)
    have HP2 := Lib.hid hp2
    have HRT := Lib.hid (RdV.own HO7.out)
    clear hp2
    refine HP2.out.mono ?_
    rintro e w8 ⟨r8, p8, rfl, hrp8, ⟨hpl8, n8, hwk8⟩, htw, _, hb8⟩
    have hp8 : (p8.length : Int) ≤ (la.length : Int) + 8 := by
      have h1 := htw la.length (by omega) (by rw [List.length_append]; omega) (by simp)
      have v1 : (Pu.varL (2 * la.length)).length ≤ 2 := varF_short 1 10 _ (by omega)
      have v2 : (Pu.varL (2 * la.length + 1)).length ≤ 2 := varF_short 1 10 _ (by omega)
      have v3 : (Pu.varL la.length).length ≤ 2 := varF_short 1 10 _ (by omega)
      rw [List.take_left, List.length_cons, List.length_append] at h1
      have h2 : (Lz.litT la).length ≤ 2 + la.length := by
        unfold Lz.litT
        split
        · simp
        · rw [List.length_append]; omega
      have h3 : (Lz.copT la.length la.length).length ≤ 4 := by
        unfold Lz.copT
        rw [List.length_append]
        omega
      omega
    rw [List.length_append] at hwk8
    obtain ⟨A8, c8', rfl, _, _, _⟩ := id hrp8
    rw [bv_length] at hrp8 ⊢
    have hB8 := nextB hb8 HB7.out
    have hs78 := hb8.size
    have hu := unpack_any (.slice A8 p8.length c8') p8 (by omega) ((la.length : Int) + (la.length : Int)) (by omega) (by omega) w8 hrp8
    rw [show ((la.length : Int) + (la.length : Int)).toNat = la.length + la.length from by omega] at hu
    have HU2 := Lib.hid hu
    have HRT8 := Lib.hid (HRT.out.below hb8)
    have HWK8 := Lib.hid hwk8
    have HB8 := Lib.hid hB8
    clear hu hrp8 hwk8 hb8 hB8 hpl8 htw x1 x2
    go_wp2_with fail
    refine HU2.out.mono ?_
    rintro e w9 ⟨o, n9, ev, r9, hwk9, rfl, hrv9, hlen9, hb9⟩
    obtain ⟨rfl, rfl, rfl⟩ := Lz.Walks.same HWK8.out hwk9
    rw [if_pos rfl] at hrv9
    have x1 := run_conv_rd (P := Try.prog) w9 22 9 5 Try.underlying22 Try.underlying5 Try.underlying9 _ _ _ hrv9
    have x2 := run_conv_rd (P := Try.prog) w9 22 9 5 Try.underlying22 Try.underlying5 Try.underlying9 _ _ _ (RdV.below' HRT8.out hb9 hs78)
    have HB9 := Lib.hid (nextB hb9 HB8.out)
    clear hwk9 hrv9 hb9 hlen9
    go_wp2
    all_goals go_ret
    all_goals exact ⟨rfl, HB9.out⟩

set_option maxRecDepth 100000 in
theorem lifted (os : Os) (started : os.Started) (H : Type) (enc : TypeId × Value → H) :
    ReturnsInHanded {} Try.checked os 5 .any (Rows.lzShortSpec.pre6 enc Try.prog Try.f5 Rows.lzShortRow.domain false) (Rows.lzShortSpec.post enc Try.prog Try.f5 false true false false) := by
  refine returnsInHanded_of_change (C := Try.checked) own started (by kernel_rfl) Try.func5
    (ChangeSpec.witness6 (enc := enc) (C := Try.checked) false ⟨#[], #[.int .u8 0, .int .i64 0, .slice none 0 0], []⟩ 8 (by kernel_rfl) (by kernel_rfl) (by kernel_rfl) (by kernel_rfl)) ?_
  intro W base args ds gs before hval0 hW hcnd _
  have hval : ∀ (j : Nat) t v, Try.f5.params[j]? = some t → args[j]? = some v → Value.okWide Try.prog W .any base t v := hval0
  have hW' := hW
  obtain ⟨p, q, hA0, hV, rfl, hfz, hnd⟩ := hW
  have hA : DataW.TrodAll enc Try.prog W 0 (fun _ => true) true Try.f5.params.toList args.toList ds p := hA0
  rw [Try.params5] at hA hval
  obtain ⟨v0, vs0, d0, ds0, p0, q0, hargs, rfl, rfl, h0, r0⟩ := trodAll_cons hA
  obtain ⟨v1, vs1, d1, ds1, p1, q1, rfl, rfl, rfl, h1, r1⟩ := trodAll_cons r0
  obtain ⟨v2, vs2, d2, ds2, p2, q2, rfl, rfl, rfl, h2, r2⟩ := trodAll_cons r1
  obtain ⟨rfl, rfl, rfl⟩ := trodAll_nil r2
  obtain rfl : args = #[v0, v1, v2] := by cases args; simp_all
  obtain ⟨rfl, rfl⟩ := trodVars_none hV
  obtain ⟨a0, rfl, rfl, rfl, w0⟩ := open_int Try.underlying5 (hval 0 5 v0 rfl rfl) h0
  obtain ⟨a1, rfl, rfl, rfl, w1⟩ := open_int Try.underlying3 (hval 1 3 v1 rfl rfl) h1
  obtain ⟨l2, b2⟩ := open_bytes Try.underlying22 Try.underlying5 (by kernel_rfl) (hval 2 22 v2 rfl rfl) h2
  clear hA0 hval0
  refine (walk a0 w0 a1 w1 v2 l2 b2 W rfl).mono fun e W' ⟨he, hb⟩ => ?_
  subst he
  exact ⟨_, rfl, law_post hW' rfl laid (by kernel_rfl) rfl Try.underlying4 rfl hb⟩

theorem over : Rows.lzShortRow.holds Try.pinned (OpenSpec.ofChange Rows.lzShortSpec) :=
  OpenClaim.holds_of_wide 5 Try.f5 rfl rfl rfl rfl rfl rfl rfl ⟨rfl, rfl, rfl, rfl, rfl⟩ rfl rfl rfl rfl rfl (by kernel_rfl) Try.func5 (by kernel_rfl)
    (of_decide_eq_true (by kernel_rfl)) (by unfold Func.isWrapper; first | (rw [if_pos (by decide +kernel)]; kernel_rfl) | (rw [if_neg (by decide +kernel)]; exact ⟨rfl, rfl⟩))
    (fun os started H enc _ => lifted os started H enc)

theorem proved : Rows.LzShortSaid :=
  over
end Go.Proofs.Ytkgmelhigjjbbaa.lawLzShort
