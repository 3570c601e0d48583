/- The disk: the chapter's example. Conditions: none. -/
import Derived.Test.YtldmamcalfmedaaDsz
import Derived.Test.YtldmamcalfmedaaDsn
namespace Go.Proofs.Ytldmamcalfmedaa
open Go.ChangeShapes Go.WideShapes Go.ChangeAt Go.RowKit Go.Maps
set_option linter.unusedSimpArgs false
set_option linter.unusedVariables false
/-- a row of 64 bytes with a first one -/
def row64 (x : UInt8) : List UInt8 := x :: List.replicate 63 0
theorem row64_bv (x : UInt8) : bv (row64 x) = (List.replicate 64 (Value.int .u8 0)).set 0 (.int .u8 (x.toNat : Int)) := by
  unfold row64 bv
  simp [List.replicate]
theorem RdX.first {M : Nat → Prop} {w : World} {v : Value} {x : UInt8} {r : List UInt8} (h : RdX M w v (bv (x :: r))) : ∃ b off c, v = .slice (some ⟨b, off, none⟩) (r.length + 1) c ∧ w.cell? ⟨b, off, none⟩ = some (.int .u8 (x.toNat : Int)) := by
  obtain ⟨A, c, rfl, h1, h2, h3⟩ := h
  have hl : (bv (x :: r)).length = r.length + 1 := by rw [bv_length]; rfl
  obtain ⟨b, off, rfl, hb, hM, hc⟩ := h3 (by rw [hl]; omega)
  refine ⟨b, off, c, by rw [hl], ?_⟩
  have := hc 0 (.int .u8 (x.toNat : Int)) (by simp [bv])
  simpa using this
theorem RdX.one {M : Nat → Prop} (w : World) (x : Value) (t : TypeId) (hM : ¬ M w.heap.size) : RdX M (w.alloc (.cells #[x] t)) (.slice (some ⟨w.heap.size, 0, none⟩) 1 1) [x] := by
  refine ⟨_, 1, rfl, by simp, by unfold maxLen; omega, fun _ => ⟨w.heap.size, 0, rfl, by simp, hM, fun j u hu => ?_⟩⟩
  have hj : j = 0 := by
    have := (List.getElem?_eq_some_iff.1 hu).1
    simp at this
    exact this
  subst hj
  rw [cell_of_row _ w.heap.size 0 _ _ _ (heap_alloc_new w (.cells #[x] t))]
  simpa using hu
theorem RdX.first_at {M : Nat → Prop} {w : World} {b off n c : Nat} {x : UInt8} {r : List UInt8} (h : RdX M w (.slice (some ⟨b, off, none⟩) n c) (bv (x :: r))) : w.cell? ⟨b, off, none⟩ = some (.int .u8 (x.toNat : Int)) := by
  obtain ⟨b', off', c', e, hc⟩ := h.first
  injection e with e1 _ _
  injection e1 with e1
  injection e1 with a1 a2
  subst a1 a2
  exact hc
set_option maxRecDepth 100000 in
set_option maxHeartbeats 4000000 in
theorem known_any (w : World) : Calls Try.prog 8 #[] w fun e w' => e = .returned (.bool true) ∧ Below w.heap.size w w' := by
  have HN := Lib.hid (dnew_ok 2 64 (by omega) (by omega) w)
  go_enter Try.func8, Try.ntmps8
  go_wp2_with fail
  refine HN.out.mono ?_
  rintro e w1 ⟨db, kb, mb, hd1, hd2, hd3, rfl, hD, hB1⟩
  have hlt := hD.lt
  have hz1 := hB1.size
  have HD := Lib.hid hD
  have HB1 := Lib.hid hB1
  clear hD hB1
  go_upto_region 4 with (fail)
  refine wp_region_lit ?_
  refine wpList_make_rd _ rfl _ _ 32 rfl w1.heap.size 5 (.int .u8 0) 1 Try.underlying32 inf8 rfl .i64 .i64 64 64 _ _ rfl rfl rfl rfl (Nat.le_refl _) (by omega) (by unfold maxLen; omega) (Nat.le_refl _) ?_
  intro w2 ho2 hg2
  refine wpList_plain rfl fun K1 hK1 => ?_
  go_simp
  refine hK1 _ _ ?_
  clear hK1 K1
  refine wpList_nil ?_
  have hb2 : Below w1.heap.size w1 w2 := (Below.refl _ _).grown hg2 (Nat.le_refl _) (by intro g h; cases h)
  have a0 := ho2.cellAt 0 (by omega)
  have a0f := ho2.frozenAt 0
  have ho3 := (ho2.stored 0 (.int .u8 1)).1
  have hb3 := hb2.setCell (p := ⟨w1.heap.size, 0, none⟩) (Nat.le_refl _) (.int .u8 1)
  have a0' : w2.cell? ⟨w1.heap.size, 0, none⟩ = some (.int .u8 0) := a0
  have h64a : (List.replicate 64 (Value.int .u8 0)).set 0 (.int .u8 1) = bv (row64 1) := (row64_bv 1).symm
  rw [h64a] at ho3
  have HO3 := Lib.hid ho3
  have HB3 := Lib.hid hb3
  clear a0 hb2 ho2 hg2 ho3 hb3
  go_upto_region 6 with (fail)
  generalize w2.setCell ⟨w1.heap.size, 0, none⟩ (.int .u8 1) = w3 at HO3 HB3 ⊢
  refine wp_region_lit ?_
  refine wpList_make_rd _ rfl _ _ 32 rfl w3.heap.size 5 (.int .u8 0) 1 Try.underlying32 inf8 rfl .i64 .i64 64 64 _ _ rfl rfl rfl rfl (Nat.le_refl _) (by omega) (by unfold maxLen; omega) (Nat.le_refl _) ?_
  intro w4 ho4 hg4
  refine wpList_plain rfl fun K1 hK1 => ?_
  go_simp
  refine hK1 _ _ ?_
  clear hK1 K1
  refine wpList_nil ?_
  have hb4 : Below w3.heap.size w3 w4 := (Below.refl _ _).grown hg4 (Nat.le_refl _) (by intro g h; cases h)
  have b0 := ho4.cellAt 0 (by omega)
  have b0f := ho4.frozenAt 0
  have ho5 := (ho4.stored 0 (.int .u8 2)).1
  have hb5 := hb4.setCell (p := ⟨w3.heap.size, 0, none⟩) (Nat.le_refl _) (.int .u8 2)
  have b0' : w4.cell? ⟨w3.heap.size, 0, none⟩ = some (.int .u8 0) := b0
  have h64b : (List.replicate 64 (Value.int .u8 0)).set 0 (.int .u8 2) = bv (row64 2) := (row64_bv 2).symm
  rw [h64b] at ho5
  have HO5 := Lib.hid ho5
  have HB5 := Lib.hid hb5
  clear b0 hb4 ho4 hg4 ho5 hb5
  go_upto_region 8 with (fail)
  generalize w4.setCell ⟨w3.heap.size, 0, none⟩ (.int .u8 2) = w5 at HO5 HB5 ⊢
  have hz3 := HB3.out.size
  have hz5 := HB5.out.size
  have hFa : Frm (fun _ => False) w1 w3 := Frm.of_below HB3.out
  have hFb : Frm (fun _ => False) w3 w5 := Frm.of_below HB5.out
  have hD5 := HD.out.next (hFa.trans hFb)
  have hxa : RdX (OwnX (fun _ => False) db kb mb db) w5 (.slice (some ⟨w1.heap.size, 0, none⟩) 64 64) (bv (row64 1)) := (RdX.of_own2 (M := OwnX (fun _ => False) db kb mb db) HO3.out (fun j hj _ => OwnX.no (by unfold Own; omega) id)).frm hFb (fun _ h => h.elim)
  have hxb : RdX (OwnX (fun _ => False) db kb mb db) w5 (.slice (some ⟨w3.heap.size, 0, none⟩) 64 64) (bv (row64 2)) := RdX.of_own2 (M := OwnX (fun _ => False) db kb mb db) HO5.out (fun j hj _ => OwnX.no (by unfold Own; omega) id)
  have HWa := Lib.hid (write_ok db kb mb db 0 _ w5 hD5 rfl (fun h => by cases h) 0 (by show 0 < 2; omega) _ (row64 1) hxa rfl (by show 0 ≤ 1000000; omega) (by omega) (by show (0 : Int) ≤ 0 ∧ (0 : Int) ≤ 1000000000000; omega))
  have HXB := Lib.hid hxb
  have HB := Lib.hid ((HB1.out.trans (HB3.out.mono hz1)).trans (HB5.out.mono (by omega)))
  clear hFa hFb hD5 hxa hxb HO3 HO5 a0f b0f a0' b0'
  go_wp2_with fail
  refine HWa.out.mono ?_
  rintro e w6 ⟨rfl, pb6, hD6, hp6, hF6⟩
  have hxb6 := HXB.out.wrote hF6 hp6
  have hz6 := hF6.size
  have HB6 := Lib.hid (HB.out.trans (hF6.below (B := w.heap.size) (by rintro j (h | h | h | h) <;> omega) HB.out.size))
  have HWb := Lib.hid (write_ok db kb mb pb6 1 _ w6 hD6 rfl (fun h => by cases h) 0 (by show 0 < 2; omega) _ (row64 2) hxb6 rfl (by show 1 ≤ 1000000; omega) (by omega) (by show (0 : Int) ≤ 0 + 1 ∧ (0 + 1 : Int) ≤ 1000000000000; omega))
  have hpl6 : w.heap.size ≤ pb6 := by omega
  clear hD6 hp6 hF6 hxb6
  go_wp2_with fail
  refine HWb.out.mono ?_
  rintro e w7 ⟨rfl, pb7, hD7, hp7, hF7⟩
  have hz7 := hF7.size
  have hpl7 : w.heap.size ≤ pb7 := by omega
  have hsm7 := hD7.small
  have HB7 := Lib.hid (HB6.out.trans (hF7.below (B := w.heap.size) (by rintro j (h | h | h | h) <;> omega) HB6.out.size))
  have hrd7 := read_ok db kb mb pb7 _ _ w7 hD7 rfl 0 (by show 0 < 2; omega) (by show (0 : Int) ≤ 0 ∧ (0 : Int) ≤ 1000000000000; omega) (by show 2 ≤ 1000000; omega)
  have hrb7 : readB (wroteD (wroteD (newD 2 64 (List.replicate (2 * 64) 0)) 0 (row64 1)) 0 (row64 2)) 0 = row64 2 := by
    unfold readB
    rw [show (wroteD (wroteD (newD 2 64 (List.replicate (2 * 64) 0)) 0 (row64 1)) 0 (row64 2)).pend = [(0, row64 1)] ++ [(0, row64 2)] from rfl, lastP_snoc, if_pos rfl]
    rfl
  rw [hrb7] at hrd7
  have HRD := Lib.hid hrd7
  clear hD7 hF7 hp7 hrd7 hrb7
  go_wp2_with fail
  refine HRD.out.mono ?_
  rintro e w8 ⟨v8, rfl, ho8, hD8, hF8⟩
  have hz8 := hF8.size
  have hx8 : RdX (OwnX (fun _ => False) db kb mb pb7) w8 v8 (bv (row64 2)) := RdX.of_own2 ho8 (fun j hj _ => OwnX.no (by unfold Own; omega) id)
  obtain ⟨b8, off8, c8, rfl, _⟩ := hx8.first
  have hfa : Frm (fun _ => False) w8 (w8.alloc (.cells #[.bool true] 4)) := (Frm.refl _ w8).alloc _
  have hD8a := hD8.next hfa
  have hone : RdX (OwnX (fun _ => False) db kb mb pb7) (w8.alloc (.cells #[.bool true] 4)) (.slice (some ⟨w8.heap.size, 0, none⟩) 1 1) (boolV [true]) := RdX.one w8 (.bool true) 4 (OwnX.no (by unfold Own; omega) id)
  have HCU := Lib.hid (cut_any db kb mb pb7 _ _ _ hD8a _ [true] hone (by show 2 ≤ 1000000; omega))
  have HX8 := Lib.hid (hx8.frm hfa (fun _ h => h.elim))
  have HB8 := Lib.hid ((HB7.out.trans (hF8.below (B := w.heap.size) (by rintro j rfl; omega) HB7.out.size)).alloc (by omega) (.cells #[.bool true] 4))
  clear hD8 hF8 hx8 ho8 hfa hD8a hone
  go_wp2_with fail
  refine HCU.out.mono ?_
  rintro e w9 ⟨rfl, hD9, hF9⟩
  have HX9 := Lib.hid (HX8.out.frm hF9 (fun j hj => Or.inl (by unfold Own; omega)))
  have HB9 := Lib.hid (HB8.out.trans (hF9.below (B := w.heap.size) (by rintro j (h | h | h) <;> omega) HB8.out.size))
  have HRO := Lib.hid (read_off db kb mb pb7 _ _ w9 hD9 rfl 0)
  have HON := Lib.hid (on_any db kb mb pb7 _ _ w9 hD9)
  clear hD9 hF9
  go_wp2_with fail
  refine HRO.out.mono ?_
  rintro e w10 ⟨rfl, rfl⟩
  go_wp2_with fail
  refine HON.out.mono ?_
  rintro e w11 ⟨rfl, hD11, hF11⟩
  have hz11 := hF11.size
  have HX11 := Lib.hid (HX9.out.frm hF11 (fun j hj => Or.inl (Or.inl hj)))
  have HB11 := Lib.hid (HB9.out.trans (hF11.below (B := w.heap.size) (by rintro j rfl; omega) HB9.out.size))
  have hrd11 := read_ok db kb mb pb7 _ _ w11 hD11 rfl 0 (by show 0 < 2; omega) (by show (0 : Int) ≤ 0 + 1 ∧ (0 + 1 : Int) ≤ 1000000000000; omega) (by show 0 ≤ 1000000; omega)
  have hsm11 := hD11.small
  have hlt11 := hD11.lt
  have HRD11 := Lib.hid hrd11
  clear hrd11 hD11 hF11
  go_wp2_with fail
  refine HRD11.out.mono ?_
  rintro e w12 ⟨v12, rfl, ho12, hD12, hF12⟩
  have ho12' : w12.ownsRow w11.heap.size 5 1 v12 64 (bv (row64 1)) := ho12
  have hx12 : RdX (OwnX (fun _ => False) db kb mb pb7) w12 v12 (bv (row64 1)) := RdX.of_own2 ho12' (fun j hj _ => OwnX.no (by unfold Own; omega) id)
  obtain ⟨b12, off12, c12, rfl, k12⟩ := hx12.first
  have k8 := (HX11.out.frm hF12 (fun j hj => Or.inl (Or.inl hj))).first_at
  have HB12 := Lib.hid (HB11.out.trans (hF12.below (B := w.heap.size) (by rintro j rfl; omega) HB11.out.size))
  have k8' : w12.cell? ⟨b8, off8, none⟩ = some (.int .u8 2) := k8
  have k12' : w12.cell? ⟨b12, off12, none⟩ = some (.int .u8 1) := k12
  clear ho12 ho12' hx12 hD12 hF12 k8 k12
  go_wp2
  go_ret
  exact ⟨rfl, HB12.out⟩
end Go.Proofs.Ytldmamcalfmedaa
