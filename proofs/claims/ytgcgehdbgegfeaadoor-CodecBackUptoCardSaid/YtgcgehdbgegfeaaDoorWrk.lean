/- Writers of records: the program's Writer and the document's rows. Conditions: none of its own. -/
import Derived.Test.YtgcgehdbgegfeaaDoorCdw
import Derived.Test.YtgcgehdbgegfeaaDoorRdk
namespace Go.Proofs.YtgcgehdbgegfeaaDoor
open Go.ChangeShapes Go.WideShapes Go.ChangeAt Go.RowKit
set_option linter.unusedSimpArgs false
set_option linter.unusedVariables false
theorem rzig_any (a : Int) (h0 : -9223372036854775808 ≤ a) (h1 : a ≤ 9223372036854775807) (w : World) : Calls Tryd.prog 60 #[.int .i64 a] w fun e w' => e = .returned (.int .u64 (Pu.zig a)) ∧ w = w' := by
  go_enter Tryd.func60, Tryd.ntmps60
  by_cases hn : a < 0 <;> (go_wp2; go_ret; refine ⟨ret_int ?_, rfl⟩; unfold Pu.zig; simp [IntKind.wrap_u64, hn]; omega)
set_option maxRecDepth 100000 in
set_option maxHeartbeats 1000000 in
theorem rvar_any (vb : Value) (l : List UInt8) (v : Nat) (hv : v < 18446744073709551616) (hl : l.length < 4294967296) (w : World) (base : Nat) (hB : base ≤ w.heap.size) (hown0 : w.ownsRow base 5 1 vb l.length (bv l)) :
    Calls Tryd.prog 59 #[vb, .int .u64 v] w (GivesO base w vb (l ++ Pu.varL v)) := by
  go_enter Tryd.func59, Tryd.ntmps59
  go_wp2
  go_loopw [0, 1] (fun o u wr => VarRel base w wr l v o u ∧ Only w wr vb o) (fun _ u _ => (intOf u).toNat)
  case atStart => exact ⟨⟨0, v, [], by omega, rfl, rfl, by simpa using hv, hv, rfl, by simpa using hown0, Below.refl _ _⟩, Only.refl _ _⟩
  case round =>
    obtain ⟨⟨k, x, pre, hk, hpk, hpre, hx, hx64, rfl, hown, hbel⟩, honly⟩ := hrel
    have hsz := hbel.size
    have HK := Lib.hid hpk
    clear hpk
    by_cases hlt : 128 ≤ x
    · obtain ⟨hk8, hx2⟩ := Pu.var_room hk hx hlt
      have HX2 := Lib.hid hx2
      clear hx2 hx
      go_wp2_with (at_builtin; refine wpList_append_rd _ rfl _ _ 23 rfl base 5 (.int .u8 0) 1 Tryd.underlying23 Tryd.inf5 rfl _ _ _ rfl (hown.alloc _) _ rfl _ _ (RdV.one _ _ _) (by intro u hu; simp at hu; subst hu; rfl) (by simp; omega) (by omega) (by simp; omega) ?_; intro o' w1 ho1' hg1' hw1')
      have hps := own_step (b := UInt8.ofNat (x % 128 + 128)) hbel (by omega) hown _ ho1' hg1' rfl (by simp; omega)
      go_roundw
      case rel => exact ⟨⟨k + 1, x / 128, pre ++ [UInt8.ofNat (x % 128 + 128)], by omega, by simp [HK.out], by have := hpre.out; rw [Pu.varF_go hk hlt] at this; simpa [Hid] using this, HX2.out, by omega, by simp, by simpa [Nat.add_assoc] using hps.1, hps.2⟩, honly.step hg1' hw1'⟩
      case measure => simp [intOf]; omega
    · have hend := Pu.varF_end hk (show x < 128 by omega)
      have HE := Lib.hid hend
      clear hend hx
      go_wp2_with (at_builtin; refine wpList_append_rd _ rfl _ _ 23 rfl base 5 (.int .u8 0) 1 Tryd.underlying23 Tryd.inf5 rfl _ _ _ rfl (hown.alloc _) _ rfl _ _ (RdV.one _ _ _) (by intro u hu; simp at hu; subst hu; rfl) (by simp; omega) (by omega) (by simp; omega) ?_; intro o' w1 ho1' hg1' hw1'; have honly2 := honly.step hg1' hw1'; obtain ⟨ho3, hb3⟩ := own_step (b := UInt8.ofNat x) hbel (by omega) hown _ ho1' hg1' rfl (by simp; omega); clear ho1' hg1' hw1')
      go_ret
      refine ⟨_, rfl, ?_, hb3, honly2⟩
      have e : (l ++ pre) ++ [UInt8.ofNat x] = l ++ Pu.varL v := by
        have := hpre.out
        rw [HE.out] at this
        rw [List.append_assoc, this]
      rw [e] at ho3
      have e2 : (l ++ Pu.varL v).length = l.length + k + 1 := by rw [← e]; simp [HK.out]; omega
      rw [e2]
      exact ho3
theorem only_trans {w a b : World} {v o o' : Value} (h : Only w a v o) (k : Only a b o o') : Only w b v o' := by
  obtain ⟨h1, h2⟩ := h
  obtain ⟨k1, k2⟩ := k
  have hs := h1.size
  refine ⟨⟨k1.os.trans h1.os, k1.tape.trans h1.tape, k1.output.trans h1.output, Nat.le_trans h1.size k1.size, fun i hi hne => (k1.block i (by omega) (fun e => ?_)).trans (h1.block i hi hne)⟩, ?_⟩
  · rcases h2 with h2 | ⟨g, h2, hg⟩
    · exact hne (e.trans h2)
    · rw [h2] at e; injection e with e; omega
  · rcases k2 with k2 | ⟨g, k2, hg⟩
    · rw [k2]; exact h2
    · exact Or.inr ⟨g, k2, by omega⟩
/-- a number as a record lays it -/
def encI (z : Int) : List UInt8 := Pu.varL (Pu.zig z).toNat
theorem encI_length (z : Int) : (encI z).length ≤ 10 := Pu.varL_length _
theorem encI_pos (z : Int) : 0 < (encI z).length := by unfold encI Pu.varL Pu.varF; split <;> simp
def encL (zs : List Int) : List UInt8 := zs.flatMap encI
theorem encL_length (zs : List Int) : (encL zs).length ≤ 10 * zs.length := by
  induction zs with
  | nil => simp [encL]
  | cons z r ih => simp only [encL, List.flatMap_cons, List.length_append, List.length_cons] at ih ⊢; have := encI_length z; omega
set_option maxRecDepth 100000 in
set_option maxHeartbeats 1000000 in
theorem eint_any (w : World) (base : Nat) (hB : base ≤ w.heap.size) (vb : Value) (l : List UInt8) (z : Int) (z0 : -9223372036854775808 ≤ z) (z1 : z ≤ 9223372036854775807) (hl : l.length < 4294967296) (ho : w.ownsRow base 5 1 vb l.length (bv l)) :
    Calls Tryd.prog 33 #[vb, .int .i64 z] w (GivesO base w vb (l ++ encI z)) := by
  have zl := Pu.zig_lo z
  have zh := Pu.zig_hi z z0 z1
  have hz := rzig_any z z0 z1 w
  unfold encI
  obtain ⟨u, hu⟩ := Int.eq_ofNat_of_zero_le zl
  rw [hu] at hz zh ⊢
  rw [Int.toNat_natCast]
  have hv := rvar_any vb l u (by omega) hl w base hB ho
  have HV := Lib.hid hv
  have HZ := Lib.hid hz
  clear hu hv hz ho zl
  go_enter Tryd.func33, Tryd.ntmps33
  go_wp2_with fail
  refine HZ.out.mono ?_
  rintro e w1 ⟨rfl, rfl⟩
  go_wp2_with fail
  refine HV.out.mono ?_
  rintro e w1 ⟨r, rfl, h1, h2, h3⟩
  have HR := Lib.hid (show GivesO base w vb (l ++ Pu.varL u) (.returned r) w1 from ⟨r, rfl, h1, h2, h3⟩)
  clear h1 h2 h3
  go_wp2
  go_ret
  exact HR.out
set_option maxRecDepth 100000 in
set_option maxHeartbeats 4000000 in
theorem elist_any (w : World) (base C : Nat) (hB : base ≤ w.heap.size) (vb : Value) (l : List UInt8) (v : Value) (zs : List Int) (hz : ∀ z ∈ zs, -9223372036854775808 ≤ z ∧ z ≤ 9223372036854775807) (hr : RdV w C v (iv .i64 zs)) (hC : C ≤ base) (hzl : zs.length ≤ 1000000) (hl : l.length < 1073741824) (ho : w.ownsRow base 5 1 vb l.length (bv l)) :
    Calls Tryd.prog 36 #[vb, v] w (GivesO base w vb (l ++ encI zs.length ++ encL zs)) := by
  obtain ⟨A, c, rfl, hc1, hc2, hc3⟩ := id hr
  simp only [iv_length] at hc1 hc3 hr ⊢
  clear hc3
  unfold maxLen at hc2
  have h1 := eint_any w base hB vb l zs.length (by omega) (by omega) (by omega) ho
  have hen := encI_length zs.length
  have H1 := Lib.hid h1
  have HR := Lib.hid hr
  clear h1 hr
  go_enter Tryd.func36, Tryd.ntmps36
  go_wp2_with fail
  refine H1.out.mono ?_
  rintro e w1 ⟨r, rfl, h1, h2, h3⟩
  have hs1 := h2.size
  have O1 := Lib.hid h1
  have B1 := Lib.hid h2
  have Y1 := Lib.hid h3
  clear h1 h2 h3
  go_wp2_with fail
  go_loopw [0, 5] (fun b i wr => ∃ j : Nat, j ≤ zs.length ∧ i = .int .i64 j ∧ GivesO base w vb (l ++ encI zs.length ++ encL (zs.take j)) (.returned b) wr) (fun _ i _ => zs.length - (intOf i).toNat)
  case atStart => exact ⟨0, by omega, rfl, r, rfl, by simpa [encL] using O1.out, B1.out, Y1.out⟩
  case round =>
    obtain ⟨j, hj, rfl, r2, e2, ho2, hb2, hy2⟩ := hrel
    obtain rfl : _ = r2 := by injection e2
    clear e2
    have hs2 := hb2.size
    by_cases hlt : j < zs.length
    · have hget : (iv .i64 zs)[j]? = some (.int .i64 zs[j]) := by rw [iv_get, List.getElem?_eq_getElem hlt]; rfl
      obtain ⟨b1, o1, rfl, hb1, k1⟩ := (HR.out.below (hb2.mono hC)).get hget
      have hzz := hz zs[j] (List.getElem_mem hlt)
      have hel := encL_length (zs.take j)
      rw [List.length_take, Nat.min_eq_left hj] at hel
      have hE : encL (zs.take (j + 1)) = encL (zs.take j) ++ encI zs[j] := by
        unfold encL; rw [List.take_succ_eq_append_getElem hlt, List.flatMap_append]; simp
      have h4 := eint_any wr base (by omega) _ _ zs[j] hzz.1 hzz.2 (by simp only [List.length_append]; omega) ho2
      have H4 := Lib.hid h4
      have HEE := Lib.hid hE
      have B2 := Lib.hid hb2
      have Y2 := Lib.hid hy2
      clear h4 hE hb2 hy2 ho2 hget hzz
      generalize zs[j] = z at *
      go_wp2_with fail
      refine H4.out.mono ?_
      rintro e w3 ⟨r3, rfl, h5, h6, h7⟩
      have HR3 := Lib.hid (show GivesO base w vb (l ++ encI zs.length ++ encL (zs.take (j + 1))) (.returned r3) w3 from ⟨r3, rfl, by rw [HEE.out, ← List.append_assoc]; exact h5, B2.out.trans h6, only_trans Y2.out h7⟩)
      clear h5 h6 h7
      go_wp2
      go_roundw
      case rel => exact ⟨j + 1, by omega, by go_num, HR3.out⟩
      case measure => simp [intOf]; omega
    · obtain rfl : j = zs.length := by omega
      rw [List.take_length] at ho2
      have HR3 := Lib.hid (show GivesO base w vb (l ++ encI zs.length ++ encL zs) (.returned _) wr from ⟨_, rfl, ho2, hb2, hy2⟩)
      clear ho2 hb2 hy2
      go_wp2
      go_ret
      exact HR3.out
set_option maxRecDepth 100000 in
set_option maxHeartbeats 4000000 in
theorem ebytes_any (w : World) (base C : Nat) (hB : base ≤ w.heap.size) (vb : Value) (l : List UInt8) (v : Value) (m : List UInt8) (hr : RdV w C v (bv m)) (hC : C ≤ base) (hml : m.length < 1073741824) (hl : l.length < 1073741824) (ho : w.ownsRow base 5 1 vb l.length (bv l)) :
    Calls Tryd.prog 34 #[vb, v] w (GivesO base w vb (l ++ encI m.length ++ m)) := by
  obtain ⟨A, c, rfl, hc1, hc2, hc3⟩ := id hr
  simp only [bv_length] at hc1 hc3 hr ⊢
  clear hc3
  unfold maxLen at hc2
  have h1 := eint_any w base hB vb l m.length (by omega) (by omega) (by omega) ho
  have hen := encI_length m.length
  have H1 := Lib.hid h1
  have HR := Lib.hid hr
  clear h1 hr
  generalize encI m.length = q at *
  go_enter Tryd.func34, Tryd.ntmps34
  go_wp2_with fail
  refine H1.out.mono ?_
  rintro e w1 ⟨r, rfl, h1, h2, h3⟩
  have hs1 := h2.size
  have O1 := Lib.hid h1
  have B1 := Lib.hid h2
  have Y1 := Lib.hid h3
  clear h1 h2 h3
  go_wp2_with (at_builtin; refine wpList_append_rd _ rfl (.tmp 8) (.tmp 9) 23 rfl base 5 (.int .u8 0) 1 Tryd.underlying23 Tryd.inf5 rfl r _ _ rfl O1.out _ rfl _ _ (HR.out.below (B1.out.mono hC)) (bv_one _) (by (rw [bv_length, List.length_append]; try omega)) (by omega) (by first | omega | (rw [bv_length]; omega)) ?_; intro v3 w3 ho3 hg3 hv3)
  go_ret
  refine ⟨v3, rfl, ?_, B1.out.grown hg3 (by omega) (fun g hg => (O1.out.lt g hg).1), only_trans Y1.out ⟨hg3, hv3.imp id (fun e => ⟨_, e, Nat.le_refl _⟩)⟩⟩
  rw [bv_append (l ++ q) m, show (l ++ q ++ m).length = (l ++ q).length + (bv m).length from by rw [bv_length]; exact List.length_append]
  exact ho3
set_option maxRecDepth 100000 in
set_option maxHeartbeats 4000000 in
theorem wbytes_all (w : World) (B : Nat) (O : Nat → Prop) (k : Nat) (l : List UInt8) (A : Option Addr) (c : Nat) (m : List UInt8) (C : Nat) (hr : ∀ w1, Below B w w1 → Kept O k w w1 → RdV w1 C (.slice A m.length c) (bv m)) (hml : m.length < 1073741824) (h : Wr B O w k l) (hl : l.length < 1000000000) :
    Calls Tryd.prog 31 #[.pointer (some ⟨k, 0, none⟩), .slice A m.length c] w (WrP B O w k (l ++ encI m.length ++ m)) := by
  have h1 := wint_any w B O k l m.length (by omega) (by omega) h (by omega)
  have HL : l ++ Pu.varL (Pu.zig (m.length : Int)).toNat = l ++ encI m.length := rfl
  rw [HL] at h1
  clear HL
  have hvl := encI_length m.length
  have hqp := encI_pos m.length
  generalize hq : encI (m.length : Int) = q at *
  clear hq
  have H1 := Lib.hid h1
  have HR := Lib.hid hr
  clear h1 h hr
  go_enter Tryd.func31, Tryd.ntmps31
  go_wp2_with fail
  refine H1.out.mono ?_
  rintro e w1 ⟨rfl, ⟨v, hBk, hx, ho, hne, hvT⟩, hb1, hkp⟩
  have d1 := hx.cell
  have f1 := hx.free
  have hlt := hx.lt
  have KP := Lib.hid hkp
  have VT := Lib.hid hvT
  have r1 := HR.out w1 hb1 hkp
  clear hkp hvT
  have R1 := Lib.hid r1
  have HO := Lib.hid ho
  have HX := Lib.hid hx
  have HNE := Lib.hid hne
  clear ho hx hne r1
  go_wp2_with (at_builtin; refine wpList_append_rd _ rfl _ _ 23 rfl B 5 (.int .u8 0) 1 Tryd.underlying23 Tryd.inf5 rfl v _ _ rfl HO.out _ rfl _ _ R1.out (bv_one _) (by rw [bv_length, List.length_append]; omega) (by omega) (by omega) ?_; intro v3 w3 ho3 hg3 hv3; obtain ⟨g3, cap3, rfl⟩ := Joins.ownsRow_form ho3 (by rw [bv_length, List.length_append]; omega); have hx3 : WBox w3 k v := HX.out.grown hg3 (fun e => HNE.out e.symm); have d4 := hx3.cell; have f4 := hx3.free; have hB3 : Below B w w3 := hb1.grown hg3 (by omega) (fun g hg => (HO.out.lt g hg).1))
  go_ret
  have hne3 : (Value.slice (some ⟨g3, 0, none⟩) ((l ++ q).length + (bv m).length) cap3).ownBlock ≠ some k := by
    intro e
    rcases hv3 with h | h
    · rw [h] at e; exact HNE.out e
    · rw [h] at e; injection e with e; omega
  have hO : w3.ownsRow B 5 1 (.slice (some ⟨g3, 0, none⟩) ((l ++ q).length + (bv m).length) cap3) (l ++ q ++ m).length (bv (l ++ q ++ m)) := by
    have eL : (l ++ q ++ m).length = (l ++ q).length + (bv m).length := by rw [bv_length]; exact List.length_append
    rw [eL, bv_append (l ++ q)]; exact ho3
  have hfin : WrP B O w k (l ++ q ++ m) (.returned (.pointer (some ⟨k, 0, none⟩))) (w3.setCell ⟨k, 0, none⟩ (.slice (some ⟨g3, 0, none⟩) ((l ++ q).length + (bv m).length) cap3)) :=
    ⟨rfl, ⟨_, hBk, hx3.set _, own_set hO k 0 hne3 _, hne3, fun g hg => by
        rcases hv3 with h | h
        · rw [h] at hg; exact VT.out g hg
        · rw [h] at hg; injection hg with hg; have := hb1.size; exact Or.inr (by omega)⟩, Below.setCell (p := ⟨k, 0, none⟩) hB3 hBk _,
      fun j hj1 hj2 hj3 => (heap_setCell_other w3 ⟨k, 0, none⟩ j _ hj2).trans ((hg3.block j (by have := hb1.size; omega) (fun e => by
        rcases VT.out j e.symm with h | h
        · exact hj3 h
        · omega)).trans (KP.out j hj1 hj2 hj3))⟩
  have e7 : (l ++ q).length = l.length + q.length := List.length_append
  rw [e7] at hfin
  exact hfin
theorem wr_trans {B : Nat} {O : Nat → Prop} {w w1 w2 : World} {k : Nat} {l1 l2 : List UInt8} {e1 e2 : Ending} (h : WrP B O w k l1 e1 w1) (g : WrP B (fun g => O g ∨ w.heap.size ≤ g) w1 k l2 e2 w2) : WrP B O w k l2 e2 w2 := by
  obtain ⟨_, _, hb, hk⟩ := h
  obtain ⟨g1, ⟨v, a1, a2, a3, a4, a5⟩, gb, gk⟩ := g
  have hs := hb.size
  refine ⟨g1, ⟨v, a1, a2, a3, a4, fun x hx => ?_⟩, hb.trans gb, fun j hj hjk hO => (gk j (by omega) hjk (fun x => ?_)).trans (hk j hj hjk hO)⟩
  · rcases a5 x hx with h | h
    · exact h
    · exact Or.inr (by omega)
  · rcases x with x | x
    · exact hO x
    · omega
set_option maxRecDepth 100000 in
set_option maxHeartbeats 4000000 in
theorem wlist_any (w : World) (B : Nat) (O : Nat → Prop) (k : Nat) (l : List UInt8) (v : Value) (zs : List Int) (C : Nat) (hz : ∀ z ∈ zs, -9223372036854775808 ≤ z ∧ z ≤ 9223372036854775807) (hr : ∀ w1, Below B w w1 → Kept O k w w1 → RdV w1 C v (iv .i64 zs)) (hzl : zs.length ≤ 1000000) (h : Wr B O w k l) (hl : l.length < 1000000000) :
    Calls Tryd.prog 35 #[.pointer (some ⟨k, 0, none⟩), v] w (WrP B O w k (l ++ encI zs.length ++ encL zs)) := by
  obtain ⟨A, c, rfl, hc1, hc2, hc3⟩ := hr w (Below.refl _ _) (fun _ _ _ _ => rfl)
  simp only [iv_length] at hc1 hc3 hr ⊢
  clear hc3
  unfold maxLen at hc2
  have h1 := wint_any w B O k l zs.length (by omega) (by omega) h (by omega)
  have hen := encI_length zs.length
  have HL : l ++ Pu.varL (Pu.zig (zs.length : Int)).toNat = l ++ encI zs.length := rfl
  rw [HL] at h1
  clear HL
  have H1 := Lib.hid h1
  have HR := Lib.hid hr
  clear h1 hr h
  go_enter Tryd.func35, Tryd.ntmps35
  go_wp2_with fail
  refine H1.out.mono ?_
  rintro e w1 ⟨rfl, h1, h2, h3⟩
  have hs1 := h2.size
  have O1 := Lib.hid h1
  have B1 := Lib.hid h2
  have Y1 := Lib.hid h3
  clear h1 h2 h3
  go_wp2_with fail
  go_loopw [13] (fun i wr => ∃ j : Nat, j ≤ zs.length ∧ i = .int .i64 j ∧ WrP B O w k (l ++ encI zs.length ++ encL (zs.take j)) (.returned (.pointer (some ⟨k, 0, none⟩))) wr) (fun i _ => zs.length - (intOf i).toNat)
  case atStart => exact ⟨0, by omega, rfl, rfl, by simpa [encL] using O1.out, B1.out, Y1.out⟩
  case round =>
    obtain ⟨j, hj, rfl, hw⟩ := hrel
    by_cases hlt : j < zs.length
    · have hget : (iv .i64 zs)[j]? = some (.int .i64 zs[j]) := by rw [iv_get, List.getElem?_eq_getElem hlt]; rfl
      obtain ⟨b1, o1, rfl, hb1, k1⟩ := (HR.out wr hw.2.2.1 hw.2.2.2).get hget
      have hzz := hz zs[j] (List.getElem_mem hlt)
      have hel := encL_length (zs.take j)
      rw [List.length_take, Nat.min_eq_left hj] at hel
      have hE : encL (zs.take (j + 1)) = encL (zs.take j) ++ encI zs[j] := by
        unfold encL; rw [List.take_succ_eq_append_getElem hlt, List.flatMap_append]; simp
      have h4 := wint_any wr B _ k _ zs[j] hzz.1 hzz.2 hw.2.1 (by simp only [List.length_append]; omega)
      have H4 := Lib.hid h4
      have HEE := Lib.hid hE
      have HW := Lib.hid hw
      clear h4 hE hw hget hzz
      generalize zs[j] = z at *
      go_wp2_with fail
      refine H4.out.mono ?_
      rintro e w3 hw3
      have HR3 := Lib.hid (wr_trans HW.out hw3)
      obtain ⟨rfl, _⟩ := hw3
      go_wp2
      go_roundw
      case rel => exact ⟨j + 1, by omega, by go_num, by rw [HEE.out, ← List.append_assoc]; exact HR3.out⟩
      case measure => simp [intOf]; omega
    · obtain rfl : j = zs.length := by omega
      rw [List.take_length] at hw
      have HW := Lib.hid hw
      clear hw
      go_wp2
      go_ret
      exact HW.out
set_option maxRecDepth 100000 in
set_option maxHeartbeats 4000000 in
theorem ints_any (w : World) (B : Nat) (v u : Value) (zs : List Int) (hv : RdV w B v (iv .i64 zs)) (hu : RdV w B u (iv .i64 zs)) (hl : zs.length ≤ 1000000) :
    Calls Tryd.prog 17 #[v, u] w fun e w' => e = .returned (.bool true) ∧ ∃ q, w' = w.drewN q := by
  have hvv := hv
  have huu := hu
  obtain ⟨A, c, rfl, hc1, hc2, hc3⟩ := hv
  obtain ⟨A2, c2, rfl, hd1, hd2, hd3⟩ := hu
  simp only [iv_length] at hc1 hc3 hd1 hd3 hvv huu ⊢
  clear hc3 hd3
  unfold maxLen at hc2 hd2
  have HV := Lib.hid hvv
  have HU := Lib.hid huu
  clear hvv huu
  go_enter Tryd.func17, Tryd.ntmps17
  go_wp2_with fail
  go_loopw [5] (fun i wr => ∃ j q : Nat, j ≤ zs.length ∧ i = .int .i64 j ∧ wr = w.drewN q) (fun i _ => zs.length - (intOf i).toNat)
  case atStart => exact ⟨0, 0, by omega, rfl, rfl⟩
  case round =>
    obtain ⟨j, q, hj, rfl, rfl⟩ := hrel
    by_cases hlt : j < zs.length
    · have hget : (iv .i64 zs)[j]? = some (.int .i64 zs[j]) := by rw [iv_get, List.getElem?_eq_getElem hlt]; rfl
      obtain ⟨b1, o1, rfl, hb1, k1⟩ := HV.out.get hget
      obtain ⟨b2, o2, rfl, hb2, k2⟩ := HU.out.get hget
      generalize zs[j] = z at *
      clear hget
      go_wp2
      go_quiet (fail)
      go_wp2
      go_roundw
      case rel => exact ⟨j + 1, _, by omega, by go_num, rfl⟩
      case measure => simp [intOf]; omega
    · obtain rfl : j = zs.length := by omega
      go_wp2
      go_ret
      exact ⟨rfl, q, rfl⟩
end Go.Proofs.YtgcgehdbgegfeaaDoor
