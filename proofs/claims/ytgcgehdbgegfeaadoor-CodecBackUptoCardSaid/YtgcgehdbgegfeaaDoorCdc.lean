/- Contracts of package codec: Frame, ReadFrame. Conditions: the rows are shorter than 2^30; the table lies as the program's text lays it. -/
import Derived.Test.YtgcgehdbgegfeaaDoorCro
namespace Go.Proofs.YtgcgehdbgegfeaaDoor
open Go.ChangeShapes Go.WideShapes Go.ChangeAt Go.RowKit
set_option linter.unusedSimpArgs false
set_option linter.unusedVariables false
/-- a frame's first nine bytes, sealed; its payload, sealed -/
def headL (k : UInt8) (n : Nat) : List UInt8 := sealL (k :: Pu.putL n 4)
def frameL (k : UInt8) (p : List UInt8) : List UInt8 := headL k p.length ++ sealL p
theorem headL_length (k : UInt8) (n : Nat) : (headL k n).length = 9 := by unfold headL; rw [sealL_length, List.length_cons, Pu.putL_length]
theorem frameL_length (k : UInt8) (p : List UInt8) : (frameL k p).length = p.length + 13 := by unfold frameL; rw [List.length_append, headL_length, sealL_length]; omega
theorem own_below {w w' : World} {base : Nat} {e : TypeId} {v : Value} {n : Nat} {xs : List Value} (h : w.ownsRow base e 1 v n xs) (hb : Below w.heap.size w w') : w'.ownsRow base e 1 v n xs := by
  refine ⟨h.1, ?_⟩
  rcases h.2 with h0 | ⟨g, cap, cur, hv, hg, hh, r⟩
  · exact Or.inl h0
  · have hlt : g < w.heap.size := by
      rcases Nat.lt_or_ge g w.heap.size with h1 | h1
      · exact h1
      · rw [Array.getElem?_eq_none h1] at hh; cases hh
    exact Or.inr ⟨g, cap, cur, hv, hg, (hb.block g hlt).trans hh, r⟩
set_option maxRecDepth 100000 in
set_option maxHeartbeats 4000000 in
theorem frame_any (k : UInt8) (vb : Value) (l : List UInt8) (hl : l.length < 1073741824) (w : World) (B : Nat) (hB : B ≤ w.heap.size) (hr : RdV w B vb (bv l)) (hN : Nibs w) :
    Calls Tryd.prog 26 #[.int .u8 (k.toNat : Int), vb] w (GivesB w.heap.size w (frameL k l)) := by
  have hrr := hr
  obtain ⟨A, c, rfl, hc1, hc2, hc3⟩ := hr
  rw [bv_length] at hc1 hc3 hrr ⊢
  clear hc3
  have hb0 : Below w.heap.size w (w.alloc (.cells #[.int .u8 (k.toNat : Int)] 5)) := (Below.refl _ _).alloc (Nat.le_refl _) _
  have r0 : RdV (w.alloc (.cells #[.int .u8 (k.toNat : Int)] 5)) (w.heap.size + 1) (.slice (some ⟨w.heap.size, 0, none⟩) 1 1) (bv [k]) := RdV.one w _ _
  have p1 := put_any _ [k] l.length 4 (by omega) (by decide) (by decide) (by simp) _ _ (by simp) r0
  rw [show Pu.clip 4 = 4 from by decide, World.size_alloc] at p1
  have P1 := Lib.hid p1
  have HB := Lib.hid hb0
  have HR := Lib.hid hrr
  have HN := Lib.hid hN
  clear p1 hb0 hrr hN r0
  have hl32 : l.length < 4294967296 := by omega
  go_enter Tryd.func26, Tryd.ntmps26
  go_wp2_with fail
  refine P1.out.mono ?_
  rintro e w1 ⟨r1, rfl, ho1, hb1⟩
  have hB1 := HB.out.trans (hb1.mono (by simp))
  have s1 := seal_own _ _ (by rw [List.length_append, Pu.putL_length]; simp) w1 _ (Nat.le_refl _) (RdV.own ho1) (HN.out.next hB1)
  have S1 := Lib.hid s1
  clear s1 ho1 hb1
  go_wp2_with fail
  refine S1.out.mono ?_
  rintro e w2 ⟨r2, rfl, ho2, hb2⟩
  have hB2 := nextB hb2 hB1
  have s2 := seal_own _ l (by omega) w2 B (by have := hB2.size; omega) (HR.out.below' hB2 hB) (HN.out.next hB2)
  have S2 := Lib.hid s2
  have O2 := Lib.hid (Joins.ownsRow_le ho2 hB1.size)
  clear s2 ho2
  go_wp2_with fail
  refine S2.out.mono ?_
  rintro e w3 ⟨r3, rfl, ho3, hb3⟩
  have hB3 := nextB hb3 hB2
  have hR3 := RdV.own ho3
  have hO2 := own_below O2.out hb3
  have hL : (sealL ([k] ++ Pu.putL l.length 4)).length = 9 := headL_length k l.length
  have hL2 : (sealL l).length = l.length + 4 := sealL_length l
  have R3 := Lib.hid hR3
  have Q2 := Lib.hid hO2
  clear hR3 hO2 ho3 hb3
  go_wp2_with (at_builtin; refine wpList_append_rd _ rfl _ _ 23 rfl w.heap.size 5 (.int .u8 0) 1 Tryd.underlying23 Tryd.inf5 rfl _ _ _ rfl Q2.out _ rfl _ _ R3.out (bv_one _) (by rw [bv_length, hL, hL2]; omega) (by omega) hB3.size ?_; intro v4 w4 ho4 hg4 _)
  go_ret
  refine ⟨_, rfl, ?_, hB3.grown hg4 hB3.size (fun g hg => (Q2.out.lt g hg).1)⟩
  have e : bv (sealL ([k] ++ Pu.putL l.length 4)) ++ bv (sealL l) = bv (frameL k l) := by rw [← bv_append]; rfl
  rw [e, hL, bv_length, hL2] at ho4
  rw [frameL_length, show l.length + 13 = 9 + (l.length + 4) from by omega]
  exact ho4
theorem results_tmp4 {fn : Func} {t u v x : Tmp} (h : fn.results = #[.tmp t, .tmp u, .tmp v, .tmp x]) (tmps : Array Value) (P : Program) (w : World) :
    (results fn tmps).run P w = .ok (.tuple #[tmps.getD t undef, tmps.getD u undef, tmps.getD v undef, tmps.getD x undef]) w := by
  simp [results, h]
/-- the length that a frame tells -/
def szL (l : List UInt8) : Nat := Pu.leN ((l.take 5).drop 1)
def RFP (w : World) (l : List UInt8) (e : Ending) (w' : World) : Prop :=
  ((l.length < 9 ∧ e = .returned (.tuple #[.int .u8 0, .slice none 0 0, .int .i64 0, .int .i64 21])) ∨ (9 ≤ l.length ∧ ¬ okB (l.take 9) ∧ e = .returned (.tuple #[.int .u8 0, .slice none 0 0, .int .i64 0, .int .i64 23])) ∨ (9 ≤ l.length ∧ okB (l.take 9) ∧ 1048576 < szL l ∧ e = .returned (.tuple #[.int .u8 0, .slice none 0 0, .int .i64 0, .int .i64 24])) ∨
   (9 ≤ l.length ∧ okB (l.take 9) ∧ szL l ≤ 1048576 ∧ l.length < szL l + 13 ∧ e = .returned (.tuple #[.int .u8 0, .slice none 0 0, .int .i64 0, .int .i64 21])) ∨ (9 ≤ l.length ∧ okB (l.take 9) ∧ szL l ≤ 1048576 ∧ szL l + 13 ≤ l.length ∧ ¬ okB ((l.drop 9).take (szL l + 4)) ∧ e = .returned (.tuple #[.int .u8 0, .slice none 0 0, .int .i64 0, .int .i64 23])) ∨
   (9 ≤ l.length ∧ okB (l.take 9) ∧ szL l ≤ 1048576 ∧ szL l + 13 ≤ l.length ∧ okB ((l.drop 9).take (szL l + 4)) ∧ ∃ r, e = .returned (.tuple #[.int .u8 ((l.getD 0 0).toNat : Int), r, .int .i64 ((szL l + 13 : Nat) : Int), .int .i64 0]) ∧ RdV w' w'.heap.size r (bv ((l.drop 9).take (szL l))))) ∧ Below w.heap.size w w'
set_option maxRecDepth 100000 in
set_option maxHeartbeats 8000000 in
theorem readframe_any (vb : Value) (l : List UInt8) (hl : l.length < 1073741824) (w : World) (B : Nat) (hB : B ≤ w.heap.size) (hr : RdV w B vb (bv l)) (hN : Nibs w) :
    Calls Tryd.prog 24 #[vb] w (RFP w l) := by
  have hrr := hr
  obtain ⟨A, c, rfl, hc1, hc2, hc3⟩ := hr
  rw [bv_length] at hc1 hc3 hrr ⊢
  unfold maxLen at hc2
  by_cases h9 : l.length < 9
  · clear hc3 hrr hN
    go_enter Tryd.func24, Tryd.ntmps24
    go_wp2
    (try simp only [Exit.inBlock, Exit.then])
    refine bodyPost_ret (results_tmp4 rfl _ _ _) rfl ?_
    exact ⟨Or.inl ⟨h9, rfl⟩, Below.refl _ _⟩
  obtain ⟨b, off, rfl, hbB, hcc⟩ := hc3 (by omega)
  clear hcc
  have h9' : 9 ≤ l.length := by omega
  have r1 := RdV.front hrr 9 (by rw [bv_length]; omega)
  rw [bv_take] at r1
  have o1 := open_any _ (l.take 9) (by rw [List.length_take]; omega) w B hB r1 hN
  have O1 := Lib.hid o1
  have HR := Lib.hid hrr
  have HN := Lib.hid hN
  have c9 : 9 ≤ c := by omega
  clear hrr hN r1 o1 h9
  go_enter Tryd.func24, Tryd.ntmps24
  go_wp2_with fail
  refine O1.out.mono ?_
  rintro e w1 ⟨hcase, hb1⟩
  have ht9 : (l.take 9).length = 9 := by rw [List.length_take]; omega
  rw [ht9] at hcase
  rcases hcase with ⟨h, _⟩ | ⟨_, hno, rfl⟩ | ⟨_, hok, r2, rfl, hr2⟩
  · omega
  · clear ht9
    go_wp2
    (try simp only [Exit.inBlock, Exit.then])
    refine bodyPost_ret (results_tmp4 rfl _ _ _) rfl ?_
    exact ⟨Or.inr (Or.inl ⟨h9', hno, rfl⟩), hb1⟩
  · have e5 : (l.take 9).take (9 - 4) = l.take 5 := by rw [List.take_take]; rfl
    rw [e5] at hr2
    have hr22 := hr2
    obtain ⟨A2, c2, rfl, hc21, hc22, hc23⟩ := hr2
    have ht5 : (l.take 5).length = 5 := by rw [List.length_take]; omega
    rw [bv_length, ht5] at hc21 hc23 hr22 ⊢
    unfold maxLen at hc22
    obtain ⟨b2, off2, rfl, hbB2, hcc2⟩ := hc23 (by omega)
    have hk0 := hcc2 0 (.int .u8 ((l.getD 0 0).toNat : Int)) (by rw [bv_get, List.getElem?_take, if_pos (by omega), List.getD_eq_getElem?_getD, List.getElem?_eq_getElem (show 0 < l.length by omega)]; rfl)
    rw [Nat.add_zero] at hk0
    have r3 := RdV.part hr22 1 4 (by rw [bv_length, ht5]; omega)
    rw [bv_drop, bv_take, List.take_of_length_le (by rw [List.length_drop, ht5]; omega)] at r3
    have hd4 : ((l.take 5).drop 1).length = 4 := by rw [List.length_drop, ht5]
    have g1 := get_any _ ((l.take 5).drop 1) 4 (by decide) (by decide) (by rw [hd4]; omega) w1 _ r3
    have hgb : Pu.getB ((l.take 5).drop 1) 4 = true := by unfold Pu.getB; rw [decide_eq_true_eq, hd4]; omega
    have hgv : Pu.getV ((l.take 5).drop 1) 4 = szL l := by
      unfold Pu.getV; rw [if_pos hgb]
      rw [show (4 : Int).toNat = 4 from rfl, List.take_of_length_le (by rw [hd4]; omega)]; rfl
    rw [hgb, hgv] at g1
    have hle := Pu.leN_lt ((l.take 5).drop 1)
    rw [hd4] at hle
    have hsz : szL l < 4294967296 := hle
    have G1 := Lib.hid g1
    have K0 := Lib.hid hk0
    have HOK := Lib.hid hok
    clear g1 hk0 hok r3 hgb hgv hle hd4 ht5 hr22 hcc2 hc23 e5 ht9
    have hne : ¬ c2 = 1 := by omega
    obtain ⟨z, hz⟩ : ∃ z, szL l = z := ⟨_, rfl⟩
    rw [hz] at hsz
    have HZ := Lib.hid hz
    rw [hz] at G1
    clear hz
    go_wp2_with fail
    refine G1.out.mono ?_
    rintro e w2 ⟨rfl, rfl⟩
    by_cases hbig : 1048576 < z
    · go_wp2
      (try simp only [Exit.inBlock, Exit.then])
      refine bodyPost_ret (results_tmp4 rfl _ _ _) rfl ?_
      exact ⟨Or.inr (Or.inr (Or.inl ⟨h9', HOK.out, by rw [HZ.out]; exact hbig, rfl⟩)), hb1⟩
    · by_cases hlong : l.length < z + 13
      · go_wp2
        (try simp only [Exit.inBlock, Exit.then])
        refine bodyPost_ret (results_tmp4 rfl _ _ _) rfl ?_
        exact ⟨Or.inr (Or.inr (Or.inr (Or.inl ⟨h9', HOK.out, by rw [HZ.out]; omega, by rw [HZ.out]; exact hlong, rfl⟩))), hb1⟩
      · have r4 := RdV.part (HR.out.below' hb1 hB) 9 (z + 4) (by rw [bv_length]; omega)
        rw [bv_drop, bv_take] at r4
        have hlen : ((l.drop 9).take (z + 4)).length = z + 4 := by rw [List.length_take, List.length_drop]; omega
        have o2 := open_any _ ((l.drop 9).take (z + 4)) (by rw [hlen]; omega) w1 B (by have := hb1.size; omega) r4 (HN.out.next hb1)
        have o3 : Calls Tryd.prog 49 #[.slice (some ⟨b, off + 9, none⟩) (9 + z - 5) (c - 9)] w1 (OpenP w1 ((l.drop 9).take (z + 4))) := by
          rw [show 9 + z - 5 = z + 4 from by omega]; exact o2
        have O2 := Lib.hid o3
        have HL := Lib.hid hlen
        clear r4 o2 o3 hlen
        go_wp2_with fail
        refine O2.out.mono ?_
        rintro e w3 ⟨hcase, hb3⟩
        have hB3 := nextB hb3 hb1
        rw [HL.out] at hcase
        rcases hcase with ⟨h, _⟩ | ⟨_, hno, rfl⟩ | ⟨_, hok, r5, rfl, hr5⟩
        · omega
        · go_wp2
          (try simp only [Exit.inBlock, Exit.then])
          refine bodyPost_ret (results_tmp4 rfl _ _ _) rfl ?_
          exact ⟨Or.inr (Or.inr (Or.inr (Or.inr (Or.inl ⟨h9', HOK.out, by rw [HZ.out]; omega, by rw [HZ.out]; omega, by rw [HZ.out]; exact hno, rfl⟩)))), hB3⟩
        · have e6 : ((l.drop 9).take (z + 4)).take (z + 4 - 4) = (l.drop 9).take z := by rw [List.take_take, show min (z + 4 - 4) (z + 4) = z from by omega]
          rw [e6] at hr5
          have k0 := (hb3.cell (p := ⟨b2, off2, none⟩) hbB2).trans K0.out
          have R5 := Lib.hid hr5
          have HK := Lib.hid hok
          clear e6 hr5 hok
          go_wp2
          (try simp only [Exit.inBlock, Exit.then])
          refine bodyPost_ret (results_tmp4 rfl _ _ _) rfl ?_
          refine ⟨Or.inr (Or.inr (Or.inr (Or.inr (Or.inr ⟨h9', HOK.out, by rw [HZ.out]; omega, by rw [HZ.out]; omega, by rw [HZ.out]; exact HK.out, r5, ?_, by rw [HZ.out]; exact R5.out⟩)))), hB3⟩
          rw [HZ.out, show ((z + 13 : Nat) : Int) = 9 + (z : Int) + 4 from by omega]
          rfl
end Go.Proofs.YtgcgehdbgegfeaaDoor
