/- The law DiskAll answers true for any bytes and any booleans: of pending writes of unlike sectors just those that are kept are there behind a cut. Conditions: none. -/
import Derived.Test.YtldmamcalfmedaaDkn
import Derived.Test.YtldmamcalfmedaaOpc
namespace Go.Proofs.Ytldmamcalfmedaa.lawDiskAll
open Go.ChangeShapes Go.WideShapes Go.ChangeAt Go.RowKit
set_option linter.unusedSimpArgs false
set_option linter.unusedVariables false

theorem own : ownKnob Try.prog.godebug = none := by kernel_rfl
theorem laid : laidOutB Try.prog = true := by kernel_rfl

def rowA (x : UInt8) : List UInt8 := x :: 1 :: List.replicate 62 0
def pendA (l : List UInt8) (i : Nat) : List (Nat × List UInt8) := (List.range i).map fun j => (j, rowA (l.getD j 0))
theorem pendA_next (l : List UInt8) (i : Nat) : pendA l (i + 1) = pendA l i ++ [(i, rowA (l.getD i 0))] := by
  unfold pendA; rw [List.range_succ, List.map_append]; rfl
theorem pendA_length (l : List UInt8) (i : Nat) : (pendA l i).length = i := by simp [pendA]
/-- a sector of what is kept -/
def slB (K : List UInt8) (i : Nat) : List UInt8 := (K.drop (i * 64)).take 64
theorem slB_lay (K : List UInt8) (n p i : Nat) (b : List UInt8) (hK : K.length = n * 64) (hb : b.length = 64) (hp : p < n) (hi : i < n) : slB (layP 64 K (p, b)) i = if i = p then b else slB K i := by
  have h1 : (p + 1) * 64 ≤ n * 64 := Nat.mul_le_mul_right _ hp
  have h2 : (i + 1) * 64 ≤ n * 64 := Nat.mul_le_mul_right _ hi
  rw [Nat.add_mul] at h1 h2
  apply List.ext_getElem?
  intro j
  unfold slB layP
  simp only [List.getElem?_take, List.getElem?_drop, List.append_assoc]
  by_cases hj : j < 64
  · rw [if_pos hj]
    by_cases e : i = p
    · subst e
      rw [if_pos rfl, List.getElem?_append_right (by simp; omega), List.getElem?_append_left (by simp; omega)]
      congr 1
      simp
      omega
    · rw [if_neg e]
      simp only [List.getElem?_take, List.getElem?_drop, if_pos hj]
      rcases Nat.lt_or_gt_of_ne e with h | h
      · have : (i + 1) * 64 ≤ p * 64 := Nat.mul_le_mul_right _ h
        rw [Nat.add_mul] at this
        rw [List.getElem?_append_left (by simp; omega), List.getElem?_take, if_pos (by omega)]
      · have : (p + 1) * 64 ≤ i * 64 := Nat.mul_le_mul_right _ h
        rw [Nat.add_mul] at this
        rw [List.getElem?_append_right (by simp; omega), List.getElem?_append_right (by simp; omega), List.getElem?_drop]
        congr 1
        simp
        omega
  · rw [if_neg hj]
    by_cases e : i = p
    · rw [if_pos e, List.getElem?_eq_none (by omega)]
    · rw [if_neg e]
      simp only [List.getElem?_take, if_neg hj]
theorem slB_set (kp : Nat → Bool) (l : List UInt8) (K : List UInt8) (n : Nat) (hK : K.length = n * 64) (i : Nat) (hi : i < n) : ∀ m, m ≤ n → slB (setL 64 kp (pendA l m) 0 K) i = if i < m ∧ kp i = true then rowA (l.getD i 0) else slB K i
  | 0, _ => by rw [if_neg (by omega)]; rfl
  | m + 1, hm => by
    have ih := slB_set kp l K n hK i hi m (by omega)
    have hlen : (setL 64 kp (pendA l m) 0 K).length = n * 64 := setL_length kp _ _ _ hK (fun p hp => by
      obtain ⟨j, hj, rfl⟩ := List.mem_map.1 hp
      exact ⟨by have := List.mem_range.1 hj; omega, by simp [rowA]⟩)
    rw [pendA_next, setL_snoc, pendA_length, Nat.zero_add]
    by_cases hk : kp m = true
    · rw [if_pos hk, slB_lay _ n m i _ hlen (by simp [rowA]) (by omega) hi, ih]
      by_cases e : i = m
      · subst e
        rw [if_pos rfl, if_pos ⟨by omega, hk⟩]
      · rw [if_neg e]
        have : (i < m ∧ kp i = true) ↔ (i < m + 1 ∧ kp i = true) := ⟨fun h => ⟨by omega, h.2⟩, fun h => ⟨by omega, h.2⟩⟩
        simp only [this]
    · rw [if_neg hk, ih]
      by_cases e : i = m
      · subst e
        rw [if_neg (by omega), if_neg (fun h => hk h.2)]
      · have : (i < m ∧ kp i = true) ↔ (i < m + 1 ∧ kp i = true) := ⟨fun h => ⟨by omega, h.2⟩, fun h => ⟨by omega, h.2⟩⟩
        simp only [this]
def WInv (db kb mb base : Nat) (l : List UInt8) (i : Nat) (w : World) : Prop :=
  ∃ pb mm d, DBox w db kb mb pb mm d ∧ mm ≤ i ∧ base ≤ pb ∧ d.n = 31 ∧ d.size = 64 ∧ d.off = false ∧ d.armed = false ∧ d.kept = List.replicate (31 * 64) 0 ∧ d.pend = pendA l i ∧ d.writes = (i : Nat) ∧ d.reads = 0
def RInv (db kb mb pb mm : Nat) (K : List UInt8) (F i : Nat) (w : World) : Prop :=
  ∃ d, DBox w db kb mb pb mm d ∧ d.n = 31 ∧ d.size = 64 ∧ d.off = false ∧ d.kept = K ∧ d.pend = [] ∧ d.writes = (F : Nat) ∧ d.reads = (i : Nat)
theorem two_at {M : Nat → Prop} {w : World} {v : Value} {x y : UInt8} {r : List UInt8} (h : RdX M w v (bv (x :: y :: r))) : ∃ b off c, v = .slice (some ⟨b, off, none⟩) (r.length + 2) c ∧ w.cell? ⟨b, off, none⟩ = some (.int .u8 (x.toNat : Int)) ∧ w.cell? ⟨b, off + 1, none⟩ = some (.int .u8 (y.toNat : Int)) := by
  obtain ⟨A, c, rfl, h1, h2, h3⟩ := h
  have hl : (bv (x :: y :: r)).length = r.length + 2 := by rw [bv_length]; rfl
  obtain ⟨b, off, rfl, hb, hM, hc⟩ := h3 (by rw [hl]; omega)
  refine ⟨b, off, c, by rw [hl], ?_, ?_⟩
  · have := hc 0 (.int .u8 (x.toNat : Int)) (by simp [bv])
    simpa using this
  · exact hc 1 (.int .u8 (y.toNat : Int)) (by simp [bv])
set_option maxRecDepth 100000 in
set_option maxHeartbeats 8000000 in
theorem walk (vf : Value) (l : List UInt8) (vk : Value) (bs : List Bool) (w : World) (hrf : RdV w w.heap.size vf (bv l)) (hrk : RdV w w.heap.size vk (boolV bs)) : Calls Try.prog 6 #[vf, vk] w fun e w' => e = .returned (.bool true) ∧ Below w.heap.size w w' := by
  have HK := Lib.hid (known_any w)
  have h1 := hrf
  have h2 := hrk
  obtain ⟨Af, cf, rfl, hf1, hf2, _⟩ := hrf
  obtain ⟨Ak, ck, rfl, hk1, hk2, _⟩ := hrk
  rw [bv_length] at hf1 h1 ⊢
  rw [boolV_length] at hk1 h2 ⊢
  have HRF := Lib.hid h1
  have HRK := Lib.hid h2
  clear h1 h2
  by_cases c0 : 30 < l.length
  · go_enter Try.func6, Try.ntmps6
    go_wp2_with fail
    refine HK.out.mono ?_
    rintro e w1 ⟨rfl, hb1⟩
    go_wp2
    go_ret
    exact ⟨rfl, hb1⟩
  by_cases c1 : 100 < bs.length
  · go_enter Try.func6, Try.ntmps6
    go_wp2_with fail
    refine HK.out.mono ?_
    rintro e w1 ⟨rfl, hb1⟩
    go_wp2
    go_ret
    exact ⟨rfl, hb1⟩
  go_enter Try.func6, Try.ntmps6
  go_wp2_with fail
  refine HK.out.mono ?_
  rintro e w1 ⟨rfl, hb1⟩
  have HB1 := Lib.hid hb1
  have HN := Lib.hid (dnew_ok 31 64 (by omega) (by omega) w1)
  clear hb1
  go_wp2_with fail
  refine HN.out.mono ?_
  rintro e w2 ⟨db, kb, mb, hd1, hd2, hd3, rfl, hD, hb2⟩
  have hz1 := HB1.out.size
  have HB2 := Lib.hid (HB1.out.trans (hb2.mono hz1))
  have HI2 := Lib.hid (show WInv db kb mb w.heap.size l 0 w2 from ⟨db, 0, _, hD, Nat.le_refl _, by omega, rfl, rfl, rfl, rfl, rfl, rfl, rfl, rfl⟩)
  clear hD hb2
  go_wp2
  go_loopw [7] (fun i wx => ∃ q : Nat, q ≤ l.length ∧ i = .int .i64 q ∧ WInv db kb mb w.heap.size l q wx ∧ Below w.heap.size w wx) (fun i wx => l.length - (intOf i).toNat)
  case atStart => exact ⟨0, by omega, rfl, HI2.out, HB2.out⟩
  case round =>
    obtain ⟨q, hq, rfl, hI, hB⟩ := hrel
    have hzr := hB.size
    by_cases hlt : q < l.length
    · have HI := Lib.hid hI
      have HB := Lib.hid hB
      clear hI hB
      go_upto_region 11 with (fail)
      refine wp_region_lit ?_
      refine wpList_make_rd _ rfl _ _ 32 rfl wr.heap.size 5 (.int .u8 0) 1 Try.underlying32 inf8 rfl .i64 .i64 64 64 _ _ rfl rfl rfl rfl (Nat.le_refl _) (by omega) (by unfold maxLen; omega) (Nat.le_refl _) ?_
      intro w3 ho3 hg3
      refine wpList_plain rfl fun K1 hK1 => ?_
      go_simp
      refine hK1 _ _ ?_
      clear hK1 K1
      refine wpList_nil ?_
      have hb3 : Below wr.heap.size wr w3 := (Below.refl _ _).grown hg3 (Nat.le_refl _) (by intro g h; cases h)
      have e0 := ho3.cellAt 0 (by omega)
      have f0 := ho3.frozenAt 0
      have e0' : w3.cell? ⟨wr.heap.size, 0, none⟩ = some (.int .u8 0) := e0
      obtain ⟨fb, foff, rfl, hfb, hfc⟩ := HRF.out.get (j := q) (u := .int .u8 ((l[q]).toNat : Int)) (by unfold bv; rw [List.getElem?_map, List.getElem?_eq_getElem hlt]; rfl)
      have hfc3 : w3.cell? ⟨fb, foff + q, none⟩ = some (.int .u8 ((l[q]).toNat : Int)) := (World.cell?_of_block (a := ⟨fb, foff + q, none⟩) ((hb3.block fb (by omega)).trans (HB.out.block fb hfb))).trans hfc
      have hg : l.getD q 0 = l[q] := by simp [List.getD, hlt]
      obtain ⟨x, hx⟩ : ∃ x, l[q] = x := ⟨_, rfl⟩
      rw [hx] at hfc3 hg
      have hs1 := (ho3.stored 0 (.int .u8 (x.toNat : Int))).1
      have e1 : (w3.setCell ⟨wr.heap.size, 0, none⟩ (.int .u8 (x.toNat : Int))).cell? ⟨wr.heap.size, 1, none⟩ = some (.int .u8 0) := hs1.cellAt 1 (by omega)
      have f1 := hs1.frozenAt 1
      have hs2 := (hs1.stored 1 (.int .u8 1)).1
      have hrow : (((List.replicate 64 (Value.int .u8 0)).set 0 (.int .u8 (x.toNat : Int))).set 1 (.int .u8 1)) = bv (rowA x) := by
        unfold rowA bv
        simp [List.replicate]
      rw [hrow] at hs2
      have hb5 := (hb3.setCell (p := ⟨wr.heap.size, 0, none⟩) (Nat.le_refl _) (.int .u8 (x.toNat : Int))).setCell (p := ⟨wr.heap.size, 1, none⟩) (Nat.le_refl _) (.int .u8 1)
      have HS2 := Lib.hid hs2
      have HB5 := Lib.hid hb5
      have HG := Lib.hid hg
      clear hs1 hs2 hb3 hb5 ho3 hg3 hx hfc hrow e0 hg
      have hxr : 0 ≤ (x.toNat : Int) ∧ (x.toNat : Int) ≤ 255 := by have := x.toNat_lt; omega
      go_upto_region 14 with (fail)
      generalize (w3.setCell ⟨wr.heap.size, 0, none⟩ (.int .u8 (x.toNat : Int))).setCell ⟨wr.heap.size, 1, none⟩ (.int .u8 1) = w5 at HS2 HB5 ⊢
      obtain ⟨pb, mm, d, hD, j1, j2, j3, j4, j5, j6, j7, j8, j9, j10⟩ := HI.out
      have hl5 := hD.lt
      have hs5 := hD.small
      have hF5 : Frm (fun _ => False) wr w5 := Frm.of_below HB5.out
      have hz5 := hF5.size
      have hxx : RdX (Own db kb mb pb) w5 (.slice (some ⟨wr.heap.size, 0, none⟩) 64 64) (bv (rowA x)) := RdX.of_own2 HS2.out (fun j hj _ => by unfold Own; omega)
      have WO := Lib.hid (write_ok db kb mb pb mm d w5 (hD.next hF5) j5 (fun h => by rw [j6] at h; cases h) q (by omega) _ (rowA x) hxx (by rw [j4]; simp [rowA]) (by rw [j8, pendA_length]; omega) (by omega) (by omega))
      have HB6 := Lib.hid (HB.out.trans (HB5.out.mono hzr))
      clear hD hF5 hxx
      go_wp2_with fail
      refine WO.out.mono ?_
      rintro e w6 ⟨rfl, pb', hD', hp, hF⟩
      have HI7 := Lib.hid (show WInv db kb mb w.heap.size l (q + 1) w6 from ⟨pb', mm + 1, _, hD', by omega, by omega, j3, j4, j5, j6, j7, by show d.pend ++ [(q, rowA x)] = _; rw [j8, pendA_next, HG.out], by show d.writes + 1 = _; omega, j10⟩)
      have HB7 := Lib.hid (HB6.out.trans (hF.below (B := w.heap.size) (by rintro j (h | h | h | h) <;> omega) HB6.out.size))
      clear hD' hF hp
      go_wp2
      go_roundw
      case rel => exact ⟨q + 1, by omega, by go_num, HI7.out, HB7.out⟩
      case measure => simp [intOf]; omega
    · obtain rfl : q = l.length := by omega
      obtain ⟨pb, mm, d, hD, j1, j2, j3, j4, j5, j6, j7, j8, j9, j10⟩ := hI
      have hkx : RdX (Own db kb mb pb) wr (.slice Ak bs.length ck) (boolV bs) := RdX.of_rd (HRK.out.below hB) hzr (fun j hj => by unfold Own; omega)
      have CU := Lib.hid (cut_any db kb mb pb mm d wr hD _ bs hkx (by rw [j8, pendA_length]; omega))
      have HB := Lib.hid hB
      clear hD hB hkx
      go_wp2_with fail
      refine CU.out.mono ?_
      rintro e w3 ⟨rfl, hD3, hF3⟩
      have HB3 := Lib.hid (HB.out.trans (hF3.below (B := w.heap.size) (by rintro j (h | h | h) <;> omega) HB.out.size))
      have ON := Lib.hid (on_any db kb mb pb mm _ w3 hD3)
      clear hD3 hF3
      go_wp2_with fail
      refine ON.out.mono ?_
      rintro e w4 ⟨rfl, hD4, hF4⟩
      have HB4 := Lib.hid (HB3.out.trans (hF4.below (B := w.heap.size) (by rintro j rfl; omega) HB3.out.size))
      obtain ⟨K, hK⟩ : ∃ K, setL d.size (keeps bs) d.pend 0 d.kept = K := ⟨_, rfl⟩
      have HI4 := Lib.hid (show RInv db kb mb pb mm K l.length 0 w4 from ⟨_, hD4, j3, j4, rfl, hK, rfl, j9, j10⟩)
      have hsl : ∀ i, i < l.length → slB K i = if keeps bs i = true then rowA (l.getD i 0) else List.replicate 64 0 := fun i hi => by
        rw [← hK, j4, j8, j7, slB_set (keeps bs) l _ 31 (by simp) i (by omega) l.length (by omega)]
        by_cases hk : keeps bs i = true
        · rw [if_pos ⟨hi, hk⟩, if_pos hk]
        · rw [if_neg (fun h => hk h.2), if_neg hk]
          unfold slB
          rw [List.drop_replicate, List.take_replicate]
          congr 1
          omega
      have HSL := Lib.hid hsl
      clear hD4 hF4 hK hsl j1 j3 j4 j5 j6 j7 j8 j9 j10
      go_wp2
      go_loopw [9] (fun i wx => ∃ q : Nat, q ≤ l.length ∧ i = .int .i64 q ∧ RInv db kb mb pb mm K l.length q wx ∧ Below w.heap.size w wx) (fun i wx => l.length - (intOf i).toNat)
      case atStart => exact ⟨0, by omega, rfl, HI4.out, HB4.out⟩
      case round =>
        obtain ⟨q, hq, rfl, hI, hB⟩ := hrel
        have hzr2 := hB.size
        obtain ⟨d2, hD, j3, j4, j5, j7, j8, j9, j10⟩ := hI
        by_cases hlt2 : q < l.length
        · have RD := read_ok db kb mb pb mm d2 wr hD j5 q (by omega) (by omega) (by rw [j8]; simp)
          have hrb : readB d2 q = slB K q := by unfold readB slB; rw [j8, j4, j7]; rfl
          rw [hrb, HSL.out q hlt2, j4] at RD
          have hsm2 := hD.small
          have hl2 := hD.lt
          have RD := Lib.hid RD
          have HB := Lib.hid hB
          obtain ⟨fb, foff, rfl, hfb, hfc⟩ := HRF.out.get (j := q) (u := .int .u8 ((l[q]).toNat : Int)) (by unfold bv; rw [List.getElem?_map, List.getElem?_eq_getElem hlt2]; rfl)
          have hg : l.getD q 0 = l[q] := by simp [List.getD, hlt2]
          rw [hg] at RD
          obtain ⟨x, hx⟩ : ∃ x, l[q] = x := ⟨_, rfl⟩
          rw [hx] at RD hfc
          have hxr : 0 ≤ (x.toNat : Int) ∧ (x.toNat : Int) ≤ 255 := by have := x.toNat_lt; omega
          clear hD hB hrb hg hx
          by_cases hkk : keeps bs q = true
          · rw [if_pos hkk] at RD
            have hqb : q < bs.length := by
              rcases Nat.lt_or_ge q bs.length with h | h
              · exact h
              · simp [keeps, List.getD, List.getElem?_eq_none h] at hkk
            obtain ⟨kb0, koff, rfl, hkb, hkc⟩ := HRK.out.get (j := q) (u := .bool true) (by
              unfold keeps at hkk
              unfold boolV
              rw [List.getElem?_map, List.getElem?_eq_getElem hqb]
              have : bs.getD q false = bs[q] := by simp [List.getD, hqb]
              rw [this] at hkk
              rw [hkk]; rfl)
            clear hkk
            go_wp2_with fail
            refine RD.out.mono ?_
            rintro e w5 ⟨v5, rfl, ho5, hD5, hF5⟩
            have hx5 : RdX (Own db kb mb pb) w5 v5 (bv (x :: 1 :: List.replicate 62 0)) := RdX.of_own2 ho5 (fun j hj _ => by unfold Own; omega)
            obtain ⟨b5, off5, c5, rfl, k0, k1⟩ := two_at hx5
            have hB5 := HB.out.trans (hF5.below (B := w.heap.size) (by rintro j rfl; omega) HB.out.size)
            have hfc5 : w5.cell? ⟨fb, foff + q, none⟩ = some (.int .u8 (x.toNat : Int)) := (World.cell?_of_block (a := ⟨fb, foff + q, none⟩) (hB5.block fb hfb)).trans hfc
            have hkc5 := (World.cell?_of_block (a := ⟨kb0, koff + q, none⟩) (hB5.block kb0 hkb)).trans hkc
            have HI5 := Lib.hid (show RInv db kb mb pb mm K l.length (q + 1) w5 from ⟨_, hD5, j3, (by first | exact j4 | rfl), j5, j7, j8, j9, by show d2.reads + 1 = _; omega⟩)
            have HB5 := Lib.hid hB5
            clear ho5 hD5 hF5 hx5 hB5 hfc j3 j4 j5 j7 j8 j9 j10
            go_wp2_with fail
            go_quiet (fail)
            go_wp2
            go_roundw
            case rel => exact ⟨q + 1, by omega, by go_num, by obtain ⟨d9, a, b⟩ := HI5.out; exact ⟨d9, a.next (Frm.drewN _ _), b⟩, ⟨HB5.out.os, HB5.out.tape, HB5.out.output, HB5.out.size, HB5.out.block⟩⟩
            case measure => simp [intOf]; omega
          · rw [if_neg hkk] at RD
            by_cases hqb : q < bs.length
            · obtain ⟨kb0, koff, rfl, hkb, hkc⟩ := HRK.out.get (j := q) (u := .bool false) (by
                unfold keeps at hkk
                unfold boolV
                rw [List.getElem?_map, List.getElem?_eq_getElem hqb]
                have : bs.getD q false = bs[q] := by simp [List.getD, hqb]
                rw [this] at hkk
                rw [show bs[q] = false from by simpa using hkk]; rfl)
              clear hkk
              go_wp2_with fail
              refine RD.out.mono ?_
              rintro e w5 ⟨v5, rfl, ho5, hD5, hF5⟩
              have hx5 : RdX (Own db kb mb pb) w5 v5 (bv (0 :: 0 :: List.replicate 62 0)) := RdX.of_own2 ho5 (fun j hj _ => by unfold Own; omega)
              obtain ⟨b5, off5, c5, rfl, k0, k1⟩ := two_at hx5
              have hB5 := HB.out.trans (hF5.below (B := w.heap.size) (by rintro j rfl; omega) HB.out.size)
              have hfc5 : w5.cell? ⟨fb, foff + q, none⟩ = some (.int .u8 (x.toNat : Int)) := (World.cell?_of_block (a := ⟨fb, foff + q, none⟩) (hB5.block fb hfb)).trans hfc
              have hkc5 := (World.cell?_of_block (a := ⟨kb0, koff + q, none⟩) (hB5.block kb0 hkb)).trans hkc
              have HI5 := Lib.hid (show RInv db kb mb pb mm K l.length (q + 1) w5 from ⟨_, hD5, j3, (by first | exact j4 | rfl), j5, j7, j8, j9, by show d2.reads + 1 = _; omega⟩)
              have HB5 := Lib.hid hB5
              clear ho5 hD5 hF5 hx5 hB5 hfc j3 j4 j5 j7 j8 j9 j10
              go_wp2_with fail
              go_quiet (fail)
              go_wp2
              go_roundw
              case rel => exact ⟨q + 1, by omega, by go_num, by obtain ⟨d9, a, b⟩ := HI5.out; exact ⟨d9, a.next (Frm.drewN _ _), b⟩, ⟨HB5.out.os, HB5.out.tape, HB5.out.output, HB5.out.size, HB5.out.block⟩⟩
              case measure => simp [intOf]; omega
            · clear hkk
              go_wp2_with fail
              refine RD.out.mono ?_
              rintro e w5 ⟨v5, rfl, ho5, hD5, hF5⟩
              have hx5 : RdX (Own db kb mb pb) w5 v5 (bv (0 :: 0 :: List.replicate 62 0)) := RdX.of_own2 ho5 (fun j hj _ => by unfold Own; omega)
              obtain ⟨b5, off5, c5, rfl, k0, k1⟩ := two_at hx5
              have hB5 := HB.out.trans (hF5.below (B := w.heap.size) (by rintro j rfl; omega) HB.out.size)
              have hfc5 : w5.cell? ⟨fb, foff + q, none⟩ = some (.int .u8 (x.toNat : Int)) := (World.cell?_of_block (a := ⟨fb, foff + q, none⟩) (hB5.block fb hfb)).trans hfc
              have HI5 := Lib.hid (show RInv db kb mb pb mm K l.length (q + 1) w5 from ⟨_, hD5, j3, (by first | exact j4 | rfl), j5, j7, j8, j9, by show d2.reads + 1 = _; omega⟩)
              have HB5 := Lib.hid hB5
              clear ho5 hD5 hF5 hx5 hB5 hfc j3 j4 j5 j7 j8 j9 j10
              go_wp2_with fail
              go_quiet (fail)
              go_wp2
              go_roundw
              case rel => exact ⟨q + 1, by omega, by go_num, by obtain ⟨d9, a, b⟩ := HI5.out; exact ⟨d9, a.next (Frm.drewN _ _), b⟩, ⟨HB5.out.os, HB5.out.tape, HB5.out.output, HB5.out.size, HB5.out.block⟩⟩
              case measure => simp [intOf]; omega
        · obtain rfl : q = l.length := by omega
          have WR := writes_any db kb mb pb mm d2 wr hD
          rw [j9] at WR
          have WR := Lib.hid WR
          have HB := Lib.hid hB
          clear hD hB j3 j4 j5 j7 j8 j9 j10
          go_wp2_with fail
          refine WR.out.mono ?_
          rintro e w5 ⟨rfl, rfl⟩
          go_wp2
          go_ret
          exact ⟨rfl, HB.out⟩

set_option maxRecDepth 100000 in
theorem lifted (os : Os) (started : os.Started) (H : Type) (enc : TypeId × Value → H) :
    ReturnsInHanded {} Try.checked os 6 .any (Rows.diskAllSpec.pre6 enc Try.prog Try.f6 Rows.diskAllRow.domain false) (Rows.diskAllSpec.post enc Try.prog Try.f6 false true false false) := by
  refine returnsInHanded_of_change (C := Try.checked) own started (by kernel_rfl) Try.func6
    (ChangeSpec.witness6 (enc := enc) (C := Try.checked) false ⟨#[], #[.slice none 0 0, .slice none 0 0], []⟩ 8 (by kernel_rfl) (by kernel_rfl) (by kernel_rfl) (by kernel_rfl)) ?_
  intro W base args ds gs before hval0 hW hcnd _
  have hval : ∀ (j : Nat) t v, Try.f6.params[j]? = some t → args[j]? = some v → Value.okWide Try.prog W .any base t v := hval0
  have hW' := hW
  obtain ⟨p, q, hA0, hV, rfl, hfz, hnd⟩ := hW
  have hA : DataW.TrodAll enc Try.prog W 0 (fun _ => true) true Try.f6.params.toList args.toList ds p := hA0
  rw [Try.params6] at hA hval
  obtain ⟨v0, vs0, d0, ds0, p0, q0, hargs, rfl, rfl, h0, r0⟩ := trodAll_cons hA
  obtain ⟨v1, vs1, d1, ds1, p1, q1, rfl, rfl, rfl, h1, r1⟩ := trodAll_cons r0
  obtain ⟨rfl, rfl, rfl⟩ := trodAll_nil r1
  obtain rfl : args = #[v0, v1] := by cases args; simp_all
  obtain ⟨rfl, rfl⟩ := trodVars_none hV
  obtain ⟨l0, b0⟩ := open_bytes Try.underlying32 Try.underlying5 (by kernel_rfl) (hval 0 32 v0 rfl rfl) h0
  obtain ⟨bs, hrk⟩ := open_boolV Try.underlying33 Try.underlying4 (by kernel_rfl) (hval 1 33 v1 rfl rfl) h1
  clear hA0 hval0
  refine (walk v0 l0 v1 bs W b0 hrk).mono fun e W' ⟨he, hb⟩ => ?_
  subst he
  exact ⟨_, rfl, law_post hW' rfl laid (by kernel_rfl) rfl Try.underlying4 rfl hb⟩

theorem over : Rows.diskAllRow.holds Try.pinned (OpenSpec.ofChange Rows.diskAllSpec) :=
  OpenClaim.holds_of_wide 6 Try.f6 rfl rfl rfl rfl rfl rfl rfl ⟨rfl, rfl, rfl, rfl, rfl⟩ rfl rfl rfl rfl rfl (by kernel_rfl) Try.func6 (by kernel_rfl)
    (of_decide_eq_true (by kernel_rfl)) (by unfold Func.isWrapper; first | (rw [if_pos (by decide +kernel)]; kernel_rfl) | (rw [if_neg (by decide +kernel)]; exact ⟨rfl, rfl⟩))
    (fun os started H enc _ => lifted os started H enc)

theorem proved : Rows.DiskAllSaid :=
  over
end Go.Proofs.Ytldmamcalfmedaa.lawDiskAll
