/- A shape out of bytes: the program's Decode. Conditions: none of its own. -/
import Derived.Test.YtlbodandidopfaaGbf
namespace Go.Proofs.Ytlbodandidopfaa
open Go.ChangeShapes Go.WideShapes Go.ChangeAt Go.RowKit
set_option linter.unusedSimpArgs false
set_option linter.unusedVariables false
theorem readV_len {s : St} {lo hi : Int} : (readV s.2 s.1 (numO s.1)).2.1.length ≤ s.1.length ∧ (readV s.2 s.1 (within lo hi (numO s.1))).2.1.length ≤ s.1.length := by
  unfold readV
  by_cases he : s.2 ≠ 0
  · rw [if_pos he, if_pos he]; exact ⟨Nat.le_refl _, Nat.le_refl _⟩
  · rw [if_neg he, if_neg he]
    cases ho : numO s.1 with
    | ok v l =>
      have h1 := (numO_len ho).1
      refine ⟨h1, ?_⟩
      simp only [within]
      split
      · rename_i h; split at h
        · injection h with h2 h3; rw [← h3]; exact h1
        · cases h
      · rename_i h; split at h
        · cases h
        · injection h with h2 h3; rw [← h3]; exact h1
    | bad ev l =>
      have h1 := (numO_bad ho).2
      subst h1
      exact ⟨Nat.le_refl _, Nat.le_refl _⟩
theorem bi_len (s : St) : (bi s).2.1.length ≤ s.1.length := (readV_len (s := s) (lo := 1) (hi := 65536)).2
theorem ri_len (s : St) : (ri s).2.1.length ≤ s.1.length := (readV_len (s := s) (lo := 1) (hi := 65536)).1
theorem st_len {f : St → Int × St} (hf : ∀ s, (f s).2.1.length ≤ s.1.length) (s : St) : ∀ q, (st f s q).1.length ≤ s.1.length
  | 0 => Nat.le_refl _
  | q + 1 => Nat.le_trans (hf _) (st_len hf s q)
/-- a value that fits -/
theorem readV_fits {s : St} {lo hi : Int} : J64 (readV s.2 s.1 (numO s.1)).1 ∧ J64 (readV s.2 s.1 (within lo hi (numO s.1))).1 := by
  have h0 : J64 0 := by unfold J64; omega
  unfold readV
  by_cases he : s.2 ≠ 0
  · rw [if_pos he, if_pos he]; exact ⟨h0, h0⟩
  · rw [if_neg he, if_neg he]
    cases ho : numO s.1 with
    | ok v l =>
      have h1 := (numO_len ho).2
      refine ⟨h1, ?_⟩
      simp only [within]
      split
      · rename_i h; split at h
        · injection h with h2 h3; rw [← h2]; exact h1
        · cases h
      · exact h0
    | bad ev l => exact ⟨h0, h0⟩
theorem c9_not (c : Cfg) (i : Nat) (x : UInt8) : (C9 c)[i]? ≠ some (.int .u8 ((x.toNat : Nat) : Int)) := by
  intro h
  have hi : i < 9 := by
    rcases Nat.lt_or_ge i 9 with h1 | h1
    · exact h1
    · rw [Array.getElem?_eq_none h1] at h; cases h
  rw [c9_at c i hi] at h
  injection h with h
  injection h with h
  cases h
/-- a row of bytes does not lie where a shape does -/
theorem RdV.notCfg {w w' : World} {B b : Nat} {v : Value} {l : List UInt8} {c : Cfg} (h : RdV w B v (bv l)) (hx : Boxed w b c) (hf : ∀ j, j < w.heap.size → j ≠ b → w'.heap[j]? = w.heap[j]?) : RdV w' B v (bv l) := by
  obtain ⟨A, c1, e, h1, h2, h3⟩ := h
  refine ⟨A, c1, e, h1, h2, fun hn => ?_⟩
  obtain ⟨b0, off, e0, hb0, hc⟩ := h3 hn
  refine ⟨b0, off, e0, hb0, fun j u hu => ?_⟩
  have hcj := hc j u hu
  have hne : b0 ≠ b := by
    intro e1
    subst e1
    rw [hx.cell] at hcj
    unfold bv at hu
    rw [List.getElem?_map] at hu
    cases hl : l[j]? with
    | none => rw [hl] at hu; cases hu
    | some x =>
      rw [hl] at hu
      injection hu with hu
      rw [← hu] at hcj
      exact c9_not c _ x hcj
  exact (World.cell?_of_block (a := ⟨b0, off + j, none⟩) (hf b0 (lt_of_cell hcj) hne)).trans hcj
theorem CBox.notCfg {w w' : World} {k b : Nat} {l : List UInt8} {e : Int} {c : Cfg} (h : CBox w k l e) (hx : Boxed w b c) (hk : k ≠ b) (hf : Frm (· = b) w w') : CBox w' k l e := by
  have hl := h.lt
  obtain ⟨A, n, c1, B, h1, h2, h3⟩ := h
  exact ⟨A, n, c1, B, (hf.block k hl hk).trans h1, h2.notCfg hx fun j hj hne => hf.block j hj hne, h3⟩
def cfgP (v : Nat → Int) (q : Nat) : Cfg := cfgV fun i => if i < q then v i else 0
theorem cfgP_all (v : Nat → Int) : cfgP v 9 = cfgV v := cfgV_congr fun i hi => by rw [if_pos hi]
def cfgZ : Cfg := ⟨0, 0, 0, 0, 0, 0, 0, 0, 0⟩
theorem cfgP_set (v : Nat → Int) (q : Nat) (hq : q < 9) : (C9 (cfgP v q)).setIfInBounds q (.int .i64 (v q)) = C9 (cfgP v (q + 1)) := by
  match q, hq with
  | 0, _ => simp [C9, cfgP, cfgV]
  | 1, _ => simp [C9, cfgP, cfgV]
  | 2, _ => simp [C9, cfgP, cfgV]
  | 3, _ => simp [C9, cfgP, cfgV]
  | 4, _ => simp [C9, cfgP, cfgV]
  | 5, _ => simp [C9, cfgP, cfgV]
  | 6, _ => simp [C9, cfgP, cfgV]
  | 7, _ => simp [C9, cfgP, cfgV]
  | 8, _ => simp [C9, cfgP, cfgV]
theorem Boxed.put {w : World} {k : Nat} {v : Nat → Int} {q : Nat} (h : Boxed w k (cfgP v q)) (hq : q < 9) : Boxed (w.setCell ⟨k, q, none⟩ (.int .i64 (v q))) k (cfgP v (q + 1)) := by
  have := heap_setCell_same w k q _ _ (.int .i64 (v q)) h
  rw [cfgP_set v q hq] at this
  exact this
def putC (w : World) (b : Nat) (c : Cfg) : World := (((((((((w.setCell ⟨b, 0, none⟩ (.int .i64 c.sectors)).setCell ⟨b, 1, none⟩ (.int .i64 c.sector)).setCell ⟨b, 2, none⟩ (.int .i64 c.journal)).setCell ⟨b, 3, none⟩ (.int .i64 c.segment)).setCell ⟨b, 4, none⟩ (.int .i64 c.page)).setCell ⟨b, 5, none⟩ (.int .i64 c.frames)).setCell ⟨b, 6, none⟩ (.int .i64 c.procs)).setCell ⟨b, 7, none⟩ (.int .i64 c.regions)).setCell ⟨b, 8, none⟩ (.int .i64 c.pages))
set_option maxHeartbeats 4000000 in
theorem Boxed.store {w : World} {b : Nat} {c : Cfg} (h : Boxed w b c) (d : Cfg) : Boxed (putC w b d) b d ∧ Frm (· = b) w (putC w b d) := by
  have hF : ∀ (a z : World) (j : Nat) (v : Value), Frm (· = b) a z → Frm (· = b) a (z.setCell ⟨b, j, none⟩ v) := fun a z j v hf => hf.setCell b j (Or.inl rfl) v
  refine ⟨?_, hF _ _ _ _ (hF _ _ _ _ (hF _ _ _ _ (hF _ _ _ _ (hF _ _ _ _ (hF _ _ _ _ (hF _ _ _ _ (hF _ _ _ _ (hF _ _ _ _ (Frm.refl _ w)))))))))⟩
  have h0 := heap_setCell_same _ b 0 _ _ (.int .i64 d.sectors) h
  have h1 := heap_setCell_same _ b 1 _ _ (.int .i64 d.sector) h0
  have h2 := heap_setCell_same _ b 2 _ _ (.int .i64 d.journal) h1
  have h3 := heap_setCell_same _ b 3 _ _ (.int .i64 d.segment) h2
  have h4 := heap_setCell_same _ b 4 _ _ (.int .i64 d.page) h3
  have h5 := heap_setCell_same _ b 5 _ _ (.int .i64 d.frames) h4
  have h6 := heap_setCell_same _ b 6 _ _ (.int .i64 d.procs) h5
  have h7 := heap_setCell_same _ b 7 _ _ (.int .i64 d.regions) h6
  have h8 := heap_setCell_same _ b 8 _ _ (.int .i64 d.pages) h7
  have e : (((((((((C9 c).setIfInBounds 0 (.int .i64 d.sectors)).setIfInBounds 1 (.int .i64 d.sector)).setIfInBounds 2 (.int .i64 d.journal)).setIfInBounds 3 (.int .i64 d.segment)).setIfInBounds 4 (.int .i64 d.page)).setIfInBounds 5 (.int .i64 d.frames)).setIfInBounds 6 (.int .i64 d.procs)).setIfInBounds 7 (.int .i64 d.regions)).setIfInBounds 8 (.int .i64 d.pages) = C9 d := by simp [C9]
  rw [e] at h8
  exact h8
theorem check0 (s2 s3 s4 s5 s6 s7 s8 s9 : Int) (w : World) : Calls Try.prog 16 #[.agg #[.int .i64 0, .int .i64 s2, .int .i64 s3, .int .i64 s4, .int .i64 s5, .int .i64 s6, .int .i64 s7, .int .i64 s8, .int .i64 s9]] w fun e w' => e = .returned (.int .i64 1) ∧ Below w.heap.size w w' := by
  have h := check_any ⟨0, s2, s3, s4, s5, s6, s7, s8, s9⟩ w
  have hc : checkB ⟨0, s2, s3, s4, s5, s6, s7, s8, s9⟩ = false := by
    cases hk : checkB ⟨0, s2, s3, s4, s5, s6, s7, s8, s9⟩ with
    | false => rfl
    | true =>
      have := (numB_true (checkB_true hk).1).1
      dsimp only at this
      omega
  rw [hc] at h
  exact h
/-- what Decode tells -/
def DecP (w : World) (o : Option Cfg) (e : Ending) (w' : World) : Prop := e = .returned (.tuple #[(o.getD cfgZ).val, .int .i64 (if o.isSome then 0 else 22)]) ∧ Below w.heap.size w w'
set_option maxRecDepth 100000 in
set_option maxHeartbeats 4000000 in
theorem gdecode_any (vb : Value) (l : List UInt8) (hl : l.length < 4294967296) (w : World) (B : Nat) (hB : B ≤ w.heap.size) (hr : RdV w B vb (bv l)) :
    Calls Try.prog 29 #[vb] w (DecP w (decF bi l)) := by
  have hb1 : Below w.heap.size w (w.alloc (.cells #[.int .i64 0, .int .i64 0, .int .i64 0, .int .i64 0, .int .i64 0, .int .i64 0, .int .i64 0, .int .i64 0, .int .i64 0] 23)) := (Below.refl _ w).alloc (Nat.le_refl _) _
  have hx1 : Boxed (w.alloc (.cells #[.int .i64 0, .int .i64 0, .int .i64 0, .int .i64 0, .int .i64 0, .int .i64 0, .int .i64 0, .int .i64 0, .int .i64 0] 23)) w.heap.size cfgZ := Boxed.new w cfgZ
  have hs1 : (w.alloc (.cells #[.int .i64 0, .int .i64 0, .int .i64 0, .int .i64 0, .int .i64 0, .int .i64 0, .int .i64 0, .int .i64 0, .int .i64 0] 23)).heap.size = w.heap.size + 1 := by simp
  go_enter Try.func29, Try.ntmps29
  go_upto_region 1 with (fail)
  generalize w.alloc (.cells #[.int .i64 0, .int .i64 0, .int .i64 0, .int .i64 0, .int .i64 0, .int .i64 0, .int .i64 0, .int .i64 0, .int .i64 0] 23) = w1 at hb1 hx1 hs1 ⊢
  have hs1' : w.heap.size < w1.heap.size := by omega
  clear hs1
  have hb2 : Below w1.heap.size w1 (w1.alloc (.cells #[.int .i64 0, .int .i64 0, .int .i64 0, .int .i64 0, .int .i64 0, .int .i64 0, .int .i64 0, .int .i64 0, .int .i64 0] 23)) := (Below.refl _ w1).alloc (Nat.le_refl _) _
  have hx2 : Boxed (w1.alloc (.cells #[.int .i64 0, .int .i64 0, .int .i64 0, .int .i64 0, .int .i64 0, .int .i64 0, .int .i64 0, .int .i64 0, .int .i64 0] 23)) w1.heap.size (cfgP (vl bi (l, 0)) 0) := Boxed.new w1 cfgZ
  have hs2 : (w1.alloc (.cells #[.int .i64 0, .int .i64 0, .int .i64 0, .int .i64 0, .int .i64 0, .int .i64 0, .int .i64 0, .int .i64 0, .int .i64 0] 23)).heap.size = w1.heap.size + 1 := by simp
  go_upto_region 2 with (fail)
  generalize w1.alloc (.cells #[.int .i64 0, .int .i64 0, .int .i64 0, .int .i64 0, .int .i64 0, .int .i64 0, .int .i64 0, .int .i64 0, .int .i64 0] 23) = w2 at hb2 hx2 hs2 ⊢
  have hs2' : w1.heap.size < w2.heap.size := by omega
  clear hs2
  have HB2 := Lib.hid (hb1.trans (hb2.mono (by omega)))
  have HX1 := Lib.hid (hx1.next hb2)
  have HX2 := Lib.hid hx2
  have HNR := Lib.hid (newreader_any vb l hl w2 B (by omega) (hr.below ((hb1.trans (hb2.mono (by omega))).mono hB)))
  clear hb1 hx1 hb2 hx2 hr
  go_wp2_with fail
  refine HNR.out.mono ?_
  rintro e w3 ⟨k, rfl, hk, hc3, hb3⟩
  have hz3 := hb3.size
  have hlt3 := hc3.lt
  have HC3 := Lib.hid hc3
  have HX13 := Lib.hid (Boxed.next hb3 HX1.out)
  have HX23 := Lib.hid (Boxed.next hb3 HX2.out)
  have HB3 := Lib.hid (HB2.out.trans (hb3.mono (by omega)))
  have HL := Lib.hid (glist_any w1.heap.size w3)
  clear hc3 hb3 HNR HX1 HX2 HB2
  go_wp2_with fail
  refine HL.out.mono ?_
  rintro e w4 ⟨rfl, hx4, hb4⟩
  have hz4 : w3.heap.size < w4.heap.size := by
    rcases Nat.lt_or_ge w3.heap.size w4.heap.size with h1 | h1
    · exact h1
    · rw [Array.getElem?_eq_none h1] at hx4; cases hx4
  have HC4 := Lib.hid (HC3.out.next hb4)
  have HX14 := Lib.hid (Boxed.next hb4 HX13.out)
  have HX24 := Lib.hid (Boxed.next hb4 HX23.out)
  have HB4 := Lib.hid (HB3.out.trans (hb4.mono (by omega)))
  have HX4 := Lib.hid hx4
  clear hx4 hb4 HL HX13 HX23 HB3 HC3
  go_wp2_with fail
  go_loopw [12, 7] (fun i _ wx => ∃ q : Nat, q ≤ 9 ∧ i = .int .i64 q ∧ CBox wx k (st bi (l, 0) q).1 (st bi (l, 0) q).2 ∧ Boxed wx w1.heap.size (cfgP (vl bi (l, 0)) q) ∧ Boxed wx w.heap.size cfgZ ∧ wx.heap[w3.heap.size]? = some (.cells (ptrs w1.heap.size) 105 (0, 0)) ∧ Below w.heap.size w wx ∧ w4.heap.size ≤ wx.heap.size) (fun i _ wx => 9 - (intOf i).toNat)
  case atStart => exact ⟨0, by omega, rfl, HC4.out, HX24.out, HX14.out, HX4.out, HB4.out, Nat.le_refl _⟩
  case round =>
    clear HC4 HX24 HX14 HX4 HB4
    obtain ⟨q, hq, rfl, hc, hx2, hx1, hp, hb, hz⟩ := hrel
    by_cases hlt : q < 9
    · have d1 : wr.cell? ⟨w3.heap.size, q, none⟩ = some (.pointer (some ⟨w1.heap.size, q, none⟩)) := (cell_of_row wr w3.heap.size q _ _ (0, 0) hp).trans (ptrs_at _ q hlt)
      have HBW := Lib.hid (rbetween_any wr k (st bi (l, 0) q).1 (st bi (l, 0) q).2 1 65536 hc (by have h5 : (st bi (l, 0) q).1.length ≤ l.length := st_len bi_len (l, 0) q; omega))
      have HX1 := Lib.hid hx1
      have HX2 := Lib.hid hx2
      have HP := Lib.hid hp
      have HB := Lib.hid hb
      have hv : (readV (st bi (l, 0) q).2 (st bi (l, 0) q).1 (within 1 65536 (numO (st bi (l, 0) q).1))).1 = vl bi (l, 0) q := rfl
      have hss : (readV (st bi (l, 0) q).2 (st bi (l, 0) q).1 (within 1 65536 (numO (st bi (l, 0) q).1))).2 = st bi (l, 0) (q + 1) := rfl
      rw [hv, hss] at HBW
      have HPUT := fun wz (h : Boxed wz w1.heap.size (cfgP (vl bi (l, 0)) q)) => Lib.hid (h.put hlt)
      have hj : J64 (vl bi (l, 0) q) := readV_fits.2
      generalize vl bi (l, 0) q = z at *
      clear hc hx1 hx2 hp hb hv hss
      go_wp2_with fail
      refine HBW.out.mono ?_
      rintro e w5 ⟨rfl, hc5, hf5⟩
      have hx25 : Boxed w5 w1.heap.size _ := (hf5.block w1.heap.size (by omega) (by omega)).trans HX2.out
      have g1 : w5.frozen? ⟨w1.heap.size, q, none⟩ = false := frozen_of_row w5 w1.heap.size q _ _ hx25
      have c1 : w5.cell? ⟨w1.heap.size, q, none⟩ = _ := (cell_of_row w5 w1.heap.size q _ _ (0, 0) hx25).trans (c9_at _ q hlt)
      have hFs : Frm (· = w1.heap.size) w5 (w5.setCell ⟨w1.heap.size, q, none⟩ (.int .i64 z)) := (Frm.refl (fun x => x = w1.heap.size) w5).setCell w1.heap.size q (Or.inl rfl) _
      have HX26 := HPUT w5 hx25
      have HF6 := Lib.hid ((hf5.mono (O' := fun j => j = k ∨ j = w1.heap.size) fun j _ e => Or.inl e).trans (hFs.mono fun j _ e => Or.inr e))
      have HC6 := Lib.hid (hc5.notCfg hx25 (by omega) hFs)
      generalize hw6 : w5.setCell ⟨w1.heap.size, q, none⟩ (.int .i64 z) = w6 at *
      have HW6 := Lib.hid hw6
      have HX16 := Lib.hid (show Boxed w6 w.heap.size cfgZ from (HF6.out.block w.heap.size (by omega) (by rintro (e | e) <;> omega)).trans HX1.out)
      have HP6 := Lib.hid ((HF6.out.block w3.heap.size (by omega) (by rintro (e | e) <;> omega)).trans HP.out)
      have HB6 := Lib.hid (HB.out.trans (HF6.out.below (B := w.heap.size) (fun j e => by rcases e with e | e <;> omega) (by omega)))
      have hz6 := HF6.out.size
      clear hc5 hf5 hx25 hFs HBW hw6 HPUT HX1 HX2 HP HB HF6
      go_wp2_with fail
      rw [HW6.out]
      go_roundw
      case rel => exact ⟨q + 1, by omega, by go_num, HC6.out, HX26.out, HX16.out, HP6.out, HB6.out, by omega⟩
      case measure => simp [intOf]; omega
    · obtain rfl : q = 9 := by omega
      rw [cfgP_all] at hx2
      have HE := Lib.hid (end_any wr k _ _ hc)
      obtain ⟨k0, k1, k2, k3, k4, k5, k6, k7, k8⟩ := hx2.cells
      have z1 := hx1.cells
      have hfz := fun i => frozen_of_row wr w.heap.size i _ _ hx1
      have HB := Lib.hid hb
      have HX1 := Lib.hid hx1
      have hbl : w.heap.size < wr.heap.size := by omega
      have hd : decF bi l = if st bi (l, 0) 9 = ([], 0) ∧ checkB (cfgV (vl bi (l, 0))) = true then some (cfgV (vl bi (l, 0))) else none := rfl
      have HD := Lib.hid hd
      generalize st bi (l, 0) 9 = s9 at *
      generalize cfgV (vl bi (l, 0)) = c9 at *
      obtain ⟨l9, e9⟩ := s9
      clear hc hx2 hx1 hp hb hd
      have HCK := Lib.hid (check_any c9 wr)
      by_cases hee : e9 = 0 ∧ l9 = []
      · obtain ⟨rfl, rfl⟩ := hee
        rw [if_neg (fun h => h.2 rfl)] at HE
        obtain ⟨s1, s2, s3, s4, s5, s6, s7, s8, s9⟩ := c9
        unfold Cfg.val at HCK
        dsimp only at k0 k1 k2 k3 k4 k5 k6 k7 k8 HCK
        go_wp2_with fail
        refine HE.out.mono ?_
        rintro e w7 ⟨rfl, rfl⟩
        clear z1 hfz
        cases hck : checkB ⟨s1, s2, s3, s4, s5, s6, s7, s8, s9⟩ with
        | true =>
          have hs1 := (numB_true (checkB_true hck).1).1
          dsimp only at hs1
          have hsb : (s1 == 0) = false := by rw [beq_eq_false_iff_ne]; omega
          rw [hck] at HCK
          have HS := Lib.hid (show decF bi l = some ⟨s1, s2, s3, s4, s5, s6, s7, s8, s9⟩ from by rw [HD.out, if_pos ⟨by first | trivial | rfl, hck⟩])
          clear hck HD hs1
          go_wp2_with fail
          refine HCK.out.mono ?_
          rintro e w8 ⟨rfl, hb8⟩
          have HX8 := Lib.hid (HX1.out.next hb8)
          have HB8 := Lib.hid (HB.out.trans (hb8.mono HB.out.size))
          have k0' := (hb8.cell (p := ⟨w1.heap.size, 0, none⟩) (by show w1.heap.size < wr.heap.size; omega)).trans k0
          have k1' := (hb8.cell (p := ⟨w1.heap.size, 1, none⟩) (by show w1.heap.size < wr.heap.size; omega)).trans k1
          have k2' := (hb8.cell (p := ⟨w1.heap.size, 2, none⟩) (by show w1.heap.size < wr.heap.size; omega)).trans k2
          have k3' := (hb8.cell (p := ⟨w1.heap.size, 3, none⟩) (by show w1.heap.size < wr.heap.size; omega)).trans k3
          have k4' := (hb8.cell (p := ⟨w1.heap.size, 4, none⟩) (by show w1.heap.size < wr.heap.size; omega)).trans k4
          have k5' := (hb8.cell (p := ⟨w1.heap.size, 5, none⟩) (by show w1.heap.size < wr.heap.size; omega)).trans k5
          have k6' := (hb8.cell (p := ⟨w1.heap.size, 6, none⟩) (by show w1.heap.size < wr.heap.size; omega)).trans k6
          have k7' := (hb8.cell (p := ⟨w1.heap.size, 7, none⟩) (by show w1.heap.size < wr.heap.size; omega)).trans k7
          have k8' := (hb8.cell (p := ⟨w1.heap.size, 8, none⟩) (by show w1.heap.size < wr.heap.size; omega)).trans k8
          clear hb8 k0 k1 k2 k3 k4 k5 k6 k7 k8 HX1 HB HCK
          obtain ⟨z0, z1', z2, z3, z4, z5, z6, z7, z8⟩ := HX8.out.cells
          have hfz := fun i => frozen_of_row w8 w.heap.size i _ _ HX8.out
          dsimp only [cfgZ] at z0 z1' z2 z3 z4 z5 z6 z7 z8
          have f0 := hfz 0
          have f1 := hfz 1
          have f2 := hfz 2
          have f3 := hfz 3
          have f4 := hfz 4
          have f5 := hfz 5
          have f6 := hfz 6
          have f7 := hfz 7
          have f8 := hfz 8
          clear hfz
          go_wp2
          have hE5 : (((((((((w8.setCell ⟨w.heap.size, 0, none⟩ (.int .i64 s1)).setCell ⟨w.heap.size, 1, none⟩ (.int .i64 s2)).setCell ⟨w.heap.size, 2, none⟩ (.int .i64 s3)).setCell ⟨w.heap.size, 3, none⟩ (.int .i64 s4)).setCell ⟨w.heap.size, 4, none⟩ (.int .i64 s5)).setCell ⟨w.heap.size, 5, none⟩ (.int .i64 s6)).setCell ⟨w.heap.size, 6, none⟩ (.int .i64 s7)).setCell ⟨w.heap.size, 7, none⟩ (.int .i64 s8)).setCell ⟨w.heap.size, 8, none⟩ (.int .i64 s9)) = putC w8 w.heap.size ⟨s1, s2, s3, s4, s5, s6, s7, s8, s9⟩ := rfl
          rw [hE5]
          obtain ⟨hO5, hF5⟩ := HX8.out.store ⟨s1, s2, s3, s4, s5, s6, s7, s8, s9⟩
          generalize putC w8 w.heap.size ⟨s1, s2, s3, s4, s5, s6, s7, s8, s9⟩ = w9 at hO5 hF5 ⊢
          refine bodyPost_ret (v := .tuple #[(⟨s1, s2, s3, s4, s5, s6, s7, s8, s9⟩ : Cfg).val, .int .i64 0]) ?_ rfl ?_
          · have hr := run_loadVar_row (P := Try.prog) w9 w.heap.size 23 23 (C9 ⟨s1, s2, s3, s4, s5, s6, s7, s8, s9⟩) (0, 0) _ hO5 Try.underlying23 rfl (by kernel_rfl)
            simp [results, Try.f29, asAddr, hr, Cfg.val, C9]
          · rw [HS.out]
            exact ⟨rfl, HB8.out.trans (hF5.below (fun j e => by omega) HB8.out.size)⟩
        | false =>
          have HN := Lib.hid (show decF bi l = none from by rw [HD.out, if_neg (fun h => by rw [hck] at h; cases h.2)])
          rw [hck] at HCK
          clear HD
          by_cases h0 : s1 = 0
          · subst h0
            clear HCK hck
            have HX8 := HX1
            have HB8 := HB
            obtain ⟨z0, z1', z2, z3, z4, z5, z6, z7, z8⟩ := HX8.out.cells
            dsimp only [cfgZ] at z0 z1' z2 z3 z4 z5 z6 z7 z8
            have f0 := frozen_of_row wr w.heap.size 0 _ _ HX8.out
            have f1 := frozen_of_row wr w.heap.size 1 _ _ HX8.out
            have f2 := frozen_of_row wr w.heap.size 2 _ _ HX8.out
            have f3 := frozen_of_row wr w.heap.size 3 _ _ HX8.out
            have f4 := frozen_of_row wr w.heap.size 4 _ _ HX8.out
            have f5 := frozen_of_row wr w.heap.size 5 _ _ HX8.out
            have f6 := frozen_of_row wr w.heap.size 6 _ _ HX8.out
            have f7 := frozen_of_row wr w.heap.size 7 _ _ HX8.out
            have f8 := frozen_of_row wr w.heap.size 8 _ _ HX8.out
            go_wp2_with fail
            all_goals first
              | (refine (check0 _ _ _ _ _ _ _ _ _).mono ?_
                 rintro e w8 ⟨rfl, hb8⟩
                 clear z0 z1' z2 z3 z4 z5 z6 z7 z8 f0 f1 f2 f3 f4 f5 f6 f7 f8 k0 k1 k2 k3 k4 k5 k6 k7 k8
                 have HX8 := Lib.hid (HX1.out.next hb8)
                 have HB8 := Lib.hid (HB.out.trans (hb8.mono HB.out.size))
                 clear hb8 HX1 HB
                 obtain ⟨z0, z1', z2, z3, z4, z5, z6, z7, z8⟩ := HX8.out.cells
                 dsimp only [cfgZ] at z0 z1' z2 z3 z4 z5 z6 z7 z8
                 have f0 := frozen_of_row w8 w.heap.size 0 _ _ HX8.out
                 have f1 := frozen_of_row w8 w.heap.size 1 _ _ HX8.out
                 have f2 := frozen_of_row w8 w.heap.size 2 _ _ HX8.out
                 have f3 := frozen_of_row w8 w.heap.size 3 _ _ HX8.out
                 have f4 := frozen_of_row w8 w.heap.size 4 _ _ HX8.out
                 have f5 := frozen_of_row w8 w.heap.size 5 _ _ HX8.out
                 have f6 := frozen_of_row w8 w.heap.size 6 _ _ HX8.out
                 have f7 := frozen_of_row w8 w.heap.size 7 _ _ HX8.out
                 have f8 := frozen_of_row w8 w.heap.size 8 _ _ HX8.out
                 go_wp2
                 have hE5 : (((((((((w8.setCell ⟨w.heap.size, 0, none⟩ (.int .i64 0)).setCell ⟨w.heap.size, 1, none⟩ (.int .i64 0)).setCell ⟨w.heap.size, 2, none⟩ (.int .i64 0)).setCell ⟨w.heap.size, 3, none⟩ (.int .i64 0)).setCell ⟨w.heap.size, 4, none⟩ (.int .i64 0)).setCell ⟨w.heap.size, 5, none⟩ (.int .i64 0)).setCell ⟨w.heap.size, 6, none⟩ (.int .i64 0)).setCell ⟨w.heap.size, 7, none⟩ (.int .i64 0)).setCell ⟨w.heap.size, 8, none⟩ (.int .i64 0)) = putC w8 w.heap.size cfgZ := rfl
                 rw [hE5]
                 obtain ⟨hO5, hF5⟩ := HX8.out.store cfgZ
                 generalize putC w8 w.heap.size cfgZ = w9 at hO5 hF5 ⊢
                 refine bodyPost_ret (v := .tuple #[cfgZ.val, .int .i64 22]) ?_ rfl ?_
                 · have hr := run_loadVar_row (P := Try.prog) w9 w.heap.size 23 23 (C9 cfgZ) (0, 0) _ hO5 Try.underlying23 rfl (by kernel_rfl)
                   simp [results, Try.f29, asAddr, hr, Cfg.val, C9]
                 · rw [HN.out]
                   exact ⟨rfl, HB8.out.trans (hF5.below (fun j e => by omega) HB8.out.size)⟩)
              | (
                 have hE5 : (((((((((wr.setCell ⟨w.heap.size, 0, none⟩ (.int .i64 0)).setCell ⟨w.heap.size, 1, none⟩ (.int .i64 0)).setCell ⟨w.heap.size, 2, none⟩ (.int .i64 0)).setCell ⟨w.heap.size, 3, none⟩ (.int .i64 0)).setCell ⟨w.heap.size, 4, none⟩ (.int .i64 0)).setCell ⟨w.heap.size, 5, none⟩ (.int .i64 0)).setCell ⟨w.heap.size, 6, none⟩ (.int .i64 0)).setCell ⟨w.heap.size, 7, none⟩ (.int .i64 0)).setCell ⟨w.heap.size, 8, none⟩ (.int .i64 0)) = putC wr w.heap.size cfgZ := rfl
                 rw [hE5]
                 obtain ⟨hO5, hF5⟩ := HX8.out.store cfgZ
                 generalize putC wr w.heap.size cfgZ = w9 at hO5 hF5 ⊢
                 refine bodyPost_ret (v := .tuple #[cfgZ.val, .int .i64 22]) ?_ rfl ?_
                 · have hr := run_loadVar_row (P := Try.prog) w9 w.heap.size 23 23 (C9 cfgZ) (0, 0) _ hO5 Try.underlying23 rfl (by kernel_rfl)
                   simp [results, Try.f29, asAddr, hr, Cfg.val, C9]
                 · rw [HN.out]
                   exact ⟨rfl, HB8.out.trans (hF5.below (fun j e => by omega) HB8.out.size)⟩)
          · have hsb : (s1 == 0) = false := by rw [beq_eq_false_iff_ne]; exact h0
            clear hck h0
            go_wp2_with fail
            refine HCK.out.mono ?_
            rintro e w8 ⟨rfl, hb8⟩
            have HX8 := Lib.hid (HX1.out.next hb8)
            have HB8 := Lib.hid (HB.out.trans (hb8.mono HB.out.size))
            clear hb8 k0 k1 k2 k3 k4 k5 k6 k7 k8 HX1 HB HCK
            obtain ⟨z0, z1', z2, z3, z4, z5, z6, z7, z8⟩ := HX8.out.cells
            have hfz := fun i => frozen_of_row w8 w.heap.size i _ _ HX8.out
            dsimp only [cfgZ] at z0 z1' z2 z3 z4 z5 z6 z7 z8
            have f0 := hfz 0
            have f1 := hfz 1
            have f2 := hfz 2
            have f3 := hfz 3
            have f4 := hfz 4
            have f5 := hfz 5
            have f6 := hfz 6
            have f7 := hfz 7
            have f8 := hfz 8
            clear hfz
            go_wp2
            have hE5 : (((((((((w8.setCell ⟨w.heap.size, 0, none⟩ (.int .i64 0)).setCell ⟨w.heap.size, 1, none⟩ (.int .i64 0)).setCell ⟨w.heap.size, 2, none⟩ (.int .i64 0)).setCell ⟨w.heap.size, 3, none⟩ (.int .i64 0)).setCell ⟨w.heap.size, 4, none⟩ (.int .i64 0)).setCell ⟨w.heap.size, 5, none⟩ (.int .i64 0)).setCell ⟨w.heap.size, 6, none⟩ (.int .i64 0)).setCell ⟨w.heap.size, 7, none⟩ (.int .i64 0)).setCell ⟨w.heap.size, 8, none⟩ (.int .i64 0)) = putC w8 w.heap.size cfgZ := rfl
            rw [hE5]
            obtain ⟨hO5, hF5⟩ := HX8.out.store cfgZ
            generalize putC w8 w.heap.size cfgZ = w9 at hO5 hF5 ⊢
            refine bodyPost_ret (v := .tuple #[cfgZ.val, .int .i64 22]) ?_ rfl ?_
            · have hr := run_loadVar_row (P := Try.prog) w9 w.heap.size 23 23 (C9 cfgZ) (0, 0) _ hO5 Try.underlying23 rfl (by kernel_rfl)
              simp [results, Try.f29, asAddr, hr, Cfg.val, C9]
            · rw [HN.out]
              exact ⟨rfl, HB8.out.trans (hF5.below (fun j e => by omega) HB8.out.size)⟩
      · have HN := Lib.hid (show decF bi l = none from by rw [HD.out, if_neg (fun h => hee (by have := h.1; injection this with h1 h2; exact ⟨h2, h1⟩))])
        have hne : ¬ (if e9 = 0 ∧ l9 ≠ [] then (22 : Int) else e9) = 0 := by
          split
          · decide
          · rename_i h1
            intro h2
            subst h2
            exact hee ⟨rfl, Classical.byContradiction fun h3 => h1 ⟨rfl, h3⟩⟩
        have hneb : ((if e9 = 0 ∧ l9 ≠ [] then (22 : Int) else e9) != 0) = true := by simp [bne, hne]
        have hneb2 : ((if e9 = 0 ∧ l9 ≠ [] then (22 : Int) else e9) == 0) = false := by rw [beq_eq_false_iff_ne]; exact hne
        have HX8 := HX1
        have HB8 := HB
        generalize (if e9 = 0 ∧ l9 ≠ [] then (22 : Int) else e9) = z9 at *
        clear hee HD HCK z1 hfz k0 k1 k2 k3 k4 k5 k6 k7 k8 HX1 HB hne
        go_wp2_with fail
        refine HE.out.mono ?_
        rintro e w8 ⟨rfl, rfl⟩
        obtain ⟨z0, z1', z2, z3, z4, z5, z6, z7, z8⟩ := HX8.out.cells
        have hfz := fun i => frozen_of_row wr w.heap.size i _ _ HX8.out
        dsimp only [cfgZ] at z0 z1' z2 z3 z4 z5 z6 z7 z8
        have f0 := hfz 0
        have f1 := hfz 1
        have f2 := hfz 2
        have f3 := hfz 3
        have f4 := hfz 4
        have f5 := hfz 5
        have f6 := hfz 6
        have f7 := hfz 7
        have f8 := hfz 8
        clear hfz
        go_wp2
        have hE5 : (((((((((wr.setCell ⟨w.heap.size, 0, none⟩ (.int .i64 0)).setCell ⟨w.heap.size, 1, none⟩ (.int .i64 0)).setCell ⟨w.heap.size, 2, none⟩ (.int .i64 0)).setCell ⟨w.heap.size, 3, none⟩ (.int .i64 0)).setCell ⟨w.heap.size, 4, none⟩ (.int .i64 0)).setCell ⟨w.heap.size, 5, none⟩ (.int .i64 0)).setCell ⟨w.heap.size, 6, none⟩ (.int .i64 0)).setCell ⟨w.heap.size, 7, none⟩ (.int .i64 0)).setCell ⟨w.heap.size, 8, none⟩ (.int .i64 0)) = putC wr w.heap.size cfgZ := rfl
        rw [hE5]
        obtain ⟨hO5, hF5⟩ := HX8.out.store cfgZ
        generalize putC wr w.heap.size cfgZ = w9 at hO5 hF5 ⊢
        refine bodyPost_ret (v := .tuple #[cfgZ.val, .int .i64 22]) ?_ rfl ?_
        · have hr := run_loadVar_row (P := Try.prog) w9 w.heap.size 23 23 (C9 cfgZ) (0, 0) _ hO5 Try.underlying23 rfl (by kernel_rfl)
          simp [results, Try.f29, asAddr, hr, Cfg.val, C9]
        · rw [HN.out]
          exact ⟨rfl, HB8.out.trans (hF5.below (fun j e => by omega) HB8.out.size)⟩
end Go.Proofs.Ytlbodandidopfaa
