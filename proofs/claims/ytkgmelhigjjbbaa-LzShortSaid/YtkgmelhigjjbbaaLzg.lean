/- lz.greedy lays tokens that come to the bytes that it is given. Conditions: the row is shorter than 2^31. -/
import Derived.Test.YtkgmelhigjjbbaaLza
import Derived.Deep.RegionLaw
import Derived.Deep.DeepCutAuto
import Derived.Deep.DrawnRows
namespace Go.Proofs.Ytkgmelhigjjbbaa
open Go.ChangeShapes Go.WideShapes Go.ChangeAt Go.RowKit
set_option linter.unusedSimpArgs false
set_option linter.unusedVariables false
theorem Try.infI4 : (Try.prog.info? 3).map (fun i => (i.zero, i.size, i.bytes)) = some (some (.int .i64 0), 1, 8) := by kernel_rfl
theorem u32_small {sz : Nat} {e : Int} {P : Prop} (h0 : 0 ≤ e) (h1 : e < sz) (hp : P) : ∃ s' : Nat, s' < sz ∧ Value.int .u32 e = .int .u32 (s' : Nat) ∧ P := ⟨e.toNat, by omega, by rw [Int.toNat_of_nonneg h0], hp⟩
/-- the table of places: a place and one, or none -/
def TBox (w : World) (gt sz m : Nat) : Prop := ∃ cs, w.heap[gt]? = some (.cells cs 3 (0, 0)) ∧ cs.size = sz ∧ ∀ i, i < sz → ∃ z : Nat, z ≤ m ∧ cs[i]? = some (.int .i64 (z : Nat))
theorem TBox.lt {w : World} {gt sz m : Nat} (h : TBox w gt sz m) : gt < w.heap.size := by
  obtain ⟨cs, h1, _⟩ := h
  rcases Nat.lt_or_ge gt w.heap.size with h2 | h2
  · exact h2
  · rw [Array.getElem?_eq_none h2] at h1; cases h1
theorem TBox.keep {w w' : World} {gt sz m : Nat} (h : TBox w gt sz m) (hk : w'.heap[gt]? = w.heap[gt]?) : TBox w' gt sz m := by
  obtain ⟨cs, h1, h2, h3⟩ := h
  exact ⟨cs, hk.trans h1, h2, h3⟩
theorem TBox.more {w : World} {gt sz m m' : Nat} (h : TBox w gt sz m) (hm : m ≤ m') : TBox w gt sz m' := by
  obtain ⟨cs, h1, h2, h3⟩ := h
  exact ⟨cs, h1, h2, fun i hi => by obtain ⟨z, hz, hc⟩ := h3 i hi; exact ⟨z, by omega, hc⟩⟩
theorem TBox.get {w : World} {gt sz m : Nat} (h : TBox w gt sz m) (i : Nat) (hi : i < sz) : ∃ z : Nat, z ≤ m ∧ w.cell? ⟨gt, i, none⟩ = some (.int .i64 (z : Nat)) ∧ w.frozen? ⟨gt, i, none⟩ = false := by
  obtain ⟨cs, h1, h2, h3⟩ := h
  obtain ⟨z, hz, hc⟩ := h3 i hi
  exact ⟨z, hz, by rw [cell_of_row w gt i cs _ _ h1]; exact hc, frozen_of_row w gt i cs _ h1⟩
theorem TBox.set {w : World} {gt sz m : Nat} (h : TBox w gt sz m) (i : Nat) (hi : i < sz) (z m' : Nat) (hm : m ≤ m') (hz : z ≤ m') : TBox (w.setCell ⟨gt, i, none⟩ (.int .i64 (z : Nat))) gt sz m' := by
  obtain ⟨cs, h1, h2, h3⟩ := h
  refine ⟨_, heap_setCell_same w gt i cs _ _ h1, by simp [h2], fun j hj => ?_⟩
  by_cases hij : i = j
  · subst hij
    exact ⟨z, hz, by simp [h2, hi]⟩
  · obtain ⟨y, hy, hc⟩ := h3 j hj
    exact ⟨y, by omega, by rw [Array.getElem?_setIfInBounds_ne hij]; exact hc⟩
theorem TBox.new {w : World} {base gt sz : Nat} (h : w.ownsRow base 3 1 (.slice (some ⟨gt, 0, none⟩) sz sz) sz (List.replicate sz (.int .i64 0))) (h0 : 0 < sz) : TBox w gt sz 0 := by
  rcases h.2 with h1 | ⟨g, cap, cur, hv, hg, hh, hn, hm, hs, ht⟩
  · have := h1.1; omega
  · injection hv with e1 e2 e3
    injection e1 with e1
    injection e1 with e1
    subst e1 e3
    refine ⟨cur, hh, by omega, fun i hi => ⟨0, Nat.le_refl _, ?_⟩⟩
    have h2 : (cur.toList.take (sz * 1))[i]? = some (.int .i64 0) := by rw [ht]; simp [hi]
    rw [List.getElem?_take_of_lt (by omega)] at h2
    simpa using h2
/-- where a word stands in the table -/
def slotF (kb V : Nat) : Nat := V % 4294967296 * 2654435761 % 4294967296 / 2 ^ (32 - kb)
theorem slot_eq {kb V : Nat} {e : Int} (h : e = (slotF kb V : Nat)) : Value.int .u32 e = .int .u32 (slotF kb V : Nat) := by rw [h]
/-- a row of equal bytes -/
def Flat (l : List UInt8) : Prop := (∃ b, l = List.replicate l.length b) ∧ 16 ≤ l.length ∧ l.length ≤ 65536
theorem Flat.word {l : List UInt8} (h : Flat l) (a : Nat) (ha : a ≤ 1) : Pu.getV (l.drop a) 4 = Pu.getV l 4 := by
  obtain ⟨⟨b, hb⟩, h1, h2⟩ := h
  generalize hn : l.length = n at *
  subst hb
  rw [List.drop_replicate]
  unfold Pu.getV Pu.getB
  simp only [List.length_replicate, List.take_replicate]
  rw [if_pos (by simp; omega), if_pos (by simp; omega)]
  congr 2
  omega
theorem Flat.same {l : List UInt8} (h : Flat l) (i j : Nat) (hi : i < l.length) (hj : j < l.length) : l[i]? = l[j]? := by
  obtain ⟨⟨b, hb⟩, _⟩ := h
  generalize hn : l.length = n at *
  subst hb
  simp [hi, hj]
theorem varF_short : ∀ (j k v : Nat), v < 128 ^ (j + 1) → (Pu.varF k v).length ≤ j + 1 := by
  intro j
  induction j with
  | zero =>
    intro k v h
    rcases k with _ | k
    · simp [Pu.varF]
    · rw [Pu.varF, if_pos (by omega)]; simp
  | succ j ih =>
    intro k v h
    rcases k with _ | k
    · simp [Pu.varF]
    · rw [Pu.varF]
      split
      · simp
      · have := ih k (v / 128) (by rw [Nat.div_lt_iff_lt_mul (by omega)]; rw [Nat.pow_succ] at h; exact h)
        simp only [List.length_cons]
        omega
/-- how far the walk has come over a row of equal bytes -/
def Cst (kb gt : Nat) (l p : List UInt8) (s a : Nat) (w : World) : Prop := Flat l →
  (a = 0 ∧ p = []) ∨ (a = 1 ∧ s = 0 ∧ p = [] ∧ w.cell? ⟨gt, slotF kb (Pu.getV l 4), none⟩ = some (.int .i64 1)) ∨ (a = l.length ∧ s = a ∧ p.length ≤ 6)
def GRel (base gt sz kb : Nat) (l : List UInt8) (w : World) (u st at_ : Value) (wr : World) : Prop :=
  ∃ (p : List UInt8) (s a : Nat), st = .int .i64 (s : Nat) ∧ at_ = .int .i64 (a : Nat) ∧ s ≤ a ∧ a ≤ l.length ∧ wr.ownsRow base 5 1 u (1 :: p).length (bv (1 :: p)) ∧ u.ownBlock ≠ some gt ∧ Hid (Lz.Tokens p (l.take s)) ∧ p.length ≤ 31 * s ∧ TBox wr gt sz a ∧ Below base w wr ∧ base ≤ gt ∧ Hid (Cst kb gt l p s a wr)
def GPost (base : Nat) (l : List UInt8) (w : World) (e : Ending) (w' : World) : Prop := ∃ r p, e = .returned r ∧ w'.ownsRow base 5 1 r (1 :: p).length (bv (1 :: p)) ∧ Lz.Tokens p l ∧ p.length ≤ 31 * l.length + 10 ∧ (Flat l → p.length ≤ 6) ∧ Below base w w'

set_option maxRecDepth 100000 in
set_option maxHeartbeats 8000000 in
theorem greedy_any (base : Nat) (v vb : Value) (l : List UInt8) (hl : l.length < 2147483648) (w : World) (hbase : base ≤ w.heap.size) (hown : w.ownsRow base 5 1 v 1 (bv [1])) (hr : RdV w base vb (bv l)) :
    Calls Try.prog 24 #[v, vb] w (GPost base l w) := by
  obtain ⟨A, c, rfl, hc1, hc2, _⟩ := id hr
  rw [bv_length] at hc1 hr ⊢
  unfold maxLen at hc2
  have hl0 := log_any l.length (by omega) w
  have hnb := Pu.nbits_le l.length 64 (by omega)
  have HL := Lib.hid hl0
  have HR := Lib.hid hr
  have HO := Lib.hid hown
  clear hl0 hr hown
  generalize Pu.nbits l.length = b at *
  go_enter Try.func24, Try.ntmps24
  go_upto_region 1 with (fail)
  go_cut [5] from 14 to 19 (fun s5 wx => ∃ kb : Nat, 6 ≤ kb ∧ kb ≤ 14 ∧ s5 = .int .i64 (kb : Nat) ∧ w = wx)
  case first =>
    have hnb : b ≤ 6 ∨ (6 < b ∧ b < 14) ∨ 14 ≤ b := by omega
    rcases hnb with hb | hb | hb
    · go_wp2_with fail
      refine HL.out.mono ?_
      rintro e w1 ⟨rfl, rfl⟩
      go_wp2
      all_goals go_meet
      all_goals first
        | exact ⟨6, by omega, by omega, rfl, rfl⟩
        | exact ⟨6, by omega, by omega, rfl, rfl⟩
        | exact ⟨b, by omega, by omega, rfl, rfl⟩
        | exact ⟨14, by omega, by omega, rfl, rfl⟩
    · go_wp2_with fail
      refine HL.out.mono ?_
      rintro e w1 ⟨rfl, rfl⟩
      go_wp2
      all_goals go_meet
      all_goals first
        | exact ⟨b, by omega, by omega, rfl, rfl⟩
        | exact ⟨6, by omega, by omega, rfl, rfl⟩
        | exact ⟨b, by omega, by omega, rfl, rfl⟩
        | exact ⟨14, by omega, by omega, rfl, rfl⟩
    · go_wp2_with fail
      refine HL.out.mono ?_
      rintro e w1 ⟨rfl, rfl⟩
      go_wp2
      all_goals go_meet
      all_goals first
        | exact ⟨14, by omega, by omega, rfl, rfl⟩
        | exact ⟨6, by omega, by omega, rfl, rfl⟩
        | exact ⟨b, by omega, by omega, rfl, rfl⟩
        | exact ⟨14, by omega, by omega, rfl, rfl⟩
  case rest =>
    obtain ⟨kb, hk1, hk2, rfl, rfl⟩ := hcut
    go_upto_region 2 with (fail)
    go_cut [6] from 20 to 22 (fun s6 wx => s6 = .slice (some ⟨w.heap.size, 0, none⟩) (2 ^ kb) (2 ^ kb) ∧ TBox wx w.heap.size (2 ^ kb) 0 ∧ w.grownBy wx none)
    case first =>
      have hkb : kb = 6 ∨ kb = 7 ∨ kb = 8 ∨ kb = 9 ∨ kb = 10 ∨ kb = 11 ∨ kb = 12 ∨ kb = 13 ∨ kb = 14 := by omega
      rcases hkb with rfl | rfl | rfl | rfl | rfl | rfl | rfl | rfl | rfl
      · go_wp2_with (at_make; refine wpList_make_rd _ rfl _ _ 47 rfl w.heap.size 3 (.int .i64 0) 8 Try.underlying47 Try.infI4 rfl .i64 .i64 64 64 _ _ rfl rfl rfl rfl (by omega) (by omega) (by unfold maxLen; omega) (Nat.le_refl _) ?_; intro w2 ho2 hg2; have HT2 := Lib.hid (TBox.new ho2 (by decide)); have HG2 := Lib.hid hg2; clear ho2 hg2)
        go_meet
        exact ⟨by rfl, HT2.out, HG2.out⟩
      · go_wp2_with (at_make; refine wpList_make_rd _ rfl _ _ 47 rfl w.heap.size 3 (.int .i64 0) 8 Try.underlying47 Try.infI4 rfl .i64 .i64 128 128 _ _ rfl rfl rfl rfl (by omega) (by omega) (by unfold maxLen; omega) (Nat.le_refl _) ?_; intro w2 ho2 hg2; have HT2 := Lib.hid (TBox.new ho2 (by decide)); have HG2 := Lib.hid hg2; clear ho2 hg2)
        go_meet
        exact ⟨by rfl, HT2.out, HG2.out⟩
      · go_wp2_with (at_make; refine wpList_make_rd _ rfl _ _ 47 rfl w.heap.size 3 (.int .i64 0) 8 Try.underlying47 Try.infI4 rfl .i64 .i64 256 256 _ _ rfl rfl rfl rfl (by omega) (by omega) (by unfold maxLen; omega) (Nat.le_refl _) ?_; intro w2 ho2 hg2; have HT2 := Lib.hid (TBox.new ho2 (by decide)); have HG2 := Lib.hid hg2; clear ho2 hg2)
        go_meet
        exact ⟨by rfl, HT2.out, HG2.out⟩
      · go_wp2_with (at_make; refine wpList_make_rd _ rfl _ _ 47 rfl w.heap.size 3 (.int .i64 0) 8 Try.underlying47 Try.infI4 rfl .i64 .i64 512 512 _ _ rfl rfl rfl rfl (by omega) (by omega) (by unfold maxLen; omega) (Nat.le_refl _) ?_; intro w2 ho2 hg2; have HT2 := Lib.hid (TBox.new ho2 (by decide)); have HG2 := Lib.hid hg2; clear ho2 hg2)
        go_meet
        exact ⟨by rfl, HT2.out, HG2.out⟩
      · go_wp2_with (at_make; refine wpList_make_rd _ rfl _ _ 47 rfl w.heap.size 3 (.int .i64 0) 8 Try.underlying47 Try.infI4 rfl .i64 .i64 1024 1024 _ _ rfl rfl rfl rfl (by omega) (by omega) (by unfold maxLen; omega) (Nat.le_refl _) ?_; intro w2 ho2 hg2; have HT2 := Lib.hid (TBox.new ho2 (by decide)); have HG2 := Lib.hid hg2; clear ho2 hg2)
        go_meet
        exact ⟨by rfl, HT2.out, HG2.out⟩
      · go_wp2_with (at_make; refine wpList_make_rd _ rfl _ _ 47 rfl w.heap.size 3 (.int .i64 0) 8 Try.underlying47 Try.infI4 rfl .i64 .i64 2048 2048 _ _ rfl rfl rfl rfl (by omega) (by omega) (by unfold maxLen; omega) (Nat.le_refl _) ?_; intro w2 ho2 hg2; have HT2 := Lib.hid (TBox.new ho2 (by decide)); have HG2 := Lib.hid hg2; clear ho2 hg2)
        go_meet
        exact ⟨by rfl, HT2.out, HG2.out⟩
      · go_wp2_with (at_make; refine wpList_make_rd _ rfl _ _ 47 rfl w.heap.size 3 (.int .i64 0) 8 Try.underlying47 Try.infI4 rfl .i64 .i64 4096 4096 _ _ rfl rfl rfl rfl (by omega) (by omega) (by unfold maxLen; omega) (Nat.le_refl _) ?_; intro w2 ho2 hg2; have HT2 := Lib.hid (TBox.new ho2 (by decide)); have HG2 := Lib.hid hg2; clear ho2 hg2)
        go_meet
        exact ⟨by rfl, HT2.out, HG2.out⟩
      · go_wp2_with (at_make; refine wpList_make_rd _ rfl _ _ 47 rfl w.heap.size 3 (.int .i64 0) 8 Try.underlying47 Try.infI4 rfl .i64 .i64 8192 8192 _ _ rfl rfl rfl rfl (by omega) (by omega) (by unfold maxLen; omega) (Nat.le_refl _) ?_; intro w2 ho2 hg2; have HT2 := Lib.hid (TBox.new ho2 (by decide)); have HG2 := Lib.hid hg2; clear ho2 hg2)
        go_meet
        exact ⟨by rfl, HT2.out, HG2.out⟩
      · go_wp2_with (at_make; refine wpList_make_rd _ rfl _ _ 47 rfl w.heap.size 3 (.int .i64 0) 8 Try.underlying47 Try.infI4 rfl .i64 .i64 16384 16384 _ _ rfl rfl rfl rfl (by omega) (by omega) (by unfold maxLen; omega) (Nat.le_refl _) ?_; intro w2 ho2 hg2; have HT2 := Lib.hid (TBox.new ho2 (by decide)); have HG2 := Lib.hid hg2; clear ho2 hg2)
        go_meet
        exact ⟨by rfl, HT2.out, HG2.out⟩
    case rest =>
      obtain ⟨rfl, ht0, hg0⟩ := hcut
      have hbk0 : Below w.heap.size w wc := (Below.refl _ _).grown hg0 (Nat.le_refl _) (fun g h => by cases h)
      have hown0 := own_below HO.out hbk0
      have hne0 : v.ownBlock ≠ some w.heap.size := fun e => by have := (HO.out.lt _ e).2; omega
      have hb0 : Below base w wc := hbk0.mono hbase
      obtain ⟨sz, hsz⟩ : ∃ sz, 2 ^ kb = sz := ⟨_, rfl⟩
      rw [hsz] at ht0 ⊢
      have HSZ := Lib.hid hsz
      have hsz0 : sz ≤ 16384 := by
        rw [← hsz]
        exact Nat.pow_le_pow_right (by omega) hk2
      obtain ⟨gt, hgt⟩ : ∃ gt, w.heap.size = gt := ⟨_, rfl⟩
      rw [hgt] at ht0 hne0 ⊢
      have hbg : base ≤ gt := by omega
      have HSTART := Lib.hid (show GRel base gt sz kb l w v (.int .i64 0) (.int .i64 0) wc from ⟨[], 0, 0, rfl, rfl, Nat.le_refl _, Nat.zero_le _, hown0, hne0, Lz.Tokens.nil, Nat.zero_le _, ht0, hb0, hbg, Lib.hid (fun _ => Or.inl ⟨rfl, rfl⟩)⟩)
      clear hown0 hne0 hb0 hbk0 hg0 ht0 hsz hgt
      go_wp2_with fail
      go_loopw [0, 7, 8] (fun u st at_ wr => GRel base gt sz kb l w u st at_ wr) (fun _ _ at_ _ => l.length + 1 - (intOf at_).toNat)
      case atStart => exact HSTART.out
      case round =>
        obtain ⟨p, s, a, rfl, rfl, hsa, hal, how, hne, htk, hpl, htb, hbel, hbg, hcst⟩ := hrel
        have hs1 := hbel.size
        have hry := HR.out.below hbel
        have HOW := Lib.hid how
        have HNE := Lib.hid hne
        have HTB := Lib.hid htb
        have HBEL := Lib.hid hbel
        have hgl := htb.lt
        clear how hne htb hbel
        by_cases hmore : a + 4 ≤ l.length
        · obtain ⟨b, off, rfl, hbB, _⟩ := hry.get (j := 0) (u := .int .u8 (l[0]'(by omega)).toNat) (by rw [bv_get, List.getElem?_eq_getElem (by omega)]; rfl)
          have hpa := hry.part a (l.length - a) (by rw [bv_length]; omega)
          rw [show ((bv l).drop a).take (l.length - a) = bv (l.drop a) from by simp [bv, List.take_of_length_le]] at hpa
          have hget := get_any _ (l.drop a) 4 (by omega) (by omega) (by rw [List.length_drop]; omega) wr base hpa
          have hV := Pu.getV_lt (l.drop a) 4
          have hvv : Flat l → a ≤ 1 → Pu.getV (l.drop a) 4 = Pu.getV l 4 := fun h ha => h.word a ha
          have HVV := Lib.hid hvv
          clear hvv
          have HGET := Lib.hid hget
          have HRY := Lib.hid hry
          have hca : ¬ (c = a) := by omega
          clear hget hpa hry
          generalize Pu.getV (l.drop a) 4 = V at *
          generalize Pu.getB (l.drop a) 4 = B at *
          go_wp2_with fail
          refine HGET.out.mono ?_
          rintro e w1 ⟨rfl, rfl⟩
          go_upto_region 6 with (fail)
          go_cut [11] from 35 to 40 (fun x wx => slotF kb V < sz ∧ x = .int .u32 (slotF kb V : Nat) ∧ wr = wx)
          case first =>
            have hkb : kb = 6 ∨ kb = 7 ∨ kb = 8 ∨ kb = 9 ∨ kb = 10 ∨ kb = 11 ∨ kb = 12 ∨ kb = 13 ∨ kb = 14 := by omega
            have hsz := HSZ.out
            rcases hkb with rfl | rfl | rfl | rfl | rfl | rfl | rfl | rfl | rfl
            all_goals (simp only [Nat.reducePow] at hsz; subst hsz; go_wp2; go_meet; exact ⟨by simp only [slotF, Nat.reduceSub, Nat.reducePow]; omega, slot_eq (by simp only [slotF, Nat.reduceSub, Nat.reducePow]; omega), rfl⟩)
          case rest =>
            obtain ⟨hs', rfl, rfl⟩ := hcut
            obtain ⟨s', hs'e⟩ : ∃ s', slotF kb V = s' := ⟨_, rfl⟩
            rw [hs'e] at hs' ⊢
            have HSE : Hid (Flat l → a ≤ 1 → slotF kb (Pu.getV l 4) = s') := fun h ha => by rw [← HVV.out h ha]; exact hs'e
            clear hs'e
            obtain ⟨z, hz, hcell, hfro⟩ := HTB.out.get s' hs'
            have hset := HTB.out.set s' hs' (a + 1) (a + 1) (by omega) (Nat.le_refl _)
            rw [show ((a + 1 : Nat) : Int) = (a : Int) + 1 from by omega] at hset
            have HSET := Lib.hid hset
            have hownS := own_setCell HOW.out gt s' (.int .i64 ((a : Int) + 1)) (fun h => HNE.out h)
            have HOWS := Lib.hid hownS
            have HBELS := Lib.hid (HBEL.out.setCell (p := ⟨gt, s', none⟩) hbg (.int .i64 ((a : Int) + 1)))
            clear hset hownS
            have hnextrel : ∀ w9 : World, Below base w w9 → w9.ownsRow base 5 1 u0 (1 :: p).length (bv (1 :: p)) → TBox w9 gt sz (a + 1) → Cst kb gt l p s (a + 1) w9 → GRel base gt sz kb l w u0 (.int .i64 (s : Nat)) (.int .i64 ((a : Int) + 1)) w9 := fun w9 h1 h2 h3 h4 =>
              ⟨p, s, a + 1, rfl, by rw [show ((a + 1 : Nat) : Int) = (a : Int) + 1 from by omega], by omega, by omega, h2, HNE.out, htk, hpl, h3, h1, hbg, Lib.hid h4⟩
            have HNR := Lib.hid hnextrel
            clear hnextrel
            rcases Nat.eq_zero_or_pos z with hz0 | hz0
            · subst hz0
              have hc1 : Cst kb gt l p s (a + 1) (wr.setCell ⟨gt, s', none⟩ (.int .i64 ((a : Int) + 1))) := fun hf => by
                rcases hcst.out hf with ⟨e1, e2⟩ | ⟨e1, e2, e3, e4⟩ | ⟨e1, e2, e3⟩
                · refine Or.inr (Or.inl ⟨by omega, by omega, e2, ?_⟩)
                  rw [HSE.out hf (by omega)]
                  obtain ⟨cs, h1, h2, h3⟩ := HTB.out
                  rw [cell_of_row _ gt s' _ _ _ (heap_setCell_same wr gt s' cs _ (.int .i64 ((a : Int) + 1)) h1)]
                  simp [h2, hs', e1]
                · exfalso
                  rw [HSE.out hf (by omega), hcell] at e4
                  cases e4
                · exfalso; omega
              have HC1 := Lib.hid hc1
              clear hc1
              go_wp2
              go_roundw
              case rel => exact HNR.out _ HBELS.out HOWS.out HSET.out HC1.out
              case measure => simp [intOf]; omega
            · obtain ⟨f, rfl⟩ : ∃ f, z = f + 1 := ⟨z - 1, by omega⟩
              have hfi : ((f + 1 : Nat) : Int) - 1 = (f : Int) := by omega
              obtain ⟨d, hd⟩ : ∃ d, a - f = d := ⟨_, rfl⟩
              have hdi : (a : Int) - (f : Int) = (d : Int) := by omega
              obtain ⟨W, hW⟩ : ∃ W, wr.setCell ⟨gt, s', none⟩ (.int .i64 ((a : Int) + 1)) = W := ⟨_, rfl⟩
              rw [hW] at HSET HOWS HBELS
              have hWs : W.heap.size = wr.heap.size := by rw [← hW]; simp [World.setCell]
              have hal2 := alike_any (.slice (some ⟨b, off, none⟩) l.length c) l (by omega) f a (by omega) hal W base (by have := HBELS.out.size; omega) (HR.out.below HBELS.out)
              have HAL := Lib.hid hal2
              have HW := Lib.hid hW
              clear hal2 hW
              go_wp2_with fail
              rw [HW.out]
              refine HAL.out.mono ?_
              rintro e w3 ⟨n, rfl, hn1, hn2, hmax, hb3⟩
              have hone : Flat l → a = 1 ∧ s = 0 ∧ p = [] ∧ f = 0 ∧ n + 1 = l.length := fun hf => by
                rcases hcst.out hf with ⟨e1, e2⟩ | ⟨e1, e2, e3, e4⟩ | ⟨e1, e2, e3⟩
                · exfalso; omega
                · rw [HSE.out hf (by omega), hcell] at e4
                  injection e4 with e4
                  injection e4 with _ e4
                  refine ⟨e1, e2, e3, by omega, ?_⟩
                  rcases Nat.lt_or_ge (a + n) l.length with h | h
                  · exact absurd (hf.same (f + n) (a + n) (by omega) h) (hmax h)
                  · omega
                · exfalso; omega
              have HONE := Lib.hid hone
              have HFL : Hid (Flat l → 16 ≤ l.length ∧ l.length ≤ 65536) := fun h => h.2
              clear hone hmax
              have hs3 := hb3.size
              have HT3 := Lib.hid (HSET.out.keep (hb3.block gt (by omega)))
              have HO3 := Lib.hid (own_below HOWS.out hb3)
              have HB3 := Lib.hid (HBELS.out.trans (hb3.mono (by omega)))
              have HN2 := Lib.hid hn2
              have HR3 := Lib.hid (HR.out.below HB3.out)
              clear hb3 hn2 hcell hfro
              by_cases hn0 : n = 0
              · subst hn0
                go_wp2
                go_roundw
                case rel => exact HNR.out _ HB3.out HO3.out HT3.out (fun hf => by have := HONE.out hf; have := HFL.out hf; exfalso; omega)
                case measure => simp [intOf]; omega
              have hn : (1 : Int) ≤ (n : Int) := by omega
              have hv1 := varSize_any (2 * n) (by omega) w3
              rw [show ((2 * n : Nat) : Int) = (n : Int) * 2 from by omega] at hv1
              have hv2 := varSize_any d (by omega) w3
              have HV1 := Lib.hid hv1
              have HV2 := Lib.hid hv2
              clear hv1 hv2
              go_wp2_with fail
              refine HV1.out.mono ?_
              rintro e w4 ⟨⟨s1, rfl, hs11, hs12, hs13⟩, rfl⟩
              go_wp2_with fail
              refine HV2.out.mono ?_
              rintro e w4 ⟨⟨s2, rfl, hs21, hs22, hs23⟩, rfl⟩
              by_cases hle : (n : Int) ≤ (s1 : Int) + (s2 : Int) + 3
              · go_wp2
                go_roundw
                case rel => exact HNR.out _ HB3.out HO3.out HT3.out (fun hf => by have := HONE.out hf; have := HFL.out hf; exfalso; omega)
                case measure => simp [intOf]; omega
              have hda : d ≤ a := by omega
              have hd0 : 0 < d := by omega
              have hcp := Lz.back_alike l f a n (by omega) (by omega) HN2.out
              rw [hd] at hcp
              obtain ⟨q, hq⟩ : ∃ q, (l.drop s).take (a - s) = q := ⟨_, rfl⟩
              have hql : q.length = a - s := by rw [← hq, List.length_take, List.length_drop]; omega
              have hqa : l.take s ++ q = l.take a := by
                rw [← hq]
                have := List.take_add (l := l) (i := s) (j := a - s)
                rw [show s + (a - s) = a from by omega] at this
                exact this.symm
              have hlit := (htk.out.lit q (by omega)).cop n d (by omega) (by omega) hd0 (by rw [hqa, List.length_take]; omega) (by omega)
              rw [hqa, ← hcp] at hlit
              have hlq : (Lz.litT q).length ≤ 10 + (a - s) := by
                unfold Lz.litT
                split
                · simp
                · have := Pu.varL_length (2 * q.length)
                  rw [List.length_append]
                  omega
              have hcq : (Lz.copT n d).length ≤ 20 := by
                unfold Lz.copT
                have := Pu.varL_length (2 * n + 1)
                have := Pu.varL_length d
                rw [List.length_append]
                omega
              have hrel2 : ∀ (r2 : Value) (w6 : World), w6.ownsRow base 5 1 r2 ((1 :: p) ++ Lz.litT q ++ Lz.copT n d).length (bv ((1 :: p) ++ Lz.litT q ++ Lz.copT n d)) → r2.ownBlock ≠ some gt → TBox w6 gt sz (a + 1) → Below base w w6 → GRel base gt sz kb l w r2 (.int .i64 ((a : Int) + (n : Int))) (.int .i64 ((a : Int) + (n : Int))) w6 := fun r2 w6 h1 h2 h3 h4 =>
                ⟨p ++ Lz.litT q ++ Lz.copT n d, a + n, a + n, by rw [Int.natCast_add], by rw [Int.natCast_add], Nat.le_refl _, by omega, h1, h2, hlit, by rw [List.length_append, List.length_append]; omega, h3.more (by omega), h4, hbg, Lib.hid (fun hf => by
                  obtain ⟨o1, o2, o3, o4, o5⟩ := HONE.out hf
                  have o6 := HFL.out hf
                  refine Or.inr (Or.inr ⟨by omega, rfl, ?_⟩)
                  have hv1 : (Pu.varL (2 * q.length)).length ≤ 1 := varF_short 0 10 _ (by omega)
                  have hv2 : (Pu.varL (2 * n + 1)).length ≤ 3 := varF_short 2 10 _ (by omega)
                  have hv3 : (Pu.varL d).length ≤ 1 := varF_short 0 10 _ (by omega)
                  have hlt : (Lz.litT q).length ≤ 2 := by
                    unfold Lz.litT
                    split
                    · simp
                    · rw [List.length_append]; omega
                  rw [List.length_append, List.length_append, o3]
                  unfold Lz.copT
                  rw [List.length_append]
                  simp only [List.length_nil]
                  omega)⟩
              have HREL := Lib.hid hrel2
              have HQL := Lib.hid hlq
              have HQ2 := Lib.hid hql
              have HQ := Lib.hid hq
              clear hrel2 hlit hcp hlq hcq hqa hql hq
              by_cases hsa2 : s = a
              · have h9 := hsa2.symm
                subst h9
                obtain rfl : q = [] := List.eq_nil_of_length_eq_zero (by have := HQ2.out; omega)
                have hll := layLiteral_any base u0 (1 :: p) (by rw [List.length_cons]; omega) (.slice (some ⟨b, off, none⟩) 0 0) [] (by simp) w3 (by omega) HO3.out (RdV.zeroC _ _ _ 0 (by omega))
                have HLL := Lib.hid hll
                generalize hqq : ([] : List UInt8) = q at *
                clear hll hqq
                go_wp2_with fail
                refine HLL.out.mono ?_
                rintro e w5 ⟨r1, rfl, ho5, hon5⟩
                have hs5 := hon5.1.size
                have HO5 := Lib.hid ho5
                have HON5 := Lib.hid hon5
                have hlc := layCopy_any base r1 ((1 :: p) ++ Lz.litT q) (by have := HQL.out; rw [List.length_append, List.length_cons]; omega) n d (by omega) (by omega) w5 (by omega) ho5
                have HLC := Lib.hid hlc
                clear hlc ho5 hon5
                go_wp2_with fail
                refine HLC.out.mono ?_
                rintro e w6 ⟨r2, rfl, ho6, hon6⟩
                have hon := HON5.out.trans hon6
                have hne6 : r2.ownBlock ≠ some gt := by
                  rcases hon.2 with h | ⟨g, h, hg⟩
                  · rw [h]; exact HNE.out
                  · rw [h]; intro e; injection e with e; omega
                have ht6 : TBox w6 gt sz (a + 1) := HT3.out.keep (hon.1.block gt (by omega) (fun e => HNE.out e.symm))
                have hb6 : Below base w w6 := HB3.out.grown hon.1 (by omega) (fun g hg => (HO3.out.lt g hg).1)
                have HFIN := Lib.hid (HREL.out r2 w6 ho6 hne6 ht6 hb6)
                clear ho6 hon6 hon hne6 ht6 hb6
                go_wp2
                all_goals go_roundw
                all_goals first
                  | (case measure => simp [intOf]; omega)
                  | (case rel => exact HFIN.out)
              · have hpc := RdV.sliced HR3.out s a a (by omega) (by omega) (by omega) (by omega)
                unfold Go.sliced at hpc
                rw [if_neg (by omega), show (some (⟨b, off, none⟩ : Addr)).map (·.add (s * 1)) = some ⟨b, off + s, none⟩ from by simp [Addr.add], show ((bv l).drop s).take (a - s) = bv q from by rw [← HQ.out]; simp [bv]] at hpc
                have hll := layLiteral_any base u0 (1 :: p) (by rw [List.length_cons]; omega) _ q (by have := HQ2.out; omega) w3 (by omega) HO3.out hpc
                have HLL := Lib.hid hll
                clear hll hpc
                go_wp2_with fail
                refine HLL.out.mono ?_
                rintro e w5 ⟨r1, rfl, ho5, hon5⟩
                have hs5 := hon5.1.size
                have HO5 := Lib.hid ho5
                have HON5 := Lib.hid hon5
                have hlc := layCopy_any base r1 ((1 :: p) ++ Lz.litT q) (by have := HQL.out; rw [List.length_append, List.length_cons]; omega) n d (by omega) (by omega) w5 (by omega) ho5
                have HLC := Lib.hid hlc
                clear hlc ho5 hon5
                go_wp2_with fail
                refine HLC.out.mono ?_
                rintro e w6 ⟨r2, rfl, ho6, hon6⟩
                have hon := HON5.out.trans hon6
                have hne6 : r2.ownBlock ≠ some gt := by
                  rcases hon.2 with h | ⟨g, h, hg⟩
                  · rw [h]; exact HNE.out
                  · rw [h]; intro e; injection e with e; omega
                have ht6 : TBox w6 gt sz (a + 1) := HT3.out.keep (hon.1.block gt (by omega) (fun e => HNE.out e.symm))
                have hb6 : Below base w w6 := HB3.out.grown hon.1 (by omega) (fun g hg => (HO3.out.lt g hg).1)
                have HFIN := Lib.hid (HREL.out r2 w6 ho6 hne6 ht6 hb6)
                clear ho6 hon6 hon hne6 ht6 hb6
                go_wp2
                all_goals go_roundw
                all_goals first
                  | (case measure => simp [intOf]; omega)
                  | (case rel => exact HFIN.out)
        · have hbd : (p ++ Lz.litT (l.drop s)).length ≤ 31 * l.length + 10 := by
            rw [List.length_append]
            unfold Lz.litT
            split
            · simp; omega
            · have := Pu.varL_length (2 * (l.drop s).length)
              rw [List.length_append]
              rw [List.length_drop] at *
              omega
          have hfl : Flat l → (p ++ Lz.litT (l.drop s)).length ≤ 6 := fun hf => by
            have h16 := hf.2
            rcases hcst.out hf with ⟨e1, e2⟩ | ⟨e1, e2, e3, e4⟩ | ⟨e1, e2, e3⟩
            · exfalso; omega
            · exfalso; omega
            · rw [List.drop_eq_nil_of_le (by omega)]
              simpa [Lz.litT] using e3
          have hex : ∀ (e : Ending) (w9 : World), Lays base ((1 :: p) ++ Lz.litT (l.drop s)) u0 wr e w9 → GPost base l w e w9 := fun e w9 ⟨r, h1, h2, h3⟩ =>
            ⟨r, p ++ Lz.litT (l.drop s), h1, h2, by have := htk.out.lit (l.drop s) (by rw [List.length_drop]; omega); rwa [List.take_append_drop] at this, hbd, hfl, HBEL.out.grown h3.1 (by omega) (fun g hg => (HOW.out.lt g hg).1)⟩
          have HEX := Lib.hid hex
          have HRY := Lib.hid hry
          clear hex hry
          by_cases hsl : s = l.length
          · have hd0 : l.drop s = [] := List.drop_eq_nil_of_le (by omega)
            have hz : ∀ (X : Option Addr) (n0 c0 : Nat), n0 = 0 → c0 ≤ 9223372036854775807 → Calls Try.prog 27 #[u0, .slice X n0 c0] wr (Lays base ((1 :: p) ++ Lz.litT (l.drop s)) u0 wr) := fun X n0 c0 hn hc0 => by
              subst hn
              rw [hd0]
              exact layLiteral_any base u0 (1 :: p) (by rw [List.length_cons]; omega) _ [] (by simp) wr (by omega) HOW.out (RdV.zeroC _ _ X c0 hc0)
            have HZ := Lib.hid hz
            clear hz hd0
            go_wp2_with fail
            all_goals (refine Calls.mono (by first | exact HZ.out _ _ _ (by omega) (by omega) | (split <;> exact HZ.out _ _ _ (by omega) (by omega))) ?_)
            all_goals (rintro e w9 ⟨r, rfl, h2, h3⟩)
            all_goals (have HFF := Lib.hid (HEX.out _ _ ⟨r, rfl, h2, h3⟩))
            all_goals clear h2 h3
            all_goals go_wp2
            all_goals go_ret
            all_goals exact HFF.out
          · have hsl2 : s < l.length := by omega
            obtain ⟨b, off, rfl, hbB, _⟩ := HRY.out.get (j := 0) (u := .int .u8 (l[0]'(by omega)).toNat) (by rw [bv_get, List.getElem?_eq_getElem (by omega)]; rfl)
            have hpa := HRY.out.part s (l.length - s) (by rw [bv_length]; omega)
            rw [show ((bv l).drop s).take (l.length - s) = bv (l.drop s) from by simp [bv, List.take_of_length_le]] at hpa
            have hll := layLiteral_any base u0 (1 :: p) (by rw [List.length_cons]; omega) _ (l.drop s) (by rw [List.length_drop]; omega) wr (by omega) HOW.out hpa
            have HLL := Lib.hid hll
            have hcs : ¬ (c = s) := by omega
            clear hll hpa
            go_wp2_with fail
            refine HLL.out.mono ?_
            rintro e w9 ⟨r, rfl, h2, h3⟩
            have HFF := Lib.hid (HEX.out _ _ ⟨r, rfl, h2, h3⟩)
            clear h2 h3
            go_wp2
            go_ret
            exact HFF.out
end Go.Proofs.Ytkgmelhigjjbbaa
