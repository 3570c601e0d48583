/- The law CleanSorts answers true for any numbers: what Sort tells holds each place once and is in order. Conditions: none. -/
import Derived.Test.YtlbodandidopfaaClo
import Derived.Test.YtlbodandidopfaaMgl
namespace Go.Proofs.Ytlbodandidopfaa.lawCleanSorts
open Go.ChangeShapes Go.WideShapes Go.ChangeAt Go.RowKit
set_option linter.unusedSimpArgs false
set_option linter.unusedVariables false

theorem own : ownKnob Try.prog.godebug = none := by kernel_rfl
theorem laid : laidOutB Try.prog = true := by kernel_rfl

/-- the law's three variables -/
structure Thr (gL gY gO B : Nat) (odd : Bool) (b : Int) (lv : Value) (L : List Int) (w : World) : Prop where
  co : w.cell? ⟨gO, 0, none⟩ = some (.bool odd)
  cl : w.cell? ⟨gL, 0, none⟩ = some lv
  cy : w.cell? ⟨gY, 0, none⟩ = some (.int .i64 b)
  rd : RdV w B lv (iv .i64 L)
  lt : gO < w.heap.size ∧ gL < w.heap.size ∧ gY < w.heap.size ∧ B ≤ w.heap.size
theorem Thr.keep {gL gY gO B : Nat} {odd : Bool} {b : Int} {lv : Value} {L : List Int} {w w' : World} (h : Thr gL gY gO B odd b lv L w) {O : Nat → Prop} (hf : Frm O w w') (h2 : ¬ O gO) (h3 : ¬ O gL) (h4 : ¬ O gY) (h5 : ∀ j, O j → B ≤ j) : Thr gL gY gO B odd b lv L w' := by
  obtain ⟨ho, hl, hy, hr, q2, q3, q4, q5⟩ := h
  have hs := hf.size
  have k := fun (g : Nat) (hg : g < w.heap.size) (hO : ¬ O g) => World.cell?_of_block (a := ⟨g, 0, none⟩) (hf.block g hg hO)
  exact ⟨(k gO q2 h2).trans ho, (k gL q3 h3).trans hl, (k gY q4 h4).trans hy, hr.below (hf.below h5 q5), by omega, by omega, by omega, by omega⟩
def OneC (w : World) (k : Nat) (v : Value) (t : TypeId) : Prop := w.heap[k]? = some (.cells #[v] t)
theorem one_cell {w : World} {k : Nat} {v : Value} {t : TypeId} (h : OneC w k v t) : w.cell? ⟨k, 0, none⟩ = some v := by
  unfold OneC at h
  simp [World.cell?, h]
theorem iv_snoc (i : Nat) : iv .i64 (rangeI 0 i) ++ [.int .i64 (i : Int)] = iv .i64 (rangeI 0 (i + 1)) := by
  unfold iv rangeI
  simp [List.range_succ]
theorem one_frozen {w : World} {k : Nat} {v : Value} {t : TypeId} (h : OneC w k v t) : w.frozen? ⟨k, 0, none⟩ = false := by
  unfold OneC at h
  simp [World.frozen?, h]
theorem infB : (Try.prog.info? 4).map (fun i => (i.zero, i.size, i.bytes)) = some (some (.bool false), 1, 1) := by kernel_rfl
/-- what the law reads behind Sort -/
structure Ctx (gL gY gO gS gA gl ol n S : Nat) (odd : Bool) (b : Int) (lv : Value) (xs zs : List Int) (w : World) : Prop where
  co : w.cell? ⟨gO, 0, none⟩ = some (.bool odd)
  cl : w.cell? ⟨gL, 0, none⟩ = some lv
  cy : w.cell? ⟨gY, 0, none⟩ = some (.int .i64 b)
  cs : ∀ i u, xs[i]? = some u → w.cell? ⟨gS, i, none⟩ = some (.int .i64 u)
  ca : ∀ i, i < n → w.cell? ⟨gA, i, none⟩ = some (.int .i64 (i : Nat))
  cz : ∀ i u, zs[i]? = some u → w.cell? ⟨gl, ol + i, none⟩ = some (.int .i64 u)
  lt : gO < S ∧ gL < S ∧ gY < S ∧ gS < S ∧ gA < S ∧ gl < S
theorem Ctx.keep {gL gY gO gS gA gl ol n S : Nat} {odd : Bool} {b : Int} {lv : Value} {xs zs : List Int} {w w' : World} (h : Ctx gL gY gO gS gA gl ol n S odd b lv xs zs w) (hb : ∀ g, g < S → w'.heap[g]? = w.heap[g]?) : Ctx gL gY gO gS gA gl ol n S odd b lv xs zs w' := by
  obtain ⟨h1, h2, h3, h4, h5, h6, q1, q2, q3, q4, q5, q6⟩ := h
  have k := fun (g i : Nat) (hg : g < S) => World.cell?_of_block (a := ⟨g, i, none⟩) (hb g hg)
  exact ⟨(k _ _ q1).trans h1, (k _ _ q2).trans h2, (k _ _ q3).trans h3, fun i u hu => (k _ _ q4).trans (h4 i u hu), fun i hi => (k _ _ q5).trans (h5 i hi), fun i u hu => (k _ _ q6).trans (h6 i u hu), q1, q2, q3, q4, q5, q6⟩
def hd (xs : List Int) (n i : Nat) : List Value := (List.range n).map fun p => .bool (decide (((p : Nat) : Int) ∈ xs.take i))
theorem hd_zero (xs : List Int) (n : Nat) : List.replicate n (Value.bool false) = hd xs n 0 := by
  unfold hd
  simp [List.map_const']
theorem hd_get {xs : List Int} {n i p : Nat} (h : p < n) : (hd xs n i)[p]? = some (.bool (decide (((p : Nat) : Int) ∈ xs.take i))) := by
  unfold hd
  rw [List.getElem?_map, List.getElem?_range h]
  rfl
theorem hd_step {xs : List Int} {n i p : Nat} (h : xs[i]? = some ((p : Nat) : Int)) : (hd xs n i).set p (.bool true) = hd xs n (i + 1) := by
  have e : xs.take (i + 1) = xs.take i ++ [((p : Nat) : Int)] := by rw [List.take_add_one, h]; rfl
  apply List.ext_getElem?
  intro j
  unfold hd
  rw [List.getElem?_set, e]
  by_cases hj : j < n
  · by_cases hp : p = j
    · subst hp
      simp [hj]
    · have : ¬ ((j : Nat) : Int) = ((p : Nat) : Int) := by omega
      simp [hj, hp, this]
  · simp [hj]
    omega
theorem hd_new {xs : List Int} {i : Nat} {u : Int} (hn : xs.Nodup) (h : xs[i]? = some u) : decide (u ∈ xs.take i) = false := by
  rw [decide_eq_false_iff_not]
  intro hm
  obtain ⟨j, hj, e⟩ := List.getElem_of_mem hm
  rw [List.length_take] at hj
  rw [List.getElem_take] at e
  obtain ⟨hi, e2⟩ := List.getElem?_eq_some_iff.1 h
  exact (List.pairwise_iff_getElem.1 hn) j i (by omega) hi (by omega) (e.trans e2.symm)
theorem rangeI_nodup (n : Nat) : (rangeI 0 n).Nodup := by
  unfold rangeI
  rw [List.nodup_iff_pairwise_ne, List.pairwise_map]
  refine (List.nodup_range (n := n - 0)).imp ?_
  intro a b h e
  exact h (by omega)
theorem sorted_at {k : Int → Int} {xs : List Int} {m : Nat} {u v : Int} (h : Sorted k xs) (hu : xs[m]? = some u) (hv : xs[m + 1]? = some v) : lex k u v := by
  obtain ⟨h1, e1⟩ := List.getElem?_eq_some_iff.1 hu
  obtain ⟨h2, e2⟩ := List.getElem?_eq_some_iff.1 hv
  have := List.pairwise_iff_getElem.1 h m (m + 1) h1 h2 (by omega)
  rw [e1, e2] at this
  exact this
set_option maxRecDepth 100000 in
set_option maxHeartbeats 8000000 in
theorem sort_none (fv : Value) (w : World) : Calls Try.prog 47 #[.slice none 0 0, fv] w fun e w' => ∃ A', e = .returned (.slice A' 0 0) ∧ Below w.heap.size w w' := by
  go_enter Try.func47, Try.ntmps47
  go_wp2_with (at_builtin; refine wpList_append_rd _ rfl _ _ 69 rfl w.heap.size 3 (.int .i64 0) 8 Try.underlying69 infJ rfl (.slice none 0 0) 0 [] (by rfl) ⟨by simp, Or.inl ⟨rfl, rfl⟩⟩ _ (by rfl) w.heap.size [] (RdV.nil_ w _) (by simp) (by simp) (by omega) (Nat.le_refl _) ?_; intro v2 w2 ho2 hg2 _; obtain ⟨A2, c2, rfl, hA2⟩ : ∃ A2 c2, v2 = .slice A2 0 c2 ∧ ((A2 = none ∧ c2 = 0) ∨ ∃ g, A2 = some ⟨g, 0, none⟩) := (by rcases ho2.2 with ⟨h1, _⟩ | ⟨g, cap, cur, h1, _⟩; all_goals first | exact ⟨none, 0, h1, Or.inl ⟨rfl, rfl⟩⟩ | exact ⟨_, cap, h1, Or.inr ⟨g, rfl⟩⟩); obtain ⟨w3, zs, hrun3, hzl, ho3, hg3⟩ := run_ints w2 0 (by omega); rw [show ((0 : Nat) : Int) = 0 from rfl] at hrun3; have HB3 := Lib.hid (((Below.refl _ w).grown hg2 (Nat.le_refl _) (by intro g hg; cases hg)).trans ((Below.refl _ w2).grown hg3 (Nat.le_refl _) (by intro g hg; cases hg) |>.mono (((Below.refl _ w).grown hg2 (Nat.le_refl _) (by intro g hg; cases hg)).size))); clear ho2 hg2 ho3 hg3 hzl)
  rcases hA2 with ⟨rfl, rfl⟩ | ⟨g, rfl⟩
  · go_wp2_with fail
    go_loopw [7, 5] (fun wd va wx => wd = .int .i64 1 ∧ va = .slice none 0 0 ∧ wx = w3) (fun _ _ _ => 0)
    case atStart => exact ⟨rfl, rfl, rfl⟩
    case round =>
      obtain ⟨rfl, rfl, rfl⟩ := hrel
      go_wp2_with fail
      go_ret
      exact ⟨_, rfl, HB3.out⟩
  · go_wp2_with fail
    go_loopw [7, 5] (fun wd va wx => wd = .int .i64 1 ∧ va = .slice (some ⟨g, 0, none⟩) 0 c2 ∧ wx = w3) (fun _ _ _ => 0)
    case atStart => exact ⟨rfl, rfl, rfl⟩
    case round =>
      obtain ⟨rfl, rfl, rfl⟩ := hrel
      go_wp2_with fail
      go_ret
      exact ⟨_, rfl, HB3.out⟩
theorem Thr.put {k B : Nat} {odd : Bool} {b : Int} {lv : Value} {L : List Int} {w : World} (h : Thr k (k + 1) (k + 2) B odd b lv L w) (hB : B = k) (q : Int) : Thr k (k + 1) (k + 2) B odd q lv L (w.setCell ⟨k + 1, 0, none⟩ (.int .i64 q)) := by
  have hf : Frm (fun j => j = k + 1) w (w.setCell ⟨k + 1, 0, none⟩ (.int .i64 q)) := Frm.setCell (O := fun j => j = k + 1) (Frm.refl _ w) (k + 1) 0 (Or.inl rfl) _
  have hs := hf.size
  obtain ⟨ho, hl, hy, hr, q2, q3, q4, q5⟩ := h
  exact ⟨(World.cell?_of_block (a := ⟨k + 2, 0, none⟩) (hf.block (k + 2) q2 (show ¬ k + 2 = k + 1 by omega))).trans ho, (World.cell?_of_block (a := ⟨k, 0, none⟩) (hf.block k q3 (show ¬ k = k + 1 by omega))).trans hl, World.cell?_setCell_same _ _ _ hy, hr.below (hf.below (fun j e => by omega) q5), by omega, by omega, by omega, by omega⟩
set_option maxRecDepth 100000 in
set_option maxHeartbeats 8000000 in
theorem walk (lv : Value) (b0 : Int) (odd : Bool) (zs : List Int) (w : World) (hr : RdV w w.heap.size lv (iv .i64 zs)) (hz : ∀ z ∈ zs, (Lit.int .i64 z).wf = true) : Calls Try.prog 8 #[lv, .int .i64 b0, .bool odd] w fun e w' => e = .returned (.bool true) ∧ Below w.heap.size w w' := by
  have HR := Lib.hid hr
  obtain ⟨A, cp, rfl, hc1, hc2, _⟩ := id hr
  rw [iv_length] at hc1 HR ⊢
  clear hr
  unfold maxLen at hc2
  have hkn := fun w1 => kclean_any w1
  have HK := Lib.hid hkn
  clear hkn
  obtain ⟨n, hn⟩ : ∃ n, zs.length = n := ⟨_, rfl⟩
  rw [hn] at HR hc1 ⊢
  go_enter Try.func8, Try.ntmps8
  go_wp2_with fail
  refine (HK.out _).mono ?_
  rintro e w1 ⟨rfl, hb1⟩
  simp only [World.size_alloc] at hb1
  have hb0 : Below w.heap.size w (((w.alloc (.cells #[.slice A n cp] 69)).alloc (.cells #[.int .i64 b0] 3)).alloc (.cells #[.bool odd] 4)) := ((((Below.refl _ w).alloc (Nat.le_refl _) _).alloc (by simp) _).alloc (by simp; omega) _)
  have hs1 := hb1.size
  simp only [World.size_alloc] at hs1
  have hbl : Below w.heap.size w w1 := hb0.trans (hb1.mono (by omega))
  have xL : OneC w1 w.heap.size (.slice A n cp) 69 := (hb1.block _ (by omega)).trans ((Below.heap_alloc _ _ _ (by simp; omega)).trans ((Below.heap_alloc _ _ _ (by simp)).trans (heap_alloc_new w _)))
  have xY : OneC w1 (w.heap.size + 1) (.int .i64 b0) 3 := (hb1.block _ (by omega)).trans ((Below.heap_alloc _ _ _ (by simp)).trans (by have h := heap_alloc_new (w.alloc (.cells #[.slice A n cp] 69)) (.cells #[.int .i64 b0] 3); rw [World.size_alloc] at h; exact h))
  have xO : OneC w1 (w.heap.size + 2) (.bool odd) 4 := (hb1.block _ (by omega)).trans (by have h := heap_alloc_new ((w.alloc (.cells #[.slice A n cp] 69)).alloc (.cells #[.int .i64 b0] 3)) (.cells #[.bool odd] 4); rw [World.size_alloc, World.size_alloc] at h; exact h)
  have hT : Thr w.heap.size (w.heap.size + 1) (w.heap.size + 2) w.heap.size odd b0 (.slice A n cp) zs w1 :=
    ⟨one_cell xO, one_cell xL, one_cell xY, HR.out.below hbl, by omega, by omega, by omega, by omega⟩
  have hcY : w1.frozen? ⟨w.heap.size + 1, 0, none⟩ = false := by
    unfold OneC at xY
    simp [World.frozen?, xY]
  clear xL xY xO hs1
  have HT := Lib.hid hT
  have HB := Lib.hid hbl
  have k1 := hT.cl
  have k2 := hT.cy
  clear hT hbl hb1 hb0
  by_cases hle : n ≤ 200
  case neg =>
    go_wp2
    go_ret
    exact ⟨rfl, HB.out⟩
  go_upto_region 5 with (fail)
  go_cut [23] from 18 to 22 (fun v wx => v = .bool (decide (b0 < 1 ∨ 1073741824 < b0)) ∧ w1 = wx)
  case first =>
    by_cases hb1 : b0 < 1
    · go_wp2
      all_goals go_meet
      all_goals exact ⟨by simp [hb1], rfl⟩
    · go_wp2
      all_goals go_meet
      all_goals exact ⟨by first | simp [hb1]; done | (congr 1; rw [decide_eq_decide]; omega), rfl⟩
  case rest =>
  obtain ⟨rfl, rfl⟩ := hcut
  rename_i K2 h2
  refine h2 _ _ ?_
  clear h2 K2
  go_cut [] from 18 to 23 (fun wx => ∃ b : Int, 1 ≤ b ∧ b ≤ 1073741824 ∧ Thr w.heap.size (w.heap.size + 1) (w.heap.size + 2) w.heap.size odd b (.slice A n cp) zs wx ∧ Below w.heap.size w wx)
  case first =>
    by_cases hb1 : b0 < 1 ∨ 1073741824 < b0
    · have HT2 := Lib.hid (HT.out.put rfl 1)
      have HB2 := Lib.hid (HB.out.trans ((Frm.setCell (O := fun j => j = w.heap.size + 1) (Frm.refl _ w1) (w.heap.size + 1) 0 (Or.inl rfl) (.int .i64 1)).below (fun j e => by omega) HB.out.size))
      go_wp2
      all_goals go_meet
      all_goals exact ⟨1, by omega, by omega, HT2.out, HB2.out⟩
    · go_wp2
      all_goals go_meet
      all_goals exact ⟨b0, by omega, by omega, HT.out, HB.out⟩
  case rest =>
  clear HT HB k1 k2 hcY
  obtain ⟨b, hb1, hb2, hT, hB⟩ := hcut
  have HT := Lib.hid hT
  have HB := Lib.hid hB
  have hsz := hT.lt
  clear hT hB
  by_cases hn0 : n = 0
  · subst hn0
    have kL := HT.out.cl
    go_wp2_with fail
    go_loopw [8, 7] (fun ic v wx => ic = .int .i64 0 ∧ v = .slice none 0 0 ∧ wx = wc) (fun _ _ _ => 0)
    case atStart => exact ⟨rfl, rfl, rfl⟩
    case round =>
      obtain ⟨rfl, rfl, rfl⟩ := hrel
      go_upto_region 14 with (fail)
      refine (sort_none _ _).mono ?_
      rintro e w5 ⟨A5, rfl, hB5⟩
      have hB6 := HB.out.trans ((((Below.refl _ wr).alloc (Nat.le_refl _) (.cells #[.int .i64 0] 3)).trans (hB5.mono (by simp))).mono HB.out.size)
      have HB6 := Lib.hid hB6
      have k5 : w5.cell? ⟨w.heap.size, 0, none⟩ = _ := (World.cell?_of_block (a := ⟨w.heap.size, 0, none⟩) (((Below.refl _ wr).alloc (Nat.le_refl _) (.cells #[.int .i64 0] 3)).trans (hB5.mono (by simp)) |>.block w.heap.size hsz.2.1)).trans kL
      clear hB5 hB6
      go_wp2_with (at_make; refine wpList_make_rd _ rfl _ _ 72 rfl w5.heap.size 4 (.bool false) 1 Try.underlying72 infB rfl .i64 .i64 0 0 _ _ rfl rfl rfl rfl (by omega) (by omega) (by unfold maxLen; omega) (Nat.le_refl _) ?_; intro w6 ho6 hg6; have HB7 := Lib.hid ((Below.refl _ w5).grown hg6 (Nat.le_refl _) (by intro g hg; cases hg)); clear ho6 hg6)
      go_loopw [12] (fun ic wx => ic = .int .i64 0 ∧ wx = w6) (fun _ _ => 0)
      case atStart => exact ⟨rfl, rfl⟩
      case round =>
        obtain ⟨rfl, rfl⟩ := hrel
        go_wp2_with fail
        go_ret
        exact ⟨rfl, HB6.out.trans (HB7.out.mono HB6.out.size)⟩
  go_wp2_with fail
  go_loopw [8, 7] (fun ic v wx => ∃ i : Nat, i ≤ n ∧ ic = .int .i64 i ∧ wx.ownsRow wc.heap.size 3 1 v i (iv .i64 (rangeI 0 i)) ∧ Below wc.heap.size wc wx) (fun ic _ _ => n - (intOf ic).toNat)
  case atStart => exact ⟨0, Nat.zero_le _, rfl, ⟨by simp [iv, rangeI], Or.inl ⟨rfl, rfl⟩⟩, Below.refl _ _⟩
  case round =>
    obtain ⟨i, hi, rfl, hO, hBx⟩ := hrel
    have hTx := HT.out.keep (Frm.of_below (O := fun _ => False) hBx) id id id (fun _ h => h.elim)
    have kL := hTx.cl
    have HTX := Lib.hid hTx
    have HBX := Lib.hid hBx
    have hbs := hBx.size
    clear hTx hBx
    by_cases hlt : i < n
    · go_wp2_with (at_builtin; refine wpList_append_rd _ rfl _ _ 69 rfl wc.heap.size 3 (.int .i64 0) 8 Try.underlying69 infJ rfl _ _ _ rfl (hO.alloc _) _ rfl _ _ (RdV.one _ _ _) (by intro u hu; simp at hu; subst hu; rfl) (by simp; omega) (by omega) (by simp; omega) ?_; intro o' w3 ho3 hg3 _; have HG3 := Lib.hid hg3; have HO3 := Lib.hid ho3; clear ho3 hg3)
      go_roundw
      case rel => exact ⟨i + 1, by omega, by go_num, (by have h := HO3.out; rw [iv_snoc] at h; exact h), HBX.out.trans (((Below.refl _ _).alloc hbs _).grown HG3.out (by simp; omega) (fun g hg => (hO.lt g hg).1))⟩
      case measure => simp [intOf]; omega
    · obtain rfl : n = i := by omega
      obtain ⟨gA, cA, rfl⟩ := Joins.ownsRow_form hO (by omega)
      have hgA := hO.lt gA rfl
      have hF4 : Four wr.heap.size (w.heap.size + 2) w.heap.size (w.heap.size + 1) w.heap.size odd b (.slice A n cp) zs (wr.alloc (.cells #[.int .i64 0] 3)) := by
        have q := HTX.out.keep (Frm.of_below (O := fun _ => False) ((Below.refl _ wr).alloc (Nat.le_refl _) (.cells #[.int .i64 0] 3))) id id id (fun _ h => h.elim)
        have x1 : OneC (wr.alloc (.cells #[.int .i64 0] 3)) wr.heap.size (.int .i64 0) 3 := heap_alloc_new wr _
        have ql := q.lt
        exact ⟨⟨0, one_cell x1⟩, one_frozen x1, q.co, q.cl, q.cy, q.rd, by rw [World.size_alloc] at ql ⊢; omega, ql.1, ql.2.1, ql.2.2.1, ql.2.2.2⟩
      have hsort := sort_any (.pointer (some ⟨wr.heap.size, 0, none⟩)) (.pointer (some ⟨w.heap.size + 1 + 1, 0, none⟩)) (.pointer (some ⟨w.heap.size, 0, none⟩)) (.pointer (some ⟨w.heap.size + 1, 0, none⟩)) (!odd) (keyOf zs b) (tOdd odd (keyOf zs b)) (fun ho y x c ht => ht (by simpa using ho)) (fun j => j = wr.heap.size)
        (Four wr.heap.size (w.heap.size + 2) w.heap.size (w.heap.size + 1) w.heap.size odd b (.slice A n cp) zs) n (by omega) (.slice (some ⟨gA, 0, none⟩) n cA) (wr.alloc (.cells #[.int .i64 0] 3)) wr.heap.size
        (by have := sless_any wr.heap.size (w.heap.size + 2) w.heap.size (w.heap.size + 1) w.heap.size odd b ⟨hb1, hb2⟩ (.slice A n cp) zs hz (by omega) (by omega) (by omega) (by omega); rw [hn] at this; exact this) (fun j e => by rw [World.size_alloc]; omega) hF4
        (fun w1 w2 hf h => h.keep hf (by rw [World.size_alloc]; omega) (by rw [World.size_alloc]; omega) (by rw [World.size_alloc]; omega) (by rw [World.size_alloc]; omega) (fun j h => by rw [World.size_alloc] at h; omega))
        ((RdV.own hO).alloc (Nat.le_refl _) _)
      have HSORT := Lib.hid hsort
      have HO := Lib.hid hO
      clear hsort hF4 hO
      go_upto_region 14 with (fail)
      refine HSORT.out.mono ?_
      rintro e w5 ⟨gS, xs, rfl, hxl, hgS, hrx, hperm, hsrt, hF5, hFr5⟩
      clear HSORT
      have hs5 := hFr5.size
      simp only [World.size_alloc] at hs5 hgS
      have hbl5 : Below w.heap.size w w5 := HB.out.trans ((HBX.out.mono HB.out.size).trans (((Below.refl _ wr).alloc (by omega) _).trans (hFr5.below (fun j e => by omega) (by rw [World.size_alloc]; omega))))
      obtain ⟨A1, eA1, hcS⟩ := hrx
      obtain ⟨offS, eA2, hcS⟩ := hcS (by omega)
      obtain rfl : offS = 0 := by injection eA1 with e1; rw [eA2] at e1; injection e1 with e1; injection e1 with e1 e2; exact e2.symm
      obtain ⟨A2, cp2, eL, hl1, hl2, hl3⟩ := hF5.rd
      obtain ⟨gl, ol, rfl, hgl, hcz⟩ := hl3 (by rw [iv_length]; omega)
      injection eL with eL1 eL2 eL3
      subst eL1
      clear eL2 eL3 eA1 eA2
      have hgA5 : gA < (wr.alloc (.cells #[.int .i64 0] 3)).heap.size := by rw [World.size_alloc]; omega
      have hC5 : Ctx w.heap.size (w.heap.size + 1) (w.heap.size + 1 + 1) gS gA gl ol n w5.heap.size odd b (.slice (some ⟨gl, ol, none⟩) n cp) xs zs w5 := by
        refine ⟨hF5.co, hF5.cl, hF5.cy, fun i u hu => (by have := hcS i u hu; rwa [Nat.zero_add] at this), fun i hi => ?_, fun i u hu => hcz i _ (by rw [iv_get, hu]; rfl), ?_⟩
        · have h1 := HO.out.cellAt i (by omega)
          rw [iv_get] at h1
          have h2 : (rangeI 0 n)[i]? = some ((i : Nat) : Int) := by
            unfold rangeI
            rw [List.getElem?_map, List.getElem?_range (by omega)]
            simp
          rw [h2] at h1
          refine (World.cell?_of_block (a := ⟨gA, i, none⟩) (hFr5.block gA hgA5 (show ¬ gA = wr.heap.size by omega))).trans ?_
          exact (World.cell?_of_block (a := ⟨gA, i, none⟩) (Below.heap_alloc wr _ gA (by omega))).trans h1
        · have := hF5.lt
          refine ⟨by omega, by omega, by omega, ?_, by omega, by omega⟩
          have h0 : 0 < xs.length := by rw [hxl]; exact Nat.pos_of_ne_zero hn0
          have := hcS 0 _ (List.getElem?_eq_getElem h0)
          exact lt_of_cell this
      have hnd : xs.Nodup := (hperm.nodup_iff).2 (rangeI_nodup n)
      have hmem : ∀ i, i < n → ∃ p : Nat, p < n ∧ xs[i]? = some ((p : Nat) : Int) := by
        intro i hi
        have hx : i < xs.length := by rw [hxl]; exact hi
        obtain ⟨q, e, _, h3⟩ := rangeI_mem.1 ((hperm.mem_iff).1 (List.getElem_mem hx))
        exact ⟨q, h3, (List.getElem?_eq_getElem hx).trans (congrArg some e)⟩
      have HS5 := Lib.hid hsrt
      have HM5 := Lib.hid hmem
      have HN5 := Lib.hid hnd
      have HC5 := Lib.hid hC5
      have HB5 := Lib.hid hbl5
      have k5 := hC5.cl
      clear hC5 hnd hmem hsrt hperm hcS hcz hF5 hFr5 HO HBX HTX kL hl3
      go_wp2_with (at_make; go_loud (refine wpList_make_rd _ rfl _ _ 72 rfl w5.heap.size 4 (.bool false) 1 Try.underlying72 infB rfl .i64 .i64 n n _ _ rfl rfl rfl rfl (by omega) (by omega) (by unfold maxLen; omega) (Nat.le_refl _) ?_; intro w6 ho6 hg6; rw [hd_zero xs n] at ho6; have HO6 := Lib.hid ho6; have HB6 := Lib.hid ((Below.refl _ w5).grown hg6 (Nat.le_refl _) (by intro g hg; cases hg)); clear ho6 hg6))
      go_loopw [12] (fun ic wx => ∃ i : Nat, i ≤ n ∧ ic = .int .i64 i ∧ wx.ownsRow w5.heap.size 4 1 (.slice (some ⟨w5.heap.size, 0, none⟩) n n) n (hd xs n i) ∧ Below w5.heap.size w5 wx) (fun ic _ => n - (intOf ic).toNat)
      case atStart => exact ⟨0, Nat.zero_le _, rfl, HO6.out, HB6.out⟩
      case round =>
        clear HO6 HB6
        obtain ⟨i, hi, rfl, hO, hBx⟩ := hrel
        by_cases hlt : i < n
        · obtain ⟨p, hp, hxp⟩ := HM5.out i hlt
          have hCx := HC5.out.keep hBx.block
          have k1 := hCx.cl
          have k2 := hCx.cs i _ hxp
          have k3 := hCx.ca i hlt
          have k4 : wr.cell? ⟨w5.heap.size, p, none⟩ = some (.bool false) := by
            have h1 := hO.cellAt p (by omega)
            rw [hd_get hp, hd_new HN5.out hxp] at h1
            exact h1
          have k5 := hCx.co
          have k6 := hCx.cy
          have HCX := Lib.hid hCx
          have HO := Lib.hid hO
          have HBX := Lib.hid hBx
          clear hCx hO hBx
          have g1 : ¬ ((p : Int) < 0) := by omega
          have g2 : ¬ ((n : Int) ≤ (p : Int)) := by omega
          go_upto_region 20 with (fail)
          refine region_ord (AllAt wr) [false, false, false, false, false, false, false, false, false, false, false, false, false, false, false, false, false, false, false, false, false, false, false, false, false, false, false, false, false, false, false] (by kernel_rfl) (by kernel_rfl) (by kernel_rfl) (show AllAt wr wr.drew from rfl) ?_
          iterate 31 (refine ord_val (by rfl) (by intro wz hi0; have z1 := (hi0.cell _).trans k1; have z2 := (hi0.cell _).trans k2; have z3 := (hi0.cell _).trans k3; have z4 := (hi0.cell _).trans k4; have z5 := (hi0.cell _).trans k5; have z6 := (hi0.cell _).trans k6; clear hi0; go_simp; with_reducible rfl) (fun K hK => ?_); go_simp; refine hK _ ?_; clear hK K)
          refine ord_nil ?_
          have k1 : wr.drew.cell? _ = _ := k1
          have HCX := Lib.hid (show Ctx w.heap.size (w.heap.size + 1) (w.heap.size + 1 + 1) gS gA gl ol n w5.heap.size odd b (.slice (some ⟨gl, ol, none⟩) n cp) xs zs wr.drew from HCX.out.keep fun _ _ => rfl)
          have hO : wr.drew.ownsRow w5.heap.size 4 1 (.slice (some ⟨w5.heap.size, 0, none⟩) n n) n (hd xs n i) := HO.out
          have hBx : Below w5.heap.size w5 wr.drew := HBX.out.drew
          have k2 : wr.drew.cell? _ = _ := k2
          have k4 : wr.drew.cell? _ = _ := k4
          clear k3 k5 k6 HO HBX
          generalize wr.drew = WX at *
          have f2 : WX.frozen? ⟨w5.heap.size, p, none⟩ = false := hO.frozenAt _
          have hst := (hO.stored p (.bool true)).1
          rw [hd_step hxp] at hst
          have hFs : Frm (fun j => j = w5.heap.size) WX (WX.setCell ⟨w5.heap.size, p, none⟩ (.bool true)) := Frm.setCell (O := fun j => j = w5.heap.size) (Frm.refl _ WX) w5.heap.size p (Or.inl rfl) _
          have hB9 := hBx.trans (hFs.below (fun j e => by omega) hBx.size)
          have HO9 := Lib.hid (show (WX.setCell ⟨w5.heap.size, p, none⟩ (.bool true)).ownsRow w5.heap.size 4 1 (.slice (some ⟨w5.heap.size, 0, none⟩) n n) n (hd xs n (i + 1)) from hst)
          have HC9 := Lib.hid (HC5.out.keep hB9.block)
          have HB9 := Lib.hid hB9
          clear hst hFs hB9 hO hBx
          go_upto_region 23 with (fail)
          clear k1 k2 k4 f2 HCX
          generalize (WX.setCell ⟨w5.heap.size, p, none⟩ (.bool true)) = WS at *
          have k1 := HC9.out.cl
          have k5 := HC9.out.co
          have k6 := HC9.out.cy
          have k2 := HC9.out.cs i _ hxp
          have hb0 : ¬ b = 0 := by omega
          have hb9 : ¬ b = -1 := by omega
          cases odd with
          | true =>
            go_upto_region 23 with (fail)
            refine region_ord (AllAt WS) [false, false, false, false, false, false, false, false, false, false, false, false, false, false, false, false, false, false, false, false, false, false, false, false, false, false, false, false, false, false, false, false, false, false, false, false, false, false, false, false, false, false, false, false, false, false, false, false, false, false, false, false, false, false, false, false, false, false, false, false, false, false] (by kernel_rfl) (by kernel_rfl) (by kernel_rfl) (show AllAt WS WS.drew from rfl) ?_
            iterate 62 (first | (refine ord_not (by rfl) (fun K hK => ?_); go_simp; refine hK _ ?_; clear hK K) | (refine ord_val (by rfl) (by intro wz hi0; have z1 := (hi0.cell _).trans k1; have z2 := (hi0.cell _).trans k2; have z5 := (hi0.cell _).trans k5; have z6 := (hi0.cell _).trans k6; clear hi0; go_simp; with_reducible rfl) (fun K hK => ?_); go_simp; refine hK _ ?_; clear hK K))
            refine ord_nil ?_
            have HO8 := Lib.hid (show WS.drew.ownsRow w5.heap.size 4 1 (.slice (some ⟨w5.heap.size, 0, none⟩) n n) n (hd xs n (i + 1)) from HO9.out)
            have HB8 := Lib.hid (show Below w5.heap.size w5 WS.drew from HB9.out.drew)
            clear k1 k2 k5 k6 HO9 HB9 HC9
            generalize WS.drew = W8 at *
            go_wp2_with fail
            go_roundw
            case rel => exact ⟨i + 1, by omega, by go_num, HO8.out, HB8.out⟩
            case measure => simp [intOf]; omega
          | false =>
            rcases i with _ | m
            · have k2 : WS.cell? ⟨gS, 0, none⟩ = _ := k2
              go_upto_region 23 with (fail)
              refine region_ord (AllAt WS) [false, false, false, false, false, false, false, false, false, false, false, false, false, false, false, false, false, false, false, false, false, false, false, false, false, false, false, false, false, false, false, false, false, false, false, false, false, false, false, false, false, false, false, false, false, false, false, false, false, false, false, false, false, false, false, false, false, false, false, false, false, false] (by kernel_rfl) (by kernel_rfl) (by kernel_rfl) (show AllAt WS WS.drew from rfl) ?_
              iterate 62 (first | (refine ord_not (by rfl) (fun K hK => ?_); go_simp; refine hK _ ?_; clear hK K) | (refine ord_val (by rfl) (by intro wz hi0; have z1 := (hi0.cell _).trans k1; have z2 := (hi0.cell _).trans k2; have z5 := (hi0.cell _).trans k5; have z6 := (hi0.cell _).trans k6; clear hi0; go_simp; with_reducible rfl) (fun K hK => ?_); go_simp; refine hK _ ?_; clear hK K))
              refine ord_nil ?_
              have HO8 := Lib.hid (show WS.drew.ownsRow w5.heap.size 4 1 (.slice (some ⟨w5.heap.size, 0, none⟩) n n) n (hd xs n (0 + 1)) from HO9.out)
              have HB8 := Lib.hid (show Below w5.heap.size w5 WS.drew from HB9.out.drew)
              clear k1 k2 k5 k6 HO9 HB9 HC9
              generalize WS.drew = W8 at *
              go_wp2_with fail
              go_roundw
              case rel => exact ⟨0 + 1, by omega, by go_num, HO8.out, HB8.out⟩
              case measure => simp [intOf]; omega
            · obtain ⟨q, hq, hxq⟩ := HM5.out m (by omega)
              have k3 := HC9.out.cs m _ hxq
              obtain ⟨zp, hzp⟩ : ∃ u, zs[p]? = some u := ⟨_, List.getElem?_eq_getElem (by omega)⟩
              obtain ⟨zq, hzq⟩ : ∃ u, zs[q]? = some u := ⟨_, List.getElem?_eq_getElem (by omega)⟩
              have k4 := HC9.out.cz p _ hzp
              have k7 := HC9.out.cz q _ hzq
              have hlex := sorted_at (HS5.out rfl) hxq hxp
              unfold lex at hlex
              rw [keyOf_at hzp, keyOf_at hzq] at hlex
              have hmn : m < n := by omega
              have e1 : ((m : Nat) : Int) + 1 < ((n : Nat) : Int) := by omega
              have e2 : (0 : Int) ≤ ((m : Nat) : Int) + 1 := by omega
              have e3 : IntKind.i64.wrap ((m : Nat) : Int) = ((m : Nat) : Int) := by
                first
                  | (rw [IntKind.wrap_i64]; omega)
                  | (rw [IntKind.wrap_i64]; unfold wrap64; omega)
              have e4 : ¬ ((n : Nat) : Int) ≤ ((m : Nat) : Int) + 1 := by omega
              by_cases hkk : IntKind.i64.wrap (zq.tdiv b) < IntKind.i64.wrap (zp.tdiv b)
              · have j1 : ¬ IntKind.i64.wrap (zp.tdiv b) < IntKind.i64.wrap (zq.tdiv b) := by omega
                have j2 : ¬ IntKind.i64.wrap (zp.tdiv b) = IntKind.i64.wrap (zq.tdiv b) := by omega
                have j3 : (IntKind.i64.wrap (zp.tdiv b) == IntKind.i64.wrap (zq.tdiv b)) = false := by rw [beq_eq_false_iff_ne]; exact j2
                clear hlex hkk
                go_upto_region 23 with (fail)
                refine region_ord (AllAt WS) [false, false, false, false, false, false, false, false, false, false, false, false, false, false, false, false, false, false, false, false, false, false, false, false, false, false, false, false, false, false, false, false, false, false, false, false, false, false, false, false, false, false, false, false, false, false, false, false, false, false, false, false, false, false, false, false, false, false, false, false, false, false] (by kernel_rfl) (by kernel_rfl) (by kernel_rfl) (show AllAt WS WS.drew from rfl) ?_
                iterate 62 (first | (refine ord_not (by rfl) (fun K hK => ?_); go_simp; refine hK _ ?_; clear hK K) | (refine ord_val (by rfl) (by intro wz hi0; have z1 := (hi0.cell _).trans k1; have z2 := (hi0.cell _).trans k2; have z3 := (hi0.cell _).trans k3; have z4 := (hi0.cell _).trans k4; have z5 := (hi0.cell _).trans k5; have z6 := (hi0.cell _).trans k6; have z7 := (hi0.cell _).trans k7; clear hi0; go_simp; with_reducible rfl) (fun K hK => ?_); go_simp; refine hK _ ?_; clear hK K))
                refine ord_nil ?_
                have HO8 := Lib.hid (show WS.drew.ownsRow w5.heap.size 4 1 (.slice (some ⟨w5.heap.size, 0, none⟩) n n) n (hd xs n (m + 1 + 1)) from HO9.out)
                have HB8 := Lib.hid (show Below w5.heap.size w5 WS.drew from HB9.out.drew)
                clear k1 k2 k3 k4 k5 k6 k7 HO9 HB9 HC9
                generalize WS.drew = W8 at *
                go_wp2_with fail
                go_roundw
                case rel => exact ⟨m + 1 + 1, by omega, by go_num, HO8.out, HB8.out⟩
                case measure => simp [intOf]; omega
              · have j1 : IntKind.i64.wrap (zp.tdiv b) = IntKind.i64.wrap (zq.tdiv b) := by omega
                have j2 : ¬ ((p : Int) < (q : Int)) := by omega
                clear hlex hkk
                go_upto_region 23 with (fail)
                refine region_ord (AllAt WS) [false, false, false, false, false, false, false, false, false, false, false, false, false, false, false, false, false, false, false, false, false, false, false, false, false, false, false, false, false, false, false, false, false, false, false, false, false, false, false, false, false, false, false, false, false, false, false, false, false, false, false, false, false, false, false, false, false, false, false, false, false, false] (by kernel_rfl) (by kernel_rfl) (by kernel_rfl) (show AllAt WS WS.drew from rfl) ?_
                iterate 62 (first | (refine ord_not (by rfl) (fun K hK => ?_); go_simp; refine hK _ ?_; clear hK K) | (refine ord_val (by rfl) (by intro wz hi0; have z1 := (hi0.cell _).trans k1; have z2 := (hi0.cell _).trans k2; have z3 := (hi0.cell _).trans k3; have z4 := (hi0.cell _).trans k4; have z5 := (hi0.cell _).trans k5; have z6 := (hi0.cell _).trans k6; have z7 := (hi0.cell _).trans k7; clear hi0; go_simp; with_reducible rfl) (fun K hK => ?_); go_simp; refine hK _ ?_; clear hK K))
                refine ord_nil ?_
                have HO8 := Lib.hid (show WS.drew.ownsRow w5.heap.size 4 1 (.slice (some ⟨w5.heap.size, 0, none⟩) n n) n (hd xs n (m + 1 + 1)) from HO9.out)
                have HB8 := Lib.hid (show Below w5.heap.size w5 WS.drew from HB9.out.drew)
                clear k1 k2 k3 k4 k5 k6 k7 HO9 HB9 HC9
                generalize WS.drew = W8 at *
                go_wp2_with fail
                go_roundw
                case rel => exact ⟨m + 1 + 1, by omega, by go_num, HO8.out, HB8.out⟩
                case measure => simp [intOf]; omega
        · go_wp2_with fail
          go_ret
          exact ⟨rfl, HB5.out.trans (hBx.mono HB5.out.size)⟩

set_option maxRecDepth 100000 in
theorem lifted (os : Os) (started : os.Started) (H : Type) (enc : TypeId × Value → H) :
    ReturnsInHanded {} Try.checked os 8 .any (Rows.cleanSortsSpec.pre6 enc Try.prog Try.f8 Rows.cleanSortsRow.domain false) (Rows.cleanSortsSpec.post enc Try.prog Try.f8 false true false false) := by
  refine returnsInHanded_of_change (C := Try.checked) own started (by kernel_rfl) Try.func8
    (ChangeSpec.witness6 (enc := enc) (C := Try.checked) false ⟨#[], #[.slice none 0 0, .int .i64 0, .bool false], []⟩ 8 (by kernel_rfl) (by kernel_rfl) (by kernel_rfl) (by kernel_rfl)) ?_
  intro W base args ds gs before hval0 hW hcnd _
  have hval : ∀ (j : Nat) t v, Try.f8.params[j]? = some t → args[j]? = some v → Value.okWide Try.prog W .any base t v := hval0
  have hW' := hW
  obtain ⟨p, q, hA0, hV, rfl, hfz, hnd⟩ := hW
  have hA : DataW.TrodAll enc Try.prog W 0 (fun _ => true) true Try.f8.params.toList args.toList ds p := hA0
  rw [Try.params8] at hA hval
  obtain ⟨v0, vs0, d0, ds0, p0, q0, hargs, rfl, rfl, h0, r0⟩ := trodAll_cons hA
  obtain ⟨v1, vs1, d1, ds1, p1, q1, rfl, rfl, rfl, h1, r1⟩ := trodAll_cons r0
  obtain ⟨v2, vs2, d2, ds2, p2, q2, rfl, rfl, rfl, h2, r2⟩ := trodAll_cons r1
  obtain ⟨rfl, rfl, rfl⟩ := trodAll_nil r2
  obtain rfl : args = #[v0, v1, v2] := by cases args; simp_all
  obtain ⟨rfl, rfl⟩ := trodVars_none hV
  obtain ⟨zs, hr, hz⟩ := open_nums Try.underlying69 Try.underlying3 (by kernel_rfl) (hval 0 69 v0 rfl rfl) h0
  obtain ⟨a1, rfl, rfl, rfl, w1⟩ := open_int Try.underlying3 (hval 1 3 v1 rfl rfl) h1
  obtain ⟨ob, rfl, rfl, rfl⟩ := open_bool Try.underlying4 (hval 2 4 v2 rfl rfl) h2
  clear hA0 hval0
  refine (walk v0 a1 ob zs W hr hz).mono fun e W' ⟨he, hb⟩ => ?_
  subst he
  exact ⟨_, rfl, law_post hW' rfl laid (by kernel_rfl) rfl Try.underlying4 rfl hb⟩

theorem over : Rows.cleanSortsRow.holds Try.pinned (OpenSpec.ofChange Rows.cleanSortsSpec) :=
  OpenClaim.holds_of_wide 8 Try.f8 rfl rfl rfl rfl rfl rfl rfl ⟨rfl, rfl, rfl, rfl, rfl⟩ rfl rfl rfl rfl rfl (by kernel_rfl) Try.func8 (by kernel_rfl)
    (of_decide_eq_true (by kernel_rfl)) (by unfold Func.isWrapper; first | (rw [if_pos (by decide +kernel)]; kernel_rfl) | (rw [if_neg (by decide +kernel)]; exact ⟨rfl, rfl⟩))
    (fun os started H enc _ => lifted os started H enc)

theorem proved : Rows.CleanSortsSaid :=
  over
end Go.Proofs.Ytlbodandidopfaa.lawCleanSorts
