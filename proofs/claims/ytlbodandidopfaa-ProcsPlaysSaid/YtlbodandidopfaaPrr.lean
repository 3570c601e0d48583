/- Contracts of the document's own numbers of processes: New, Has, Take, Free, List, Bits. Conditions: the numbers fit their kinds. -/
import Derived.Test.YtlbodandidopfaaPrl
namespace Go.Proofs.Ytlbodandidopfaa
open Go.ChangeShapes Go.WideShapes Go.ChangeAt Go.RowKit
set_option linter.unusedSimpArgs false
set_option linter.unusedVariables false
def boolArr (n b : Nat) : Array Value := ((List.range n).map fun i => Value.bool (Pm.hb b i)).toArray
theorem boolArr_get (n b i : Nat) (h : i < n) : (boolArr n b)[i]? = some (.bool (Pm.hb b i)) := by
  unfold boolArr
  rw [List.getElem?_toArray, List.getElem?_map, List.getElem?_range h]; rfl
theorem boolArr_set (n b c p : Nat) (x : Bool) (hp : ∀ q, Pm.hb c q = if p = q then x else Pm.hb b q) : (boolArr n b).setIfInBounds p (.bool x) = boolArr n c := by
  unfold boolArr
  rw [List.setIfInBounds_toArray]
  congr 1
  apply List.ext_getElem?
  intro i
  rw [List.getElem?_set, List.getElem?_map, List.getElem?_map]
  rcases Nat.lt_or_ge i n with h | h
  · rw [List.getElem?_range h]
    by_cases hpi : p = i
    · subst hpi
      rw [if_pos rfl, if_pos (by simpa using h)]
      simp [hp]
    · rw [if_neg hpi]; simp [hp, hpi]
  · rw [List.getElem?_eq_none (by simpa using h)]
    by_cases hpi : p = i
    · subst hpi
      rw [if_pos rfl, if_neg (by simp; omega)]; rfl
    · rw [if_neg hpi]; rfl
theorem arr_put (n b p : Nat) : (boolArr n b).setIfInBounds p (.bool true) = boolArr n (Pm.put b p) := boolArr_set n b _ p true (fun q => by
  rw [Pm.hb_put]; by_cases h : p = q <;> simp [h])
theorem arr_cut (n b p : Nat) (hp : p < 64) (hb : b < 2 ^ 64) : (boolArr n b).setIfInBounds p (.bool false) = boolArr n (Pm.cut b p) := boolArr_set n b _ p false (fun q => by
  rw [Pm.hb_cut b p q hp hb]; by_cases h : p = q <;> simp [h])
def RBox (w : World) (k g n b : Nat) : Prop := w.heap[k]? = some (.cells #[.slice (some ⟨g, 0, none⟩) n n] 124 (0, 0)) ∧ w.heap[g]? = some (.cells (boolArr n b) 4 (0, 0)) ∧ k ≠ g
theorem heap_lt {w : World} {k : Nat} {o : Obj} (h : w.heap[k]? = some o) : k < w.heap.size := by
  rcases Nat.lt_or_ge k w.heap.size with h1 | h1
  · exact h1
  · rw [Array.getElem?_eq_none h1] at h; cases h
theorem RBox.next {w w' : World} {k g n b : Nat} (h : RBox w k g n b) (hb : Below w.heap.size w w') : RBox w' k g n b :=
  ⟨(hb.block k (heap_lt h.1)).trans h.1, (hb.block g (heap_lt h.2.1)).trans h.2.1, h.2.2⟩
theorem RBox.top {w : World} {k g n b : Nat} (h : RBox w k g n b) : w.cell? ⟨k, 0, none⟩ = some (.slice (some ⟨g, 0, none⟩) n n) := cell_of_row w k 0 _ _ (0, 0) h.1
theorem RBox.at_ {w : World} {k g n b : Nat} (h : RBox w k g n b) (i : Nat) (hi : i < n) : w.cell? ⟨g, i, none⟩ = some (.bool (Pm.hb b i)) := (cell_of_row w g i _ _ (0, 0) h.2.1).trans (boolArr_get n b i hi)
theorem RBox.free {w : World} {k g n b : Nat} (h : RBox w k g n b) (i : Nat) : w.frozen? ⟨g, i, none⟩ = false := frozen_of_row w g i _ _ h.2.1
theorem RBox.store {w : World} {k g n b c : Nat} (h : RBox w k g n b) (i : Nat) (x : Bool) (hc : (boolArr n b).setIfInBounds i (.bool x) = boolArr n c) : RBox (w.setCell ⟨g, i, none⟩ (.bool x)) k g n c :=
  ⟨(heap_setCell_other w ⟨g, i, none⟩ k _ h.2.2).trans h.1, by rw [← hc]; exact heap_setCell_same w g i _ _ _ h.2.1, h.2.2⟩
/-- the set in k has become c, and nothing else below B has changed, whatever B lies below both blocks -/
def RTo (w : World) (k g n c : Nat) (w' : World) : Prop := RBox w' k g n c ∧ (∀ B, B ≤ g → Below B w w') ∧ ∀ j, j ≠ g → w'.heap[j]? = w.heap[j]?
set_option maxRecDepth 100000 in
set_option maxHeartbeats 4000000 in
theorem rhas_in (w : World) (k g n b p : Nat) (hx : RBox w k g n b) (hn : n ≤ 64) (hp : p < n) : Calls Try.prog 64 #[.pointer (some ⟨k, 0, none⟩), .int .i64 p] w fun e w' => e = .returned (.bool (Pm.hb b p)) ∧ w = w' := by
  have c0 := hx.top
  have c1 := hx.at_ p hp
  clear hx
  generalize Pm.hb b p = x at *
  go_enter Try.func64, Try.ntmps64
  go_wp2
  go_ret
  exact ⟨rfl, rfl⟩
set_option maxRecDepth 100000 in
set_option maxHeartbeats 4000000 in
theorem rhas_out (w : World) (k g n b : Nat) (p : Int) (hx : RBox w k g n b) (hn : n ≤ 64) (hp : p < 0 ∨ n ≤ p) : Calls Try.prog 64 #[.pointer (some ⟨k, 0, none⟩), .int .i64 p] w fun e w' => e = .returned (.bool false) ∧ w = w' := by
  have c0 := hx.top
  clear hx
  rcases hp with hp | hp
  · go_enter Try.func64, Try.ntmps64
    go_wp2
    go_ret
    exact ⟨rfl, rfl⟩
  · have h0 : 0 ≤ p := by omega
    go_enter Try.func64, Try.ntmps64
    go_wp2
    go_ret
    exact ⟨rfl, rfl⟩
def RFreeP (w : World) (k g n b : Nat) (z : Int) (e : Ending) (w' : World) : Prop :=
  (∃ p : Nat, z = p ∧ p < n ∧ Pm.hb b p = true ∧ e = .returned (.int .i64 0) ∧ RTo w k g n (Pm.cut b p) w') ∨ (¬ (∃ p : Nat, z = p ∧ p < n ∧ Pm.hb b p = true) ∧ e = .returned (.int .i64 2) ∧ w = w')
set_option maxRecDepth 100000 in
set_option maxHeartbeats 4000000 in
theorem rfree_no (w : World) (k : Nat) (z : Int) (hh : Calls Try.prog 64 #[.pointer (some ⟨k, 0, none⟩), .int .i64 z] w fun e w' => e = .returned (.bool false) ∧ w = w') : Calls Try.prog 57 #[.pointer (some ⟨k, 0, none⟩), .int .i64 z] w fun e w' => e = .returned (.int .i64 2) ∧ w = w' := by
  have HH := Lib.hid hh
  clear hh
  go_enter Try.func57, Try.ntmps57
  go_wp2_with fail
  refine HH.out.mono ?_
  rintro e w1 ⟨rfl, rfl⟩
  go_wp2
  go_ret
  exact ⟨rfl, rfl⟩
set_option maxRecDepth 100000 in
set_option maxHeartbeats 4000000 in
theorem rfree_any (w : World) (k g n b : Nat) (z : Int) (hx : RBox w k g n b) (hn : n ≤ 64) (hb : b < 2 ^ 64) : Calls Try.prog 57 #[.pointer (some ⟨k, 0, none⟩), .int .i64 z] w (RFreeP w k g n b z) := by
  by_cases hz : z < 0 ∨ n ≤ z
  · refine (rfree_no w k z (rhas_out w k g n b z hx hn hz)).mono ?_
    rintro e w' ⟨rfl, rfl⟩
    exact Or.inr ⟨fun ⟨p, hp, hl, _⟩ => by omega, rfl, rfl⟩
  · obtain ⟨p, rfl⟩ := Int.eq_ofNat_of_zero_le (show 0 ≤ z by omega)
    have hp : p < n := by omega
    have h := rhas_in w k g n b p hx hn hp
    cases ht : Pm.hb b p with
    | true =>
      rw [ht] at h
      have hset := hx.store p false (arr_cut n b p (by omega) hb)
      have c0 := hx.top
      have f1 := hx.free p
      have hfin : RFreeP w k g n b p (.returned (.int .i64 0)) (w.setCell ⟨g, p, none⟩ (.bool false)) := Or.inl ⟨p, rfl, hp, ht, rfl, hset, fun B hB => belowSetAt (Below.refl B w) hB p _, fun j hj => heap_setCell_other w ⟨g, p, none⟩ j _ hj⟩
      have c1 := hx.at_ p hp
      rw [ht] at c1
      have HF := Lib.hid hfin
      have HH := Lib.hid h
      clear h hset hfin ht hx hz hb
      go_enter Try.func57, Try.ntmps57
      go_wp2_with fail
      refine HH.out.mono ?_
      rintro e w1 ⟨rfl, rfl⟩
      go_wp2
      go_ret
      exact HF.out
    | false =>
      rw [ht] at h
      refine (rfree_no w k p h).mono ?_
      rintro e w' ⟨rfl, rfl⟩
      refine Or.inr ⟨fun ⟨q, hq, hl, h2⟩ => ?_, rfl, rfl⟩
      obtain rfl : p = q := by omega
      rw [ht] at h2; cases h2
def RTakeP (w : World) (k g n b : Nat) (e : Ending) (w' : World) : Prop :=
  (∃ p, p < n ∧ (∀ q, q < p → Pm.hb b q = true) ∧ Pm.hb b p = false ∧ e = .returned (.tuple #[.int .i64 p, .int .i64 0]) ∧ RTo w k g n (Pm.put b p) w') ∨ ((∀ q, q < n → Pm.hb b q = true) ∧ e = .returned (.tuple #[.int .i64 0, .int .i64 5]) ∧ w = w')
set_option maxRecDepth 100000 in
set_option maxHeartbeats 4000000 in
theorem rtake_any (w : World) (k g n b : Nat) (hx : RBox w k g n b) (hn : n ≤ 64) : Calls Try.prog 55 #[.pointer (some ⟨k, 0, none⟩)] w (RTakeP w k g n b) := by
  have c0 := hx.top
  have HX := Lib.hid hx
  clear hx
  go_enter Try.func55, Try.ntmps55
  go_wp2_with fail
  go_loop [4] (fun i => ∃ p : Nat, i = .int .i64 p ∧ p ≤ n ∧ Hid (∀ q, q < p → Pm.hb b q = true)) (fun i => n - (intOf i).toNat)
  case atStart => exact ⟨0, rfl, by omega, Lib.hid (fun q hq => by omega)⟩
  case round =>
    obtain ⟨p, rfl, hp, HA⟩ := hrel
    by_cases hlt : p < n
    · have c1 := HX.out.at_ p hlt
      have f1 := HX.out.free p
      cases ht : Pm.hb b p with
      | true =>
        rw [ht] at c1
        have HT := Lib.hid ht
        clear ht
        go_wp2
        go_round
        case rel =>
          refine ⟨p + 1, by go_num, by omega, Lib.hid (fun q hq => ?_)⟩
          rcases Nat.lt_or_ge q p with h | h
          · exact HA.out q h
          · obtain rfl : q = p := by omega
            exact HT.out
        case measure => simp [intOf]; omega
      | false =>
        rw [ht] at c1
        have hfin : RTakeP w k g n b (.returned (.tuple #[.int .i64 p, .int .i64 0])) (w.setCell ⟨g, p, none⟩ (.bool true)) := Or.inl ⟨p, hlt, HA.out, ht, rfl, HX.out.store p true (arr_put n b p), fun B hB => belowSetAt (Below.refl B w) hB p _, fun j hj => heap_setCell_other w ⟨g, p, none⟩ j _ hj⟩
        have HF := Lib.hid hfin
        clear ht hfin
        go_wp2
        go_ret2
        exact HF.out
    · obtain rfl : p = n := by omega
      have hfin : RTakeP w k g p b (.returned (.tuple #[.int .i64 0, .int .i64 5])) w := Or.inr ⟨HA.out, rfl, rfl⟩
      have HF := Lib.hid hfin
      clear hfin
      go_wp2
      go_ret2
      exact HF.out
theorem bit_down (b j : Nat) : b / 2 ^ j = 2 * (b / 2 ^ (j + 1)) + (if Pm.hb b j = true then 1 else 0) := by
  rw [Pm.hb_eq, Nat.pow_succ, ← Nat.div_div_eq_div_mul]
  by_cases h : b / 2 ^ j % 2 = 1
  · simp [h]; omega
  · simp [h]; omega
set_option maxRecDepth 100000 in
set_option maxHeartbeats 4000000 in
theorem rbits_any (w : World) (k g n b : Nat) (hx : RBox w k g n b) (hn : n ≤ 64) (hb : b < 18446744073709551616) (hbn : b < 2 ^ n) : Calls Try.prog 62 #[.pointer (some ⟨k, 0, none⟩)] w fun e w' => e = .returned (.int .u64 b) ∧ w = w' := by
  have c0 := hx.top
  have HX := Lib.hid hx
  have h0 : b / 2 ^ n = 0 := Nat.div_eq_of_lt hbn
  have H0 := Lib.hid h0
  clear hx h0 hbn
  go_enter Try.func62, Try.ntmps62
  go_wp2_with fail
  go_loop [3, 4] (fun v i => ∃ (j x : Nat), j ≤ n ∧ v = .int .u64 x ∧ i = .int .i64 ((j : Int) - 1) ∧ x ≤ b ∧ Hid (x = b / 2 ^ j)) (fun _ i => (intOf i + 1).toNat)
  case atStart => exact ⟨n, 0, by omega, rfl, rfl, by omega, Lib.hid H0.out.symm⟩
  case round =>
    obtain ⟨j, x, hj, rfl, rfl, hxb, HE⟩ := hrel
    rcases Nat.eq_zero_or_pos j with h | h
    · subst h
      have hxe := HE.out
      simp only [Nat.pow_zero, Nat.div_one] at hxe
      have HE2 := Lib.hid hxe
      clear hxe
      go_wp2
      go_ret
      exact ⟨ret_int (by rw [HE2.out]), rfl⟩
    · obtain ⟨m, rfl⟩ : ∃ m, j = m + 1 := ⟨j - 1, by omega⟩
      have hd := bit_down b m
      rw [← HE.out] at hd
      have hle : b / 2 ^ m ≤ b := Nat.div_le_self _ _
      have hm1 : ((m + 1 : Nat) : Int) - 1 = (m : Int) := by omega
      rw [hm1]
      have c1 := HX.out.at_ m (by omega)
      cases ht : Pm.hb b m with
      | true =>
        rw [ht] at c1 hd
        simp only [if_true] at hd
        have h2 : 2 * x + 1 ≤ b := by omega
        have HD := Lib.hid hd
        clear hd hle ht hm1
        go_wp2
        go_round
        case rel => exact ⟨m, 2 * x + 1, by omega, by first | rfl | (simp), by first | rfl | simp, h2, Lib.hid HD.out.symm⟩
        case measure => first | (simp [intOf]; done) | (simp [intOf]; omega)
      | false =>
        rw [ht] at c1 hd
        simp only [Bool.false_eq_true, if_false, Nat.add_zero] at hd
        have h2 : 2 * x ≤ b := by omega
        have HD := Lib.hid hd
        clear hd hle ht hm1
        go_wp2
        go_round
        case rel => exact ⟨m, 2 * x, by omega, by first | rfl | (simp), by first | rfl | simp, h2, Lib.hid HD.out.symm⟩
        case measure => first | (simp [intOf]; done) | (simp [intOf]; omega)
set_option maxRecDepth 100000 in
set_option maxHeartbeats 4000000 in
theorem rlist_any (w : World) (k g n b : Nat) (hx : RBox w k g n b) (hn : n ≤ 64) : Calls Try.prog 60 #[.pointer (some ⟨k, 0, none⟩)] w fun e w' => ∃ v, e = .returned v ∧ w'.ownsRow w.heap.size 3 1 v (bitsTo b n).length (iv .i64 (bitsTo b n)) ∧ Below w.heap.size w w' := by
  have HX := Lib.hid hx
  clear hx
  go_enter Try.func60, Try.ntmps60
  go_wp2_with fail
  go_loopw [3, 4] (fun v i wr => ∃ j : Nat, j ≤ n ∧ i = .int .i64 j ∧ wr.ownsRow w.heap.size 3 1 v (bitsTo b j).length (iv .i64 (bitsTo b j)) ∧ Below w.heap.size w wr) (fun _ i _ => n - (intOf i).toNat)
  case atStart => exact ⟨0, by omega, rfl, ⟨by simp [bitsTo, iv], Or.inl ⟨rfl, by simp [bitsTo]⟩⟩, Below.refl _ _⟩
  case round =>
    obtain ⟨j, hj, rfl, ho, hbel⟩ := hrel
    have hz := hbel.size
    have hx2 := HX.out.next hbel
    have c0 := hx2.top
    have hlen := bitsTo_len b j
    have HO := Lib.hid ho
    by_cases hlt : j < n
    · have c1 := hx2.at_ j hlt
      cases ht : Pm.hb b j with
      | true =>
        rw [ht] at c1
        have hbs := bitsTo_yes ht
        have HB := Lib.hid hbs
        clear ht hbs ho hx2
        go_wp2_with (at_builtin; refine wpList_append_rd _ rfl _ _ 69 rfl w.heap.size 3 (.int .i64 0) 8 Try.underlying69 Try.infI rfl _ _ _ rfl (HO.out.alloc _) _ rfl _ _ (RdV.one _ _ _) (by intro u hu; simp at hu; subst hu; rfl) (by simp; omega) (by omega) (by simp; omega) ?_; intro v3 w3 ho3 hg3 _)
        go_roundw
        case rel =>
          refine ⟨j + 1, by omega, by go_num, ?_, (hbel.alloc hz _).grown hg3 (by simp; omega) (fun g hg => (HO.out.lt g hg).1)⟩
          rw [HB.out, List.length_append, show iv .i64 (bitsTo b j ++ [(j : Int)]) = iv .i64 (bitsTo b j) ++ [.int .i64 (j : Int)] from by simp [iv]]
          exact ho3
        case measure => simp [intOf]; omega
      | false =>
        rw [ht] at c1
        have hbs := bitsTo_no ht
        have HB := Lib.hid hbs
        clear ht hbs ho hx2
        go_wp2
        go_roundw
        case rel => exact ⟨j + 1, by omega, by go_num, by rw [HB.out]; exact HO.out, hbel⟩
        case measure => simp [intOf]; omega
    · obtain rfl : j = n := by omega
      clear ho hx2
      go_wp2
      go_ret
      exact ⟨_, rfl, HO.out, hbel⟩
theorem Try.infB : (Try.prog.info? 4).map (fun i => (i.zero, i.size, i.bytes)) = some (some (.bool false), 1, 1) := by kernel_rfl
theorem row_whole {w : World} {base g n : Nat} {e : TypeId} {xs : List Value} (h : w.ownsRow base e 1 (.slice (some ⟨g, 0, none⟩) n n) n xs) : w.heap[g]? = some (.cells xs.toArray e (0, 0)) := by
  rcases h.2 with ⟨h0, _⟩ | ⟨g', cap, cur, hv, hg, hh, hnc, hcm, hcs, htk⟩
  · cases h0
  · injection hv with e1 e2 e3
    injection e1 with e1
    injection e1 with e1 _ _
    subst e1 e3
    rw [hh, ← htk, List.take_of_length_le (by rw [Array.length_toList]; omega)]
theorem zeros_arr (n : Nat) : (List.replicate n (Value.bool false)).toArray = boolArr n 0 := by
  unfold boolArr
  congr 1
  apply List.ext_getElem?
  intro i
  rw [List.getElem?_replicate, List.getElem?_map]
  rcases Nat.lt_or_ge i n with h | h
  · rw [if_pos h, List.getElem?_range h]
    simp [Pm.hb]
  · rw [if_neg (by omega), List.getElem?_eq_none (by simpa using h)]; rfl
set_option maxRecDepth 100000 in
set_option maxHeartbeats 4000000 in
theorem rnew_yes (n : Nat) (h1 : 1 ≤ n) (h2 : n ≤ 64) (w : World) : Calls Try.prog 51 #[.int .i64 n] w fun e w' => ∃ k g, e = .returned (.tuple #[.pointer (some ⟨k, 0, none⟩), .int .i64 0]) ∧ RBox w' k g n 0 ∧ w.heap.size ≤ g ∧ Below w.heap.size w w' := by
  go_enter Try.func51, Try.ntmps51
  go_wp2_with (at_make; refine wpList_make_rd _ rfl _ _ 72 rfl w.heap.size 4 (.bool false) 1 Try.underlying72 Try.infB rfl .i64 .i64 n n _ _ rfl rfl rfl rfl (by omega) (by omega) (by unfold maxLen; omega) (Nat.le_refl _) ?_; intro w1 ho1 hg1)
  go_ret2
  have hrow := row_whole ho1
  rw [zeros_arr] at hrow
  have hlt := heap_lt hrow
  have hb1 : Below w.heap.size w w1 := (Below.refl _ _).grown hg1 (Nat.le_refl _) (by intro g h; cases h)
  exact ⟨w1.heap.size, w.heap.size, rfl, ⟨heap_alloc_new w1 _, (Below.heap_alloc _ _ _ hlt).trans hrow, by omega⟩, Nat.le_refl _, hb1.alloc hb1.size _⟩
end Go.Proofs.Ytlbodandidopfaa
