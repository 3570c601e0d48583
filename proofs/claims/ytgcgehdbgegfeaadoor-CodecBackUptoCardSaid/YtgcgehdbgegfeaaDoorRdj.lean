/- Contracts of codec.Reader's Between, Bytes and List. Conditions: the rows are shorter than 2^32. -/
import Derived.Test.YtgcgehdbgegfeaaDoorRdi
import Derived.Test.YtgcgehdbgegfeaaDoorNum
import Derived.Lib.SmallJoins
import Derived.Deep.RegionLaw
import Derived.Deep.RegionHeld3
import Derived.Deep.DrawnRows
namespace Go.Proofs.YtgcgehdbgegfeaaDoor
open Go.ChangeShapes Go.WideShapes Go.ChangeAt Go.RowKit
set_option linter.unusedSimpArgs false
set_option linter.unusedVariables false
attribute [local go_sem ↓] Go.wp_at_zero Go.wp_at_succ

set_option maxRecDepth 100000 in
set_option maxHeartbeats 4000000 in
theorem between1_any (w : World) (k rb vb lb hb : Nat) (l : List UInt8) (z lo hi : Int) (hx : CBox w k l 0) (h1 : One w rb (.pointer (some ⟨k, 0, none⟩)) 28) (h2 : One w vb (.int .i64 z) 2) (h3 : One w lb (.int .i64 lo) 3) (h4 : One w hb (.int .i64 hi) 3)
    (hk1 : k < rb) (hk2 : k < vb) (hk3 : k < lb) (hk4 : k < hb) (hvl : lb ≠ vb) (hvh : hb ≠ vb) (hl : l.length < 4294967296) :
    Calls Tryd.prog 48 #[.pointer (some ⟨rb, 0, none⟩), .pointer (some ⟨vb, 0, none⟩), .pointer (some ⟨lb, 0, none⟩), .pointer (some ⟨hb, 0, none⟩)] w
      (BodyP k (· = vb) (fun w2 => ∃ v l', within lo hi (numO l) = .ok v l' ∧ CBox w2 k l' 0 ∧ One w2 vb (.int .i64 v) 2) (fun ev l2 w2 => ∃ n : Nat, ev = n ∧ within lo hi (numO l) = .bad n l2) w) := by
  have hn := number_does w k l 0 hx hl
  have c1 := h1.cell
  cases ho : numO l with
  | ok v l' =>
    rw [ho] at hn
    have HN := Lib.hid hn
    have H2 := Lib.hid h2
    have H3 := Lib.hid h3
    have H4 := Lib.hid h4
    clear hn h2 ho h1 hx h3 h4
    by_cases hin : lo ≤ v ∧ v ≤ hi
    · obtain ⟨hlo, hhi⟩ := hin
      have d1 : decide (lo ≤ v) = true := by simp; omega
      have d2 : decide (v ≤ hi) = true := by simp; omega
      have hy := fun w1 => need_yes 22 w1
      have HY := Lib.hid hy
      have hres : within lo hi (.ok v l') = .ok v l' := by simp only [within, if_pos (And.intro hlo hhi)]
      have HR := Lib.hid hres
      clear hy hres
      go_enter Tryd.func48, Tryd.ntmps48
      go_wp2_with fail
      refine HN.out.mono ?_
      rintro e w1 ⟨rfl, hx1, hf1⟩
      have a2 := H2.out.frm hf1 (by omega)
      have f2 := a2.free
      have b2 := a2.set (.int .i64 v)
      have b3 := (H3.out.frm hf1 (by omega)).other vb 0 (fun e => hvl e.symm) (.int .i64 v)
      have b4 := (H4.out.frm hf1 (by omega)).other vb 0 (fun e => hvh e.symm) (.int .i64 v)
      have c2 := a2.cell
      have c3 := b2.cell
      have c4 := b3.cell
      have c5 := b4.cell
      have HX := Lib.hid (hx1.frm (O := (· = vb)) (Frm.setCell (O := (· = vb)) (Frm.refl _ _) vb 0 (Or.inl rfl) (.int .i64 v)) (by omega))
      have HF := Lib.hid (Frm.setCell (O := fun j => j = k ∨ j = vb) (hf1.mono (fun j _ h => Or.inl h)) vb 0 (Or.inl (Or.inr rfl)) (.int .i64 v))
      have HB := Lib.hid b2
      clear hx1 hf1 a2 b2 b3 b4
      go_wp2_with fail
      refine (HY.out _).mono ?_
      rintro e w2 ⟨rfl, rfl⟩
      go_wp2
      go_end0
      exact ⟨Or.inl ⟨rfl, v, l', HR.out, HX.out, HB.out⟩, HF.out⟩
    · have hy := fun w1 => need_no 22 w1
      have HY := Lib.hid hy
      have hres : within lo hi (.ok v l') = .bad 22 l' := by simp only [within, if_neg hin]
      have HR := Lib.hid hres
      clear hy hres
      by_cases hlo : lo ≤ v
      · have d1 : decide (lo ≤ v) = true := by simp; omega
        have d2 : decide (v ≤ hi) = false := by simp; omega
        clear hin
        go_enter Tryd.func48, Tryd.ntmps48
        go_wp2_with fail
        refine HN.out.mono ?_
        rintro e w1 ⟨rfl, hx1, hf1⟩
        have a2 := H2.out.frm hf1 (by omega)
        have f2 := a2.free
        have b2 := a2.set (.int .i64 v)
        have b3 := (H3.out.frm hf1 (by omega)).other vb 0 (fun e => hvl e.symm) (.int .i64 v)
        have b4 := (H4.out.frm hf1 (by omega)).other vb 0 (fun e => hvh e.symm) (.int .i64 v)
        have c2 := a2.cell
        have c3 := b2.cell
        have c4 := b3.cell
        have c5 := b4.cell
        have HX := Lib.hid (hx1.frm (O := (· = vb)) (Frm.setCell (O := (· = vb)) (Frm.refl _ _) vb 0 (Or.inl rfl) (.int .i64 v)) (by omega))
        have HF := Lib.hid (Frm.setCell (O := fun j => j = k ∨ j = vb) (hf1.mono (fun j _ h => Or.inl h)) vb 0 (Or.inl (Or.inr rfl)) (.int .i64 v))
        clear hx1 hf1 a2 b2 b3 b4
        go_wp2_with fail
        refine (HY.out _).mono ?_
        rintro e w2 ⟨rfl, rfl⟩
        go_wp2
        exact ⟨rfl, Or.inr ⟨_, _, rfl, HX.out, 22, rfl, HR.out⟩, HF.out⟩
      · have d1 : decide (lo ≤ v) = false := by simp; omega
        clear hin
        go_enter Tryd.func48, Tryd.ntmps48
        go_wp2_with fail
        refine HN.out.mono ?_
        rintro e w1 ⟨rfl, hx1, hf1⟩
        have a2 := H2.out.frm hf1 (by omega)
        have f2 := a2.free
        have b2 := a2.set (.int .i64 v)
        have b3 := (H3.out.frm hf1 (by omega)).other vb 0 (fun e => hvl e.symm) (.int .i64 v)
        have b4 := (H4.out.frm hf1 (by omega)).other vb 0 (fun e => hvh e.symm) (.int .i64 v)
        have c2 := a2.cell
        have c3 := b2.cell
        have c4 := b3.cell
        have c5 := b4.cell
        have HX := Lib.hid (hx1.frm (O := (· = vb)) (Frm.setCell (O := (· = vb)) (Frm.refl _ _) vb 0 (Or.inl rfl) (.int .i64 v)) (by omega))
        have HF := Lib.hid (Frm.setCell (O := fun j => j = k ∨ j = vb) (hf1.mono (fun j _ h => Or.inl h)) vb 0 (Or.inl (Or.inr rfl)) (.int .i64 v))
        clear hx1 hf1 a2 b2 b3 b4
        go_wp2_with fail
        refine (HY.out _).mono ?_
        rintro e w2 ⟨rfl, rfl⟩
        go_wp2
        exact ⟨rfl, Or.inr ⟨_, _, rfl, HX.out, 22, rfl, HR.out⟩, HF.out⟩
  | bad ev l' =>
    rw [ho] at hn
    have HN := Lib.hid hn
    clear hn h2 ho h1 hx h3 h4
    go_enter Tryd.func48, Tryd.ntmps48
    go_wp2_with fail
    refine HN.out.mono ?_
    rintro e w1 ⟨rfl, hx1, hf1⟩
    have HX1 := Lib.hid hx1
    have HF1 := Lib.hid hf1
    clear hx1 hf1
    go_wp2
    exact ⟨rfl, Or.inr ⟨_, _, rfl, HX1.out, ev, rfl, rfl⟩, HF1.out.mono (fun j _ h => Or.inl h)⟩
set_option maxRecDepth 100000 in
set_option maxHeartbeats 4000000 in
theorem rbetween_any (w : World) (k : Nat) (l : List UInt8) (e0 lo hi : Int) (hx : CBox w k l e0) (hl : l.length < 4294967296) :
    Calls Tryd.prog 20 #[.pointer (some ⟨k, 0, none⟩), .int .i64 lo, .int .i64 hi] w (RdP w k (.int .i64 (readV e0 l (within lo hi (numO l))).1) (readV e0 l (within lo hi (numO l))).2) := by
  have hlt := hx.lt
  obtain ⟨W, hW⟩ : ∃ W, ((((w.alloc (.cells #[.pointer (some ⟨k, 0, none⟩)] 28)).alloc (.cells #[.int .i64 lo] 3)).alloc (.cells #[.int .i64 hi] 3)).alloc (.cells #[.int .i64 0] 2)) = W := ⟨_, rfl⟩
  have hzW : W.heap.size = w.heap.size + 4 := by rw [← hW]; simp
  have hBW : Below w.heap.size w W := by rw [← hW]; repeat (first | exact Below.refl _ _ | refine Below.alloc ?_ (by simp; try omega) _)
  have o1 : One W w.heap.size (.pointer (some ⟨k, 0, none⟩)) 28 := by
    rw [← hW]; exact (Below.heap_alloc _ _ _ (by simp; try omega)).trans ((Below.heap_alloc _ _ _ (by simp; try omega)).trans ((Below.heap_alloc _ _ _ (by simp)).trans (One.new w _ _)))
  have o2 : One W (w.heap.size + 1) (.int .i64 lo) 3 := by
    rw [← hW]; exact (Below.heap_alloc _ _ _ (by simp; try omega)).trans ((Below.heap_alloc _ _ _ (by simp)).trans (heap_at2 _ _ _ (by simp)))
  have o3 : One W (w.heap.size + 1 + 1) (.int .i64 hi) 3 := by
    rw [← hW]; exact (Below.heap_alloc _ _ _ (by simp)).trans (heap_at2 _ _ _ (by simp))
  have o4 : One W (w.heap.size + 1 + 1 + 1) (.int .i64 0) 2 := by
    rw [← hW]; exact heap_at2 _ _ _ (by simp)
  have hxW := hx.next hBW
  have hg := guard_Between W k l e0 (.pointer (some ⟨w.heap.size, 0, none⟩)) (.pointer (some ⟨w.heap.size + 1 + 1 + 1, 0, none⟩)) (.pointer (some ⟨w.heap.size + 1, 0, none⟩)) (.pointer (some ⟨w.heap.size + 1 + 1, 0, none⟩)) (· = w.heap.size + 1 + 1 + 1) (fun w2 => ∃ v l', within lo hi (numO l) = .ok v l' ∧ CBox w2 k l' 0 ∧ One w2 (w.heap.size + 1 + 1 + 1) (.int .i64 v) 2) (fun ev l2 w2 => ∃ n : Nat, ev = n ∧ within lo hi (numO l) = .bad n l2) hxW (by omega)
    (fun he w1 hb _ => by subst he; exact between1_any w1 k _ _ _ _ l 0 lo hi (hxW.next hb) (o1.next hb) (o4.next hb) (o2.next hb) (o3.next hb) (by omega) (by omega) (by omega) (by omega) (by omega) (by omega) hl)
  have HG := Lib.hid hg
  have HW := Lib.hid hW
  have HX := Lib.hid hxW
  have HBW := Lib.hid hBW
  have H2 := Lib.hid o4
  have hmf : ∀ (fn : Fn) (first cap : Array Value) (w : World), (Instr.makeFunc fn first cap).run Tryd.prog w = .ok (.func fn first cap) w := fun _ _ _ _ => rfl
  generalize within lo hi (numO l) = O at *
  have hfin : ∀ (w' : World) (v : Int), CBox w' k (readV e0 l O).2.1 (readV e0 l O).2.2 → Frm (fun j => j = k ∨ j = w.heap.size + 1 + 1 + 1) W w' → v = (readV e0 l O).1 → RdP w k (.int .i64 (readV e0 l O).1) (readV e0 l O).2 (.returned (.int .i64 v)) w' := by
    intro w' v h2 h3 h4
    subst h4
    exact ⟨rfl, h2, (Frm.of_below HBW.out).sub h3 (fun j hj => by rcases hj with h | h; exact Or.inl h; exact Or.inr (by omega))⟩
  have HFIN := Lib.hid hfin
  clear hg hW hxW hBW o1 o2 o3 o4 hfin hx
  go_enter Tryd.func20, Tryd.ntmps20
  go_wp2_with fail
  rw [HW.out]
  refine HG.out.mono ?_
  rintro e w1 ⟨hcase, hfr⟩
  rcases hcase with ⟨he, rfl, hb⟩ | ⟨rfl, rfl, w2, ⟨v, l', ho, hx2, hv2⟩, hs2, hf2⟩ | ⟨rfl, rfl, w2, ev, l2, hx2, ⟨n, rfl, ho⟩, hs2, hf2⟩
  · have hr := HFIN.out w1 0 (by unfold readV; rw [if_pos he]; exact HX.out.next hb) hfr (by unfold readV; rw [if_pos he])
    have HR := Lib.hid hr
    clear hr hfr hb he
    go_wp2
    go_ret
    exact HR.out
  · have hov := hv2.frm hf2 (by omega)
    have c1 := hov.cell
    have hr := HFIN.out w1 v (by unfold readV; rw [if_neg (by simp), ho]; exact hx2.frm hf2 (by omega)) hfr (by unfold readV; rw [if_neg (by simp), ho])
    have HR := Lib.hid hr
    clear hr hfr hf2 hx2 hv2 hov ho
    go_wp2
    go_ret
    exact HR.out
  · have hr := HFIN.out w1 0 (by unfold readV; rw [if_neg (by simp), ho]; exact hx2) hfr (by unfold readV; rw [if_neg (by simp), ho])
    have HR := Lib.hid hr
    clear hr hfr hf2 hx2 ho
    go_wp2
    go_ret
    exact HR.out
theorem own_frm {O : Nat → Prop} {w w' : World} {base : Nat} {e : TypeId} {v : Value} {n : Nat} {xs : List Value} (h : w.ownsRow base e 1 v n xs) (hf : Frm O w w') (hO : ∀ j, O j → j < base) : w'.ownsRow base e 1 v n xs := by
  refine ⟨h.1, ?_⟩
  rcases h.2 with h0 | ⟨g, cap, cur, hv, hg, hh, r⟩
  · exact Or.inl h0
  · have hlt : g < w.heap.size := by
      rcases Nat.lt_or_ge g w.heap.size with h1 | h1
      · exact h1
      · rw [Array.getElem?_eq_none h1] at hh; cases hh
    exact Or.inr ⟨g, cap, cur, hv, hg, (hf.block g hlt (fun x => by have := hO g x; omega)).trans hh, r⟩
def roomO : Out → Out
  | .ok v l => if v ≤ l.length then .ok v l else .bad 21 l
  | .bad e l => .bad e l
/-- a row of bytes in a cell -/
def ByteCell (w : World) (base b : Nat) (l : List UInt8) : Prop := ∃ u, One w b u 23 ∧ w.ownsRow base 5 1 u l.length (bv l)
theorem ByteCell.frm {O : Nat → Prop} {w w' : World} {base b : Nat} {l : List UInt8} (h : ByteCell w base b l) (hf : Frm O w w') (hO : ∀ j, O j → j < base) (hb : ¬ O b) : ByteCell w' base b l := by
  obtain ⟨u, h1, h2⟩ := h
  exact ⟨u, h1.frm hf hb, own_frm h2 hf hO⟩
set_option maxRecDepth 100000 in
set_option maxHeartbeats 4000000 in
theorem bytes1_any (w : World) (k rb mb ob base : Nat) (l : List UInt8) (most : Int) (hm : most ≤ 9223372036854775807) (hx : CBox w k l 0) (h1 : One w rb (.pointer (some ⟨k, 0, none⟩)) 28) (h2 : One w mb (.int .i64 most) 3) (h3 : One w ob (.slice none 0 0) 23)
    (hk1 : k < rb) (hk2 : k < mb) (hk3 : k < ob) (hrb : rb ≠ ob) (hob : ob < base) (hbase : base ≤ w.heap.size) (hl : l.length < 4294967296) :
    Calls Tryd.prog 43 #[.pointer (some ⟨rb, 0, none⟩), .pointer (some ⟨mb, 0, none⟩), .pointer (some ⟨ob, 0, none⟩)] w
      (BodyP k (· = ob) (fun w2 => ∃ v l', roomO (within 0 most (numO l)) = .ok v l' ∧ CBox w2 k (l'.drop v.toNat) 0 ∧ ByteCell w2 base ob (l'.take v.toNat)) (fun ev l2 w2 => ∃ n : Nat, ev = n ∧ roomO (within 0 most (numO l)) = .bad n l2 ∧ One w2 ob (.slice none 0 0) 23) w) := by
  have hn := count_does w k l 0 most hm hx hl
  have c1 := h1.cell
  have c2 := h2.cell
  have hlen : ∀ v l', within 0 most (numO l) = .ok v l' → 0 ≤ v ∧ v ≤ most ∧ l'.length ≤ l.length := by
    intro v l' h
    cases ho : numO l with
    | bad e l2 => rw [ho] at h; cases h
    | ok v2 l2 =>
      rw [ho] at h
      have := numO_len ho
      simp only [within] at h
      split at h
      · injection h with e1 e2; subst e1 e2; omega
      · cases h
  cases ho : within 0 most (numO l) with
  | bad ev l' =>
    rw [ho] at hn
    have HN := Lib.hid hn
    have H3 := Lib.hid h3
    have hres : roomO (.bad ev l') = .bad ev l' := rfl
    clear hn h2 ho h1 hx h3 hlen
    go_enter Tryd.func43, Tryd.ntmps43
    go_wp2_with fail
    refine HN.out.mono ?_
    rintro e w1 ⟨rfl, hx1, hf1⟩
    have HX1 := Lib.hid hx1
    have HF1 := Lib.hid hf1
    have HA3 := Lib.hid (H3.out.frm hf1 (by omega))
    clear hx1 hf1
    go_wp2
    exact ⟨rfl, Or.inr ⟨_, _, rfl, HX1.out, ev, rfl, rfl, HA3.out⟩, HF1.out.mono (fun j _ h => Or.inl h)⟩
  | ok v l' =>
    obtain ⟨v0, v1, hll⟩ := hlen v l' ho
    rw [ho] at hn
    obtain ⟨n, rfl⟩ := Int.eq_ofNat_of_zero_le v0
    have HN := Lib.hid hn
    have H1 := Lib.hid h1
    have H3 := Lib.hid h3
    clear hn h2 ho h1 hx h3 hlen v0
    by_cases hle : n ≤ l'.length
    · have hres : roomO (.ok (n : Int) l') = .ok (n : Int) l' := by simp only [roomO]; rw [if_pos (by omega)]
      have HR := Lib.hid hres
      have hy := fun w1 => need_yes 21 w1
      have HY := Lib.hid hy
      have d1 : decide ((n : Int) ≤ (l'.length : Int)) = true := by simp; omega
      clear hres hy
      go_enter Tryd.func43, Tryd.ntmps43
      go_wp2_with fail
      refine HN.out.mono ?_
      rintro e w1 ⟨rfl, hx1, hf1⟩
      have a1 := H1.out.frm hf1 (by omega)
      have a3 := H3.out.frm hf1 (by omega)
      have c1' := a1.cell
      have c3 := a3.cell
      have f3 := a3.free
      have hs1 := hf1.size
      obtain ⟨A, m, c, B, hk, hr, hB⟩ := hx1
      obtain ⟨A', c', ev, hc1, hc2, _⟩ := id hr
      injection ev with ev1 ev2 ev3
      subst ev1 ev3
      rw [bv_length] at ev2 hc1
      subst ev2
      unfold maxLen at hc2
      have k0 : w1.cell? ⟨k, 0, none⟩ = some (.slice A l'.length c) := cell_of_row w1 k 0 _ _ (0, 0) hk
      have hfr := RdV.front hr n (by rw [bv_length]; exact hle)
      rw [show (bv l').take n = bv (l'.take n) from by simp [bv]] at hfr
      have HFR := Lib.hid hfr
      clear hfr
      have HRR := Lib.hid hr
      have HK := Lib.hid hk
      have HA1 := Lib.hid a1
      have HA3 := Lib.hid a3
      have HF1 := Lib.hid hf1
      have hlt2 : (l'.take n).length = n := by rw [List.length_take, Nat.min_eq_left hle]
      have hnil : w1.ownsRow base 5 1 (.slice none 0 0) 0 [] := ⟨by simp, Or.inl ⟨rfl, rfl⟩⟩
      have HNIL := Lib.hid hnil
      clear hr hk a1 a3 hf1 hnil
      go_wp2_with fail
      refine (HY.out _).mono ?_
      rintro e w2 ⟨rfl, rfl⟩
      go_wp2_with (at_builtin; refine wpList_append_rd _ rfl _ _ 23 rfl base 5 (.int .u8 0) 1 Tryd.underlying23 Tryd.inf5 rfl (.slice none 0 0) 0 [] (by rfl) HNIL.out _ (by rfl) B (bv (l'.take n)) HFR.out (bv_one _) (by rw [bv_length, List.length_take]; omega) (by omega) (by omega) ?_; intro v2 w2 ho2 hg2 hv2; rw [Nat.zero_add, bv_length, List.nil_append] at ho2; rw [hlt2] at ho2; obtain ⟨A2, c2, e2, f21, f22, _⟩ := id (RdV.own ho2); rw [bv_length, hlt2] at e2; subst e2; have hb2 : Below w1.heap.size w1 w2 := (Below.refl _ w1).grown hg2 (Nat.le_refl _) (by intro g hg; simp [Value.ownBlock] at hg); have g1 := HA1.out.next hb2; have g3 := HA3.out.next hb2; have gk := (hb2.block k (by have := (HA1.out).lt; omega)).trans HK.out; have f3 := g3.free; have c3 := g3.cell; have b1 := g1.other ob 0 (fun e => hrb e.symm) (.slice A2 n c2); have b3 := g3.set (.slice A2 n c2); have bk : (w2.setCell ⟨ob, 0, none⟩ (.slice A2 n c2)).heap[k]? = _ := (heap_setCell_other w2 ⟨ob, 0, none⟩ k _ (by show k ≠ ob; omega)).trans gk; have d1' := b1.cell; have dk : (w2.setCell ⟨ob, 0, none⟩ (.slice A2 n c2)).cell? ⟨k, 0, none⟩ = some (.slice A l'.length c) := cell_of_row _ k 0 _ _ (0, 0) bk; have fk : (w2.setCell ⟨ob, 0, none⟩ (.slice A2 n c2)).frozen? ⟨k, 0, none⟩ = false := frozen_of_row _ k 0 _ _ bk; have ho3 : (w2.setCell ⟨ob, 0, none⟩ (.slice A2 n c2)).ownsRow base 5 1 (.slice A2 n c2) n (bv (l'.take n)) := own_frm ho2 (Frm.setCell (O := (· = ob)) (Frm.refl _ _) ob 0 (Or.inl rfl) _) (by omega); have hF3 := Frm.setCell (O := fun j => j = k ∨ j = ob) ((HF1.out.mono (fun j _ h => Or.inl h)).trans (Frm.of_below hb2)) ob 0 (Or.inl (Or.inr rfl)) (.slice A2 n c2); have hr3 := ((HRR.out.below' hb2 (by have := (HA1.out).lt; omega)).setCell (p := ⟨ob, 0, none⟩) (by show B ≤ ob; omega) (.slice A2 n c2)).tail (k := n) hle; rw [show (bv l').drop n = bv (l'.drop n) from by simp [bv]] at hr3; unfold tailV at hr3; have hto := readsTo bk hr3 hB; generalize hw3 : w2.setCell ⟨ob, 0, none⟩ (.slice A2 n c2) = w3 at *; have HW3 := Lib.hid hw3; have HTO := Lib.hid hto; have HB3 := Lib.hid b3; have HO3 := Lib.hid ho3; have HF3 := Lib.hid hF3; clear hw3 hto b3 ho3 hF3 hr3 bk b1 gk g3 g1 ho2 hg2)
      rw [HW3.out]
      by_cases hcn : c = n
      · have hT := HTO.out
        rw [if_pos hcn, show l'.length - n = 0 from by omega, show c - n = 0 from by omega] at hT
        clear HTO
        subst hcn
        have hX : CBox (w3.setCell ⟨k, 0, none⟩ (Value.slice A 0 0)) k (l'.drop c) 0 := hT.1
        have hbc : ByteCell (w3.setCell ⟨k, 0, none⟩ (Value.slice A 0 0)) base ob (l'.take c) := ⟨_, HB3.out.other k 0 (by omega) _, by rw [hlt2]; exact own_frm HO3.out (Frm.setCell (O := (· = k)) (Frm.refl _ _) k 0 (Or.inl rfl) _) (by omega)⟩
        have hfr : Frm (fun j => j = k ∨ j = ob) w (w3.setCell ⟨k, 0, none⟩ (Value.slice A 0 0)) := HF3.out.setCell k 0 (Or.inl (Or.inl rfl)) _
        have HFIN := Lib.hid (And.intro hX (And.intro hbc hfr))
        clear hX hbc hfr hT
        go_region
        go_wp2
        go_end0
        obtain ⟨hX, hbc, hfr⟩ := HFIN.out
        exact ⟨Or.inl ⟨rfl, (c : Int), l', HR.out, by rw [Int.toNat_natCast]; exact hX, by rw [Int.toNat_natCast]; exact hbc⟩, hfr.drew⟩
      · have hT := HTO.out
        rw [if_neg hcn] at hT
        clear HTO
        have hX : CBox (w3.setCell ⟨k, 0, none⟩ (Value.slice (A.map (fun x => x.add n)) (l'.length - n) (c - n))) k (l'.drop n) 0 := hT.1
        have hbc : ByteCell (w3.setCell ⟨k, 0, none⟩ (Value.slice (A.map (fun x => x.add n)) (l'.length - n) (c - n))) base ob (l'.take n) := ⟨_, HB3.out.other k 0 (by omega) _, by rw [hlt2]; exact own_frm HO3.out (Frm.setCell (O := (· = k)) (Frm.refl _ _) k 0 (Or.inl rfl) _) (by omega)⟩
        have hfr : Frm (fun j => j = k ∨ j = ob) w (w3.setCell ⟨k, 0, none⟩ (Value.slice (A.map (fun x => x.add n)) (l'.length - n) (c - n))) := HF3.out.setCell k 0 (Or.inl (Or.inl rfl)) _
        have HFIN := Lib.hid (And.intro hX (And.intro hbc hfr))
        clear hX hbc hfr hT
        go_region
        go_wp2
        go_end0
        obtain ⟨hX, hbc, hfr⟩ := HFIN.out
        exact ⟨Or.inl ⟨rfl, (n : Int), l', HR.out, by rw [Int.toNat_natCast]; exact hX, by rw [Int.toNat_natCast]; exact hbc⟩, hfr.drew⟩
    · have hres : roomO (.ok (n : Int) l') = .bad 21 l' := by simp only [roomO]; rw [if_neg (by omega)]
      have HR := Lib.hid hres
      have hy := fun w1 => need_no 21 w1
      have HY := Lib.hid hy
      have d1 : decide ((n : Int) ≤ (l'.length : Int)) = false := by simp; omega
      clear hres hy
      go_enter Tryd.func43, Tryd.ntmps43
      go_wp2_with fail
      refine HN.out.mono ?_
      rintro e w1 ⟨rfl, hx1, hf1⟩
      have a1 := H1.out.frm hf1 (by omega)
      have c1' := a1.cell
      have HX1 := Lib.hid hx1
      obtain ⟨A, m, c, B, hk, hr, hB⟩ := hx1
      obtain ⟨A', c', ev, hc1, hc2, _⟩ := id hr
      injection ev with ev1 ev2 ev3
      subst ev1 ev3
      rw [bv_length] at ev2 hc1
      subst ev2
      unfold maxLen at hc2
      have k0 : w1.cell? ⟨k, 0, none⟩ = some (.slice A l'.length c) := cell_of_row w1 k 0 _ _ (0, 0) hk
      have HF1 := Lib.hid hf1
      have HA3 := Lib.hid (H3.out.frm hf1 (by omega))
      clear hr hk a1 hf1
      go_wp2_with fail
      refine (HY.out _).mono ?_
      rintro e w2 ⟨rfl, rfl⟩
      go_wp2
      exact ⟨rfl, Or.inr ⟨_, _, rfl, HX1.out, 21, rfl, HR.out, HA3.out⟩, HF1.out.mono (fun j _ h => Or.inl h)⟩
/-- bytes that are told, and none where the reading is given up -/
def readB (e : Int) (l : List UInt8) (most : Int) : List UInt8 × List UInt8 × Int := if e ≠ 0 then ([], l, e) else match roomO (within 0 most (numO l)) with
  | .ok v l' => (l'.take v.toNat, l'.drop v.toNat, 0)
  | .bad ev l' => ([], l', ev)
def RdBP (w : World) (k : Nat) (x : List UInt8 × List UInt8 × Int) (e : Ending) (w' : World) : Prop := ∃ u, e = .returned u ∧ RdV w' w'.heap.size u (bv x.1) ∧ CBox w' k x.2.1 x.2.2 ∧ Frm (· = k) w w'
set_option maxRecDepth 100000 in
set_option maxHeartbeats 4000000 in
theorem rbytes_any (w : World) (k : Nat) (l : List UInt8) (e0 most : Int) (hm : most ≤ 9223372036854775807) (hx : CBox w k l e0) (hl : l.length < 4294967296) :
    Calls Tryd.prog 15 #[.pointer (some ⟨k, 0, none⟩), .int .i64 most] w (RdBP w k (readB e0 l most)) := by
  have hlt := hx.lt
  obtain ⟨W, hW⟩ : ∃ W, (((w.alloc (.cells #[.pointer (some ⟨k, 0, none⟩)] 28)).alloc (.cells #[.int .i64 most] 3)).alloc (.cells #[.slice none 0 0] 23)) = W := ⟨_, rfl⟩
  have hzW : W.heap.size = w.heap.size + 3 := by rw [← hW]; simp
  have hBW : Below w.heap.size w W := by rw [← hW]; repeat (first | exact Below.refl _ _ | refine Below.alloc ?_ (by simp; try omega) _)
  have o1 : One W w.heap.size (.pointer (some ⟨k, 0, none⟩)) 28 := by
    rw [← hW]; exact (Below.heap_alloc _ _ _ (by simp; try omega)).trans ((Below.heap_alloc _ _ _ (by simp)).trans (One.new w _ _))
  have o2 : One W (w.heap.size + 1) (.int .i64 most) 3 := by
    rw [← hW]; exact (Below.heap_alloc _ _ _ (by simp)).trans (heap_at2 _ _ _ (by simp))
  have o3 : One W (w.heap.size + 1 + 1) (.slice none 0 0) 23 := by
    rw [← hW]; exact heap_at2 _ _ _ (by simp)
  have hxW := hx.next hBW
  have hg := guard_Bytes W k l e0 (.pointer (some ⟨w.heap.size, 0, none⟩)) (.pointer (some ⟨w.heap.size + 1, 0, none⟩)) (.pointer (some ⟨w.heap.size + 1 + 1, 0, none⟩)) (· = w.heap.size + 1 + 1) (fun w2 => ∃ v l', roomO (within 0 most (numO l)) = .ok v l' ∧ CBox w2 k (l'.drop v.toNat) 0 ∧ ByteCell w2 (W.heap.size + 2) (w.heap.size + 1 + 1) (l'.take v.toNat)) (fun ev l2 w2 => ∃ n : Nat, ev = n ∧ roomO (within 0 most (numO l)) = .bad n l2 ∧ One w2 (w.heap.size + 1 + 1) (.slice none 0 0) 23) hxW (by omega)
    (fun he w1 hb hs => by subst he; exact bytes1_any w1 k _ _ _ (W.heap.size + 2) l most hm (hxW.next hb) (o1.next hb) (o2.next hb) (o3.next hb) (by omega) (by omega) (by omega) (by omega) (by omega) hs hl)
  have HG := Lib.hid hg
  have HW := Lib.hid hW
  have HX := Lib.hid hxW
  have HBW := Lib.hid hBW
  have H3 := Lib.hid o3
  have hmf : ∀ (fn : Fn) (first cap : Array Value) (w : World), (Instr.makeFunc fn first cap).run Tryd.prog w = .ok (.func fn first cap) w := fun _ _ _ _ => rfl
  have hrb : readB e0 l most = if e0 ≠ 0 then ([], l, e0) else match roomO (within 0 most (numO l)) with
    | .ok v l' => (l'.take v.toNat, l'.drop v.toNat, 0)
    | .bad ev l' => ([], l', ev) := rfl
  have HRB := Lib.hid hrb
  generalize readB e0 l most = R at *
  generalize roomO (within 0 most (numO l)) = O at *
  have hfin : ∀ (w' : World) (u : Value), RdV w' w'.heap.size u (bv R.1) → CBox w' k R.2.1 R.2.2 → Frm (fun j => j = k ∨ j = w.heap.size + 1 + 1) W w' → RdBP w k R (.returned u) w' :=
    fun w' u h1 h2 h3 => ⟨u, rfl, h1, h2, (Frm.of_below HBW.out).sub h3 (fun j hj => by rcases hj with h | h; exact Or.inl h; exact Or.inr (by omega))⟩
  have HFIN := Lib.hid hfin
  clear hg hW hxW hBW o1 o2 o3 hfin hx hrb
  go_enter Tryd.func15, Tryd.ntmps15
  go_wp2_with fail
  rw [HW.out]
  refine HG.out.mono ?_
  rintro e w1 ⟨hcase, hfr⟩
  have hend : ∃ u b, e = .returned (.bool b) ∧ One w1 (w.heap.size + 1 + 1) u 23 ∧ RdV w1 w1.heap.size u (bv R.1) ∧ CBox w1 k R.2.1 R.2.2 := by
    rcases hcase with ⟨he, rfl, hb⟩ | ⟨rfl, rfl, w2, ⟨v, l', ho, hx2, hv2⟩, hs2, hf2⟩ | ⟨rfl, rfl, w2, ev, l2, hx2, ⟨n, rfl, ho, hv2⟩, hs2, hf2⟩
    · rw [HRB.out, if_pos he]
      exact ⟨_, _, rfl, H3.out.next hb, RdV.nil_ _ _, HX.out.next hb⟩
    · rw [HRB.out, if_neg (by simp), ho]
      obtain ⟨u, h1, h2⟩ := hv2.frm hf2 (by omega) (by omega)
      exact ⟨u, _, rfl, h1, RdV.own h2, hx2.frm hf2 (by omega)⟩
    · rw [HRB.out, if_neg (by simp), ho]
      exact ⟨_, _, rfl, hv2.frm hf2 (by rintro (h | h) <;> omega), RdV.nil_ _ _, hx2⟩
  obtain ⟨u, b, rfl, ho, hr1, hx1⟩ := hend
  have c1 := ho.cell
  have HF := Lib.hid (HFIN.out w1 u hr1 hx1 hfr)
  clear hcase hfr ho hx1 hr1
  go_wp2
  go_ret
  exact HF.out
/-- as many numbers as are asked for -/
def nums : Nat → List UInt8 → List Int × List UInt8 × Nat
  | 0, l => ([], l, 0)
  | n + 1, l => match numO l with
    | .bad ev l' => ([], l', ev)
    | .ok v l' => (v :: (nums n l').1, (nums n l').2.1, (nums n l').2.2)
theorem numO_less {l l' : List UInt8} {v : Int} (h : numO l = .ok v l') : l'.length < l.length := by
  unfold numO at h
  split at h
  · rename_i hE
    injection h with h1 h2
    subst h1 h2
    have h3 := rvN_le l
    have h4 : 1 ≤ Pu.rvN l := by unfold Pu.rvN; rw [if_pos hE]; omega
    rw [List.length_drop]; omega
  · cases h
theorem numO_bad {l l' : List UInt8} {ev : Nat} (h : numO l = .bad ev l') : ev ≠ 0 ∧ l' = l := by
  unfold numO at h
  split at h
  · cases h
  · rename_i hE
    injection h with h1 h2
    subst h1 h2
    exact ⟨hE, rfl⟩
def IntCell (w : World) (base b : Nat) (zs : List Int) : Prop := ∃ u, One w b u 33 ∧ w.ownsRow base 3 1 u zs.length (iv .i64 zs)
theorem IntCell.frm {O : Nat → Prop} {w w' : World} {base b : Nat} {zs : List Int} (h : IntCell w base b zs) (hf : Frm O w w') (hO : ∀ j, O j → j < base) (hb : ¬ O b) : IntCell w' base b zs := by
  obtain ⟨u, h1, h2⟩ := h
  exact ⟨u, h1.frm hf hb, own_frm h2 hf hO⟩
theorem Tryd.infI3 : (Tryd.prog.info? 3).map (fun i => (i.zero, i.size, i.bytes)) = some (some (.int .i64 0), 1, 8) := by kernel_rfl
/-- the numbers of a list, told or not -/
def listO (most : Int) (l : List UInt8) : List Int × List UInt8 × Nat := match within 0 most (numO l) with
  | .bad ev l' => ([], l', ev)
  | .ok v l' => nums v.toNat l'
def LPost (k base ob : Nat) (most : Int) (l : List UInt8) (w2 : World) : Prop := (listO most l).2.2 = 0 ∧ CBox w2 k (listO most l).2.1 0 ∧ IntCell w2 base ob (listO most l).1
def LBad (most : Int) (l : List UInt8) (ev : Int) (l2 : List UInt8) (w2 : World) : Prop := (listO most l).2.2 ≠ 0 ∧ ev = ((listO most l).2.2 : Nat) ∧ l2 = (listO most l).2.1
theorem within_ok {lo hi v : Int} {l l' : List UInt8} (h : within lo hi (numO l) = .ok v l') : lo ≤ v ∧ v ≤ hi ∧ l'.length ≤ l.length := by
  cases ho : numO l with
  | bad e l2 => rw [ho] at h; cases h
  | ok v2 l2 =>
    rw [ho] at h
    have := numO_len ho
    simp only [within] at h
    split at h
    · injection h with e1 e2; subst e1 e2; omega
    · cases h
theorem within_bad {lo hi : Int} {l l' : List UInt8} {ev : Nat} (h : within lo hi (numO l) = .bad ev l') : ev ≠ 0 := by
  cases ho : numO l with
  | bad e l2 => rw [ho] at h; injection h with e1 e2; subst e1; exact (numO_bad ho).1
  | ok v2 l2 =>
    rw [ho] at h
    simp only [within] at h
    split at h
    · cases h
    · injection h with e1 e2; omega
set_option maxRecDepth 100000 in
set_option maxHeartbeats 8000000 in
theorem list1_core (w : World) (k rb mb ob base : Nat) (l : List UInt8) (most : Int) (hm : most ≤ 9223372036854775807) (hx : CBox w k l 0) (h1 : One w rb (.pointer (some ⟨k, 0, none⟩)) 28) (h2 : One w mb (.int .i64 most) 3) (h3 : One w ob (.slice none 0 0) 33)
    (hk1 : k < rb) (hk2 : k < mb) (hk3 : k < ob) (hrb : rb ≠ ob) (hob : ob < base) (hrbb : rb < base) (hbase : base ≤ w.heap.size) (hbase2 : w.heap.size ≤ base) (hl : l.length < 4294967296) :
    Calls Tryd.prog 47 #[.pointer (some ⟨rb, 0, none⟩), .pointer (some ⟨mb, 0, none⟩), .pointer (some ⟨ob, 0, none⟩)] w
      (BodyP k (· = ob) (LPost k base ob most l) (LBad most l) w) := by
  have hn := count_does w k l 0 most hm hx hl
  have c1 := h1.cell
  have c2 := h2.cell
  cases ho : within 0 most (numO l) with
  | bad ev l' =>
    rw [ho] at hn
    have hlo : listO most l = ([], l', ev) := by unfold listO; rw [ho]
    have hfin : LBad most l (ev : Nat) l' w := by unfold LBad; rw [hlo]; exact ⟨within_bad ho, rfl, rfl⟩
    have HN := Lib.hid hn
    have HFIN := Lib.hid hfin
    clear hn h2 ho h1 hx h3 hlo hfin
    go_enter Tryd.func47, Tryd.ntmps47
    go_wp2_with fail
    refine HN.out.mono ?_
    rintro e w1 ⟨rfl, hx1, hf1⟩
    have HX1 := Lib.hid hx1
    have HF1 := Lib.hid hf1
    clear hx1 hf1
    go_wp2
    exact ⟨rfl, Or.inr ⟨_, _, rfl, HX1.out, HFIN.out⟩, HF1.out.mono (fun j _ h => Or.inl h)⟩
  | ok v l' =>
    obtain ⟨v0, v1, hll⟩ := within_ok ho
    rw [ho] at hn
    obtain ⟨n, rfl⟩ := Int.eq_ofNat_of_zero_le v0
    have hlo : listO most l = nums n l' := by unfold listO; rw [ho]; simp
    have hpost : ∀ w2, (nums n l').2.2 = 0 → CBox w2 k (nums n l').2.1 0 → IntCell w2 base ob (nums n l').1 → LPost k base ob most l w2 := fun w2 a b c => by unfold LPost; rw [hlo]; exact ⟨a, b, c⟩
    have hbad : ∀ (ev : Int) l2 w2, (nums n l').2.2 ≠ 0 → ev = ((nums n l').2.2 : Nat) → l2 = (nums n l').2.1 → LBad most l ev l2 w2 := fun ev l2 w2 a b c => by unfold LBad; rw [hlo]; exact ⟨a, b, c⟩
    have HPOST := Lib.hid hpost
    have HBAD := Lib.hid hbad
    have HN := Lib.hid hn
    have H1 := Lib.hid h1
    have H3 := Lib.hid h3
    clear hn h2 ho h1 hx h3 v0 hlo hpost hbad
    go_enter Tryd.func47, Tryd.ntmps47
    go_wp2_with fail
    refine HN.out.mono ?_
    rintro e w1 ⟨rfl, hx1, hf1⟩
    have hs1 := hf1.size
    have hi1 : IntCell w1 base ob [] := ⟨_, H3.out.frm hf1 (by omega), ⟨by simp [iv], Or.inl ⟨rfl, rfl⟩⟩⟩
    have HX1 := Lib.hid hx1
    have HF1 := Lib.hid hf1
    have HI1 := Lib.hid hi1
    clear hx1 hf1 hi1
    go_wp2_with fail
    go_loopw [6] (fun i wr => ∃ (j : Nat) (zs : List Int) (r : List UInt8), j ≤ n ∧ i = .int .i64 j ∧ zs.length = j ∧ Hid (nums n l' = (zs ++ (nums (n - j) r).1, (nums (n - j) r).2.1, (nums (n - j) r).2.2)) ∧ j + r.length ≤ l'.length ∧ CBox wr k r 0 ∧ IntCell wr base ob zs ∧ Frm (fun j => j = k ∨ j = ob) w wr) (fun i _ => n - (intOf i).toNat)
    case atStart => exact ⟨0, [], l', by omega, rfl, rfl, Lib.hid (by simp), by omega, HX1.out, HI1.out, HF1.out.mono (fun j _ h => Or.inl h)⟩
    case round =>
      obtain ⟨j, zs, r, hj, rfl, hzl, HE, hjr, hxr, hir, hfr⟩ := hrel
      have hsr := hfr.size
      by_cases hlt : j < n
      · have o1 := H1.out.frm hfr (by omega)
        have d1 := o1.cell
        obtain ⟨u, o2, ow2⟩ := hir
        have d2 := o2.cell
        have f2 := o2.free
        rw [hzl] at ow2
        have hnr := fun W (h : CBox W k r 0) => number_does W k r 0 h (by omega)
        have hstep : nums (n - j) r = match numO r with
          | .bad ev l' => ([], l', ev)
          | .ok v l' => (v :: (nums (n - (j + 1)) l').1, (nums (n - (j + 1)) l').2.1, (nums (n - (j + 1)) l').2.2) := by
          rw [show n - j = (n - (j + 1)) + 1 from by omega]; rfl
        cases ho : numO r with
        | bad ev r' =>
          rw [ho] at hnr hstep
          have he := HE.out
          rw [hstep] at he
          have hev := (numO_bad ho).1
          have hbb : ∀ W, LBad most l (ev : Nat) r' W := fun W => HBAD.out _ _ _ (by rw [he]; exact hev) (by rw [he]) (by rw [he])
          have HB := Lib.hid hbb
          have HNR := Lib.hid hnr
          have HXR := Lib.hid hxr
          have HFR := Lib.hid hfr
          clear hnr hxr hfr hbb he hstep ho HE o1 o2 ow2
          go_wp2
          refine wp_region_any (by kernel_rfl) ?_
          (try change wpAny _ _ _ _ _ _ _ (World.drew _))
          refine wpAny_ready (rs := [0, 1]) (by kernel_rfl) (by simp) ?_
          refine AllReady.cons rfl (fun K hK => ?_) (AllReady.cons rfl (fun K hK => ?_) AllReady.nil)
          · go_simp
            refine hK _ _ ?_
            clear hK K
            refine wpAny_ready (rs := [1]) (by kernel_rfl) (by simp) ?_
            refine AllReady.cons rfl (fun K hK => ?_) AllReady.nil
            go_simp
            refine hK _ _ ?_
            clear hK K
            refine wpAny_ready (rs := [2]) (by kernel_rfl) (by simp) ?_
            refine AllReady.cons rfl (fun K hK => ?_) AllReady.nil
            go_simp
            refine Calls.mono (HNR.out _ (by exact HXR.out)) ?_
            rintro e w2 ⟨rfl, hx2, hf2⟩
            have HX2 := Lib.hid hx2
            have HF2 := Lib.hid (HFR.out.drew.trans (hf2.mono (O' := fun j => j = k ∨ j = ob) (fun j _ h => Or.inl h)))
            clear hx2 hf2
            go_wp2
            exact ⟨rfl, Or.inr ⟨_, _, rfl, HX2.out, HB.out _⟩, HF2.out⟩
          · go_simp
            refine hK _ _ ?_
            clear hK K
            refine wpAny_ready (rs := [0, 2]) (by kernel_rfl) (by simp) ?_
            refine AllReady.cons rfl (fun K hK => ?_) (AllReady.cons rfl (fun K hK => ?_) AllReady.nil)
            · go_simp
              refine hK _ _ ?_
              clear hK K
              refine wpAny_ready (rs := [2]) (by kernel_rfl) (by simp) ?_
              refine AllReady.cons rfl (fun K hK => ?_) AllReady.nil
              go_simp
              refine Calls.mono (HNR.out _ (by exact HXR.out)) ?_
              rintro e w2 ⟨rfl, hx2, hf2⟩
              have HX2 := Lib.hid hx2
              have HF2 := Lib.hid (HFR.out.drew.trans (hf2.mono (O' := fun j => j = k ∨ j = ob) (fun j _ h => Or.inl h)))
              clear hx2 hf2
              go_wp2
              exact ⟨rfl, Or.inr ⟨_, _, rfl, HX2.out, HB.out _⟩, HF2.out⟩
            · go_simp
              refine Calls.mono (HNR.out _ (by exact HXR.out)) ?_
              rintro e w2 ⟨rfl, hx2, hf2⟩
              have HX2 := Lib.hid hx2
              have HF2 := Lib.hid (HFR.out.drew.trans (hf2.mono (O' := fun j => j = k ∨ j = ob) (fun j _ h => Or.inl h)))
              clear hx2 hf2
              go_wp2
              exact ⟨rfl, Or.inr ⟨_, _, rfl, HX2.out, HB.out _⟩, HF2.out⟩
        | ok v r' =>
          have hvr := numO_len ho
          have hless := numO_less ho
          rw [ho] at hnr hstep
          have he := HE.out
          rw [hstep] at he
          have HE2 := Lib.hid he
          have HNR := Lib.hid hnr
          have HXR := Lib.hid hxr
          have HFR := Lib.hid hfr
          have HO2 := Lib.hid o2
          have HOW := Lib.hid ow2
          have hbs : base ≤ wr.heap.size := by omega
          clear hnr hxr hfr he hstep ho HE o1 o2 ow2
          go_wp2
          go_region_law (first
              | (refine step_append_rd _ rfl (.tmp 8) (.tmp 11) 33 (by rfl) base 3 (.int .i64 0) 8 Tryd.underlying33 Tryd.infI3 rfl _ j _ (by rfl) (by first | exact ow3.alloc _ | exact ow3.drew.alloc _ | exact (ow3.alloc _).drew) _ (by rfl) _ _ (RdV.one _ _ _) (by intro u hu; simp at hu; subst hu; rfl) (by simp; omega) (by omega) (by simp; omega) ?_; intro v4 w4 ho4 hg4 _; have q4 := (hg4.block ob (by simp; omega) (by intro e; have h9 := ow3.lt _ e.symm; omega)).trans p3; have d5 : w4.cell? ⟨ob, 0, none⟩ = some u := One.cell (t := 33) q4; have f5 : w4.frozen? ⟨ob, 0, none⟩ = false := One.free (t := 33) q4; obtain ⟨g4, cap4, e4⟩ := Joins.ownsRow_form ho4 (show 0 < j + 1 by omega); subst e4)
              | (refine step_wanted _ rfl ?_; go_simp; go_at_call 39; refine Calls.mono (HNR.out _ (by exact HXR.out)) ?_; rintro e w2 ⟨rfl, hx2, hf2⟩; have hs2 := hf2.size; have p2 : One w2 ob u 33 := One.frm (w := wr.drew) (by exact HO2.out) hf2 (by omega); have d3 := p2.cell; have f3 := p2.free; have p3 : One (w2.alloc (.cells #[.int .i64 v] 3)) ob u 33 := p2.next ((Below.refl _ _).alloc (Nat.le_refl _) _); have d4 := p3.cell; have ow3 : w2.ownsRow base 3 1 u j (iv .i64 zs) := own_frm (w := wr.drew) (by exact HOW.out) hf2 (by omega); have HX2 := Lib.hid hx2; have HF2 := Lib.hid hf2; have hbs2 : base ≤ w2.heap.size := Nat.le_trans hbs hs2; clear hx2 hf2)
              | fail)
          all_goals (
            have hi : IntCell (w4.setCell ⟨ob, 0, none⟩ (.slice (some ⟨g4, 0, none⟩) (j + 1) cap4)) base ob (zs ++ [v]) := ⟨_, One.set (t := 33) q4 _, by
              have h9 := own_frm ho4 ((Frm.refl (fun x => x = ob) w4).setCell ob 0 (Or.inl rfl) (.slice (some ⟨g4, 0, none⟩) (j + 1) cap4)) (fun x hx => by omega)
              simpa [iv, hzl] using h9⟩
            have hgz := hg4.size
            have hF4 : Frm (fun x => base ≤ x) (w2.alloc (.cells #[.int .i64 v] 3)) w4 := ⟨hg4.os, hg4.tape, hg4.output, hg4.size, fun x hx ho => hg4.block x hx (fun e => by
              have h9 := (ow3.lt x e.symm).1
              exact ho h9)⟩
            have hx4 : CBox (w4.setCell ⟨ob, 0, none⟩ (.slice (some ⟨g4, 0, none⟩) (j + 1) cap4)) k r' 0 := ((HX2.out.next ((Below.refl _ _).alloc (Nat.le_refl _) _)).frm hF4 (fun x hx => by omega)).frm ((Frm.refl (fun x => x = ob) w4).setCell ob 0 (Or.inl rfl) _) (fun x hx => by omega)
            have hfin : Frm (fun x => x = k ∨ x = ob) w (w4.setCell ⟨ob, 0, none⟩ (.slice (some ⟨g4, 0, none⟩) (j + 1) cap4)) := (((HFR.out.drew.sub HF2.out (fun x hx => Or.inl (Or.inl hx))).alloc _).sub hF4 (fun x hx => Or.inr (by omega))).setCell ob 0 (Or.inl (Or.inr rfl)) _
            go_wp2
            go_roundw
            case rel => exact ⟨j + 1, zs ++ [v], r', by omega, by go_num, by simp [hzl], Lib.hid (by rw [HE2.out]; simp), by omega, hx4, hi, hfin⟩
            case measure => simp [intOf]; omega)
      · obtain rfl : j = n := by omega
        have he := HE.out
        rw [Nat.sub_self] at he
        simp only [nums, List.append_nil] at he
        have hp := HPOST.out wr (by rw [he]) (by rw [he]; exact hxr) (by rw [he]; exact hir)
        go_wp2
        exact ⟨rfl, _, by simp [results], Or.inl ⟨rfl, hp⟩, hfr⟩
theorem IntCell.le {w : World} {base base' b : Nat} {zs : List Int} (h : IntCell w base b zs) (hb : base' ≤ base) : IntCell w base' b zs := by
  obtain ⟨u, h1, h2⟩ := h
  exact ⟨u, h1, Joins.ownsRow_le h2 hb⟩
theorem list1_any (w : World) (k rb mb ob base : Nat) (l : List UInt8) (most : Int) (hm : most ≤ 9223372036854775807) (hx : CBox w k l 0) (h1 : One w rb (.pointer (some ⟨k, 0, none⟩)) 28) (h2 : One w mb (.int .i64 most) 3) (h3 : One w ob (.slice none 0 0) 33)
    (hk1 : k < rb) (hk2 : k < mb) (hk3 : k < ob) (hrb : rb ≠ ob) (hob : ob < base) (hrbb : rb < base) (hbase : base ≤ w.heap.size) (hl : l.length < 4294967296) :
    Calls Tryd.prog 47 #[.pointer (some ⟨rb, 0, none⟩), .pointer (some ⟨mb, 0, none⟩), .pointer (some ⟨ob, 0, none⟩)] w
      (BodyP k (· = ob) (LPost k base ob most l) (LBad most l) w) := by
  refine (list1_core w k rb mb ob w.heap.size l most hm hx h1 h2 h3 hk1 hk2 hk3 hrb h3.lt h1.lt (Nat.le_refl _) (Nat.le_refl _) hl).mono ?_
  rintro e w2 ⟨h | h, hf⟩
  · exact ⟨Or.inl ⟨h.1, h.2.1, h.2.2.1, h.2.2.2.le hbase⟩, hf⟩
  · exact ⟨Or.inr h, hf⟩
/-- what List comes to: the numbers, the rest, the error -/
def readL (e0 : Int) (l : List UInt8) (most : Int) : List Int × List UInt8 × Int :=
  if e0 ≠ 0 then ([], l, e0) else if (listO most l).2.2 = 0 then ((listO most l).1, (listO most l).2.1, 0) else ([], (listO most l).2.1, ((listO most l).2.2 : Nat))
def RdLP (w : World) (k : Nat) (R : List Int × List UInt8 × Int) (e : Ending) (w' : World) : Prop :=
  ∃ u, e = .returned u ∧ w'.ownsRow w.heap.size 3 1 u R.1.length (iv .i64 R.1) ∧ CBox w' k R.2.1 R.2.2 ∧ Frm (· = k) w w'
set_option maxRecDepth 100000 in
set_option maxHeartbeats 8000000 in
theorem rlist_any (w : World) (k : Nat) (l : List UInt8) (e0 most : Int) (hm : most ≤ 9223372036854775807) (hx : CBox w k l e0) (hl : l.length < 4294967296) :
    Calls Tryd.prog 18 #[.pointer (some ⟨k, 0, none⟩), .int .i64 most] w (RdLP w k (readL e0 l most)) := by
  have hlt := hx.lt
  obtain ⟨W, hW⟩ : ∃ W, (((w.alloc (.cells #[.pointer (some ⟨k, 0, none⟩)] 28)).alloc (.cells #[.int .i64 most] 3)).alloc (.cells #[.slice none 0 0] 33)) = W := ⟨_, rfl⟩
  have hzW : W.heap.size = w.heap.size + 3 := by rw [← hW]; simp
  have hBW : Below w.heap.size w W := by rw [← hW]; repeat (first | exact Below.refl _ _ | refine Below.alloc ?_ (by simp; try omega) _)
  have o1 : One W w.heap.size (.pointer (some ⟨k, 0, none⟩)) 28 := by
    rw [← hW]; exact (Below.heap_alloc _ _ _ (by simp; try omega)).trans ((Below.heap_alloc _ _ _ (by simp)).trans (One.new w _ _))
  have o2 : One W (w.heap.size + 1) (.int .i64 most) 3 := by
    rw [← hW]; exact (Below.heap_alloc _ _ _ (by simp)).trans (heap_at2 _ _ _ (by simp))
  have o3 : One W (w.heap.size + 1 + 1) (.slice none 0 0) 33 := by
    rw [← hW]; exact heap_at2 _ _ _ (by simp)
  have hxW := hx.next hBW
  have hg := guard_List W k l e0 (.pointer (some ⟨w.heap.size, 0, none⟩)) (.pointer (some ⟨w.heap.size + 1, 0, none⟩)) (.pointer (some ⟨w.heap.size + 1 + 1, 0, none⟩)) (· = w.heap.size + 1 + 1) (LPost k (W.heap.size + 2) (w.heap.size + 1 + 1) most l) (LBad most l) hxW (by omega)
    (fun he w1 hb hs => by subst he; exact list1_any w1 k _ _ _ (W.heap.size + 2) l most hm (hxW.next hb) (o1.next hb) (o2.next hb) (o3.next hb) (by omega) (by omega) (by omega) (by omega) (by omega) (by omega) hs hl)
  have HG := Lib.hid hg
  have HW := Lib.hid hW
  have HX := Lib.hid hxW
  have HBW := Lib.hid hBW
  have H3 := Lib.hid o3
  have hmf : ∀ (fn : Fn) (first cap : Array Value) (w : World), (Instr.makeFunc fn first cap).run Tryd.prog w = .ok (.func fn first cap) w := fun _ _ _ _ => rfl
  have hrb : readL e0 l most = if e0 ≠ 0 then ([], l, e0) else if (listO most l).2.2 = 0 then ((listO most l).1, (listO most l).2.1, 0) else ([], (listO most l).2.1, ((listO most l).2.2 : Nat)) := rfl
  have HRB := Lib.hid hrb
  generalize readL e0 l most = R at *
  have hfin : ∀ (w' : World) (u : Value), w'.ownsRow w.heap.size 3 1 u R.1.length (iv .i64 R.1) → CBox w' k R.2.1 R.2.2 → Frm (fun j => j = k ∨ j = w.heap.size + 1 + 1) W w' → RdLP w k R (.returned u) w' :=
    fun w' u h1 h2 h3 => ⟨u, rfl, h1, h2, (Frm.of_below HBW.out).sub h3 (fun j hj => by rcases hj with h | h; exact Or.inl h; exact Or.inr (by omega))⟩
  have HFIN := Lib.hid hfin
  clear hg hW hxW hBW o1 o2 o3 hfin hx hrb
  have hnil : ∀ w', World.ownsRow w' w.heap.size 3 1 (.slice none 0 0) 0 (iv .i64 []) := fun w' => ⟨by simp [iv], Or.inl ⟨rfl, rfl⟩⟩
  have HNIL := Lib.hid hnil
  clear hnil
  go_enter Tryd.func18, Tryd.ntmps18
  go_wp2_with fail
  rw [HW.out]
  refine HG.out.mono ?_
  rintro e w1 ⟨hcase, hfr⟩
  rcases hcase with ⟨he, rfl, hb⟩ | ⟨rfl, rfl, w2, ⟨ho, hx2, hv2⟩, hs2, hf2⟩ | ⟨rfl, rfl, w2, ev, l2, hx2, ⟨ho, rfl, rfl⟩, hs2, hf2⟩
  · have hr := HRB.out
    rw [if_pos he] at hr
    have HF := Lib.hid (HFIN.out w1 _ (by rw [hr]; exact HNIL.out w1) (by rw [hr]; exact HX.out.next hb) hfr)
    clear he
    go_wp2
    go_ret
    exact HF.out
  · have hr := HRB.out
    rw [if_neg (by simp), if_pos ho] at hr
    obtain ⟨u, h1, h2⟩ := hv2.frm hf2 (by omega) (by omega)
    have HF := Lib.hid (HFIN.out w1 u (by rw [hr]; exact Joins.ownsRow_le h2 (by omega)) (by rw [hr]; exact hx2.frm hf2 (by omega)) hfr)
    have c1 := h1.cell
    clear h1 h2 hv2 hx2
    go_wp2
    go_ret
    exact HF.out
  · have hr := HRB.out
    rw [if_neg (by simp), if_neg ho] at hr
    have HF := Lib.hid (HFIN.out w1 _ (by rw [hr]; exact HNIL.out w1) (by rw [hr]; exact hx2) hfr)
    clear hr ho hx2
    go_wp2
    go_ret
    exact HF.out
end Go.Proofs.YtgcgehdbgegfeaaDoor
