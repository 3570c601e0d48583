/- Contracts of codec.Reader's Int, Between and End, and of NewReader. Conditions: the rows are shorter than 2^32. -/
import Derived.Test.YtgcgehdbgegfeaaDoorRdg
namespace Go.Proofs.YtgcgehdbgegfeaaDoor
open Go.ChangeShapes Go.WideShapes Go.ChangeAt Go.RowKit
set_option linter.unusedSimpArgs false
set_option linter.unusedVariables false

set_option maxRecDepth 100000 in
set_option maxHeartbeats 4000000 in
theorem int1_any (w : World) (k rb vb : Nat) (l : List UInt8) (z : Int) (hx : CBox w k l 0) (h1 : One w rb (.pointer (some ⟨k, 0, none⟩)) 28) (h2 : One w vb (.int .i64 z) 2) (hk1 : k < rb) (hk2 : k < vb) (hl : l.length < 4294967296) :
    Calls Tryd.prog 38 #[.pointer (some ⟨rb, 0, none⟩), .pointer (some ⟨vb, 0, none⟩)] w
      (BodyP k (· = vb) (fun w2 => ∃ v l', numO l = .ok v l' ∧ CBox w2 k l' 0 ∧ One w2 vb (.int .i64 v) 2) (fun ev l2 w2 => ∃ n : Nat, ev = n ∧ numO l = .bad n l2 ∧ One w2 vb (.int .i64 z) 2) w) := by
  have hn := number_does w k l 0 hx hl
  have c1 := h1.cell
  cases ho : numO l with
  | ok v l' =>
    rw [ho] at hn
    have HN := Lib.hid hn
    have H2 := Lib.hid h2
    have HO := Lib.hid ho
    clear hn h2 ho h1 hx
    go_enter Tryd.func38, Tryd.ntmps38
    go_wp2_with fail
    refine HN.out.mono ?_
    rintro e w1 ⟨rfl, hx1, hf1⟩
    have a2 := H2.out.frm hf1 (by omega)
    have c2 := a2.cell
    have f2 := a2.free
    have hfin : BodyP k (· = vb) (fun w2 => ∃ v l', Out.ok v l' = .ok v l' ∧ numO l = .ok v l' ∧ CBox w2 k l' 0 ∧ One w2 vb (.int .i64 v) 2) (fun _ _ _ => False) w (.returned (.tuple #[])) (w1.setCell ⟨vb, 0, none⟩ (.int .i64 v)) :=
      ⟨Or.inl ⟨rfl, v, l', rfl, HO.out, hx1.frm (O := (· = vb)) (Frm.setCell (O := (· = vb)) (Frm.refl _ _) vb 0 (Or.inl rfl) _) (by omega), a2.set _⟩, Frm.setCell (O := fun j => j = k ∨ j = vb) (hf1.mono (fun j _ h => Or.inl h)) vb 0 (Or.inl (Or.inr rfl)) _⟩
    have HF := Lib.hid hfin
    clear hfin hx1 hf1 a2
    go_wp2
    go_end0
    obtain ⟨h | h, hf⟩ := HF.out
    · obtain ⟨_, v2, l2, _, h3, h4, h5⟩ := h
      rw [HO.out] at h3
      injection h3 with h3 h3'
      subst h3 h3'
      exact ⟨Or.inl ⟨rfl, v, l', rfl, h4, h5⟩, hf⟩
    · obtain ⟨_, _, _, _, h⟩ := h; exact h.elim
  | bad ev l' =>
    rw [ho] at hn
    have HN := Lib.hid hn
    have H2 := Lib.hid h2
    have HO := Lib.hid ho
    clear hn h2 ho h1 hx
    go_enter Tryd.func38, Tryd.ntmps38
    go_wp2_with fail
    refine HN.out.mono ?_
    rintro e w1 ⟨rfl, hx1, hf1⟩
    have a2 := H2.out.frm hf1 (by omega)
    have HX1 := Lib.hid hx1
    have HF1 := Lib.hid hf1
    have HA2 := Lib.hid a2
    clear hx1 hf1 a2
    go_wp2
    exact ⟨rfl, Or.inr ⟨_, _, rfl, HX1.out, ev, rfl, rfl, HA2.out⟩, HF1.out.mono (fun j _ h => Or.inl h)⟩

/-- what a reading leaves: the reader's state -/
def RdP (w : World) (k : Nat) (v : Value) (s : List UInt8 × Int) (e : Ending) (w' : World) : Prop := e = .returned v ∧ CBox w' k s.1 s.2 ∧ Frm (· = k) w w'
/-- a reading that tells a number, and 0 where it is given up -/
def readV (e : Int) (l : List UInt8) (o : Out) : Int × List UInt8 × Int := if e ≠ 0 then (0, l, e) else match o with
  | .ok v l' => (v, l', 0)
  | .bad ev l' => (0, l', ev)
set_option maxRecDepth 100000 in
set_option maxHeartbeats 4000000 in
theorem rint_any (w : World) (k : Nat) (l : List UInt8) (e0 : Int) (hx : CBox w k l e0) (hl : l.length < 4294967296) :
    Calls Tryd.prog 13 #[.pointer (some ⟨k, 0, none⟩)] w (RdP w k (.int .i64 (readV e0 l (numO l)).1) (readV e0 l (numO l)).2) := by
  have hlt := hx.lt
  obtain ⟨W, hW⟩ : ∃ W, (w.alloc (.cells #[.pointer (some ⟨k, 0, none⟩)] 28)).alloc (.cells #[.int .i64 0] 2) = W := ⟨_, rfl⟩
  have hBW : Below w.heap.size w W := by rw [← hW]; exact ((Below.refl _ _).alloc (Nat.le_refl _) _).alloc (by simp) _
  have o1 : One W w.heap.size (.pointer (some ⟨k, 0, none⟩)) 28 := by rw [← hW]; exact (Below.heap_alloc _ _ _ (by simp)).trans (One.new w _ _)
  have o2 : One W (w.heap.size + 1) (.int .i64 0) 2 := by
    have := One.new (w.alloc (.cells #[.pointer (some ⟨k, 0, none⟩)] 28)) (.int .i64 0) 2
    rw [← hW]; simpa using this
  have hzW : W.heap.size = w.heap.size + 2 := by rw [← hW]; simp
  have hxW := hx.next hBW
  have hg := guard_Int W k l e0 (.pointer (some ⟨w.heap.size, 0, none⟩)) (.pointer (some ⟨w.heap.size + 1, 0, none⟩)) (· = w.heap.size + 1) (fun w2 => ∃ v l', numO l = .ok v l' ∧ CBox w2 k l' 0 ∧ One w2 (w.heap.size + 1) (.int .i64 v) 2) (fun ev l2 w2 => ∃ n : Nat, ev = n ∧ numO l = .bad n l2 ∧ One w2 (w.heap.size + 1) (.int .i64 0) 2) hxW (by omega)
    (fun he w1 hb _ => by subst he; exact int1_any w1 k _ _ l 0 (hxW.next hb) (o1.next hb) (o2.next hb) (by omega) (by omega) hl)
  have HG := Lib.hid hg
  have HW := Lib.hid hW
  have HX := Lib.hid hxW
  have HBW := Lib.hid hBW
  have H2 := Lib.hid o2
  have hmf : ∀ (fn : Fn) (first cap : Array Value) (w : World), (Instr.makeFunc fn first cap).run Tryd.prog w = .ok (.func fn first cap) w := fun _ _ _ _ => rfl
  have hfin : ∀ (w' : World) (v : Int), One w' (w.heap.size + 1) (.int .i64 v) 2 → CBox w' k (readV e0 l (numO l)).2.1 (readV e0 l (numO l)).2.2 → Frm (fun j => j = k ∨ j = w.heap.size + 1) W w' → v = (readV e0 l (numO l)).1 → RdP w k (.int .i64 (readV e0 l (numO l)).1) (readV e0 l (numO l)).2 (.returned (.int .i64 v)) w' := by
    intro w' v h1 h2 h3 h4
    subst h4
    exact ⟨rfl, h2, (Frm.of_below HBW.out).sub h3 (fun j hj => by rcases hj with h | h; exact Or.inl h; exact Or.inr (by omega))⟩
  have HFIN := Lib.hid hfin
  clear hg hW hxW hBW o1 o2 hfin hx
  go_enter Tryd.func13, Tryd.ntmps13
  go_wp2_with fail
  rw [HW.out]
  refine HG.out.mono ?_
  rintro e w1 ⟨hcase, hfr⟩
  have hend : ∃ v b, e = .returned (.bool b) ∧ One w1 (w.heap.size + 1) (.int .i64 v) 2 ∧ CBox w1 k (readV e0 l (numO l)).2.1 (readV e0 l (numO l)).2.2 ∧ v = (readV e0 l (numO l)).1 := by
    rcases hcase with ⟨he, rfl, hb⟩ | ⟨rfl, rfl, w2, ⟨v, l', ho, hx2, hv2⟩, hs2, hf2⟩ | ⟨rfl, rfl, w2, ev, l2, hx2, ⟨n, rfl, ho, hv2⟩, hs2, hf2⟩
    · refine ⟨0, _, rfl, H2.out.next hb, ?_, ?_⟩
      · unfold readV; rw [if_pos he]; exact HX.out.next hb
      · unfold readV; rw [if_pos he]
    · refine ⟨v, _, rfl, hv2.frm hf2 (by omega), ?_, ?_⟩
      · unfold readV; rw [if_neg (by simp), ho]; exact hx2.frm hf2 (by omega)
      · unfold readV; rw [if_neg (by simp), ho]
    · refine ⟨0, _, rfl, hv2.frm hf2 (by rintro (h | h) <;> omega), ?_, ?_⟩
      · unfold readV; rw [if_neg (by simp), ho]; exact hx2
      · unfold readV; rw [if_neg (by simp), ho]
  obtain ⟨v, b, rfl, ho, hx1, hv⟩ := hend
  have c1 := ho.cell
  have HF := Lib.hid (HFIN.out w1 v ho hx1 hfr hv)
  clear hcase hfr ho hx1 hv
  go_wp2
  go_ret
  exact HF.out
theorem heap_at2 (w : World) (o : Obj) (k : Nat) (h : k = w.heap.size) : (w.alloc o).heap[k]? = some o := by subst h; exact heap_alloc_new w o
set_option maxRecDepth 100000 in
set_option maxHeartbeats 4000000 in
theorem between_err (w : World) (k : Nat) (l : List UInt8) (e0 : Int) (lo hi : Int) (hx : CBox w k l e0) (he : e0 ≠ 0) :
    Calls Tryd.prog 20 #[.pointer (some ⟨k, 0, none⟩), .int .i64 lo, .int .i64 hi] w (RdP w k (.int .i64 0) (l, e0)) := by
  have hlt := hx.lt
  obtain ⟨W, hW⟩ : ∃ W, ((((w.alloc (.cells #[.pointer (some ⟨k, 0, none⟩)] 28)).alloc (.cells #[.int .i64 lo] 3)).alloc (.cells #[.int .i64 hi] 3)).alloc (.cells #[.int .i64 0] 2)) = W := ⟨_, rfl⟩
  have hzW : W.heap.size = w.heap.size + 4 := by rw [← hW]; simp
  have hBW : Below w.heap.size w W := by rw [← hW]; repeat (first | exact Below.refl _ _ | refine Below.alloc ?_ (by simp; try omega) _)
  have o2 : One W (w.heap.size + 3) (.int .i64 0) 2 := by
    rw [← hW]; unfold One; exact heap_at2 _ _ _ (by simp)
  have hxW := hx.next hBW
  have hg := guard_Between W k l e0 (.pointer (some ⟨w.heap.size, 0, none⟩)) (.pointer (some ⟨w.heap.size + 1 + 1 + 1, 0, none⟩)) (.pointer (some ⟨w.heap.size + 1, 0, none⟩)) (.pointer (some ⟨w.heap.size + 1 + 1, 0, none⟩)) (fun _ => False) (fun _ => True) (fun _ _ _ => True) hxW (fun _ h => h.elim) (fun h => absurd h he)
  have hmf : ∀ (fn : Fn) (first cap : Array Value) (w : World), (Instr.makeFunc fn first cap).run Tryd.prog w = .ok (.func fn first cap) w := fun _ _ _ _ => rfl
  have HG := Lib.hid hg
  have HW := Lib.hid hW
  have HX := Lib.hid hxW
  have HBW := Lib.hid hBW
  have H2 := Lib.hid o2
  have HE := Lib.hid he
  clear hg hW hxW hBW o2 hx he
  go_enter Tryd.func20, Tryd.ntmps20
  go_wp2_with fail
  rw [HW.out]
  refine HG.out.mono ?_
  rintro e w1 ⟨⟨_, rfl, hb⟩ | ⟨h, _⟩ | ⟨h, _⟩, hfr⟩
  · have ho := H2.out.next hb
    have c1 := ho.cell
    have HB := Lib.hid hb
    clear ho hb hfr
    go_wp2
    go_ret
    exact ⟨rfl, HX.out.next HB.out, Frm.of_below (HBW.out.trans (HB.out.mono HBW.out.size))⟩
  · exact absurd h HE.out
  · exact absurd h HE.out
set_option maxRecDepth 100000 in
set_option maxHeartbeats 4000000 in
theorem bytes_err (w : World) (k : Nat) (l : List UInt8) (e0 : Int) (most : Int) (hx : CBox w k l e0) (he : e0 ≠ 0) :
    Calls Tryd.prog 15 #[.pointer (some ⟨k, 0, none⟩), .int .i64 most] w (RdP w k (.slice none 0 0) (l, e0)) := by
  have hlt := hx.lt
  obtain ⟨W, hW⟩ : ∃ W, (((w.alloc (.cells #[.pointer (some ⟨k, 0, none⟩)] 28)).alloc (.cells #[.int .i64 most] 3)).alloc (.cells #[.slice none 0 0] 23)) = W := ⟨_, rfl⟩
  have hzW : W.heap.size = w.heap.size + 3 := by rw [← hW]; simp
  have hBW : Below w.heap.size w W := by rw [← hW]; repeat (first | exact Below.refl _ _ | refine Below.alloc ?_ (by simp; try omega) _)
  have o2 : One W (w.heap.size + 2) (.slice none 0 0) 23 := by
    rw [← hW]; unfold One; exact heap_at2 _ _ _ (by simp)
  have hxW := hx.next hBW
  have hg := guard_Bytes W k l e0 (.pointer (some ⟨w.heap.size, 0, none⟩)) (.pointer (some ⟨w.heap.size + 1, 0, none⟩)) (.pointer (some ⟨w.heap.size + 1 + 1, 0, none⟩)) (fun _ => False) (fun _ => True) (fun _ _ _ => True) hxW (fun _ h => h.elim) (fun h => absurd h he)
  have hmf : ∀ (fn : Fn) (first cap : Array Value) (w : World), (Instr.makeFunc fn first cap).run Tryd.prog w = .ok (.func fn first cap) w := fun _ _ _ _ => rfl
  have HG := Lib.hid hg
  have HW := Lib.hid hW
  have HX := Lib.hid hxW
  have HBW := Lib.hid hBW
  have H2 := Lib.hid o2
  have HE := Lib.hid he
  clear hg hW hxW hBW o2 hx he
  go_enter Tryd.func15, Tryd.ntmps15
  go_wp2_with fail
  rw [HW.out]
  refine HG.out.mono ?_
  rintro e w1 ⟨⟨_, rfl, hb⟩ | ⟨h, _⟩ | ⟨h, _⟩, hfr⟩
  · have ho := H2.out.next hb
    have c1 := ho.cell
    have HB := Lib.hid hb
    clear ho hb hfr
    go_wp2
    go_ret
    exact ⟨rfl, HX.out.next HB.out, Frm.of_below (HBW.out.trans (HB.out.mono HBW.out.size))⟩
  · exact absurd h HE.out
  · exact absurd h HE.out
set_option maxRecDepth 100000 in
set_option maxHeartbeats 4000000 in
theorem list_err (w : World) (k : Nat) (l : List UInt8) (e0 : Int) (most : Int) (hx : CBox w k l e0) (he : e0 ≠ 0) :
    Calls Tryd.prog 18 #[.pointer (some ⟨k, 0, none⟩), .int .i64 most] w (RdP w k (.slice none 0 0) (l, e0)) := by
  have hlt := hx.lt
  obtain ⟨W, hW⟩ : ∃ W, (((w.alloc (.cells #[.pointer (some ⟨k, 0, none⟩)] 28)).alloc (.cells #[.int .i64 most] 3)).alloc (.cells #[.slice none 0 0] 33)) = W := ⟨_, rfl⟩
  have hzW : W.heap.size = w.heap.size + 3 := by rw [← hW]; simp
  have hBW : Below w.heap.size w W := by rw [← hW]; repeat (first | exact Below.refl _ _ | refine Below.alloc ?_ (by simp; try omega) _)
  have o2 : One W (w.heap.size + 2) (.slice none 0 0) 33 := by
    rw [← hW]; unfold One; exact heap_at2 _ _ _ (by simp)
  have hxW := hx.next hBW
  have hg := guard_List W k l e0 (.pointer (some ⟨w.heap.size, 0, none⟩)) (.pointer (some ⟨w.heap.size + 1, 0, none⟩)) (.pointer (some ⟨w.heap.size + 1 + 1, 0, none⟩)) (fun _ => False) (fun _ => True) (fun _ _ _ => True) hxW (fun _ h => h.elim) (fun h => absurd h he)
  have hmf : ∀ (fn : Fn) (first cap : Array Value) (w : World), (Instr.makeFunc fn first cap).run Tryd.prog w = .ok (.func fn first cap) w := fun _ _ _ _ => rfl
  have HG := Lib.hid hg
  have HW := Lib.hid hW
  have HX := Lib.hid hxW
  have HBW := Lib.hid hBW
  have H2 := Lib.hid o2
  have HE := Lib.hid he
  clear hg hW hxW hBW o2 hx he
  go_enter Tryd.func18, Tryd.ntmps18
  go_wp2_with fail
  rw [HW.out]
  refine HG.out.mono ?_
  rintro e w1 ⟨⟨_, rfl, hb⟩ | ⟨h, _⟩ | ⟨h, _⟩, hfr⟩
  · have ho := H2.out.next hb
    have c1 := ho.cell
    have HB := Lib.hid hb
    clear ho hb hfr
    go_wp2
    go_ret
    exact ⟨rfl, HX.out.next HB.out, Frm.of_below (HBW.out.trans (HB.out.mono HBW.out.size))⟩
  · exact absurd h HE.out
  · exact absurd h HE.out
set_option maxRecDepth 100000 in
set_option maxHeartbeats 4000000 in
theorem end_any (w : World) (k : Nat) (l : List UInt8) (e0 : Int) (hx : CBox w k l e0) :
    Calls Tryd.prog 22 #[.pointer (some ⟨k, 0, none⟩)] w fun e w' => e = .returned (.int .i64 (if e0 = 0 ∧ l ≠ [] then 22 else e0)) ∧ w = w' := by
  obtain ⟨A, n, c, B, hk, hr, hB⟩ := hx
  obtain ⟨A', c', ev, hc1, hc2, _⟩ := id hr
  injection ev with ev1 ev2 ev3
  subst ev1 ev3
  rw [bv_length] at ev2 hc1
  subst ev2
  unfold maxLen at hc2
  have k0 : w.cell? ⟨k, 0, none⟩ = some (.slice A l.length c) := cell_of_row w k 0 _ _ (0, 0) hk
  have k1 : w.cell? ⟨k, 1, none⟩ = some (.int .i64 e0) := cell_of_row w k 1 _ _ (0, 0) hk
  clear hr hk
  by_cases he : e0 = 0
  · subst he
    cases l with
    | nil =>
      simp only [List.length_nil] at k0
      rw [if_neg (by simp)]
      go_enter Tryd.func22, Tryd.ntmps22
      go_wp2
      go_ret
      exact ⟨rfl, rfl⟩
    | cons b r =>
      have hp : 0 < (b :: r).length := by simp
      rw [if_pos (by simp)]
      generalize (b :: r).length = m at *
      go_enter Tryd.func22, Tryd.ntmps22
      go_wp2
      go_ret
      exact ⟨rfl, rfl⟩
  · have hb : (e0 == 0) = false := by rw [beq_eq_false_iff_ne]; exact he
    rw [if_neg (fun h => he h.1)]
    clear he
    go_enter Tryd.func22, Tryd.ntmps22
    go_wp2
    go_ret
    exact ⟨rfl, rfl⟩
set_option maxRecDepth 100000 in
set_option maxHeartbeats 4000000 in
theorem newreader_any (vb : Value) (l : List UInt8) (hl : l.length < 4294967296) (w : World) (B : Nat) (hB : B ≤ w.heap.size) (hr : RdV w B vb (bv l)) :
    Calls Tryd.prog 12 #[vb] w fun e w' => ∃ k, e = .returned (.pointer (some ⟨k, 0, none⟩)) ∧ w.heap.size ≤ k ∧ CBox w' k l 0 ∧ Below w.heap.size w w' := by
  have hrr := hr
  obtain ⟨A, c, rfl, hc1, hc2, hc3⟩ := hr
  rw [bv_length] at hc1 hc3 hrr ⊢
  unfold maxLen at hc2
  have HR := Lib.hid hrr
  clear hc3 hrr
  go_enter Tryd.func12, Tryd.ntmps12
  go_wp2_with (at_builtin; refine wpList_append_rd _ rfl _ _ 23 rfl w.heap.size 5 (.int .u8 0) 1 Tryd.underlying23 Tryd.inf5 rfl (.slice none 0 0) 0 [] (by rfl) ⟨by simp, Or.inl ⟨rfl, rfl⟩⟩ _ (by rfl) B (bv l) HR.out (bv_one l) (by rw [bv_length]; omega) (by omega) (Nat.le_refl _) ?_; intro v2 w2 ho2 hg2 _; rw [Nat.zero_add, bv_length, List.nil_append] at ho2; obtain ⟨A2, c2, e2, f1, f2, _⟩ := id (RdV.own ho2); rw [bv_length] at e2; subst e2)
  have hb2 : Below w.heap.size w w2 := (Below.refl _ w).grown hg2 (Nat.le_refl _) (by intro g hg; simp [Value.ownBlock] at hg)
  have hs2 := hb2.size
  have hr2 := RdV.own ho2
  have HR2 := Lib.hid hr2
  have HB2 := Lib.hid hb2
  clear ho2 hg2 hr2 hb2
  go_wp2
  go_ret
  refine ⟨_, rfl, by omega, ⟨A2, _, _, _, heap_alloc_new _ _, HR2.out.alloc (Nat.le_refl _) _, Nat.le_refl _⟩, HB2.out.alloc (by omega) _⟩
end Go.Proofs.YtgcgehdbgegfeaaDoor
