/- lz.Pack tells packed bytes that come to what it is given, one byte longer at most. Conditions: the row is shorter than 2^31. -/
import Derived.Test.YtkgmelhigjjbbaaLzg
namespace Go.Proofs.Ytkgmelhigjjbbaa
open Go.ChangeShapes Go.WideShapes Go.ChangeAt Go.RowKit
set_option linter.unusedSimpArgs false
set_option linter.unusedVariables false
theorem own_le {w : World} {base base' : Nat} {e : TypeId} {v : Value} {n : Nat} {xs : List Value} (h : w.ownsRow base e 1 v n xs) (hb : base' ≤ base) : w.ownsRow base' e 1 v n xs := by
  refine ⟨h.1, ?_⟩
  rcases h.2 with h0 | ⟨g, cap, cur, hv, hg, r⟩
  · exact Or.inl h0
  · exact Or.inr ⟨g, cap, cur, hv, by omega, r⟩
theorem OBox.next {base k : Nat} {o : List UInt8} {n : Nat} {w w' : World} (h : OBox base k o n w) (hb : Below w.heap.size w w') : OBox base k o n w' := by
  obtain ⟨v, h1, h2, h3, h4⟩ := h
  exact ⟨v, h1.next hb, own_below h2 hb, h3, h4⟩
theorem OBox.lt {base k : Nat} {o : List UInt8} {n : Nat} {w : World} (h : OBox base k o n w) : k < w.heap.size := by
  obtain ⟨v, h1, _⟩ := h
  exact h1.lt
set_option maxRecDepth 100000 in
theorem equal_any (va vb : Value) (x y : List UInt8) (w : World) (B B' : Nat) (hx : RdV w B va (bv x)) (hy : RdV w B' vb (bv y)) : Calls Try.prog 25 #[va, vb] w fun e w' => e = .returned (.bool (x == y)) ∧ w = w' := by
  have x1 := run_conv_rd (P := Try.prog) w 22 9 5 Try.underlying22 Try.underlying5 Try.underlying9 _ _ _ hx
  have x2 := run_conv_rd (P := Try.prog) w 22 9 5 Try.underlying22 Try.underlying5 Try.underlying9 _ _ _ hy
  go_enter Try.func25, Try.ntmps25
  go_wp2
  go_ret
  exact ⟨by first | rfl | (congr 2; simp), rfl⟩
set_option maxRecDepth 100000 in
theorem try_any (k : Nat) (p q : List UInt8) (vq : Value) (w : World) (hb : OBox 0 k p 0 w) (hq : w.ownsRow 0 5 1 vq q.length (bv q)) (hk : vq.ownBlock ≠ some k) :
    Calls Try.prog 23 #[vq, .pointer (some ⟨k, 0, none⟩)] w fun e w' => e = .returned (.tuple #[]) ∧ OBox 0 k (if q.length < p.length then q else p) 0 w' ∧ Below k w w' := by
  have HB := Lib.hid hb
  obtain ⟨v, h1, h2, h3, h4⟩ := hb
  obtain ⟨A, c, rfl, _, _, _⟩ := id (RdV.own h2)
  obtain ⟨Aq, cq, rfl, _, _, _⟩ := id (RdV.own hq)
  rw [bv_length] at *
  have c1 := h1.cell
  have f1 := h1.free
  have o2 := h1.set (.slice Aq q.length cq)
  have oq := own_setCell hq k 0 (.slice Aq q.length cq) hk
  have HN := Lib.hid (show OBox 0 k q 0 (w.setCell ⟨k, 0, none⟩ (.slice Aq q.length cq)) from ⟨_, o2, oq, hk, Nat.zero_le _⟩)
  have HL := Lib.hid ((Below.refl k w).setCell (p := ⟨k, 0, none⟩) (Nat.le_refl _) (.slice Aq q.length cq))
  clear h1 h2 hq o2 oq
  by_cases hlt : q.length < p.length
  · rw [if_pos hlt]
    go_enter Try.func23, Try.ntmps23
    go_wp2
    go_end0
    exact ⟨rfl, HN.out, HL.out⟩
  · rw [if_neg hlt]
    go_enter Try.func23, Try.ntmps23
    go_wp2
    go_end0
    exact ⟨rfl, HB.out, Below.refl _ _⟩
theorem Lz.back_self (q : List UInt8) (h : 0 < q.length) : Lz.back q.length q.length q = q ++ q := by
  refine (Lz.back_ext h (Nat.le_refl _) (by rw [List.length_append]) (fun j hj => by rw [List.getElem?_append_left hj]) (fun i hi => ?_)).symm
  rw [List.getElem?_append_right (by omega), Nat.sub_self, Nat.zero_add, Nat.mod_eq_of_lt hi]
  congr 1
  omega

theorem own_lit (w : World) (a : Int) : (w.alloc (.cells #[.int .u8 a] 5)).ownsRow w.heap.size 5 1 (.slice (some ⟨w.heap.size, 0, none⟩) 1 1) 1 [.int .u8 a] := World.ownsRow_lit w #[.int .u8 a] 1 (Nat.le_refl _) (by decide) rfl
def LitP (W : World) (k : Nat) (p : List UInt8) (Q : List UInt8 → Prop) (e : Ending) (w' : World) : Prop := ∃ r p', e = .returned r ∧ w'.ownsRow W.heap.size 5 1 r (1 :: p').length (bv (1 :: p')) ∧ Q p' ∧ OBox 0 k p 0 w' ∧ Below W.heap.size W w'
theorem greedy_lit (W : World) (k : Nat) (p q : List UInt8) (vq : Value) (B : Nat) (hb : OBox 0 k p 0 W) (hq : RdV W B vq (bv q)) (hB : B ≤ W.heap.size) (hql : q.length < 2147483648) :
    Calls Try.prog 24 #[.slice (some ⟨W.heap.size, 0, none⟩) 1 1, vq] (W.alloc (.cells #[.int .u8 1] 5)) (LitP W k p (fun p' => Lz.Tokens p' q ∧ p'.length ≤ 31 * q.length + 10 ∧ (Flat q → p'.length ≤ 6))) := by
  refine (greedy_any W.heap.size _ vq q hql _ (by simp) (own_lit W 1) ((hq.more hB).alloc (Nat.le_refl _) _)).mono ?_
  rintro e w' ⟨r, p', h1, h2, h3, h3b, h3c, h4⟩
  have h5 : Below W.heap.size W w' := ((Below.refl _ _).alloc (Nat.le_refl _) _).trans h4
  exact ⟨r, p', h1, h2, ⟨h3, h3b, h3c⟩, hb.next h5, h5⟩
theorem literal_lit (W : World) (k : Nat) (p q : List UInt8) (vq : Value) (B : Nat) (hb : OBox 0 k p 0 W) (hq : RdV W B vq (bv q)) (hB : B ≤ W.heap.size) (hql : q.length < 2147483648) :
    Calls Try.prog 27 #[.slice (some ⟨W.heap.size, 0, none⟩) 1 1, vq] (W.alloc (.cells #[.int .u8 1] 5)) (LitP W k p (fun p' => p' = Lz.litT q)) := by
  have ho : (W.alloc (.cells #[.int .u8 1] 5)).ownsRow W.heap.size 5 1 (.slice (some ⟨W.heap.size, 0, none⟩) 1 1) [(1 : UInt8)].length (bv [1]) := own_lit W 1
  refine (layLiteral_any W.heap.size _ [1] (by simp) vq q (by omega) _ (by simp) ho ((hq.more hB).alloc (Nat.le_refl _) _)).mono ?_
  rintro e w' ⟨r, h1, h2, h3⟩
  have h5 : Below W.heap.size W w' := ((Below.refl _ _).alloc (Nat.le_refl _) _).grown h3.1 (by simp) (fun g hg => (ho.lt g hg).1)
  exact ⟨r, Lz.litT q, h1, h2, rfl, hb.next h5, h5⟩
/-- and a copy behind it -/
theorem copy_lit (W w1 : World) (k : Nat) (p p' : List UInt8) (r : Value) (n d : Nat) (hn : n < 4294967296) (hd : d < 4294967296) (hp : p'.length ≤ 1000000000000) (ho : w1.ownsRow W.heap.size 5 1 r (1 :: p').length (bv (1 :: p'))) (hb : OBox 0 k p 0 W) (h1 : Below W.heap.size W w1) :
    Calls Try.prog 26 #[r, .int .i64 n, .int .i64 d] w1 (LitP W k p (fun p2 => p2 = p' ++ Lz.copT n d)) := by
  have hs := h1.size
  refine (layCopy_any W.heap.size r (1 :: p') (by rw [List.length_cons]; omega) n d hn hd w1 hs ho).mono ?_
  rintro e w' ⟨r2, h2, h3, h4⟩
  have hown : ∀ g, r.ownBlock = some g → W.heap.size ≤ g := fun g hg => (ho.lt g hg).1
  have h5 := h1.grown h4.1 hs hown
  exact ⟨r2, p' ++ Lz.copT n d, h2, h3, rfl, hb.next h5, h5⟩
theorem LitP.try_ {W w' : World} {k : Nat} {p p' : List UInt8} {r : Value} (hk : k < W.heap.size) (ho : w'.ownsRow W.heap.size 5 1 r (1 :: p').length (bv (1 :: p'))) (hb : OBox 0 k p 0 w') :
    Calls Try.prog 23 #[r, .pointer (some ⟨k, 0, none⟩)] w' fun e w2 => e = .returned (.tuple #[]) ∧ OBox 0 k (if (1 :: p').length < p.length then 1 :: p' else p) 0 w2 ∧ Below k w' w2 :=
  try_any k p (1 :: p') r w' hb (own_le ho (Nat.zero_le _)) (fun e => by have := (ho.lt k e).1; omega)
/-- a row that may be told -/
def Good (l p : List UInt8) : Prop := p.length ≤ l.length + 1 ∧ ∃ n, Lz.Walks l.length p l n 0
def Twice (l p : List UInt8) : Prop := ∀ h, 0 < h → l.length = 2 * h → l.take h = l.drop h → p.length ≤ ((1 : UInt8) :: (Lz.litT (l.take h) ++ Lz.copT h h)).length
theorem Good.try_ {l p p' : List UInt8} (h : Good l p) (ht : Lz.Tokens p' l) : Good l (if (1 :: p').length < p.length then 1 :: p' else p) := by
  split
  · rename_i hlt
    exact ⟨by have := h.1; omega, ht.walks l.length (Nat.le_refl _)⟩
  · exact h
theorem try_le {p q : List UInt8} : (if q.length < p.length then q else p).length ≤ q.length ∧ (if q.length < p.length then q else p).length ≤ p.length := by
  split <;> omega
def PackP (l : List UInt8) (w : World) (e : Ending) (w' : World) : Prop := ∃ r p, e = .returned r ∧ RdV w' w'.heap.size r (bv p) ∧ Good l p ∧ Twice l p ∧ (Flat l → p.length ≤ 7) ∧ Below w.heap.size w w'
set_option maxRecDepth 100000 in
set_option maxHeartbeats 8000000 in
theorem pack_any (vb : Value) (l : List UInt8) (hl : l.length < 2147483648) (w : World) (hr : RdV w w.heap.size vb (bv l)) :
    Calls Try.prog 13 #[vb] w (PackP l w) := by
  have hmf : ∀ (fn : Fn) (first cap : Array Value) (w : World), (Instr.makeFunc fn first cap).run Try.prog w = .ok (.func fn first cap) w := fun _ _ _ _ => rfl
  obtain ⟨A, c, rfl, hc1, hc2, hc3⟩ := id hr
  rw [bv_length] at hc1 hc3 hr ⊢
  unfold maxLen at hc2
  clear hc3
  have HR := Lib.hid hr
  have HX1 := Lib.hid (show (1 + (bv l).length) * 1 ≤ 140737488355328 by rw [bv_length]; omega)
  have HRA := Lib.hid (hr.alloc (Nat.le_refl _) (.cells #[.int .u8 0] 5))
  clear hr
  go_enter Try.func13, Try.ntmps13
  go_wp2_with (at_builtin; refine wpList_append_rd _ rfl (.tmp 6) (.tmp 7) 22 rfl w.heap.size 5 (.int .u8 0) 1 Try.underlying22 Try.inf5 rfl _ _ _ (by rfl) (own_lit w 0) _ (by rfl) _ _ HRA.out (bv_one l) HX1.out (by omega) (by simp) ?_; intro v2 w2 ho2 hg2 hv2; have hb2 := ((Below.refl w.heap.size w).alloc (Nat.le_refl _) (.cells #[.int .u8 0] 5)).grown hg2 (by simp) (fun g hg => ((own_lit w 0).lt g hg).1); have HO2 := Lib.hid ho2; have HB2 := Lib.hid hb2; have ho3 : w2.ownsRow w.heap.size 5 1 v2 (0 :: l).length (bv (0 :: l)) := (by have h := ho2; rw [bv_length] at h; rw [List.length_cons, Nat.add_comm]; exact h); have HO3 := Lib.hid ho3; obtain ⟨A2, cc2, hvv2, _, _, _⟩ := id (RdV.own ho3); rw [bv_length, List.length_cons] at hvv2; clear ho2 hg2 hv2 hb2 ho3; subst hvv2)
  have ho3 := HO3.out
  obtain ⟨k, hk⟩ : ∃ k, w2.heap.size = k := ⟨_, rfl⟩
  obtain ⟨W, hW⟩ : ∃ W, w2.alloc (.cells #[.slice A2 (l.length + 1) cc2] 22) = W := ⟨_, rfl⟩
  have hWs : W.heap.size = k + 1 := by rw [← hW, ← hk]; simp
  have hbW : Below w.heap.size w W := by rw [← hW]; exact HB2.out.alloc HB2.out.size _
  have o1 : One W k (.slice A2 (l.length + 1) cc2) 22 := by rw [← hW, ← hk]; exact One.new w2 _ _
  have hob : OBox 0 k (0 :: l) 0 W := ⟨_, o1, by rw [← hW]; exact own_le (ho3.alloc _) (Nat.zero_le _), fun e => by have := (ho3.lt k e).2; omega, Nat.zero_le _⟩
  have hwk : w.heap.size ≤ k := by rw [← hk]; exact HB2.out.size
  have hg0 : Good l (0 :: l) := ⟨by simp, l.length, .raw (Nat.le_refl _)⟩
  have hgr := greedy_lit W k (0 :: l) l _ w.heap.size hob (HR.out.below hbW) (by omega) hl
  rw [hWs] at hgr
  have HGR := Lib.hid hgr
  have HW := Lib.hid hW
  have HBW := Lib.hid hbW
  have HG0 := Lib.hid hg0
  clear ho3 hgr hW hbW o1 hob hg0
  rw [hk, HW.out]
  refine HGR.out.mono ?_
  rintro e w5 ⟨r5, p5, rfl, ho5, ⟨ht5, _, hfl5⟩, hb5, hbel5⟩
  have HFL5 := Lib.hid hfl5
  clear hfl5
  have htry := LitP.try_ (W := W) (by omega) ho5 hb5
  have HTRY := Lib.hid htry
  have HT5 := Lib.hid ht5
  have HB5 := Lib.hid (HBW.out.trans (hbel5.mono (by omega)))
  clear htry ho5 ht5 hb5 hbel5
  go_wp2_with fail
  refine HTRY.out.mono ?_
  rintro e w6 ⟨rfl, hob6, hbel6⟩
  have hg6 := HG0.out.try_ HT5.out
  obtain ⟨p6, hp6⟩ : ∃ p6, (if (1 :: p5).length < (0 :: l).length then 1 :: p5 else 0 :: l) = p6 := ⟨_, rfl⟩
  have hf6 : Flat l → p6.length ≤ 7 := fun hf => by
    have h1 := (try_le (p := 0 :: l) (q := 1 :: p5)).1
    rw [hp6, List.length_cons] at h1
    have := HFL5.out hf
    omega
  have HF6 := Lib.hid hf6
  clear hf6
  rw [hp6] at hob6 hg6
  have HOB6 := Lib.hid hob6
  have HG6 := Lib.hid hg6
  have HB6 := Lib.hid (HB5.out.trans (hbel6.mono hwk))
  clear hob6 hg6 hbel6 hp6
  obtain ⟨h, hh⟩ : ∃ h, l.length / 2 = h := ⟨_, rfl⟩
  have hhi : (l.length : Int) / 2 = (h : Int) := by omega
  have hh2 : 2 * h ≤ l.length ∧ l.length ≤ 2 * h + 1 := by omega
  clear hh
  go_upto_region 5 with (fail)
  go_cut [36] from 18 to 36 (fun x wx => ∃ bq : Bool, x = .bool bq ∧ (bq = true ↔ 0 < h ∧ l.length = 2 * h ∧ l.take h = l.drop h) ∧ Below w6.heap.size w6 wx)
  case first =>
    by_cases h0 : 0 < h
    · by_cases h2 : l.length = 2 * h
      · obtain ⟨b, off, rfl, hbB, hcc⟩ := HR.out.get (j := 0) (u := .int .u8 (l[0]'(by omega)).toNat) (by rw [bv_get, List.getElem?_eq_getElem (by omega)]; rfl)
        clear hcc
        have t1 : ((l.length : Int) == 2 * (h : Int)) = true := by rw [beq_iff_eq]; omega
        have t1' : ((l.length : Int) == (h : Int) * 2) = true := by rw [beq_iff_eq]; omega
        have hch : ¬ (c = h) := by omega
        have hh0 : ¬ (h = 0) := by omega
        have hpa := RdV.sliced HR.out 0 h h (by omega) (by omega) (by omega) (by omega)
        unfold Go.sliced at hpa
        rw [if_neg (by omega), Nat.sub_zero, List.drop_zero, show (some (⟨b, off, none⟩ : Addr)).map (·.add (0 * 1)) = some ⟨b, off, none⟩ from by simp [Addr.add], show (bv l).take h = bv (l.take h) from by simp [bv]] at hpa
        have hpb := HR.out.part h (l.length - h) (by rw [bv_length]; omega)
        rw [show ((bv l).drop h).take (l.length - h) = bv (l.drop h) from by simp [bv, List.take_of_length_le]] at hpb
        have hpa6 := hpa.keep (w' := w6) HB6.out.block
        have hpb6 := hpb.keep (w' := w6) HB6.out.block
        have heq : ∀ n, Calls Try.prog 25 #[.slice (some ⟨b, off, none⟩) h h, .slice (some ⟨b, off + h, none⟩) (l.length - h) (c - h)] (w6.drewN n) fun e w'' => e = .returned (.bool (l.take h == l.drop h)) ∧ w'' = w6.drewN n := fun n => (equal_any _ _ _ _ (w6.drewN n) _ _ (hpa6.drewN n) (hpb6.drewN n)).mono fun _ _ ⟨x, y⟩ => ⟨x, y.symm⟩
        have HEQ := Lib.hid heq
        have H2 := Lib.hid h2
        clear heq hpa hpb hpa6 hpb6 h2
        go_wp2_with fail
        go_quiet (first | (go_at_call 25; refine Calls.quiet_of_same (HEQ.out _)))
        go_wp2
        go_meet
        exact ⟨_, rfl, by rw [beq_iff_eq]; exact ⟨fun h => ⟨h0, H2.out, h⟩, fun h => h.2.2⟩, belowN (Below.refl _ _) _⟩
      · have t1 : ((l.length : Int) == 2 * (h : Int)) = false := by rw [beq_eq_false_iff_ne]; omega
        have t1' : ((l.length : Int) == (h : Int) * 2) = false := by rw [beq_eq_false_iff_ne]; omega
        have H2 := Lib.hid h2
        clear h2
        go_wp2_with fail
        go_quiet (fail)
        go_wp2
        go_meet
        exact ⟨false, rfl, by have := H2.out; simp [this], belowN (Below.refl _ _) _⟩
    · obtain rfl : h = 0 := by omega
      go_wp2_with fail
      go_quiet (fail)
      go_wp2
      go_meet
      exact ⟨false, rfl, by simp, belowN (Below.refl _ _) _⟩
  case rest =>
    obtain ⟨bq, rfl, hbq, hb7⟩ := hcut
    have hob7 := HOB6.out.next hb7
    have hB7 := HB6.out.trans (hb7.mono HB6.out.size)
    have HOB7 := Lib.hid hob7
    have HB7 := Lib.hid hB7
    have hk7 := hob7.lt
    clear hob7 hb7 hB7
    cases bq with
    | false =>
      have hno : Twice l p6 := fun h' a b c => by
        obtain rfl : h' = h := by omega
        exact absurd (hbq.2 ⟨a, b, c⟩) (by simp)
      have HNO := Lib.hid hno
      clear hno hbq
      obtain ⟨vb9, q1, q2, q3, _⟩ := HOB7.out
      obtain ⟨A9, c9, rfl, _, _, _⟩ := id (RdV.own q2)
      have c9' := q1.cell
      have hrd := RdV.own q2
      have HRD := Lib.hid hrd
      have hxx : (0 + (bv p6).length) * 1 ≤ 140737488355328 := by rw [bv_length]; have := HG6.out.1; omega
      have HXX := Lib.hid hxx
      have hnil : (wc).ownsRow (wc).heap.size 5 1 (.slice none 0 0) 0 [] := ⟨rfl, Or.inl ⟨rfl, rfl⟩⟩
      have HNIL := Lib.hid hnil
      clear q1 q2 q3 hrd hxx hnil
      go_wp2_with (at_builtin; refine wpList_append_rd _ rfl (.const (.slice none 0 0)) (.tmp 59) 22 rfl (wc).heap.size 5 (.int .u8 0) 1 Try.underlying22 Try.inf5 rfl _ _ _ (by rfl) HNIL.out _ (by rfl) _ _ HRD.out (bv_one _) HXX.out (by omega) (Nat.le_refl _) ?_; intro v10 w10 ho10 hg10 hv10; have HRV := Lib.hid (RdV.own ho10); have HB10 := Lib.hid (HB7.out.trans ((Below.refl w.heap.size _).grown hg10 HB7.out.size (fun g hg => by cases hg))); clear ho10 hg10 hv10)
      go_ret
      exact ⟨_, p6, rfl, by simpa using HRV.out, HG6.out, HNO.out, HF6.out, HB10.out⟩
    | true =>
      obtain ⟨h0, hl2, heq⟩ := hbq.1 rfl
      obtain ⟨b, off, rfl, hbB, hcc⟩ := HR.out.get (j := 0) (u := .int .u8 (l[0]'(by omega)).toNat) (by rw [bv_get, List.getElem?_eq_getElem (by omega)]; rfl)
      clear hcc hbq
      have hqq : l.take h ++ l.take h = l := by
        conv => rhs; rw [← List.take_append_drop h l]
        rw [heq]
      have hql : (l.take h).length = h := by rw [List.length_take]; omega
      have hback : Lz.back h h (l.take h) = l := by
        have := Lz.back_self (l.take h) (by omega)
        rw [hql] at this
        rw [this, hqq]
      have hpa := RdV.sliced HR.out 0 h h (by omega) (by omega) (by omega) (by omega)
      unfold Go.sliced at hpa
      rw [if_neg (by omega), Nat.sub_zero, List.drop_zero, show (some (⟨b, off, none⟩ : Addr)).map (·.add (0 * 1)) = some ⟨b, off, none⟩ from by simp [Addr.add], show (bv l).take h = bv (l.take h) from by simp [bv]] at hpa
      have hh0 : ¬ (h = 0) := by omega
      have HPA := Lib.hid hpa
      have htk1 := (Lz.Tokens.nil.lit (l.take h) (by omega)).cop h h h0 (by omega) h0 (by rw [List.nil_append]; omega) (by omega)
      rw [List.nil_append, List.nil_append, hback] at htk1
      have hll := literal_lit wc k p6 (l.take h) _ w.heap.size HOB7.out (hpa.below HB7.out) HB7.out.size (by omega)
      have hlt1 : (Lz.litT (l.take h)).length ≤ 10 + h := by
        unfold Lz.litT
        split
        · simp
        · have := Pu.varL_length (2 * (l.take h).length)
          rw [List.length_append]
          omega
      have HLL := Lib.hid hll
      have HTK1 := Lib.hid htk1
      have HBACK := Lib.hid hback
      have HQL := Lib.hid hql
      have HL2 := Lib.hid hl2
      clear hll htk1 hback hqq heq hpa hql hl2
      go_wp2_with fail
      refine HLL.out.mono ?_
      rintro e w8 ⟨r8, p8, rfl, ho8, rfl, hob8, hbel8⟩
      have hcl := copy_lit wc w8 k p6 _ r8 h h (by omega) (by omega) (by omega) ho8 HOB7.out hbel8
      have HCL := Lib.hid hcl
      clear hcl ho8 hob8 hbel8
      go_wp2_with fail
      refine HCL.out.mono ?_
      rintro e w9 ⟨r9, p9, rfl, ho9, hp9, hob9, hbel9⟩
      subst hp9
      have htry := LitP.try_ (W := wc) hk7 ho9 hob9
      have HTRY2 := Lib.hid htry
      have HB9 := Lib.hid (HB7.out.trans (hbel9.mono HB7.out.size))
      clear htry ho9 hob9 hbel9
      go_wp2_with fail
      refine HTRY2.out.mono ?_
      rintro e w10 ⟨rfl, hob10, hbel10⟩
      have hg10 := HG6.out.try_ HTK1.out
      have hle10 := (try_le (p := p6) (q := 1 :: (Lz.litT (l.take h) ++ Lz.copT h h))).1
      obtain ⟨p10, hp10⟩ : ∃ p10, (if (1 :: (Lz.litT (l.take h) ++ Lz.copT h h)).length < p6.length then 1 :: (Lz.litT (l.take h) ++ Lz.copT h h) else p6) = p10 := ⟨_, rfl⟩
      have hf10 : Flat l → p10.length ≤ 7 := fun hf => by
        have h1 := (try_le (p := p6) (q := 1 :: (Lz.litT (l.take h) ++ Lz.copT h h))).2
        rw [hp10] at h1
        have := HF6.out hf
        omega
      have HF10 := Lib.hid hf10
      clear hf10
      rw [hp10] at hob10 hg10 hle10
      have hk10 := hob10.lt
      have HOB10 := Lib.hid hob10
      have HG10 := Lib.hid hg10
      have HLE10 := Lib.hid hle10
      have HB10 := Lib.hid (HB9.out.trans (hbel10.mono hwk))
      have hgl := greedy_lit w10 k p10 (l.take h) _ w.heap.size hob10 (HPA.out.below HB10.out) HB10.out.size (by have := HQL.out; omega)
      have HGL := Lib.hid hgl
      clear hgl hob10 hg10 hle10 hbel10 hp10
      go_wp2_with fail
      refine HGL.out.mono ?_
      rintro e w11 ⟨r11, p11, rfl, ho11, ⟨ht11, hpl11, _⟩, hob11, hbel11⟩
      have ht12 := ht11.cop h h h0 (by omega) h0 (by have := HQL.out; omega) (by omega)
      rw [HBACK.out] at ht12
      have hcl := copy_lit w10 w11 k p10 p11 r11 h h (by omega) (by omega) (by have := HQL.out; omega) ho11 HOB10.out hbel11
      have HCL2 := Lib.hid hcl
      have HT12 := Lib.hid ht12
      clear hcl ho11 hob11 hbel11 ht11 ht12
      go_wp2_with fail
      refine HCL2.out.mono ?_
      rintro e w12 ⟨r12, p12, rfl, ho12, hp12, hob12, hbel12⟩
      subst hp12
      have htry := LitP.try_ (W := w10) hk10 ho12 hob12
      have HTRY3 := Lib.hid htry
      have HB12 := Lib.hid (HB10.out.trans (hbel12.mono HB10.out.size))
      clear htry ho12 hob12 hbel12
      go_wp2_with fail
      refine HTRY3.out.mono ?_
      rintro e w13 ⟨rfl, hob13, hbel13⟩
      have hg13 := HG10.out.try_ HT12.out
      have hle13 := (try_le (p := p10) (q := 1 :: (p11 ++ Lz.copT h h))).2
      obtain ⟨p13, hp13⟩ : ∃ p13, (if (1 :: (p11 ++ Lz.copT h h)).length < p10.length then 1 :: (p11 ++ Lz.copT h h) else p10) = p13 := ⟨_, rfl⟩
      rw [hp13] at hob13 hg13 hle13
      have HF13 : Hid (Flat l → p13.length ≤ 7) := fun hf => by have := HF10.out hf; omega
      have hno : Twice l p13 := fun h' a b c => by
        obtain rfl : h' = h := by have := HL2.out; omega
        exact Nat.le_trans hle13 HLE10.out
      have HOB13 := Lib.hid hob13
      have HG13 := Lib.hid hg13
      have HNO := Lib.hid hno
      have HB13 := Lib.hid (HB12.out.trans (hbel13.mono hwk))
      clear hob13 hg13 hno hbel13 hle13 hp13
      obtain ⟨vb9, q1, q2, q3, _⟩ := HOB13.out
      obtain ⟨A9, c9, rfl, _, _, _⟩ := id (RdV.own q2)
      have c9' := q1.cell
      have hrd := RdV.own q2
      have HRD := Lib.hid hrd
      have hxx : (0 + (bv p13).length) * 1 ≤ 140737488355328 := by rw [bv_length]; have := HG13.out.1; omega
      have HXX := Lib.hid hxx
      have hnil : (w13).ownsRow (w13).heap.size 5 1 (.slice none 0 0) 0 [] := ⟨rfl, Or.inl ⟨rfl, rfl⟩⟩
      have HNIL := Lib.hid hnil
      clear q1 q2 q3 hrd hxx hnil
      go_wp2_with (at_builtin; refine wpList_append_rd _ rfl (.const (.slice none 0 0)) (.tmp 59) 22 rfl (w13).heap.size 5 (.int .u8 0) 1 Try.underlying22 Try.inf5 rfl _ _ _ (by rfl) HNIL.out _ (by rfl) _ _ HRD.out (bv_one _) HXX.out (by omega) (Nat.le_refl _) ?_; intro v10 w14 ho10 hg10 hv10; have HRV := Lib.hid (RdV.own ho10); have HB14 := Lib.hid (HB13.out.trans ((Below.refl w.heap.size _).grown hg10 HB13.out.size (fun g hg => by cases hg))); clear ho10 hg10 hv10)
      go_ret
      exact ⟨_, p13, rfl, by simpa using HRV.out, HG13.out, HNO.out, HF13.out, HB14.out⟩
end Go.Proofs.Ytkgmelhigjjbbaa
