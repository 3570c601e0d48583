/- lz.again, and the closures of Unpack, Check, Copies: what they lay or count. Conditions: rows are shorter than 2^40. -/
import Derived.Test.YtkgmelhigjjbbaaLzw
namespace Go.Proofs.Ytkgmelhigjjbbaa
open Go.ChangeShapes Go.WideShapes Go.ChangeAt Go.RowKit
set_option linter.unusedSimpArgs false
set_option linter.unusedVariables false

theorem Only.next {w wr w1 : World} {v o o' : Value} (h : Only w wr v o) (hg : wr.grownBy w1 o.ownBlock) (hv : o'.ownBlock = o.ownBlock ∨ o'.ownBlock = some wr.heap.size) : Only w w1 v o' := by
  obtain ⟨h1, h2⟩ := h
  have hsz := h1.size
  have hsz1 := hg.size
  refine ⟨⟨hg.os.trans h1.os, hg.tape.trans h1.tape, hg.output.trans h1.output, by omega, fun k hk hne => ?_⟩, ?_⟩
  · have e1 := hg.block k (by omega) (by
      rcases h2 with h2 | ⟨g, h2, h3⟩
      · rw [h2]; exact hne
      · rw [h2]; intro e; injection e with e; omega)
    rw [e1]
    exact h1.block k hk hne
  · rcases hv with hv | hv
    · rcases h2 with h2 | ⟨g, h2, h3⟩
      · exact .inl (hv.trans h2)
      · exact .inr ⟨g, hv.trans h2, h3⟩
    · exact .inr ⟨_, hv, by omega⟩
theorem own_setCell {w : World} {base : Nat} {e : TypeId} {v : Value} {n : Nat} {xs : List Value} (h : w.ownsRow base e 1 v n xs) (k i : Nat) (u : Value) (hk : v.ownBlock ≠ some k) : (w.setCell ⟨k, i, none⟩ u).ownsRow base e 1 v n xs := by
  refine ⟨h.1, ?_⟩
  rcases h.2 with h0 | ⟨g, cap, cur, hv, hg, hh, r⟩
  · exact Or.inl h0
  · refine Or.inr ⟨g, cap, cur, hv, hg, (heap_setCell_other w ⟨k, i, none⟩ g _ (fun e => hk ?_)).trans hh, r⟩
    have e' : g = k := e
    rw [hv, ← e']
    rfl
/-- the cell at k holds a row of the call's own that reads as o -/
def OBox (base k : Nat) (o : List UInt8) (n : Nat) (w : World) : Prop := ∃ v, One w k v 22 ∧ w.ownsRow base 5 1 v o.length (bv o) ∧ v.ownBlock ≠ some k ∧ base ≤ k
/-- the cell at k holds a number -/
def NBox (k : Nat) (f : List UInt8 → Nat → Nat) (o : List UInt8) (n : Nat) (w : World) : Prop := One w k (.int .i64 (f o n : Nat)) 3
theorem One.below {w w' : World} {b B : Nat} {u : Value} {t : TypeId} (h : One w b u t) (hb : Below B w w') (hB : b < B) : One w' b u t := (hb.block b hB).trans h

set_option maxRecDepth 100000 in
set_option maxHeartbeats 4000000 in
theorem again_any (base : Nat) (v : Value) (o : List UInt8) (n d : Nat) (hd : 0 < d) (hdo : d ≤ o.length) (hlen : o.length + n ≤ 1099511627776) (w : World) (hbase : base ≤ w.heap.size) (hown : w.ownsRow base 5 1 v o.length (bv o)) :
    Calls Try.prog 17 #[v, .int .i64 n, .int .i64 d] w fun e w' => ∃ r, e = .returned r ∧ w'.ownsRow base 5 1 r (o.length + n) (bv (Lz.back n d o)) ∧ Only w w' v r := by
  obtain ⟨f, hf⟩ : ∃ f : Nat, o.length = f + d := ⟨o.length - d, by omega⟩
  have hfi : (o.length : Int) - (d : Int) = (f : Int) := by omega
  have HO := Lib.hid hown
  obtain ⟨g, cap, rfl, hg⟩ := own_form hown (by omega)
  have hcap := hg
  have HF := Lib.hid hf
  clear hown hf
  go_enter Try.func17, Try.ntmps17
  go_wp2_with fail
  go_loopw [0, 1] (fun u i wr => ∃ a m : Nat, a + m = n ∧ (d ∣ a ∨ m = 0) ∧ i = .int .i64 (m : Nat) ∧ wr.ownsRow base 5 1 u (o.length + a) (bv (Lz.back a d o)) ∧ Only w wr (.slice (some ⟨g, 0, none⟩) o.length cap) u) (fun _ i _ => (intOf i).toNat)
  case atStart => exact ⟨0, n, by omega, Or.inl ⟨0, by omega⟩, rfl, HO.out, Only.refl _ _⟩
  case round =>
    obtain ⟨a, m, ham, hda, rfl, how, hbel⟩ := hrel
    have hsz := hbel.1.size
    obtain ⟨g2, cap2, rfl, hg2⟩ := own_form how (by omega)
    have hfo := HF.out
    have HBEL := Lib.hid hbel
    have HOW := Lib.hid how
    rcases Nat.eq_zero_or_pos m with hm | hm
    · subst hm
      obtain rfl : a = n := by omega
      clear hbel how hfo ham hda
      go_wp2
      go_ret
      exact ⟨_, rfl, HOW.out, HBEL.out⟩
    · have hdv : d ∣ a := hda.resolve_right (by omega)
      have HDV := Lib.hid hdv
      have HAM := Lib.hid ham
      have hml := RdV.own how
      by_cases hlast : m ≤ a + d
      · have hA : (f : Int) + (m : Int) ≤ (o.length : Int) + (a : Int) := by omega
        have hp := RdV.sliced hml f (f + m) (f + m) (by omega) (by omega) (by omega) (by omega)
        have hpl : (((bv (Lz.back a d o)).drop f).take ((f + m) - f)).length = m := by rw [List.length_take, List.length_drop, bv_length, Lz.back_len]; omega
        have hpe : bv (Lz.back a d o) ++ ((bv (Lz.back a d o)).drop f).take ((f + m) - f) = bv (Lz.back n d o) := by
          have hbp := Lz.back_piece hd hdo a m hdv hlast
          rw [show o.length - d = f from by omega] at hbp
          rw [show (f + m) - f = m from by omega]
          rw [show bv (Lz.back a d o) ++ ((bv (Lz.back a d o)).drop f).take m = bv (Lz.back a d o ++ ((Lz.back a d o).drop f).take m) from by simp [bv]]
          congr 1
          rw [← HAM.out]; exact hbp
        unfold Go.sliced at hp
        rw [if_neg (by omega), show (some (⟨g2, 0, none⟩ : Addr)).map (·.add (f * 1)) = some ⟨g2, f, none⟩ from by simp [Addr.add]; omega] at hp
        have hv9 : ∀ q : Nat, q = (f + m) - f → RdV wr wr.heap.size (.slice (some ⟨g2, f, none⟩) q q) (((bv (Lz.back a d o)).drop f).take ((f + m) - f)) := fun q hq => by subst hq; exact hp
        have h1c : ∀ u ∈ ((bv (Lz.back a d o)).drop f).take ((f + m) - f), u.oneCell' = true := fun u hu => bv_one _ u (List.mem_of_mem_drop (List.mem_of_mem_take hu))
        have hx5 : (o.length + a + m) * 1 ≤ 140737488355328 := by omega
        have HX5 := Lib.hid hx5
        have HP := Lib.hid hv9
        have HPL := Lib.hid hpl
        have HPE := Lib.hid hpe
        have H1 := Lib.hid h1c
        have HFO := Lib.hid hfo
        clear hbel how hfo ham hda hp hdv hpl hpe h1c hml hv9 hlast hx5
        go_wp2_with (at_builtin; refine wpList_append_rd _ rfl _ _ 22 rfl base 5 (.int .u8 0) 1 Try.underlying22 Try.inf5 rfl _ _ _ (by rfl) HOW.out _ (by rfl) _ _ (HP.out (f + m - f) rfl) H1.out (by rw [HPL.out]; exact HX5.out) (by omega) (by omega) ?_; intro v2 w2 ho2 hg2 hv2; have hb2 := HBEL.out.next hg2 hv2)
        have hfo := HFO.out
        go_roundw
        case rel => exact ⟨n, 0, by omega, Or.inr rfl, by go_num, by have h := ho2; rw [HPE.out, HPL.out, Nat.add_assoc, HAM.out] at h; exact h, hb2⟩
        case measure => simp [intOf]; omega
      · have hA : ¬ ((f : Int) + (m : Int) ≤ (o.length : Int) + (a : Int)) := by omega
        have hm2 : (f : Int) + (m : Int) ≤ 2199023255552 := by omega
        have hA2 : (o.length : Int) + (a : Int) < (f : Int) + (m : Int) := by omega
        have hp := RdV.sliced hml f (o.length + a) (o.length + a) (by omega) (by omega) (by omega) (by omega)
        have hpl : (((bv (Lz.back a d o)).drop f).take ((o.length + a) - f)).length = (a + d) := by rw [List.length_take, List.length_drop, bv_length, Lz.back_len]; omega
        have hpe : bv (Lz.back a d o) ++ ((bv (Lz.back a d o)).drop f).take ((o.length + a) - f) = bv (Lz.back (a + (a + d)) d o) := by
          have hbp := Lz.back_piece hd hdo a (a + d) hdv (Nat.le_refl _)
          rw [show o.length - d = f from by omega] at hbp
          rw [show (o.length + a) - f = (a + d) from by omega]
          rw [show bv (Lz.back a d o) ++ ((bv (Lz.back a d o)).drop f).take (a + d) = bv (Lz.back a d o ++ ((Lz.back a d o).drop f).take (a + d)) from by simp [bv]]
          congr 1
          (try exact hbp)
        unfold Go.sliced at hp
        rw [if_neg (by omega), show (some (⟨g2, 0, none⟩ : Addr)).map (·.add (f * 1)) = some ⟨g2, f, none⟩ from by simp [Addr.add]; omega] at hp
        have hv9 : ∀ q : Nat, q = (o.length + a) - f → RdV wr wr.heap.size (.slice (some ⟨g2, f, none⟩) q q) (((bv (Lz.back a d o)).drop f).take ((o.length + a) - f)) := fun q hq => by subst hq; exact hp
        have h1c : ∀ u ∈ ((bv (Lz.back a d o)).drop f).take ((o.length + a) - f), u.oneCell' = true := fun u hu => bv_one _ u (List.mem_of_mem_drop (List.mem_of_mem_take hu))
        have hx5 : (o.length + a + (a + d)) * 1 ≤ 140737488355328 := by omega
        have HX5 := Lib.hid hx5
        have HP := Lib.hid hv9
        have HPL := Lib.hid hpl
        have HPE := Lib.hid hpe
        have H1 := Lib.hid h1c
        have HFO := Lib.hid hfo
        clear hbel how hfo ham hda hp hdv hpl hpe h1c hml hv9 hlast hx5
        go_wp2_with (at_builtin; refine wpList_append_rd _ rfl _ _ 22 rfl base 5 (.int .u8 0) 1 Try.underlying22 Try.inf5 rfl _ _ _ (by rfl) HOW.out _ (by rfl) _ _ (HP.out (o.length + a - f) rfl) H1.out (by rw [HPL.out]; exact HX5.out) (by omega) (by omega) ?_; intro v2 w2 ho2 hg2 hv2; have hb2 := HBEL.out.next hg2 hv2)
        have hfo := HFO.out
        go_roundw
        case rel => exact ⟨a + (a + d), m - (a + d), by have := HAM.out; omega, Or.inl (by have h := HDV.out; exact Nat.dvd_add h (Nat.dvd_add h (Nat.dvd_refl d))), by (congr 1; omega), by have h := ho2; rw [HPE.out, HPL.out, Nat.add_assoc] at h; exact h, hb2⟩
        case measure => simp [intOf]; omega

set_option maxRecDepth 100000 in
theorem litU (base k room : Nat) (hroom : room ≤ 1099511627776) : LitC 15 (.pointer (some ⟨k, 0, none⟩)) base (OBox base k) room Try.prog := by
  intro w1 o n v p hB ⟨u, h1, h2, h3, h4⟩ hr hlen
  have c1 := h1.cell
  have f1 := h1.free
  have HH := Lib.hid h2
  have H1 := Lib.hid h1
  have H3 := Lib.hid h3
  have HR := Lib.hid hr
  clear h1 h2 h3 hr
  go_enter Try.func15, Try.ntmps15
  go_wp2_with (at_builtin; refine wpList_append_rd _ rfl _ _ 22 rfl base 5 (.int .u8 0) 1 Try.underlying22 Try.inf5 rfl _ _ _ (by rfl) HH.out _ (by rfl) _ _ HR.out (bv_one p) (by rw [bv_length]; omega) (by omega) (by omega) ?_; intro v2 w2 ho2 hg2 hv2; rw [← bv_append, bv_length, ← List.length_append] at ho2; obtain ⟨A2, cc2, hvv2, _, _, _⟩ := id (RdV.own ho2); rw [bv_length, List.length_append] at hvv2; have hne : v2.ownBlock ≠ some k := (by rcases hv2 with h | h; (rw [h]; exact H3.out); (rw [h]; have := H1.out.lt; intro e; injection e with e; omega)); have o2 : One w2 k u 22 := (hg2.block k H1.out.lt (fun e => H3.out e.symm)).trans H1.out; have c2 := o2.cell; have f2 := o2.free; have HW2 := Lib.hid (show One (w2.setCell ⟨k, 0, none⟩ v2) k v2 22 from o2.set v2); have HO2 := Lib.hid (own_setCell ho2 k 0 v2 hne); have HB2 := Lib.hid (((Below.refl base w1).grown hg2 hB (fun g hg => (HH.out.lt g hg).1)).setCell (p := ⟨k, 0, none⟩) h4 v2); have HN2 := Lib.hid hne; clear hne hv2 ho2; subst hvv2)
  go_end0
  exact ⟨rfl, ⟨_, HW2.out, HO2.out, HN2.out, h4⟩, HB2.out⟩

set_option maxRecDepth 100000 in
theorem copU (base k room : Nat) (hroom : room ≤ 1099511627776) : CopC 16 (.pointer (some ⟨k, 0, none⟩)) base (OBox base k) room Try.prog := by
  intro w1 o n m d hB ⟨u, h1, h2, h3, h4⟩ hm hd hdo hlen
  have c1 := h1.cell
  have f1 := h1.free
  have ha := again_any base u o m d hd hdo (by omega) w1 hB h2
  have HA := Lib.hid ha
  have HH := Lib.hid h2
  have H1 := Lib.hid h1
  have H3 := Lib.hid h3
  clear h1 h2 h3 ha
  go_enter Try.func16, Try.ntmps16
  go_wp2_with fail
  refine HA.out.mono ?_
  rintro e w2 ⟨v2, rfl, ho2, hon⟩
  rw [← Lz.back_len m d o] at ho2
  obtain ⟨A2, cc2, hvv2, _, _, _⟩ := id (RdV.own ho2)
  rw [bv_length] at hvv2
  have hne : v2.ownBlock ≠ some k := by
    rcases hon.2 with h | ⟨g, h, hg⟩
    · rw [h]; exact H3.out
    · rw [h]; have := H1.out.lt; intro e; injection e with e; omega
  have o2 : One w2 k u 22 := (hon.1.block k H1.out.lt (fun e => H3.out e.symm)).trans H1.out
  have c2 := o2.cell
  have f2 := o2.free
  have HW2 := Lib.hid (show One (w2.setCell ⟨k, 0, none⟩ v2) k v2 22 from o2.set v2)
  have HO2 := Lib.hid (own_setCell ho2 k 0 v2 hne)
  have HB2 := Lib.hid (((Below.refl base w1).grown hon.1 hB (fun g hg => (HH.out.lt g hg).1)).setCell (p := ⟨k, 0, none⟩) h4 v2)
  have HN2 := Lib.hid hne
  clear hne hon ho2
  subst hvv2
  go_wp2
  go_end0
  exact ⟨rfl, ⟨_, HW2.out, HO2.out, HN2.out, h4⟩, HB2.out⟩

set_option maxRecDepth 100000 in
theorem litC (base k room : Nat) (f : List UInt8 → Nat → Nat) (hk : base ≤ k) (hf : ∀ o n p, o.length + p.length ≤ room → f (o ++ p) (n + p.length) = f o n + p.length ∧ f o n + p.length ≤ 1099511627776) : LitC 19 (.pointer (some ⟨k, 0, none⟩)) base (NBox k f) room Try.prog := by
  intro w1 o n v p hB h1 hr hlen
  unfold NBox at h1
  obtain ⟨hf1, hf2⟩ := hf o n p hlen
  have c1 := h1.cell
  have f1 := h1.free
  have HW2 := Lib.hid (h1.set (.int .i64 ((f (o ++ p) (n + p.length) : Nat) : Int)))
  rw [hf1, Int.natCast_add] at HW2
  have HB2 := Lib.hid ((Below.refl base w1).setCell (p := ⟨k, 0, none⟩) hk (.int .i64 ((f o n : Nat) + (p.length : Nat) : Int)))
  have HF := Lib.hid hf1
  obtain ⟨A, c, rfl, hc1, hc2, _⟩ := id hr
  rw [bv_length] at hc1 ⊢
  clear h1 hr hf1 hf hc1 hc2
  generalize f o n = x at *
  go_enter Try.func19, Try.ntmps19
  go_wp2
  go_end0
  exact ⟨rfl, by unfold NBox; rw [HF.out, Int.natCast_add]; exact HW2.out, HB2.out⟩


set_option maxRecDepth 100000 in
theorem copC (base k room : Nat) (f : List UInt8 → Nat → Nat) (hk : base ≤ k) (hf : ∀ o n m d, o.length + m ≤ room → f (Lz.back m d o) n = f o n + m ∧ f o n + m ≤ 1099511627776) : CopC 20 (.pointer (some ⟨k, 0, none⟩)) base (NBox k f) room Try.prog := by
  intro w1 o n m d hB h1 hm hd hdo hlen
  unfold NBox at h1
  obtain ⟨hf1, hf2⟩ := hf o n m d hlen
  have c1 := h1.cell
  have f1 := h1.free
  have HW2 := Lib.hid (h1.set (.int .i64 ((f (Lz.back m d o) n : Nat) : Int)))
  rw [hf1, Int.natCast_add] at HW2
  have HB2 := Lib.hid ((Below.refl base w1).setCell (p := ⟨k, 0, none⟩) hk (.int .i64 ((f o n : Nat) + (m : Nat) : Int)))
  have HF := Lib.hid hf1
  clear h1 hf1 hf
  generalize f o n = x at *
  go_enter Try.func20, Try.ntmps20
  go_wp2
  go_end0
  exact ⟨rfl, by unfold NBox; rw [HF.out, Int.natCast_add]; exact HW2.out, HB2.out⟩


/-- two cells: how many bytes by literals, how many by copies -/
def PBox (k1 k2 : Nat) (o : List UInt8) (n : Nat) (w : World) : Prop := One w k1 (.int .i64 (n : Nat)) 3 ∧ One w k2 (.int .i64 ((o.length - n : Nat) : Int)) 3 ∧ n ≤ o.length
set_option maxRecDepth 100000 in
theorem litP (base k1 k2 room : Nat) (hk : base ≤ k1) (hkk : k1 ≠ k2) (hroom : room ≤ 1099511627776) : LitC 21 (.pointer (some ⟨k1, 0, none⟩)) base (PBox k1 k2) room Try.prog := by
  intro w1 o n v p hB ⟨h1, h2, h3⟩ hr hlen
  have c1 := h1.cell
  have f1 := h1.free
  have HW2 := Lib.hid (h1.set (.int .i64 ((n + p.length : Nat) : Int)))
  have HO2 := Lib.hid (h2.other k1 0 hkk (.int .i64 ((n : Nat) + (p.length : Nat) : Int)))
  have HB2 := Lib.hid ((Below.refl base w1).setCell (p := ⟨k1, 0, none⟩) hk (.int .i64 ((n : Nat) + (p.length : Nat) : Int)))
  rw [Int.natCast_add] at HW2
  have he : (o ++ p).length - (n + p.length) = o.length - n := by rw [List.length_append]; omega
  have HE := Lib.hid he
  obtain ⟨A, c, rfl, hc1, hc2, _⟩ := id hr
  rw [bv_length] at hc1 ⊢
  clear h1 h2 hr he hc1 hc2
  go_enter Try.func21, Try.ntmps21
  go_wp2
  go_end0
  exact ⟨rfl, ⟨by rw [Int.natCast_add]; exact HW2.out, by rw [HE.out]; exact HO2.out, by rw [List.length_append]; omega⟩, HB2.out⟩
set_option maxRecDepth 100000 in
theorem copP (base k1 k2 room : Nat) (hk : base ≤ k2) (hkk : k2 ≠ k1) (hroom : room ≤ 1099511627776) : CopC 22 (.pointer (some ⟨k2, 0, none⟩)) base (PBox k1 k2) room Try.prog := by
  intro w1 o n m d hB ⟨h1, h2, h3⟩ hm hd hdo hlen
  have c1 := h2.cell
  have f1 := h2.free
  have he : (Lz.back m d o).length - n = o.length - n + m := by rw [Lz.back_len]; omega
  have HE := Lib.hid he
  have hx : o.length - n ≤ 1099511627776 := by omega
  have hx2 : o.length - n + m ≤ 1099511627776 := by omega
  have H3 := Lib.hid h3
  generalize o.length - n = x at *
  have HW2 := Lib.hid (h2.set (.int .i64 ((x + m : Nat) : Int)))
  have HO2 := Lib.hid (h1.other k2 0 hkk (.int .i64 ((x : Nat) + (m : Nat) : Int)))
  have HB2 := Lib.hid ((Below.refl base w1).setCell (p := ⟨k2, 0, none⟩) hk (.int .i64 ((x : Nat) + (m : Nat) : Int)))
  rw [Int.natCast_add] at HW2
  clear h1 h2 he h3
  go_enter Try.func22, Try.ntmps22
  go_wp2
  go_end0
  exact ⟨rfl, ⟨HO2.out, by rw [HE.out, Int.natCast_add]; exact HW2.out, by have := H3.out; rw [Lz.back_len]; omega⟩, HB2.out⟩
end Go.Proofs.Ytkgmelhigjjbbaa
