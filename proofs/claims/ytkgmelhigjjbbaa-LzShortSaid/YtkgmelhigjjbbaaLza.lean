/- lz.layLiteral, lz.layCopy, lz.varSize, lz.alike: tokens laid, bytes counted. Conditions: rows are shorter than 2^32. -/
import Derived.Test.YtkgmelhigjjbbaaLzc
import Derived.Test.YtkgmelhigjjbbaaLzt
import Derived.Test.YtkgmelhigjjbbaaLog
namespace Go.Proofs.Ytkgmelhigjjbbaa
open Go.ChangeShapes Go.WideShapes Go.ChangeAt Go.RowKit
set_option linter.unusedSimpArgs false
set_option linter.unusedVariables false
theorem belowN {B : Nat} {a b : World} (h : Below B a b) (n : Nat) : Below B a (b.drewN n) := ⟨h.os, h.tape, h.output, h.size, h.block⟩
theorem own_below {w w' : World} {base : Nat} {e : TypeId} {v : Value} {n : Nat} {xs : List Value} (h : w.ownsRow base e 1 v n xs) (hb : Below w.heap.size w w') : w'.ownsRow base e 1 v n xs := by
  refine ⟨h.1, ?_⟩
  rcases h.2 with h0 | ⟨g, cap, cur, hv, hg, hh, r⟩
  · exact Or.inl h0
  · have hlt : g < w.heap.size := by
      rcases Nat.lt_or_ge g w.heap.size with h1 | h1
      · exact h1
      · rw [Array.getElem?_eq_none h1] at hh; cases hh
    exact Or.inr ⟨g, cap, cur, hv, hg, (hb.block g hlt).trans hh, r⟩
theorem Only.via {w w1 w2 : World} {v v' : Value} (hb : Below w.heap.size w w1) (hg : w1.grownBy w2 v.ownBlock) (hv : v'.ownBlock = v.ownBlock ∨ v'.ownBlock = some w1.heap.size) : Only w w2 v v' := by
  refine ⟨⟨hg.os.trans hb.os, hg.tape.trans hb.tape, hg.output.trans hb.output, Nat.le_trans hb.size hg.size, fun k hk hne => ?_⟩, ?_⟩
  · rw [hg.block k (Nat.lt_of_lt_of_le hk hb.size) hne, hb.block k hk]
  · rcases hv with h | h
    · exact .inl h
    · exact .inr ⟨_, h, hb.size⟩
theorem Only.trans {w w1 w2 : World} {v v1 v2 : Value} (h : Only w w1 v v1) (k : Only w1 w2 v1 v2) : Only w w2 v v2 := by
  obtain ⟨h1, h2⟩ := h
  obtain ⟨k1, k2⟩ := k
  have hs1 := h1.size
  have hs2 := k1.size
  refine ⟨⟨k1.os.trans h1.os, k1.tape.trans h1.tape, k1.output.trans h1.output, by omega, fun j hj hne => ?_⟩, ?_⟩
  · rw [k1.block j (by omega) ?_, h1.block j hj hne]
    rcases h2 with h2 | ⟨g, h2, h3⟩
    · rw [h2]; exact hne
    · rw [h2]; intro e; injection e with e; omega
  · rcases k2 with k2 | ⟨g, k2, k3⟩
    · rcases h2 with h2 | ⟨g, h2, h3⟩
      · exact .inl (k2.trans h2)
      · exact .inr ⟨g, k2.trans h2, h3⟩
    · exact .inr ⟨g, k2, by omega⟩
/-- lays more bytes behind a row of the call's own -/
def Lays (base : Nat) (p : List UInt8) (v : Value) (w : World) (e : Ending) (w' : World) : Prop := ∃ r, e = .returned r ∧ w'.ownsRow base 5 1 r p.length (bv p) ∧ Only w w' v r
set_option maxRecDepth 100000 in
set_option maxHeartbeats 1000000 in
theorem layLiteral_any (base : Nat) (v : Value) (p : List UInt8) (hp : p.length ≤ 1099511627776) (vq : Value) (q : List UInt8) (hq : q.length < 4294967296) (w : World) (hbase : base ≤ w.heap.size) (hown : w.ownsRow base 5 1 v p.length (bv p)) (hr : RdV w base vq (bv q)) :
    Calls Try.prog 27 #[v, vq] w (Lays base (p ++ Lz.litT q) v w) := by
  obtain ⟨A, c, rfl, hc1, hc2, _⟩ := id hr
  rw [bv_length] at hc1 hr ⊢
  unfold maxLen at hc2
  by_cases h0 : q = []
  · have hf : Lays base (p ++ Lz.litT q) v w (.returned v) w := ⟨v, rfl, by simpa [Lz.litT, h0] using hown, Only.refl _ _⟩
    have HF := Lib.hid hf
    have hl : q.length = 0 := by rw [h0]; rfl
    clear hf hr hown h0
    go_enter Try.func27, Try.ntmps27
    go_wp2
    go_ret
    exact HF.out
  · have hl : 0 < q.length := List.length_pos_iff.2 h0
    have t0 : ((q.length : Int) == 0) = false := by rw [beq_eq_false_iff_ne]; omega
    have hv := var_any (.slice none 0 0) [] (2 * q.length) (by omega) (by simp) w w.heap.size (Nat.le_refl _) (RdV.nil_ _ _)
    rw [List.nil_append] at hv
    have hshl : ((2 * q.length : Nat) : Int) = (q.length : Int) * 2 := by omega
    rw [hshl] at hv
    have HV := Lib.hid hv
    have HO := Lib.hid hown
    have HR := Lib.hid hr
    have HE := Lib.hid (show p ++ Lz.litT q = p ++ Pu.varL (2 * q.length) ++ q by unfold Lz.litT; rw [if_neg h0, List.append_assoc])
    have hvl := Pu.varL_length (2 * q.length)
    clear hv hown hr h0 hshl
    go_enter Try.func27, Try.ntmps27
    go_wp2_with fail
    refine HV.out.mono ?_
    rintro e w1 ⟨r1, rfl, hr1, hb1⟩
    have hs1 := hb1.size
    have HO1 := Lib.hid (own_below HO.out hb1)
    have hx1 : (p.length + (bv (Pu.varL (2 * q.length))).length) * 1 ≤ 140737488355328 := by rw [bv_length]; omega
    have hx2 : (p.length + (bv (Pu.varL (2 * q.length))).length + (bv q).length) * 1 ≤ 140737488355328 := by rw [bv_length, bv_length]; omega
    have HX1 := Lib.hid hx1
    have HX2 := Lib.hid hx2
    have HR1 := Lib.hid hr1
    have HB1 := Lib.hid hb1
    clear hr1 hb1 hx1 hx2
    go_wp2_with (first
      | (at_builtin; refine wpList_append_rd _ rfl (.tmp 9) (.tmp 14) 22 rfl base 5 (.int .u8 0) 1 Try.underlying22 Try.inf5 rfl _ _ _ (by rfl) HO1.out _ (by rfl) _ _ HR1.out (bv_one _) HX1.out (by omega) (by omega) ?_; intro v2 w2 ho2 hg2 hv2; have hs2 := hg2.size; have HO2 := Lib.hid ho2; have HON := Lib.hid (Only.via HB1.out hg2 hv2); have HR2 := Lib.hid ((HR.out.below' HB1.out hbase).grown hg2 (by omega) (fun g hg => (HO1.out.lt g hg).1)); clear ho2 hg2 hv2)
      | (at_builtin; refine wpList_append_rd _ rfl (.tmp 16) (.tmp 17) 22 rfl base 5 (.int .u8 0) 1 Try.underlying22 Try.inf5 rfl _ _ _ (by rfl) HO2.out _ (by rfl) _ _ HR2.out (bv_one _) HX2.out (by omega) (by omega) ?_; intro v3 w3 ho3 hg3 hv3; have HO3 := Lib.hid ho3; have HO9 := Lib.hid (HON.out.next hg3 hv3); clear ho3 hg3 hv3))
    go_ret
    exact ⟨_, rfl, by rw [HE.out, List.length_append, List.length_append, bv_append, bv_append]; have h := HO3.out; rw [bv_length, bv_length] at h; exact h, HO9.out⟩
theorem or_one (n : Nat) (h : 2 * n + 1 < 18446744073709551616) : bits .or .u64 ((n : Int) * 2) 1 = 2 * (n : Int) + 1 := by
  have h1 := Go.u64_or ((n : Int) * 2) 1 (by omega) (by omega) (by omega) (by omega)
  rw [h1, show ((n : Int) * 2).toNat = 2 ^ 1 * n from by omega, show (1 : Int).toNat = 1 from rfl, ← Nat.two_pow_add_eq_or_of_lt (by decide) n]
  omega
set_option maxRecDepth 100000 in
set_option maxHeartbeats 1000000 in
theorem layCopy_any (base : Nat) (v : Value) (p : List UInt8) (hp : p.length ≤ 1099511627776) (n d : Nat) (hn : n < 4294967296) (hd : d < 4294967296) (w : World) (hbase : base ≤ w.heap.size) (hown : w.ownsRow base 5 1 v p.length (bv p)) :
    Calls Try.prog 26 #[v, .int .i64 n, .int .i64 d] w (Lays base (p ++ Lz.copT n d) v w) := by
  have hv := var_any (.slice none 0 0) [] (2 * n + 1) (by omega) (by simp) w w.heap.size (Nat.le_refl _) (RdV.nil_ _ _)
  rw [List.nil_append, show ((2 * n + 1 : Nat) : Int) = 2 * (n : Int) + 1 from by omega] at hv
  have hor := or_one n (by omega)
  have HV := Lib.hid hv
  have HO := Lib.hid hown
  have hvl := Pu.varL_length (2 * n + 1)
  have hdl := Pu.varL_length d
  have hv2 := fun w' => var_any (.slice none 0 0) [] d (by omega) (by simp) w' w'.heap.size (Nat.le_refl _) (RdV.nil_ _ _)
  rw [List.nil_append] at hv2
  have HV2 := Lib.hid hv2
  clear hv hv2 hown
  go_enter Try.func26, Try.ntmps26
  go_wp2_with fail
  refine HV.out.mono ?_
  rintro e w1 ⟨r1, rfl, hr1, hb1⟩
  have hs1 := hb1.size
  have HO1 := Lib.hid (own_below HO.out hb1)
  have hx1 : (p.length + (bv (Pu.varL (2 * n + 1))).length) * 1 ≤ 140737488355328 := by rw [bv_length]; omega
  have hx2 : (p.length + (bv (Pu.varL (2 * n + 1))).length + (bv (Pu.varL d)).length) * 1 ≤ 140737488355328 := by rw [bv_length, bv_length]; omega
  have HX1 := Lib.hid hx1
  have HX2 := Lib.hid hx2
  have HR1 := Lib.hid hr1
  have HB1 := Lib.hid hb1
  clear hr1 hb1 hx1 hx2
  go_wp2_with (at_builtin; refine wpList_append_rd _ rfl (.tmp 7) (.tmp 12) 22 rfl base 5 (.int .u8 0) 1 Try.underlying22 Try.inf5 rfl _ _ _ (by rfl) HO1.out _ (by rfl) _ _ HR1.out (bv_one _) HX1.out (by omega) (by omega) ?_; intro v2 w2 ho2 hg2 hv2; have hs2 := hg2.size; have HO2 := Lib.hid ho2; have HON := Lib.hid (Only.via HB1.out hg2 hv2); clear ho2 hg2 hv2)
  refine (HV2.out w2).mono ?_
  rintro e w3 ⟨r3, rfl, hr3, hb3⟩
  have hs3 := hb3.size
  have HO3 := Lib.hid (own_below HO2.out hb3)
  have HR3 := Lib.hid hr3
  have HB3 := Lib.hid hb3
  clear hr3 hb3
  go_wp2_with (at_builtin; refine wpList_append_rd _ rfl (.tmp 14) (.tmp 17) 22 rfl base 5 (.int .u8 0) 1 Try.underlying22 Try.inf5 rfl _ _ _ (by rfl) HO3.out _ (by rfl) _ _ HR3.out (bv_one _) HX2.out (by omega) (by omega) ?_; intro v4 w4 ho4 hg4 hv4; have HO4 := Lib.hid ho4; have HO9 := Lib.hid (HON.out.trans (Only.via HB3.out hg4 hv4)); clear ho4 hg4 hv4)
  go_ret
  exact ⟨_, rfl, by unfold Lz.copT; rw [← List.append_assoc, List.length_append, List.length_append, bv_append, bv_append]; have h := HO4.out; rw [bv_length, bv_length] at h; exact h, HO9.out⟩
set_option maxRecDepth 100000 in
theorem varSize_any (v : Nat) (hv : v < 9223372036854775808) (w : World) : Calls Try.prog 32 #[.int .i64 v] w fun e w' => (∃ s : Nat, e = .returned (.int .i64 s) ∧ 1 ≤ s ∧ s ≤ 10 ∧ (v < 131072 → s ≤ 3)) ∧ w = w' := by
  have hl := log_any v (by omega) w
  have hn := Pu.nbits_le v 64 (by omega)
  have h17 : v < 131072 → Pu.nbits v ≤ 17 := fun h => Pu.nbits_le v 17 h
  have HL := Lib.hid hl
  have H17 := Lib.hid h17
  clear hl h17
  generalize Pu.nbits v = b at *
  obtain ⟨q, hq⟩ : ∃ q, (b + 6) / 7 = q := ⟨_, rfl⟩
  have hqi : ((b : Int) + 6) / 7 = (q : Int) := by omega
  have hq2 : q ≤ 10 := by omega
  have HQ3 : Hid (v < 131072 → q ≤ 3) := fun h => by have := H17.out h; omega
  clear hq
  by_cases h1 : 1 ≤ q
  · go_enter Try.func32, Try.ntmps32
    go_wp2_with fail
    refine HL.out.mono ?_
    rintro e w1 ⟨rfl, rfl⟩
    go_wp2
    all_goals go_ret
    all_goals first
      | exact ⟨⟨q, rfl, h1, hq2, HQ3.out⟩, rfl⟩
      | exact ⟨⟨1, by rfl, by omega, by omega, by omega⟩, rfl⟩
  · obtain rfl : q = 0 := by omega
    go_enter Try.func32, Try.ntmps32
    go_wp2_with fail
    refine HL.out.mono ?_
    rintro e w1 ⟨rfl, rfl⟩
    go_wp2
    go_ret
    exact ⟨⟨1, by rfl, by omega, by omega, by omega⟩, rfl⟩

set_option maxRecDepth 100000 in
set_option maxHeartbeats 2000000 in
theorem alike_any (vb : Value) (l : List UInt8) (hl : l.length < 4294967296) (fr at_ : Nat) (hfa : fr < at_) (hat : at_ ≤ l.length) (w : World) (B : Nat) (hB : B ≤ w.heap.size) (hr : RdV w B vb (bv l)) :
    Calls Try.prog 31 #[vb, .int .i64 fr, .int .i64 at_] w fun e w' => ∃ n : Nat, e = .returned (.int .i64 n) ∧ at_ + n ≤ l.length ∧ (∀ i, i < n → l[fr + i]? = l[at_ + i]?) ∧ (at_ + n < l.length → l[fr + n]? ≠ l[at_ + n]?) ∧ Below w.heap.size w w' := by
  obtain ⟨A, c, rfl, hc1, hc2, hc3⟩ := id hr
  rw [bv_length] at hc1 hc3 hr ⊢
  unfold maxLen at hc2
  clear hc3
  have HR := Lib.hid hr
  clear hr
  go_enter Try.func31, Try.ntmps31
  go_wp2_with fail
  go_loopw [7] (fun i wr => ∃ k : Nat, i = .int .i64 k ∧ at_ + k ≤ l.length ∧ Hid (∀ j, j < k → l[fr + j]? = l[at_ + j]?) ∧ Below w.heap.size w wr) (fun i _ => l.length - (intOf i).toNat)
  case atStart => exact ⟨0, by rfl, by omega, (fun j hj => by omega), Below.refl _ _⟩
  case round =>
    obtain ⟨k, rfl, hal, hk, hbel⟩ := hrel
    have HBEL := Lib.hid hbel
    clear hbel
    by_cases hlt : at_ + k < l.length
    · have h1 : fr + k < l.length := by omega
      have hr := HR.out.below' HBEL.out hB
      obtain ⟨b, off, rfl, hbB, hcell⟩ := hr.get (j := fr + k) (u := .int .u8 (l[fr + k].toNat : Int)) (by rw [bv_get, List.getElem?_eq_getElem h1]; rfl)
      obtain ⟨b', off', hbo, hbB', hcell'⟩ := hr.get (j := at_ + k) (u := .int .u8 (l[at_ + k].toNat : Int)) (by rw [bv_get, List.getElem?_eq_getElem hlt]; rfl)
      injection hbo with hbo
      injection hbo with hbo1 hbo2 _
      subst hbo1 hbo2
      have hcd : wr.drew.cell? ⟨b, off + (fr + k), none⟩ = some (.int .u8 (l[fr + k].toNat : Int)) := hcell
      have hcd' : wr.drew.cell? ⟨b, off + (at_ + k), none⟩ = some (.int .u8 (l[at_ + k].toNat : Int)) := hcell'
      have hy := (l[fr + k]).toNat_lt
      have hy' := (l[at_ + k]).toNat_lt
      have heq : l[fr + k].toNat = l[at_ + k].toNat → l[fr + k]? = l[at_ + k]? := fun h => by rw [List.getElem?_eq_getElem h1, List.getElem?_eq_getElem hlt, UInt8.toNat_inj.1 h]
      have hneq : l[fr + k]? = l[at_ + k]? → l[fr + k].toNat = l[at_ + k].toNat := fun h => by rw [List.getElem?_eq_getElem h1, List.getElem?_eq_getElem hlt] at h; injection h with h; rw [h]
      have HEQ := Lib.hid heq
      have HNEQ := Lib.hid hneq
      clear heq hneq hr
      generalize (l[fr + k]).toNat = y at *
      generalize (l[at_ + k]).toNat = y' at *
      have hI : (at_ : Int) + (k : Int) < (l.length : Int) := by omega
      by_cases hyy : y = y'
      · subst hyy
        go_wp2_with fail
        go_quiet (fail)
        go_wp2
        go_roundw
        case rel => exact ⟨k + 1, by go_num, by omega, (fun j hj => by rcases Nat.lt_or_ge j k with h | h; exact hk.out j h; (obtain rfl : j = k := by omega); exact HEQ.out trivial), belowN HBEL.out _⟩
        case measure => simp [intOf]; omega
      · have t1 : ((y : Int) == (y' : Int)) = false := by rw [beq_eq_false_iff_ne]; omega
        go_wp2_with fail
        go_quiet (fail)
        go_wp2
        go_ret
        exact ⟨k, rfl, hal, hk.out, (fun _ e => hyy (HNEQ.out e)), belowN HBEL.out _⟩
    · have hI : decide ((at_ : Int) + (k : Int) < (l.length : Int)) = false := by rw [decide_eq_false_iff_not]; omega
      go_wp2_with fail
      go_quiet (fail)
      go_wp2
      go_ret
      exact ⟨k, rfl, hal, hk.out, (fun hh => absurd hh hlt), belowN HBEL.out _⟩
end Go.Proofs.Ytkgmelhigjjbbaa
