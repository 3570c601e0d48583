/- Contracts for the law ProcsPlays: rows compared, sizes that may not be; counting bits. Conditions: none. -/
import Derived.Test.YtlbodandidopfaaPro
namespace Go.Proofs.Ytlbodandidopfaa
open Go.ChangeShapes Go.WideShapes Go.ChangeAt Go.RowKit
set_option linter.unusedSimpArgs false
set_option linter.unusedVariables false
theorem pnew_no (z : Int) (h : z < 1 ∨ 64 < z) (w : World) : Calls Try.prog 50 #[.int .i64 z] w fun e w' => e = .returned (.tuple #[.pointer none, .int .i64 1]) ∧ w = w' := by
  rcases h with h | h
  · go_enter Try.func50, Try.ntmps50
    go_wp2
    go_ret2
    exact ⟨rfl, rfl⟩
  · go_enter Try.func50, Try.ntmps50
    go_wp2
    go_ret2
    exact ⟨rfl, rfl⟩
theorem rnew_no (z : Int) (h : z < 1 ∨ 64 < z) (w : World) : Calls Try.prog 51 #[.int .i64 z] w fun e w' => e = .returned (.tuple #[.pointer none, .int .i64 1]) ∧ w = w' := by
  rcases h with h | h
  · go_enter Try.func51, Try.ntmps51
    go_wp2
    go_ret2
    exact ⟨rfl, rfl⟩
  · go_enter Try.func51, Try.ntmps51
    go_wp2
    go_ret2
    exact ⟨rfl, rfl⟩
set_option maxRecDepth 100000 in
set_option maxHeartbeats 4000000 in
theorem ints_any (w : World) (B : Nat) (v u : Value) (zs : List Int) (hv : RdV w B v (iv .i64 zs)) (hu : RdV w B u (iv .i64 zs)) (hl : zs.length ≤ 1000000) :
    Calls Try.prog 58 #[v, u] w fun e w' => e = .returned (.bool true) ∧ ∃ q, w' = w.drewN q := by
  have hvv := hv
  have huu := hu
  obtain ⟨A, c, rfl, hc1, hc2, hc3⟩ := hv
  obtain ⟨A2, c2, rfl, hd1, hd2, hd3⟩ := hu
  simp only [iv_length] at hc1 hc3 hd1 hd3 hvv huu ⊢
  clear hc3 hd3
  unfold maxLen at hc2 hd2
  have HV := Lib.hid hvv
  have HU := Lib.hid huu
  clear hvv huu
  go_enter Try.func58, Try.ntmps58
  go_wp2_with fail
  go_loopw [5] (fun i wr => ∃ j q : Nat, j ≤ zs.length ∧ i = .int .i64 j ∧ wr = w.drewN q) (fun i _ => zs.length - (intOf i).toNat)
  case atStart => exact ⟨0, 0, by omega, rfl, rfl⟩
  case round =>
    obtain ⟨j, q, hj, rfl, rfl⟩ := hrel
    by_cases hlt : j < zs.length
    · have hget : (iv .i64 zs)[j]? = some (.int .i64 zs[j]) := by rw [iv_get, List.getElem?_eq_getElem hlt]; rfl
      obtain ⟨b1, o1, rfl, hb1, k1⟩ := HV.out.get hget
      obtain ⟨b2, o2, rfl, hb2, k2⟩ := HU.out.get hget
      generalize zs[j] = z at *
      clear hget
      go_wp2
      go_quiet (fail)
      go_wp2
      go_roundw
      case rel => exact ⟨j + 1, _, by omega, by go_num, rfl⟩
      case measure => simp [intOf]; omega
    · obtain rfl : j = zs.length := by omega
      go_wp2
      go_ret
      exact ⟨rfl, q, rfl⟩
theorem pop_bits (b : Nat) : ∀ i, (bitsTo b i).length + Pm.pop (b / 2 ^ i) = Pm.pop b
  | 0 => by simp [bitsTo]
  | i + 1 => by
    have ih := pop_bits b i
    rw [Pm.pop_step (b / 2 ^ i), Nat.div_div_eq_div_mul, show 2 ^ i * 2 = 2 ^ (i + 1) from rfl] at ih
    cases ht : Pm.hb b i with
    | true =>
      rw [bitsTo_yes ht, List.length_append]
      rw [Pm.hb_eq] at ht
      have := of_decide_eq_true ht
      simp; omega
    | false =>
      rw [bitsTo_no ht]
      rw [Pm.hb_eq] at ht
      have := of_decide_eq_false ht
      omega
theorem len_pop (n b : Nat) (h : b < 2 ^ n) : (bitsTo b n).length = Pm.pop b := by
  have h1 := pop_bits b n
  rw [Nat.div_eq_of_lt h, Pm.pop_zero] at h1
  omega
theorem bits_same (n b : Nat) (hn : n ≤ 64) (h : b < 2 ^ n) : bitsTo b 64 = bitsTo b n := by
  have h1 := bitsTo_end (Nat.div_eq_of_lt h) (64 - n)
  rwa [show n + (64 - n) = 64 from by omega] at h1
/-- what the law's own closure holds: its four variables, and the row that it is held against -/
structure Cap (w : World) (a k v s : Nat) (n : Nat) (st : Int) (L : List Int) : Prop where
  ok : w.heap[a]? = some (.cells #[.bool true] 4 (0, 0))
  cnt : w.heap[k]? = some (.cells #[.int .i64 n] 3 (0, 0))
  want : ∃ u, w.heap[v]? = some (.cells #[u] 69 (0, 0)) ∧ ∃ C, RdV w C u (iv .i64 L) ∧ C ≤ a ∧ C ≤ k
  stop : w.heap[s]? = some (.cells #[.int .i64 st] 3 (0, 0))
  apart : a ≠ k ∧ a ≠ v ∧ a ≠ s ∧ k ≠ v ∧ k ≠ s ∧ v ≠ s
set_option maxRecDepth 100000 in
set_option maxHeartbeats 4000000 in
theorem law1_any (w : World) (a k v s n : Nat) (st : Int) (L : List Int) (pid : Int) (hC : Cap w a k v s n st L) (hn : L[n]? = some pid) (hl : L.length ≤ 64) (hs0 : -9223372036854775808 ≤ st) (hs1 : st ≤ 9223372036854775807) :
    Calls Try.prog 67 #[.int .i64 pid, .pointer (some ⟨a, 0, none⟩), .pointer (some ⟨k, 0, none⟩), .pointer (some ⟨v, 0, none⟩), .pointer (some ⟨s, 0, none⟩)] w fun e w' => e = .returned (.bool (decide ((n : Int) + 1 ≤ st))) ∧ Cap w' a k v s (n + 1) st L ∧ ∀ B, B ≤ a → B ≤ k → Below B w w' := by
  obtain ⟨h1, h2, ⟨u, h3, C, h5, hCa, hCk⟩, h4, d1, d2, d3, d4, d5, d6⟩ := hC
  have hnl : n < L.length := (List.getElem?_eq_some_iff.1 hn).1
  have h55 := h5
  obtain ⟨A, c, rfl, hc1, hc2, hc3⟩ := h5
  rw [iv_length] at hc1 hc3 h55 h3
  clear hc3
  unfold maxLen at hc2
  obtain ⟨bq, oq, rfl, hbq, hcq⟩ := h55.get (j := n) (u := .int .i64 pid) (by rw [iv_get, hn]; rfl)
  have e1 : w.cell? ⟨a, 0, none⟩ = some (.bool true) := cell_of_row w a 0 _ _ (0, 0) h1
  have e2 : w.cell? ⟨k, 0, none⟩ = some (.int .i64 n) := cell_of_row w k 0 _ _ (0, 0) h2
  have e3 : w.cell? ⟨v, 0, none⟩ = some (.slice (some ⟨bq, oq, none⟩) L.length c) := cell_of_row w v 0 _ _ (0, 0) h3
  have e4 : w.cell? ⟨s, 0, none⟩ = some (.int .i64 st) := cell_of_row w s 0 _ _ (0, 0) h4
  have f1 : w.frozen? ⟨a, 0, none⟩ = false := frozen_of_row w a 0 _ _ h1
  have hw1 : (w.setCell ⟨a, 0, none⟩ (.bool true)).heap[a]? = some (.cells #[.bool true] 4 (0, 0)) := heap_setCell_same w a 0 _ _ _ h1
  have hw2 : (w.setCell ⟨a, 0, none⟩ (.bool true)).heap[k]? = some (.cells #[.int .i64 n] 3 (0, 0)) := (heap_setCell_other w ⟨a, 0, none⟩ k _ (fun e => d1 e.symm)).trans h2
  have g2 : (w.setCell ⟨a, 0, none⟩ (.bool true)).cell? ⟨k, 0, none⟩ = some (.int .i64 n) := cell_of_row _ k 0 _ _ (0, 0) hw2
  have g4 : (w.setCell ⟨a, 0, none⟩ (.bool true)).cell? ⟨s, 0, none⟩ = some (.int .i64 st) := cell_of_row _ s 0 _ _ (0, 0) ((heap_setCell_other w ⟨a, 0, none⟩ s _ (fun e => d3 e.symm)).trans h4)
  have ff2 : (w.setCell ⟨a, 0, none⟩ (.bool true)).frozen? ⟨k, 0, none⟩ = false := frozen_of_row _ k 0 _ _ hw2
  have hx2 : ((w.setCell ⟨a, 0, none⟩ (.bool true)).setCell ⟨k, 0, none⟩ (.int .i64 ((n : Int) + 1))).heap[k]? = some (.cells #[.int .i64 ((n : Int) + 1)] 3 (0, 0)) := heap_setCell_same _ k 0 _ _ _ hw2
  have g5 : ((w.setCell ⟨a, 0, none⟩ (.bool true)).setCell ⟨k, 0, none⟩ (.int .i64 ((n : Int) + 1))).cell? ⟨k, 0, none⟩ = some (.int .i64 ((n : Int) + 1)) := cell_of_row _ k 0 _ _ (0, 0) hx2
  have hx4 : ((w.setCell ⟨a, 0, none⟩ (.bool true)).setCell ⟨k, 0, none⟩ (.int .i64 ((n : Int) + 1))).heap[s]? = some (.cells #[.int .i64 st] 3 (0, 0)) := (heap_setCell_other _ ⟨k, 0, none⟩ s _ (fun e => d5 e.symm)).trans ((heap_setCell_other w ⟨a, 0, none⟩ s _ (fun e => d3 e.symm)).trans h4)
  have g6 : ((w.setCell ⟨a, 0, none⟩ (.bool true)).setCell ⟨k, 0, none⟩ (.int .i64 ((n : Int) + 1))).cell? ⟨s, 0, none⟩ = some (.int .i64 st) := cell_of_row _ s 0 _ _ (0, 0) hx4
  have hB : ∀ B, B ≤ a → B ≤ k → Below B w ((w.setCell ⟨a, 0, none⟩ (.bool true)).setCell ⟨k, 0, none⟩ (.int .i64 ((n : Int) + 1))) := fun B h1 h2 => belowSetAt (belowSetAt (Below.refl B w) h1 0 _) h2 0 _
  have hCap : Cap ((w.setCell ⟨a, 0, none⟩ (.bool true)).setCell ⟨k, 0, none⟩ (.int .i64 ((n : Int) + 1))) a k v s (n + 1) st L :=
    ⟨(heap_setCell_other _ ⟨k, 0, none⟩ a _ d1).trans hw1, by rw [show ((n + 1 : Nat) : Int) = (n : Int) + 1 from by omega]; exact hx2,
      ⟨_, (heap_setCell_other _ ⟨k, 0, none⟩ v _ (fun e => d4 e.symm)).trans ((heap_setCell_other w ⟨a, 0, none⟩ v _ (fun e => d2 e.symm)).trans h3), C, h55.below (hB C hCa hCk), hCa, hCk⟩, hx4, d1, d2, d3, d4, d5, d6⟩
  have HF := Lib.hid (And.intro hCap hB)
  clear hCap hB hx2 hx4 hw1 hw2 h1 h2 h3 h4 h55 hn
  go_enter Try.func67, Try.ntmps67
  go_wp2
  go_ret
  exact ⟨rfl, HF.out⟩
set_option maxRecDepth 100000 in
set_option maxHeartbeats 4000000 in
theorem each_law (w : World) (k n b : Nat) (C1 C2 C3 C4 : Value) (Inv : Nat → World → Prop) (Fin : World → Prop) (hx : SBox w k n b) (hb : b < 18446744073709551616) (h0 : Inv 0 w)
    (hskip : ∀ i W, Pm.hb b i = false → Inv i W → Inv (i + 1) W) (hcall : ∀ i W, i < 64 → Pm.hb b i = true → Inv i W → Calls Try.prog 67 #[.int .i64 (i : Nat), C1, C2, C3, C4] W (Said (Inv (i + 1)) Fin)) :
    Calls Try.prog 66 #[.pointer (some ⟨k, 0, none⟩), .func (Fn.func 67) #[] #[C1, C2, C3, C4]] w (EachEnd b Inv Fin) := by
  obtain ⟨c0, c1⟩ := hx.cells
  have H0 := Lib.hid h0
  have HS := Lib.hid hskip
  have HC := Lib.hid hcall
  clear h0 hskip hcall hx
  go_enter Try.func66, Try.ntmps66
  go_wp2_with fail
  go_loopw [4, 5] (fun x i wr => ∃ j : Nat, j ≤ 64 ∧ x = .int .u64 (b / 2 ^ j : Nat) ∧ i = .int .i64 j ∧ Inv j wr) (fun _ i _ => 64 - (intOf i).toNat)
  case atStart => exact ⟨0, by omega, by simp, rfl, H0.out⟩
  case round =>
    obtain ⟨j, hj, rfl, rfl, hI⟩ := hrel
    have HI := Lib.hid hI
    clear hI
    have hle : b / 2 ^ j ≤ b := Nat.div_le_self _ _
    have hnow := bit_now b j hb
    have hnext : b / 2 ^ j / 2 = b / 2 ^ (j + 1) := by rw [Nat.pow_succ, Nat.div_div_eq_div_mul]
    have h64 : j = 64 → b / 2 ^ j = 0 := fun h => by subst h; exact Nat.div_eq_of_lt (by simpa using hb)
    have hb0 : b / 2 ^ j = 0 → True := fun _ => trivial
    obtain ⟨x, hxx⟩ : ∃ x, b / 2 ^ j = x := ⟨_, rfl⟩
    rw [hxx] at hle hnow hnext h64 ⊢
    have HX := Lib.hid hxx
    have HN := Lib.hid hnext
    have H6 := Lib.hid h64
    clear hxx hnext h64 hb0
    by_cases hz : x = 0
    · subst hz
      clear hnow
      go_wp2
      (try simp only [Exit.inBlock, Exit.then])
      refine bodyPost_ret (v := .tuple #[]) (by simp [results, Try.results66, go_sem]; try rfl) rfl ?_
      have hfin : EachEnd b Inv Fin (.returned (.tuple #[])) wr := ⟨rfl, Or.inl ⟨j, hj, HX.out, HI.out⟩⟩
      exact hfin
    · have hj64 : j < 64 := by
        rcases Nat.lt_or_ge j 64 with h | h
        · exact h
        · exact absurd (H6.out (by omega)) hz
      cases ht : Pm.hb b j with
      | true =>
        rw [ht] at hnow
        have hc := HC.out j wr hj64 ht HI.out
        have HC1 := Lib.hid hc
        clear hc ht
        go_wp2_with fail
        refine HC1.out.mono ?_
        rintro e w2 (⟨rfl, h2⟩ | ⟨rfl, h2⟩)
        · have H2 := Lib.hid h2
          clear h2
          go_wp2
          go_roundw
          case rel => exact ⟨j + 1, by omega, by rw [← HN.out]; first | rfl | simp, by go_num, H2.out⟩
          case measure => simp [intOf]; omega
        · have H2 := Lib.hid h2
          clear h2
          go_wp2
          (try simp only [Exit.inBlock, Exit.then])
          refine bodyPost_ret (v := .tuple #[]) (by simp [results, Try.results66, go_sem]; try rfl) rfl ?_
          have hfin : EachEnd b Inv Fin (.returned (.tuple #[])) w2 := ⟨rfl, Or.inr H2.out⟩
          exact hfin
      | false =>
        rw [ht] at hnow
        have hs := HS.out j wr ht HI.out
        have HS1 := Lib.hid hs
        clear hs ht
        go_wp2
        go_roundw
        case rel => exact ⟨j + 1, by omega, by rw [← HN.out]; first | rfl | simp, by go_num, HS1.out⟩
        case measure => simp [intOf]; omega
/-- how many are asked of -/
def mostN (st : Int) (len : Nat) : Nat := if st < 0 then (if len = 0 then 0 else 1) else (if (len : Int) ≤ st then len else st.toNat + 1)
theorem bitsTo_at {b i n : Nat} (hi : i < n) (h : Pm.hb b i = true) : (bitsTo b n)[(bitsTo b i).length]? = some (i : Int) := by
  obtain ⟨d, rfl⟩ : ∃ d, n = i + 1 + d := ⟨n - (i + 1), by omega⟩
  have hpre : ∀ d, ∃ t, bitsTo b (i + 1 + d) = bitsTo b (i + 1) ++ t := by
    intro d
    induction d with
    | zero => exact ⟨[], by simp⟩
    | succ d ih =>
      obtain ⟨t, ht⟩ := ih
      rw [← Nat.add_assoc]
      cases hb : Pm.hb b (i + 1 + d) with
      | true => exact ⟨t ++ [((i + 1 + d : Nat) : Int)], by rw [bitsTo_yes hb, ht, List.append_assoc]⟩
      | false => exact ⟨t, by rw [bitsTo_no hb, ht]⟩
  obtain ⟨t, ht⟩ := hpre d
  rw [ht, bitsTo_yes h, List.append_assoc, List.getElem?_append_right (Nat.le_refl _), Nat.sub_self]
  rfl
def EachP (w : World) (a k v s : Nat) (st : Int) (L : List Int) (e : Ending) (w' : World) : Prop := e = .returned (.tuple #[]) ∧ Cap w' a k v s (mostN st L.length) st L ∧ ∀ B, B ≤ a → B ≤ k → Below B w w'
theorem peach_any (w : World) (q n b a k v s : Nat) (st : Int) (hx : SBox w q n b) (hn : n ≤ 64) (hb : b < 18446744073709551616) (hbn : b < 2 ^ n) (hC : Cap w a k v s 0 st (bitsTo b n)) (hs0 : -9223372036854775808 ≤ st) (hs1 : st ≤ 9223372036854775807) :
    Calls Try.prog 66 #[.pointer (some ⟨q, 0, none⟩), .func (Fn.func 67) #[] #[.pointer (some ⟨a, 0, none⟩), .pointer (some ⟨k, 0, none⟩), .pointer (some ⟨v, 0, none⟩), .pointer (some ⟨s, 0, none⟩)]] w (EachP w a k v s st (bitsTo b n)) := by
  have hlen := bitsTo_len b n
  refine (each_law w q n b _ _ _ _
    (fun i W => Cap W a k v s (bitsTo b i).length st (bitsTo b n) ∧ ((bitsTo b i).length = 0 ∨ ((bitsTo b i).length : Int) ≤ st) ∧ ∀ B, B ≤ a → B ≤ k → Below B w W)
    (fun W => Cap W a k v s (mostN st (bitsTo b n).length) st (bitsTo b n) ∧ ∀ B, B ≤ a → B ≤ k → Below B w W) hx hb ⟨by simpa [bitsTo] using hC, Or.inl (by simp [bitsTo]), fun B _ _ => Below.refl B w⟩
    (fun i W ht h => by rw [bitsTo_no ht]; exact h) (fun i W hi ht ⟨h1, h2, h3⟩ => ?_)).mono ?_
  · have hin : i < n := Pm.hb_lt hbn ht
    have hat := bitsTo_at hin ht
    have hlt : (bitsTo b i).length < (bitsTo b n).length := (List.getElem?_eq_some_iff.1 hat).1
    refine (law1_any W a k v s _ st _ i h1 hat (by omega) hs0 hs1).mono ?_
    rintro e W' ⟨he, hc, hbb⟩
    by_cases hle : ((bitsTo b i).length : Int) + 1 ≤ st
    · refine Or.inl ⟨by rw [he]; simp [hle], ?_, ?_, fun B x1 x2 => (h3 B x1 x2).trans (hbb B x1 x2)⟩
      · rw [bitsTo_yes ht, List.length_append]; exact hc
      · rw [bitsTo_yes ht, List.length_append]; right; simp; omega
    · refine Or.inr ⟨by rw [he]; simp [hle], ?_, fun B x1 x2 => (h3 B x1 x2).trans (hbb B x1 x2)⟩
      have hm : mostN st (bitsTo b n).length = (bitsTo b i).length + 1 := by
        unfold mostN
        split
        · split <;> omega
        · split <;> omega
      rw [hm]; exact hc
  · rintro e W' ⟨he, ⟨i, hi, hz, h1, h2, h3⟩ | ⟨h1, h3⟩⟩
    · have e1 : bitsTo b i = bitsTo b n := by
        rcases Nat.le_total i n with hin | hin
        · have := bitsTo_end hz (n - i)
          rw [show i + (n - i) = n from by omega] at this
          exact this.symm
        · have := bitsTo_end (Nat.div_eq_of_lt hbn) (i - n)
          rw [show n + (i - n) = i from by omega] at this
          exact this
      rw [e1] at h1 h2
      have hm : mostN st (bitsTo b n).length = (bitsTo b n).length := by
        unfold mostN
        split
        · split <;> omega
        · split <;> omega
      exact ⟨he, by rw [hm]; exact h1, h3⟩
    · exact ⟨he, h1, h3⟩
theorem pof_bad (w : World) (v : Value) (A : Option Addr) (m c : Nat) (hv : v = .slice A m c) (hm : m ≤ 1000000) (z : Int) (h : z < 1 ∨ 64 < z) : Calls Try.prog 52 #[.int .i64 z, v] w fun e w' => e = .returned (.tuple #[.pointer none, .int .i64 1]) ∧ w = w' := by
  subst hv
  have hh := pnew_no z h w
  have HH := Lib.hid hh
  clear hh h
  go_enter Try.func52, Try.ntmps52
  go_wp2_with fail
  refine HH.out.mono ?_
  rintro e w1 ⟨rfl, rfl⟩
  go_wp2
  go_ret2
  exact ⟨rfl, rfl⟩
theorem rof_bad (w : World) (v : Value) (A : Option Addr) (m c : Nat) (hv : v = .slice A m c) (hm : m ≤ 1000000) (z : Int) (h : z < 1 ∨ 64 < z) : Calls Try.prog 53 #[.int .i64 z, v] w fun e w' => e = .returned (.tuple #[.pointer none, .int .i64 1]) ∧ w = w' := by
  subst hv
  have hh := rnew_no z h w
  have HH := Lib.hid hh
  clear hh h
  by_cases hm0 : 0 < m
  · go_enter Try.func53, Try.ntmps53
    go_wp2_with fail
    refine HH.out.mono ?_
    rintro e w1 ⟨rfl, rfl⟩
    go_wp2_with fail
    go_loop [8] (fun i => i = .int .i64 0) (fun i => 0)
    case atStart => exact rfl
    case round =>
      obtain rfl := hrel
      go_wp2
      go_ret2
      exact ⟨rfl, rfl⟩
  · go_enter Try.func53, Try.ntmps53
    go_wp2_with fail
    refine HH.out.mono ?_
    rintro e w1 ⟨rfl, rfl⟩
    go_wp2_with fail
    go_loop [8] (fun i => i = .int .i64 0) (fun i => 0)
    case atStart => exact rfl
    case round =>
      obtain rfl := hrel
      go_wp2
      go_ret2
      exact ⟨rfl, rfl⟩
end Go.Proofs.Ytlbodandidopfaa
