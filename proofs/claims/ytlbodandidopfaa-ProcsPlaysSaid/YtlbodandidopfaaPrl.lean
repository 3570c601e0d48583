/- Contracts of package procs: List, and Each as List calls it. Conditions: none. -/
import Derived.Test.YtlbodandidopfaaPrk
import Derived.Test.YtlbodandidopfaaNum
namespace Go.Proofs.Ytlbodandidopfaa
open Go.ChangeShapes Go.WideShapes Go.ChangeAt Go.RowKit
set_option linter.unusedSimpArgs false
set_option linter.unusedVariables false
theorem Try.infI : (Try.prog.info? 3).map (fun i => (i.zero, i.size, i.bytes)) = some (some (.int .i64 0), 1, 8) := by kernel_rfl
theorem iv_one (k : IntKind) (zs : List Int) : ∀ u ∈ iv k zs, u.oneCell' = true := by
  intro u hu
  obtain ⟨z, _, rfl⟩ := List.mem_map.1 hu
  rfl
theorem ownsRow_formP {w : World} {base size n : Nat} {e : TypeId} {v : Value} {xs : List Value} (h : w.ownsRow base e size v n xs) (hn : 0 < n) : ∃ g cap, v = .slice (some ⟨g, 0, none⟩) n cap := by
  rcases h.2 with ⟨_, h0⟩ | ⟨g, cap, _, hv, _⟩
  · omega
  · exact ⟨g, cap, hv⟩
theorem own_setP {B : Nat} {w : World} {e : TypeId} {v : Value} {n : Nat} {xs : List Value} (h : w.ownsRow B e 1 v n xs) (k i : Nat) (hne : v.ownBlock ≠ some k) (u : Value) : (w.setCell ⟨k, i, none⟩ u).ownsRow B e 1 v n xs := by
  refine ⟨h.1, ?_⟩
  rcases h.2 with h0 | ⟨g, cap, cur, hv, hg, hh, r⟩
  · exact Or.inl h0
  · have hgk : g ≠ k := fun hgk => hne (by rw [hv, hgk]; rfl)
    exact Or.inr ⟨g, cap, cur, hv, hg, (heap_setCell_other w ⟨k, i, none⟩ g u hgk).trans hh, r⟩
/-- the variable in block k holds a row of the call's own -/
def VBox (B : Nat) (w : World) (k : Nat) (zs : List Int) : Prop := ∃ v, B ≤ k ∧ w.heap[k]? = some (.cells #[v] 69 (0, 0)) ∧ w.ownsRow B 3 1 v zs.length (iv .i64 zs) ∧ v.ownBlock ≠ some k
set_option maxRecDepth 100000 in
set_option maxHeartbeats 4000000 in
theorem list1_any (w : World) (B k : Nat) (zs : List Int) (p : Int) (h : VBox B w k zs) (hl : zs.length ≤ 1000) :
    Calls Try.prog 88 #[.int .i64 p, .pointer (some ⟨k, 0, none⟩)] w fun e w' => e = .returned (.bool true) ∧ VBox B w' k (zs ++ [p]) ∧ Below B w w' := by
  obtain ⟨v, hBk, hx, ho, hne⟩ := h
  have hlt : k < w.heap.size := by
    rcases Nat.lt_or_ge k w.heap.size with h1 | h1
    · exact h1
    · rw [Array.getElem?_eq_none h1] at hx; cases hx
  have d1 : w.cell? ⟨k, 0, none⟩ = some v := cell_of_row w k 0 _ _ (0, 0) hx
  have hb1 : Below B w (w.alloc (.cells #[.int .i64 p] 3)) := (Below.refl B w).alloc (by omega) _
  have HX := Lib.hid hx
  have HO := Lib.hid ho
  have HNE := Lib.hid hne
  clear hx ho hne
  go_enter Try.func88, Try.ntmps88
  go_wp2_with (at_builtin; refine wpList_append_rd _ rfl _ _ 69 rfl B 3 (.int .i64 0) 8 Try.underlying69 Try.infI rfl v _ _ rfl (HO.out.alloc _) _ rfl _ _ (RdV.one _ _ _) (by intro u hu; simp at hu; subst hu; rfl) (by simp; omega) (by omega) (by simp; omega) ?_; intro v3 w3 ho3 hg3 hv3; obtain ⟨g3, cap3, rfl⟩ := ownsRow_formP ho3 (by simp); have hx3 : w3.heap[k]? = some (.cells #[v] 69 (0, 0)) := (hg3.block k (by simp; omega) (fun e => HNE.out e.symm)).trans ((Below.heap_alloc _ _ _ hlt).trans HX.out); have d3 : w3.cell? ⟨k, 0, none⟩ = some v := cell_of_row w3 k 0 _ _ (0, 0) hx3; have f3 : w3.frozen? ⟨k, 0, none⟩ = false := frozen_of_row w3 k 0 _ _ hx3; have hb3 : Below B w w3 := hb1.grown hg3 (by simp; omega) (fun g hg => (HO.out.lt g hg).1))
  go_ret
  have hne3 : (Value.slice (some ⟨g3, 0, none⟩) (zs.length + [Value.int IntKind.i64 p].length) cap3).ownBlock ≠ some k := by
    intro e
    rcases hv3 with h | h
    · rw [h] at e; exact HNE.out e
    · rw [h] at e; injection e with e; simp at e; omega
  have hO : w3.ownsRow B 3 1 (.slice (some ⟨g3, 0, none⟩) (zs.length + [Value.int IntKind.i64 p].length) cap3) (zs ++ [p]).length (iv .i64 (zs ++ [p])) := by
    rw [List.length_append, show iv .i64 (zs ++ [p]) = iv .i64 zs ++ [.int .i64 p] from by simp [iv]]; exact ho3
  have hxf : (w3.setCell ⟨k, 0, none⟩ (.slice (some ⟨g3, 0, none⟩) (zs.length + [Value.int IntKind.i64 p].length) cap3)).heap[k]? = some (.cells #[.slice (some ⟨g3, 0, none⟩) (zs.length + [Value.int IntKind.i64 p].length) cap3] 69 (0, 0)) :=
    heap_setCell_same w3 k 0 _ _ _ hx3
  have hfin : VBox B (w3.setCell ⟨k, 0, none⟩ (.slice (some ⟨g3, 0, none⟩) (zs.length + [Value.int IntKind.i64 p].length) cap3)) k (zs ++ [p]) ∧ Below B w (w3.setCell ⟨k, 0, none⟩ (.slice (some ⟨g3, 0, none⟩) (zs.length + [Value.int IntKind.i64 p].length) cap3)) :=
    ⟨⟨_, hBk, hxf, own_setP hO k 0 hne3 _, hne3⟩, Below.setCell (p := ⟨k, 0, none⟩) hb3 hBk _⟩
  exact ⟨rfl, hfin⟩
theorem bit_now (b i : Nat) (hb : b < 18446744073709551616) : (bits .and .u64 ((b / 2 ^ i : Nat) : Int) 1 == 1) = Pm.hb b i := by
  have h := bit_walk b i hb
  rw [show ((b / 2 ^ i : Nat) : Int) = (b : Int) / 2 ^ i from by simp]
  exact h
/-- how Each may end: all bits were asked of, or a no was said -/
def EachEnd (b : Nat) (Inv : Nat → World → Prop) (Fin : World → Prop) (e : Ending) (w' : World) : Prop := e = .returned (.tuple #[]) ∧ ((∃ i, i ≤ 64 ∧ b / 2 ^ i = 0 ∧ Inv i w') ∨ Fin w')
def Said (F : World → Prop) (G : World → Prop) (e : Ending) (w' : World) : Prop := (e = .returned (.bool true) ∧ F w') ∨ (e = .returned (.bool false) ∧ G w')
set_option maxRecDepth 100000 in
set_option maxHeartbeats 4000000 in
theorem each_list (w : World) (k n b : Nat) (C : Value) (Inv : Nat → World → Prop) (Fin : World → Prop) (hx : SBox w k n b) (hb : b < 18446744073709551616) (h0 : Inv 0 w)
    (hskip : ∀ i W, Pm.hb b i = false → Inv i W → Inv (i + 1) W) (hcall : ∀ i W, i < 64 → Pm.hb b i = true → Inv i W → Calls Try.prog 88 #[.int .i64 (i : Nat), C] W (Said (Inv (i + 1)) Fin)) :
    Calls Try.prog 66 #[.pointer (some ⟨k, 0, none⟩), .func (Fn.func 88) #[] #[C]] w (EachEnd b Inv Fin) := by
  obtain ⟨c0, c1⟩ := hx.cells
  have H0 := Lib.hid h0
  have HS := Lib.hid hskip
  have HC := Lib.hid hcall
  clear h0 hskip hcall hx
  go_enter Try.func66, Try.ntmps66
  go_wp2_with fail
  go_loopw [4, 5] (fun x i wr => ∃ j : Nat, j ≤ 64 ∧ x = .int .u64 (b / 2 ^ j : Nat) ∧ i = .int .i64 j ∧ Inv j wr) (fun _ i _ => 64 - (intOf i).toNat)
  case atStart => exact ⟨0, by omega, by simp, rfl, H0.out⟩
  case round =>
    obtain ⟨j, hj, rfl, rfl, hI⟩ := hrel
    have HI := Lib.hid hI
    clear hI
    have hle : b / 2 ^ j ≤ b := Nat.div_le_self _ _
    have hnow := bit_now b j hb
    have hnext : b / 2 ^ j / 2 = b / 2 ^ (j + 1) := by rw [Nat.pow_succ, Nat.div_div_eq_div_mul]
    have h64 : j = 64 → b / 2 ^ j = 0 := fun h => by subst h; exact Nat.div_eq_of_lt (by simpa using hb)
    have hb0 : b / 2 ^ j = 0 → True := fun _ => trivial
    obtain ⟨x, hxx⟩ : ∃ x, b / 2 ^ j = x := ⟨_, rfl⟩
    rw [hxx] at hle hnow hnext h64 ⊢
    have HX := Lib.hid hxx
    have HN := Lib.hid hnext
    have H6 := Lib.hid h64
    clear hxx hnext h64 hb0
    by_cases hz : x = 0
    · subst hz
      clear hnow
      go_wp2
      (try simp only [Exit.inBlock, Exit.then])
      refine bodyPost_ret (v := .tuple #[]) (by simp [results, Try.results66, go_sem]; try rfl) rfl ?_
      have hfin : EachEnd b Inv Fin (.returned (.tuple #[])) wr := ⟨rfl, Or.inl ⟨j, hj, HX.out, HI.out⟩⟩
      exact hfin
    · have hj64 : j < 64 := by
        rcases Nat.lt_or_ge j 64 with h | h
        · exact h
        · exact absurd (H6.out (by omega)) hz
      cases ht : Pm.hb b j with
      | true =>
        rw [ht] at hnow
        have hc := HC.out j wr hj64 ht HI.out
        have HC1 := Lib.hid hc
        clear hc ht
        go_wp2_with fail
        refine HC1.out.mono ?_
        rintro e w2 (⟨rfl, h2⟩ | ⟨rfl, h2⟩)
        · have H2 := Lib.hid h2
          clear h2
          go_wp2
          go_roundw
          case rel => exact ⟨j + 1, by omega, by rw [← HN.out]; first | rfl | simp, by go_num, H2.out⟩
          case measure => simp [intOf]; omega
        · have H2 := Lib.hid h2
          clear h2
          go_wp2
          (try simp only [Exit.inBlock, Exit.then])
          refine bodyPost_ret (v := .tuple #[]) (by simp [results, Try.results66, go_sem]; try rfl) rfl ?_
          have hfin : EachEnd b Inv Fin (.returned (.tuple #[])) w2 := ⟨rfl, Or.inr H2.out⟩
          exact hfin
      | false =>
        rw [ht] at hnow
        have hs := HS.out j wr ht HI.out
        have HS1 := Lib.hid hs
        clear hs ht
        go_wp2
        go_roundw
        case rel => exact ⟨j + 1, by omega, by rw [← HN.out]; first | rfl | simp, by go_num, HS1.out⟩
        case measure => simp [intOf]; omega
/-- the numbers below i whose bit is set, rising -/
def bitsTo (b i : Nat) : List Int := ((List.range i).filter fun j => Pm.hb b j).map fun (j : Nat) => (j : Int)
theorem bitsTo_yes {b i : Nat} (h : Pm.hb b i = true) : bitsTo b (i + 1) = bitsTo b i ++ [(i : Int)] := by
  unfold bitsTo; rw [List.range_succ, List.filter_append]; simp [h]
theorem bitsTo_no {b i : Nat} (h : Pm.hb b i = false) : bitsTo b (i + 1) = bitsTo b i := by
  unfold bitsTo; rw [List.range_succ, List.filter_append]; simp [h]
theorem bitsTo_len (b i : Nat) : (bitsTo b i).length ≤ i := by
  unfold bitsTo
  rw [List.length_map]
  have := List.length_filter_le (fun j => Pm.hb b j) (List.range i)
  simpa using this
theorem bitsTo_end {b i : Nat} (h : b / 2 ^ i = 0) : ∀ d, bitsTo b (i + d) = bitsTo b i
  | 0 => rfl
  | d + 1 => by
    have hoff : Pm.hb b (i + d) = false := by
      rw [Pm.hb_eq, Nat.pow_add, ← Nat.div_div_eq_div_mul, h]; simp
    rw [← Nat.add_assoc, bitsTo_no hoff]
    exact bitsTo_end h d
set_option maxRecDepth 100000 in
set_option maxHeartbeats 4000000 in
theorem plist_any (w : World) (k n b : Nat) (hx : SBox w k n b) (hb : b < 18446744073709551616) :
    Calls Try.prog 59 #[.pointer (some ⟨k, 0, none⟩)] w fun e w' => ∃ v, e = .returned v ∧ w'.ownsRow w.heap.size 3 1 v (bitsTo b 64).length (iv .i64 (bitsTo b 64)) ∧ Below w.heap.size w w' := by
  have hlt := hx.lt
  have hb0 : Below w.heap.size w (w.alloc (.cells #[.slice none 0 0] 69)) := (Below.refl _ _).alloc (Nat.le_refl _) _
  have hx0 := hx.next hb0
  have hv0 : VBox w.heap.size (w.alloc (.cells #[.slice none 0 0] 69)) w.heap.size (bitsTo b 0) :=
    ⟨.slice none 0 0, Nat.le_refl _, heap_alloc_new w _, ⟨by simp [bitsTo, iv], Or.inl ⟨rfl, by simp [bitsTo]⟩⟩, by simp [Value.ownBlock]⟩
  have he := each_list (w.alloc (.cells #[.slice none 0 0] 69)) k n b (.pointer (some ⟨w.heap.size, 0, none⟩))
    (fun i W => VBox w.heap.size W w.heap.size (bitsTo b i) ∧ Below w.heap.size w W) (fun _ => False) hx0 hb ⟨hv0, hb0⟩
    (fun i W ht ⟨h1, h2⟩ => ⟨by rw [bitsTo_no ht]; exact h1, h2⟩)
    (fun i W hi ht ⟨h1, h2⟩ => (list1_any W w.heap.size w.heap.size (bitsTo b i) i h1 (by have := bitsTo_len b i; omega)).mono fun e W' ⟨he, hv, hbb⟩ => Or.inl ⟨he, by rw [bitsTo_yes ht]; exact hv, h2.trans hbb⟩)
  have HE := Lib.hid he
  clear he hv0 hx0 hx hb0
  go_enter Try.func59, Try.ntmps59
  go_wp2_with fail
  refine HE.out.mono ?_
  rintro e w1 ⟨rfl, ⟨i, hi, hz, ⟨v, hBk, hxk, ho, hne⟩, hb1⟩ | hF⟩
  · have hend := bitsTo_end hz (64 - i)
    rw [show i + (64 - i) = 64 from by omega] at hend
    rw [← hend] at ho
    have d1 : w1.cell? ⟨w.heap.size, 0, none⟩ = some v := cell_of_row w1 w.heap.size 0 _ _ (0, 0) hxk
    have HO := Lib.hid ho
    clear ho hend hz hxk hne
    go_wp2
    go_ret
    exact ⟨v, rfl, HO.out, hb1⟩
  · cases hF
end Go.Proofs.Ytlbodandidopfaa
