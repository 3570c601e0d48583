/- The document's table of segments: New, Load. Conditions: none. -/
import Derived.Test.YtjpmlojpcgfcfaaRsi
namespace Go.Proofs.Ytjpmlojpcgfcfaa
open Go.ChangeShapes Go.WideShapes Go.ChangeAt Go.RowKit Go.Maps
set_option linter.unusedSimpArgs false
set_option linter.unusedVariables false
theorem infS : (Try.prog.info? 43).map (fun i => (i.zero, i.size, i.bytes)) = some (some (.agg #[.int .i64 0, .int .i64 0, .int .i64 0]), 3, 24) := by kernel_rfl
theorem infS_parts : ∃ i, Try.prog.info? 43 = some i ∧ i.zero = some (.agg #[.int .i64 0, .int .i64 0, .int .i64 0]) ∧ i.size = 3 ∧ i.bytes = 24 := by
  have h := infS
  cases hq : Try.prog.info? 43 with
  | none => rw [hq] at h; cases h
  | some i =>
    rw [hq] at h
    simp only [Option.map_some, Option.some.injEq, Prod.mk.injEq] at h
    exact ⟨i, rfl, h.1, h.2.1, h.2.2⟩
theorem made3 (Z : Value) (n i : Nat) (h : i < n) : (madeCells #[Z, Z, Z] n)[i]? = some Z := by
  unfold madeCells
  rw [Array.getElem?_map, Array.getElem?_range, if_pos h]
  have : i % 3 = 0 ∨ i % 3 = 1 ∨ i % 3 = 2 := by omega
  show some ((#[Z, Z, Z] : Array Value)[i % 3]!) = some Z
  rcases this with h | h | h <;> rw [h] <;> rfl
theorem RTab.made {w1 : World} {g B N : Nat} (hN : 1 ≤ N ∧ N ≤ 65536) (h : w1.ownsRow B 43 3 (.slice (some ⟨g, 0, none⟩) N N) N (madeCells (Value.agg #[.int .i64 0, .int .i64 0, .int .i64 0]).cells (N * 3)).toList) :
    RTab (w1.alloc (.cells #[.slice (some ⟨g, 0, none⟩) N N] 41)) w1.heap.size g N noEnt := by
  obtain ⟨_, ⟨h1, _⟩ | ⟨g', cap, cur, hv, hb, hg, _, _, hs, ht⟩⟩ := h
  · cases h1
  · injection hv with e1 e2 e3
    injection e1 with e1
    injection e1 with e1
    subst e1 e3
    have hlt : g < w1.heap.size := by
      rcases Nat.lt_or_ge g w1.heap.size with h2 | h2
      · exact h2
      · rw [Array.getElem?_eq_none h2] at hg; cases hg
    have hc : ∀ i, i < N * 3 → cur[i]? = some (.int .i64 0) := fun i hi => by
      have := congrArg (fun l => l[i]?) ht
      simp only [List.getElem?_take, hi, if_true, Array.getElem?_toList] at this
      rw [this]
      exact made3 _ _ _ hi
    refine ⟨heap_alloc_new w1 _, ⟨cur, (heap_alloc_old _ _ hlt).trans hg, fun j hj => ⟨0, hc _ (by omega), hc _ (by omega), hc _ (by omega), fun x => absurd x (by unfold noEnt; decide)⟩⟩, by omega, hN⟩
/-- what the document's makers come to -/
def RMadeP (N : Nat) (f : Int → Ent) (w : World) (e : Ending) (w' : World) : Prop :=
  ∃ rb gb, w.heap.size ≤ rb ∧ w.heap.size ≤ gb ∧ e = .returned (.tuple #[.pointer (some ⟨rb, 0, none⟩), .int .i64 0]) ∧ RTab w' rb gb N f ∧ Below w.heap.size w w'
set_option maxRecDepth 100000 in
set_option maxHeartbeats 1000000 in
theorem rnew_bad (n : Int) (hn : n < 1 ∨ 65536 < n) (w : World) : Calls Try.prog 9 #[.int .i64 n] w fun e w' => e = .returned (.tuple #[.pointer none, .int .i64 1]) ∧ w = w' := by
  by_cases h1 : n < 1
  · clear hn
    go_enter Try.func9, Try.ntmps9
    go_wp2
    go_ret2
    exact ⟨rfl, rfl⟩
  · have h2 : 65536 < n := by omega
    clear hn
    go_enter Try.func9, Try.ntmps9
    go_wp2
    go_ret2
    exact ⟨rfl, rfl⟩
set_option maxRecDepth 100000 in
set_option maxHeartbeats 1000000 in
theorem rnew_any (N : Nat) (hN : 1 ≤ N ∧ N ≤ 65536) (w : World) : Calls Try.prog 9 #[.int .i64 (N : Nat)] w (RMadeP N noEnt w) := by
  have h1 : ¬ (N : Int) < 1 := by omega
  have h2 : ¬ (65536 : Int) < N := by omega
  obtain ⟨i, hi1, hi2, hi3, hi4⟩ := infS_parts
  go_enter Try.func9, Try.ntmps9
  go_wp2_with first
    | (at_make; go_loud (refine wpList_make_full w rfl _ _ 39 rfl w.heap.size 43 i _ 3 Try.underlying39 hi1 hi2 hi3 .i64 .i64 _ _ N rfl rfl rfl rfl (by rw [hi4]; omega) (by unfold maxLen; omega) (Nat.le_refl _) ?_; intro w1 ho1 hg1))
    | fail
  have hb1 : Below w.heap.size w w1 := (Below.refl _ _).grown hg1 (Nat.le_refl _) (by intro g h; cases h)
  have HT := Lib.hid (RTab.made hN ho1)
  have HB := Lib.hid (hb1.alloc hb1.size (.cells #[.slice (some ⟨w.heap.size, 0, none⟩) N N] 41))
  have hsz := hb1.size
  clear ho1 hg1 hb1 hi1 hi2 hi3
  go_ret2
  exact ⟨w1.heap.size, w.heap.size, hsz, Nat.le_refl _, rfl, HT.out, HB.out⟩
set_option maxRecDepth 100000 in
set_option maxHeartbeats 1000000 in
theorem rload_bad (v : Value) (bs : List Bool) (B : Nat) (w : World) (hr : RdV w B v (boolV bs)) (hN : ¬ (1 ≤ bs.length ∧ bs.length ≤ 65536)) :
    Calls Try.prog 11 #[v] w fun e w' => e = .returned (.tuple #[.pointer none, .int .i64 1]) ∧ w = w' := by
  obtain ⟨A, c, rfl, hc1, hc2, hc3⟩ := hr
  rw [boolV_length] at hc1 hc3 ⊢
  clear hc3
  have HN := Lib.hid (rnew_bad bs.length (by omega) w)
  by_cases h0 : bs.length = 0
  · rw [h0] at HN hc1 ⊢
    clear hN
    go_enter Try.func11, Try.ntmps11
    go_wp2_with fail
    refine HN.out.mono ?_
    rintro e w1 ⟨rfl, rfl⟩
    go_wp2
    go_loopw [6] (fun i wr => i = .int .i64 0 ∧ w = wr) (fun i wr => 0)
    case atStart => exact ⟨rfl, rfl⟩
    case round =>
      obtain ⟨rfl, rfl⟩ := hrel
      go_wp2
      go_ret2
      exact ⟨rfl, rfl⟩
  · have h1 : 65536 < bs.length := by omega
    clear hN h0
    go_enter Try.func11, Try.ntmps11
    go_wp2_with fail
    refine HN.out.mono ?_
    rintro e w1 ⟨rfl, rfl⟩
    go_wp2
    go_loopw [6] (fun i wr => i = .int .i64 0 ∧ w = wr) (fun i wr => 0)
    case atStart => exact ⟨rfl, rfl⟩
    case round =>
      obtain ⟨rfl, rfl⟩ := hrel
      go_wp2
      go_ret2
      exact ⟨rfl, rfl⟩
theorem ldF_us (bs : List Bool) (i : Nat) (j : Int) : (ldF bs i j).us = 0 := by unfold ldF; split <;> rfl
set_option maxRecDepth 100000 in
set_option maxHeartbeats 1000000 in
theorem rload_any (v : Value) (bs : List Bool) (B : Nat) (w : World) (hr : RdV w B v (boolV bs)) (hB : B ≤ w.heap.size) (hN : 1 ≤ bs.length ∧ bs.length ≤ 65536) :
    Calls Try.prog 11 #[v] w (RMadeP bs.length (ldF bs bs.length) w) := by
  have hn := rnew_any bs.length hN w
  obtain ⟨A, c, rfl, hc1, hc2, hc3⟩ := id hr
  rw [boolV_length] at hc1 hc3 hr ⊢
  clear hc3
  have HN := Lib.hid hn
  have HNN := Lib.hid hN
  clear hn
  go_enter Try.func11, Try.ntmps11
  go_wp2_with fail
  refine HN.out.mono ?_
  rintro e w1 ⟨rb, gb, hrb, hgb, rfl, hT, hb1⟩
  have HT := Lib.hid hT
  have hsz := hb1.size
  have HR := Lib.hid (hr.below' hb1 hB)
  have hNb := hN.2
  clear hT hN
  go_wp2
  go_loopw [6] (fun i wr => ∃ k : Nat, k ≤ bs.length ∧ i = .int .i64 k ∧ RTab wr rb gb bs.length (ldF bs k) ∧ Frm (fun j => j = gb) w1 wr) (fun i wr => bs.length - (intOf i).toNat)
  case atStart => exact ⟨0, by omega, rfl, by rw [ldF_zero]; exact HT.out, Frm.refl _ _⟩
  case round =>
    obtain ⟨k, hk, rfl, hT, hF⟩ := hrel
    by_cases hlt : k < bs.length
    · have hb2 := hF.below (B := w.heap.size) (by rintro j rfl; exact hgb) hsz
      obtain ⟨b0, off, rfl, hbB, hcell⟩ := (RdV.below' HR.out hb2 hB).get (j := k) (u := .bool bs[k]) (by unfold boolV; rw [List.getElem?_map, List.getElem?_eq_getElem hlt]; rfl)
      by_cases hx : bs[k] = true
      · rw [hx] at hcell
        have hc := hT.cell
        obtain ⟨e, a, _⟩ := hT.at k hlt
        have hfr := hT.free (k * 3)
        have h2 := hT.setSt k hlt 2 0 (by decide)
        rw [ldF_us, ← ldF_yes bs k (by rw [List.getElem?_eq_getElem hlt, hx])] at h2
        have H2 := Lib.hid h2
        have HF := Lib.hid (hF.setCell gb (k * 3) (Or.inl rfl) (.int .i64 2))
        clear h2 hT hF hx hb2
        generalize (ldF bs k (k : Nat)).st = st at a
        go_wp2
        go_roundw
        case rel => exact ⟨k + 1, by omega, by go_num, H2.out, HF.out⟩
        case measure => simp [intOf]; omega
      · have hx : bs[k] = false := by simpa using hx
        rw [hx] at hcell
        have HT := Lib.hid hT
        have HF := Lib.hid hF
        have HX := Lib.hid hx
        clear hT hF hx hb2
        go_wp2
        go_roundw
        case rel => exact ⟨k + 1, by omega, by go_num, by rw [ldF_no bs k (by rw [List.getElem?_eq_getElem hlt, HX.out])]; exact HT.out, HF.out⟩
        case measure => simp [intOf]; omega
    · obtain rfl : k = bs.length := by omega
      have HT := Lib.hid hT
      have HF := Lib.hid (hb1.trans (hF.below (B := w.heap.size) (by rintro j rfl; exact hgb) hsz))
      clear hT hF
      go_wp2
      go_ret2
      exact ⟨rb, gb, hrb, hgb, rfl, HT.out, HF.out⟩
end Go.Proofs.Ytjpmlojpcgfcfaa
