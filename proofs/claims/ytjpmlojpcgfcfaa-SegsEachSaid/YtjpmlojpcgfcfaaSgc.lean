/- The table of segments: New and Load. Conditions: none. -/
import Derived.Test.YtjpmlojpcgfcfaaSgb
namespace Go.Proofs.Ytjpmlojpcgfcfaa
open Go.ChangeShapes Go.WideShapes Go.ChangeAt Go.RowKit Go.Maps
set_option linter.unusedSimpArgs false
set_option linter.unusedVariables false
def noEnt : Int → Ent := fun _ => ⟨0, 0, 0⟩
theorem cntF_no (N i : Nat) : cntF N noEnt i = if i = 0 then (N : Int) else 0 := by
  induction N with
  | zero => rw [cntF]; split <;> rfl
  | succ N ih =>
    rw [cntF, ih]
    show _ + (if (0 : Int) = (i : Nat) then (1 : Int) else 0) = _
    by_cases h : i = 0
    · subst h; simp
    · rw [if_neg h, if_neg (by omega), if_neg h]; rfl
/-- what a maker of tables comes to -/
def MadeP (N m : Nat) (f : Int → Ent) (w : World) (e : Ending) (w' : World) : Prop :=
  (¬ (1 ≤ N ∧ N ≤ 65536) ∧ e = .returned (.tuple #[.pointer none, .int .i64 1]) ∧ Below w.heap.size w w') ∨
  ((1 ≤ N ∧ N ≤ 65536) ∧ ∃ tb b, w.heap.size ≤ tb ∧ w.heap.size ≤ b ∧ e = .returned (.tuple #[.pointer (some ⟨tb, 0, none⟩), .int .i64 0]) ∧ Tab w' tb b m N f 0 ∧ Below w.heap.size w w')
set_option maxRecDepth 100000 in
set_option maxHeartbeats 1000000 in
theorem new_any (N : Nat) (w : World) :
    Calls Try.prog 8 #[.int .i64 (N : Nat)] w (MadeP N 0 noEnt w) := by
  have hmm := @run_makeMap Try.prog
  by_cases h1 : N < 1
  · have h1' : (N : Int) < 1 := by omega
    go_enter Try.func8, Try.ntmps8
    go_wp2
    go_ret2
    exact Or.inl ⟨by omega, rfl, Below.refl _ _⟩
  · by_cases h2 : 65536 < N
    · have h1' : ¬ (N : Int) < 1 := by omega
      have h2' : (65536 : Int) < N := by omega
      go_enter Try.func8, Try.ntmps8
      go_wp2
      go_ret2
      exact Or.inl ⟨by omega, rfl, Below.refl _ _⟩
    · have h1' : ¬ (N : Int) < 1 := by omega
      have h2' : ¬ (65536 : Int) < N := by omega
      have hix := fun w' => index_count (w.heap.size + 1) 0 (by omega) w'
      simp only [Nat.add_zero] at hix
      have hM := (MBox.new w).alloc (.cells #[.int .i64 (N : Nat), .map (some w.heap.size), .int .i64 (N : Nat), .int .i64 0, .int .i64 0, .int .i64 0, .int .i64 0] 60)
      have hS : SBox ((w.alloc (.map #[] 0)).alloc (.cells #[.int .i64 (N : Nat), .map (some w.heap.size), .int .i64 (N : Nat), .int .i64 0, .int .i64 0, .int .i64 0, .int .i64 0] 60)) (w.heap.size + 1) w.heap.size 0 (N : Nat) noEnt (fun i => if i = 0 then (N : Int) else 0) 0 := ⟨by have := heap_alloc_new (w.alloc (.map #[] 0)) (.cells #[.int .i64 (N : Nat), .map (some w.heap.size), .int .i64 (N : Nat), .int .i64 0, .int .i64 0, .int .i64 0, .int .i64 0] 60); simpa using this, hM, by omega⟩
      have hS2 := hS.congr (cnt' := cntF N noEnt) (fun i hi => (cntF_no N i).symm)
      have hT : Tab _ (w.heap.size + 1) w.heap.size 0 N noEnt 0 := ⟨hS2, fun k _ => rfl, fun k _ => ⟨0, by omega, rfl⟩, fun k hk => absurd hk (by omega), by omega, by omega⟩
      have hB : Below w.heap.size w ((w.alloc (.map #[] 0)).alloc (.cells #[.int .i64 (N : Nat), .map (some w.heap.size), .int .i64 (N : Nat), .int .i64 0, .int .i64 0, .int .i64 0, .int .i64 0] 60)) := ((Below.refl _ _).alloc (Nat.le_refl _) _).alloc (by simp) _
      have HT := Lib.hid hT
      have HB := Lib.hid hB
      clear hT hB hS hS2 hM
      go_enter Try.func8, Try.ntmps8
      go_wp2
      go_ret2
      exact Or.inr ⟨by omega, w.heap.size + 1, w.heap.size, by omega, by omega, rfl, HT.out, HB.out⟩

def boolV (bs : List Bool) : List Value := bs.map .bool
theorem boolV_length (bs : List Bool) : (boolV bs).length = bs.length := by simp [boolV]
/-- what Load has kept behind the first i of its booleans -/
def ldF (bs : List Bool) (i : Nat) : Int → Ent := fun j => if 0 ≤ j ∧ j < (i : Nat) ∧ bs[j.toNat]? = some true then ⟨2, 0, 0⟩ else ⟨0, 0, 0⟩
theorem ldF_zero (bs : List Bool) : ldF bs 0 = noEnt := by
  funext j; unfold ldF noEnt; rw [if_neg (by omega)]
theorem ldF_no (bs : List Bool) (i : Nat) (h : bs[i]? = some false) : ldF bs (i + 1) = ldF bs i := by
  funext j; unfold ldF
  by_cases e : j = (i : Nat)
  · subst e
    rw [if_neg (by rintro ⟨_, _, h3⟩; rw [Int.toNat_natCast, h] at h3; cases h3), if_neg (by omega)]
  · have : (0 ≤ j ∧ j < ((i + 1 : Nat) : Int) ∧ bs[j.toNat]? = some true) ↔ (0 ≤ j ∧ j < (i : Nat) ∧ bs[j.toNat]? = some true) := ⟨fun ⟨a, b, c⟩ => ⟨a, by omega, c⟩, fun ⟨a, b, c⟩ => ⟨a, by omega, c⟩⟩
    simp only [this]
theorem ldF_yes (bs : List Bool) (i : Nat) (h : bs[i]? = some true) : ldF bs (i + 1) = put (ldF bs i) (i : Nat) ⟨2, 0, 0⟩ := by
  funext j; unfold ldF put
  by_cases e : j = (i : Nat)
  · subst e
    rw [if_pos ⟨by omega, by omega, by rw [Int.toNat_natCast]; exact h⟩, if_pos rfl]
  · rw [if_neg e]
    have : (0 ≤ j ∧ j < ((i + 1 : Nat) : Int) ∧ bs[j.toNat]? = some true) ↔ (0 ≤ j ∧ j < (i : Nat) ∧ bs[j.toNat]? = some true) := ⟨fun ⟨a, b, c⟩ => ⟨a, by omega, c⟩, fun ⟨a, b, c⟩ => ⟨a, by omega, c⟩⟩
    simp only [this]
def LoadP (bs : List Bool) (w : World) (e : Ending) (w' : World) : Prop :=
  (¬ (1 ≤ bs.length ∧ bs.length ≤ 65536) ∧ e = .returned (.tuple #[.pointer none, .int .i64 1]) ∧ Below w.heap.size w w') ∨
  ((1 ≤ bs.length ∧ bs.length ≤ 65536) ∧ ∃ tb b m, w.heap.size ≤ tb ∧ w.heap.size ≤ b ∧ m ≤ bs.length ∧ e = .returned (.tuple #[.pointer (some ⟨tb, 0, none⟩), .int .i64 0]) ∧ Tab w' tb b m bs.length (ldF bs bs.length) 0 ∧ Below w.heap.size w w')
set_option maxRecDepth 100000 in
set_option maxHeartbeats 1000000 in
theorem load_any (v : Value) (bs : List Bool) (B : Nat) (w : World) (hr : RdV w B v (boolV bs)) (hB : B ≤ w.heap.size) :
    Calls Try.prog 10 #[v] w (LoadP bs w) := by
  have hn := new_any bs.length w
  obtain ⟨A, c, rfl, hc1, hc2, hc3⟩ := id hr
  rw [boolV_length] at hc1 hc3 hr ⊢
  clear hc3
  by_cases hN : 1 ≤ bs.length ∧ bs.length ≤ 65536
  · have HN := Lib.hid hn
    have HNN := Lib.hid hN
    clear hn
    go_enter Try.func10, Try.ntmps10
    go_wp2_with fail
    refine HN.out.mono ?_
    rintro e w1 (⟨h, _⟩ | ⟨_, tb, b, htb, hbb, rfl, hT, hb1⟩)
    · exact absurd HNN.out h
    have HT := Lib.hid hT
    have hsz := hb1.size
    have HR := Lib.hid (hr.below' hb1 hB)
    clear hT hN
    go_wp2
    go_loopw [19] (fun i wr => ∃ k m : Nat, k ≤ bs.length ∧ m ≤ k ∧ i = .int .i64 k ∧ Tab wr tb b m bs.length (ldF bs k) 0 ∧ Frm (fun j => j = tb ∨ j = b) w1 wr) (fun i wr => bs.length - (intOf i).toNat)
    case atStart => exact ⟨0, 0, by omega, by omega, rfl, by rw [ldF_zero]; exact HT.out, Frm.refl _ _⟩
    case round =>
      obtain ⟨k, m, hk, hm, rfl, hT, hF⟩ := hrel
      by_cases hlt : k < bs.length
      · have hb2 := hF.below (B := w.heap.size) (by rintro j (rfl | rfl) <;> assumption) hsz
        obtain ⟨b0, off, rfl, hbB, hcell⟩ := (RdV.below' HR.out hb2 hB).get (j := k) (u := .bool bs[k]) (by unfold boolV; rw [List.getElem?_map, List.getElem?_eq_getElem hlt]; rfl)
        by_cases hx : bs[k] = true
        · rw [hx] at hcell
          have hset := tset_any tb b m bs.length (ldF bs k) 0 wr hT k hlt 2 (by omega) 0 0 (by omega)
          unfold entV at hset
          have HSET := Lib.hid hset
          have HT := Lib.hid hT
          have HF := Lib.hid hF
          have HX := Lib.hid hx
          clear hset hT hF hx hb2
          go_wp2_with fail
          refine HSET.out.mono ?_
          rintro e w3 ⟨rfl, hT3, hF3⟩
          rw [if_neg (by omega), if_neg (by omega)] at hT3
          have HT3 := Lib.hid hT3
          have HF3 := Lib.hid (HF.out.trans hF3)
          clear hT3 hF3
          go_wp2
          go_roundw
          case rel => exact ⟨k + 1, m + 1, by omega, by omega, by go_num, by rw [ldF_yes bs k (by rw [List.getElem?_eq_getElem hlt, HX.out])]; exact HT3.out, HF3.out⟩
          case measure => simp [intOf]; omega
        · have hx : bs[k] = false := by simpa using hx
          rw [hx] at hcell
          have HT := Lib.hid hT
          have HF := Lib.hid hF
          have HX := Lib.hid hx
          clear hT hF hx hb2
          go_wp2
          go_roundw
          case rel => exact ⟨k + 1, m, by omega, by omega, by go_num, by rw [ldF_no bs k (by rw [List.getElem?_eq_getElem hlt, HX.out])]; exact HT.out, HF.out⟩
          case measure => simp [intOf]; omega
      · obtain rfl : k = bs.length := by omega
        have HT := Lib.hid hT
        have HF := Lib.hid (hb1.trans (hF.below (B := w.heap.size) (by rintro j (rfl | rfl) <;> assumption) hsz))
        clear hT hF
        go_wp2
        go_ret2
        exact Or.inr ⟨HNN.out, tb, b, m, htb, hbb, hm, rfl, HT.out, HF.out⟩
  · have HN := Lib.hid hn
    have HNN := Lib.hid hN
    clear hn hN
    go_enter Try.func10, Try.ntmps10
    go_wp2_with fail
    refine HN.out.mono ?_
    rintro e w1 (⟨_, rfl, hb1⟩ | ⟨h, _⟩)
    · go_wp2
      go_ret2
      exact Or.inl ⟨HNN.out, rfl, hb1⟩
    · exact absurd h HNN.out
end Go.Proofs.Ytjpmlojpcgfcfaa
