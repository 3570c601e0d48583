/- The law of taking: its walk, where the chapter's example is known to hold. Conditions: known's walk, as a premise. -/
import Derived.Test.YtjpmlojpcgfcfaaSgc
namespace Go.Proofs.Ytjpmlojpcgfcfaa
open Go.ChangeShapes Go.WideShapes Go.ChangeAt Go.RowKit Go.Maps
set_option linter.unusedSimpArgs false
set_option linter.unusedVariables false
theorem nextB {a b c : World} (h : Below b.heap.size b c) (k : Below a.heap.size a b) : Below a.heap.size a c := k.trans (h.mono k.size)
theorem cntF_pos {N : Nat} {f : Int → Ent} {k : Nat} (hk : k < N) (h : (f k).st = 0) : cntF N f 0 ≠ 0 := by
  induction N with
  | zero => omega
  | succ N ih =>
    rw [cntF]
    have hb := (cntF_bound N f 0).1
    by_cases e : k = N
    · subst e
      rw [if_pos (by rw [h]; rfl)]
      omega
    · have := ih (by omega)
      split <;> omega
theorem cntF_none {N : Nat} {f : Int → Ent} (h : ∀ k : Nat, k < N → (f k).st ≠ 0) : cntF N f 0 = 0 := by
  by_cases e : cntF N f 0 = 0
  · exact e
  · obtain ⟨k, hk, hz⟩ := cntF_zero e
    exact absurd hz (h k hk)
/-- the table behind the first i of the takes -/
def tkF (bs : List Bool) (i : Nat) : Int → Ent := fun j => if 0 ≤ j ∧ j < (bs.length : Nat) then (if bs[j.toNat]? = some true then ⟨2, 0, 0⟩ else if j < (i : Nat) then ⟨1, 0, 0⟩ else ⟨0, 0, 0⟩) else ⟨0, 0, 0⟩
theorem tkF_zero (bs : List Bool) : ldF bs bs.length = tkF bs 0 := by
  funext j; unfold ldF tkF
  by_cases h : 0 ≤ j ∧ j < (bs.length : Nat)
  · rw [if_pos h]
    by_cases h2 : bs[j.toNat]? = some true
    · rw [if_pos h2, if_pos ⟨h.1, h.2, h2⟩]
    · rw [if_neg h2, if_neg (fun x => h2 x.2.2), if_neg (by omega)]
  · rw [if_neg h, if_neg (fun x => h ⟨x.1, x.2.1⟩)]
theorem tkF_yes (bs : List Bool) (i : Nat) (h : bs[i]? = some true) : tkF bs (i + 1) = tkF bs i := by
  funext j; unfold tkF
  by_cases e : j = (i : Nat)
  · subst e
    rw [Int.toNat_natCast, if_pos h, if_pos h]
  · have : (j < ((i + 1 : Nat) : Int)) ↔ (j < (i : Nat)) := by omega
    simp only [this]
theorem tkF_no (bs : List Bool) (i : Nat) (h : bs[i]? = some false) : tkF bs (i + 1) = put (tkF bs i) (i : Nat) ⟨1, 0, 0⟩ := by
  have hi := (List.getElem?_eq_some_iff.1 h).1
  funext j; unfold tkF put
  by_cases e : j = (i : Nat)
  · subst e
    rw [if_pos rfl, Int.toNat_natCast, if_pos (by omega), if_neg (by rw [h]; simp), if_pos (by omega)]
  · have : (j < ((i + 1 : Nat) : Int)) ↔ (j < (i : Nat)) := by omega
    simp only [this, if_neg e]
theorem tkF_free (bs : List Bool) (i : Nat) (h : bs[i]? = some false) : (tkF bs i (i : Nat)).st = 0 := by
  have hi := (List.getElem?_eq_some_iff.1 h).1
  unfold tkF
  rw [if_pos (by omega), Int.toNat_natCast, if_neg (by rw [h]; simp), if_neg (by omega)]
theorem tkF_below (bs : List Bool) (i k : Nat) (h : k < i) (hk : k < bs.length) : (tkF bs i (k : Nat)).st ≠ 0 := by
  unfold tkF
  rw [if_pos (by omega)]
  split
  · simp
  · rw [if_pos (by omega)]; simp
theorem put_same (f : Int → Ent) (k : Int) (x : Ent) : put f k x k = x := by unfold put; rw [if_pos rfl]
set_option maxRecDepth 100000 in
set_option maxHeartbeats 2000000 in
theorem takes_walk (hk : ∀ w, Calls Try.prog 7 #[] w fun e w' => e = .returned (.bool true) ∧ Below w.heap.size w w')
    (v : Value) (bs : List Bool) (w : World) (hr : RdV w w.heap.size v (boolV bs)) :
    Calls Try.prog 6 #[v] w fun e w' => e = .returned (.bool true) ∧ Below w.heap.size w w' := by
  have hraa := hr
  obtain ⟨A, c, rfl, hc1, hc2, hc3⟩ := hr
  rw [boolV_length] at hc1 hc3 hraa ⊢
  have HK := Lib.hid (hk w)
  have HR := Lib.hid hraa
  clear hc3 hraa hk
  by_cases l1 : bs.length < 1
  · go_enter Try.func6, Try.ntmps6
    go_wp2_with fail
    refine HK.out.mono ?_
    rintro e w1 ⟨rfl, hb1⟩
    go_wp2
    go_ret
    exact ⟨rfl, hb1⟩
  by_cases l2 : 200 < bs.length
  · go_enter Try.func6, Try.ntmps6
    go_wp2_with fail
    refine HK.out.mono ?_
    rintro e w1 ⟨rfl, hb1⟩
    go_wp2
    go_ret
    exact ⟨rfl, hb1⟩
  go_enter Try.func6, Try.ntmps6
  go_wp2_with fail
  refine HK.out.mono ?_
  rintro e w1 ⟨rfl, hb1⟩
  have hz1 := hb1.size
  have ld := load_any _ bs w.heap.size w1 (HR.out.below hb1) hz1
  have LD := Lib.hid ld
  clear ld
  go_wp2_with fail
  refine LD.out.mono ?_
  rintro e w2 (⟨h, _⟩ | ⟨_, tb, b, m, htb, hbb, hmm, rfl, hT, hb2⟩)
  · exact absurd ⟨by omega, by omega⟩ h
  have HB2 := Lib.hid (nextB hb2 hb1)
  have hz2 := HB2.out.size
  have HT := Lib.hid hT
  have HB1 := Lib.hid hb1
  clear hT hb2 hb1
  go_wp2
  go_loopw [5] (fun i wr => ∃ k m' lo : Nat, k ≤ bs.length ∧ m' ≤ bs.length + k ∧ i = .int .i64 k ∧ Tab wr tb b m' bs.length (tkF bs k) lo ∧ Below w.heap.size w wr) (fun i wr => bs.length - (intOf i).toNat)
  case atStart => exact ⟨0, m, 0, by omega, by omega, rfl, by rw [← tkF_zero]; exact HT.out, HB2.out⟩
  case round =>
    obtain ⟨k, m', lo, hk, hm, rfl, hT, hB⟩ := hrel
    by_cases hlt : k < bs.length
    · obtain ⟨b0, off, rfl, hbB, hcell⟩ := (HR.out.below hB).get (j := k) (u := .bool bs[k]) (by unfold boolV; rw [List.getElem?_map, List.getElem?_eq_getElem hlt]; rfl)
      by_cases hx : bs[k] = true
      · have hxx : bs[k]? = some true := by rw [List.getElem?_eq_getElem hlt, hx]
        rw [hx] at hcell
        have HT := Lib.hid hT
        have HB := Lib.hid hB
        have HX := Lib.hid hxx
        clear hT hB hx hxx
        go_wp2
        go_roundw
        case rel => exact ⟨k + 1, m', lo, by omega, by omega, by go_num, by rw [tkF_yes bs k HX.out]; exact HT.out, HB.out⟩
        case measure => simp [intOf]; omega
      · have hx : bs[k] = false := by simpa using hx
        have hxx : bs[k]? = some false := by rw [List.getElem?_eq_getElem hlt, hx]
        rw [hx] at hcell
        have TK := Lib.hid (take_any tb b m' bs.length (tkF bs k) lo wr hT (by omega))
        have HB := Lib.hid hB
        have HX := Lib.hid hxx
        clear hT hB hx hxx
        go_wp2_with fail
        refine TK.out.mono ?_
        rintro e w3 (⟨hz, _⟩ | ⟨k', hlo, hkN, hfree, hmin, rfl, hT3, hF3⟩)
        · exact absurd hz (cntF_pos hlt (tkF_free bs k HX.out))
        obtain rfl : k' = k := by
          rcases Nat.lt_trichotomy k' k with h | h | h
          · exact absurd hfree (tkF_below bs k k' h hkN)
          · exact h
          · exact absurd (tkF_free bs k HX.out) (hmin k h)
        have hst := state_any tb b (m' + 1) bs.length _ k' w3 hT3 (k' : Nat) (wf64 (by omega) (by omega))
        rw [if_pos (by omega), put_same] at hst
        rw [← tkF_no bs k' HX.out] at hT3
        have HST := Lib.hid hst
        have HT3 := Lib.hid hT3
        have HB3 := Lib.hid (HB.out.trans (hF3.below (B := w.heap.size) (by rintro j (rfl | rfl) <;> omega) HB.out.size))
        clear hst hT3 hF3 hfree hmin
        go_wp2_with fail
        refine HST.out.mono ?_
        rintro e w4 ⟨rfl, hb4⟩
        have HT4 := Lib.hid (HT3.out.next hb4)
        have HB4 := Lib.hid (nextB hb4 HB3.out)
        clear hb4
        go_wp2
        go_roundw
        case rel => exact ⟨k' + 1, m' + 1, k', by omega, by omega, by go_num, HT4.out, HB4.out⟩
        case measure => simp [intOf]; omega
    · obtain rfl : k = bs.length := by omega
      have hz : cntF bs.length (tkF bs bs.length) 0 = 0 := cntF_none fun j hj => tkF_below bs bs.length j hj hj
      have HT := Lib.hid hT
      have TK := Lib.hid (take_any tb b m' bs.length (tkF bs bs.length) lo wr hT (by omega))
      have HB := Lib.hid hB
      have HZ := Lib.hid hz
      clear hT hB hz
      go_wp2_with fail
      refine TK.out.mono ?_
      rintro e w3 (⟨_, rfl, rfl⟩ | ⟨k', hlo, hkN, hfree, _⟩)
      · have hct := count_any tb b m' bs.length _ lo wr HT.out 0
        rw [if_pos (by omega), show (0 : Int).toNat = 0 from rfl, HZ.out] at hct
        have HCT := Lib.hid hct
        clear hct
        go_wp2_with fail
        refine HCT.out.mono ?_
        rintro e w4 ⟨rfl, hb4⟩
        have HB4 := Lib.hid (nextB hb4 HB.out)
        clear hb4
        go_wp2
        go_ret
        exact ⟨rfl, HB4.out⟩
      · exact absurd hfree (tkF_below bs bs.length k' hkN hkN)
end Go.Proofs.Ytjpmlojpcgfcfaa
