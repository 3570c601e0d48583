/- The table of segments: Fulls. Conditions: none. -/
import Derived.Test.YtjpmlojpcgfcfaaSgl
import Derived.Test.YtjpmlojpcgfcfaaSgk
namespace Go.Proofs.Ytjpmlojpcgfcfaa
open Go.ChangeShapes Go.WideShapes Go.ChangeAt Go.RowKit Go.Maps
set_option linter.unusedSimpArgs false
set_option linter.unusedVariables false
theorem infB : (Try.prog.info? 4).map (fun i => (i.zero, i.size, i.bytes)) = some (some (.bool false), 1, 1) := by kernel_rfl
/-- which are not free -/
def fulL (k : Nat) (f : Int → Ent) : List Bool := (List.range k).map fun j => !decide ((f (j : Nat)).st = 0)
theorem fulL_length (k : Nat) (f : Int → Ent) : (fulL k f).length = k := by simp [fulL]
theorem fulL_next (k N : Nat) (f : Int → Ent) (h : k < N) (x : Bool) (hx : x = !decide ((f (k : Nat)).st = 0)) :
    (boolV (fulL k f ++ List.replicate (N - k) false)).set k (.bool x) = boolV (fulL (k + 1) f ++ List.replicate (N - (k + 1)) false) := by
  subst hx
  have e : N - k = (N - (k + 1)) + 1 := by omega
  have e2 : fulL (k + 1) f = fulL k f ++ [!decide ((f (k : Nat)).st = 0)] := by unfold fulL; rw [List.range_succ, List.map_append]; rfl
  rw [e, List.replicate_succ, e2]
  unfold boolV
  rw [List.map_append, List.map_append, List.map_append]
  rw [List.set_append_right _ _ (by rw [List.length_map, fulL_length]; exact Nat.le_refl _), List.length_map, fulL_length, Nat.sub_self]
  simp
set_option maxRecDepth 100000 in
set_option maxHeartbeats 1000000 in
theorem fulls_any (tb b m N : Nat) (f : Int → Ent) (low : Nat) (w : World) (h : Tab w tb b m N f low) :
    Calls Try.prog 14 #[.pointer (some ⟨tb, 0, none⟩)] w fun e w' => ∃ v, e = .returned v ∧ w'.ownsRow w.heap.size 4 1 v N (boolV (fulL N f)) ∧ Below w.heap.size w w' := by
  obtain ⟨_, _, _, e0⟩ := h.box.field
  have hmost := h.most
  have H := Lib.hid h
  clear h
  go_enter Try.func14, Try.ntmps14
  go_wp2_with first
    | (at_make; go_loud (refine wpList_make_rd _ rfl _ _ 22 rfl w.heap.size 4 (.bool false) 1 Try.underlying22 infB rfl .i64 .i64 N N _ _ rfl rfl rfl rfl (Nat.le_refl _) (by omega) (by unfold maxLen; omega) (Nat.le_refl _) ?_; intro w1 ho1 hg1))
    | fail
  have HB1 := Lib.hid ((Below.refl w.heap.size w).grown hg1 (Nat.le_refl _) (by intro g h; cases h))
  have HO1 := Lib.hid ho1
  clear ho1 hg1
  go_loopw [12] (fun i wr => ∃ k : Nat, k ≤ N ∧ i = .int .i64 k ∧ wr.ownsRow w.heap.size 4 1 (.slice (some ⟨w.heap.size, 0, none⟩) N N) N (boolV (fulL k f ++ List.replicate (N - k) false)) ∧ Below w.heap.size w wr) (fun i wr => N - (intOf i).toNat)
  case atStart => exact ⟨0, by omega, rfl, by simpa [fulL, boolV] using HO1.out, HB1.out⟩
  case round =>
    obtain ⟨k, hk, rfl, hO, hB⟩ := hrel
    by_cases hlt : k < N
    · have hT := H.out.next hB
      have hg := get_any tb b m (N : Nat) f (cntF N f) (low : Nat) wr hT.box k (wf64 (by omega) (by omega))
      unfold entV at hg
      have hfl := fun w' => field_st (f (k : Nat)).st (.int .i64 (f (k : Nat)).us) (.int .i64 (f (k : Nat)).ep) w'
      have hxl : (boolV (fulL k f ++ List.replicate (N - k) false)).length = N := by rw [boolV_length, List.length_append, fulL_length, List.length_replicate]; omega
      have hnx := fulL_next k N f hlt
      have HNX := Lib.hid hnx
      have HG := Lib.hid hg
      have HO := Lib.hid hO
      have HB := Lib.hid hB
      have HXL := Lib.hid hxl
      clear hg hO hB hT hnx hxl
      go_wp2_with fail
      refine HG.out.mono ?_
      rintro e w2 ⟨rfl, hb2⟩
      have hO2 := own_frm HO.out (Frm.of_below (O := fun _ => False) hb2) (fun _ h => h.elim)
      have hc2 := hO2.cellAt k (by omega)
      have hf2 := hO2.frozenAt k
      have hlt2 : k < (boolV (fulL k f ++ List.replicate (N - k) false)).length := by rw [HXL.out]; exact hlt
      rw [List.getElem?_eq_getElem hlt2] at hc2
      have HB2 := Lib.hid (nextB hb2 HB.out)
      have hsize := HB2.out.size
      have HS := Lib.hid (fun u => (hO2.stored k u).1)
      have HBS := Lib.hid (fun u => HB2.out.setCell (p := ⟨w.heap.size, k, none⟩) (Nat.le_refl _) u)
      obtain ⟨old, hold⟩ : ∃ old, (boolV (fulL k f ++ List.replicate (N - k) false))[k] = old := ⟨_, rfl⟩
      rw [hold] at hc2
      clear hold hO2 hb2 hlt2
      by_cases hst : (f (k : Nat)).st = 0
      · have hx := HNX.out false (by simp [hst])
        rw [hst] at hfl ⊢
        have HX := Lib.hid hx
        clear hx hst
        go_wp2
        go_roundw
        case rel => exact ⟨k + 1, by omega, by go_num, by rw [← HX.out]; exact HS.out _, HBS.out _⟩
        case measure => simp [intOf]; omega
      · have hx := HNX.out ((f (k : Nat)).st != 0) rfl
        have t0 : ((f (k : Nat)).st == 0) = false := by rw [beq_eq_false_iff_ne]; exact hst
        have HX := Lib.hid hx
        clear hx hst
        generalize (f (k : Nat)).st = st at hfl t0 HX ⊢
        go_wp2
        go_roundw
        case rel => exact ⟨k + 1, by omega, by go_num, by rw [← HX.out]; exact HS.out _, HBS.out _⟩
        case measure => simp [intOf]; omega
    · obtain rfl : k = N := by omega
      have HO := Lib.hid hO
      have HB := Lib.hid hB
      clear hO hB
      go_wp2
      go_ret
      exact ⟨_, rfl, by simpa using HO.out, HB.out⟩
end Go.Proofs.Ytjpmlojpcgfcfaa
