/- The pool of frames: New. Conditions: none. -/
import Derived.Test.YtdbaidkepngjcaaFrf
namespace Go.Proofs.Ytdbaidkepngjcaa
open Go.ChangeShapes Go.WideShapes Go.ChangeAt Go.RowKit Go.Maps
set_option linter.unusedSimpArgs false
set_option linter.unusedVariables false
theorem infFr : (Try.prog.info? 38).map (fun i => (i.zero, i.size, i.bytes)) = some (some (frV Fr.zero), 5, 24) := by kernel_rfl
theorem made_frames (n : Nat) : (madeCells (frV Fr.zero).cells (n * 5)).toList = fcells (List.replicate n Fr.zero) := by
  have hz : (frV Fr.zero).cells = (frL Fr.zero).toArray := rfl
  rw [hz]
  apply List.ext_getElem?
  intro p
  obtain ⟨a, b, hb, rfl⟩ : ∃ a b, b < 5 ∧ p = a * 5 + b := ⟨p / 5, p % 5, Nat.mod_lt _ (by omega), by omega⟩
  rcases Nat.lt_or_ge a n with ha | ha
  · rw [fcells_get (List.replicate n Fr.zero) a b (by simpa using ha) hb]
    have h1 : a * 5 + b < n * 5 := by omega
    have h2 : (a * 5 + b) % (frL Fr.zero).toArray.size = b := by
      show (a * 5 + b) % 5 = b
      omega
    unfold madeCells
    simp only [List.getElem_replicate, Array.getElem?_toList, Array.getElem?_map, Array.getElem?_range, h1, if_true, Option.map_some, h2]
    have h3 : b < (frL Fr.zero).toArray.size := hb
    rw [getElem!_pos (frL Fr.zero).toArray b h3]
    simp
  · rw [List.getElem?_eq_none (by rw [Array.length_toList, size_madeCells]; omega), List.getElem?_eq_none (by rw [fcells_length, List.length_replicate]; omega)]
theorem run_frames (w : World) (n : Nat) (hn : n ≤ 4096) : ∃ w', (Instr.makeSlice 52 (.int .i64 (n : Int)) (.int .i64 (n : Int))).run Try.prog w = .ok (.slice (some ⟨w.heap.size, 0, none⟩) n n) w' ∧ w'.ownsRow 0 38 5 (.slice (some ⟨w.heap.size, 0, none⟩) n n) n (fcells (List.replicate n Fr.zero)) ∧ w.grownBy w' none := by
  obtain ⟨i, hi1, hi2, hi3, hi4⟩ := info_parts infFr
  have h := run_make_full (P := Try.prog) w 0 52 38 i (frV Fr.zero) 5 Try.underlying52 hi1 hi2 hi3 .i64 .i64 n (by rw [hi4]; omega) (by unfold maxLen; omega) (Nat.zero_le _)
  rw [made_frames] at h
  exact h
def newP (n : Nat) : Pl := ⟨List.replicate n Fr.zero, 0, 0⟩
theorem usedN_zero (n : Nat) : usedN (List.replicate n Fr.zero) = 0 := by
  unfold usedN
  rw [List.countP_eq_zero]
  intro x hx
  rw [(List.mem_replicate.1 hx).2]
  simp [Fr.zero]
theorem Wok.none_ (n : Nat) : Wok (List.replicate n Fr.zero) (fun _ => none) := by
  intro k i
  constructor
  · intro h; cases h
  · rintro ⟨x, hx, h1, h2⟩
    have := List.mem_of_getElem? hx
    rw [(List.mem_replicate.1 this).2] at h1
    cases h1
set_option maxRecDepth 100000 in
set_option maxHeartbeats 1000000 in
theorem new_ok (n : Nat) (hn : 1 ≤ n ∧ n ≤ 4096) (w : World) : Calls Try.prog 8 #[.int .i64 (n : Nat)] w fun e w' => ∃ pb lb mb, w.heap.size ≤ pb ∧ w.heap.size ≤ lb ∧ w.heap.size ≤ mb ∧ e = .returned (.tuple #[.pointer (some ⟨pb, 0, none⟩), .int .i64 0]) ∧ PBox w' pb lb mb 0 (newP n) ∧ Frm (fun _ => False) w w' := by
  have hmm := @run_makeMap Try.prog
  obtain ⟨w1, hrun1, ho1, hg1⟩ := run_frames w n hn.2
  have hF1 : Frm (fun _ => False) w w1 := Frm.of_below ((Below.refl _ _).grown hg1 (Nat.le_refl _) (by intro g h; cases h))
  have hlt : w.heap.size < w1.heap.size := own_lt ho1 rfl
  have hsz : (w1.alloc (.map #[] 0)).heap.size = w1.heap.size + 1 := by simp
  have hM := (MBox.new w1).keep (Below.heap_alloc (w1.alloc (.map #[] 0)) (.cells #[.slice (some ⟨w.heap.size, 0, none⟩) n n, .map (some w1.heap.size), .int .i64 0, .int .i64 0] 55) w1.heap.size (by simp))
  have hF2 : Frm (fun _ => False) w1 ((w1.alloc (.map #[] 0)).alloc (.cells #[.slice (some ⟨w.heap.size, 0, none⟩) n n, .map (some w1.heap.size), .int .i64 0, .int .i64 0] 55)) := ((Frm.refl _ w1).alloc _).alloc _
  have hc := heap_alloc_new (w1.alloc (.map #[] 0)) (.cells #[.slice (some ⟨w.heap.size, 0, none⟩) n n, .map (some w1.heap.size), .int .i64 0, .int .i64 0] 55)
  rw [hsz] at hc
  have hP : PBox ((w1.alloc (.map #[] 0)).alloc (.cells #[.slice (some ⟨w.heap.size, 0, none⟩) n n, .map (some w1.heap.size), .int .i64 0, .int .i64 0] 55)) (w1.heap.size + 1) w.heap.size w1.heap.size 0 (newP n) := by
    refine ⟨?_, ?_, ⟨fun _ => none, ?_, Wok.none_ n⟩, ⟨by omega, by omega, by omega⟩, ⟨?_, ?_, ⟨Nat.zero_le _, fun i hi => absurd hi (Nat.not_lt_zero _)⟩, ?_⟩⟩
    · simp only [newP, List.length_replicate]
      exact hc
    · simp only [newP, List.length_replicate]
      exact own_keep ho1 (fun g hg => by injection hg with hg; subst hg; exact hF2.block _ hlt id)
    · show MBox _ _ 0 _ (usedN (List.replicate n Fr.zero))
      rw [usedN_zero]
      exact hM
    · simp only [newP, List.length_replicate]; exact hn
    · simp only [newP, List.length_replicate]; omega
    · intro x hx
      rw [(List.mem_replicate.1 hx).2]
      exact ⟨rfl, by simp [Fr.zero]⟩
  have HP := Lib.hid hP
  have HF := Lib.hid (hF1.trans hF2)
  have hle := hF1.size
  clear ho1 hg1 hF1 hM hF2 hc hP hsz
  go_enter Try.func8, Try.ntmps8
  go_wp2
  go_ret2
  exact ⟨w1.heap.size + 1, w.heap.size, w1.heap.size, by omega, Nat.le_refl _, hle, rfl, HP.out, HF.out⟩
set_option maxRecDepth 100000 in
theorem new_no (n : Int) (hn : n < 1 ∨ 4096 < n) (w : World) : Calls Try.prog 8 #[.int .i64 n] w fun e w' => e = .returned (.tuple #[.pointer none, .int .i64 1]) ∧ w' = w := by
  by_cases h1 : n < 1
  · go_enter Try.func8, Try.ntmps8
    go_wp2
    go_ret2
    exact ⟨rfl, rfl⟩
  · have h2 : 4096 < n := by omega
    go_enter Try.func8, Try.ntmps8
    go_wp2
    go_ret2
    exact ⟨rfl, rfl⟩
end Go.Proofs.Ytdbaidkepngjcaa
