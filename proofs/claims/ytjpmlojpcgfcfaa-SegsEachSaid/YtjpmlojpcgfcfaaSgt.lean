/- The table of segments: what its methods do to its map, its counts, its lowest place. Conditions: none. -/
import Derived.Test.YtjpmlojpcgfcfaaSmp
import Derived.Test.YtjpmlojpcgfcfaaBox
import Derived.Deep.RegionLaw
import Derived.Deep.DeepCutAuto
import Derived.Deep.DrawnRows
namespace Go.Proofs.Ytjpmlojpcgfcfaa
open Go.ChangeShapes Go.WideShapes Go.ChangeAt Go.RowKit Go.Maps
set_option linter.unusedSimpArgs false
set_option linter.unusedVariables false
theorem MBox.alloc {w : World} {b m : Nat} {f : Int → Ent} (h : MBox w b m f) (o : Obj) : MBox (w.alloc o) b m f := by
  obtain ⟨D, h1, h2, h3⟩ := h
  exact ⟨D, h1.alloc o, h2, h3⟩
theorem MBox.keep {w w' : World} {b m : Nat} {f : Int → Ent} (h : MBox w b m f) (hk : w'.heap[b]? = w.heap[b]?) : MBox w' b m f := by
  obtain ⟨D, ⟨es, clock, h1, h4⟩, h2, h3⟩ := h
  exact ⟨D, ⟨es, clock, hk.trans h1, h4⟩, h2, h3⟩
/-- a table: its cells and its map -/
structure SBox (w : World) (tb b m : Nat) (n : Int) (f : Int → Ent) (cnt : Nat → Int) (low : Int) : Prop where
  cells : w.heap[tb]? = some (.cells #[.int .i64 n, .map (some b), .int .i64 (cnt 0), .int .i64 (cnt 1), .int .i64 (cnt 2), .int .i64 (cnt 3), .int .i64 low] 60 (0, 0))
  map : MBox w b m f
  ne : tb ≠ b
theorem SBox.lt {w : World} {tb b m : Nat} {n : Int} {f : Int → Ent} {cnt : Nat → Int} {low : Int} (h : SBox w tb b m n f cnt low) : tb < w.heap.size := by
  rcases Nat.lt_or_ge tb w.heap.size with h2 | h2
  · exact h2
  · have := h.cells; rw [Array.getElem?_eq_none h2] at this; cases this
theorem SBox.next {w w' : World} {tb b m : Nat} {n : Int} {f : Int → Ent} {cnt : Nat → Int} {low : Int} (h : SBox w tb b m n f cnt low) (hb : Below w.heap.size w w') : SBox w' tb b m n f cnt low :=
  ⟨(hb.block tb h.lt).trans h.cells, h.map.keep (hb.block b h.map.lt), h.ne⟩
set_option maxRecDepth 100000 in
set_option maxHeartbeats 1000000 in
theorem get_any (tb b m : Nat) (n : Int) (f : Int → Ent) (cnt : Nat → Int) (low : Int) (w : World) (h : SBox w tb b m n f cnt low) (k : Int) (hk : (Lit.int .i64 k).wf = true) :
    Calls Try.prog 34 #[.pointer (some ⟨tb, 0, none⟩), .int .i64 k] w fun e w' => e = .returned (entV (f k)) ∧ Below w.heap.size w w' := by
  have hc := cell_of_row w tb 1 _ _ _ h.cells
  have hc1 : (w.alloc (.cells #[.int .i64 0, .int .i64 0, .int .i64 0] 63)).cell? ⟨tb, 1, none⟩ = some (.map (some b)) := (World.cell?_of_block (Below.heap_alloc w _ tb h.lt)).trans (by rw [hc]; rfl)
  have hl : (Instr.lookup 57 (.map (some b)) (.agg #[.int .i64 k]) false).run Try.prog (w.alloc (.cells #[.int .i64 0, .int .i64 0, .int .i64 0] 63)) = .ok (.agg #[.int .i64 (f k).st, .int .i64 (f k).us, .int .i64 (f k).ep]) (w.alloc (.cells #[.int .i64 0, .int .i64 0, .int .i64 0] 63)) := (h.map.alloc _).look k hk
  clear hc
  go_enter Try.func34, Try.ntmps34
  go_wp2
  refine bodyPost_ret (v := entV (f k)) ?_ rfl ⟨rfl, (Below.refl _ _).alloc (Nat.le_refl _) _⟩
  have hr := run_loadVar_row (P := Try.prog) (w.alloc (.cells #[.int .i64 (f k).st, .int .i64 (f k).us, .int .i64 (f k).ep] 63)) w.heap.size 63 63 #[.int .i64 (f k).st, .int .i64 (f k).us, .int .i64 (f k).ep] (0, 0) _ (heap_alloc_new w _) Try.underlying63 rfl (by kernel_rfl)
  simp [results, Try.f34, asAddr, hr, entV]

theorem SBox.drew {w : World} {tb b m : Nat} {n : Int} {f : Int → Ent} {cnt : Nat → Int} {low : Int} (h : SBox w tb b m n f cnt low) : SBox w.drew tb b m n f cnt low := ⟨h.cells, h.map.keep rfl, h.ne⟩
/-- the cell of a count -/
theorem SBox.count {w : World} {tb b m : Nat} {n : Int} {f : Int → Ent} {cnt : Nat → Int} {low : Int} (h : SBox w tb b m n f cnt low) (s : Nat) (hs : s < 4) : w.cell? ⟨tb, 2 + s, none⟩ = some (.int .i64 (cnt s)) ∧ w.frozen? ⟨tb, 2 + s, none⟩ = false := by
  refine ⟨?_, frozen_of_row w tb _ _ _ h.cells⟩
  rw [cell_of_row w tb _ _ _ _ h.cells]
  rcases s with _ | _ | _ | _ | s
  · rfl
  · rfl
  · rfl
  · rfl
  · omega
theorem field_st (x : Int) (b c : Value) (w : World) : (Instr.field 63 (.agg #[.int .i64 x, b, c]) 0).run Try.prog w = .ok (.int .i64 x) w := by kernel_rfl
theorem index_count (tb s : Nat) (hs : s < 4) (w : World) : (Instr.indexAt 58 (.pointer (some ⟨tb, 2, none⟩)) (.int .i64 (s : Nat))).run Try.prog w = .ok (.pointer (some ⟨tb, 2 + s, none⟩)) w := by
  rcases s with _ | _ | _ | _ | s
  · kernel_rfl
  · kernel_rfl
  · kernel_rfl
  · kernel_rfl
  · omega
theorem wrap_small {x : Int} (h0 : -2000000 ≤ x) (h1 : x ≤ 2000000) : IntKind.i64.wrap x = x := by rw [IntKind.wrap_i64]; omega
def upd (cnt : Nat → Int) (s : Nat) (v : Int) : Nat → Int := fun i => if i = s then v else cnt i
theorem SBox.setCount {w : World} {tb b m : Nat} {n : Int} {f : Int → Ent} {cnt : Nat → Int} {low : Int} (h : SBox w tb b m n f cnt low) (s : Nat) (hs : s < 4) (v : Int) : SBox (w.setCell ⟨tb, 2 + s, none⟩ (.int .i64 v)) tb b m n f (upd cnt s v) low := by
  refine ⟨?_, h.map.keep (heap_setCell_other w _ b _ (fun e => h.ne e.symm)), h.ne⟩
  rw [heap_setCell_same w tb (2 + s) _ _ _ h.cells]
  rcases s with _ | _ | _ | _ | s
  · rfl
  · rfl
  · rfl
  · rfl
  · omega
def cnt2 (cnt : Nat → Int) (s s' : Nat) : Nat → Int := upd (upd cnt s (cnt s - 1)) s' (upd cnt s (cnt s - 1) s' + 1)
def SetP (tb b m : Nat) (n : Int) (f : Int → Ent) (cnt : Nat → Int) (low k : Int) (s s' : Nat) (us ep : Int) (w : World) (e : Ending) (w' : World) : Prop :=
  e = .returned (.tuple #[]) ∧ SBox w' tb b (m + 1) n (put f k (if s' = 0 then ⟨0, 0, 0⟩ else ⟨(s' : Nat), us, ep⟩)) (cnt2 cnt s s') (if s' = 0 then min low k else low) ∧ Frm (fun j => j = tb ∨ j = b) w w'
theorem MBox.more {w : World} {b m m' : Nat} {f : Int → Ent} (h : MBox w b m f) (hm : m ≤ m') : MBox w b m' f := by
  obtain ⟨D, h1, h2, h3⟩ := h
  exact ⟨D, h1.mono hm, h2, h3⟩
theorem SBox.more {w : World} {tb b m m' : Nat} {n : Int} {f : Int → Ent} {cnt : Nat → Int} {low : Int} (h : SBox w tb b m n f cnt low) (hm : m ≤ m') : SBox w tb b m' n f cnt low := ⟨h.cells, h.map.more hm, h.ne⟩
theorem SBox.field {w : World} {tb b m : Nat} {n : Int} {f : Int → Ent} {cnt : Nat → Int} {low : Int} (h : SBox w tb b m n f cnt low) : w.cell? ⟨tb, 1, none⟩ = some (.map (some b)) ∧ w.cell? ⟨tb, 6, none⟩ = some (.int .i64 low) ∧ w.frozen? ⟨tb, 6, none⟩ = false ∧ w.cell? ⟨tb, 0, none⟩ = some (.int .i64 n) :=
  ⟨cell_of_row w tb 1 _ _ _ h.cells, cell_of_row w tb 6 _ _ _ h.cells, frozen_of_row w tb 6 _ _ h.cells, cell_of_row w tb 0 _ _ _ h.cells⟩
theorem SBox.setLow {w : World} {tb b m : Nat} {n : Int} {f : Int → Ent} {cnt : Nat → Int} {low : Int} (h : SBox w tb b m n f cnt low) (v : Int) : SBox (w.setCell ⟨tb, 6, none⟩ (.int .i64 v)) tb b m n f cnt v :=
  ⟨heap_setCell_same w tb 6 _ _ _ h.cells, h.map.keep (heap_setCell_other w _ b _ (fun e => h.ne e.symm)), h.ne⟩
set_option maxRecDepth 100000 in
set_option maxHeartbeats 2000000 in
theorem set_any (tb b m : Nat) (n : Int) (f : Int → Ent) (cnt : Nat → Int) (low : Int) (w : World) (h : SBox w tb b m n f cnt low) (k : Int) (hk : (Lit.int .i64 k).wf = true) (s s' : Nat) (hs : s < 4) (hs' : s' < 4) (us ep : Int) (hf : (f k).st = (s : Nat)) (hcnt : ∀ i, -1000000 ≤ cnt i ∧ cnt i ≤ 1000000) (hm : m < 1000000) :
    Calls Try.prog 27 #[.pointer (some ⟨tb, 0, none⟩), .int .i64 k, entV ⟨(s' : Nat), us, ep⟩] w (SetP tb b m n f cnt low k s s' us ep w) := by
  have h1 : SBox (w.alloc (.cells #[.int .i64 (s' : Nat), .int .i64 us, .int .i64 ep] 63)) tb b m n f cnt low := h.next ((Below.refl _ _).alloc (Nat.le_refl _) _)
  unfold entV
  go_enter Try.func27, Try.ntmps27
  have hget := fun w' (hw' : SBox w' tb b m n f cnt low) => get_any tb b m n f cnt low w' hw' k hk
  unfold entV at hget
  rw [hf] at hget
  have hfl := fun w' => field_st (s : Nat) (.int .i64 (f k).us) (.int .i64 (f k).ep) w'
  have hix := fun w' => index_count tb s hs w'
  have HGET := Lib.hid hget
  have H1 := Lib.hid h1
  have hc0 := (hcnt s).1
  have hc0' := (hcnt s).2
  obtain ⟨W, hWW⟩ : ∃ W, w.alloc (.cells #[.int .i64 (s' : Nat), .int .i64 us, .int .i64 ep] 63) = W := ⟨_, rfl⟩
  rw [hWW] at H1
  have HWW := Lib.hid hWW
  clear hget h1 hf hWW
  go_upto_region 1 with (fail)
  rw [HWW.out]
  go_cut [] from 6 to 18 (fun wx => SBox wx tb b m n f (upd cnt s (cnt s - 1)) low ∧ Frm (· = tb) W wx)
  case first =>
    go_region_law (first
      | (refine step_wanted _ rfl ?_; go_simp; go_at_call 34; refine Calls.mono (HGET.out _ (by exact H1.out.drew)) ?_; rintro e w2 ⟨rfl, hb2⟩; have hS2 := SBox.next H1.out.drew hb2; have c2 := (hS2.count s hs).1; have f2 := (hS2.count s hs).2)
      | fail)
    all_goals go_wp2_with fail
    all_goals go_meet
    all_goals exact ⟨by rw [wrap_small (by omega) (by omega)]; exact hS2.setCount s hs _, (((Frm.refl (· = tb) W).drew).trans (Frm.of_below hb2)).setCell tb (2 + s) (Or.inl rfl) _⟩
  case rest =>
    obtain ⟨hS3, hF3⟩ := hcut
    have hxw : w.heap.size ≠ tb := fun e => by have := h.lt; omega
    have hWs : W.heap.size = w.heap.size + 1 := by rw [← HWW.out]; simp
    have hx3 : wc.heap[w.heap.size]? = some (.cells #[.int .i64 (s' : Nat), .int .i64 us, .int .i64 ep] 63 (0, 0)) := (hF3.block w.heap.size (by omega) hxw).trans (by rw [← HWW.out]; exact heap_alloc_new w _)
    have x0 : wc.drew.cell? ⟨w.heap.size, 0, none⟩ = some (.int .i64 (s' : Nat)) := cell_of_row wc w.heap.size 0 _ _ _ hx3
    have hS3d := hS3.drew
    obtain ⟨c3, f3⟩ := hS3d.count s' hs'
    have hc1 : -1000001 ≤ upd cnt s (cnt s - 1) s' ∧ upd cnt s (cnt s - 1) s' ≤ 1000000 := by
      unfold upd
      have := hcnt s'
      split <;> omega
    have hix' := fun w' => index_count tb s' hs' w'
    have HS3 := Lib.hid hS3d
    have HF3 := Lib.hid hF3
    have HX3 := Lib.hid hx3
    clear hS3 hS3d hF3 hx3
    go_upto_region 2 with (fail)
    go_cut [] from 19 to 29 (fun wx => SBox wx tb b m n f (upd (upd cnt s (cnt s - 1)) s' (upd cnt s (cnt s - 1) s' + 1)) low ∧ Frm (· = tb) wc wx)
    case first =>
      go_region_law (fail)
      all_goals go_wp2_with fail
      all_goals go_meet
      all_goals exact ⟨by rw [wrap_small (by omega) (by omega)]; exact HS3.out.setCount s' hs' _, ((Frm.refl (· = tb) wc).drew).setCell tb (2 + s') (Or.inl rfl) _⟩
    case rest =>
      obtain ⟨hS4, hF4⟩ := hcut
      have hx4 := (hF4.block w.heap.size (by have := HF3.out.size; omega) hxw).trans HX3.out
      have x4 : wc.cell? ⟨w.heap.size, 0, none⟩ = some (.int .i64 (s' : Nat)) := cell_of_row wc w.heap.size 0 _ _ _ hx4
      obtain ⟨e1, e6, e6f, _⟩ := hS4.field
      have hF : Frm (· = tb) w wc := ((Frm.refl _ w).alloc (.cells #[.int .i64 (s' : Nat), .int .i64 us, .int .i64 ep] 63)).trans (by rw [HWW.out]; exact HF3.out.trans hF4)
      by_cases h0 : s' = 0
      · subst h0
        obtain ⟨wd, hrun, hMd, htd⟩ := hS4.map.drop k hk 0
        have hgd := htd.grown
        have hSd : SBox wd tb b m n (put f k ⟨0, 0, 0⟩) (cnt2 cnt s 0) low := ⟨(hgd.block tb hS4.lt (fun e => hS4.ne (by injection e))).trans hS4.cells, hMd, hS4.ne⟩
        have hFd : Frm (fun j => j = tb ∨ j = b) w wd := (hF.mono (fun j _ h => Or.inl h)).trans ((Frm.of_grown hgd).mono (fun j _ h => Or.inr h))
        obtain ⟨d1, d6, d6f, _⟩ := hSd.field
        have HSD := Lib.hid hSd
        have HFD := Lib.hid hFd
        unfold keyV at hrun
        clear hSd hFd hMd htd hgd
        by_cases hlk : low ≤ k
        · go_wp2
          refine bodyPost_ret (results_none rfl _ _ _) rfl ⟨rfl, ?_, HFD.out.setCell tb 6 (Or.inl (Or.inl rfl)) _⟩
          rw [if_pos rfl, if_pos rfl, show min low k = low from by omega]
          exact (HSD.out.setLow low).more (by omega)
        · go_wp2
          refine bodyPost_ret (results_none rfl _ _ _) rfl ⟨rfl, ?_, HFD.out.setCell tb 6 (Or.inl (Or.inl rfl)) _⟩
          rw [if_pos rfl, if_pos rfl, show min low k = k from by omega]
          exact (HSD.out.setLow k).more (by omega)
      · have t0 : ((s' : Int) == 0) = false := by rw [beq_eq_false_iff_ne]; omega
        have hS4d := hS4.drew
        obtain ⟨wu, hrun, hMu, hgu⟩ := hS4d.map.store hm k hk ⟨(s' : Nat), us, ep⟩
        have hSu : SBox wu tb b (m + 1) n (put f k ⟨(s' : Nat), us, ep⟩) (cnt2 cnt s s') low := ⟨(hgu.block tb hS4.lt (fun e => hS4.ne (by injection e))).trans hS4.cells, hMu, hS4.ne⟩
        have hFu : Frm (fun j => j = tb ∨ j = b) w wu := ((hF.drew).mono (fun j _ h => Or.inl h)).trans ((Frm.of_grown hgu).mono (fun j _ h => Or.inr h))
        have y0 : wc.drew.cell? ⟨w.heap.size, 0, none⟩ = some (.int .i64 (s' : Nat)) := cell_of_row wc w.heap.size 0 _ _ _ hx4
        have y1 : wc.drew.cell? ⟨w.heap.size, 1, none⟩ = some (.int .i64 us) := cell_of_row wc w.heap.size 1 _ _ _ hx4
        have y2 : wc.drew.cell? ⟨w.heap.size, 2, none⟩ = some (.int .i64 ep) := cell_of_row wc w.heap.size 2 _ _ _ hx4
        have g1 : wc.drew.cell? ⟨tb, 1, none⟩ = some (.map (some b)) := e1
        have HSU := Lib.hid hSu
        have HFU := Lib.hid hFu
        have H0 := Lib.hid h0
        unfold keyV entV at hrun
        clear hSu hFu hMu hgu h0
        go_wp2_with fail
        go_region_law (fail)
        all_goals go_end0
        all_goals exact ⟨rfl, by rw [if_neg H0.out, if_neg H0.out]; exact HSU.out, HFU.out⟩
end Go.Proofs.Ytjpmlojpcgfcfaa
