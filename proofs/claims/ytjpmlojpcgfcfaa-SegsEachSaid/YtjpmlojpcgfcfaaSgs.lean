/- The table of segments: Release's closure, the way on which it appends. Conditions: none. -/
import Derived.Test.YtjpmlojpcgfcfaaSgr
namespace Go.Proofs.Ytjpmlojpcgfcfaa
open Go.ChangeShapes Go.WideShapes Go.ChangeAt Go.RowKit Go.Maps
set_option linter.unusedSimpArgs false
set_option linter.unusedVariables false
theorem own_cap {w : World} {base n : Nat} {e : TypeId} {size : Nat} {v : Value} {xs : List Value} (h : w.ownsRow base e size v n xs) (hn : 0 < n) : ∃ g cap, v = .slice (some ⟨g, 0, none⟩) n cap := by
  obtain ⟨_, ⟨rfl, h0⟩ | ⟨g, cap, _, h1, _⟩⟩ := h
  · omega
  · exact ⟨g, cap, h1⟩
set_option maxRecDepth 100000 in
set_option maxHeartbeats 2000000 in
theorem rel_app (base eb ob : Nat) (ep : Int) (N : Nat) (hN : N ≤ 65536) (f : Int → Ent) (w : World) (k : Nat) (hk : k < N) (hI : RelI base eb ob ep f k w) (hc : (f (k : Nat)).st = 3 ∧ (f (k : Nat)).ep ≤ ep) :
    Calls Try.prog 39 #[.int .i64 (k : Nat), entV (f (k : Nat)), .pointer (some ⟨eb, 0, none⟩), .pointer (some ⟨ob, 0, none⟩)] w fun e w2 => ((e = .returned (.bool true) ∧ RelI base eb ob ep f (k + 1) w2) ∨ (e = .returned (.bool false) ∧ False)) ∧ Frm (fun j => j = ob ∨ base ≤ j) w w2 := by
  unfold entV
  generalize hf : f (k : Nat) = x
  obtain ⟨s, us, p⟩ := x
  rw [hf] at hc
  simp only at hc ⊢
  obtain ⟨rfl, c2⟩ := hc
  have hlen := relN_len f ep k
  have hba : Below w.heap.size w (w.alloc (.cells #[.int .i64 3, .int .i64 us, .int .i64 p] 63)) := (Below.refl _ w).alloc (Nat.le_refl _) _
  have hI1 := hI.next hba
  obtain ⟨h1, ⟨v, h2, h3⟩, h4, h5, h6, h7⟩ := hI1
  have HC := Lib.hid (show (f (k : Nat)).st = 3 ∧ (f (k : Nat)).ep ≤ ep by rw [hf]; exact ⟨rfl, c2⟩)
  have H2 := Lib.hid h2
  have H3 := Lib.hid h3
  have x1 := h1
  have H1 := Lib.hid h1
  have y1 : (w.alloc (.cells #[.int .i64 3, .int .i64 us, .int .i64 p] 63)).cell? ⟨ob, 0, none⟩ = some v := cell_of_row _ ob 0 _ _ _ h2
  have HF := Lib.hid hf
  have HI := Lib.hid hI
  have HB := Lib.hid hba
  clear h1 h2 h3 hI hba hf
  go_enter Try.func39, Try.ntmps39
  go_upto_region 2 with (fail)
  refine wp_region_lit ?_
  refine wpList_plain rfl fun K1 hK1 => ?_
  go_simp
  refine hK1 _ _ ?_
  refine wpList_plain rfl fun K2 hK2 => ?_
  go_simp
  refine hK2 _ _ ?_
  refine wpList_plain rfl fun K3 hK3 => ?_
  go_simp
  refine hK3 _ _ ?_
  clear hK1 hK2 hK3 x1 y1
  have HO := Lib.hid (H3.out.alloc (.cells #[.int .i64 (k : Nat)] 3))
  have hlit := RdV.one (w.alloc (.cells #[.int .i64 3, .int .i64 us, .int .i64 p] 63)) (.int .i64 (k : Nat)) 3
  simp only [World.size_alloc] at hlit
  have HL := Lib.hid hlit
  have hbase : base ≤ ((w.alloc (.cells #[.int .i64 3, .int .i64 us, .int .i64 p] 63)).alloc (.cells #[.int .i64 (k : Nat)] 3)).heap.size := by simp at h7 ⊢; omega
  clear hlit
  refine wpList_append_rd _ rfl _ _ 53 rfl base 3 (.int .i64 0) 8 Try.underlying53 infI rfl v _ _ rfl HO.out _ rfl _ [.int .i64 (k : Nat)] HL.out (by intro u hu; simp at hu; subst hu; rfl) (by show (_ + 1) * 8 ≤ _; omega) (by omega) hbase ?_
  intro v2 w2 ho hg _
  obtain ⟨g2, cap2, rfl⟩ := own_cap ho (by simp)
  have h1' : ((w.alloc (.cells #[.int .i64 3, .int .i64 us, .int .i64 p] 63)).alloc (.cells #[.int .i64 (k : Nat)] 3)).cell? ⟨eb, 0, none⟩ = some (.int .i64 ep) := (World.cell?_of_block (a := ⟨eb, 0, none⟩) (heap_alloc_old _ _ (show eb < _ by omega))).trans H1.out
  have h2' : ((w.alloc (.cells #[.int .i64 3, .int .i64 us, .int .i64 p] 63)).alloc (.cells #[.int .i64 (k : Nat)] 3)).heap[ob]? = some (.cells #[v] 53 (0, 0)) := (heap_alloc_old _ _ (by omega)).trans H2.out
  obtain ⟨hI2, hF2, y2, y3⟩ := rel_push (ep := ep) (f := f) (k := k) ⟨h4, h5, h6, hbase⟩ h1' h2' HO.out hg ho HC.out
  have HI2 := Lib.hid hI2
  have HF2 := Lib.hid ((Frm.of_below (HB.out.alloc HB.out.size (.cells #[.int .i64 (k : Nat)] 3))).trans hF2)
  clear hI2 hF2 h1' h2' hg ho HO HL
  refine wpList_plain rfl fun K4 hK4 => ?_
  go_simp
  refine hK4 _ _ ?_
  clear hK4
  refine wpList_nil ?_
  go_wp2
  go_ret; first | exact ⟨⟨rfl, HI2.out⟩, HF2.out⟩ | exact ⟨Or.inl ⟨rfl, HI2.out⟩, HF2.out⟩
end Go.Proofs.Ytjpmlojpcgfcfaa
