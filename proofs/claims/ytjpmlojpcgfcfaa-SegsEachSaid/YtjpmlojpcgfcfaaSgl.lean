/- The table of segments: Release. Conditions: none. -/
import Derived.Test.YtjpmlojpcgfcfaaSgs
namespace Go.Proofs.Ytjpmlojpcgfcfaa
open Go.ChangeShapes Go.WideShapes Go.ChangeAt Go.RowKit Go.Maps
set_option linter.unusedSimpArgs false
set_option linter.unusedVariables false
theorem rel_closure (base eb ob : Nat) (ep : Int) (N : Nat) (hN : N ≤ 65536) (f : Int → Ent) :
    EachC 39 (fun x y => #[x, y, .pointer (some ⟨eb, 0, none⟩), .pointer (some ⟨ob, 0, none⟩)]) (fun j => j = ob ∨ base ≤ j) N f (RelI base eb ob ep f) (fun _ => False) Try.prog :=
  rel_each base eb ob ep N hN f (fun w k hk hI hc => rel_app base eb ob ep N hN f w k hk hI hc)
/-- the table behind the release of those in L -/
def relP (f : Int → Ent) (L : List Nat) : Int → Ent := fun j => if 0 ≤ j ∧ j.toNat ∈ L then ⟨0, 0, 0⟩ else f j
theorem relP_nil (f : Int → Ent) : relP f [] = f := by funext j; unfold relP; simp
theorem relP_snoc (f : Int → Ent) (L : List Nat) (k : Nat) : relP f (L ++ [k]) = put (relP f L) (k : Nat) ⟨0, 0, 0⟩ := by
  funext j
  unfold relP put
  by_cases h : j = (k : Nat)
  · subst h
    rw [if_pos rfl, if_pos ⟨by omega, by simp⟩]
  · rw [if_neg h]
    have : (0 ≤ j ∧ j.toNat ∈ L ++ [k]) ↔ (0 ≤ j ∧ j.toNat ∈ L) := by
      simp only [List.mem_append, List.mem_singleton]
      constructor
      · rintro ⟨a, b | b⟩
        · exact ⟨a, b⟩
        · omega
      · rintro ⟨a, b⟩; exact ⟨a, Or.inl b⟩
    simp only [this]
theorem relN_mem {f : Int → Ent} {ep : Int} {N k : Nat} : k ∈ relN f ep N ↔ k < N ∧ (f (k : Nat)).st = 3 ∧ (f (k : Nat)).ep ≤ ep := by
  induction N with
  | zero => simp [relN]
  | succ N ih =>
    rw [relN, List.mem_append, ih]
    by_cases h : (f (N : Nat)).st = 3 ∧ (f (N : Nat)).ep ≤ ep
    · rw [if_pos h, List.mem_singleton]
      constructor
      · rintro (⟨a, b⟩ | rfl)
        · exact ⟨by omega, b⟩
        · exact ⟨by omega, h⟩
      · rintro ⟨a, b⟩
        by_cases e : k = N
        · exact Or.inr e
        · exact Or.inl ⟨by omega, b⟩
    · rw [if_neg h]
      constructor
      · rintro (⟨a, b⟩ | hh)
        · exact ⟨by omega, b⟩
        · cases hh
      · rintro ⟨a, b⟩
        by_cases e : k = N
        · subst e; exact absurd b h
        · exact Or.inl ⟨by omega, b⟩
theorem relN_none {f : Int → Ent} {ep : Int} {N : Nat} (h : cntF N f 3 = 0) : relN f ep N = [] := by
  induction N with
  | zero => rfl
  | succ N ih =>
    have hb := (cntF_bound N f 3).1
    rw [cntF] at h
    by_cases e : (f (N : Nat)).st = ((3 : Nat) : Int)
    · rw [if_pos e] at h; omega
    · rw [if_neg e] at h
      rw [relN, ih (by omega), if_neg (fun x => e (by rw [x.1]; rfl))]
      rfl
theorem own_frm {w w' : World} {base n : Nat} {e : TypeId} {v : Value} {xs : List Value} {O : Nat → Prop} (h : w.ownsRow base e 1 v n xs) (hf : Frm O w w') (hO : ∀ j, O j → j < base) : w'.ownsRow base e 1 v n xs := by
  refine ⟨h.1, h.2.imp id ?_⟩
  rintro ⟨g, cap, cur, e1, e2, e3, e4⟩
  have : g < w.heap.size := by
    rcases Nat.lt_or_ge g w.heap.size with h2 | h2
    · exact h2
    · rw [Array.getElem?_eq_none h2] at e3; cases e3
  exact ⟨g, cap, cur, e1, e2, (hf.block g this (fun x => by have := hO g x; omega)).trans e3, e4⟩
theorem Tab.frm {w w' : World} {tb b m N : Nat} {f : Int → Ent} {low : Nat} {O : Nat → Prop} (h : Tab w tb b m N f low) (hf : Frm O w w') (ht : ¬ O tb) (hb : ¬ O b) : Tab w' tb b m N f low :=
  ⟨⟨(hf.block tb h.box.lt ht).trans h.box.cells, h.box.map.keep (hf.block b h.box.map.lt hb), h.box.ne⟩, h.out, h.kind, h.full, h.lowN, h.most⟩
def RelP (tb b m N : Nat) (f : Int → Ent) (ep : Int) (w : World) (e : Ending) (w' : World) : Prop :=
  ∃ v m' lo, e = .returned v ∧ w'.ownsRow w.heap.size 3 1 v (relN f ep N).length (intsV (relN f ep N)) ∧ m' ≤ m + N ∧ Tab w' tb b m' N (relP f (relN f ep N)) lo ∧ Frm (fun j => j = tb ∨ j = b) w w'
set_option maxRecDepth 100000 in
set_option maxHeartbeats 2000000 in
theorem release_any (tb b m N : Nat) (f : Int → Ent) (low : Nat) (w : World) (h : Tab w tb b m N f low) (ep : Int) (hm : m + N < 1000000) :
    Calls Try.prog 23 #[.pointer (some ⟨tb, 0, none⟩), .int .i64 ep] w (RelP tb b m N f ep w) := by
  have hix := fun w' => index_count tb 3 (by omega) w'
  have hb2 : Below w.heap.size w ((w.alloc (.cells #[.int .i64 ep] 3)).alloc (.cells #[.slice none 0 0] 53)) := ((Below.refl _ w).alloc (Nat.le_refl _) _).alloc (by simp) _
  have hT2 := h.next hb2
  obtain ⟨c0, _⟩ := hT2.box.count 3 (by omega)
  by_cases hz : cntF N f 3 = 0
  · have hr : relN f ep N = [] := relN_none hz
    rw [hz] at c0
    have HP := Lib.hid (show RelP tb b m N f ep w (.returned (.slice none 0 0)) ((w.alloc (.cells #[.int .i64 ep] 3)).alloc (.cells #[.slice none 0 0] 53)) from ⟨_, m, low, rfl, by rw [hr]; exact ⟨rfl, Or.inl ⟨rfl, rfl⟩⟩, by omega, by rw [hr, relP_nil]; exact hT2, Frm.of_below hb2⟩)
    clear hz h hT2 hb2 hr
    go_enter Try.func23, Try.ntmps23
    go_wp2
    go_ret
    exact HP.out
  · have t0 : (cntF N f 3 == 0) = false := by rw [beq_eq_false_iff_ne]; exact hz
    have hN1 : 1 ≤ N := by
      rcases Nat.eq_zero_or_pos N with h0 | h0
      · subst h0; exact absurd rfl hz
      · exact h0
    have hmost := h.most
    have htb := h.box.lt
    have hbb := h.box.map.lt
    have hw := walk_release (.pointer (some ⟨w.heap.size, 0, none⟩)) (.pointer (some ⟨w.heap.size + 1, 0, none⟩)) (fun j => j = w.heap.size + 1 ∨ w.heap.size + 3 ≤ j) tb b m N f low (RelI (w.heap.size + 3) w.heap.size (w.heap.size + 1) ep f) (fun _ => False) _ hT2 hN1 (by simp) (rel_closure (w.heap.size + 3) w.heap.size (w.heap.size + 1) ep N hmost f) (by
      intro w1 hb hs
      have hsz : ((w.alloc (.cells #[.int .i64 ep] 3)).alloc (.cells #[.slice none 0 0] 53)).heap.size = w.heap.size + 2 := by simp
      rw [hsz] at hb hs
      have hA : (w.alloc (.cells #[.int .i64 ep] 3)).heap.size = w.heap.size + 1 := by simp
      refine ⟨?_, ⟨.slice none 0 0, ?_, rfl, Or.inl ⟨rfl, rfl⟩⟩, by omega, by omega, by omega, by omega⟩
      · exact (World.cell?_of_block (a := ⟨w.heap.size, 0, none⟩) (hb.block w.heap.size (by omega))).trans (cell_of_row _ w.heap.size 0 _ _ _ ((heap_alloc_old _ _ (by omega)).trans (heap_alloc_new w (.cells #[.int .i64 ep] 3))))
      · have := heap_alloc_new (w.alloc (.cells #[.int .i64 ep] 3)) (.cells #[.slice none 0 0] 53)
        rw [hA] at this
        exact (hb.block (w.heap.size + 1) (by omega)).trans this) (fun k a b' _ hI hb => hI.next hb)
    have HW := Lib.hid hw
    have H2 := Lib.hid hT2
    have HB2 := Lib.hid hb2
    clear hz h hT2 hb2 hw
    go_enter Try.func23, Try.ntmps23
    go_wp2_with fail
    refine HW.out.mono ?_
    rintro e w3 ⟨rfl, hI | hF, hFr⟩
    rotate_left
    · exact hF.elim
    obtain ⟨_, ⟨v, hv, ho⟩, _⟩ := hI
    have hlen := relN_len f ep N
    have hmem : ∀ k ∈ relN f ep N, k < N := fun k hk => (relN_mem.1 hk).1
    have hP : ∀ v m' lo w', w'.ownsRow (w.heap.size + 3) 3 1 v (relN f ep N).length (intsV (relN f ep N)) → m' ≤ m + N → Tab w' tb b m' N (relP f (relN f ep N)) lo → Frm (fun j => j = tb ∨ j = b) w w' → RelP tb b m N f ep w (.returned v) w' := fun v m' lo w' h1 h2 h3 h4 => ⟨v, m', lo, rfl, ⟨h1.1, h1.2.imp id (fun ⟨g, cap, cur, e1, e2, e3⟩ => ⟨g, cap, cur, e1, by omega, e3⟩)⟩, h2, h3, h4⟩
    obtain ⟨L, hL⟩ : ∃ L, relN f ep N = L := ⟨_, rfl⟩
    rw [hL] at ho hlen hmem hP
    have HP := Lib.hid hP
    have hT3 := H2.out.frm hFr (by omega) (by omega)
    have hF3 : Frm (fun j => j = tb ∨ j = b) w w3 := ⟨hFr.os.trans HB2.out.os, hFr.tape.trans HB2.out.tape, hFr.output.trans HB2.out.output, Nat.le_trans HB2.out.size hFr.size, fun j hj _ => (hFr.block j (Nat.lt_of_lt_of_le hj HB2.out.size) (by omega)).trans (HB2.out.block j hj)⟩
    have y1 : w3.cell? ⟨w.heap.size + 1, 0, none⟩ = some v := cell_of_row _ _ 0 _ _ _ hv
    obtain ⟨A, c, rfl, hc1, hc2, _⟩ := RdV.own ho
    have hil : (intsV L).length = L.length := by simp [intsV]
    rw [hil] at hc1
    rw [hil] at ho y1
    have HV := Lib.hid hv
    have HO := Lib.hid ho
    have HT3 := Lib.hid hT3
    have HF3 := Lib.hid hF3
    clear hv ho hT3 hF3 hFr hP hL
    go_wp2
    go_loopw [19] (fun i wr => ∃ k m' lo : Nat, k ≤ L.length ∧ m' ≤ m + k ∧ i = .int .i64 k ∧ Tab wr tb b m' N (relP f (L.take k)) lo ∧ Frm (fun j => j = tb ∨ j = b) w3 wr) (fun i wr => L.length - (intOf i).toNat)
    case atStart => exact ⟨0, m, low, by omega, by omega, rfl, by rw [List.take_zero, relP_nil]; exact HT3.out, Frm.refl _ _⟩
    case round =>
      obtain ⟨k, m', lo, hk, hm', rfl, hT, hF⟩ := hrel
      by_cases hlt : k < L.length
      · have hLk : L[k] < N := hmem _ (List.getElem_mem hlt)
        obtain ⟨b0, off, rfl, hbB, hcell⟩ := (RdV.own (own_frm HO.out hF (by omega))).get (j := k) (u := .int .i64 (L[k] : Nat)) (by unfold intsV; rw [List.getElem?_map, List.getElem?_eq_getElem hlt]; rfl)
        have hs : L.take (k + 1) = L.take k ++ [L[k]] := by rw [List.take_succ_eq_append_getElem hlt]
        have hset := tset_any tb b m' N _ lo wr hT L[k] hLk 0 (by omega) 0 0 (by omega)
        unfold entV at hset
        have HSET := Lib.hid hset
        have HF := Lib.hid hF
        have HS := Lib.hid hs
        obtain ⟨q, hq⟩ : ∃ q, L[k] = q := ⟨_, rfl⟩
        rw [hq] at HSET HS hcell
        clear hset hT hF hs hLk hq
        go_wp2_with fail
        refine HSET.out.mono ?_
        rintro e w4 ⟨rfl, hT4, hF4⟩
        rw [if_pos rfl, if_pos rfl] at hT4
        rw [← relP_snoc, ← HS.out] at hT4
        have HT4 := Lib.hid hT4
        have HF4 := Lib.hid (HF.out.trans hF4)
        clear hT4 hF4
        go_wp2
        go_roundw
        case rel => exact ⟨k + 1, m' + 1, _, by omega, by omega, by go_num, HT4.out, HF4.out⟩
        case measure => simp [intOf]; omega
      · obtain rfl : k = L.length := by omega
        rw [List.take_length] at hT
        have y2 : wr.cell? ⟨w.heap.size + 1, 0, none⟩ = some (.slice A L.length c) := (World.cell?_of_block (a := ⟨w.heap.size + 1, 0, none⟩) (hF.block (w.heap.size + 1) (One.lt HV.out) (by omega))).trans y1
        have HQ := Lib.hid (HP.out _ m' lo wr (own_frm HO.out hF (by omega)) (by omega) hT (HF3.out.trans hF))
        clear hT hF
        go_wp2
        go_ret
        exact HQ.out
end Go.Proofs.Ytjpmlojpcgfcfaa
