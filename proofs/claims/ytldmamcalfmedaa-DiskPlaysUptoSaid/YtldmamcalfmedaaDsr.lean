/- The disk: Flush, Cut, Arm. Conditions: none. -/
import Derived.Test.YtldmamcalfmedaaDst
namespace Go.Proofs.Ytldmamcalfmedaa
open Go.ChangeShapes Go.WideShapes Go.ChangeAt Go.RowKit Go.Maps
set_option linter.unusedSimpArgs false
set_option linter.unusedVariables false
theorem infB : (Try.prog.info? 4).map (fun i => (i.zero, i.size, i.bytes)) = some (some (.bool false), 1, 1) := by kernel_rfl
theorem boolV_one (bs : List Bool) : ∀ u ∈ boolV bs, u.oneCell' = true := by
  intro u hu
  obtain ⟨b, _, rfl⟩ := List.mem_map.1 hu
  rfl
theorem RdX.of_own {M : Nat → Prop} {w : World} {B n : Nat} {e : TypeId} {v : Value} {xs : List Value} (h : w.ownsRow B e 1 v n xs) (hM : ∀ j, B ≤ j → ¬ M j) : RdX M w v xs := by
  obtain ⟨A, c, rfl, h1, h2, h3⟩ := RdV.own h
  refine ⟨A, c, rfl, h1, h2, fun hn => ?_⟩
  obtain ⟨b, off, rfl, hb, hc⟩ := h3 hn
  exact ⟨b, off, rfl, hb, hM b (h.lt b rfl).1, hc⟩
theorem flcl (w : World) (i : Nat) : Calls Try.prog 39 #[.int .i64 (i : Nat)] w fun e w2 => e = .returned (.bool true) ∧ Frm (fun _ => False) w w2 := by
  go_enter Try.func39, Try.ntmps39
  go_wp2
  go_ret
  exact ⟨rfl, Frm.refl _ _⟩
/-- which of the pending writes a row of booleans keeps -/
def keeps (bs : List Bool) : Nat → Bool := fun i => bs.getD i false
set_option maxRecDepth 100000 in
theorem cutcl (cb : Nat) (v : Value) (bs : List Bool) (w : World) (i : Nat) (hi : i ≤ 1000000) (h1 : One w cb v 33) (hr : RdV w w.heap.size v (boolV bs)) :
    Calls Try.prog 42 #[.int .i64 (i : Nat), .pointer (some ⟨cb, 0, none⟩)] w fun e w2 => e = .returned (.bool (keeps bs i)) ∧ Frm (fun _ => False) w w2 := by
  have x1 := h1.cell
  have hr0 := hr
  obtain ⟨A, c, rfl, hc1, hc2, _⟩ := hr
  rw [boolV_length] at hc1 x1 hr0
  unfold maxLen at hc2
  have hc3 : bs.length ≤ 9223372036854775807 := by omega
  clear h1 hc2
  unfold keeps
  by_cases hlt : i < bs.length
  · obtain ⟨b0, off, rfl, hbB, hcell⟩ := hr0.get (j := i) (u := .bool bs[i]) (by unfold boolV; rw [List.getElem?_map, List.getElem?_eq_getElem hlt]; rfl)
    have hg : bs.getD i false = bs[i] := by simp [List.getD, hlt]
    rw [hg]
    clear hg hr0
    generalize bs[i] = x at hcell ⊢
    go_enter Try.func42, Try.ntmps42
    go_wp2
    go_ret
    exact ⟨rfl, Frm.refl _ _⟩
  · have hg : bs.getD i false = false := by simp [List.getD, List.getElem?_eq_none (Nat.le_of_not_lt hlt)]
    rw [hg]
    clear hg hr0
    go_enter Try.func42, Try.ntmps42
    go_wp2
    go_ret
    exact ⟨rfl, Frm.refl _ _⟩
def flushD (d : Dk) : Dk := { d with kept := setL d.size (fun _ => true) d.pend 0 d.kept, pend := [] }
def cutD (d : Dk) (bs : List Bool) : Dk := offD { d with kept := setL d.size (keeps bs) d.pend 0 d.kept, pend := [] }
section
variable (db kb mb pb mm : Nat) (d : Dk) (w : World) (h : DBox w db kb mb pb mm d)
include h
set_option maxRecDepth 100000 in
theorem flush_off (ho : d.off = true) : Calls Try.prog 15 #[.pointer (some ⟨db, 0, none⟩)] w fun e w' => e = .returned (.int .i64 8) ∧ w = w' := by
  have H := Lib.hid (isOff_any db kb mb pb mm d w h)
  rw [ho] at H
  clear h ho
  go_enter Try.func15, Try.ntmps15
  go_wp2_with fail
  refine H.out.mono ?_
  rintro e w2 ⟨rfl, rfl⟩
  go_wp2
  go_ret
  exact ⟨rfl, rfl⟩
set_option maxRecDepth 100000 in
theorem flush_on (ho : d.off = false) (hlen : d.pend.length ≤ 1000000) : Calls Try.prog 15 #[.pointer (some ⟨db, 0, none⟩)] w fun e w' => e = .returned (.int .i64 0) ∧ DBox w' db kb mb pb mm (flushD d) ∧ Frm (fun j => j = db ∨ j = kb ∨ j = mb) w w' := by
  have H := Lib.hid (isOff_any db kb mb pb mm d w h)
  rw [ho] at H
  have HS := Lib.hid (settle_flush db kb mb pb mm d w h (fun _ => true) (fun _ => True) trivial (fun _ _ _ _ => trivial) hlen (fun w1 i _ _ => flcl w1 i))
  clear h ho
  go_enter Try.func15, Try.ntmps15
  go_wp2_with fail
  refine H.out.mono ?_
  rintro e w2 ⟨rfl, rfl⟩
  go_wp2_with fail
  refine HS.out.mono ?_
  rintro e w3 ⟨rfl, hD, hF⟩
  have HD := Lib.hid hD
  have HF := Lib.hid hF
  clear hD hF
  go_wp2
  go_ret
  exact ⟨rfl, HD.out, HF.out⟩
set_option maxRecDepth 100000 in
set_option maxHeartbeats 1000000 in
theorem cut_any (v : Value) (bs : List Bool) (hv : RdX (OwnX d.away db kb mb pb) w v (boolV bs)) (hlen : d.pend.length ≤ 1000000) : Calls Try.prog 19 #[.pointer (some ⟨db, 0, none⟩), v] w fun e w' => e = .returned (.tuple #[]) ∧ DBox w' db kb mb pb mm (cutD d bs) ∧ Frm (fun j => j = db ∨ j = kb ∨ j = mb) w w' := by
  have hlt := h.lt
  obtain ⟨A, c, rfl, hc1, hc2, _⟩ := id hv
  rw [boolV_length] at hc1 hv ⊢
  have hf0 : Frm (fun _ => False) w (w.alloc (.cells #[.slice A bs.length c] 33)) := (Frm.refl _ w).alloc _
  have hone := One.new w (.slice A bs.length c) 33
  have HS := Lib.hid (settle_cut (.pointer (some ⟨w.heap.size, 0, none⟩)) db kb mb pb mm d _ (h.next hf0) (keeps bs) (fun w1 => One w1 w.heap.size (.slice A bs.length c) 33 ∧ RdX (OwnX d.away db kb mb pb) w1 (.slice A bs.length c) (boolV bs)) ⟨hone, hv.frm hf0 (fun _ h => h.elim)⟩
    (fun a b hC hF => ⟨hC.1.frm hF (by omega), hC.2.frm hF (fun j hj => Or.inl (by unfold Own; omega))⟩) hlen (fun w1 i hi hC => cutcl w.heap.size _ bs w1 i (by omega) hC.1 hC.2.rd))
  have HF0 := Lib.hid hf0
  clear h hv hf0 hone
  go_enter Try.func19, Try.ntmps19
  go_wp2_with fail
  refine HS.out.mono ?_
  rintro e w3 ⟨rfl, hD, hF⟩
  have HG := Lib.hid (goOff_any db kb mb pb mm _ w3 hD)
  have HF := Lib.hid ((HF0.out.mono (fun _ _ h => h.elim)).trans hF)
  clear hD hF
  go_wp2_with fail
  refine HG.out.mono ?_
  rintro e w4 ⟨rfl, hD, hF⟩
  have HD := Lib.hid hD
  have HF4 := Lib.hid (HF.out.trans (hF.mono fun j _ h => Or.inl h))
  clear hD hF
  go_wp2
  go_end0
  exact ⟨rfl, HD.out, HF4.out⟩
def armD (d : Dk) (n : Int) (bs : List Bool) : Dk := { d with armed := true, left := max n 1, keep := bs }
set_option maxRecDepth 100000 in
set_option maxHeartbeats 1000000 in
theorem arm0_any (n : Int) (v : Value) (bs : List Bool) (B : Nat) (hv : RdV w B v (boolV bs)) (hl : bs.length ≤ 1000000000) : Calls Try.prog 41 #[.pointer (some ⟨db, 0, none⟩), .int .i64 n, v] w fun e w' => e = .returned (.tuple #[]) ∧ DBox w' db kb mb pb mm (armD d n bs) ∧ Frm (fun j => j = db) w w' := by
  have hlt := h.lt
  have H := Lib.hid h
  have HV := Lib.hid hv
  clear h hv
  obtain ⟨mx, hmx⟩ : ∃ mx, (if n < 1 then 1 else n) = mx := ⟨_, rfl⟩
  have hmx2 : max n 1 = mx := by rw [← hmx]; split <;> omega
  have HMX := Lib.hid hmx2
  clear hmx2
  go_enter Try.func41, Try.ntmps41
  go_upto_region 0 with (fail)
  refine wp_region_lit ?_
  iterate 4 (refine wpList_plain rfl fun K hK => ?_; go_simp; refine hK _ _ ?_; clear hK K)
  refine wpList_plain rfl fun K hK => ?_
  go_simp
  refine hK _ _ ?_
  clear hK K hmx
  refine wpList_plain rfl fun K hK => ?_
  go_simp
  refine hK _ _ ?_
  clear hK K
  refine wpList_append_rd _ rfl _ _ 33 rfl w.heap.size 4 (.bool false) 1 Try.underlying33 infB rfl _ 0 [] rfl (World.ownsRow_nil _ _ _ _) _ rfl _ (boolV bs) HV.out (boolV_one bs) (by rw [boolV_length]; omega) (by omega) (Nat.le_refl _) ?_
  intro v2 w2 ho2 hg2 _
  have hg2' : w.grownBy w2 none := hg2
  have hF2 : Frm (fun _ => False) w w2 := ⟨hg2'.os, hg2'.tape, hg2'.output, hg2'.size, fun j hj _ => hg2'.block j hj (by simp)⟩
  have hD2 := H.out.next hF2
  rw [List.nil_append, Nat.zero_add] at ho2
  have hk2 : RdX (OwnX d.away db kb mb pb) w2 v2 (boolV bs) := RdX.of_own ho2 (fun j hj => OwnX.no (by have := H.out.small; unfold Own; omega) (fun e => by have := H.out.away j e; omega))
  obtain ⟨A2, c2, rfl, _⟩ := RdV.own ho2
  obtain ⟨keepV, pv, kc, h1, _, _, _, _, _, c1, c2', c3, _, _, _, _, _, _, fr⟩ := hD2.at
  have f1 := fr 1
  have f2 := fr 2
  have f3 := fr 3
  have hF : Frm (fun j => j = db) w2 (((w2.setCell ⟨db, 1, none⟩ (.bool true)).setCell ⟨db, 2, none⟩ (.int .i64 mx)).setCell ⟨db, 3, none⟩ (.slice A2 (boolV bs).length c2)) := (((Frm.refl (fun j => j = db) w2).setCell db 1 (Or.inl rfl) _).setCell db 2 (Or.inl rfl) _).setCell db 3 (Or.inl rfl) _
  have H5 := Lib.hid (hD2.turnK (d' := armD d n bs) hF _ (hk2.frm hF (fun j hj => Or.inl (Or.inl hj))) (fun _ _ _ h1 => by
    have := heap_setCell_same _ db 3 _ _ (.slice A2 (boolV bs).length c2) (heap_setCell_same _ db 2 _ _ (.int .i64 mx) (heap_setCell_same w2 db 1 _ _ (.bool true) h1))
    rw [this]
    unfold armD
    rw [HMX.out]
    rfl) rfl rfl rfl rfl)
  have HF := Lib.hid ((hF2.mono (fun _ _ h => h.elim)).trans hF)
  clear hg2 hg2' hF2 hD2 ho2 hk2 h1 hF fr H HV
  iterate 9 (refine wpList_plain rfl fun K hK => ?_; go_simp; refine hK _ _ ?_; clear hK K)
  refine wpList_nil ?_
  go_wp2
  go_end0
  exact ⟨rfl, H5.out, HF.out⟩
end
end Go.Proofs.Ytldmamcalfmedaa
