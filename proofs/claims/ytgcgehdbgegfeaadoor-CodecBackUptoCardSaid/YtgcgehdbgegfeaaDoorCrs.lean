/- Contract of package crc: Sum. Conditions: the table lies where the program's text lays it. -/
import Derived.Test.YtgcgehdbgegfeaaDoorMem
import Derived.Test.YtgcgehdbgegfeaaDoorCrp
import Derived.Laws.BitsAllLaws
import Derived.Lib.SmallJoins
namespace Go.Proofs.YtgcgehdbgegfeaaDoor
open Go.ChangeShapes Go.WideShapes Go.ChangeAt Go.RowKit
set_option linter.unusedSimpArgs false
set_option linter.unusedVariables false
theorem ret_intC {k : IntKind} {a b : Int} (h : a = b) : Ending.returned (.int k a) = .returned (.int k b) := by rw [h]
theorem nextB {a W w1 : World} (hb : Below W.heap.size W w1) (h : Below a.heap.size a W) : Below a.heap.size a w1 := h.trans (hb.mono h.size)
theorem belowN {B : Nat} {a w : World} (h : Below B a w) (n : Nat) : Below B a (w.drewN n) := ⟨h.os, h.tape, h.output, h.size, h.block⟩
/-- the table as it is laid -/
def Nibs (w : World) : Prop := 0 < w.heap.size ∧ ∀ i, i < 16 → w.cell? ⟨0, i, none⟩ = some (.int .u32 (Cr.nib.getD i 0 : Nat))
theorem Nibs.below {w w' : World} {B : Nat} (h : Nibs w) (hb : Below B w w') (hB : 0 < B) : Nibs w' :=
  ⟨Nat.lt_of_lt_of_le h.1 hb.size, fun i hi => by rw [hb.cell (p := ⟨0, i, none⟩) hB]; exact h.2 i hi⟩
theorem Nibs.next {w w' : World} (h : Nibs w) (hb : Below w.heap.size w w') : Nibs w' := h.below hb h.1
def u8n (l : List UInt8) : List Nat := l.map UInt8.toNat
theorem u8n_lt (l : List UInt8) : ∀ x ∈ u8n l, x < 256 := by
  intro x hx
  obtain ⟨b, _, rfl⟩ := List.mem_map.1 hx
  exact b.toNat_lt
/-- a slice of rows of bytes -/
def RdS (w : World) (B : Nat) (v : Value) (ls : List (List UInt8)) : Prop :=
  ∃ vs, RdV w B v vs ∧ vs.length = ls.length ∧ ∀ (i : Nat) x l, vs[i]? = some x → ls[i]? = some l → RdV w B x (bv l)
theorem RdS.below {w w' : World} {B : Nat} {v : Value} {ls : List (List UInt8)} (h : RdS w B v ls) (hb : Below B w w') : RdS w' B v ls := by
  obtain ⟨vs, h1, h2, h3⟩ := h
  exact ⟨vs, h1.below hb, h2, fun i x l hx hl => (h3 i x l hx hl).below hb⟩
theorem byte_walk (c : Nat) (x : UInt8) (hc : c < 4294967296) : ∃ d m g d2 m2 g2 : Nat,
    bits .xor .u32 (c : Int) (x.toNat : Int) = (d : Int) ∧ bits .and .u32 (d : Int) 15 = (m : Int) ∧ m < 16 ∧ g = Cr.nib.getD m 0 ∧ d < 4294967296 ∧ d2 < 4294967296 ∧ m2 < 16 ∧
    bits .xor .u32 (g : Int) ((d : Int) / 16) = (d2 : Int) ∧ bits .and .u32 (d2 : Int) 15 = (m2 : Int) ∧ g2 = Cr.nib.getD m2 0 ∧ bits .xor .u32 (g2 : Int) ((d2 : Int) / 16) = (Cr.byte c x.toNat : Int) := by
  have hx := x.toNat_lt
  have hd : c ^^^ x.toNat < 2 ^ 32 := Nat.xor_lt_two_pow hc (by omega)
  have hgl : ∀ m, Cr.nib.getD m 0 < 2 ^ 32 := by
    intro m
    rcases Nat.lt_or_ge m 16 with h | h
    · have : ∀ m : Nat, m < 16 → Cr.nib.getD m 0 < 2 ^ 32 := by decide
      exact this m h
    · rw [List.getD_eq_getElem?_getD, List.getElem?_eq_none (by simpa [Cr.nib] using h)]; decide
  have hd2 := Cr.nb_lt hd
  refine ⟨c ^^^ x.toNat, (c ^^^ x.toNat) % 16, _, Cr.nb (c ^^^ x.toNat), Cr.nb (c ^^^ x.toNat) % 16, _, u32_xor_nat _ _ hc (by omega), ?_, by omega, rfl, hd, hd2, by omega, ?_, ?_, rfl, ?_⟩
  · rw [show (15 : Int) = ((15 : Nat) : Int) from rfl, u32_and_nat _ _ hd (by decide), nat_mask4]
  · rw [show (((c ^^^ x.toNat : Nat) : Int) / 16) = (((c ^^^ x.toNat) / 16 : Nat) : Int) from by simp, u32_xor_nat _ _ (hgl _) (by omega)]; rfl
  · rw [show (15 : Int) = ((15 : Nat) : Int) from rfl, u32_and_nat _ _ hd2 (by decide), nat_mask4]
  · rw [show ((Cr.nb (c ^^^ x.toNat) : Int) / 16) = ((Cr.nb (c ^^^ x.toNat) / 16 : Nat) : Int) from by simp, u32_xor_nat _ _ (hgl _) (by omega), ← Cr.nb_byte]; rfl
theorem flat_snoc (ls : List (List UInt8)) (k : Nat) (h : k < ls.length) : (ls.take (k + 1)).flatten = (ls.take k).flatten ++ ls[k] := by
  rw [List.take_succ_eq_append_getElem h, List.flatten_append]; simp
theorem u8n_append (a b : List UInt8) : u8n (a ++ b) = u8n a ++ u8n b := by simp [u8n]
theorem run_snoc (c : Nat) (l : List UInt8) (k : Nat) (h : k < l.length) : Cr.run c (u8n (l.take (k + 1))) = Cr.byte (Cr.run c (u8n (l.take k))) l[k].toNat := by
  rw [List.take_succ_eq_append_getElem h, u8n_append, Cr.run_append]; rfl
set_option maxRecDepth 100000 in
set_option maxHeartbeats 4000000 in
theorem sum_any (w : World) (B : Nat) (v : Value) (ls : List (List UInt8)) (h : RdS w B v ls) (hn : Nibs w) :
    Calls Tryd.prog 64 #[v] w fun e w' => e = .returned (.int .u32 (Cr.sum (u8n ls.flatten))) ∧ w = w' := by
  obtain ⟨vs, hv, hl, hrows⟩ := h
  have hvv := hv
  obtain ⟨A, c, rfl, hlc, hcm, hA⟩ := hv
  unfold maxLen at hcm
  rw [hl] at hlc hA hvv ⊢
  have HV := Lib.hid hvv
  have HR := Lib.hid hrows
  have HN := Lib.hid hn
  have HL := Lib.hid hl
  clear hA hvv hrows hn hl
  go_enter Tryd.func64, Tryd.ntmps64
  go_wp2_with fail
  go_loop [3, 10] (fun s i => ∃ (k r : Nat), k ≤ ls.length ∧ i = .int .i64 k ∧ s = .int .u32 r ∧ r < 4294967296 ∧ Hid (r = Cr.run Cr.I (u8n (ls.take k).flatten))) (fun _ i => ls.length - (intOf i).toNat)
  case atStart => exact ⟨0, Cr.I, by omega, rfl, rfl, by decide, Lib.hid rfl⟩
  case round =>
    obtain ⟨k, r, hk, rfl, rfl, hr, HE⟩ := hrel
    by_cases hlt : k < ls.length
    · have hkv : k < vs.length := by rw [HL.out]; exact hlt
      have hget : vs[k]? = some vs[k] := List.getElem?_eq_getElem hkv
      obtain ⟨b, off, rfl, hbB, hcell⟩ := HV.out.get hget
      have hrow := HR.out k _ _ hget (List.getElem?_eq_getElem hlt)
      have hfl := flat_snoc ls k hlt
      have HF := Lib.hid hfl
      generalize hlk : ls[k] = l at *
      generalize vs[k] = x at *
      obtain ⟨A2, c2, rfl, hlc2, hcm2, hA2⟩ := id hrow
      rw [bv_length] at hlc2 hA2 hcell
      have HX := Lib.hid hrow
      unfold maxLen at hcm2
      clear hA2 hrow hget hfl hkv hlk
      rw [bv_length] at HX
      go_wp2_with fail
      go_loop [3, 16] (fun s i => ∃ (j q : Nat), j ≤ l.length ∧ i = .int .i64 j ∧ s = .int .u32 q ∧ q < 4294967296 ∧ Hid (q = Cr.run r (u8n (l.take j)))) (fun _ i => l.length - (intOf i).toNat)
      case atStart => exact ⟨0, r, by omega, rfl, rfl, hr, Lib.hid rfl⟩
      case round =>
        obtain ⟨j, q, hj, rfl, rfl, hq, HQ⟩ := hrel
        by_cases hlt2 : j < l.length
        · have hget2 : (bv l)[j]? = some (.int .u8 (l[j].toNat : Int)) := by rw [bv_get, List.getElem?_eq_getElem hlt2]; rfl
          obtain ⟨b2, off2, rfl, hbB2, hcell2⟩ := HX.out.get hget2
          have hsn := run_snoc r l j hlt2
          obtain ⟨d, m, g, d2, m2, g2, e1, e2, hm, hg, hd, hd2, hm2, e3, e4, hg2, e5⟩ := byte_walk q l[j] hq
          have hby : Cr.byte q l[j].toNat < 4294967296 := Cr.byte_lt hq l[j].toNat_lt
          generalize hby2 : Cr.byte q l[j].toNat = q2 at *
          have HS := Lib.hid hsn
          have HY := Lib.hid hby2
          have n1 := HN.out.2 m hm
          have n2 := HN.out.2 m2 hm2
          rw [← hg] at n1
          rw [← hg2] at n2
          clear hsn hget2 hg hg2 hby2
          have hxb := l[j].toNat_lt
          generalize l[j].toNat = xb at *
          go_wp2_with fail
          go_round
          case rel => exact ⟨j + 1, q2, by omega, by go_num, rfl, hby, Lib.hid (by rw [HS.out, ← HQ.out, HY.out])⟩
          case measure => simp [intOf]; omega
        · obtain rfl : j = l.length := by omega
          have hq2 := HQ.out
          rw [List.take_length] at hq2
          have hre : q = Cr.run Cr.I (u8n (ls.take (k + 1)).flatten) := by rw [HF.out, u8n_append, Cr.run_append, ← HE.out]; exact hq2
          have HR2 := Lib.hid hre
          clear hq2 hre
          go_wp2_with fail
          go_round
          case rel => exact ⟨k + 1, q, by omega, by go_num, rfl, hq, HR2⟩
          case measure => simp [intOf]; omega
    · obtain rfl : k = ls.length := by omega
      have hre := HE.out
      rw [List.take_length] at hre
      have HR2 := Lib.hid hre
      clear hre
      go_wp2_with fail
      go_ret
      refine ⟨?_, rfl⟩
      show Ending.returned (.int .u32 (bits BinOp.xor IntKind.u32 IntKind.u32.max (r : Int))) = _
      rw [show IntKind.u32.max = ((Cr.I : Nat) : Int) from by decide, u32_xor_nat _ _ (by decide) hr, Nat.xor_comm]
      unfold Cr.sum
      rw [← HR2.out]
theorem RdV.litm (w : World) (cs : List Value) (t : TypeId) (fr : Nat × Nat) (h : cs.length ≤ 1000000) : RdV (w.alloc (.cells cs.toArray t fr)) (w.heap.size + 1) (.slice (some ⟨w.heap.size, 0, none⟩) cs.length cs.length) cs :=
  ⟨_, _, rfl, Nat.le_refl _, by unfold maxLen; omega, fun hn => ⟨w.heap.size, 0, rfl, by omega, fun j u hu => by rw [Nat.zero_add, World.cell?_alloc_mark]; simpa using hu⟩⟩
/-- rows that were just made -/
theorem RdS.two (w : World) (a b : List UInt8) (t1 t2 t3 : TypeId) (f1 f2 : Nat × Nat) (ha : a.length ≤ 1000) (hb : b.length ≤ 1000) :
    RdS (((w.alloc (.cells (bv a).toArray t1 f1)).alloc (.cells (bv b).toArray t2 f2)).alloc (.cells #[.slice (some ⟨w.heap.size, 0, none⟩) a.length a.length, .slice (some ⟨w.heap.size + 1, 0, none⟩) b.length b.length] t3)) (w.heap.size + 3) (.slice (some ⟨w.heap.size + 2, 0, none⟩) 2 2) [a, b] := by
  have h1 := RdV.litm w (bv a) t1 f1 (by rw [bv_length]; omega)
  have h2 := RdV.litm (w.alloc (.cells (bv a).toArray t1 f1)) (bv b) t2 f2 (by rw [bv_length]; omega)
  have h3 := RdV.lit ((w.alloc (.cells (bv a).toArray t1 f1)).alloc (.cells (bv b).toArray t2 f2)) [.slice (some ⟨w.heap.size, 0, none⟩) a.length a.length, .slice (some ⟨w.heap.size + 1, 0, none⟩) b.length b.length] t3 (by simp)
  rw [World.size_alloc, bv_length] at h2
  rw [World.size_alloc, World.size_alloc] at h3
  rw [bv_length] at h1
  refine ⟨_, h3, rfl, fun i x l hx hl => ?_⟩
  have h1' := ((h1.alloc (by rw [World.size_alloc]; omega) (.cells (bv b).toArray t2 f2)).alloc (by rw [World.size_alloc, World.size_alloc]; omega) (.cells #[.slice (some ⟨w.heap.size, 0, none⟩) a.length a.length, .slice (some ⟨w.heap.size + 1, 0, none⟩) b.length b.length] t3)).more (show w.heap.size + 1 ≤ w.heap.size + 3 by omega)
  have h2' := (h2.alloc (by simp) (.cells #[.slice (some ⟨w.heap.size, 0, none⟩) a.length a.length, .slice (some ⟨w.heap.size + 1, 0, none⟩) b.length b.length] t3)).more (show w.heap.size + 1 + 1 ≤ w.heap.size + 3 by omega)
  match i, hx, hl with
  | 0, hx, hl =>
    cases hx; cases hl; exact h1'
  | 1, hx, hl =>
    cases hx; cases hl; exact h2'
  | n + 2, hx, hl => simp at hx
theorem RdS.nil_ (w : World) (B : Nat) : RdS w B (.slice none 0 0) [] := ⟨[], RdV.nil_ _ _, rfl, fun i x l hx => by simp at hx⟩
end Go.Proofs.YtgcgehdbgegfeaaDoor
