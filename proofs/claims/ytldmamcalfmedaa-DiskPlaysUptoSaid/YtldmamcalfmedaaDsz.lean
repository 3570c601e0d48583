/- The disk: Read. Conditions: none. -/
import Derived.Test.YtldmamcalfmedaaDsy
namespace Go.Proofs.Ytldmamcalfmedaa
open Go.ChangeShapes Go.WideShapes Go.ChangeAt Go.RowKit Go.Maps
set_option linter.unusedSimpArgs false
set_option linter.unusedVariables false
/-- the last pending write of a sector -/
def lastP (l : List (Nat × List UInt8)) (s : Nat) : Option (List UInt8) := (l.reverse.find? (fun p => p.1 == s)).map (·.2)
theorem lastP_snoc (l : List (Nat × List UInt8)) (p : Nat × List UInt8) (s : Nat) : lastP (l ++ [p]) s = if p.1 = s then some p.2 else lastP l s := by
  unfold lastP
  rw [List.reverse_append, List.reverse_singleton, List.singleton_append, List.find?_cons]
  by_cases h : p.1 = s
  · rw [if_pos h]; simp [h]
  · rw [if_neg h]
    have : (p.1 == s) = false := by rw [beq_eq_false_iff_ne]; exact h
    rw [this]
theorem talF_last (s : Nat) : ∀ (n : Nat) (l : List (Nat × List UInt8)), l.length = n → ((talF l (s : Nat)).cnt = 0 ∧ lastP l s = none) ∨ (0 < (talF l (s : Nat)).cnt ∧ ∃ (i : Nat) (b : List UInt8), (talF l (s : Nat)).last = (i : Nat) ∧ l[i]? = some (s, b) ∧ lastP l s = some b)
  | 0, l, hl => by
    obtain rfl : l = [] := List.eq_nil_of_length_eq_zero hl
    exact Or.inl ⟨rfl, rfl⟩
  | n + 1, l, hl => by
    obtain ⟨r, p, rfl⟩ : ∃ r p, l = r ++ [p] := ⟨l.dropLast, l.getLast (fun e => by rw [e] at hl; cases hl), (List.dropLast_concat_getLast _).symm⟩
    have hr : r.length = n := by simp at hl; exact hl
    rw [talF_snoc, lastP_snoc]
    have hc := (talF_cnt r (s : Nat)).1
    by_cases h : p.1 = s
    · right
      subst h
      rw [if_pos rfl]
      have : put (talF r) (p.1 : Nat) ⟨(talF r (p.1 : Nat)).cnt + 1, (r.length : Nat)⟩ (p.1 : Nat) = ⟨(talF r (p.1 : Nat)).cnt + 1, (r.length : Nat)⟩ := by unfold put; rw [if_pos rfl]
      rw [this]
      exact ⟨by simp only; omega, r.length, p.2, rfl, by simp, rfl⟩
    · rw [if_neg h]
      have : put (talF r) (p.1 : Nat) ⟨(talF r (p.1 : Nat)).cnt + 1, (r.length : Nat)⟩ (s : Nat) = talF r (s : Nat) := by unfold put; rw [if_neg (by omega)]
      rw [this]
      rcases talF_last s n r hr with h1 | ⟨h1, i, b, h2, h3, h4⟩
      · exact Or.inl h1
      · right
        exact ⟨h1, i, b, h2, by rw [List.getElem?_append_left ((List.getElem?_eq_some_iff.1 h3).1)]; exact h3, h4⟩
/-- what a sector tells -/
def readB (d : Dk) (s : Nat) : List UInt8 := (lastP d.pend s).getD ((d.kept.drop (s * d.size)).take d.size)
theorem RdV.cap {w : World} {B n c c' : Nat} {A : Option Addr} {xs : List Value} (h : RdV w B (.slice A n c) xs) (h1 : n ≤ c') (h2 : c' ≤ maxLen) : RdV w B (.slice A n c') xs := by
  obtain ⟨A0, c0, e, a, b, f⟩ := h
  injection e with e1 e2 e3
  subst e1 e2
  exact ⟨_, c', rfl, h1, h2, f⟩
theorem readB_length {w : World} {db kb mb pb mm : Nat} {d : Dk} (h : DBox w db kb mb pb mm d) (s : Nat) (hs : s < d.n) : (readB d s).length = d.size := by
  unfold readB
  rcases talF_last s _ d.pend rfl with ⟨_, e⟩ | ⟨_, i, b, _, e2, e3⟩
  · rw [e]
    have : (s + 1) * d.size ≤ d.n * d.size := Nat.mul_le_mul_right _ hs
    rw [Nat.add_mul, Nat.one_mul] at this
    simp only [Option.getD_none, List.length_take, List.length_drop, h.ok.kept]
    omega
  · rw [e3]
    exact (h.ok.pend _ (List.mem_of_getElem? e2)).2
section
variable (db kb mb pb mm : Nat) (d : Dk) (w : World) (h : DBox w db kb mb pb mm d)
include h
set_option maxRecDepth 100000 in
theorem read_off (ho : d.off = true) (s : Int) : Calls Try.prog 29 #[.pointer (some ⟨db, 0, none⟩), .int .i64 s] w fun e w' => e = .returned (.tuple #[.slice none 0 0, .int .i64 8]) ∧ w = w' := by
  have H := Lib.hid (isOff_any db kb mb pb mm d w h)
  rw [ho] at H
  clear h ho
  go_enter Try.func29, Try.ntmps29
  go_wp2_with fail
  refine H.out.mono ?_
  rintro e w2 ⟨rfl, rfl⟩
  go_wp2
  go_ret2
  exact ⟨rfl, rfl⟩
set_option maxRecDepth 100000 in
theorem read_bad (ho : d.off = false) (s : Int) (hbad : ¬ (0 ≤ s ∧ s < (d.n : Nat))) : Calls Try.prog 29 #[.pointer (some ⟨db, 0, none⟩), .int .i64 s] w fun e w' => e = .returned (.tuple #[.slice none 0 0, .int .i64 1]) ∧ ∃ k, w' = w.drewN k := by
  have H := Lib.hid (isOff_any db kb mb pb mm d w h)
  rw [ho] at H
  have HH := Lib.hid (has_any db kb mb pb mm d w h s)
  rw [decide_eq_false hbad] at HH
  clear h ho hbad
  go_enter Try.func29, Try.ntmps29
  go_wp2_with fail
  refine H.out.mono ?_
  rintro e w2 ⟨rfl, rfl⟩
  go_wp2_with fail
  refine HH.out.mono ?_
  rintro e w3 ⟨rfl, k, rfl⟩
  go_wp2
  go_ret2
  exact ⟨rfl, _, rfl⟩
set_option maxRecDepth 100000 in
set_option maxHeartbeats 4000000 in
theorem read_ok (ho : d.off = false) (s : Nat) (hs : s < d.n) (hrd : 0 ≤ d.reads ∧ d.reads ≤ 1000000000000) (hpl : d.pend.length ≤ 1000000) : Calls Try.prog 29 #[.pointer (some ⟨db, 0, none⟩), .int .i64 (s : Nat)] w fun e w' => ∃ v, e = .returned (.tuple #[v, .int .i64 0]) ∧ w'.ownsRow w.heap.size 5 1 v d.size (bv (readB d s)) ∧ DBox w' db kb mb pb mm { d with reads := d.reads + 1 } ∧ Frm (fun j => j = db) w w' := by
  have hrl := readB_length h s hs
  have H := Lib.hid (isOff_any db kb mb pb mm d w h)
  rw [ho] at H
  have HH := Lib.hid (has_any db kb mb pb mm d w h (s : Nat))
  rw [decide_eq_true (by omega)] at HH
  have hsz := h.ok.size
  have hn := h.ok.n
  have hne := h.ne
  have hls : (Lit.int .i64 ((s : Nat) : Int)).wf = true := by
    simp [Lit.wf, IntKind.min, IntKind.max, IntKind.signed, IntKind.bits]; omega
  have hX := Lib.hid h
  have HRL := Lib.hid hrl
  clear h ho hrl
  go_enter Try.func29, Try.ntmps29
  go_wp2_with fail
  refine H.out.mono ?_
  rintro e w2 ⟨rfl, rfl⟩
  go_wp2_with fail
  refine HH.out.mono ?_
  rintro e w3 ⟨rfl, k, rfl⟩
  have hD3 := hX.out.next (Frm.drewN w k)
  obtain ⟨_, _, _, _, _, _, _, _, _, _, _, _, _, _, _, _, _, c9, fr⟩ := hD3.at
  have f9 := fr 9
  have hF4 : Frm (fun j => j = db) (w.drewN k) ((w.drewN k).setCell ⟨db, 9, none⟩ (.int .i64 (d.reads + 1))) := (Frm.refl (fun j => j = db) (w.drewN k)).setCell db 9 (Or.inl rfl) _
  have hD4 := hD3.turn (d' := { d with reads := d.reads + 1 }) hF4 (fun _ _ _ h1 => heap_setCell_same _ db 9 _ _ _ h1) rfl rfl rfl rfl rfl
  have hat : Calls Try.prog 45 #[.pointer (some ⟨db, 0, none⟩), .int .i64 (s : Nat)] ((w.drewN k).setCell ⟨db, 9, none⟩ (.int .i64 (d.reads + 1))) fun e w' => e = .returned (.slice (some ⟨kb, s * d.size, none⟩) d.size d.size) ∧ ∃ q, w' = ((w.drewN k).setCell ⟨db, 9, none⟩ (.int .i64 (d.reads + 1))).drewN q := at_any db kb mb pb mm _ _ hD4 s hs
  have HAT := Lib.hid hat
  have HD4 := Lib.hid hD4
  have HF4 := Lib.hid ((Frm.drewN w k).trans hF4 : Frm (fun j => j = db) w _)
  clear hat hD3 fr hF4 hD4
  go_wp2_with fail
  refine HAT.out.mono ?_
  rintro e w5 ⟨rfl, q, rfl⟩
  have hD5 := HD4.out.next (Frm.drewN _ q)
  have HF5 := Lib.hid (HF4.out.trans (Frm.drewN _ q))
  generalize ((w.drewN k).setCell ⟨db, 9, none⟩ (.int .i64 (d.reads + 1))).drewN q = W5 at hD5 HF5 ⊢
  have hlook : (Instr.lookup 68 (.map (some mb)) (keyV (s : Nat)) false).run Try.prog W5 = .ok (talV (talF d.pend (s : Nat))) W5 := hD5.map.look (s : Nat) hls
  obtain ⟨_, pv, kc, _, _, hown, hpr, _, _, _, _, _, _, _, c6, c7, _⟩ := hD5.at
  have hown' : W5.ownsRow 0 5 1 (.slice (some ⟨kb, 0, none⟩) d.kept.length kc) d.kept.length (bv d.kept) := hown
  have hpr' : PRow W5 (OwnX d.away db kb mb pb) pb pv d.pend := hpr
  unfold keyV talV at hlook
  have hb2 : (s + 1) * d.size ≤ d.n * d.size := Nat.mul_le_mul_right _ hs
  rw [Nat.add_mul, Nat.one_mul, ← hX.out.ok.kept] at hb2
  have hWF := HF5.out.size
  have hlast := talF_last s _ d.pend rfl
  have HD5 := Lib.hid hD5
  have HFA := Lib.hid ((Frm.refl (fun _ => False) W5).alloc (.cells #[.int .i64 (talF d.pend (s : Nat)).cnt, .int .i64 (talF d.pend (s : Nat)).last] 72))
  have hxa := heap_alloc_new W5 (.cells #[.int .i64 (talF d.pend (s : Nat)).cnt, .int .i64 (talF d.pend (s : Nat)).last] 72)
  rcases hlast with ⟨l1, l2⟩ | ⟨l1, i, bb, l2, l3, l4⟩
  · have hrb : readB d s = (d.kept.drop (s * d.size)).take d.size := by unfold readB; rw [l2]; rfl
    have hsrc0 := (RdV.own hown').part (s * d.size) d.size (by rw [bv_length]; omega)
    rw [Nat.zero_add, show ((bv d.kept).drop (s * d.size)).take d.size = bv (readB d s) from by rw [hrb]; simp [bv]] at hsrc0
    have hsrc := (hsrc0.cap (Nat.le_refl d.size) (by unfold maxLen; omega)).alloc (Nat.le_refl _) (.cells #[.int .i64 (talF d.pend (s : Nat)).cnt, .int .i64 (talF d.pend (s : Nat)).last] 72)
    rw [l1] at hsrc hlook HFA hxa
    have HSRC := Lib.hid hsrc
    generalize (talF d.pend (s : Nat)).last = la at *
    clear hown hown' hpr hpr' hD5 hsrc0 hsrc l1 l2 hb2 hrb hxa
    go_upto_region 10 with (fail)
    have hf6 : Frm (fun _ => False) W5 (W5.alloc (.cells #[.int .i64 0, .int .i64 la] 72)) := HFA.out
    have hba : w.heap.size ≤ (W5.alloc (.cells #[.int .i64 0, .int .i64 la] 72)).heap.size := Nat.le_trans hWF hf6.size
    have HF6 := Lib.hid hf6
    clear hf6
    refine wp_region_lit ?_
    refine wpList_plain rfl fun K1 hK1 => ?_
    go_simp
    refine hK1 _ _ ?_
    clear hK1 K1
    refine wpList_append_rd _ rfl _ _ 32 rfl w.heap.size 5 (.int .u8 0) 1 Try.underlying32 inf8 rfl _ 0 [] rfl (World.ownsRow_nil _ _ _ _) _ rfl _ (bv (readB d s)) HSRC.out (bv_one _) (by rw [bv_length, HRL.out]; omega) (by omega) hba ?_
    intro v8 w8 ho8 hg8 _
    rw [List.nil_append, Nat.zero_add, bv_length, HRL.out] at ho8
    have hg8' : (W5.alloc (.cells #[.int .i64 0, .int .i64 la] 72)).grownBy w8 none := hg8
    have hf8 : Frm (fun _ => False) W5 w8 := HF6.out.trans ⟨hg8'.os, hg8'.tape, hg8'.output, hg8'.size, fun j hj _ => hg8'.block j hj (by simp)⟩
    have HO8 := Lib.hid ho8
    have HD8 := Lib.hid (HD5.out.next hf8)
    have HF8 := Lib.hid (HF5.out.trans (hf8.mono fun _ _ h => h.elim))
    clear ho8 hg8 hg8' hf8
    refine wpList_plain rfl fun K1 hK1 => ?_
    go_simp
    refine hK1 _ _ ?_
    clear hK1 K1
    refine wpList_plain rfl fun K1 hK1 => ?_
    go_simp
    refine hK1 _ _ ?_
    clear hK1 K1
    refine wpList_nil ?_
    go_wp2
    go_ret2
    exact ⟨v8, rfl, HO8.out, HD8.out, HF8.out⟩
  · have hrb : readB d s = bb := by unfold readB; rw [l4]; rfl
    obtain ⟨cap, vv, e1, y0, y1, hvv⟩ := hpr'.cells l3
    subst e1
    have hil : i < d.pend.length := (List.getElem?_eq_some_iff.1 l3).1
    have hcb := (talF_cnt d.pend (s : Nat)).2
    rw [l2] at hlook HFA hxa
    have hpn : d.pend ≠ [] := fun e => by rw [e] at hil; simp at hil
    generalize (talF d.pend (s : Nat)).cnt = cn at *
    have hW6 : ∀ j, j < W5.heap.size → (W5.alloc (.cells #[.int .i64 cn, .int .i64 (i : Nat)] 72)).heap[j]? = W5.heap[j]? := fun j hj => heap_alloc_old W5 _ hj
    have x6 : (W5.alloc (.cells #[.int .i64 cn, .int .i64 (i : Nat)] 72)).cell? ⟨db, 6, none⟩ = some (.slice (some ⟨pb, 0, none⟩) d.pend.length cap) := (World.cell?_of_block (a := ⟨db, 6, none⟩) (hW6 db HD5.out.lt.1)).trans c6
    have hpbl : pb < W5.heap.size := HD5.out.small
    have x1 : (W5.alloc (.cells #[.int .i64 cn, .int .i64 (i : Nat)] 72)).cell? ⟨pb, i * 2 + 1, none⟩ = some vv := (World.cell?_of_block (a := ⟨pb, i * 2 + 1, none⟩) (hW6 pb hpbl)).trans y1
    have xt1 : (W5.alloc (.cells #[.int .i64 cn, .int .i64 (i : Nat)] 72)).cell? ⟨W5.heap.size, 1, none⟩ = some (.int .i64 (i : Nat)) := cell_of_row _ W5.heap.size 1 _ _ _ hxa
    have hsrc := (hvv.frm HFA.out (fun _ h => h.elim)).rd
    rw [← hrb] at hsrc
    obtain ⟨A9, c9', rfl, _⟩ := id hsrc
    have HSRC := Lib.hid hsrc
    clear hown hown' hpr hpr' hD5 hsrc l2 l4 hb2 hrb hxa hW6 hvv y0 y1 l3 hpn
    go_upto_region 9 with (fail)
    go_quiet (fail)
    go_upto_region 10 with (fail)
    have hf6 : Frm (fun _ => False) W5 ((W5.alloc (.cells #[.int .i64 cn, .int .i64 (i : Nat)] 72)).drewN nq) := HFA.out.trans (Frm.drewN _ nq)
    have hba : w.heap.size ≤ ((W5.alloc (.cells #[.int .i64 cn, .int .i64 (i : Nat)] 72)).drewN nq).heap.size := Nat.le_trans hWF hf6.size
    have HF6 := Lib.hid hf6
    clear hf6
    refine wp_region_lit ?_
    refine wpList_plain rfl fun K1 hK1 => ?_
    go_simp
    refine hK1 _ _ ?_
    clear hK1 K1
    refine wpList_append_rd _ rfl _ _ 32 rfl w.heap.size 5 (.int .u8 0) 1 Try.underlying32 inf8 rfl _ 0 [] rfl (World.ownsRow_nil _ _ _ _) _ rfl _ (bv (readB d s)) HSRC.out (bv_one _) (by rw [bv_length, HRL.out]; omega) (by omega) hba ?_
    intro v8 w8 ho8 hg8 _
    rw [List.nil_append, Nat.zero_add, bv_length, HRL.out] at ho8
    have hg8' : ((W5.alloc (.cells #[.int .i64 cn, .int .i64 (i : Nat)] 72)).drewN nq).grownBy w8 none := hg8
    have hf8 : Frm (fun _ => False) W5 w8 := HF6.out.trans ⟨hg8'.os, hg8'.tape, hg8'.output, hg8'.size, fun j hj _ => hg8'.block j hj (by simp)⟩
    have HO8 := Lib.hid ho8
    have HD8 := Lib.hid (HD5.out.next hf8)
    have HF8 := Lib.hid (HF5.out.trans (hf8.mono fun _ _ h => h.elim))
    clear ho8 hg8 hg8' hf8
    refine wpList_plain rfl fun K1 hK1 => ?_
    go_simp
    refine hK1 _ _ ?_
    clear hK1 K1
    refine wpList_plain rfl fun K1 hK1 => ?_
    go_simp
    refine hK1 _ _ ?_
    clear hK1 K1
    refine wpList_nil ?_
    go_wp2
    go_ret2
    exact ⟨v8, rfl, HO8.out, HD8.out, HF8.out⟩
end
end Go.Proofs.Ytldmamcalfmedaa
