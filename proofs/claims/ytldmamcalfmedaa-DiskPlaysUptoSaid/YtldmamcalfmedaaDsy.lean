/- The disk: Write, where it writes. Conditions: none. -/
import Derived.Test.YtldmamcalfmedaaDsx
namespace Go.Proofs.Ytldmamcalfmedaa
open Go.ChangeShapes Go.WideShapes Go.ChangeAt Go.RowKit Go.Maps
set_option linter.unusedSimpArgs false
set_option linter.unusedVariables false
def struckD (d : Dk) : Dk := { d with left := if d.armed then d.left - 1 else d.left }
def wroteD (d : Dk) (s : Nat) (b : List UInt8) : Dk := { struckD d with pend := d.pend ++ [(s, b)], writes := d.writes + 1 }
theorem strikes_w (db kb mb pb mm : Nat) (d : Dk) (w : World) (h : DBox w db kb mb pb mm d) (hl : d.armed = true → 2 ≤ d.left ∧ d.left ≤ 9223372036854775807) :
    Calls Try.prog 37 #[.pointer (some ⟨db, 0, none⟩)] w fun e w' => e = .returned (.bool false) ∧ DBox w' db kb mb pb mm (struckD d) ∧ Frm (fun j => j = db) w w' := by
  cases ha : d.armed with
  | false =>
    refine (strikes_no db kb mb pb mm d w h ha).mono ?_
    rintro e w' ⟨rfl, rfl⟩
    have : struckD d = d := by unfold struckD; cases d; simp at ha; subst ha; rfl
    rw [this]
    exact ⟨rfl, h, Frm.refl _ _⟩
  | true =>
    have hl := hl ha
    refine (strikes_yes db kb mb pb mm d w h ha ⟨by omega, by omega⟩).mono ?_
    rintro e w' ⟨rfl, hD, hF⟩
    have : struckD d = { d with left := d.left - 1 } := by unfold struckD; rw [ha]; rfl
    rw [this]
    exact ⟨by rw [decide_eq_false (by omega)], hD, hF⟩
theorem RdX.move {M M' O : Nat → Prop} {w w' : World} {v : Value} {xs : List Value} (h : RdX M w v xs) (hf : Frm O w w') (hO : ∀ j, O j → M j) (hM : ∀ j, j < w.heap.size → M' j → M j) : RdX M' w' v xs := by
  obtain ⟨A, c, e, h1, h2, h3⟩ := h
  refine ⟨A, c, e, h1, h2, fun hn => ?_⟩
  obtain ⟨b, off, e1, hb, hN, hc⟩ := h3 hn
  exact ⟨b, off, e1, Nat.lt_of_lt_of_le hb hf.size, fun x => hN (hM b hb x), fun j u hu => (World.cell?_of_block (a := ⟨b, off + j, none⟩) (hf.block b hb (fun x => hN (hO b x)))).trans (hc j u hu)⟩
theorem RdX.of_own2 {M : Nat → Prop} {w : World} {B n : Nat} {e : TypeId} {v : Value} {xs : List Value} (h : w.ownsRow B e 1 v n xs) (hM : ∀ j, B ≤ j → j < w.heap.size → ¬ M j) : RdX M w v xs := by
  obtain ⟨A, c, rfl, h1, h2, h3⟩ := RdV.own h
  refine ⟨A, c, rfl, h1, h2, fun hn => ?_⟩
  obtain ⟨b, off, rfl, hb, hc⟩ := h3 hn
  exact ⟨b, off, rfl, hb, hM b (h.lt b rfl).1 hb, hc⟩
theorem write_build {db kb mb pb mm s : Nat} {d : Dk} {bl : List UInt8} {w4 wc w2 w3 : World} {keepV pv v2 v3 : Value} {kc : Nat} {o : Obj} (hD : DBox w4 db kb mb pb mm d) (h1 : w4.heap[db]? = some (.cells (dcells d keepV pv kb kc mb) 70 (0, 0)))
    (hk1 : RdX (OwnX d.away db kb mb pb) w4 keepV (boolV d.keep)) (ho1 : w4.ownsRow 0 5 1 (.slice (some ⟨kb, 0, none⟩) d.kept.length kc) d.kept.length (bv d.kept)) (xs : List Value) (hxs : w4.ownsRow 0 76 2 pv d.pend.length xs) (hpo : ∀ g, pv.ownBlock = some g → g = pb)
    (hent : ∀ (i : Nat) (p : Nat × List UInt8), d.pend[i]? = some p → xs[2 * i]? = some (.int .i64 (p.1 : Nat)) ∧ ∃ v, xs[2 * i + 1]? = some v ∧ RdX (OwnX d.away db kb mb pb) w4 v (bv p.2)) (hnil : d.pend = [] → pv = .slice none 0 0)
    (hFU : Frm (fun j => j = mb) w4 wc) (hMU : MBox wc mb (mm + 1) (talF (d.pend ++ [(s, bl)]))) (hg2 : wc.grownBy w2 none) (ho2 : w2.ownsRow wc.heap.size 5 1 v2 (bv bl).length (bv bl))
    (hg3 : (w2.alloc o).grownBy w3 pv.ownBlock) (ho3 : w3.ownsRow 0 76 2 v3 (d.pend.length + 1) (xs ++ [.int .i64 (s : Nat), v2])) (hv3 : v3.ownBlock = pv.ownBlock ∨ v3.ownBlock = some (w2.alloc o).heap.size) (hs : s < d.n) (hb : bl.length = d.size) :
    ∃ pb', DBox (w3.setCell ⟨db, 6, none⟩ v3) db kb mb pb' (mm + 1) { d with pend := d.pend ++ [(s, bl)] } ∧ (pb' = pb ∨ w4.heap.size ≤ pb') ∧ Frm (Own db kb mb pb) w4 (w3.setCell ⟨db, 6, none⟩ v3) := by
  obtain ⟨l1, l2, l3⟩ := hD.lt
  obtain ⟨n1, n2, n3, n4⟩ := hD.ne
  have hsm := hD.small
  have z1 := hFU.size
  have z2 := hg2.size
  have z3 : (w2.alloc o).heap.size = w2.heap.size + 1 := by simp
  have z4 := hg3.size
  have hpb : ∀ g, pv.ownBlock = some g → g = pb ∧ pb ≠ db ∧ pb ≠ kb ∧ pb ≠ mb := fun g hg => ⟨hpo g hg, n4 (fun e => by rw [hnil e] at hg; cases hg)⟩
  obtain ⟨g3, c3, rfl⟩ : ∃ g c, v3 = .slice (some ⟨g, 0, none⟩) (d.pend.length + 1) c := by
    obtain ⟨_, ⟨_, h0⟩ | ⟨g, c, _, hv, _⟩⟩ := ho3
    · omega
    · exact ⟨g, c, hv⟩
  have hg3l := own_lt ho3 rfl
  have hgg : (g3 = pb ∧ pb ≠ db ∧ pb ≠ kb ∧ pb ≠ mb) ∨ g3 = w2.heap.size + 1 := by
    rcases hv3 with h | h
    · exact Or.inl (hpb g3 (by rw [← h]; rfl))
    · right
      rw [z3] at h
      injection h
  have hF2 : Frm (fun _ => False) wc (w2.alloc o) := (⟨hg2.os, hg2.tape, hg2.output, hg2.size, fun j hj _ => hg2.block j hj (by simp)⟩ : Frm (fun _ => False) wc w2).trans ((Frm.refl _ w2).alloc o)
  have hF3 : Frm (fun j => pv.ownBlock = some j) (w2.alloc o) w3 := ⟨hg3.os, hg3.tape, hg3.output, hg3.size, fun j hj hn => hg3.block j hj (fun e => hn e.symm)⟩
  have hF4 : Frm (fun j => j = db) w3 (w3.setCell ⟨db, 6, none⟩ (.slice (some ⟨g3, 0, none⟩) (d.pend.length + 1) c3)) := (Frm.refl (fun j => j = db) w3).setCell db 6 (Or.inl rfl) _
  have hF : Frm (fun j => j = db ∨ j = mb ∨ pv.ownBlock = some j) w4 (w3.setCell ⟨db, 6, none⟩ (.slice (some ⟨g3, 0, none⟩) (d.pend.length + 1) c3)) :=
    (((hFU.mono (fun j _ h => Or.inr (Or.inl h))).trans (hF2.mono (fun _ _ h => h.elim))).trans (hF3.mono (fun j _ h => Or.inr (Or.inr h)))).trans (hF4.mono (fun j _ h => Or.inl h))
  have hO : ∀ j, (j = db ∨ j = mb ∨ pv.ownBlock = some j) → OwnX d.away db kb mb pb j := by
    intro j h
    refine Or.inl ?_
    revert h j
    rintro j (h | h | h)
    · exact Or.inl h
    · exact Or.inr (Or.inr (Or.inl h))
    · exact Or.inr (Or.inr (Or.inr (hpo j h)))
  have hM : ∀ j, j < w4.heap.size → OwnX d.away db kb mb g3 j → OwnX d.away db kb mb pb j := by
    rintro j hj ((h | h | h | h) | h)
    · exact Or.inl (Or.inl h)
    · exact Or.inl (Or.inr (Or.inl h))
    · exact Or.inl (Or.inr (Or.inr (Or.inl h)))
    · rcases hgg with ⟨e, _⟩ | e
      · exact Or.inl (Or.inr (Or.inr (Or.inr (h.trans e))))
      · omega
    · exact Or.inr h
  have hdb3 : w3.heap[db]? = some (.cells (dcells d keepV pv kb kc mb) 70 (0, 0)) := by
    have a := hF3.block db (by omega) (fun e => (hpb db e).2.1 (hpb db e).1.symm)
    have b := hF2.block db (by omega) id
    have c := hFU.block db (by omega) n2
    exact a.trans (b.trans (c.trans h1))
  refine ⟨g3, ⟨⟨keepV, .slice (some ⟨g3, 0, none⟩) (d.pend.length + 1) c3, kc, ?_, hk1.move hF hO hM, ?_, ?_, fun e => (by simp at e)⟩, ?_, ⟨n1, n2, n3, fun _ => by omega⟩, ⟨hD.ok.n, hD.ok.size, hD.ok.kept, ?_⟩, ?_, ?_⟩, ?_, ?_⟩
  · exact heap_setCell_same w3 db 6 _ _ (.slice (some ⟨g3, 0, none⟩) (d.pend.length + 1) c3) hdb3
  · exact own_keep ho1 (fun g hg => by
      injection hg with hg
      subst hg
      exact hF.block kb l2 (by
        rintro (e | e | e)
        · exact n1 e.symm
        · exact n3 e
        · exact (hpb kb e).2.2.1 (hpb kb e).1.symm))
  · have hg3d : g3 ≠ db := by omega
    refine PRow.snoc (s, bl) v2 hxs (fun i p hi => ?_) (own_keep ho3 (fun g hg => by injection hg with hg; subst hg; exact hF4.block _ hg3l hg3d)) ?_ (fun g hg => by injection hg with hg; exact hg.symm)
    · obtain ⟨e1, v, e2, e3⟩ := hent i p hi
      exact ⟨e1, v, e2, e3.move hF hO hM⟩
    · exact (RdX.of_own2 (M := fun j => OwnX d.away db kb mb g3 j ∨ Own db kb mb pb j) ho2 (fun j hj hj2 => by
        have hAA : ¬ d.away j := fun e => (by have := hD.away j e; omega)
        rintro ((e | e) | e)
        · revert e; unfold Own; omega
        · exact hAA e
        · revert e; unfold Own; omega)).move (O := fun j => j = db ∨ pv.ownBlock = some j) ((((Frm.refl _ w2).alloc o).trans (hF3.mono fun j _ h => Or.inr h)).trans (hF4.mono fun j _ h => Or.inl h)) (by
        rintro j (h | h)
        · exact Or.inr (Or.inl h)
        · exact Or.inr (Or.inr (Or.inr (Or.inr (hpo j h))))) (fun j _ h => Or.inl h)
  · refine hMU.keep ?_
    have a := hF4.block mb (by omega) (fun e => n2 e.symm)
    have b := hF3.block mb (by omega) (fun e => (hpb mb e).2.2.2 (hpb mb e).1.symm)
    have c := hF2.block mb (by omega) id
    exact a.trans (b.trans c)
  · intro p hp
    rcases List.mem_append.1 hp with h | h
    · exact hD.ok.pend p h
    · simp at h; subst h; exact ⟨hs, hb⟩
  · simp [World.setCell]; exact hg3l
  · intro j hj
    exact Nat.lt_of_lt_of_le (hD.away j hj) hF.size
  · rcases hgg with ⟨e, _⟩ | e
    · exact Or.inl e
    · right; omega
  · exact hF.mono (fun j _ h => by
      rcases h with h | h | h
      · exact Or.inl h
      · exact Or.inr (Or.inr (Or.inl h))
      · exact Or.inr (Or.inr (Or.inr (hpo j h))))
theorem RdX.wrote {A : Nat → Prop} {db kb mb pb pb' : Nat} {w w' : World} {v : Value} {xs : List Value} (h : RdX (OwnX A db kb mb pb) w v xs) (hF : Frm (Own db kb mb pb) w w') (hp : pb' = pb ∨ w.heap.size ≤ pb') : RdX (OwnX A db kb mb pb') w' v xs :=
  h.move hF (fun _ h => Or.inl h) (by
    rintro j hj ((h | h | h | h) | h)
    · exact Or.inl (Or.inl h)
    · exact Or.inl (Or.inr (Or.inl h))
    · exact Or.inl (Or.inr (Or.inr (Or.inl h)))
    · rcases hp with e | e
      · exact Or.inl (Or.inr (Or.inr (Or.inr (h.trans e))))
      · omega
    · exact Or.inr h)
theorem own_form2 {w : World} {base size n : Nat} {e : TypeId} {v : Value} {xs : List Value} (h : w.ownsRow base e size v n xs) (hn : 0 < n) : ∃ g c, v = .slice (some ⟨g, 0, none⟩) n c := by
  obtain ⟨_, ⟨_, h0⟩ | ⟨g, c, _, hv, _⟩⟩ := h
  · omega
  · exact ⟨g, c, hv⟩
set_option maxRecDepth 100000 in
set_option maxHeartbeats 4000000 in
theorem write_ok (db kb mb pb mm : Nat) (d : Dk) (w : World) (h : DBox w db kb mb pb mm d) (ho : d.off = false) (hl : d.armed = true → 2 ≤ d.left ∧ d.left ≤ 9223372036854775807) (s : Nat) (hs : s < d.n) (v : Value) (bl : List UInt8) (hv : RdX (OwnX d.away db kb mb pb) w v (bv bl)) (hlen : bl.length = d.size) (hpl : d.pend.length ≤ 1000000) (hmm : mm < 1000000) (hwr : 0 ≤ d.writes ∧ d.writes ≤ 1000000000000) :
    Calls Try.prog 12 #[.pointer (some ⟨db, 0, none⟩), .int .i64 (s : Nat), v] w fun e w' => e = .returned (.int .i64 0) ∧ ∃ pb', DBox w' db kb mb pb' (mm + 1) (wroteD d s bl) ∧ (pb' = pb ∨ w.heap.size ≤ pb') ∧ Frm (Own db kb mb pb) w w' := by
  have H := Lib.hid (isOff_any db kb mb pb mm d w h)
  rw [ho] at H
  have HH := Lib.hid (has_any db kb mb pb mm d w h (s : Nat))
  rw [decide_eq_true (by omega)] at HH
  have hv0 := hv
  obtain ⟨A, c, rfl, hc1, hc2, _⟩ := hv
  rw [bv_length, hlen] at hc1 hv0 ⊢
  have hsz := h.ok.size
  have hn := h.ok.n
  have hlt := h.lt
  have hne := h.ne
  have hsm := h.small
  have hc4 : ∀ k, (w.drewN k).cell? ⟨db, 4, none⟩ = some (.int .i64 (d.size : Nat)) := fun k => by obtain ⟨_, _, _, _, _, _, _, _, _, _, _, _, c4, _⟩ := (h.next (Frm.drewN w k)).at; exact c4
  have hst := fun k => strikes_w db kb mb pb mm d (w.drewN k) (h.next (Frm.drewN w k)) hl
  have HST := Lib.hid hst
  have HC4 := Lib.hid hc4
  have HV := Lib.hid hv0
  clear h ho hc2 hc4 hst hv0 hl
  go_enter Try.func12, Try.ntmps12
  go_wp2_with fail
  refine H.out.mono ?_
  rintro e w2 ⟨rfl, rfl⟩
  go_wp2_with fail
  refine HH.out.mono ?_
  rintro e w3 ⟨rfl, k, rfl⟩
  have x4 := HC4.out k
  go_wp2_with fail
  refine (HST.out k).mono ?_
  rintro e w4 ⟨rfl, hD, hF⟩
  obtain ⟨keepV, pv, kc, h1, hk1, ho1, hp1, hp2, _, _, _, _, _, _, c6, c7, c8, _, fr⟩ := hD.at
  have hpe : (struckD d).pend = d.pend := rfl
  have hmap := hD.map
  rw [hpe] at hmap hp1 hp2
  have hls : (Lit.int .i64 ((s : Nat) : Int)).wf = true := by
    simp [Lit.wf, IntKind.min, IntKind.max, IntKind.signed, IntKind.bits]; omega
  have hlook := hmap.look (s : Nat) hls
  have hcnt := talF_cnt d.pend (s : Nat)
  unfold keyV talV at hlook
  have HD := Lib.hid hD
  have HF := Lib.hid ((Frm.drewN w k).trans (hF.mono fun j _ h => Or.inl h) : Frm (Own db kb mb pb) w w4)
  have HM := Lib.hid hmap
  have HK1 := Lib.hid hk1
  have HO1 := Lib.hid ho1
  have HP1 := Lib.hid hp1
  have HP2 := Lib.hid hp2
  have HH1 := Lib.hid h1
  have HFR := Lib.hid fr
  clear hD hF hmap hk1 ho1 hp1 hp2 h1 fr
  generalize hcn : (talF d.pend (s : Nat)).cnt = cn at *
  generalize hla : (talF d.pend (s : Nat)).last = la at *
  go_upto_region 9 with (fail)
  have hf5 : Frm (fun _ => False) w4 (w4.alloc (.cells #[.int .i64 cn, .int .i64 la] 72)) := (Frm.refl _ w4).alloc _
  have hx5 := heap_alloc_new w4 (.cells #[.int .i64 cn, .int .i64 la] 72)
  generalize w4.alloc (.cells #[.int .i64 cn, .int .i64 la] 72) = W5 at hf5 hx5 ⊢
  have z0 : W5.drew.cell? ⟨w4.heap.size, 0, none⟩ = some (.int .i64 cn) := cell_of_row W5 w4.heap.size 0 _ _ _ hx5
  have hlt4 := HD.out.lt
  have h1d : W5.drew.heap[db]? = some (.cells (dcells (struckD d) keepV pv kb kc mb) 70 (0, 0)) := (hf5.block db hlt4.1 id).trans HH1.out
  have b6 : W5.drew.cell? ⟨db, 6, none⟩ = some pv := cell_of_row W5.drew db 6 _ _ _ h1d
  have b7 : W5.drew.cell? ⟨db, 7, none⟩ = some (.map (some mb)) := cell_of_row W5.drew db 7 _ _ _ h1d
  have hmd : MBox W5.drew mb mm (talF d.pend) := HM.out.keep (hf5.block mb hlt4.2.2 id)
  obtain ⟨wu, hrun, hMu, hgu⟩ := hmd.store hmm (s : Nat) hls ⟨IntKind.i64.wrap (cn + 1), (d.pend.length : Nat)⟩
  rw [show IntKind.i64.wrap (cn + 1) = cn + 1 from by rw [IntKind.wrap_i64]; omega] at hMu
  unfold keyV talV at hrun
  obtain ⟨Ap, cp, rfl⟩ : ∃ A c, pv = .slice A d.pend.length c := by
    obtain ⟨xs, ho, _⟩ := HP1.out
    obtain ⟨_, ⟨e, h0⟩ | ⟨g, cap, _, e, _⟩⟩ := ho
    · exact ⟨none, 0, by rw [e, h0]⟩
    · exact ⟨_, _, e⟩
  have hFu : Frm (fun j => j = mb) w4 wu := (hf5.mono (fun _ _ h => h.elim)).trans (((Frm.refl (fun j => j = mb) W5).drew).trans (Frm.of_grown hgu))
  have HFU := Lib.hid hFu
  have HMU := Lib.hid hMu
  clear hf5 hx5 h1d hmd hMu hgu hFu
  go_cut [] from 43 to 57 (fun wx => wx = wu)
  case first =>
    go_region_law (fail)
    all_goals go_wp2_with fail
    all_goals go_meet
    all_goals rfl
  case rest =>
    subst hcut
    obtain ⟨xs, hxs, hpo, hent⟩ := HP1.out
    have HXS := Lib.hid hxs
    have HPO := Lib.hid hpo
    have HENT := Lib.hid hent
    have hnk : ∀ g, (Value.slice Ap d.pend.length cp).ownBlock = some g → g ≠ mb ∧ g ≠ db ∧ g < w4.heap.size := fun g hg => by
      have e := hpo g hg
      have := hne.2.2.2 (fun e2 => by have := HP2.out e2; rw [this] at hg; cases hg)
      exact ⟨by omega, by omega, own_lt hxs hg⟩
    have hxc : wc.ownsRow 0 76 2 (.slice Ap d.pend.length cp) d.pend.length xs := own_keep hxs (fun g hg => HFU.out.block g (hnk g hg).2.2 (hnk g hg).1)
    have hdc : wc.heap[db]? = some (.cells (dcells (struckD d) keepV (.slice Ap d.pend.length cp) kb kc mb) 70 (0, 0)) := (HFU.out.block db hlt4.1 hne.2.1).trans HH1.out
    have y6 : wc.drew.cell? ⟨db, 6, none⟩ = some (.slice Ap d.pend.length cp) := cell_of_row wc.drew db 6 _ _ _ hdc
    have hBc : RdV wc wc.heap.size (.slice A d.size c) (bv bl) := (HV.out.frm (HF.out.trans (HFU.out.mono fun j _ h => Or.inr (Or.inr (Or.inl h)))) (fun _ h => Or.inl h)).rd
    have HBC := Lib.hid hBc
    have HXC := Lib.hid hxc
    have HDC := Lib.hid hdc
    have HNK := Lib.hid hnk
    have hdbl : db < wc.heap.size := by have := HFU.out.size; omega
    have hbll : (bv bl).length = d.size := by rw [bv_length]; exact hlen
    have HBL := Lib.hid hbll
    have HMU2 : MBox wc mb (mm + 1) (talF (d.pend ++ [(s, bl)])) := by rw [talF_snoc]; simp only [hcn]; exact HMU.out
    clear hxs hpo hent hnk hxc hdc hBc z0 b6 b7 hbll
    go_upto_region 10 with (fail)
    go_cut [] from 58 to 70 (fun wx => ∃ pb', DBox wx db kb mb pb' (mm + 1) { struckD d with pend := d.pend ++ [(s, bl)] } ∧ (pb' = pb ∨ w4.heap.size ≤ pb') ∧ Frm (Own db kb mb pb) w4 wx)
    case first =>
      go_region_law (first
        | (refine step_append_rd _ rfl (.const (.slice none 0 0)) (.tmp 64) 32 rfl wc.heap.size 5 (.int .u8 0) 1 Try.underlying32 inf8 rfl _ 0 [] rfl (World.ownsRow_nil _ _ _ _) _ rfl wc.heap.size (bv bl) HBC.out (bv_one _) (by rw [HBL.out]; omega) (by omega) (Nat.le_refl _) ?_; intro v2 w2 ho2 hg2 _; rw [List.nil_append, Nat.zero_add] at ho2; have hg2' : wc.drew.grownBy w2 none := hg2; obtain ⟨A2, c2, hv2, _⟩ := RdV.own ho2; rw [HBL.out] at hv2; subst hv2; have hd2 := (hg2'.block db hdbl (by simp)).trans HDC.out; have u6 : w2.cell? ⟨db, 6, none⟩ = some (.slice Ap d.pend.length cp) := cell_of_row w2 db 6 _ _ _ hd2; have hz2 : wc.heap.size ≤ w2.heap.size := hg2'.size; have hd2a := (heap_alloc_old w2 (.cells #[.int .i64 (s : Nat), .slice A2 d.size c2] 76) (show db < w2.heap.size by omega)).trans hd2; have u6a : (w2.alloc (.cells #[.int .i64 (s : Nat), .slice A2 d.size c2] 76)).cell? ⟨db, 6, none⟩ = some (.slice Ap d.pend.length cp) := cell_of_row _ db 6 _ _ _ hd2a; have hw2n := heap_alloc_new w2 (.cells #[.int .i64 (s : Nat), .slice A2 d.size c2] 76); have k0 : (w2.alloc (.cells #[.int .i64 (s : Nat), .slice A2 d.size c2] 76)).cell? ⟨w2.heap.size, 0, none⟩ = some (.int .i64 (s : Nat)) := cell_of_row _ w2.heap.size 0 _ _ _ hw2n; have k1 : (w2.alloc (.cells #[.int .i64 (s : Nat), .slice A2 d.size c2] 76)).cell? ⟨w2.heap.size, 1, none⟩ = some (.slice A2 d.size c2) := cell_of_row _ w2.heap.size 1 _ _ _ hw2n; have hpa : (w2.alloc (.cells #[.int .i64 (s : Nat), .slice A2 d.size c2] 76)).ownsRow 0 76 2 (.slice Ap d.pend.length cp) d.pend.length xs := own_keep HXC.out (fun g hg => (heap_alloc_old w2 _ (by have h5 : g < wc.heap.size := own_lt HXC.out hg; omega)).trans (hg2'.block g (own_lt HXC.out hg) (by simp))))
        | (refine step_append2 _ rfl (.tmp 62) (.tmp 67) 67 rfl 0 76 (.agg #[.int .i64 0, .slice none 0 0]) 32 Try.underlying67 infW rfl (.slice Ap d.pend.length cp) d.pend.length xs rfl hpa w2.heap.size (.int .i64 (s : Nat)) (.slice A2 d.size c2) rfl k0 k1 rfl rfl (by omega) (by omega) (Nat.zero_le _) ?_; intro v3 w3 ho3 hg3 hv3; have hg3' : (w2.alloc (.cells #[.int .i64 (s : Nat), .slice A2 d.size c2] 76)).grownBy w3 (Value.slice Ap d.pend.length cp).ownBlock := hg3; have hv3' : v3.ownBlock = (Value.slice Ap d.pend.length cp).ownBlock ∨ v3.ownBlock = some (w2.alloc (.cells #[.int .i64 (s : Nat), .slice A2 d.size c2] 76)).heap.size := hv3; have hd3 := (hg3'.block db (by simp; omega) (fun e => (HNK.out db e.symm).2.1 rfl)).trans hd2a; have u6b : w3.cell? ⟨db, 6, none⟩ = some (.slice Ap d.pend.length cp) := cell_of_row w3 db 6 _ _ _ hd3; have f6b := frozen_of_row w3 db 6 _ _ hd3; obtain ⟨g3, c3, hv3e⟩ := own_form2 ho3 (by omega); subst hv3e)
        | fail)
      all_goals go_wp2_with fail
      all_goals go_meet
      all_goals exact write_build HD.out HH1.out HK1.out HO1.out xs HXS.out HPO.out HENT.out HP2.out HFU.out HMU2 ⟨hg2'.os, hg2'.tape, hg2'.output, hg2'.size, hg2'.block⟩ (by rw [HBL.out]; rw [HBL.out] at ho2; exact ho2) hg3' ho3 hv3' hs hlen
    case rest =>
      obtain ⟨pb', hD6, hp6, hF6⟩ := hcut
      obtain ⟨_, _, _, h6, _, _, _, _, _, _, _, _, _, _, _, _, w8, _, fr6⟩ := hD6.at
      have f8 := fr6 8
      have w8' : wc.cell? ⟨db, 8, none⟩ = some (.int .i64 d.writes) := w8
      have hFt : Frm (fun j => j = db) wc (wc.setCell ⟨db, 8, none⟩ (.int .i64 (d.writes + 1))) := (Frm.refl (fun j => j = db) wc).setCell db 8 (Or.inl rfl) _
      have HT := Lib.hid (hD6.turn (d' := wroteD d s bl) hFt (fun _ _ _ h1 => heap_setCell_same wc db 8 _ _ _ h1) rfl rfl rfl rfl rfl)
      have HFT := Lib.hid (HF.out.trans (hF6.trans (hFt.mono fun j _ h => Or.inl h)))
      have hp7 : pb' = pb ∨ w.heap.size ≤ pb' := by have := HF.out.size; omega
      clear hD6 hF6 h6 fr6 hFt w8
      go_wp2
      go_ret
      exact ⟨rfl, pb', HT.out, hp7, HFT.out⟩
end Go.Proofs.Ytldmamcalfmedaa
