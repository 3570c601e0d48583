/- The law's look at both disks: it finds them alike. Conditions: none. -/
import Derived.Test.YtldmamcalfmedaaDsj
namespace Go.Proofs.Ytldmamcalfmedaa
open Go.ChangeShapes Go.WideShapes Go.ChangeAt Go.RowKit Go.Maps
set_option linter.unusedSimpArgs false
set_option linter.unusedVariables false
theorem lookD_keep (d : Dk) (kr : List Bool) (s : Int) : lookD { d with keep := kr } s = { lookD d s with keep := kr } := by
  unfold lookD
  by_cases h1 : d.off = true
  · rw [if_pos h1, if_pos h1]
  · rw [if_neg h1, if_neg h1]
    by_cases h2 : 0 ≤ s ∧ s < (d.n : Nat)
    · rw [if_pos h2, if_pos h2]
    · rw [if_neg h2, if_neg h2]
theorem Grow.frm {a b : World} (h : Grow a b) : Frm (fun _ => False) a b := Frm.of_below h
set_option maxRecDepth 100000 in
set_option maxHeartbeats 16000000 in
theorem same_any (db kb mb pb mm rb rk rl : Nat) (d0 : Dk) (kr : List Bool) (w : World) (h : JBox w db kb mb pb mm rb rk rl d0 kr) (s : Int) (hrd : 0 ≤ d0.reads ∧ d0.reads ≤ 1000000000000) (hpl : d0.pend.length ≤ 1000000) :
    Calls Try.prog 24 #[.pointer (some ⟨db, 0, none⟩), .pointer (some ⟨rb, 0, none⟩), .int .i64 s] w fun e w' => e = .returned (.bool true) ∧ JBox w' db kb mb pb mm rb rk rl (lookD d0 s) kr ∧ Frm (fun j => j = db ∨ j = rb) w w' := by
  have h1 := read_all db kb mb pb mm d0 w h.p s hrd hpl
  have H := Lib.hid h
  have H1 := Lib.hid h1
  have HRD := Lib.hid hrd
  have HPL := Lib.hid hpl
  generalize hc : readC d0 s = c at *
  generalize hL : readL d0 s = L at *
  have HLC := Lib.hid (And.intro hc hL)
  clear h h1 hrd hpl hc hL
  go_enter Try.func24, Try.ntmps24
  go_wp2_with fail
  refine H1.out.mono ?_
  rintro e w1 ⟨va, rfl, hva, hp1, hf1⟩
  have hr1 := H.out.r.foreign hf1 (fun j hj => H.out.aw j (Or.inl (Or.inl hj))) (fun j hj => H.out.apart j (Or.inl hj))
  have h2 := rread_all rb rk rl { d0 with keep := kr } w1 hr1 s HRD.out HPL.out
  rw [show readC { d0 with keep := kr } s = readC d0 s from rfl, show readL { d0 with keep := kr } s = readL d0 s from rfl, lookD_keep, HLC.out.1, HLC.out.2] at h2
  have H2 := Lib.hid h2
  have HVA1 := Lib.hid hva
  have HP1 := Lib.hid hp1
  have HF1 := Lib.hid hf1
  clear h2 hva hp1 hf1 hr1
  go_wp2_with fail
  refine H2.out.mono ?_
  rintro e w2 ⟨vb, rfl, hvb, hr2, hf2⟩
  obtain ⟨x1, x2, x3, x4, x5, x6, x7, x8, x9, x10, x11⟩ := lookD_facts d0 s
  have hp2 := HP1.out.foreign hf2 (fun j hj => by rw [x1]; exact H.out.aw j (Or.inr (Or.inl hj))) (fun j hj hn => H.out.apart j hn (Or.inl hj))
  have hva2 : RdV w2 w2.heap.size va (bv L) := ((HVA1.out.mono (M' := fun j => j = rb) (fun j _ hj => by have := H.out.r.lt.1; show j < w.heap.size; omega)).frm hf2 (fun _ h => h)).rd
  have hz2 := hf2.size
  have HJ := Lib.hid (show JBox w2 db kb mb pb mm rb rk rl (lookD d0 s) kr from ⟨hp2, hr2, by rw [x1]; exact H.out.aw, H.out.apart, by rw [x9, x6]; exact H.out.kk⟩)
  have HF := Lib.hid ((HF1.out.mono fun j _ h => Or.inl h).trans (hf2.mono fun j _ h => Or.inr h) : Frm (fun j => j = db ∨ j = rb) w w2)
  have HVA := Lib.hid hva2
  have HVB := Lib.hid hvb
  obtain ⟨d, hdd⟩ : ∃ d, lookD d0 s = d := ⟨_, rfl⟩
  rw [hdd] at HJ
  have HDD := Lib.hid hdd
  clear hdd hvb hr2 hf2 hp2 hva2 HVA1 HP1 HF1 H2 H1 x1 x2 x3 x4 x5 x6 x7 x8 x9 x10 x11
  have hP : ∀ w, Grow w2 w → DBox w db kb mb pb mm d := fun w hg => HJ.out.p.next hg.frm
  have hR : ∀ w, Grow w2 w → RBox w rb rk rl { d with keep := kr } := fun w hg => HJ.out.r.next hg.frm
  obtain ⟨keepV, lv, bc, r1, _, r3, r4, _, _, _, r5, r6, r7, _, _, r8, r9, _⟩ := HJ.out.r.at
  obtain ⟨Al, cl, rfl⟩ : ∃ A c, lv = .slice A d.pend.length c := by
    obtain ⟨xs, ho, _⟩ := r4
    obtain ⟨_, ⟨e, h0⟩ | ⟨g, cap, _, e, _⟩⟩ := ho
    · exact ⟨none, 0, by rw [e]; exact congrArg (fun n => Value.slice none n 0) (show d.pend.length = 0 from h0).symm⟩
    · exact ⟨_, _, e⟩
  have hlt := HJ.out.r.lt
  have hk : ∀ w, Grow w2 w → ∀ i u, w2.cell? ⟨rb, i, none⟩ = some u → w.cell? ⟨rb, i, none⟩ = some u := fun w hg i u hu => (World.cell?_of_block (a := ⟨rb, i, none⟩) (hg.frm.block rb hlt.1 id)).trans hu
  have HP := Lib.hid hP
  have HR2 := Lib.hid (fun w (hg : Grow w2 w) => hk w hg 2 _ r5)
  have HR3 := Lib.hid (fun w (hg : Grow w2 w) => hk w hg 3 _ r6)
  have HR4 := Lib.hid (fun w (hg : Grow w2 w) => hk w hg 4 _ r7)
  have HR7 := Lib.hid (fun w (hg : Grow w2 w) => hk w hg 7 _ r8)
  have HR8 := Lib.hid (fun w (hg : Grow w2 w) => hk w hg 8 _ r9)
  have HRK := Lib.hid (fun w (hg : Grow w2 w) => hg.rd (RdV.own r3) (Nat.le_refl _))
  have E := fun (w : World) => run_conv_rd (P := Try.prog) w 32 9 5 Try.underlying32 Try.underlying5 Try.underlying9
  have HE := Lib.hid E
  clear hP hR r1 r3 r4 r5 r6 r7 r8 r9 hlt hk E
  go_upto_region 3 with (fail)
  refine region_inv [none, none, none, none, none, none, none, none, none, none, none, none, some (DVal (.bool d.off)), none, none, none, none, none, none, none, none, some (DVal (.int .i64 (d.pend.length : Nat))), none, none, none, none, none, none, none, none, none, some (DVal (.int .i64 d.writes)), none, none, none, none, none, none, none, none, some (DVal (.int .i64 d.reads)), none, none, none, none, none, none, none, none, some (DRow (bv d.kept)), none, none, none, none, none, none, none, none, none] (by kernel_rfl) (by kernel_rfl) ⟨DVal.stable _, DVal.stable _, DVal.stable _, DVal.stable _, DRow.stable _, trivial⟩ (by kernel_rfl) ?_
  (refine inv_val (by rfl) (by intro w hg hl; clear hl; go_simp; with_reducible rfl) (fun K hK => ?_); go_simp; refine hK _ ?_; clear hK K)
  (refine inv_val (by rfl) (by intro w hg hl; have z := HE.out w _ _ _ (hg.rd HVA.out (Nat.le_refl _)); clear hl; go_simp; with_reducible rfl) (fun K hK => ?_); go_simp; refine hK _ ?_; clear hK K)
  (refine inv_val (by rfl) (by intro w hg hl; clear hl; go_simp; with_reducible rfl) (fun K hK => ?_); go_simp; refine hK _ ?_; clear hK K)
  (refine inv_val (by rfl) (by intro w hg hl; have z := HE.out w _ _ _ (hg.rd HVB.out (Nat.le_refl _)); clear hl; go_simp; with_reducible rfl) (fun K hK => ?_); go_simp; refine hK _ ?_; clear hK K)
  iterate 8 (refine inv_val (by rfl) (by intro w hg hl; clear hl; go_simp; with_reducible rfl) (fun K hK => ?_); go_simp; refine hK _ ?_; clear hK K)
  refine inv_is (by rfl) (by rfl) (by
      intro w hg hl
      refine gets_sem ?_
      clear hl
      go_simp
      refine Calls.mono (off_any db kb mb pb mm d w (HP.out w hg)) ?_
      rintro e w3 ⟨rfl, rfl⟩
      exact ⟨_, rfl, rfl, Grow.refl _⟩) (fun K hK => ?_)
  go_simp; refine hK _ ?_; clear hK K
  iterate 3 (refine inv_val (by rfl) (by intro w hg hl; clear hl; go_simp; with_reducible rfl) (fun K hK => ?_); go_simp; refine hK _ ?_; clear hK K)
  (refine inv_val (by rfl) (by intro w hg hl; have z := (HR4.out w hg); clear hl; go_simp; with_reducible rfl) (fun K hK => ?_); go_simp; refine hK _ ?_; clear hK K)
  iterate 4 (refine inv_val (by rfl) (by intro w hg hl; clear hl; go_simp; with_reducible rfl) (fun K hK => ?_); go_simp; refine hK _ ?_; clear hK K)
  refine inv_is (by rfl) (by rfl) (by
      intro w hg hl
      refine gets_sem ?_
      clear hl
      go_simp
      refine Calls.mono (pending_any db kb mb pb mm d w (HP.out w hg)) ?_
      rintro e w3 ⟨rfl, rfl⟩
      exact ⟨_, rfl, rfl, Grow.refl _⟩) (fun K hK => ?_)
  go_simp; refine hK _ ?_; clear hK K
  iterate 3 (refine inv_val (by rfl) (by intro w hg hl; clear hl; go_simp; with_reducible rfl) (fun K hK => ?_); go_simp; refine hK _ ?_; clear hK K)
  (refine inv_val (by rfl) (by intro w hg hl; have z := (HR3.out w hg); clear hl; go_simp; with_reducible rfl) (fun K hK => ?_); go_simp; refine hK _ ?_; clear hK K)
  iterate 5 (refine inv_val (by rfl) (by intro w hg hl; clear hl; go_simp; with_reducible rfl) (fun K hK => ?_); go_simp; refine hK _ ?_; clear hK K)
  refine inv_is (by rfl) (by rfl) (by
      intro w hg hl
      refine gets_sem ?_
      clear hl
      go_simp
      refine Calls.mono (writes_any db kb mb pb mm d w (HP.out w hg)) ?_
      rintro e w3 ⟨rfl, rfl⟩
      exact ⟨_, rfl, rfl, Grow.refl _⟩) (fun K hK => ?_)
  go_simp; refine hK _ ?_; clear hK K
  iterate 3 (refine inv_val (by rfl) (by intro w hg hl; clear hl; go_simp; with_reducible rfl) (fun K hK => ?_); go_simp; refine hK _ ?_; clear hK K)
  (refine inv_val (by rfl) (by intro w hg hl; have z := (HR7.out w hg); clear hl; go_simp; with_reducible rfl) (fun K hK => ?_); go_simp; refine hK _ ?_; clear hK K)
  iterate 4 (refine inv_val (by rfl) (by intro w hg hl; clear hl; go_simp; with_reducible rfl) (fun K hK => ?_); go_simp; refine hK _ ?_; clear hK K)
  refine inv_is (by rfl) (by rfl) (by
      intro w hg hl
      refine gets_sem ?_
      clear hl
      go_simp
      refine Calls.mono (reads_any db kb mb pb mm d w (HP.out w hg)) ?_
      rintro e w3 ⟨rfl, rfl⟩
      exact ⟨_, rfl, rfl, Grow.refl _⟩) (fun K hK => ?_)
  go_simp; refine hK _ ?_; clear hK K
  iterate 3 (refine inv_val (by rfl) (by intro w hg hl; clear hl; go_simp; with_reducible rfl) (fun K hK => ?_); go_simp; refine hK _ ?_; clear hK K)
  (refine inv_val (by rfl) (by intro w hg hl; have z := (HR8.out w hg); clear hl; go_simp; with_reducible rfl) (fun K hK => ?_); go_simp; refine hK _ ?_; clear hK K)
  iterate 4 (refine inv_val (by rfl) (by intro w hg hl; clear hl; go_simp; with_reducible rfl) (fun K hK => ?_); go_simp; refine hK _ ?_; clear hK K)
  refine inv_any (by rfl) (by rfl) (by
      intro w hg hl
      refine gets_sem ?_
      clear hl
      go_simp
      refine Calls.mono (bytes_any db kb mb pb mm d w (HP.out w hg)) ?_
      rintro e w3 ⟨v, rfl, ho3, hb3⟩
      exact ⟨v, rfl, RdV.own ho3, hb3⟩) (fun vb hv K hK => ?_)
  clear hv
  go_simp; refine hK _ ?_; clear hK K
  (refine inv_val (by rfl) (by intro w hg hl; have z := HE.out w _ _ _ (show RdV w w.heap.size vb (bv d.kept) from hl.at 49 72 (by kernel_rfl) rfl); clear hl; go_simp; with_reducible rfl) (fun K hK => ?_); go_simp; refine hK _ ?_; clear hK K)
  iterate 3 (refine inv_val (by rfl) (by intro w hg hl; clear hl; go_simp; with_reducible rfl) (fun K hK => ?_); go_simp; refine hK _ ?_; clear hK K)
  (refine inv_val (by rfl) (by intro w hg hl; have z := (HR2.out w hg); clear hl; go_simp; with_reducible rfl) (fun K hK => ?_); go_simp; refine hK _ ?_; clear hK K)
  (refine inv_val (by rfl) (by intro w hg hl; have z := HE.out w _ _ _ (HRK.out w hg); clear hl; go_simp; with_reducible rfl) (fun K hK => ?_); go_simp; refine hK _ ?_; clear hK K)
  iterate 3 (refine inv_val (by rfl) (by intro w hg hl; clear hl; go_simp; with_reducible rfl) (fun K hK => ?_); go_simp; refine hK _ ?_; clear hK K)
  intro w4 hg hh
  clear hh
  go_wp2
  go_ret
  rw [HDD.out]
  exact ⟨rfl, ⟨HJ.out.p.next hg.frm, HJ.out.r.next hg.frm, HJ.out.aw, HJ.out.apart, HJ.out.kk⟩, HF.out.trans (hg.frm.mono fun _ _ h => h.elim)⟩
end Go.Proofs.Ytldmamcalfmedaa
