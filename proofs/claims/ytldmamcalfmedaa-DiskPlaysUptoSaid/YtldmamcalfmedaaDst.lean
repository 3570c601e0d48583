/- The disk: settle. Conditions: the closure keeps what is asked of it. -/
import Derived.Test.YtldmamcalfmedaaDsq
namespace Go.Proofs.Ytldmamcalfmedaa
open Go.ChangeShapes Go.WideShapes Go.ChangeAt Go.RowKit Go.Maps
set_option linter.unusedSimpArgs false
set_option linter.unusedVariables false
section
variable {P : Program} {w : World}
/-- copying into the midst of a row -/
theorem run_copy_mid (base : Nat) (t t' ty e : TypeId) (z : Value) (bytes : Nat) (ht : P.underlying t = some (.slice e)) (hi : (P.info? e).map (fun i => (i.zero, i.size, i.bytes)) = some (some z, 1, bytes)) (hz1 : z.cells.size = 1)
    (g off n c m dc : Nat) (xs : List Value) (hown : w.ownsRow base e 1 (.slice (some ⟨g, 0, none⟩) n c) n xs) (v : Value) (B : Nat) (ys : List Value) (hr : RdV w B v ys) (hm : ys.length = m) (hpos : 0 < m) (hoff : off + m ≤ n) (h1 : ∀ u ∈ ys, u.oneCell' = true) :
    ∃ w', (Builtin.copy_ #[t, t'] ty #[.slice (some ⟨g, off, none⟩) m dc, v]).run P w = .ok (goInt m) w' ∧ w'.ownsRow base e 1 (.slice (some ⟨g, 0, none⟩) n c) n (xs.take off ++ ys ++ xs.drop (off + m)) ∧ w.grownBy w' (some g) := by
  subst hm
  obtain ⟨i, hi1, hi2, hi3, hi4⟩ := info_parts hi
  have hsz : (P.info? e).map (·.size) = some 1 := by rw [hi1]; simp [hi3]
  have hl := hown.1
  obtain ⟨A, c', rfl, hc1, hc2, hc3⟩ := id hr
  rcases hown.2 with ⟨h, _⟩ | ⟨g', cap, cur, hv, hb, hh, hnc, hcm, hcs, htk⟩
  · cases h
  injection hv with hv1 hv2 hv3
  injection hv1 with hv1
  injection hv1 with hv1 _ _
  subst hv1 hv3
  obtain ⟨b, o2, rfl, hbB, hc⟩ := hc3 (by omega)
  have hrun := run_copy_row (P := P) w t t' ty e g off ys.length dc ⟨b, o2, none⟩ ys.length c' cur e ys ht hsz hh (Nat.min_self _).symm (fun j u hu => by rw [Addr.add_lit]; exact hc j u hu) (by omega) h1
  have hcl : cur.toList.length = c := by simpa using hcs
  have hcut : cur.toList = xs ++ cur.toList.drop n := by
    rw [Nat.mul_one] at htk
    rw [← htk]; exact (List.take_append_drop n cur.toList).symm
  have hxl : xs.length = n := by omega
  have he : cur.toList.take off ++ ys ++ cur.toList.drop (off + ys.length) = (xs.take off ++ ys ++ xs.drop (off + ys.length)) ++ cur.toList.drop n := by
    rw [hcut, List.take_append_of_le_length (by omega), List.drop_append_of_le_length (by omega), List.drop_left' hxl]
    simp [List.append_assoc]
  refine ⟨_, hrun, ⟨?_, .inr ⟨g, c, _, rfl, hb, setRow_heap w g cur _ e _ hh, hnc, hcm, ?_, ?_⟩⟩, ⟨rfl, rfl, rfl, by simp, fun k _ hk => setRow_other w g k _ (fun e => hk (by simp [e]))⟩⟩
  · simp; omega
  · rw [he]
    simp
    omega
  · rw [he, Nat.mul_one]
    show List.take n ((xs.take off ++ ys ++ xs.drop (off + ys.length)) ++ cur.toList.drop n) = _
    exact List.take_left' (by simp; omega)
theorem step_copy_mid {ops : Array Oper} {o : Oper} {a : Act} {K : Act → World → Prop} {Q : Exit → Act → World → Prop} {E : Prop} (hgd : o.guard = none) (d s : Operand) (t t' : TypeId)
    (ho : o.op = .call { callee := .builtin .copy, args := #[d, s], argTypes := #[t, t'] })
    (base : Nat) (e : TypeId) (z : Value) (bytes : Nat) (ht : P.underlying t = some (.slice e)) (hi : (P.info? e).map (fun i => (i.zero, i.size, i.bytes)) = some (some z, 1, bytes)) (hz1 : z.cells.size = 1)
    (g off n c m dc : Nat) (xs : List Value) (hd : a.eval d = .slice (some ⟨g, off, none⟩) m dc) (hown : w.ownsRow base e 1 (.slice (some ⟨g, 0, none⟩) n c) n xs) (v : Value) (hs : a.eval s = v) (B : Nat) (ys : List Value) (hr : RdV w B v ys) (hm : ys.length = m) (hpos : 0 < m) (hoff : off + m ≤ n) (h1 : ∀ u ∈ ys, u.oneCell' = true)
    (h : ∀ w', w'.ownsRow base e 1 (.slice (some ⟨g, 0, none⟩) n c) n (xs.take off ++ ys ++ xs.drop (off + m)) → w.grownBy w' (some g) → K (a.put o.dst (goInt m)) w') :
    if Region.wanted o (yielded ops a.tmps) = true then Oper.wp P o a w K Q else E := by
  refine step_wanted w hgd ?_
  obtain ⟨w', hrun, h2, h3⟩ := run_copy_mid (P := P) (w := w) base t t' o.type e z bytes ht hi hz1 g off n c m dc xs hown v B ys hr hm hpos hoff h1
  unfold Oper.wp execOp
  simp only [ho, resolve, invoke, builtin, Sem.run_bind, Sem.run_pure, Result.andThen_ok, List.map_toArray, List.map_cons, List.map_nil, hd, hs, hrun]
  exact h w' h2 h3
end
theorem inf8 : (Try.prog.info? 5).map (fun i => (i.zero, i.size, i.bytes)) = some (some (.int .u8 0), 1, 1) := by kernel_rfl
/-- a write laid over what is kept -/
def layP (size : Nat) (K : List UInt8) (p : Nat × List UInt8) : List UInt8 := K.take (p.1 * size) ++ p.2 ++ K.drop (p.1 * size + size)
def setL (size : Nat) (kp : Nat → Bool) : List (Nat × List UInt8) → Nat → List UInt8 → List UInt8
  | [], _, K => K
  | p :: r, i, K => setL size kp r (i + 1) (if kp i then layP size K p else K)
theorem setL_snoc (size : Nat) (kp : Nat → Bool) (p : Nat × List UInt8) : ∀ (l : List (Nat × List UInt8)) (i : Nat) (K : List UInt8), setL size kp (l ++ [p]) i K = if kp (i + l.length) then layP size (setL size kp l i K) p else setL size kp l i K
  | [], i, K => rfl
  | q :: r, i, K => by
    show setL size kp (r ++ [p]) (i + 1) _ = _
    rw [setL_snoc size kp p r, show i + 1 + r.length = i + (q :: r).length from by simp; omega]
    rfl
theorem layP_length {size n : Nat} {K : List UInt8} {p : Nat × List UInt8} (hK : K.length = n * size) (hp : p.1 < n) (hb : p.2.length = size) : (layP size K p).length = n * size := by
  have : (p.1 + 1) * size ≤ n * size := Nat.mul_le_mul_right _ hp
  rw [Nat.add_mul, Nat.one_mul] at this
  unfold layP
  simp only [List.length_append, List.length_take, List.length_drop]
  omega
theorem setL_length {size n : Nat} (kp : Nat → Bool) : ∀ (l : List (Nat × List UInt8)) (i : Nat) (K : List UInt8), K.length = n * size → (∀ p ∈ l, p.1 < n ∧ p.2.length = size) → (setL size kp l i K).length = n * size
  | [], i, K, hK, _ => hK
  | p :: r, i, K, hK, hp => by
    refine setL_length kp r (i + 1) _ ?_ (fun q hq => hp q (by simp [hq]))
    split
    · exact layP_length hK (hp p (by simp)).1 (hp p (by simp)).2
    · exact hK
/-- what is kept has turned, and nothing else -/
theorem DBox.lay {w w' : World} {db kb mb pb mm : Nat} {d : Dk} (h : DBox w db kb mb pb mm d) (hf : Frm (fun j => j = kb) w w') (K : List UInt8) (hK : K.length = d.kept.length)
    (ho : ∀ kc, w.ownsRow 0 5 1 (.slice (some ⟨kb, 0, none⟩) d.kept.length kc) d.kept.length (bv d.kept) → w'.ownsRow 0 5 1 (.slice (some ⟨kb, 0, none⟩) d.kept.length kc) d.kept.length (bv K)) : DBox w' db kb mb pb mm { d with kept := K } := by
  obtain ⟨keepV, pv, kc, h1, h2, h3, h4, h5⟩ := h.cells
  obtain ⟨n1, n2, n3, n4⟩ := h.ne
  refine ⟨⟨keepV, pv, kc, ?_, h2.frm hf (fun j hj => Or.inl (Or.inr (Or.inl hj))), ?_, ?_, h5⟩, h.map.keep (hf.block mb h.lt.2.2 (fun x => n3 x.symm)), h.ne, ⟨h.ok.n, h.ok.size, by show K.length = _; rw [hK]; exact h.ok.kept, h.ok.pend⟩, Nat.lt_of_lt_of_le h.small hf.size, fun j hj => Nat.lt_of_lt_of_le (h.away j hj) hf.size⟩
  · rw [hf.block db h.lt.1 n1, h1]
    unfold dcells
    simp only [hK]
  · show w'.ownsRow 0 _ 1 (.slice (some ⟨kb, 0, none⟩) K.length kc) K.length (bv K)
    rw [hK]
    exact ho kc h3
  · by_cases hp : d.pend = []
    · have := h5 hp
      subst this
      show PRow w' _ pb _ d.pend
      rw [hp] at h4 ⊢
      obtain ⟨xs, a1, a2, a3⟩ := h4
      exact ⟨xs, own_keep a1 (fun g hg => by cases hg), a2, fun i p hi => by simp at hi⟩
    · exact h4.frm hf (fun j hj => Or.inl (Or.inr (Or.inl hj))) (n4 hp).2.1
theorem PRow.cells {w : World} {M : Nat → Prop} {pb : Nat} {pv : Value} {pend : List (Nat × List UInt8)} (h : PRow w M pb pv pend) {i : Nat} {p : Nat × List UInt8} (hi : pend[i]? = some p) :
    ∃ cap v, pv = .slice (some ⟨pb, 0, none⟩) pend.length cap ∧ w.cell? ⟨pb, i * 2, none⟩ = some (.int .i64 (p.1 : Nat)) ∧ w.cell? ⟨pb, i * 2 + 1, none⟩ = some v ∧ RdX M w v (bv p.2) := by
  obtain ⟨xs, h1, h2, h3⟩ := h
  have hlt : i < pend.length := (List.getElem?_eq_some_iff.1 hi).1
  obtain ⟨e1, v, e2, e3⟩ := h3 i p hi
  obtain ⟨g, cap, hpv⟩ : ∃ g cap, pv = .slice (some ⟨g, 0, none⟩) pend.length cap := by
    obtain ⟨_, ⟨_, h0⟩ | ⟨g, cap, _, hv, _⟩⟩ := h1
    · omega
    · exact ⟨g, cap, hv⟩
  have hg : g = pb := h2 g (by rw [hpv]; rfl)
  subst hg hpv
  refine ⟨cap, v, rfl, ?_, ?_, e3⟩
  · rw [h1.cellAt (i * 2) (by omega), Nat.mul_comm]; exact e1
  · rw [h1.cellAt (i * 2 + 1) (by omega), Nat.mul_comm]; exact e2
theorem DBox.cleared {w w' : World} {db kb mb pb mm : Nat} {d : Dk} (h : DBox w db kb mb pb mm d) (hm : MBox w' mb mm (fun _ => ⟨0, 0⟩)) (hT : (w.setCell ⟨db, 6, none⟩ (.slice none 0 0)).mapTurned w' mb) :
    DBox w' db kb mb pb mm { d with pend := [] } ∧ Frm (fun j => j = db ∨ j = mb) w w' := by
  have hF : Frm (fun j => j = db ∨ j = mb) w w' := ((Frm.refl (fun j => j = db ∨ j = mb) w).setCell db 6 (Or.inl (Or.inl rfl)) (.slice none 0 0)).trans ((Frm.of_grown hT.grown).mono (fun j _ h => Or.inr h))
  obtain ⟨keepV, pv, kc, h1, h2, h3, h4, h5⟩ := h.cells
  obtain ⟨n1, n2, n3, n4⟩ := h.ne
  refine ⟨⟨⟨keepV, .slice none 0 0, kc, ?_, h2.frm hF (fun j hj => Or.inl (by unfold Own; omega)), own_keep h3 (fun g hg => by injection hg with hg; subst hg; exact hF.block _ h.lt.2.1 (by show ¬ (kb = db ∨ kb = mb); omega)), ⟨[], ⟨rfl, Or.inl ⟨rfl, rfl⟩⟩, fun g hg => (by cases hg), fun i p hi => (by simp at hi)⟩, fun _ => rfl⟩, hm, ⟨n1, n2, n3, fun h => absurd rfl h⟩, ⟨h.ok.n, h.ok.size, h.ok.kept, fun p hp => (by cases hp)⟩, Nat.lt_of_lt_of_le h.small hF.size, fun j hj => Nat.lt_of_lt_of_le (h.away j hj) hF.size⟩, hF⟩
  have := heap_setCell_same w db 6 _ _ (.slice none 0 0) h1
  have hb := hT.grown.block db (by simp [World.setCell]; exact h.lt.1) (fun e => n2 (by injection e))
  rw [hb, this]
  rfl
theorem own_cap_eq {w : World} {g n a b : Nat} {e : TypeId} {xs ys : List Value} (h : w.ownsRow 0 e 1 (.slice (some ⟨g, 0, none⟩) n a) n xs) (k : w.ownsRow 0 e 1 (.slice (some ⟨g, 0, none⟩) n b) n ys) : a = b := by
  obtain ⟨_, ⟨e0, _⟩ | ⟨g1, c1, u1, e1, _, h1, _, _, s1, _⟩⟩ := h
  · cases e0
  obtain ⟨_, ⟨e0, _⟩ | ⟨g2, c2, u2, e2, _, h2, _, _, s2, _⟩⟩ := k
  · cases e0
  injection e1 with a1 _ a3
  injection a1 with a1
  injection a1 with a1
  injection e2 with b1 _ b3
  injection b1 with b1
  injection b1 with b1
  subst a1 b1 a3 b3
  rw [h1] at h2
  injection h2 with h2
  injection h2 with h2
  subst h2
  omega
theorem bv_lay (size : Nat) (K : List UInt8) (p : Nat × List UInt8) : bv (layP size K p) = (bv K).take (p.1 * size) ++ bv p.2 ++ (bv K).drop (p.1 * size + size) := by
  unfold layP bv
  simp
set_option maxRecDepth 100000 in
set_option maxHeartbeats 4000000 in
theorem settle_flush (db kb mb pb mm : Nat) (d : Dk) (w : World) (h : DBox w db kb mb pb mm d) (kp : Nat → Bool) (C : World → Prop) (hC : C w) (hCs : ∀ a b, C a → Frm (fun j => j = db ∨ j = kb ∨ j = mb) a b → C b) (hlen : d.pend.length ≤ 1000000)
    (hE : ∀ w1 (i : Nat), i < d.pend.length → C w1 → Calls Try.prog 39 #[.int .i64 (i : Nat)] w1 fun e w2 => e = .returned (.bool (kp i)) ∧ Frm (fun _ => False) w1 w2) :
    Calls Try.prog 38 #[.pointer (some ⟨db, 0, none⟩), .func (Fn.func 39) #[] #[]] w fun e w' => e = .returned (.tuple #[]) ∧ DBox w' db kb mb pb mm { d with kept := setL d.size kp d.pend 0 d.kept, pend := [] } ∧ Frm (fun j => j = db ∨ j = kb ∨ j = mb) w w' := by
  obtain ⟨keepV, pv, kc, h1, _, h3, h4, h5, _, _, _, _, _, _, c6, _⟩ := h.at
  obtain ⟨A, c, rfl⟩ : ∃ A c, pv = .slice A d.pend.length c := by
    obtain ⟨xs, ho, _⟩ := h4
    obtain ⟨_, ⟨e, h0⟩ | ⟨g, cap, _, e, _⟩⟩ := ho
    · exact ⟨none, 0, by rw [e, h0]⟩
    · exact ⟨_, _, e⟩
  have H := Lib.hid h
  have HP := Lib.hid h4
  have HE := Lib.hid hE
  have HC := Lib.hid hC
  have HCS := Lib.hid hCs
  have hlt := h.lt
  have hne := h.ne
  have hs := h.ok.size
  have hn := h.ok.n
  clear h h1 h3 h4 h5 hE hC hCs
  go_enter Try.func38, Try.ntmps38
  go_wp2
  go_loopw [11] (fun i wr => ∃ k : Nat, k ≤ d.pend.length ∧ i = .int .i64 k ∧ DBox wr db kb mb pb mm { d with kept := setL d.size kp (d.pend.take k) 0 d.kept } ∧ Frm (fun j => j = kb) w wr) (fun i wr => d.pend.length - (intOf i).toNat)
  case atStart => exact ⟨0, by omega, rfl, by rw [List.take_zero]; exact H.out, Frm.refl _ _⟩
  case round =>
    obtain ⟨k, hk, rfl, hD, hF⟩ := hrel
    by_cases hlt2 : k < d.pend.length
    · have hpk : d.pend[k]? = some d.pend[k] := List.getElem?_eq_getElem hlt2
      have hpn : d.pend ≠ [] := fun e => by rw [e] at hlt2; simp at hlt2
      obtain ⟨cap, v, e1, y0, y1, hv⟩ := (HP.out.frm hF (fun j hj => Or.inl (Or.inr (Or.inl hj))) (hne.2.2.2 hpn).2.1).cells hpk
      injection e1 with e1 _ e2
      subst e1 e2
      have hpok := H.out.ok.pend _ (List.getElem_mem hlt2)
      have hst : d.pend.take (k + 1) = d.pend.take k ++ [d.pend[k]] := List.take_succ_eq_append_getElem hlt2
      have hsn := setL_snoc d.size kp d.pend[k] (d.pend.take k) 0 d.kept
      rw [← hst, Nat.zero_add, List.length_take, Nat.min_eq_left (by omega)] at hsn
      have hba : Below wr.heap.size wr (wr.alloc (.cells #[.int .i64 (d.pend[k].1 : Nat), v] 76)) := (Below.refl _ wr).alloc (Nat.le_refl _) _
      have hx := heap_alloc_new wr (.cells #[.int .i64 (d.pend[k].1 : Nat), v] 76)
      have hcl := HE.out (wr.alloc (.cells #[.int .i64 (d.pend[k].1 : Nat), v] 76)) k hlt2 (HCS.out _ _ HC.out ((hF.mono (fun j _ h => Or.inr (Or.inl h))).trans (Frm.of_below hba)))
      obtain ⟨A2, c2, rfl, v1, v2, v3⟩ := id hv
      have HV := Lib.hid hv
      have HD := Lib.hid hD
      have HF := Lib.hid hF
      have HCL := Lib.hid hcl
      have HSN := Lib.hid hsn
      have HX := Lib.hid hx
      have HBA := Lib.hid hba
      rw [bv_length, hpok.2] at v1
      rw [bv_length, hpok.2] at y1 HX HBA HCL HV
      clear hv hD hF hcl hsn hx hba v3 hst hpk
      obtain ⟨p, hp⟩ : ∃ p, d.pend[k] = p := ⟨_, rfl⟩
      rw [hp] at y0 hpok HX HBA HCL HV HSN
      clear hp
      cases hkp : kp k with
      | false =>
        rw [hkp] at HCL HSN
        go_wp2_with fail
        refine HCL.out.mono ?_
        rintro e w2 ⟨rfl, hF2⟩
        have hW : Frm (fun _ => False) wr w2 := (Frm.of_below HBA.out).trans hF2
        have HD2 := Lib.hid (HD.out.next hW)
        have HF2 := Lib.hid (HF.out.trans (hW.mono fun _ _ h => h.elim))
        clear hF2 hW
        go_wp2
        go_roundw
        case rel => exact ⟨k + 1, by omega, by go_num, by rw [HSN.out]; exact HD2.out, HF2.out⟩
        case measure => simp [intOf]; omega
      | true =>
        rw [hkp] at HCL HSN
        go_wp2_with fail
        refine HCL.out.mono ?_
        rintro e w2 ⟨rfl, hF2⟩
        have hW : Frm (fun _ => False) wr w2 := (Frm.of_below HBA.out).trans hF2
        have hD2 := HD.out.next hW
        have hx2 := (hF2.block wr.heap.size (by simp) id).trans HX.out
        have z0 : w2.cell? ⟨wr.heap.size, 0, none⟩ = some (.int .i64 (p.1 : Nat)) := cell_of_row w2 wr.heap.size 0 _ _ _ hx2
        have z1 : w2.cell? ⟨wr.heap.size, 1, none⟩ = some (.slice A2 d.size c2) := cell_of_row w2 wr.heap.size 1 _ _ _ hx2
        have hKl := hD2.ok.kept
        obtain ⟨_, _, kc2, _, _, hown, _⟩ := hD2.cells
        obtain ⟨K, hKK⟩ : ∃ K, setL d.size kp (List.take k d.pend) 0 d.kept = K := ⟨_, rfl⟩
        have hat : Calls Try.prog 45 #[.pointer (some ⟨db, 0, none⟩), .int .i64 (p.1 : Nat)] w2.drew fun e w' => e = .returned (.slice (some ⟨kb, p.1 * d.size, none⟩) d.size d.size) ∧ ∃ k, w' = w2.drew.drewN k := at_any db kb mb pb mm _ w2.drew (hD2.next (Frm.refl _ w2).drew) p.1 hpok.1
        have hown' : w2.ownsRow 0 5 1 (.slice (some ⟨kb, 0, none⟩) (setL d.size kp (List.take k d.pend) 0 d.kept).length kc2) (setL d.size kp (List.take k d.pend) 0 d.kept).length (bv (setL d.size kp (List.take k d.pend) 0 d.kept)) := hown
        have hKl' : (setL d.size kp (List.take k d.pend) 0 d.kept).length = d.n * d.size := hKl
        rw [hKK] at hown' hD2 hKl' HSN
        have hb2 : (p.1 + 1) * d.size ≤ d.n * d.size := Nat.mul_le_mul_right _ hpok.1
        rw [Nat.add_mul, Nat.one_mul, ← hKl'] at hb2
        have hr2 := (HV.out.frm hW (fun _ h => h.elim)).rd
        have hpl : (bv p.2).length = d.size := by rw [bv_length]; exact hpok.2
        have HAT := Lib.hid hat
        have HO := Lib.hid hown'
        have HR := Lib.hid hr2
        have HD2 := Lib.hid hD2
        have HKL := Lib.hid hKl'
        have HPOK := Lib.hid hpok
        have HPL := Lib.hid hpl
        have HF2 := Lib.hid (HF.out.trans (hW.mono fun _ _ h => h.elim))
        clear hF2 hW hD2 hx2 hr2 hown hown' hKl hKl' hat hKK hpok hpl
        go_wp2_with fail
        go_region_law (first
          | (refine step_wanted _ rfl ?_; go_simp; go_at_call 45; refine Calls.mono HAT.out ?_; rintro e w3 ⟨rfl, q3, rfl⟩)
          | (refine step_copy_mid rfl (.tmp 22) (.tmp 24) 32 32 rfl 0 5 (.int .u8 0) 1 Try.underlying32 inf8 rfl kb (p.1 * d.size) K.length kc2 d.size d.size (bv K) rfl HO.out _ rfl _ (bv p.2) HR.out HPL.out (by omega) hb2 (bv_one _) ?_; intro w4 ho4 hg4)
          | fail)
        all_goals
          have hFg : Frm (fun j => j = kb) w2 w4 := by first | exact (Frm.drewN w2 (1 + q3)).trans (Frm.of_grown hg4) | exact (Frm.refl (fun j => j = kb) w2).drew.trans ((Frm.drewN _ q3).trans (Frm.of_grown hg4))
          have hD4 := HD2.out.lay hFg (layP d.size K p) ((layP_length HKL.out HPOK.out.1 HPOK.out.2).trans HKL.out.symm) (fun kc3 ho3 => by
            have e : kc3 = kc2 := own_cap_eq ho3 HO.out
            subst e
            rw [bv_lay]
            exact ho4)
          have HD4 := Lib.hid hD4
          have HF4 := Lib.hid (HF2.out.trans hFg)
          clear ho4 hg4 hFg hD4
          go_wp2
          go_roundw
          case rel => exact ⟨k + 1, by omega, by go_num, by rw [HSN.out]; exact HD4.out, HF4.out⟩
          case measure => simp [intOf]; omega
    · obtain rfl : k = d.pend.length := by omega
      rw [List.take_length] at hD
      have hmb := hD.map.keep (w' := wr.setCell ⟨db, 6, none⟩ (.slice none 0 0)) (heap_setCell_other wr _ mb _ (fun e => hne.2.1 e.symm))
      obtain ⟨w5, hrun, hM5, hT5⟩ := hmb.wipe 0
      obtain ⟨hD5, hF5⟩ := hD.cleared hM5 hT5
      obtain ⟨_, _, _, h1, _, _, _, _, _, _, _, _, _, _, c6, c7, _, _, fr⟩ := hD.at
      have f6 := fr 6
      have c7' : (wr.setCell ⟨db, 6, none⟩ (.slice none 0 0)).cell? ⟨db, 7, none⟩ = some (.map (some mb)) := cell_of_row _ db 7 _ _ _ (heap_setCell_same wr db 6 _ _ _ h1)
      have HD5 := Lib.hid hD5
      have HF5 := Lib.hid ((hF.mono (fun j _ h => Or.inr (Or.inl h))).trans (hF5.mono (fun j _ h => by omega)) : Frm (fun j => j = db ∨ j = kb ∨ j = mb) w w5)
      clear hmb hM5 hT5 hD5 hF5 h1 fr c7 hD hF
      go_wp2
      go_end0
      exact ⟨rfl, HD5.out, HF5.out⟩
set_option maxRecDepth 100000 in
set_option maxHeartbeats 4000000 in
theorem settle_cut (c0 : Value) (db kb mb pb mm : Nat) (d : Dk) (w : World) (h : DBox w db kb mb pb mm d) (kp : Nat → Bool) (C : World → Prop) (hC : C w) (hCs : ∀ a b, C a → Frm (fun j => j = db ∨ j = kb ∨ j = mb) a b → C b) (hlen : d.pend.length ≤ 1000000)
    (hE : ∀ w1 (i : Nat), i < d.pend.length → C w1 → Calls Try.prog 42 #[.int .i64 (i : Nat), c0] w1 fun e w2 => e = .returned (.bool (kp i)) ∧ Frm (fun _ => False) w1 w2) :
    Calls Try.prog 38 #[.pointer (some ⟨db, 0, none⟩), .func (Fn.func 42) #[] #[c0]] w fun e w' => e = .returned (.tuple #[]) ∧ DBox w' db kb mb pb mm { d with kept := setL d.size kp d.pend 0 d.kept, pend := [] } ∧ Frm (fun j => j = db ∨ j = kb ∨ j = mb) w w' := by
  obtain ⟨keepV, pv, kc, h1, _, h3, h4, h5, _, _, _, _, _, _, c6, _⟩ := h.at
  obtain ⟨A, c, rfl⟩ : ∃ A c, pv = .slice A d.pend.length c := by
    obtain ⟨xs, ho, _⟩ := h4
    obtain ⟨_, ⟨e, h0⟩ | ⟨g, cap, _, e, _⟩⟩ := ho
    · exact ⟨none, 0, by rw [e, h0]⟩
    · exact ⟨_, _, e⟩
  have H := Lib.hid h
  have HP := Lib.hid h4
  have HE := Lib.hid hE
  have HC := Lib.hid hC
  have HCS := Lib.hid hCs
  have hlt := h.lt
  have hne := h.ne
  have hs := h.ok.size
  have hn := h.ok.n
  clear h h1 h3 h4 h5 hE hC hCs
  go_enter Try.func38, Try.ntmps38
  go_wp2
  go_loopw [11] (fun i wr => ∃ k : Nat, k ≤ d.pend.length ∧ i = .int .i64 k ∧ DBox wr db kb mb pb mm { d with kept := setL d.size kp (d.pend.take k) 0 d.kept } ∧ Frm (fun j => j = kb) w wr) (fun i wr => d.pend.length - (intOf i).toNat)
  case atStart => exact ⟨0, by omega, rfl, by rw [List.take_zero]; exact H.out, Frm.refl _ _⟩
  case round =>
    obtain ⟨k, hk, rfl, hD, hF⟩ := hrel
    by_cases hlt2 : k < d.pend.length
    · have hpk : d.pend[k]? = some d.pend[k] := List.getElem?_eq_getElem hlt2
      have hpn : d.pend ≠ [] := fun e => by rw [e] at hlt2; simp at hlt2
      obtain ⟨cap, v, e1, y0, y1, hv⟩ := (HP.out.frm hF (fun j hj => Or.inl (Or.inr (Or.inl hj))) (hne.2.2.2 hpn).2.1).cells hpk
      injection e1 with e1 _ e2
      subst e1 e2
      have hpok := H.out.ok.pend _ (List.getElem_mem hlt2)
      have hst : d.pend.take (k + 1) = d.pend.take k ++ [d.pend[k]] := List.take_succ_eq_append_getElem hlt2
      have hsn := setL_snoc d.size kp d.pend[k] (d.pend.take k) 0 d.kept
      rw [← hst, Nat.zero_add, List.length_take, Nat.min_eq_left (by omega)] at hsn
      have hba : Below wr.heap.size wr (wr.alloc (.cells #[.int .i64 (d.pend[k].1 : Nat), v] 76)) := (Below.refl _ wr).alloc (Nat.le_refl _) _
      have hx := heap_alloc_new wr (.cells #[.int .i64 (d.pend[k].1 : Nat), v] 76)
      have hcl := HE.out (wr.alloc (.cells #[.int .i64 (d.pend[k].1 : Nat), v] 76)) k hlt2 (HCS.out _ _ HC.out ((hF.mono (fun j _ h => Or.inr (Or.inl h))).trans (Frm.of_below hba)))
      obtain ⟨A2, c2, rfl, v1, v2, v3⟩ := id hv
      have HV := Lib.hid hv
      have HD := Lib.hid hD
      have HF := Lib.hid hF
      have HCL := Lib.hid hcl
      have HSN := Lib.hid hsn
      have HX := Lib.hid hx
      have HBA := Lib.hid hba
      rw [bv_length, hpok.2] at v1
      rw [bv_length, hpok.2] at y1 HX HBA HCL HV
      clear hv hD hF hcl hsn hx hba v3 hst hpk
      obtain ⟨p, hp⟩ : ∃ p, d.pend[k] = p := ⟨_, rfl⟩
      rw [hp] at y0 hpok HX HBA HCL HV HSN
      clear hp
      cases hkp : kp k with
      | false =>
        rw [hkp] at HCL HSN
        go_wp2_with fail
        refine HCL.out.mono ?_
        rintro e w2 ⟨rfl, hF2⟩
        have hW : Frm (fun _ => False) wr w2 := (Frm.of_below HBA.out).trans hF2
        have HD2 := Lib.hid (HD.out.next hW)
        have HF2 := Lib.hid (HF.out.trans (hW.mono fun _ _ h => h.elim))
        clear hF2 hW
        go_wp2
        go_roundw
        case rel => exact ⟨k + 1, by omega, by go_num, by rw [HSN.out]; exact HD2.out, HF2.out⟩
        case measure => simp [intOf]; omega
      | true =>
        rw [hkp] at HCL HSN
        go_wp2_with fail
        refine HCL.out.mono ?_
        rintro e w2 ⟨rfl, hF2⟩
        have hW : Frm (fun _ => False) wr w2 := (Frm.of_below HBA.out).trans hF2
        have hD2 := HD.out.next hW
        have hx2 := (hF2.block wr.heap.size (by simp) id).trans HX.out
        have z0 : w2.cell? ⟨wr.heap.size, 0, none⟩ = some (.int .i64 (p.1 : Nat)) := cell_of_row w2 wr.heap.size 0 _ _ _ hx2
        have z1 : w2.cell? ⟨wr.heap.size, 1, none⟩ = some (.slice A2 d.size c2) := cell_of_row w2 wr.heap.size 1 _ _ _ hx2
        have hKl := hD2.ok.kept
        obtain ⟨_, _, kc2, _, _, hown, _⟩ := hD2.cells
        obtain ⟨K, hKK⟩ : ∃ K, setL d.size kp (List.take k d.pend) 0 d.kept = K := ⟨_, rfl⟩
        have hat : Calls Try.prog 45 #[.pointer (some ⟨db, 0, none⟩), .int .i64 (p.1 : Nat)] w2.drew fun e w' => e = .returned (.slice (some ⟨kb, p.1 * d.size, none⟩) d.size d.size) ∧ ∃ k, w' = w2.drew.drewN k := at_any db kb mb pb mm _ w2.drew (hD2.next (Frm.refl _ w2).drew) p.1 hpok.1
        have hown' : w2.ownsRow 0 5 1 (.slice (some ⟨kb, 0, none⟩) (setL d.size kp (List.take k d.pend) 0 d.kept).length kc2) (setL d.size kp (List.take k d.pend) 0 d.kept).length (bv (setL d.size kp (List.take k d.pend) 0 d.kept)) := hown
        have hKl' : (setL d.size kp (List.take k d.pend) 0 d.kept).length = d.n * d.size := hKl
        rw [hKK] at hown' hD2 hKl' HSN
        have hb2 : (p.1 + 1) * d.size ≤ d.n * d.size := Nat.mul_le_mul_right _ hpok.1
        rw [Nat.add_mul, Nat.one_mul, ← hKl'] at hb2
        have hr2 := (HV.out.frm hW (fun _ h => h.elim)).rd
        have hpl : (bv p.2).length = d.size := by rw [bv_length]; exact hpok.2
        have HAT := Lib.hid hat
        have HO := Lib.hid hown'
        have HR := Lib.hid hr2
        have HD2 := Lib.hid hD2
        have HKL := Lib.hid hKl'
        have HPOK := Lib.hid hpok
        have HPL := Lib.hid hpl
        have HF2 := Lib.hid (HF.out.trans (hW.mono fun _ _ h => h.elim))
        clear hF2 hW hD2 hx2 hr2 hown hown' hKl hKl' hat hKK hpok hpl
        go_wp2_with fail
        go_region_law (first
          | (refine step_wanted _ rfl ?_; go_simp; go_at_call 45; refine Calls.mono HAT.out ?_; rintro e w3 ⟨rfl, q3, rfl⟩)
          | (refine step_copy_mid rfl (.tmp 22) (.tmp 24) 32 32 rfl 0 5 (.int .u8 0) 1 Try.underlying32 inf8 rfl kb (p.1 * d.size) K.length kc2 d.size d.size (bv K) rfl HO.out _ rfl _ (bv p.2) HR.out HPL.out (by omega) hb2 (bv_one _) ?_; intro w4 ho4 hg4)
          | fail)
        all_goals
          have hFg : Frm (fun j => j = kb) w2 w4 := by first | exact (Frm.drewN w2 (1 + q3)).trans (Frm.of_grown hg4) | exact (Frm.refl (fun j => j = kb) w2).drew.trans ((Frm.drewN _ q3).trans (Frm.of_grown hg4))
          have hD4 := HD2.out.lay hFg (layP d.size K p) ((layP_length HKL.out HPOK.out.1 HPOK.out.2).trans HKL.out.symm) (fun kc3 ho3 => by
            have e : kc3 = kc2 := own_cap_eq ho3 HO.out
            subst e
            rw [bv_lay]
            exact ho4)
          have HD4 := Lib.hid hD4
          have HF4 := Lib.hid (HF2.out.trans hFg)
          clear ho4 hg4 hFg hD4
          go_wp2
          go_roundw
          case rel => exact ⟨k + 1, by omega, by go_num, by rw [HSN.out]; exact HD4.out, HF4.out⟩
          case measure => simp [intOf]; omega
    · obtain rfl : k = d.pend.length := by omega
      rw [List.take_length] at hD
      have hmb := hD.map.keep (w' := wr.setCell ⟨db, 6, none⟩ (.slice none 0 0)) (heap_setCell_other wr _ mb _ (fun e => hne.2.1 e.symm))
      obtain ⟨w5, hrun, hM5, hT5⟩ := hmb.wipe 0
      obtain ⟨hD5, hF5⟩ := hD.cleared hM5 hT5
      obtain ⟨_, _, _, h1, _, _, _, _, _, _, _, _, _, _, c6, c7, _, _, fr⟩ := hD.at
      have f6 := fr 6
      have c7' : (wr.setCell ⟨db, 6, none⟩ (.slice none 0 0)).cell? ⟨db, 7, none⟩ = some (.map (some mb)) := cell_of_row _ db 7 _ _ _ (heap_setCell_same wr db 6 _ _ _ h1)
      have HD5 := Lib.hid hD5
      have HF5 := Lib.hid ((hF.mono (fun j _ h => Or.inr (Or.inl h))).trans (hF5.mono (fun j _ h => by omega)) : Frm (fun j => j = db ∨ j = kb ∨ j = mb) w w5)
      clear hmb hM5 hT5 hD5 hF5 h1 fr c7 hD hF
      go_wp2
      go_end0
      exact ⟨rfl, HD5.out, HF5.out⟩
end Go.Proofs.Ytldmamcalfmedaa
