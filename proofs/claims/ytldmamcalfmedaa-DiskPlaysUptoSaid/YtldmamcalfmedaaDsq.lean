/- The disk: goOff, arm, has, at, Shape. Conditions: none. -/
import Derived.Test.YtldmamcalfmedaaDsp
import Derived.Test.YtldmamcalfmedaaCut
namespace Go.Proofs.Ytldmamcalfmedaa
open Go.ChangeShapes Go.WideShapes Go.ChangeAt Go.RowKit Go.Maps
set_option linter.unusedSimpArgs false
set_option linter.unusedVariables false
/-- the disk's own cells alone have turned, and what is armed to be kept -/
theorem DBox.turnK {w w' : World} {db kb mb pb mm : Nat} {d d' : Dk} (h : DBox w db kb mb pb mm d) (hf : Frm (fun j => j = db) w w') (kv : Value) (hk : RdX (OwnX d.away db kb mb pb) w' kv (boolV d'.keep))
    (hc : ∀ keepV pv kc, w.heap[db]? = some (.cells (dcells d keepV pv kb kc mb) 70 (0, 0)) → w'.heap[db]? = some (.cells (dcells d' kv pv kb kc mb) 70 (0, 0)))
    (e2 : d'.kept = d.kept) (e3 : d'.pend = d.pend) (e4 : d'.n = d.n) (e5 : d'.size = d.size) (e6 : d'.away = d.away := by rfl) : DBox w' db kb mb pb mm d' := by
  obtain ⟨keepV, pv, kc, h1, h2, h3, h4, h5⟩ := h.cells
  obtain ⟨n1, n2, n3, n4⟩ := h.ne
  refine ⟨⟨kv, pv, kc, hc _ _ _ h1, by rw [e6]; exact hk, ?_, ?_, by rw [e3]; exact h5⟩, ?_, by rw [e3]; exact h.ne, ⟨by rw [e4]; exact h.ok.n, by rw [e5]; exact h.ok.size, by rw [e2, e4, e5]; exact h.ok.kept, by rw [e3, e4, e5]; exact h.ok.pend⟩, Nat.lt_of_lt_of_le h.small hf.size, by rw [e6]; exact fun j hj => Nat.lt_of_lt_of_le (h.away j hj) hf.size⟩
  · rw [e2]
    exact own_keep h3 (fun g hg => by injection hg with hg; subst hg; exact hf.block _ h.lt.2.1 (fun x => n1 x.symm))
  · rw [e3, e6]
    by_cases hp : d.pend = []
    · have := h5 hp
      subst this
      rw [hp] at h4 ⊢
      obtain ⟨xs, a1, a2, a3⟩ := h4
      exact ⟨xs, own_keep a1 (fun g hg => by cases hg), a2, fun i p hi => by simp at hi⟩
    · exact h4.frm hf (fun j hj => Or.inl (Or.inl hj)) (n4 hp).1
  · rw [e3]
    exact h.map.keep (hf.block mb h.lt.2.2 (fun x => n2 x.symm))
theorem Frm.drewN {O : Nat → Prop} (w : World) (n : Nat) : Frm O w (w.drewN n) := ⟨rfl, rfl, rfl, Nat.le_refl _, fun _ _ _ => rfl⟩
def offD (d : Dk) : Dk := { d with off := true, armed := false, left := 0, keep := [] }
section
variable (db kb mb pb mm : Nat) (d : Dk) (w : World) (h : DBox w db kb mb pb mm d)
include h
set_option maxRecDepth 100000 in
theorem goOff_any : Calls Try.prog 43 #[.pointer (some ⟨db, 0, none⟩)] w fun e w' => e = .returned (.tuple #[]) ∧ DBox w' db kb mb pb mm (offD d) ∧ Frm (fun j => j = db) w w' := by
  obtain ⟨keepV, pv, kc, h1, _, _, _, _, c0, c1, c2, c3, _, _, _, _, _, _, fr⟩ := h.at
  have f0 := fr 0
  have f1 := fr 1
  have f2 := fr 2
  have f3 := fr 3
  have hF : Frm (fun j => j = db) w ((((w.setCell ⟨db, 0, none⟩ (.bool true)).setCell ⟨db, 1, none⟩ (.bool false)).setCell ⟨db, 2, none⟩ (.int .i64 0)).setCell ⟨db, 3, none⟩ (.slice none 0 0)) := ((((Frm.refl (fun j => j = db) w).setCell db 0 (Or.inl rfl) _).setCell db 1 (Or.inl rfl) _).setCell db 2 (Or.inl rfl) _).setCell db 3 (Or.inl rfl) _
  have H2 := Lib.hid (h.turnK (d' := offD d) hF (.slice none 0 0) (RdX.nil_ _ _) (fun _ _ _ h1 => heap_setCell_same _ db 3 _ _ _ (heap_setCell_same _ db 2 _ _ _ (heap_setCell_same _ db 1 _ _ _ (heap_setCell_same w db 0 _ _ _ h1)))) rfl rfl rfl rfl)
  have HF := Lib.hid hF
  clear hF h h1 fr
  go_enter Try.func43, Try.ntmps43
  go_wp2
  go_end0
  exact ⟨rfl, H2.out, HF.out⟩
theorem DBox.quo : ((d.n : Nat) : Int) * ((d.size : Nat) : Int) / ((d.size : Nat) : Int) = (d.n : Nat) := by
  have := h.ok.size
  exact Int.mul_ediv_cancel _ (by omega)
set_option maxRecDepth 100000 in
set_option maxHeartbeats 1000000 in
theorem has_any (s : Int) : Calls Try.prog 36 #[.pointer (some ⟨db, 0, none⟩), .int .i64 s] w fun e w' => e = .returned (.bool (decide (0 ≤ s ∧ s < (d.n : Nat)))) ∧ ∃ k, w' = w.drewN k := by
  obtain ⟨keepV, pv, kc, h1, _, h3, _, _, _, _, _, _, c4, c5, _⟩ := h.at
  have hq := h.quo
  have hs := h.ok.size
  have hn := h.ok.n
  have hk := h.ok.kept
  have hb : d.n * d.size ≤ 65536 * 4096 := Nat.mul_le_mul hn.2 hs.2
  have HQ := Lib.hid hq
  clear h h1 h3 hq
  generalize d.kept.length = L at *
  by_cases h0 : 0 ≤ s
  · have t0 : decide (0 ≤ s) = true := decide_eq_true h0
    go_enter Try.func36, Try.ntmps36
    go_wp2_with fail
    go_quiet (fail)
    go_wp2
    go_ret
    exact ⟨by simp [HQ.out, h0], _, rfl⟩
  · have t0 : decide (0 ≤ s) = false := decide_eq_false h0
    go_enter Try.func36, Try.ntmps36
    go_wp2_with fail
    go_quiet (fail)
    go_wp2
    go_ret
    exact ⟨by rw [decide_eq_false (by omega)]; rfl, _, rfl⟩
set_option maxRecDepth 100000 in
set_option maxHeartbeats 1000000 in
theorem shape_any : Calls Try.prog 25 #[.pointer (some ⟨db, 0, none⟩)] w fun e w' => e = .returned (.tuple #[.int .i64 (d.n : Nat), .int .i64 (d.size : Nat)]) ∧ ∃ k, w' = w.drewN k := by
  obtain ⟨keepV, pv, kc, h1, _, h3, _, _, _, _, _, _, c4, c5, _⟩ := h.at
  have hq := h.quo
  have hs := h.ok.size
  have hn := h.ok.n
  have hk := h.ok.kept
  have hb : d.n * d.size ≤ 65536 * 4096 := Nat.mul_le_mul hn.2 hs.2
  have HQ := Lib.hid hq
  clear h h1 h3 hq
  generalize d.kept.length = L at *
  go_enter Try.func25, Try.ntmps25
  go_wp2_with fail
  go_quiet (fail)
  go_wp2
  go_ret2
  exact ⟨by simp [HQ.out], _, rfl⟩
set_option maxRecDepth 100000 in
set_option maxHeartbeats 1000000 in
theorem at_any (s : Nat) (hsn : s < d.n) : Calls Try.prog 45 #[.pointer (some ⟨db, 0, none⟩), .int .i64 (s : Nat)] w fun e w' => e = .returned (.slice (some ⟨kb, s * d.size, none⟩) d.size d.size) ∧ ∃ k, w' = w.drewN k := by
  obtain ⟨keepV, pv, kc, h1, _, h3, _, _, _, _, _, _, c4, c5, _⟩ := h.at
  have hs := h.ok.size
  have hn := h.ok.n
  have hk := h.ok.kept
  have hb : d.n * d.size ≤ 65536 * 4096 := Nat.mul_le_mul hn.2 hs.2
  have hb2 : (s + 1) * d.size ≤ d.n * d.size := Nat.mul_le_mul_right _ hsn
  have hcap : d.kept.length ≤ kc ∧ kc ≤ maxLen := by
    obtain ⟨_, ⟨e, _⟩ | ⟨g, cap, cur, e, _, _, a, b, _⟩⟩ := h3
    · cases e
    · injection e with _ _ e
      subst e
      exact ⟨a, b⟩
  obtain ⟨hcap, hml⟩ := hcap
  have hml : kc ≤ 9223372036854775807 := hml
  have hlo : ((s : Nat) : Int) * ((d.size : Nat) : Int) = ((s * d.size : Nat) : Int) := by rw [Int.natCast_mul]
  have hhi : (((s : Nat) : Int) + 1) * ((d.size : Nat) : Int) = ((s * d.size + d.size : Nat) : Int) := by rw [Int.natCast_add, Int.natCast_mul, Int.add_mul, Int.one_mul]
  rw [Nat.add_mul, Nat.one_mul] at hb2
  rw [← hk] at hb hb2
  have hp1 : 0 ≤ ((s : Nat) : Int) * ((d.size : Nat) : Int) ∧ ((s : Nat) : Int) * ((d.size : Nat) : Int) ≤ 268435456 := by rw [hlo]; omega
  have hp2 : 0 ≤ (((s : Nat) : Int) + 1) * ((d.size : Nat) : Int) ∧ (((s : Nat) : Int) + 1) * ((d.size : Nat) : Int) ≤ 268435456 := by rw [hhi]; omega
  have HLO := Lib.hid hlo
  have HHI := Lib.hid hhi
  clear h h1 h3 hk hlo hhi
  generalize d.kept.length = L at *
  generalize d.size = S at *
  go_enter Try.func45, Try.ntmps45
  go_wp2_with fail
  go_quiet (fail)
  go_upto_region 2 with (fail)
  rw [HLO.out, HHI.out]
  clear hp1 hp2 HLO HHI
  obtain ⟨lo, hlo'⟩ : ∃ lo, s * S = lo := ⟨_, rfl⟩
  rw [hlo'] at hb2 ⊢
  have HL := Lib.hid hlo'
  clear hlo'
  go_wp2
  go_ret
  exact ⟨by show Ending.returned (.slice (some ⟨kb, lo, none⟩) (lo + S - lo) (lo + S - lo)) = _; rw [Nat.add_sub_cancel_left, HL.out], _, rfl⟩
end
end Go.Proofs.Ytldmamcalfmedaa
