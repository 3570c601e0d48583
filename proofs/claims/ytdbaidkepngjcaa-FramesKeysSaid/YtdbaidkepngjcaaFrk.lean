/- The pool of frames: Count. Conditions: none. -/
import Derived.Test.YtdbaidkepngjcaaFrj
namespace Go.Proofs.Ytdbaidkepngjcaa
open Go.ChangeShapes Go.WideShapes Go.ChangeAt Go.RowKit Go.Maps
set_option linter.unusedSimpArgs false
set_option linter.unusedVariables false
def cU (L : List Fr) : Nat := L.countP (·.used)
def cD (L : List Fr) : Nat := L.countP (·.dirty)
def cP (L : List Fr) : Nat := L.countP (fun x => decide (0 < x.pins))
theorem cnt_take (f : Fr → Bool) (L : List Fr) (q : Nat) (hq : q < L.length) : (L.take (q + 1)).countP f = (L.take q).countP f + (if f L[q] then 1 else 0) := by
  rw [List.take_succ_eq_append_getElem hq, List.countP_append]
  simp only [List.countP_cons, List.countP_nil, Nat.zero_add]
theorem cnt_le (f : Fr → Bool) (L : List Fr) (q : Nat) : (L.take q).countP f ≤ q := Nat.le_trans List.countP_le_length (by rw [List.length_take]; omega)
set_option maxRecDepth 100000 in
set_option maxHeartbeats 4000000 in
theorem count_any (pb lb mb m : Nat) (p : Pl) (w : World) (h : PBox w pb lb mb m p) : Calls Try.prog 18 #[.pointer (some ⟨pb, 0, none⟩)] w fun e w' => e = .returned (.tuple #[.int .i64 (cU p.L : Nat), .int .i64 (cD p.L : Nat), .int .i64 (cP p.L : Nat)]) ∧ Frm (fun _ => False) w w' := by
  have hn := h.ok.n
  have H := Lib.hid h
  obtain ⟨c0, c1, c2, c3, fr⟩ := h.at
  have HE := Lib.hid (show cU p.L = ((p.L.take p.L.length).countP (·.used)) ∧ cD p.L = ((p.L.take p.L.length).countP (·.dirty)) ∧ cP p.L = ((p.L.take p.L.length).countP (fun x => decide (0 < x.pins))) from by rw [List.take_length]; exact ⟨rfl, rfl, rfl⟩)
  obtain ⟨n, hnn⟩ : ∃ n, p.L.length = n := ⟨_, rfl⟩
  rw [hnn] at c0 hn HE
  have HN := Lib.hid hnn
  clear h c1 c2 c3 fr hnn
  go_enter Try.func18, Try.ntmps18
  go_wp2
  clear c0
  go_loopw [2, 3, 4, 12] (fun u d k i wx => ∃ q : Nat, q ≤ n ∧ i = .int .i64 q ∧ u = .int .i64 ((p.L.take q).countP (·.used) : Nat) ∧ d = .int .i64 ((p.L.take q).countP (·.dirty) : Nat) ∧ k = .int .i64 ((p.L.take q).countP (fun x => decide (0 < x.pins)) : Nat) ∧ Frm (fun _ => False) w wx) (fun u d k i wx => n - (intOf i).toNat)
  case atStart => exact ⟨0, by omega, rfl, rfl, rfl, rfl, Frm.refl _ _⟩
  case round =>
    obtain ⟨q, hq, rfl, rfl, rfl, rfl, hF⟩ := hrel
    have b1 := cnt_le (·.used) p.L q
    have b2 := cnt_le (·.dirty) p.L q
    have b3 := cnt_le (fun x => decide (0 < x.pins)) p.L q
    by_cases hlt : q < n
    · have hqL : q < p.L.length := by rw [HN.out]; exact hlt
      have n1 := cnt_take (·.used) p.L q hqL
      have n2 := cnt_take (·.dirty) p.L q hqL
      have n3 := cnt_take (fun x => decide (0 < x.pins)) p.L q hqL
      have hP := H.out.next hF
      obtain ⟨x0, x1, x2, x3, x4⟩ := hP.fr hqL
      have hpin := (hP.ok.num _ (List.getElem_mem hqL)).2
      have HF := Lib.hid hF
      obtain ⟨u', hu'⟩ : ∃ u', (p.L.take (q + 1)).countP (·.used) = u' := ⟨_, rfl⟩
      obtain ⟨d', hd'⟩ : ∃ u', (p.L.take (q + 1)).countP (·.dirty) = u' := ⟨_, rfl⟩
      obtain ⟨k', hk'⟩ : ∃ u', (p.L.take (q + 1)).countP (fun x => decide (0 < x.pins)) = u' := ⟨_, rfl⟩
      rw [hu'] at n1
      rw [hd'] at n2
      rw [hk'] at n3
      have HU := Lib.hid hu'
      have HD := Lib.hid hd'
      have HK := Lib.hid hk'
      generalize p.L[q] = x at *
      generalize (p.L.take q).countP (·.used) = u at *
      generalize (p.L.take q).countP (·.dirty) = d at *
      generalize (p.L.take q).countP (fun x => decide (0 < x.pins)) = k at *
      clear hP hF hu' hd' hk'
      obtain ⟨xk, xu, xr, xd, xp⟩ := x
      dsimp only at n1 n2 n3 x0 x1 x2 x3 x4 hpin
      cases xu <;> cases xd <;> by_cases hp : 0 < xp
      all_goals
        (try simp only [hp, decide_true, decide_false, Bool.false_eq_true, if_true, if_false, Nat.add_zero] at n1 n2 n3)
        subst n1 n2 n3
        go_wp2
        go_roundw
        case rel => exact ⟨q + 1, by omega, by go_num, by rw [HU.out]; (try go_num), by rw [HD.out]; (try go_num), by rw [HK.out]; (try go_num), HF.out.alloc _⟩
        case measure => simp [intOf]; omega
    · have : q = n := by omega
      subst this
      have HF := Lib.hid hF
      have h1 := HE.out.1
      have h2 := HE.out.2.1
      have h3 := HE.out.2.2
      rw [← h1, ← h2, ← h3]
      clear hF H HE h1 h2 h3 b1 b2 b3
      obtain ⟨u, hu⟩ : ∃ u, cU p.L = u := ⟨_, rfl⟩
      obtain ⟨d, hd⟩ : ∃ u, cD p.L = u := ⟨_, rfl⟩
      obtain ⟨k, hk⟩ : ∃ u, cP p.L = u := ⟨_, rfl⟩
      rw [hu, hd, hk]
      go_wp2
      go_ret3
      exact ⟨by rw [hu, hd, hk]; rfl, HF.out⟩
end Go.Proofs.Ytdbaidkepngjcaa
