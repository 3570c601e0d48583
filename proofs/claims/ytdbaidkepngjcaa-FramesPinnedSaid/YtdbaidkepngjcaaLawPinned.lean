/- The law FramesPinned answers true for any two numbers and any row of booleans: what is pinned is never given up, and when all are pinned Take is refused. Conditions: none. -/
import Derived.Test.YtdbaidkepngjcaaFrp
import Derived.Deep.Grids
namespace Go.Proofs.Ytdbaidkepngjcaa.lawFramesPinned
open Go.ChangeShapes Go.WideShapes Go.ChangeAt Go.RowKit
set_option linter.unusedSimpArgs false
set_option linter.unusedVariables false

theorem own : ownKnob Try.prog.godebug = none := by kernel_rfl
theorem laid : laidOutB Try.prog = true := by kernel_rfl

def boolV (bs : List Bool) : List Value := bs.map .bool
theorem boolV_length (bs : List Bool) : (boolV bs).length = bs.length := by simp [boolV]
section
variable {H : Type} {enc : TypeId × Value → H} {P : Program}
/-- a row of booleans that came in -/
theorem open_boolV {W : World} {base : Nat} {t e : TypeId} {v : Value} {d : DataW H} {p : List MemPlace} (ht : P.underlying t = some (.slice e)) (he : P.underlying e = some .bool) (hc : P.cellsOf e = 1)
    (hval : Value.okWide P W .any base t v) (h : DataW.Trod enc P W 0 (fun _ => true) true t v d p) : ∃ bs : List Bool, RdV W W.heap.size v (boolV bs) := by
  obtain ⟨a0, len, cap, rfl⟩ := okWide_slice ht hval
  obtain ⟨fuel, hf⟩ := h
  rcases Go.Deep.open_bools ht he hc hf with ⟨hcs, _⟩ | ⟨a, len', cap', B, hcs, _, hl, hm, _, hcell⟩
  · simp [Value.cells] at hcs
    obtain ⟨rfl, rfl, rfl⟩ := hcs
    exact ⟨[], RdV.nil_ _ _⟩
  · simp [Value.cells] at hcs
    obtain ⟨rfl, rfl, rfl⟩ := hcs
    have hlen : (boolV ((List.range len).map B)).length = len := by rw [boolV_length, List.length_map, List.length_range]
    refine ⟨(List.range len).map B, ⟨some a, cap, ?_, ?_, hm, fun hn => ?_⟩⟩
    · rw [hlen]
    · rw [hlen]; exact hl
    · rw [hlen] at hn
      obtain ⟨b, off, spot⟩ := a
      have hspot : spot = none := by simpa [Addr.add] using World.cell?_spot (hcell 0 (by omega))
      subst hspot
      refine ⟨b, off, rfl, ?_, fun j u hu => ?_⟩
      · have := lt_of_cell (hcell 0 (by omega))
        rw [Addr.add_lit] at this
        exact this
      · have hj : j < len := by
          rcases Nat.lt_or_ge j len with h1 | h1
          · exact h1
          · rw [List.getElem?_eq_none (by rw [hlen]; exact h1)] at hu
            cases hu
        rw [← Addr.add_lit, hcell j (by omega), ← hu]
        simp [boolV, hj]
end
set_option maxRecDepth 100000 in
set_option maxHeartbeats 8000000 in
theorem walk (a0 : Int) (w0 : (Lit.int .i64 a0).wf = true) (v : Value) (a2 : Int) (w2 : (Lit.int .i64 a2).wf = true) (w : World) (bs : List Bool) (hr : RdV w w.heap.size v (boolV bs)) :
    Calls Try.prog 6 #[.int .i64 a0, v, .int .i64 a2] w fun e w' => e = .returned (.bool true) ∧ Below w.heap.size w w' := by
  have HK := Lib.hid (known_any w)
  have hraa := hr
  obtain ⟨A, c, rfl, hc1, hc2, hc3⟩ := hr
  rw [boolV_length] at hc1 hc3 hraa ⊢
  have HR := Lib.hid hraa
  clear hc3 hraa
  by_cases hr : a0 < 1 ∨ 40 < a0 ∨ a2 < 0 ∨ 200 < a2
  · go_enter Try.func6, Try.ntmps6
    go_wp2_with fail
    refine HK.out.mono ?_
    rintro e wk ⟨rfl, hFk⟩
    have HFK := Lib.hid hFk
    clear hFk HK
    rcases Classical.em (a0 < 1) with h1 | h1
    · go_wp2
      go_ret
      exact ⟨rfl, Below.of_frm HFK.out⟩
    rcases Classical.em (40 < a0) with h2 | h2
    · go_wp2
      go_ret
      exact ⟨rfl, Below.of_frm HFK.out⟩
    rcases Classical.em (a2 < 0) with h3 | h3
    · go_wp2
      go_ret
      exact ⟨rfl, Below.of_frm HFK.out⟩
    have h4 : 200 < a2 := by omega
    go_wp2
    go_ret
    exact ⟨rfl, Below.of_frm HFK.out⟩
  obtain ⟨n, rfl⟩ : ∃ n : Nat, a0 = n := ⟨a0.toNat, by omega⟩
  obtain ⟨more, rfl⟩ : ∃ n : Nat, a2 = n := ⟨a2.toNat, by omega⟩
  have hn : 1 ≤ n ∧ n ≤ 40 := by omega
  have hmo : more ≤ 200 := by omega
  clear hr w0 w2
  go_enter Try.func6, Try.ntmps6
  go_wp2_with fail
  refine HK.out.mono ?_
  rintro e wk ⟨rfl, hFk⟩
  have HFK := Lib.hid hFk
  have HN := Lib.hid (new_ok n (by omega) wk)
  clear hFk HK
  go_wp2_with fail
  refine HN.out.mono ?_
  rintro e v1 ⟨pb, lb, mb, k1, k2, k3, rfl, hP1, hF1⟩
  have hzk := HFK.out.size
  have HF1 := Lib.hid (HFK.out.trans hF1)
  have hP1 : PBox v1 pb lb mb 0 ⟨fl n (P1 bs 0), 0, 0⟩ := by
    have : List.replicate n Fr.zero = fl n (P1 bs 0) := fl_ext (by simp) fun j hj => by simp [P1, hj]
    rw [← this]
    exact hP1
  have HP1 := Lib.hid hP1
  have hsub : ∀ j, Own pb lb mb j → (fun _ => False) j ∨ w.heap.size ≤ j := fun j e => Or.inr (by rcases e with e | e | e <;> omega)
  have HSUB := Lib.hid hsub
  clear hF1 hP1 HN HFK hsub
  go_wp2
  go_loopw [9, 10] (fun f i wx => ∃ q : Nat, q ≤ n ∧ i = .int .i64 q ∧ f = .int .i64 (freeN bs q : Nat) ∧ (∃ mm low, mm ≤ q ∧ PBox wx pb lb mb mm ⟨fl n (P1 bs q), 0, low⟩) ∧ Frm (fun _ => False) w wx) (fun f i wx => n - (intOf i).toNat)
  case atStart => exact ⟨0, by omega, rfl, rfl, ⟨0, 0, Nat.le_refl _, HP1.out⟩, HF1.out⟩
  case round =>
    clear HP1 HF1
    obtain ⟨q, hq, rfl, rfl, ⟨mm, low, hmm, hP⟩, hF⟩ := hrel
    have hfl := freeN_le bs q
    by_cases hlt : q < n
    · have HT := Lib.hid (take_next pb lb mb mm (by omega) _ wr hP (q : Nat) (by rw [wf_i64]; omega) (by
        intro x hx hu
        obtain ⟨j, hj, rfl⟩ := fl_mem hx
        unfold P1 at hu ⊢
        by_cases h : j < q
        · rw [if_pos h]
          show ((j : Nat) : Int) ≠ _
          omega
        · rw [if_neg h] at hu
          cases hu) q (by rw [fl_length]; exact hlt) (fun a ha => by rw [fl_at]; unfold P1; rw [if_pos ha]) (by rw [fl_at]; unfold P1; rw [if_neg (Nat.lt_irrefl q)]; rfl))
      have HF := Lib.hid hF
      have hfs := freeN_succ bs q
      clear hP hF
      go_wp2_with fail
      refine HT.out.mono ?_
      rintro e w2 ⟨rfl, hP2, hF2⟩
      have hP2 : PBox w2 pb lb mb (mm + 1) ⟨(fl n (P1 bs q)).set q ⟨(q : Nat), true, true, false, 0⟩, 0, q⟩ := hP2
      have hF3 : Frm (fun _ => False) w2 (w2.alloc (.cells #[.int .i64 0, .bool false, .bool false, .bool false, .int .i64 0] 38)) := (Frm.refl _ w2).alloc _
      have hP3 := hP2.next hF3
      have hF3 := (HF.out.sub hF2 HSUB.out).trans hF3
      clear hP2 hF2 HT HF
      rw [show frV Fr.zero = .agg #[.int .i64 0, .bool false, .bool false, .bool false, .int .i64 0] from rfl]
      go_upto_region 13 with (fail)
      generalize w2.alloc (.cells #[.int .i64 0, .bool false, .bool false, .bool false, .int .i64 0] 38) = w3 at hP3 hF3 ⊢
      have HF3 := Lib.hid hF3
      have hR3 := HR.out.below (Below.of_frm hF3)
      by_cases hlb : q < bs.length
      · obtain ⟨b0, off, rfl, hbB, hcell⟩ := hR3.get (j := q) (u := .bool bs[q]) (by unfold boolV; rw [List.getElem?_map, List.getElem?_eq_getElem hlb]; rfl)
        cases hbq : bs[q] with
        | true =>
          rw [hbq] at hcell
          have hpq : pinD bs q = true := by unfold pinD; rw [List.getD_eq_getElem?_getD, List.getElem?_eq_getElem hlb, hbq]; rfl
          rw [hpq] at hfs
          simp only [if_true, Nat.add_zero] at hfs
          have hset : ({ L := (fl n (P1 bs q)).set q ⟨(q : Nat), true, true, false, 0⟩, hand := 0, low := q } : Pl).L = (fl n (P1 bs q)).set q ⟨(q : Nat), true, true, false, 0⟩ := rfl
          have hqL : q < ((fl n (P1 bs q)).set q ⟨(q : Nat), true, true, false, 0⟩).length := by rw [List.length_set, fl_length]; exact hlt
          have hPI := pin_yes pb lb mb (mm + 1) _ w3 hP3 q hqL (by simp) (by simp)
          have HPI := Lib.hid hPI
          have HFS := Lib.hid hfs
          clear hPI hP3 hF3 hR3 hset hbq hfs
          go_wp2_with fail
          refine HPI.out.mono ?_
          rintro e w4 ⟨rfl, hP4, hF4⟩
          simp only [List.getElem_set_self, List.set_set] at hP4
          have hP4 : PBox w4 pb lb mb (mm + 1) ⟨(fl n (P1 bs q)).set q ⟨(q : Nat), true, true, false, 1⟩, 0, q⟩ := hP4
          have hst := P1_set bs n q hlt
          rw [hpq] at hst
          simp only [if_true] at hst
          rw [hst] at hP4
          have HP4 := Lib.hid hP4
          have HF4 := Lib.hid (HF3.out.sub hF4 (fun j e => HSUB.out j (Or.inr (Or.inl e))))
          clear hP4 hF4 HF3 HPI hst
          go_wp2
          go_roundw
          case rel => exact ⟨q + 1, by omega, by go_num, by rw [HFS.out], ⟨_, _, by omega, HP4.out⟩, HF4.out⟩
          case measure => simp [intOf]; omega
        | false =>
          rw [hbq] at hcell
          have hpq : pinD bs q = false := by unfold pinD; rw [List.getD_eq_getElem?_getD, List.getElem?_eq_getElem hlb, hbq]; rfl
          rw [hpq] at hfs
          simp only [Bool.false_eq_true, if_false] at hfs
          have hst := P1_set bs n q hlt
          rw [hpq] at hst
          simp only [Bool.false_eq_true, if_false] at hst
          rw [hst] at hP3
          have HP3 := Lib.hid hP3
          have HFS := Lib.hid hfs
          clear hP3 hF3 hR3 hst hfs
          go_wp2
          go_roundw
          case rel => exact ⟨q + 1, by omega, by go_num, by rw [HFS.out]; go_num, ⟨_, _, by omega, HP3.out⟩, HF3.out⟩
          case measure => simp [intOf]; omega
      · have hpq : pinD bs q = false := by unfold pinD; rw [List.getD_eq_getElem?_getD, List.getElem?_eq_none (by omega)]; rfl
        rw [hpq] at hfs
        simp only [Bool.false_eq_true, if_false] at hfs
        have hst := P1_set bs n q hlt
        rw [hpq] at hst
        simp only [Bool.false_eq_true, if_false] at hst
        rw [hst] at hP3
        have HP3 := Lib.hid hP3
        have HFS := Lib.hid hfs
        clear hP3 hF3 hR3 hst hfs
        go_wp2
        go_roundw
        case rel => exact ⟨q + 1, by omega, by go_num, by rw [HFS.out]; go_num, ⟨_, _, by omega, HP3.out⟩, HF3.out⟩
        case measure => simp [intOf]; omega
    · have : q = n := by omega
      subst this
      have HP := Lib.hid hP
      have HF := Lib.hid hF
      clear hP hF
      go_wp2
      go_loopw [15] (fun i wx => ∃ r : Nat, r ≤ more ∧ i = .int .i64 r ∧ (∃ mm p, mm ≤ q + r ∧ PBox wx pb lb mb mm p ∧ Fpi bs q r p) ∧ Frm (fun _ => False) w wx) (fun i wx => more - (intOf i).toNat)
      case atStart => exact ⟨0, by omega, rfl, ⟨mm, _, by omega, HP.out, Fpi.start bs q low 0⟩, HF.out⟩
      case round =>
        clear HP HF hmm
        obtain ⟨r, hr, rfl, ⟨mm, p, hmm, hP, hS⟩, hF⟩ := hrel
        have HF := Lib.hid hF
        by_cases hlt2 : r < more
        · have HT := Lib.hid (take_full pb lb mb mm (by omega) _ wr hP (1000 + (r : Nat) : Int) (by rw [wf_i64]; omega) (by
            intro x hx hu
            obtain ⟨_, ⟨j, hj, e⟩ | ⟨j, hj, e⟩⟩ := hS.get hx
            · rw [e]; omega
            · rw [e]; omega) (fun x hx => (hS.get hx).1))
          have HS := Lib.hid hS
          have HH := Lib.hid hP.ok.hand
          clear hP hS hF
          go_wp2_with fail
          refine HT.out.mono ?_
          rintro e w5 ⟨hc, hF5⟩
          have HF5 := Lib.hid (HF.out.sub hF5 HSUB.out)
          clear hF5 HT HF
          by_cases hf : 0 < freeN bs q
          · obtain ⟨y, x, hzl, hcd, hno, hx, rfl, hP5⟩ | ⟨hall, _, _⟩ := hc
            case inr =>
              obtain ⟨y, hy, hcy⟩ := HS.out.some_ HH.out hf
              rw [hall y hy] at hcy
              cases hcy
            obtain ⟨x', hx', _, hxp⟩ := cand_is hcd
            rw [hx] at hx'
            injection hx' with hx'
            subst hx'
            have hpp : ((clr x).pins : Int) = 0 := by rw [(clr_facts x).2.2.1, hxp]; rfl
            have HTK := Lib.hid (HS.out.took hn.1 y hcd)
            have hP6 := hP5.next ((Frm.refl (fun _ => False) w5).alloc (.cells #[.int .i64 (clr x).key, .bool (clr x).used, .bool (clr x).ref, .bool (clr x).dirty, .int .i64 0] 38))
            have HP6 := Lib.hid hP6
            have HF6 := Lib.hid (HF5.out.alloc (.cells #[.int .i64 (clr x).key, .bool (clr x).used, .bool (clr x).ref, .bool (clr x).dirty, .int .i64 0] 38))
            rw [show frV (clr x) = .agg #[.int .i64 (clr x).key, .bool (clr x).used, .bool (clr x).ref, .bool (clr x).dirty, .int .i64 0] from by unfold frV; rw [hpp]]
            have hw1 : (0 : Int) < ((freeN bs q : Nat) : Int) := by omega
            clear hcd hno hx hP5 hP6 HF5 hpp hxp HS HH hzl
            generalize (clr x).key = ck at *
            generalize (clr x).used = cu at *
            generalize (clr x).ref = cr at *
            generalize (clr x).dirty = cd at *
            generalize ((p.hand + y) % p.L.length : Nat) = fr at *
            go_wp2
            go_roundw
            case rel => exact ⟨r + 1, by omega, by go_num, ⟨_, _, by omega, HP6.out, HTK.out⟩, HF6.out⟩
            case measure => simp [intOf]; omega
          · obtain ⟨y, x, hzl, hcd, hno, hx, rfl, hP5⟩ | ⟨hall, rfl, hP5⟩ := hc
            case inl =>
              rw [HS.out.none_ hn.1 (by omega) y] at hcd
              cases hcd
            have hP6 := hP5.next ((Frm.refl (fun _ => False) w5).alloc (.cells #[.int .i64 0, .bool false, .bool false, .bool false, .int .i64 0] 38))
            have HP6 := Lib.hid hP6
            have HF6 := Lib.hid (HF5.out.alloc (.cells #[.int .i64 0, .bool false, .bool false, .bool false, .int .i64 0] 38))
            rw [show frV Fr.zero = .agg #[.int .i64 0, .bool false, .bool false, .bool false, .int .i64 0] from rfl]
            have hw1 : ¬ (0 : Int) < ((freeN bs q : Nat) : Int) := by omega
            have HSS := Lib.hid (show Fpi bs q (r + 1) p from ⟨HS.out.len, fun j hj => by
              obtain ⟨x, h1, h2, h3, h4⟩ := HS.out.all j hj
              refine ⟨x, h1, h2, h3, fun hb => ⟨(h4 hb).1, ?_⟩⟩
              rcases (h4 hb).2 with h5 | ⟨a, h5, h6⟩
              · exact Or.inl h5
              · exact Or.inr ⟨a, by omega, h6⟩⟩)
            clear hall hP5 hP6 HF5 HS HH
            go_wp2
            go_roundw
            case rel => exact ⟨r + 1, by omega, by go_num, ⟨_, _, by omega, HP6.out, HSS.out⟩, HF6.out⟩
            case measure => simp [intOf]; omega
        · have : r = more := by omega
          subst this
          have HP := Lib.hid hP
          have HS := Lib.hid hS
          have hrd := HR.out.below (Below.of_frm hF)
          have HRD := Lib.hid hrd
          clear hP hS hF hrd
          go_wp2
          go_loopw [20] (fun i wx => ∃ j : Nat, j ≤ q ∧ i = .int .i64 j ∧ wx = wr) (fun i wx => q - (intOf i).toNat)
          case atStart => exact ⟨0, by omega, rfl, rfl⟩
          case round =>
            obtain ⟨j, hj, rfl, hwr⟩ := hrel
            subst hwr
            by_cases hlt3 : j < q
            · by_cases hlb : j < bs.length
              · obtain ⟨b0, off, rfl, hbB, hcell⟩ := HRD.out.get (j := j) (u := .bool bs[j]) (by unfold boolV; rw [List.getElem?_map, List.getElem?_eq_getElem hlb]; rfl)
                cases hbq : bs[j] with
                | true =>
                  rw [hbq] at hcell
                  have hpq : pinD bs j = true := by unfold pinD; rw [List.getD_eq_getElem?_getD, List.getElem?_eq_getElem hlb, hbq]; rfl
                  obtain ⟨x, hx, hxu, hx2, _⟩ := HS.out.all j hlt3
                  have HFI := Lib.hid (find_yes pb lb mb mm p _ HP.out (j : Nat) (by rw [wf_i64]; omega) j x hx hxu (hx2 hpq).1)
                  clear hx hxu hx2 hbq
                  go_wp2_with fail
                  refine HFI.out.mono ?_
                  rintro e w5 ⟨rfl, rfl⟩
                  clear HFI
                  go_wp2
                  go_roundw
                  case rel => exact ⟨j + 1, by omega, by go_num, by first | rfl | trivial⟩
                  case measure => simp [intOf]; omega
                | false =>
                  rw [hbq] at hcell
                  go_wp2
                  go_roundw
                  case rel => exact ⟨j + 1, by omega, by go_num, by first | rfl | trivial⟩
                  case measure => simp [intOf]; omega
              · go_wp2
                go_roundw
                case rel => exact ⟨j + 1, by omega, by go_num, by first | rfl | trivial⟩
                case measure => simp [intOf]; omega
            · have : j = q := by omega
              subst this
              have HC := Lib.hid (count_any pb lb mb mm p _ HP.out)
              obtain ⟨hcu, hcp⟩ := HS.out.counts
              have hcp : ((cP p.L : Nat) : Int) = ((j : Nat) : Int) - ((freeN bs j : Nat) : Int) := by omega
              clear HP HS HRD
              go_wp2_with fail
              refine HC.out.mono ?_
              rintro e w5 ⟨rfl, hF5⟩
              have HF5 := Lib.hid (HF.out.trans hF5)
              clear hF5 HC HF
              rw [hcu, hcp]
              clear hcu hcp
              generalize cD p.L = cd
              go_wp2
              go_ret
              exact ⟨rfl, Below.of_frm HF5.out⟩

set_option maxRecDepth 100000 in
theorem lifted (os : Os) (started : os.Started) (H : Type) (enc : TypeId × Value → H) :
    ReturnsInHanded {} Try.checked os 6 .any (Rows.framesPinnedSpec.pre6 enc Try.prog Try.f6 Rows.framesPinnedRow.domain false) (Rows.framesPinnedSpec.post enc Try.prog Try.f6 false true false false) := by
  refine returnsInHanded_of_change (C := Try.checked) own started (by kernel_rfl) Try.func6
    (ChangeSpec.witness6 (enc := enc) (C := Try.checked) false ⟨#[], #[.int .i64 0, .slice none 0 0, .int .i64 0], []⟩ 8 (by kernel_rfl) (by kernel_rfl) (by kernel_rfl) (by kernel_rfl)) ?_
  intro W base args ds gs before hval0 hW hcnd _
  have hval : ∀ (j : Nat) t v, Try.f6.params[j]? = some t → args[j]? = some v → Value.okWide Try.prog W .any base t v := hval0
  have hW' := hW
  obtain ⟨p, q, hA0, hV, rfl, hfz, hnd⟩ := hW
  have hA : DataW.TrodAll enc Try.prog W 0 (fun _ => true) true Try.f6.params.toList args.toList ds p := hA0
  rw [Try.params6] at hA hval
  obtain ⟨v0, vs0, d0, ds0, p0, q0, hargs, rfl, rfl, h0, r0⟩ := trodAll_cons hA
  obtain ⟨v1, vs1, d1, ds1, p1, q1, rfl, rfl, rfl, h1, r1⟩ := trodAll_cons r0
  obtain ⟨v2, vs2, d2, ds2, p2, q2, rfl, rfl, rfl, h2, r2⟩ := trodAll_cons r1
  obtain ⟨rfl, rfl, rfl⟩ := trodAll_nil r2
  obtain rfl : args = #[v0, v1, v2] := by cases args; simp_all
  obtain ⟨rfl, rfl⟩ := trodVars_none hV
  obtain ⟨a0, rfl, rfl, rfl, w0⟩ := open_int Try.underlying3 (hval 0 3 v0 rfl rfl) h0
  obtain ⟨b1, hr1⟩ := open_boolV Try.underlying49 Try.underlying4 (by kernel_rfl) (hval 1 49 v1 rfl rfl) h1
  obtain ⟨a2, rfl, rfl, rfl, w2⟩ := open_int Try.underlying3 (hval 2 3 v2 rfl rfl) h2
  clear hA0 hval0
  refine (walk a0 w0 v1 a2 w2 W b1 hr1).mono fun e W' ⟨he, hb⟩ => ?_
  subst he
  exact ⟨_, rfl, law_post hW' rfl laid (by kernel_rfl) rfl Try.underlying4 rfl hb⟩

theorem over : Rows.framesPinnedRow.holds Try.pinned (OpenSpec.ofChange Rows.framesPinnedSpec) :=
  OpenClaim.holds_of_wide 6 Try.f6 rfl rfl rfl rfl rfl rfl rfl ⟨rfl, rfl, rfl, rfl, rfl⟩ rfl rfl rfl rfl rfl (by kernel_rfl) Try.func6 (by kernel_rfl)
    (of_decide_eq_true (by kernel_rfl)) (by unfold Func.isWrapper; first | (rw [if_pos (by decide +kernel)]; kernel_rfl) | (rw [if_neg (by decide +kernel)]; exact ⟨rfl, rfl⟩))
    (fun os started H enc _ => lifted os started H enc)

theorem proved : Rows.FramesPinnedSaid :=
  over
end Go.Proofs.Ytdbaidkepngjcaa.lawFramesPinned
