/- The law CrcSplits answers true for any bytes and any cuts: a row of bytes has one sum, however it is parted. Conditions: the table of the package is laid as the program's text lays it. -/
import Derived.Test.YtclenafidfpinaaDoorCrl
import Derived.Test.YtclenafidfpinaaDoorNum
import Derived.Test.YtclenafidfpinaaDoorTie
import Derived.Test.YtclenafidfpinaaDoorCards
import Derived.SevenTiedAt
import Derived.LaidMore
namespace Go.Proofs.YtclenafidfpinaaDoor.lawCrcSplits
open Go.ChangeShapes Go.WideShapes Go.ChangeAt Go.RowKit
set_option linter.unusedSimpArgs false
set_option linter.unusedVariables false

theorem own : ownKnob Tryd.prog.godebug = none := by kernel_rfl
theorem laid : laidOutB Tryd.prog = true := by kernel_rfl

theorem RdV.zero (w : World) (B : Nat) (A : Option Addr) (c : Nat) (h : c ≤ 9223372036854775807) : RdV w B (.slice A 0 c) (bv []) := ⟨A, c, rfl, Nat.zero_le _, by unfold maxLen; omega, fun h => absurd h (Nat.lt_irrefl 0)⟩
theorem inf23 : (Tryd.prog.info? 23).map (fun i => (i.zero, i.size, i.bytes)) = some (some (.slice none 0 0), 1, 24) := by kernel_rfl
/-- the parts that were laid so far: rows of bytes in the caller's memory, in a row of the call's own -/
def Parts (w wr : World) (la : List UInt8) (v : Value) (n at_ : Nat) (vs : List Value) (ls : List (List UInt8)) : Prop :=
  vs.length = n ∧ ls.length = n ∧ ls.flatten = la.take at_ ∧ wr.ownsRow w.heap.size 23 1 v n vs ∧ (∀ (i : Nat) x l, vs[i]? = some x → ls[i]? = some l → RdV wr w.heap.size x (bv l)) ∧ (∀ u ∈ vs, u.oneCell' = true) ∧ Below w.heap.size w wr
theorem Parts.step {w wr w1 : World} {la l : List UInt8} {v v' x : Value} {n a k : Nat} {T : TypeId} {vs : List Value} {ls : List (List UInt8)} (h : Parts w wr la v n a vs ls) (hb : w.heap.size ≤ wr.heap.size)
    (ho : w1.ownsRow w.heap.size 23 1 v' (n + 1) (vs ++ [x]))
    (hg : (wr.alloc (.cells #[x] T)).grownBy w1 v.ownBlock) (hx : RdV wr w.heap.size x (bv l)) (h1 : x.oneCell' = true) (hk : (la.take a) ++ l = la.take (a + k)) : Parts w w1 la v' (n + 1) (a + k) (vs ++ [x]) (ls ++ [l]) := by
  obtain ⟨e1, e2, e3, e4, e5, e6, e7⟩ := h
  have hb1 : Below w.heap.size w w1 := (e7.alloc hb _).grown hg (by rw [World.size_alloc]; omega) (fun g hg2 => (e4.lt g hg2).1)
  have hb2 : Below w.heap.size wr w1 := ((Below.refl _ wr).alloc hb _).grown hg (by rw [World.size_alloc]; omega) (fun g hg2 => (e4.lt g hg2).1)
  refine ⟨by simp [e1], by simp [e2], by rw [List.flatten_append, e3, ← hk]; simp, ho, fun i y m hy hm => ?_, fun u hu => ?_, hb1⟩
  · rcases Nat.lt_trichotomy i n with hi | hi | hi
    · rw [List.getElem?_append_left (by omega)] at hy hm
      exact (e5 i y m hy hm).below hb2
    · subst hi
      rw [List.getElem?_append_right (by omega), e1, Nat.sub_self] at hy
      rw [List.getElem?_append_right (by omega), e2, Nat.sub_self] at hm
      cases hy; cases hm
      exact hx.below hb2
    · rw [List.getElem?_eq_none (by simp [e1]; omega)] at hy
      cases hy
  · rcases List.mem_append.1 hu with h | h
    · exact e6 u h
    · simp at h; subst h; exact h1
theorem Parts.rds {w wr : World} {la : List UInt8} {v : Value} {n : Nat} {vs : List Value} {ls : List (List UInt8)} (h : Parts w wr la v n la.length vs ls) (hb : w.heap.size ≤ wr.heap.size) : ls.flatten = la ∧ RdS wr wr.heap.size v ls := by
  obtain ⟨e1, e2, e3, e4, e5, e6, e7⟩ := h
  refine ⟨by rw [e3, List.take_length], vs, RdV.own e4, by omega, fun i x l hx hl => (e5 i x l hx hl).more hb⟩
/-- a part of a row of bytes -/
theorem RdV.cut {w : World} {B : Nat} {b off c : Nat} {l : List UInt8} (h : RdV w B (.slice (some ⟨b, off, none⟩) l.length c) (bv l)) (a k : Nat) (hk : a + k ≤ l.length) : RdV w B (.slice (some ⟨b, off + a, none⟩) k (c - a)) (bv ((l.drop a).take k)) := by
  obtain ⟨A', c', h1, h2, h3, h4⟩ := h
  injection h1 with e1 e2 e3
  subst e3
  have hl : ((l.drop a).take k).length = k := by rw [List.length_take, List.length_drop]; omega
  rw [bv_length] at h2 h4
  refine ⟨_, c - a, by rw [bv_length, hl], by rw [bv_length, hl]; omega, by omega, fun hn => ?_⟩
  rw [bv_length, hl] at hn
  obtain ⟨b', off', e, hb, hc⟩ := h4 (by omega)
  rw [← e1] at e
  injection e with e
  injection e with e4 e5 e6
  subst e4 e5
  refine ⟨_, _, rfl, hb, fun j u hu => ?_⟩
  rw [bv_get] at hu
  have hj : j < k := by
    rcases Nat.lt_or_ge j k with h | h
    · exact h
    · rw [List.getElem?_eq_none (by omega)] at hu; simp at hu
  rw [Nat.add_assoc]
  refine hc (a + j) u ?_
  rw [bv_get, ← hu, List.getElem?_take, if_pos hj, List.getElem?_drop]
set_option maxRecDepth 100000 in
set_option maxHeartbeats 8000000 in
theorem walk {W0 : World} (va : Value) (la : List UInt8) (hra : RdV W0 W0.heap.size va (bv la)) (vc : Value) (zs : List Int) (hrz : RdV W0 W0.heap.size vc (iv .i64 zs)) (hzs : ∀ z ∈ zs, (Lit.int .i64 z).wf = true) (w : World) (hw : W0 = w) (hN : Nibs w) :
    Calls Tryd.prog 7 #[va, vc] w fun e w' => e = .returned (.bool true) ∧ Below w.heap.size w w' := by
  subst hw
  have hraa := hra
  have hrzz := hrz
  obtain ⟨A, ca, rfl, hla, hma, hA⟩ := hra
  obtain ⟨Z, cz, rfl, hlz, hmz, hZ⟩ := hrz
  simp only [bv_length, iv_length] at hla hlz hA hZ hraa hrzz ⊢
  unfold maxLen at hma hmz
  have hk := kcrc_any W0 hN
  have HK := Lib.hid hk
  have HA := Lib.hid hraa
  have HZ := Lib.hid hrzz
  have HW := Lib.hid hzs
  have HN := Lib.hid hN
  clear hA hZ hk hraa hrzz hzs hN
  by_cases l1 : la.length ≤ 8192
  case neg =>
    go_enter Tryd.func7, Tryd.ntmps7
    go_wp2_with fail
    refine HK.out.mono ?_
    rintro e w1 ⟨rfl, hb1⟩
    go_wp2
    go_ret
    exact ⟨rfl, hb1⟩
  by_cases l2 : zs.length ≤ 500
  case neg =>
    go_enter Tryd.func7, Tryd.ntmps7
    go_wp2_with fail
    refine HK.out.mono ?_
    rintro e w1 ⟨rfl, hb1⟩
    go_wp2
    go_ret
    exact ⟨rfl, hb1⟩
  go_enter Tryd.func7, Tryd.ntmps7
  go_wp2_with fail
  refine HK.out.mono ?_
  rintro e w1 ⟨rfl, hb1⟩
  have hz1 := hb1.size
  go_wp2_with fail
  go_loopw [5, 6, 7] (fun v a i wr => ∃ (q at_ : Nat), q ≤ zs.length ∧ at_ ≤ la.length ∧ i = .int .i64 q ∧ a = .int .i64 at_ ∧ ∃ vs ls, Parts W0 wr la v q at_ vs ls) (fun _ _ i _ => zs.length - (intOf i).toNat)
  case atStart => exact ⟨0, 0, by omega, by omega, rfl, rfl, [], [], rfl, rfl, by simp, ⟨by simp, Or.inl ⟨rfl, rfl⟩⟩, fun i x l hx => by simp at hx, fun u hu => by simp at hu, hb1⟩
  case round =>
    obtain ⟨q, a, hq, ha, rfl, rfl, vs, ls, hP⟩ := hrel
    have hbel := hP.2.2.2.2.2.2
    have hzr := hbel.size
    have hvl := hP.1
    have hown := hP.2.2.2.1
    have E1 := Lib.hid hvl
    have E4 := Lib.hid hown
    have HP := Lib.hid hP
    have HB := Lib.hid hbel
    clear hvl hown hP hbel
    by_cases hq2 : q < zs.length
    · by_cases ha2 : a < la.length
      · obtain ⟨b, off, rfl, hbB, hcb⟩ := RdV.get (HA.out.below HB.out) (j := 0) (by rw [bv_get, List.getElem?_eq_getElem (show 0 < la.length by omega)]; rfl)
        clear hcb
        obtain ⟨bz, oz, rfl, hbZ, hcz⟩ := RdV.get (HZ.out.below HB.out) (j := q) (u := .int .i64 zs[q]) (by rw [iv_get, List.getElem?_eq_getElem hq2]; rfl)
        have hwz := HW.out zs[q] (List.getElem_mem hq2)
        have hzr2 : -9223372036854775808 ≤ zs[q] ∧ zs[q] ≤ 9223372036854775807 := by simpa [Lit.wf, IntKind.min, IntKind.max, IntKind.signed, IntKind.bits] using hwz
        clear hwz
        generalize zs[q] = z at *
        have hM : (0 : Int) < (la.length : Int) - a + 1 := by omega
        have t1 := Int.tmod_lt_of_pos z hM
        have t2 : -((la.length : Int) - a + 1) < z.tmod ((la.length : Int) - a + 1) := Int.lt_tmod_of_pos z hM
        obtain ⟨k, hk, hkk⟩ : ∃ k : Nat, k ≤ la.length - a ∧ (z.tmod ((la.length : Int) - a + 1) = k ∨ (0 < k ∧ z.tmod ((la.length : Int) - a + 1) = -k)) := by
          rcases Int.lt_or_le (z.tmod ((la.length : Int) - a + 1)) 0 with h | h
          · exact ⟨(-(z.tmod ((la.length : Int) - a + 1))).toNat, by omega, Or.inr ⟨by omega, by omega⟩⟩
          · exact ⟨(z.tmod ((la.length : Int) - a + 1)).toNat, by omega, Or.inl (by omega)⟩
        clear t1 t2 hM
        rcases hkk with hkk | ⟨hk0, hkk⟩
        · go_wp2_with (at_builtin; refine wpList_append_rd _ rfl _ _ 22 rfl W0.heap.size 23 (.slice none 0 0) 24 Tryd.underlying22 inf23 rfl _ _ _ rfl (E4.out.alloc _) _ rfl _ _ (RdV.one _ _ _) (by intro u hu; simp at hu; subst hu; rfl) (by simp; omega) (by omega) (by simp; omega) ?_; intro v2 w2 ho2 hg2 _)
          go_roundw
          case rel => exact ⟨q + 1, a + k, by omega, by omega, by go_num, by go_num, _, _, Parts.step HP.out hzr ho2 hg2 (RdV.cut (HA.out.below HB.out) a k (by omega)) rfl List.take_add.symm⟩
          case measure => simp [intOf]; omega
        · go_wp2_with (at_builtin; refine wpList_append_rd _ rfl _ _ 22 rfl W0.heap.size 23 (.slice none 0 0) 24 Tryd.underlying22 inf23 rfl _ _ _ rfl (E4.out.alloc _) _ rfl _ _ (RdV.one _ _ _) (by intro u hu; simp at hu; subst hu; rfl) (by simp; omega) (by omega) (by simp; omega) ?_; intro v2 w2 ho2 hg2 _)
          go_roundw
          case rel => exact ⟨q + 1, a + k, by omega, by omega, by go_num, by go_num, _, _, Parts.step HP.out hzr ho2 hg2 (RdV.cut (HA.out.below HB.out) a k (by omega)) rfl List.take_add.symm⟩
          case measure => simp [intOf]; omega
      · obtain rfl : a = la.length := by omega
        rcases A with _ | ad
        · obtain rfl : la = [] := by
            rcases Nat.eq_zero_or_pos la.length with h | h
            · exact List.length_eq_zero_iff.1 h
            · obtain ⟨b, off, h2, _⟩ := RdV.get HA.out (j := 0) (by rw [bv_get, List.getElem?_eq_getElem h]; rfl)
              cases h2
          simp only [List.length_nil] at *
          go_wp2_with (at_builtin; refine wpList_append_rd _ rfl _ _ 22 rfl W0.heap.size 23 (.slice none 0 0) 24 Tryd.underlying22 inf23 rfl _ _ _ rfl (E4.out.alloc _) _ rfl _ _ (RdV.one _ _ _) (by intro u hu; simp at hu; subst hu; rfl) (by simp; omega) (by omega) (by simp; omega) ?_; intro v2 w2 ho2 hg2 _)
          obtain ⟨vs2, ls2, hP2⟩ : ∃ vs2 ls2, Parts W0 w2 [] v2 (q + 1) 0 vs2 ls2 := by
            have h := Parts.step HP.out hzr ho2 hg2 (l := []) (k := 0 - 0) (RdV.zero _ _ _ _ (by omega)) rfl (by rfl)
            exact ⟨_, _, h⟩
          have hB2 := hP2.2.2.2.2.2.2
          have hz2 := hB2.size
          obtain ⟨hfl, hrs⟩ := Parts.rds hP2 hz2
          have s1 := sum_any _ _ _ _ hrs (HN.out.below hB2 HN.out.1)
          rw [hfl] at s1
          have hB3 := hB2.alloc hz2 (.cells #[.slice none 0 ca] 23)
          have s2 := sum_any _ _ _ _ (RdS.mk1 (HA.out.below hB2) hz2 23) (HN.out.below hB3 HN.out.1)
          rw [show [[]].flatten = [] from by simp] at s2
          have S1 := Lib.hid s1
          have S2 := Lib.hid s2
          clear s1 s2 hfl hrs hP2 ho2 hg2
          refine S1.out.mono ?_
          rintro e w3 ⟨rfl, rfl⟩
          go_wp2_with fail
          refine S2.out.mono ?_
          rintro e w3 ⟨rfl, rfl⟩
          go_wp2
          go_ret
          exact ⟨rfl, hB3⟩
        · skip
          by_cases hcap : ca = la.length
          · subst hcap
            go_wp2_with (at_builtin; refine wpList_append_rd _ rfl _ _ 22 rfl W0.heap.size 23 (.slice none 0 0) 24 Tryd.underlying22 inf23 rfl _ _ _ rfl (E4.out.alloc _) _ rfl _ _ (RdV.one _ _ _) (by intro u hu; simp at hu; subst hu; rfl) (by simp; omega) (by omega) (by simp; omega) ?_; intro v2 w2 ho2 hg2 _)
            obtain ⟨vs2, ls2, hP2⟩ : ∃ vs2 ls2, Parts W0 w2 la v2 (q + 1) la.length vs2 ls2 := by
              have h := Parts.step HP.out hzr ho2 hg2 (l := la.drop la.length) (k := la.length - la.length) (by rw [List.drop_length]; exact RdV.zero _ _ _ _ (by omega)) rfl (by rw [show la.length + (la.length - la.length) = la.length from by omega, List.take_length]; rw [List.drop_length, List.append_nil])
              rw [show la.length + (la.length - la.length) = la.length from by omega] at h
              exact ⟨_, _, h⟩
            have hB2 := hP2.2.2.2.2.2.2
            have hz2 := hB2.size
            obtain ⟨hfl, hrs⟩ := Parts.rds hP2 hz2
            have s1 := sum_any _ _ _ _ hrs (HN.out.below hB2 HN.out.1)
            rw [hfl] at s1
            have hB3 := hB2.alloc hz2 (.cells #[.slice (some ad) la.length la.length] 23)
            have s2 := sum_any _ _ _ _ (RdS.mk1 (HA.out.below hB2) hz2 23) (HN.out.below hB3 HN.out.1)
            rw [show [la].flatten = la from by simp] at s2
            have S1 := Lib.hid s1
            have S2 := Lib.hid s2
            clear s1 s2 hfl hrs hP2 ho2 hg2
            refine S1.out.mono ?_
            rintro e w3 ⟨rfl, rfl⟩
            go_wp2_with fail
            refine S2.out.mono ?_
            rintro e w3 ⟨rfl, rfl⟩
            go_wp2
            go_ret
            exact ⟨rfl, hB3⟩
          · go_wp2_with (at_builtin; refine wpList_append_rd _ rfl _ _ 22 rfl W0.heap.size 23 (.slice none 0 0) 24 Tryd.underlying22 inf23 rfl _ _ _ rfl (E4.out.alloc _) _ rfl _ _ (RdV.one _ _ _) (by intro u hu; simp at hu; subst hu; rfl) (by simp; omega) (by omega) (by simp; omega) ?_; intro v2 w2 ho2 hg2 _)
            obtain ⟨vs2, ls2, hP2⟩ : ∃ vs2 ls2, Parts W0 w2 la v2 (q + 1) la.length vs2 ls2 := by
              have h := Parts.step HP.out hzr ho2 hg2 (l := la.drop la.length) (k := la.length - la.length) (by rw [List.drop_length]; exact RdV.zero _ _ _ _ (by omega)) rfl (by rw [show la.length + (la.length - la.length) = la.length from by omega, List.take_length]; rw [List.drop_length, List.append_nil])
              rw [show la.length + (la.length - la.length) = la.length from by omega] at h
              exact ⟨_, _, h⟩
            have hB2 := hP2.2.2.2.2.2.2
            have hz2 := hB2.size
            obtain ⟨hfl, hrs⟩ := Parts.rds hP2 hz2
            have s1 := sum_any _ _ _ _ hrs (HN.out.below hB2 HN.out.1)
            rw [hfl] at s1
            have hB3 := hB2.alloc hz2 (.cells #[.slice (some ad) la.length ca] 23)
            have s2 := sum_any _ _ _ _ (RdS.mk1 (HA.out.below hB2) hz2 23) (HN.out.below hB3 HN.out.1)
            rw [show [la].flatten = la from by simp] at s2
            have S1 := Lib.hid s1
            have S2 := Lib.hid s2
            clear s1 s2 hfl hrs hP2 ho2 hg2
            refine S1.out.mono ?_
            rintro e w3 ⟨rfl, rfl⟩
            go_wp2_with fail
            refine S2.out.mono ?_
            rintro e w3 ⟨rfl, rfl⟩
            go_wp2
            go_ret
            exact ⟨rfl, hB3⟩
    · have hqe : zs.length ≤ q := by omega
      rcases A with _ | ad
      · obtain rfl : la = [] := by
          rcases Nat.eq_zero_or_pos la.length with h | h
          · exact List.length_eq_zero_iff.1 h
          · obtain ⟨b, off, h2, _⟩ := RdV.get HA.out (j := 0) (by rw [bv_get, List.getElem?_eq_getElem h]; rfl)
            cases h2
        obtain rfl : a = 0 := by simp at ha; exact ha
        go_wp2_with (at_builtin; refine wpList_append_rd _ rfl _ _ 22 rfl W0.heap.size 23 (.slice none 0 0) 24 Tryd.underlying22 inf23 rfl _ _ _ rfl (E4.out.alloc _) _ rfl _ _ (RdV.one _ _ _) (by intro u hu; simp at hu; subst hu; rfl) (by simp; omega) (by omega) (by simp; omega) ?_; intro v2 w2 ho2 hg2 _)
        obtain ⟨vs2, ls2, hP2⟩ : ∃ vs2 ls2, Parts W0 w2 [] v2 (q + 1) 0 vs2 ls2 := by
          have h := Parts.step HP.out hzr ho2 hg2 (l := []) (k := 0 - 0) (RdV.zero _ _ _ _ (by omega)) rfl (by rfl)
          exact ⟨_, _, h⟩
        have hB2 := hP2.2.2.2.2.2.2
        have hz2 := hB2.size
        obtain ⟨hfl, hrs⟩ := Parts.rds hP2 hz2
        have s1 := sum_any _ _ _ _ hrs (HN.out.below hB2 HN.out.1)
        rw [hfl] at s1
        have hB3 := hB2.alloc hz2 (.cells #[.slice none 0 ca] 23)
        have s2 := sum_any _ _ _ _ (RdS.mk1 (HA.out.below hB2) hz2 23) (HN.out.below hB3 HN.out.1)
        rw [show [[]].flatten = [] from by simp] at s2
        have S1 := Lib.hid s1
        have S2 := Lib.hid s2
        clear s1 s2 hfl hrs hP2 ho2 hg2
        refine S1.out.mono ?_
        rintro e w3 ⟨rfl, rfl⟩
        go_wp2_with fail
        refine S2.out.mono ?_
        rintro e w3 ⟨rfl, rfl⟩
        go_wp2
        go_ret
        exact ⟨rfl, hB3⟩
      · by_cases hae : a = la.length
        · subst hae
          by_cases hcap : ca = la.length
          · subst hcap
            go_wp2_with (at_builtin; refine wpList_append_rd _ rfl _ _ 22 rfl W0.heap.size 23 (.slice none 0 0) 24 Tryd.underlying22 inf23 rfl _ _ _ rfl (E4.out.alloc _) _ rfl _ _ (RdV.one _ _ _) (by intro u hu; simp at hu; subst hu; rfl) (by simp; omega) (by omega) (by simp; omega) ?_; intro v2 w2 ho2 hg2 _)
            obtain ⟨vs2, ls2, hP2⟩ : ∃ vs2 ls2, Parts W0 w2 la v2 (q + 1) la.length vs2 ls2 := by
              have h := Parts.step HP.out hzr ho2 hg2 (l := la.drop la.length) (k := la.length - la.length) (by rw [List.drop_length]; exact RdV.zero _ _ _ _ (by omega)) rfl (by rw [show la.length + (la.length - la.length) = la.length from by omega, List.take_length]; rw [List.drop_length, List.append_nil])
              rw [show la.length + (la.length - la.length) = la.length from by omega] at h
              exact ⟨_, _, h⟩
            have hB2 := hP2.2.2.2.2.2.2
            have hz2 := hB2.size
            obtain ⟨hfl, hrs⟩ := Parts.rds hP2 hz2
            have s1 := sum_any _ _ _ _ hrs (HN.out.below hB2 HN.out.1)
            rw [hfl] at s1
            have hB3 := hB2.alloc hz2 (.cells #[.slice (some ad) la.length la.length] 23)
            have s2 := sum_any _ _ _ _ (RdS.mk1 (HA.out.below hB2) hz2 23) (HN.out.below hB3 HN.out.1)
            rw [show [la].flatten = la from by simp] at s2
            have S1 := Lib.hid s1
            have S2 := Lib.hid s2
            clear s1 s2 hfl hrs hP2 ho2 hg2
            refine S1.out.mono ?_
            rintro e w3 ⟨rfl, rfl⟩
            go_wp2_with fail
            refine S2.out.mono ?_
            rintro e w3 ⟨rfl, rfl⟩
            go_wp2
            go_ret
            exact ⟨rfl, hB3⟩
          · go_wp2_with (at_builtin; refine wpList_append_rd _ rfl _ _ 22 rfl W0.heap.size 23 (.slice none 0 0) 24 Tryd.underlying22 inf23 rfl _ _ _ rfl (E4.out.alloc _) _ rfl _ _ (RdV.one _ _ _) (by intro u hu; simp at hu; subst hu; rfl) (by simp; omega) (by omega) (by simp; omega) ?_; intro v2 w2 ho2 hg2 _)
            obtain ⟨vs2, ls2, hP2⟩ : ∃ vs2 ls2, Parts W0 w2 la v2 (q + 1) la.length vs2 ls2 := by
              have h := Parts.step HP.out hzr ho2 hg2 (l := la.drop la.length) (k := la.length - la.length) (by rw [List.drop_length]; exact RdV.zero _ _ _ _ (by omega)) rfl (by rw [show la.length + (la.length - la.length) = la.length from by omega, List.take_length]; rw [List.drop_length, List.append_nil])
              rw [show la.length + (la.length - la.length) = la.length from by omega] at h
              exact ⟨_, _, h⟩
            have hB2 := hP2.2.2.2.2.2.2
            have hz2 := hB2.size
            obtain ⟨hfl, hrs⟩ := Parts.rds hP2 hz2
            have s1 := sum_any _ _ _ _ hrs (HN.out.below hB2 HN.out.1)
            rw [hfl] at s1
            have hB3 := hB2.alloc hz2 (.cells #[.slice (some ad) la.length ca] 23)
            have s2 := sum_any _ _ _ _ (RdS.mk1 (HA.out.below hB2) hz2 23) (HN.out.below hB3 HN.out.1)
            rw [show [la].flatten = la from by simp] at s2
            have S1 := Lib.hid s1
            have S2 := Lib.hid s2
            clear s1 s2 hfl hrs hP2 ho2 hg2
            refine S1.out.mono ?_
            rintro e w3 ⟨rfl, rfl⟩
            go_wp2_with fail
            refine S2.out.mono ?_
            rintro e w3 ⟨rfl, rfl⟩
            go_wp2
            go_ret
            exact ⟨rfl, hB3⟩
        · obtain ⟨b, off, had, hbB, hcb⟩ := RdV.get (HA.out.below HB.out) (j := 0) (by rw [bv_get, List.getElem?_eq_getElem (show 0 < la.length by omega)]; rfl)
          clear hcb
          obtain rfl := Option.some.inj had
          have hne : ¬ ca = a := by omega
          go_wp2_with (at_builtin; refine wpList_append_rd _ rfl _ _ 22 rfl W0.heap.size 23 (.slice none 0 0) 24 Tryd.underlying22 inf23 rfl _ _ _ rfl (E4.out.alloc _) _ rfl _ _ (RdV.one _ _ _) (by intro u hu; simp at hu; subst hu; rfl) (by simp; omega) (by omega) (by simp; omega) ?_; intro v2 w2 ho2 hg2 _)
          obtain ⟨vs2, ls2, hP2⟩ : ∃ vs2 ls2, Parts W0 w2 la v2 (q + 1) la.length vs2 ls2 := by
            have h := Parts.step HP.out hzr ho2 hg2 (l := la.drop a) (k := la.length - a) (by have h := RdV.cut (HA.out.below HB.out) a (la.length - a) (by omega); rwa [List.take_of_length_le (by rw [List.length_drop]; omega)] at h) rfl (by rw [show a + (la.length - a) = la.length from by omega, List.take_length]; exact List.take_append_drop _ _)
            rw [show a + (la.length - a) = la.length from by omega] at h
            exact ⟨_, _, h⟩
          have hB2 := hP2.2.2.2.2.2.2
          have hz2 := hB2.size
          obtain ⟨hfl, hrs⟩ := Parts.rds hP2 hz2
          have s1 := sum_any _ _ _ _ hrs (HN.out.below hB2 HN.out.1)
          rw [hfl] at s1
          have hB3 := hB2.alloc hz2 (.cells #[.slice (some ⟨b, off, none⟩) la.length ca] 23)
          have s2 := sum_any _ _ _ _ (RdS.mk1 (HA.out.below hB2) hz2 23) (HN.out.below hB3 HN.out.1)
          rw [show [la].flatten = la from by simp] at s2
          have S1 := Lib.hid s1
          have S2 := Lib.hid s2
          clear s1 s2 hfl hrs hP2 ho2 hg2
          refine S1.out.mono ?_
          rintro e w3 ⟨rfl, rfl⟩
          go_wp2_with fail
          refine S2.out.mono ?_
          rintro e w3 ⟨rfl, rfl⟩
          go_wp2
          go_ret
          exact ⟨rfl, hB3⟩

theorem door_met (os : Os) (args : Array Value) : laidMetH Tryd.prog Rows.crcSplitsRow.laid ((World.doorLaid Tryd.prog 400 os).forCall (fun _ _ => 0) ⟨#[], args, []⟩).memory :=
  laidMetH_of_parts3 (fuel := 8) (laidMet_of_run' 8 (by kernel_rfl) (by kernel_rfl)) (by kernel_rfl) (by kernel_rfl)
set_option maxRecDepth 100000 in
theorem lifted (os : Os) (started : os.Started) (H : Type) (enc : TypeId × Value → H) :
    ReturnsInHanded {} Tryd.checked os 7 .any (fun w args => (Rows.crcSplitsSpec.pre enc Tryd.prog Tryd.f7 [] false w args ∧ laidMetH Tryd.prog Rows.crcSplitsRow.laid w) ∧ sizedMet enc Tryd.prog Tryd.f7 (OpenSpec.ofChange Rows.crcSplitsSpec) false w args)
      (Rows.crcSplitsSpec.post enc Tryd.prog Tryd.f7 false true false false) := by
  refine returnsInHanded_of_change_and (C := Tryd.checked) (X := fun w _ => laidMetH Tryd.prog Rows.crcSplitsRow.laid w) (fun _ _ _ hh h => h.of_heap hh) own started (by kernel_rfl) Tryd.func7
    (ChangeSpec.witness_shaped (enc := enc) (C := Tryd.checked) (os := os) (X := fun w _ => laidMetH Tryd.prog Rows.crcSplitsRow.laid w) false (World.doorLaid Tryd.prog 400 os) #[.slice none 0 0, .slice none 0 0] 8 rfl (World.shaped_of_RefB (by kernel_rfl) (by kernel_rfl)) (by kernel_rfl) (by kernel_rfl) (by kernel_rfl) (door_met os _)) ?_
  intro W base args ds gs before hval0 hW _ _ hL _
  have hval : ∀ (j : Nat) t v, Tryd.f7.params[j]? = some t → args[j]? = some v → Value.okWide Tryd.prog W .any base t v := hval0
  have hW' := hW
  obtain ⟨p, q, hA0, hV, rfl, hfz, hnd⟩ := hW
  have hA : DataW.TrodAll enc Tryd.prog W 0 (fun _ => true) true Tryd.f7.params.toList args.toList ds p := hA0
  rw [Tryd.params7] at hA hval
  obtain ⟨v0, vs0, d0, ds0, p0, q0, hargs, rfl, rfl, h0, r0⟩ := trodAll_cons hA
  obtain ⟨v1, vs1, d1, ds1, p1, q1, rfl, rfl, rfl, h1, r1⟩ := trodAll_cons r0
  obtain ⟨rfl, rfl, rfl⟩ := trodAll_nil r1
  obtain rfl : args = #[v0, v1] := by cases args; simp_all
  obtain ⟨rfl, rfl⟩ := trodVars_none hV
  obtain ⟨l0, b0⟩ := open_bytes Tryd.underlying23 Tryd.underlying5 (by kernel_rfl) (hval 0 23 v0 rfl rfl) h0
  obtain ⟨zs, hr, hz⟩ := open_nums Tryd.underlying40 Tryd.underlying3 (by kernel_rfl) (hval 1 40 v1 rfl rfl) h1
  have hN := of_laid hL
  clear hA0 hval0
  refine (walk v0 l0 b0 v1 zs hr hz W rfl hN).mono fun e W' ⟨he, hb⟩ => ?_
  subst he
  exact ⟨_, rfl, law_post hW' rfl laid (by kernel_rfl) rfl Tryd.underlying4 rfl hb⟩

theorem over : Rows.CrcSplitsSaid :=
  OpenClaim.holds_of_wide 7 Tryd.f7 rfl rfl rfl rfl rfl rfl rfl ⟨rfl, rfl, rfl, rfl, rfl⟩ rfl rfl rfl rfl rfl (by kernel_rfl) Tryd.func7 (by kernel_rfl)
    (of_decide_eq_true (by kernel_rfl)) (by unfold Func.isWrapper; first | (rw [if_pos (by decide +kernel)]; kernel_rfl) | (rw [if_neg (by decide +kernel)]; exact ⟨rfl, rfl⟩))
    (fun os started H enc _ => lifted os started H enc)
theorem proved : Rows.CrcSplitsCardSaid :=
  Claim7.holds_tied_plain_at .later [] [.data] true Rows.crcSplitsCard.stood.harness false
    over (fun _ h => by cases h) (by kernel_rfl) (fun _ h => by cases h) crcSplits_row_tie rfl ⟨rfl, rfl⟩ (by kernel_rfl) rfl
    (fun f fn hf hfn => by
      obtain rfl : f = 7 := Option.some.inj ((show Tryd.prog.funcNamed Rows.crcSplitsRow.func = some 7 by kernel_rfl).symm.trans hf) |>.symm
      obtain rfl : fn = Tryd.f7 := (Option.some.inj (Tryd.func7.symm.trans hfn)).symm
      exact ⟨by kernel_rfl, fun j t ht => by
        rw [Tryd.params7] at ht
        have hm : t ∈ [23, 40] := by simpa using Array.mem_of_getElem? ht
        have hall : ([23, 40].all fun u => !Tryd.prog.wantsStandIn u) = true := by kernel_rfl
        exact (show Tryd.prog.wantsStandIn t = false by simpa using List.all_eq_true.1 hall t hm)⟩)
    (by kernel_rfl)
end Go.Proofs.YtclenafidfpinaaDoor.lawCrcSplits
