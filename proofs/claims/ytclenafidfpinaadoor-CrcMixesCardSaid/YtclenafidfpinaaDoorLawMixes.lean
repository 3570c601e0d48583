/- The law CrcMixes answers true for any three rows of bytes: the sum of three rows of one length, mixed by exclusive or, is that of their sums. Conditions: the table of the package is laid as the program's text lays it. -/
import Derived.Test.YtclenafidfpinaaDoorCro
import Derived.Test.YtclenafidfpinaaDoorInm
import Derived.Test.YtclenafidfpinaaDoorTie
import Derived.Test.YtclenafidfpinaaDoorCards
import Derived.Deep.RegionLaw
import Derived.Deep.DeepCutAuto
import Derived.SevenTiedAt
import Derived.LaidMore
namespace Go.Proofs.YtclenafidfpinaaDoor.lawCrcMixes
open Go.ChangeShapes Go.WideShapes Go.ChangeAt Go.RowKit
set_option linter.unusedSimpArgs false
set_option linter.unusedVariables false

theorem own : ownKnob Tryd.prog.godebug = none := by kernel_rfl
theorem laid : laidOutB Tryd.prog = true := by kernel_rfl

def callsF (o : Oper) (f : Nat) : Bool := match o.op with
  | .call c => (match c.callee with | .value (.func g) => decide (g = f) | _ => false)
  | _ => false
theorem step_ifc {P : Program} {ops : Array Oper} {o : Oper} {a : Act} {w : World} {K : Act → World → Prop} {Q : Exit → Act → World → Prop} {E : Prop} (f : Nat) (ho : callsF o f = true) (hw : Region.wanted o (yielded ops a.tmps) = true) (h : Oper.wp P o a w K Q) :
    if Region.wanted o (yielded ops a.tmps) = true then Oper.wp P o a w K Q else E := by rw [if_pos hw]; exact h
theorem step_if {c : Prop} [Decidable c] {A E : Prop} (hc : c) (h : A) : if c then A else E := by rw [if_pos hc]; exact h
/-- three rows mixed, byte by byte -/
def mix (a b c : List UInt8) (k : Nat) : List UInt8 := (List.range k).map fun i => UInt8.ofNat ((a.getD i 0).toNat ^^^ (b.getD i 0).toNat ^^^ (c.getD i 0).toNat)
theorem mix_succ (a b c : List UInt8) (k : Nat) : mix a b c (k + 1) = mix a b c k ++ [UInt8.ofNat ((a.getD k 0).toNat ^^^ (b.getD k 0).toNat ^^^ (c.getD k 0).toNat)] := by
  unfold mix; rw [List.range_succ, List.map_append]; rfl
theorem mix_length (a b c : List UInt8) (k : Nat) : (mix a b c k).length = k := by simp [mix]
theorem three_lt (x y z : UInt8) : x.toNat ^^^ y.toNat ^^^ z.toNat < 256 := Nat.xor_lt_two_pow (n := 8) (Nat.xor_lt_two_pow (n := 8) x.toNat_lt y.toNat_lt) z.toNat_lt
theorem mix_u8n (a b c : List UInt8) (k : Nat) (ha : k ≤ a.length) (hb : k ≤ b.length) (hc : k ≤ c.length) :
    u8n (mix a b c k) = List.zipWith (· ^^^ ·) (List.zipWith (· ^^^ ·) (u8n (a.take k)) (u8n (b.take k))) (u8n (c.take k)) := by
  apply List.ext_getElem?
  intro i
  unfold u8n mix
  rw [List.getElem?_map, List.getElem?_map, List.getElem?_zipWith, List.getElem?_zipWith, List.getElem?_map, List.getElem?_map, List.getElem?_map, List.getElem?_take, List.getElem?_take, List.getElem?_take]
  rcases Nat.lt_or_ge i k with h | h
  · rw [List.getElem?_range h, if_pos h, if_pos h, if_pos h, List.getElem?_eq_getElem (show i < a.length by omega), List.getElem?_eq_getElem (show i < b.length by omega), List.getElem?_eq_getElem (show i < c.length by omega)]
    simp only [Option.map_some, List.getD_eq_getElem?_getD, List.getElem?_eq_getElem (show i < a.length by omega), List.getElem?_eq_getElem (show i < b.length by omega), List.getElem?_eq_getElem (show i < c.length by omega), Option.getD_some, Option.some.injEq]
    rw [UInt8.toNat_ofNat', Nat.mod_eq_of_lt (three_lt _ _ _)]
  · rw [List.getElem?_eq_none (by simpa using h), if_neg (by omega)]; rfl
theorem mix_sum (a b c : List UInt8) (k : Nat) (ha : k ≤ a.length) (hb : k ≤ b.length) (hc : k ≤ c.length) :
    Cr.sum (u8n (mix a b c k)) = Cr.sum (u8n (a.take k)) ^^^ Cr.sum (u8n (b.take k)) ^^^ Cr.sum (u8n (c.take k)) := by
  rw [mix_u8n a b c k ha hb hc, Cr.sum_mix _ _ _ (by simp [u8n]; omega) (by simp [u8n]; omega)]
theorem own_snoc {base : Nat} {w wr w1 : World} {l : List UInt8} {n : Nat} {o o' u : Value} {row : Option Nat} {b : UInt8}
    (hb : Below base w wr) (hbase : base ≤ wr.heap.size) (hown : wr.ownsRow base 5 1 o n (bv l)) (t : TypeId)
    (h1 : w1.ownsRow base 5 1 o' (n + [u].length) (bv l ++ [u]))
    (hg : (wr.alloc (.cells #[u] t)).grownBy w1 row) (hrow : row = o.ownBlock) (hu : u = .int .u8 (b.toNat : Int)) :
    w1.ownsRow base 5 1 o' (n + 1) (bv (l ++ [b])) ∧ Below base w w1 := by
  subst hu
  constructor
  · rw [bv_append]; exact h1
  · refine (hb.alloc hbase _).grown hg (by simp; omega) ?_
    intro g hg2
    rw [hrow] at hg2
    exact (hown.lt g hg2).1
theorem rds_one {w : World} {v x : Value} {l : List UInt8} (h : RdV w w.heap.size v [x]) (hx : RdV w w.heap.size x (bv l)) : RdS w w.heap.size v [l] :=
  ⟨[x], h, rfl, fun i y m hy hm => by
    match i, hy, hm with
    | 0, hy, hm => cases hy; cases hm; exact hx
    | n + 1, hy, hm => simp at hy⟩
theorem heap_at (w : World) (o : Obj) (k : Nat) (h : k = w.heap.size) : (w.alloc o).heap[k]? = some o := by subst h; exact heap_alloc_new w o
theorem sum_at (w W : World) (g : Nat) (T : TypeId) (x : Value) (l : List UInt8) (hb : Below w.heap.size w W) (hn : Nibs w) (hr : RdV w w.heap.size x (bv l)) (hx : W.heap[g]? = some (.cells #[x] T (0, 0))) :
    Calls Tryd.prog 12 #[.slice (some ⟨g, 0, none⟩) 1 1] W fun e w' => e = .returned (.int .u32 (Cr.sum (u8n l))) ∧ W = w' := by
  have hlt : g < W.heap.size := by
    rcases Nat.lt_or_ge g W.heap.size with h1 | h1
    · exact h1
    · rw [Array.getElem?_eq_none h1] at hx; cases hx
  have hs : RdS W W.heap.size (.slice (some ⟨g, 0, none⟩) 1 1) [l] := by
    refine ⟨[x], ⟨_, 1, rfl, by simp, by unfold maxLen; omega, fun _ => ⟨g, 0, rfl, hlt, fun j u hu => ?_⟩⟩, rfl, fun i y m hy hm => ?_⟩
    · rw [cell_of_row W g (0 + j) _ _ _ hx]; simpa using hu
    · match i, hy, hm with
      | 0, hy, hm => cases hy; cases hm; exact hr.below' hb (Nat.le_refl _) |>.more hb.size
      | n + 1, hy, hm => simp at hy
  have h := sum_any W _ _ _ hs (hn.next hb)
  rwa [show [l].flatten = l from by simp] at h
set_option maxRecDepth 100000 in
set_option maxHeartbeats 16000000 in
theorem walk {W0 : World} (va : Value) (la : List UInt8) (hra : RdV W0 W0.heap.size va (bv la)) (vb : Value) (lb : List UInt8) (hrb : RdV W0 W0.heap.size vb (bv lb)) (vc : Value) (lc : List UInt8) (hrc : RdV W0 W0.heap.size vc (bv lc)) (w : World) (hw : W0 = w) (hN : Nibs w) :
    Calls Tryd.prog 6 #[va, vb, vc] w fun e w' => e = .returned (.bool true) ∧ Below w.heap.size w w' := by
  subst hw
  have hraa := hra
  have hrbb := hrb
  have hrcc := hrc
  obtain ⟨A, ca, rfl, hla, hma, hA⟩ := hra
  obtain ⟨Bq, cb, rfl, hlb, hmb, hB⟩ := hrb
  obtain ⟨Cq, cc, rfl, hlc, hmc, hC⟩ := hrc
  simp only [bv_length] at hla hlb hlc hA hB hC hraa hrbb hrcc ⊢
  unfold maxLen at hma hmb hmc
  have hk := kcrc_any W0 hN
  have HK := Lib.hid hk
  have HA := Lib.hid hraa
  have HB := Lib.hid hrbb
  have HC := Lib.hid hrcc
  have HN := Lib.hid hN
  clear hA hB hC hk hraa hrbb hrcc hN
  go_enter Tryd.func6, Tryd.ntmps6
  go_wp2_with fail
  refine HK.out.mono ?_
  rintro e w1 ⟨rfl, hb1⟩
  have hz1 := hb1.size
  have hm1 : ∃ m : Nat, m ≤ la.length ∧ m ≤ lb.length ∧ (lb.length < la.length → m = lb.length) ∧ (¬ lb.length < la.length → m = la.length) := by
    by_cases h : lb.length < la.length
    · exact ⟨lb.length, by omega, by omega, fun _ => rfl, fun h2 => absurd h h2⟩
    · exact ⟨la.length, by omega, by omega, fun h2 => absurd h2 h, fun _ => rfl⟩
  obtain ⟨m, m1, m2, m3, m4⟩ := hm1
  have M3 := Lib.hid m3
  have M4 := Lib.hid m4
  clear m3 m4
  go_upto_if 17 with (fail)
  go_cut [7] from 10 to 17 (fun s wx => s = .int .i64 m ∧ w1 = wx)
  case first =>
    go_wp2
    all_goals go_meet
    case rel => exact ⟨by rw [M3.out (by assumption)], rfl⟩
    case rel => exact ⟨by rw [M4.out (by assumption)], rfl⟩
  case rest =>
    obtain ⟨rfl, rfl⟩ := hcut
    have hm1 : ∃ n : Nat, n ≤ m ∧ n ≤ lc.length ∧ (lc.length < m → n = lc.length) ∧ (¬ lc.length < m → n = m) := by
      by_cases h : lc.length < m
      · exact ⟨lc.length, by omega, by omega, fun _ => rfl, fun h2 => absurd h h2⟩
      · exact ⟨m, by omega, by omega, fun h2 => absurd h2 h, fun _ => rfl⟩
    obtain ⟨n, n1, n2, n3, n4⟩ := hm1
    have N3 := Lib.hid n3
    have N4 := Lib.hid n4
    clear n3 n4
    go_upto_if 23 with (fail)
    go_cut [7] from 10 to 25 (fun s wx => s = .int .i64 n ∧ w1 = wx)
    case first =>
      go_wp2
      all_goals go_meet
      case rel => exact ⟨by rw [N3.out (by assumption)], rfl⟩
      case rel => exact ⟨by rw [N4.out (by assumption)], rfl⟩
    case rest =>
      obtain ⟨rfl, rfl⟩ := hcut
      clear M3 M4 N3 N4
      have na : n ≤ la.length := by omega
      have nb : n ≤ lb.length := by omega
      clear m1 m2 n1
      by_cases l1 : n ≤ 8192
      case neg =>
        go_wp2
        go_ret
        exact ⟨rfl, hb1⟩
      go_wp2_with fail
      go_loopw [8, 9] (fun v i wr => ∃ k : Nat, k ≤ n ∧ i = .int .i64 k ∧ wr.ownsRow W0.heap.size 5 1 v k (bv (mix la lb lc k)) ∧ Below W0.heap.size W0 wr) (fun _ i _ => n - (intOf i).toNat)
      case atStart => exact ⟨0, by omega, rfl, ⟨by simp [mix, bv], Or.inl ⟨rfl, rfl⟩⟩, hb1⟩
      case round =>
        obtain ⟨k, hk, rfl, hown, hbel⟩ := hrel
        have hzr := hbel.size
        by_cases hlt : k < n
        · obtain ⟨b1, o1, rfl, hq1, hc1⟩ := RdV.get (HA.out.below hbel) (j := k) (u := .int .u8 (la[k].toNat : Int)) (by rw [bv_get, List.getElem?_eq_getElem (by omega)]; rfl)
          obtain ⟨b2, o2, rfl, hq2, hc2⟩ := RdV.get (HB.out.below hbel) (j := k) (u := .int .u8 (lb[k].toNat : Int)) (by rw [bv_get, List.getElem?_eq_getElem (by omega)]; rfl)
          obtain ⟨b3, o3, rfl, hq3, hc3⟩ := RdV.get (HC.out.below hbel) (j := k) (u := .int .u8 (lc[k].toNat : Int)) (by rw [bv_get, List.getElem?_eq_getElem (by omega)]; rfl)
          have ka : k < la.length := by omega
          have kb : k < lb.length := by omega
          have kc : k < lc.length := by omega
          have hms := mix_succ la lb lc k
          rw [List.getD_eq_getElem?_getD, List.getD_eq_getElem?_getD, List.getD_eq_getElem?_getD, List.getElem?_eq_getElem (show k < la.length by omega), List.getElem?_eq_getElem (show k < lb.length by omega), List.getElem?_eq_getElem (show k < lc.length by omega)] at hms
          simp only [Option.getD_some] at hms
          have x1 := u8_xor_nat _ _ la[k].toNat_lt lb[k].toNat_lt
          have x2 := u8_xor_nat (la[k].toNat ^^^ lb[k].toNat) lc[k].toNat (Nat.xor_lt_two_pow (n := 8) la[k].toNat_lt lb[k].toNat_lt) lc[k].toNat_lt
          have h3l := three_lt la[k] lb[k] lc[k]
          have hml := mix_length la lb lc k
          generalize la[k].toNat = xa at *
          generalize lb[k].toNat = xb at *
          generalize lc[k].toNat = xc at *
          have hofn : (UInt8.ofNat (xa ^^^ xb ^^^ xc)).toNat = xa ^^^ xb ^^^ xc := by rw [UInt8.toNat_ofNat', Nat.mod_eq_of_lt h3l]
          have HM := Lib.hid hms
          have HO := Lib.hid hofn
          have HW := Lib.hid hown
          have HL := Lib.hid hml
          have d1 := hc1
          rw [← World.cell?_drew] at d1
          have d2 := hc2
          rw [← World.cell?_drew] at d2
          have d3 := hc3
          rw [← World.cell?_drew] at d3
          generalize xa ^^^ xb ^^^ xc = x at *
          generalize xa ^^^ xb = xab at *
          clear hms hofn hown hml
          go_wp2
          first
            | go_region_law (first
              | (refine step_append_rd _ rfl (.tmp 33) (.tmp 48) 23 (by rfl) W0.heap.size 5 (.int .u8 0) 1 Tryd.underlying23 Tryd.inf5 rfl _ k _ (by rfl) (by first | exact HW.out.alloc _ | exact HW.out.drew.alloc _ | exact (HW.out.alloc _).drew) _ (by rfl) _ _ (RdV.one _ _ _) (by intro u hu; simp at hu; subst hu; rfl) (by simp; omega) (by omega) (by simp; omega) ?_; intro v2 w2 ho2 hg2 _)
              | fail)
            | fail
          all_goals
            have hO2 : w2.ownsRow W0.heap.size 5 1 v2 (k + 1) (bv (mix la lb lc (k + 1))) ∧ Below W0.heap.size W0 w2 := by
              rw [HM.out]
              first
                | exact own_snoc hbel hzr HW.out _ ho2 hg2 rfl (by rw [HO.out])
                | exact own_snoc hbel.drew hzr HW.out.drew _ ho2 hg2 rfl (by rw [HO.out])
          all_goals clear ho2 hg2
          all_goals
            go_wp2
            go_roundw
            case rel => exact ⟨k + 1, by omega, by go_num, hO2.1, hO2.2⟩
            case measure => simp [intOf]; omega
        · obtain rfl : k = n := by omega
          have hms := mix_sum la lb lc k na nb n2
          have HS := Lib.hid hms
          have HR := Lib.hid (RdV.own hown)
          have fa := RdV.front (HA.out.below hbel) k (by rw [bv_length]; omega)
          have fb := RdV.front (HB.out.below hbel) k (by rw [bv_length]; omega)
          have fc := RdV.front (HC.out.below hbel) k (by rw [bv_length]; omega)
          rw [bv_take] at fa fb fc
          have FA := Lib.hid (fa.more hzr)
          have FB := Lib.hid (fb.more hzr)
          have FC := Lib.hid (fc.more hzr)
          obtain ⟨A5, c5, hv5, _, _, _⟩ := RdV.own hown
          rw [bv_length, mix_length] at hv5
          subst hv5
          have HNr := Lib.hid (HN.out.below hbel HN.out.1)
          have t1 := Cr.sum_lt (u8n (la.take k)) (u8n_lt _)
          have t2 := Cr.sum_lt (u8n (lb.take k)) (u8n_lt _)
          have t3 := Cr.sum_lt (u8n (lc.take k)) (u8n_lt _)
          have y1 := u32_xor_nat _ _ t1 t2
          have y2 := u32_xor_nat _ _ (Nat.xor_lt_two_pow (n := 32) t1 t2) t3
          have k1 : k ≤ ca := by omega
          have k2 : k ≤ cb := by omega
          have k3 : k ≤ cc := by omega
          have q0 : Cr.sum (u8n [mix la lb lc k].flatten) = Cr.sum (u8n (la.take k)) ^^^ Cr.sum (u8n (lb.take k)) ^^^ Cr.sum (u8n (lc.take k)) := by rw [show [mix la lb lc k].flatten = mix la lb lc k from by simp]; exact HS.out
          have q1 : Cr.sum (u8n [la.take k].flatten) = Cr.sum (u8n (la.take k)) := by rw [show [la.take k].flatten = la.take k from by simp]
          have q2 : Cr.sum (u8n [lb.take k].flatten) = Cr.sum (u8n (lb.take k)) := by rw [show [lb.take k].flatten = lb.take k from by simp]
          have q3 : Cr.sum (u8n [lc.take k].flatten) = Cr.sum (u8n (lc.take k)) := by rw [show [lc.take k].flatten = lc.take k from by simp]
          generalize Cr.sum (u8n (la.take k)) = S1 at *
          generalize Cr.sum (u8n (lb.take k)) = S2 at *
          generalize Cr.sum (u8n (lc.take k)) = S3 at *
          have E0 := Lib.hid q0
          have E1 := Lib.hid q1
          have E2 := Lib.hid q2
          have E3 := Lib.hid q3
          clear hms hlt fa fb fc hown q0 q1 q2 q3
          go_wp2
          refine region_inv [none, some (DRow [.slice A5 k c5]), some (DVal (.int .u32 ((S1 ^^^ S2 ^^^ S3 : Nat) : Int))), none, none, none, some (DRow [.slice A k ca]), some (DVal (.int .u32 (S1 : Int))), none, none, none, some (DRow [.slice Bq k cb]), some (DVal (.int .u32 (S2 : Int))), none, none, none, none, some (DRow [.slice Cq k cc]), some (DVal (.int .u32 (S3 : Int))), none, none, none] (by kernel_rfl) (by kernel_rfl) ⟨DRow.stable _, DVal.stable _, DRow.stable _, DVal.stable _, DRow.stable _, DVal.stable _, DRow.stable _, DVal.stable _, trivial⟩ (by kernel_rfl) ?_
          (refine inv_val (by rfl) (by intro w hg hl; clear hl; go_simp; with_reducible rfl) (fun K hK => ?_); go_simp; refine hK _ ?_; clear hK K)
          refine inv_any (by rfl) (by rfl) (by
            intro w hg hl
            clear hl
            refine gets_sem ?_
            go_simp
            exact ⟨RdV.lit w [.slice A5 k c5] _ (by simp) |>.more (by simp), Grow.alloc _ _⟩) (fun v51 _ K hK => ?_)
          go_simp; refine hK _ ?_; clear hK K
          refine inv_is (by rfl) (by rfl) (by
            intro w hg hl
            have hr : RdS w w.heap.size v51 [mix la lb lc k] := rds_one (show RdV w w.heap.size v51 [_] from hl.at 1 51 (by kernel_rfl) rfl) ((hg.rd HR.out (Nat.le_refl _)).more hg.size)
            clear hl
            refine gets_sem ?_
            go_simp
            refine Calls.mono (sum_any w _ _ _ hr (HNr.out.next hg)) ?_
            rintro e w4 ⟨rfl, rfl⟩
            exact ⟨_, rfl, by rw [E0.out], Grow.refl _⟩) (fun K hK => ?_)
          go_simp; refine hK _ ?_; clear hK K
          iterate 3 (refine inv_val (by rfl) (by intro w hg hl; clear hl; go_simp; with_reducible rfl) (fun K hK => ?_); go_simp; refine hK _ ?_; clear hK K)
          refine inv_any (by rfl) (by rfl) (by
            intro w hg hl
            clear hl
            refine gets_sem ?_
            go_simp
            exact ⟨RdV.lit w [.slice A k ca] _ (by simp) |>.more (by simp), Grow.alloc _ _⟩) (fun v56 _ K hK => ?_)
          go_simp; refine hK _ ?_; clear hK K
          refine inv_is (by rfl) (by rfl) (by
            intro w hg hl
            have hr : RdS w w.heap.size v56 [la.take k] := rds_one (show RdV w w.heap.size v56 [_] from hl.at 6 56 (by kernel_rfl) rfl) ((hg.rd FA.out (Nat.le_refl _)).more hg.size)
            clear hl
            refine gets_sem ?_
            go_simp
            refine Calls.mono (sum_any w _ _ _ hr (HNr.out.next hg)) ?_
            rintro e w4 ⟨rfl, rfl⟩
            exact ⟨_, rfl, by rw [E1.out], Grow.refl _⟩) (fun K hK => ?_)
          go_simp; refine hK _ ?_; clear hK K
          iterate 3 (refine inv_val (by rfl) (by intro w hg hl; clear hl; go_simp; with_reducible rfl) (fun K hK => ?_); go_simp; refine hK _ ?_; clear hK K)
          refine inv_any (by rfl) (by rfl) (by
            intro w hg hl
            clear hl
            refine gets_sem ?_
            go_simp
            exact ⟨RdV.lit w [.slice Bq k cb] _ (by simp) |>.more (by simp), Grow.alloc _ _⟩) (fun v61 _ K hK => ?_)
          go_simp; refine hK _ ?_; clear hK K
          refine inv_is (by rfl) (by rfl) (by
            intro w hg hl
            have hr : RdS w w.heap.size v61 [lb.take k] := rds_one (show RdV w w.heap.size v61 [_] from hl.at 11 61 (by kernel_rfl) rfl) ((hg.rd FB.out (Nat.le_refl _)).more hg.size)
            clear hl
            refine gets_sem ?_
            go_simp
            refine Calls.mono (sum_any w _ _ _ hr (HNr.out.next hg)) ?_
            rintro e w4 ⟨rfl, rfl⟩
            exact ⟨_, rfl, by rw [E2.out], Grow.refl _⟩) (fun K hK => ?_)
          go_simp; refine hK _ ?_; clear hK K
          iterate 4 (refine inv_val (by rfl) (by intro w hg hl; clear hl; go_simp; with_reducible rfl) (fun K hK => ?_); go_simp; refine hK _ ?_; clear hK K)
          refine inv_any (by rfl) (by rfl) (by
            intro w hg hl
            clear hl
            refine gets_sem ?_
            go_simp
            exact ⟨RdV.lit w [.slice Cq k cc] _ (by simp) |>.more (by simp), Grow.alloc _ _⟩) (fun v67 _ K hK => ?_)
          go_simp; refine hK _ ?_; clear hK K
          refine inv_is (by rfl) (by rfl) (by
            intro w hg hl
            have hr : RdS w w.heap.size v67 [lc.take k] := rds_one (show RdV w w.heap.size v67 [_] from hl.at 17 67 (by kernel_rfl) rfl) ((hg.rd FC.out (Nat.le_refl _)).more hg.size)
            clear hl
            refine gets_sem ?_
            go_simp
            refine Calls.mono (sum_any w _ _ _ hr (HNr.out.next hg)) ?_
            rintro e w4 ⟨rfl, rfl⟩
            exact ⟨_, rfl, by rw [E3.out], Grow.refl _⟩) (fun K hK => ?_)
          go_simp; refine hK _ ?_; clear hK K
          iterate 3 (refine inv_val (by rfl) (by intro w hg hl; clear hl; go_simp; with_reducible rfl) (fun K hK => ?_); go_simp; refine hK _ ?_; clear hK K)
          intro w4 hg hh
          clear hh
          go_wp2
          go_ret
          exact ⟨rfl, hbel.trans (hg.mono hzr)⟩

theorem door_met (os : Os) (args : Array Value) : laidMetH Tryd.prog Rows.crcMixesRow.laid ((World.doorLaid Tryd.prog 400 os).forCall (fun _ _ => 0) ⟨#[], args, []⟩).memory :=
  laidMetH_of_parts3 (fuel := 8) (laidMet_of_run' 8 (by kernel_rfl) (by kernel_rfl)) (by kernel_rfl) (by kernel_rfl)
set_option maxRecDepth 100000 in
theorem lifted (os : Os) (started : os.Started) (H : Type) (enc : TypeId × Value → H) :
    ReturnsInHanded {} Tryd.checked os 6 .any (fun w args => (Rows.crcMixesSpec.pre enc Tryd.prog Tryd.f6 [] false w args ∧ laidMetH Tryd.prog Rows.crcMixesRow.laid w) ∧ sizedMet enc Tryd.prog Tryd.f6 (OpenSpec.ofChange Rows.crcMixesSpec) false w args)
      (Rows.crcMixesSpec.post enc Tryd.prog Tryd.f6 false true false false) := by
  refine returnsInHanded_of_change_and (C := Tryd.checked) (X := fun w _ => laidMetH Tryd.prog Rows.crcMixesRow.laid w) (fun _ _ _ hh h => h.of_heap hh) own started (by kernel_rfl) Tryd.func6
    (ChangeSpec.witness_shaped (enc := enc) (C := Tryd.checked) (os := os) (X := fun w _ => laidMetH Tryd.prog Rows.crcMixesRow.laid w) false (World.doorLaid Tryd.prog 400 os) #[.slice none 0 0, .slice none 0 0, .slice none 0 0] 8 rfl (World.shaped_of_RefB (by kernel_rfl) (by kernel_rfl)) (by kernel_rfl) (by kernel_rfl) (by kernel_rfl) (door_met os _)) ?_
  intro W base args ds gs before hval0 hW _ _ hL _
  have hval : ∀ (j : Nat) t v, Tryd.f6.params[j]? = some t → args[j]? = some v → Value.okWide Tryd.prog W .any base t v := hval0
  have hW' := hW
  obtain ⟨p, q, hA0, hV, rfl, hfz, hnd⟩ := hW
  have hA : DataW.TrodAll enc Tryd.prog W 0 (fun _ => true) true Tryd.f6.params.toList args.toList ds p := hA0
  rw [Tryd.params6] at hA hval
  obtain ⟨v0, vs0, d0, ds0, p0, q0, hargs, rfl, rfl, h0, r0⟩ := trodAll_cons hA
  obtain ⟨v1, vs1, d1, ds1, p1, q1, rfl, rfl, rfl, h1, r1⟩ := trodAll_cons r0
  obtain ⟨v2, vs2, d2, ds2, p2, q2, rfl, rfl, rfl, h2, r2⟩ := trodAll_cons r1
  obtain ⟨rfl, rfl, rfl⟩ := trodAll_nil r2
  obtain rfl : args = #[v0, v1, v2] := by cases args; simp_all
  obtain ⟨rfl, rfl⟩ := trodVars_none hV
  obtain ⟨l0, b0⟩ := open_bytes Tryd.underlying23 Tryd.underlying5 (by kernel_rfl) (hval 0 23 v0 rfl rfl) h0
  obtain ⟨l1, b1⟩ := open_bytes Tryd.underlying23 Tryd.underlying5 (by kernel_rfl) (hval 1 23 v1 rfl rfl) h1
  obtain ⟨l2, b2⟩ := open_bytes Tryd.underlying23 Tryd.underlying5 (by kernel_rfl) (hval 2 23 v2 rfl rfl) h2
  have hN := of_laid hL
  clear hA0 hval0
  refine (walk v0 l0 b0 v1 l1 b1 v2 l2 b2 W rfl hN).mono fun e W' ⟨he, hb⟩ => ?_
  subst he
  exact ⟨_, rfl, law_post hW' rfl laid (by kernel_rfl) rfl Tryd.underlying4 rfl hb⟩

theorem over : Rows.CrcMixesSaid :=
  OpenClaim.holds_of_wide 6 Tryd.f6 rfl rfl rfl rfl rfl rfl rfl ⟨rfl, rfl, rfl, rfl, rfl⟩ rfl rfl rfl rfl rfl (by kernel_rfl) Tryd.func6 (by kernel_rfl)
    (of_decide_eq_true (by kernel_rfl)) (by unfold Func.isWrapper; first | (rw [if_pos (by decide +kernel)]; kernel_rfl) | (rw [if_neg (by decide +kernel)]; exact ⟨rfl, rfl⟩))
    (fun os started H enc _ => lifted os started H enc)
theorem proved : Rows.CrcMixesCardSaid :=
  Claim7.holds_tied_plain_at .later [] [.data] true Rows.crcMixesCard.stood.harness Rows.crcMixesCard.stood.looks
    over (fun _ h => by cases h) (by kernel_rfl) (fun _ h => by cases h) crcMixes_row_tie rfl ⟨rfl, rfl⟩ (by kernel_rfl) rfl
    (fun f fn hf hfn => by
      obtain rfl : f = 6 := Option.some.inj ((show Tryd.prog.funcNamed Rows.crcMixesRow.func = some 6 by kernel_rfl).symm.trans hf) |>.symm
      obtain rfl : fn = Tryd.f6 := (Option.some.inj (Tryd.func6.symm.trans hfn)).symm
      exact ⟨by kernel_rfl, fun j t ht => by
        rw [Tryd.params6] at ht
        have hm : t ∈ [23, 23, 23] := by simpa using Array.mem_of_getElem? ht
        have hall : ([23, 23, 23].all fun u => !Tryd.prog.wantsStandIn u) = true := by kernel_rfl
        exact (show Tryd.prog.wantsStandIn t = false by simpa using List.all_eq_true.1 hall t hm)⟩)
    (by kernel_rfl)
end Go.Proofs.YtclenafidfpinaaDoor.lawCrcMixes
