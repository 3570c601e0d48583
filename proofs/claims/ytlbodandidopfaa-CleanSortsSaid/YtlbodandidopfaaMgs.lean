/- Whole numbers in order: the program's Sort, for one closure. Conditions: the closure keeps what is asked of it. -/
import Derived.Test.YtlbodandidopfaaMgw
import Derived.Laws.OwnMore
import Derived.Lib.SmallJoins
namespace Go.Proofs.Ytlbodandidopfaa
open Go.ChangeShapes Go.WideShapes Go.ChangeAt Go.RowKit
set_option linter.unusedSimpArgs false
set_option linter.unusedVariables false
theorem infJ : (Try.prog.info? 3).map (fun i => (i.zero, i.size, i.bytes)) = some (some (.int .i64 0), 1, 8) := by kernel_rfl
theorem run_ints (w : World) (n : Nat) (hn : n ≤ 4096) : ∃ (w' : World) (zs : List Int), (Instr.makeSlice 69 (.int .i64 (n : Int)) (.int .i64 (n : Int))).run Try.prog w = .ok (.slice (some ⟨w.heap.size, 0, none⟩) n n) w' ∧ zs.length = n ∧ w'.ownsRow 0 3 1 (.slice (some ⟨w.heap.size, 0, none⟩) n n) n (iv .i64 zs) ∧ w.grownBy w' none := by
  obtain ⟨i, hi1, hi2, hi3, hi4⟩ := info_parts infJ
  obtain ⟨w', h1, h2, h3⟩ := run_make_full (P := Try.prog) w 0 69 3 i (.int .i64 0) 1 Try.underlying69 hi1 hi2 hi3 .i64 .i64 n (by rw [hi4]; omega) (by unfold maxLen; omega) (Nat.zero_le _)
  have e : (madeCells (Value.int .i64 0).cells (n * 1)).toList = iv .i64 (List.replicate n 0) := by
    apply List.ext_getElem?
    intro j
    unfold iv madeCells
    by_cases hj : j < n
    · simp [hj, Value.cells, Nat.mod_one]
    · rw [List.getElem?_eq_none (by simp; omega), List.getElem?_eq_none (by simp; omega)]
  rw [e] at h2
  exact ⟨w', List.replicate n 0, h1, by simp, h2, h3⟩
theorem sub_rd {g : Nat} {w : World} {n c lo hi : Nat} {xs : List Int} (h : w.ownsRow 0 3 1 (.slice (some ⟨g, 0, none⟩) n c) n (iv .i64 xs)) (h1 : lo ≤ hi) (h2 : hi ≤ n) (A : Option Addr) (hA : lo < hi → A = some ⟨g, lo, none⟩) : RdO g w (.slice A (hi - lo) (hi - lo)) (sub xs lo hi) := by
  have hl : xs.length = n := by have := h.1; rw [iv_length] at this; omega
  have hs := sub_length h1 (by omega : hi ≤ xs.length)
  refine ⟨A, by rw [hs], fun hn => ⟨lo, hA (by omega), fun j u hu => ?_⟩⟩
  have hj : j < hi - lo := by have := (List.getElem?_eq_some_iff.1 hu).1; omega
  have hx : xs[lo + j]? = some u := by
    unfold sub at hu
    rw [List.getElem?_take_of_lt hj, List.getElem?_drop] at hu
    exact hu
  have := h.cellAt (lo + j) (by omega)
  rw [this]
  unfold iv
  rw [List.getElem?_map, hx]
  rfl
structure SRel (pure : Bool) (k : Int → Int) (I : World → Prop) (OL : Nat → Prop) (w : World) (n gA cA gB cB : Nat) (xs ys : List Int) (wx : World) : Prop where
  ne : gA ≠ gB
  ra : wx.ownsRow 0 3 1 (.slice (some ⟨gA, 0, none⟩) n cA) n (iv .i64 xs)
  rb : wx.ownsRow 0 3 1 (.slice (some ⟨gB, 0, none⟩) n cB) n (iv .i64 ys)
  fa : w.heap.size ≤ gA
  fb : w.heap.size ≤ gB
  inv : I wx
  frm : Frm OL w wx
  xl : xs.length = n
  yl : ys.length = n
  ca : n ≤ cA ∧ cA ≤ 9223372036854775807
  cb : n ≤ cB ∧ cB ≤ 9223372036854775807
theorem SRel.swap {pure : Bool} {k : Int → Int} {I : World → Prop} {OL : Nat → Prop} {w wx : World} {n gA cA gB cB : Nat} {xs ys : List Int} (h : SRel pure k I OL w n gA cA gB cB xs ys wx) : SRel pure k I OL w n gB cB gA cA ys xs wx :=
  ⟨fun e => h.ne e.symm, h.rb, h.ra, h.fb, h.fa, h.inv, h.frm, h.yl, h.xl, h.cb, h.ca⟩
/-- what Sort tells -/
def SortP (pure : Bool) (k : Int → Int) (I : World → Prop) (OL : Nat → Prop) (w : World) (n : Nat) (e : Ending) (w' : World) : Prop :=
  ∃ (g : Nat) (xs : List Int), e = .returned (.slice (some ⟨g, 0, none⟩) n n) ∧ xs.length = n ∧ w.heap.size ≤ g ∧ RdO g w' (.slice (some ⟨g, 0, none⟩) n n) xs ∧ xs.Perm (rangeI 0 n) ∧ (pure = true → Sorted k xs) ∧ I w' ∧ Frm OL w w'
theorem sub_all {xs : List Int} {n : Nat} (h : xs.length = n) : sub xs 0 n = xs := by subst h; simp [sub]
theorem merge_step (c0 c1 c2' c3 : Value) (pure : Bool) (k : Int → Int) (T : Int → Int → Bool → Prop) (hT : pure = true → ∀ y x c, T y x c → c = decide (k y < k x)) (OL : Nat → Prop) (I : World → Prop) (n : Nat) (hn : 1 ≤ n ∧ n ≤ 200) (w : World)
    (hL : LessC 48 (fun x y => #[x, y, c0, c1, c2', c3]) T (fun z => ∃ i : Nat, z = (i : Nat) ∧ i < n) OL I Try.prog) (hOL : ∀ j, OL j → j < w.heap.size) (hIk : ∀ w1 w2, Frm (fun j => w.heap.size ≤ j) w1 w2 → I w1 → I w2)
    {W gA cA gB cB lo mid hi j : Nat} {xs ys : List Int} {wr : World} (hW : 1 ≤ W) (hS : SRel pure k I OL w n gA cA gB cB xs ys wr) (hRx : Runs pure k n xs W n) (hRy : Runs pure k n ys (2 * W) j) (hlo : lo = j * (2 * W)) (hmid : mid = min (lo + W) n) (hhi : hi = min (lo + 2 * W) n) (hl : lo < n) (A : Option Addr) (hA : mid < hi → A = some ⟨gA, mid, none⟩) :
    Calls Try.prog 87 #[.slice (some ⟨gB, lo, none⟩) (hi - lo) (hi - lo), .slice (some ⟨gA, lo, none⟩) (mid - lo) (mid - lo), .slice A (hi - mid) (hi - mid), .func (Fn.func 48) #[] #[c0, c1, c2', c3]] wr.drew fun e w' => e = .returned (.tuple #[]) ∧ ∃ ys', SRel pure k I OL w n gA cA gB cB xs ys' w' ∧ Runs pure k n ys' (2 * W) (j + 1) := by
  have f1 : lo < mid := by omega
  have f2 : mid ≤ hi := by omega
  have f3 : hi ≤ n := by omega
  obtain ⟨hs1, hs2⟩ := Runs.pair hW hlo hmid hhi hl hRx
  have hra : wr.drew.ownsRow 0 3 1 (.slice (some ⟨gA, 0, none⟩) n cA) n (iv .i64 xs) := hS.ra
  have hrb : wr.drew.ownsRow 0 3 1 (.slice (some ⟨gB, 0, none⟩) n cB) n (iv .i64 ys) := hS.rb
  have hxl := hS.xl
  have hyl := hS.yl
  have hF : Frm OL w wr.drew := hS.frm.drew
  have hsz := hF.size
  have hgA := own_lt1 hra rfl
  have hgB := own_lt1 hrb rfl
  have hI : I wr.drew := hIk wr wr.drew ((Frm.refl _ wr).drew) hS.inv
  have hla : (sub xs lo mid).length = mid - lo := sub_length (by omega) (by omega)
  have hlb : (sub xs mid hi).length = hi - mid := sub_length f2 (by omega)
  refine (merge_any c0 c1 c2' c3 T _ OL I gA gB n cB lo (hi - lo) ys (sub xs lo mid) (sub xs mid hi) _ _ wr.drew hL (fun h => by have := hOL _ h; have := hS.fa; omega) (fun h => by have := hOL _ h; have := hS.fb; omega) hS.ne hI (fun w1 w2 hf hi => hIk w1 w2 (hf.mono fun j _ e => by subst e; exact hS.fb) hi)
    (sub_rd hra (by omega) (by omega) _ fun _ => rfl) (sub_rd hra f2 f3 A hA) hgA hrb (by omega) (by omega) (by omega) (fun x hx => by obtain ⟨i, e, _, h2⟩ := hs1.mem hx; exact ⟨i, e, by omega⟩) (fun x hx => by obtain ⟨i, e, _, h2⟩ := hs2.mem hx; exact ⟨i, e, by omega⟩)).mono ?_
  rintro e w9 ⟨rfl, r, hm, ho, hI9, hF9⟩
  have hrl : r.length = hi - lo := by rw [hm.length]; omega
  have hov : (over ys lo r).length = n := by rw [over_length (by omega)]; exact hyl
  have hnA : ¬ (gA = gB ∨ OL gA) := by
    rintro (e | e)
    · exact hS.ne e
    · have := hOL _ e
      have := hS.fa
      omega
  have hOB : ∀ i, (i = gB ∨ OL i) → OL i ∨ w.heap.size ≤ i := by
    rintro i (e | e)
    · have := hS.fb
      exact Or.inr (by omega)
    · exact Or.inl e
  refine ⟨rfl, over ys lo r, ⟨hS.ne, own_keep1 hra (fun g hg => by injection hg with hg; subst hg; exact hF9.block _ hgA (hnA)), ho, hS.fa, hS.fb, hI9, hF.sub hF9 hOB, hxl, hov, hS.ca, hS.cb⟩, ?_⟩
  exact Runs.step hlo hhi hl hyl hrl hRy (Seg.merge hT (by omega) f2 (by omega) (by omega) hs1 hs2 hm)
set_option maxRecDepth 100000 in
set_option maxHeartbeats 8000000 in
theorem sort_any (c0 c1 c2' c3 : Value) (pure : Bool) (k : Int → Int) (T : Int → Int → Bool → Prop) (hT : pure = true → ∀ y x c, T y x c → c = decide (k y < k x)) (OL : Nat → Prop) (I : World → Prop) (n : Nat) (hn : 1 ≤ n ∧ n ≤ 200) (va : Value) (w : World) (B : Nat)
    (hL : LessC 48 (fun x y => #[x, y, c0, c1, c2', c3]) T (fun z => ∃ i : Nat, z = (i : Nat) ∧ i < n) OL I Try.prog) (hOL : ∀ j, OL j → j < w.heap.size) (hI : I w) (hIk : ∀ w1 w2, Frm (fun j => w.heap.size ≤ j) w1 w2 → I w1 → I w2) (hr : RdV w B va (iv .i64 (rangeI 0 n))) :
    Calls Try.prog 47 #[va, .func (Fn.func 48) #[] #[c0, c1, c2', c3]] w (SortP pure k I OL w n) := by
  have hrl : (iv .i64 (rangeI 0 n)).length = n := by rw [iv_length]; simp [rangeI]
  obtain ⟨A, cp, rfl, hc1, hc2, _⟩ := id hr
  rw [hrl] at hc1 hr ⊢
  have HR := Lib.hid hr
  have HL := Lib.hid hL
  have HIK := Lib.hid hIk
  have HI := Lib.hid hI
  clear hr hL hIk hI
  go_enter Try.func47, Try.ntmps47
  go_wp2_with (at_builtin; refine wpList_append_rd _ rfl _ _ 69 rfl w.heap.size 3 (.int .i64 0) 8 Try.underlying69 infJ rfl (.slice none 0 0) 0 [] (by rfl) ⟨by simp, Or.inl ⟨rfl, rfl⟩⟩ _ (by rfl) B (iv .i64 (rangeI 0 n)) HR.out (by intro u hu; unfold iv at hu; rw [List.mem_map] at hu; obtain ⟨_, _, rfl⟩ := hu; rfl) (by rw [hrl]; omega) (by omega) (Nat.le_refl _) ?_; intro v2 w2 ho2 hg2 _; rw [Nat.zero_add, hrl, List.nil_append] at ho2; obtain ⟨gA, cA, rfl⟩ := Joins.ownsRow_form ho2 (by omega); obtain ⟨w3, zs, hrun3, hzl, ho3, hg3⟩ := run_ints w2 n (by omega))
  have hb2 : Below w.heap.size w w2 := (Below.refl _ w).grown hg2 (Nat.le_refl _) (by intro g hg; cases hg)
  have hb3 : Below w2.heap.size w2 w3 := (Below.refl _ w2).grown hg3 (Nat.le_refl _) (by intro g hg; cases hg)
  have hgA := ho2.lt gA rfl
  have hcA : n ≤ cA ∧ cA ≤ 9223372036854775807 := by
    rcases ho2.2 with ⟨h1, _⟩ | ⟨g, cap, cur, h1, h2, h3, h4, h5, h6⟩
    · injection h1 with h1; cases h1
    · injection h1 with h1 h7 h8
      unfold maxLen at h5
      omega
  have ho2' : w2.ownsRow 0 3 1 (.slice (some ⟨gA, 0, none⟩) n cA) n (iv .i64 (rangeI 0 n)) := by
    refine ⟨ho2.1, ho2.2.imp id ?_⟩
    rintro ⟨g, cap, cur, e1, e2, e3⟩
    exact ⟨g, cap, cur, e1, Nat.zero_le _, e3⟩
  have hz2 := hb2.size
  have hS : SRel pure k I OL w n gA cA w2.heap.size n (rangeI 0 n) zs w3 := ⟨by omega, own_keep1 ho2' (fun g hg => by injection hg with hg; subst hg; exact hb3.block gA hgA.2), ho3, hgA.1, hz2, HIK.out w w3 (Frm.of_below (hb2.trans (hb3.mono (by omega))) |>.mono fun j _ e => e) HI.out, Frm.of_below (hb2.trans (hb3.mono (by omega))), by simp [rangeI], hzl, hcA, ⟨Nat.le_refl _, by omega⟩⟩
  have HS := Lib.hid hS
  clear ho2 hg2 ho3 hg3 hb2 hb3 ho2' hS HI
  go_wp2_with fail
  go_loopw [7, 5, 6] (fun wd va vb wx => ∃ (W gA cA gB cB : Nat) (xs ys : List Int), 1 ≤ W ∧ W ≤ 400 ∧ wd = .int .i64 W ∧ va = .slice (some ⟨gA, 0, none⟩) n cA ∧ vb = .slice (some ⟨gB, 0, none⟩) n cB ∧ SRel pure k I OL w n gA cA gB cB xs ys wx ∧ Runs pure k n xs W n) (fun wd _ _ _ => n - (intOf wd).toNat)
  case atStart => exact ⟨1, gA, cA, w2.heap.size, n, rangeI 0 n, zs, by omega, by omega, rfl, rfl, rfl, HS.out, Runs.start pure k n⟩
  case round =>
    clear HS hrun3 hzl hgA hcA hz2
    obtain ⟨W, gA, cA, gB, cB, xs, ys, hW1, hW2, rfl, rfl, rfl, hS, hRun⟩ := hrel
    by_cases hlt : W < n
    · have HS := Lib.hid hS
      have HRun := Lib.hid hRun
      have hcA := hS.ca
      have hcB := hS.cb
      clear hS hRun
      go_wp2_with fail
      go_loopw [8] (fun i wx => ∃ (lo j : Nat) (ys' : List Int), lo ≤ n + 2 * W ∧ i = .int .i64 lo ∧ Hid (lo = j * (2 * W)) ∧ SRel pure k I OL w n gA cA gB cB xs ys' wx ∧ Runs pure k n ys' (2 * W) j ∧ (n ≤ lo → Hid (n ≤ j * (2 * W)))) (fun i wx => n - (intOf i).toNat)
      case atStart => exact ⟨0, 0, ys, by omega, rfl, Lib.hid (by simp), HS.out, fun i hi => by omega, fun h => by omega⟩
      case round =>
        clear HS
        obtain ⟨lo, j, ys', hlo, rfl, HJ, hS, hRy, hend⟩ := hrel
        by_cases hl : lo < n
        · obtain ⟨mid, hmid⟩ : ∃ mid, mid = min (lo + W) n := ⟨_, rfl⟩
          obtain ⟨hi, hhi⟩ : ∃ hi, hi = min (lo + 2 * W) n := ⟨_, rfl⟩
          have HM := Lib.hid hmid
          have HH := Lib.hid hhi
          have hf : lo < mid ∧ mid ≤ hi ∧ hi ≤ n := by omega
          go_upto_region 9 with (fail)
          go_cut [9, 10] from 30 to 42 (fun a b wx => a = .int .i64 mid ∧ b = .int .i64 hi ∧ wr = wx)
          case first =>
            by_cases hq1 : lo + W ≤ n
            · by_cases hq2 : lo + 2 * W ≤ n
              · obtain rfl : mid = lo + W := by omega
                obtain rfl : hi = lo + 2 * W := by omega
                clear HM HH hmid hhi
                go_wp2_with fail
                all_goals go_meet
                all_goals exact ⟨by go_num, by go_num, rfl⟩
              · obtain rfl : mid = lo + W := by omega
                have e1 : n = hi := by omega
                subst e1
                clear HM HH hmid hhi
                go_wp2_with fail
                all_goals go_meet
                all_goals exact ⟨by go_num, by go_num, rfl⟩
            · have e1 : n = mid := by omega
              have e2 : n = hi := by omega
              subst e1
              subst e2
              clear HM HH hmid hhi
              go_wp2_with fail
              all_goals go_meet
              all_goals exact ⟨by go_num, by go_num, rfl⟩
          case rest =>
            obtain ⟨rfl, rfl, rfl⟩ := hcut
            go_upto_region 10 with (fail)
            have hCA := fun (A : Option Addr) hA => merge_step c0 c1 c2' c3 pure k T hT OL I n hn w HL.out hOL HIK.out hW1 hS HRun.out hRy HJ.out hmid hhi hl A hA
            clear hmid hhi
            have HCA := Lib.hid hCA
            clear hCA
            obtain ⟨hf1, hf2, hf3⟩ := hf
            have hcA2 := hcA.1
            have hcB2 := hcB.1
            clear hS hRy
            have d0 : hi ≤ cB := by omega
            have d1 : lo ≤ hi := by omega
            have d2 : ¬ hi = lo := by omega
            have d3 : mid ≤ cA := by omega
            have d4 : lo ≤ mid := by omega
            have d5 : ¬ mid = lo := by omega
            have d6 : hi ≤ cA := by omega
            have HHI := Lib.hid (show n ≤ lo + 2 * W → hi = n from by have := HH.out; omega)
            clear HM HH
            by_cases hmh : hi = mid
            · refine region_ord (fun wz => True) [false, false, false, false, false, false, false, false, false, false, false, false, false, false, false, false, true] (by kernel_rfl) (by kernel_rfl) (by kernel_rfl) trivial ?_
              subst hmh
              have hc0 := HCA.out (some ⟨gA, 0, none⟩) (fun h => absurd h (Nat.lt_irrefl _))
              rw [Nat.sub_self] at hc0
              have HC0 := Lib.hid hc0
              clear hc0 HCA
              iterate 16 (refine ord_val (by rfl) (by intro wz hi0; clear hi0; go_simp; with_reducible rfl) (fun K hK => ?_); go_simp; refine hK _ ?_; clear hK K)
              refine ord_eff (by rfl) (fun K hK => ?_)
              refine gets_sem ?_
              go_simp
              refine HC0.out.mono ?_
              rintro e w9 ⟨rfl, ys9, hS9, hR9⟩
              refine ⟨_, rfl, hK _ _ ?_⟩
              clear hK K
              refine ord_nil ?_
              have HS9 := Lib.hid hS9
              have HR9 := Lib.hid hR9
              clear hS9 hR9 HC0
              go_wp2_with fail
              go_roundw
              case rel => exact ⟨lo + 2 * W, j + 1, ys9, by omega, by go_num, Lib.hid (by rw [Nat.add_mul, Nat.one_mul, ← HJ.out]), HS9.out, HR9.out, fun h => Lib.hid (by rw [Nat.add_mul, Nat.one_mul, ← HJ.out]; exact h)⟩
              case measure => simp [intOf]; omega
            · refine region_ord (fun wz => True) [false, false, false, false, false, false, false, false, false, false, false, false, false, false, false, false, true] (by kernel_rfl) (by kernel_rfl) (by kernel_rfl) trivial ?_
              iterate 16 (refine ord_val (by rfl) (by intro wz hi0; clear hi0; go_simp; with_reducible rfl) (fun K hK => ?_); go_simp; refine hK _ ?_; clear hK K)
              refine ord_eff (by rfl) (fun K hK => ?_)
              refine gets_sem ?_
              go_simp
              refine (HCA.out _ (fun _ => rfl)).mono ?_
              rintro e w9 ⟨rfl, ys9, hS9, hR9⟩
              refine ⟨_, rfl, hK _ _ ?_⟩
              clear hK K
              refine ord_nil ?_
              have HS9 := Lib.hid hS9
              have HR9 := Lib.hid hR9
              clear hS9 hR9 HCA
              go_wp2_with fail
              go_roundw
              case rel => exact ⟨lo + 2 * W, j + 1, ys9, by omega, by go_num, Lib.hid (by rw [Nat.add_mul, Nat.one_mul, ← HJ.out]), HS9.out, HR9.out, fun h => Lib.hid (by rw [Nat.add_mul, Nat.one_mul, ← HJ.out]; exact h)⟩
              case measure => simp [intOf]; omega
        · have HS := Lib.hid hS.swap
          have hj := (hend (by omega)).out
          have HRy : Hid (Runs pure k n ys' (2 * W) n) := Lib.hid (fun i _ h2 => hRy i (by
            rcases Nat.lt_or_ge i j with h3 | h3
            · exact h3
            · have := Nat.mul_le_mul_right (2 * W) h3
              omega) h2)
          clear hS hRy hend hj
          go_wp2_with fail
          go_roundw
          case rel => exact ⟨2 * W, gB, cB, gA, cA, ys', xs, by omega, by omega, by go_num, rfl, rfl, HS.out, HRy.out⟩
          case measure => simp [intOf]; omega
    · have HS := Lib.hid hS
      have HRun := Lib.hid hRun
      have hcA := hS.ca
      clear hS hRun
      go_wp2_with fail
      go_ret
      refine ⟨gA, xs, rfl, HS.out.xl, HS.out.fa, ?_, ?_, ?_, HS.out.inv, HS.out.frm⟩
      · have := sub_rd HS.out.ra (Nat.zero_le n) (Nat.le_refl n) (some ⟨gA, 0, none⟩) (fun _ => rfl)
        rw [sub_all HS.out.xl] at this
        exact this
      · have := (HRun.out 0 (by omega) (by omega)).1
        rw [show min (0 * W + W) n = n from by omega, Nat.zero_mul, sub_all HS.out.xl] at this
        exact this
      · intro hp
        have := (HRun.out 0 (by omega) (by omega)).2 hp
        rw [show min (0 * W + W) n = n from by omega, Nat.zero_mul, sub_all HS.out.xl] at this
        exact this
end Go.Proofs.Ytlbodandidopfaa
