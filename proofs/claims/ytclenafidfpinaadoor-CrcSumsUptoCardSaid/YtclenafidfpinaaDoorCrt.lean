/- Contracts of the document's own Sum, Seal, Open. Conditions: the rows are shorter than 2^30. -/
import Derived.Test.YtclenafidfpinaaDoorCro
import Derived.Deep.RegionLaw
namespace Go.Proofs.YtclenafidfpinaaDoor
open Go.ChangeShapes Go.WideShapes Go.ChangeAt Go.RowKit
set_option linter.unusedSimpArgs false
set_option linter.unusedVariables false
theorem sts_succ (j r : Nat) : Cr.sts (j + 1) r = Cr.st (Cr.sts j r) := Cr.sts_add j 1 r
theorem st_walk2 (b : Nat) (hb : b < 4294967296) : (b % 2 = 1 → bits .xor .u32 ((b : Int) / 2) 2197175160 = (Cr.st b : Int)) ∧ (b % 2 = 0 → (b : Int) / 2 = (Cr.st b : Int)) := by
  constructor
  · intro h
    rw [show ((b : Int) / 2) = ((b / 2 : Nat) : Int) from by simp, show (2197175160 : Int) = ((Cr.P : Nat) : Int) from rfl, u32_xor_nat _ _ (by omega) (by decide)]
    unfold Cr.st; rw [if_pos h]
  · intro h
    rw [Cr.st_even h]; simp
theorem and_one32c (b : Nat) (hb : b < 4294967296) : bits .and .u32 (b : Int) 1 = ((b % 2 : Nat) : Int) := by
  rw [show (1 : Int) = ((1 : Nat) : Int) from rfl, u32_and_nat _ _ hb (by decide), nat_mask1]
set_option maxRecDepth 100000 in
set_option maxHeartbeats 4000000 in
theorem rsum_any (w : World) (B : Nat) (v : Value) (l : List UInt8) (hr : RdV w B v (bv l)) :
    Calls Tryd.prog 13 #[v] w fun e w' => e = .returned (.int .u32 (Cr.sum (u8n l))) ∧ w = w' := by
  have hrr := hr
  obtain ⟨A, c, rfl, hc1, hc2, hc3⟩ := hr
  rw [bv_length] at hc1 hc3 hrr ⊢
  clear hc3
  unfold maxLen at hc2
  have HR := Lib.hid hrr
  clear hrr
  go_enter Tryd.func13, Tryd.ntmps13
  go_wp2_with fail
  go_loop [3, 4] (fun s i => ∃ (j q : Nat), j ≤ l.length ∧ i = .int .i64 j ∧ s = .int .u32 q ∧ q < 4294967296 ∧ Hid (q = Cr.run Cr.I (u8n (l.take j)))) (fun _ i => l.length - (intOf i).toNat)
  case atStart => exact ⟨0, Cr.I, by omega, rfl, rfl, by decide, Lib.hid rfl⟩
  case round =>
    obtain ⟨j, q, hj, rfl, rfl, hq, HQ⟩ := hrel
    by_cases hlt2 : j < l.length
    · have hget2 : (bv l)[j]? = some (.int .u8 (l[j].toNat : Int)) := by rw [bv_get, List.getElem?_eq_getElem hlt2]; rfl
      obtain ⟨b2, off2, rfl, hbB2, hcell2⟩ := HR.out.get hget2
      have hsn := run_snoc Cr.I l j hlt2
      have hxb := l[j].toNat_lt
      have hx := u32_xor_nat q l[j].toNat hq (by omega)
      have hd : q ^^^ l[j].toNat < 4294967296 := Nat.xor_lt_two_pow (n := 32) hq (by omega)
      have hby : Cr.byte q l[j].toNat = Cr.sts 8 (q ^^^ l[j].toNat) := rfl
      have HS := Lib.hid hsn
      have HY := Lib.hid hby
      clear hsn hget2 hby
      generalize l[j].toNat = xb at *
      generalize hdd : q ^^^ xb = d at *
      have HD := Lib.hid hdd
      clear hdd
      go_wp2_with fail
      go_loop [3, 5] (fun s i => ∃ (k r : Nat), k ≤ 8 ∧ i = .int .i64 k ∧ s = .int .u32 r ∧ r < 4294967296 ∧ Hid (r = Cr.sts k d)) (fun _ i => 8 - (intOf i).toNat)
      case atStart => exact ⟨0, d, by omega, rfl, rfl, hd, Lib.hid rfl⟩
      case round =>
        obtain ⟨k, r, hk, rfl, rfl, hr, HE⟩ := hrel
        by_cases hk8 : k < 8
        · have hst := Cr.st_lt (r := r) hr
          have hsu := sts_succ k d
          rw [← HE.out] at hsu
          obtain ⟨w1, w2⟩ := st_walk2 r hr
          have t1 := and_one32c r hr
          have HU := Lib.hid hsu
          clear hsu
          rcases Nat.mod_two_eq_zero_or_one r with hm | hm
          · have v2 := w2 hm
            rw [hm] at t1
            clear hm w1 w2
            go_wp2
            go_round
            case rel => exact ⟨k + 1, Cr.st r, by omega, by go_num, rfl, hst, Lib.hid HU.out.symm⟩
            case measure => simp [intOf]; omega
          · have v2 := w1 hm
            rw [hm] at t1
            clear hm w1 w2
            go_wp2
            go_round
            case rel => exact ⟨k + 1, Cr.st r, by omega, by go_num, rfl, hst, Lib.hid HU.out.symm⟩
            case measure => simp [intOf]; omega
        · obtain rfl : k = 8 := by omega
          have hre : r = Cr.run Cr.I (u8n (l.take (j + 1))) := by rw [HS.out, ← HQ.out, HY.out]; exact HE.out
          have HR2 := Lib.hid hre
          clear hre
          go_wp2_with fail
          go_round
          case rel => exact ⟨j + 1, r, by omega, by go_num, rfl, hr, HR2⟩
          case measure => simp [intOf]; omega
    · obtain rfl : j = l.length := by omega
      have hre := HQ.out
      rw [List.take_length] at hre
      have HR2 := Lib.hid hre
      clear hre
      go_wp2_with fail
      go_ret
      refine ⟨?_, rfl⟩
      show Ending.returned (.int .u32 (bits BinOp.xor IntKind.u32 IntKind.u32.max (q : Int))) = _
      rw [show IntKind.u32.max = ((Cr.I : Nat) : Int) from by decide, u32_xor_nat _ _ (by decide) hq, Nat.xor_comm]
      unfold Cr.sum
      rw [← HR2.out]
theorem putL4 (s : Nat) (hs : s < 2 ^ 32) : bv (Pu.putL s 4) = [.int .u8 ((s : Int) % 256), .int .u8 ((s : Int) / 256 % 256), .int .u8 ((s : Int) / 65536 % 256), .int .u8 ((s : Int) / 16777216)] := by
  simp [Pu.putL, bv, UInt8.toNat_ofNat']
  omega
set_option maxRecDepth 100000 in
set_option maxHeartbeats 4000000 in
theorem rseal_any (vb : Value) (l : List UInt8) (hl : l.length < 1073741824) (w : World) (B : Nat) (hB : B ≤ w.heap.size) (hr : RdV w B vb (bv l)) :
    Calls Tryd.prog 15 #[vb] w (GivesB w.heap.size w (sealL l)) := by
  have hrr := hr
  obtain ⟨A, c, rfl, hc1, hc2, hc3⟩ := hr
  rw [bv_length] at hc1 hc3 hrr ⊢
  clear hc3
  unfold maxLen at hc2
  have s1 := rsum_any w B _ l hrr
  have h32 := Cr.sum_lt (u8n l) (u8n_lt l)
  have hE := Emp.new w 5
  have hr1 := hrr.alloc hB (.cells #[] 5)
  have hb1 : Below w.heap.size w (w.alloc (.cells #[] 5)) := (Below.refl _ _).alloc (Nat.le_refl _) _
  have HS : sealL l = l ++ Pu.putL (Cr.sum (u8n l)) 4 := rfl
  rw [HS]
  have hp4 := putL4 (Cr.sum (u8n l)) h32
  generalize Cr.sum (u8n l) = s at *
  have S1 := Lib.hid s1
  have P4 := Lib.hid hp4
  clear s1 HS hp4
  go_enter Tryd.func15, Tryd.ntmps15
  go_wp2_with fail
  refine S1.out.mono ?_
  rintro e w1 ⟨rfl, rfl⟩
  go_wp2_with (first
    | (at_builtin; refine wpList_append_rd _ rfl (.tmp 6) (.tmp 7) 23 rfl w.heap.size 5 (.int .u8 0) 1 Tryd.underlying23 Tryd.inf5 rfl _ 0 [] rfl (Emp.own hE (Nat.le_refl _)) _ rfl _ (bv l) hr1 (bv_one _) (by rw [bv_length]; omega) (by omega) (by simp) ?_; intro v2 w2 ho2 hg2' _; rw [List.nil_append, Nat.zero_add, bv_length] at ho2; have hg2 : (w.alloc (.cells #[] 5)).grownBy w2 (some w.heap.size) := hg2'; have hb2 : Below w.heap.size w w2 := hb1.grown hg2 (by simp) (by intro g hg; injection hg with hg; omega); have hz2 := hb2.size; have hlit := RdV.lit w2 [.int .u8 ((s : Int) % 256), .int .u8 ((s : Int) / 256 % 256), .int .u8 ((s : Int) / 65536 % 256), .int .u8 ((s : Int) / 16777216)] 5 (by simp); clear hg2')
    | (at_builtin; refine wpList_append_rd _ rfl (.tmp 8) (.tmp 20) 23 rfl w.heap.size 5 (.int .u8 0) 1 Tryd.underlying23 Tryd.inf5 rfl v2 _ _ rfl (ho2.alloc _) _ rfl _ _ hlit (by rw [← P4.out]; exact bv_one _) (by simp; omega) (by omega) (by simp; omega) ?_; intro v3 w3 ho3 hg3 _))
  go_ret
  have hb3 : Below w.heap.size w w3 := (hb2.alloc hz2 _).grown hg3 (by simp; omega) (fun g hg => (ho2.lt g hg).1)
  refine ⟨v3, rfl, ?_, hb3⟩
  rw [← P4.out, bv_length, Pu.putL_length, ← bv_append] at ho3
  rw [List.length_append, Pu.putL_length]
  exact ho3
theorem leN_inj : ∀ (l m : List UInt8), l.length = m.length → Pu.leN l = Pu.leN m → l = m
  | [], [], _, _ => rfl
  | a :: l, b :: m, h, e => by
    have ha := a.toNat_lt
    have hb := b.toNat_lt
    simp only [Pu.leN] at e
    have e1 : a.toNat = b.toNat := by omega
    have e2 : Pu.leN l = Pu.leN m := by omega
    rw [UInt8.toNat_inj.1 e1, leN_inj l m (by simpa using h) e2]
theorem ok_seal (l : List UInt8) (h : 4 ≤ l.length) : okB l ↔ sealL (l.take (l.length - 4)) = l := by
  constructor
  · intro hk
    have hz : l.drop (l.length - 4) = Pu.putL (Cr.sum (u8n (l.take (l.length - 4)))) 4 := by
      apply leN_inj
      · rw [List.length_drop, Pu.putL_length]; omega
      · rw [Pu.leN_putL]
        unfold okB at hk
        rw [hk]
        exact (Nat.mod_eq_of_lt (Cr.sum_lt _ (u8n_lt _))).symm
    have : sealL (l.take (l.length - 4)) = l.take (l.length - 4) ++ l.drop (l.length - 4) := by rw [hz]; rfl
    rw [this]; exact List.take_append_drop _ _
  · intro he
    rw [← he]
    exact sealL_ok _
theorem step_ifT {c : Prop} [Decidable c] {A E : Prop} (hc : c) (h : A) : if c then A else E := by rw [if_pos hc]; exact h
set_option maxRecDepth 100000 in
set_option maxHeartbeats 8000000 in
theorem ropen_any (vb : Value) (l : List UInt8) (hl : l.length < 1073741824) (w : World) (B : Nat) (hB : B ≤ w.heap.size) (hr : RdV w B vb (bv l)) :
    Calls Tryd.prog 11 #[vb] w (OpenP w l) := by
  have hrr := hr
  obtain ⟨A, c, rfl, hc1, hc2, hc3⟩ := hr
  rw [bv_length] at hc1 hc3 hrr ⊢
  unfold maxLen at hc2
  by_cases h4 : l.length < 4
  · clear hc3 hrr
    go_enter Tryd.func11, Tryd.ntmps11
    go_wp2
    go_ret2
    exact ⟨Or.inl ⟨h4, rfl⟩, Below.refl _ _⟩
  · obtain ⟨b, off, rfl, hbB, hcc⟩ := hc3 (by omega)
    clear hcc hc3
    obtain ⟨n, hn⟩ : ∃ n, l.length = n + 4 := ⟨l.length - 4, by omega⟩
    have hd : l.length - 4 = n := by omega
    have r2 := RdV.front hrr n (by rw [bv_length]; omega)
    rw [bv_take] at r2
    have s1 := fun w1 (hw1 : B ≤ w1.heap.size) hr1 => rseal_any (.slice (some ⟨b, off, none⟩) n c) (l.take n) (by rw [List.length_take]; omega) w1 B hw1 hr1
    have hok := ok_seal l (by omega)
    rw [hd] at hok
    have x1 := run_conv_rd (P := Tryd.prog) w 23 9 5 Tryd.underlying23 Tryd.underlying5 Tryd.underlying9 _ _ _ hrr
    have x2 := run_conv_rd (P := Tryd.prog) w.drew 23 9 5 Tryd.underlying23 Tryd.underlying5 Tryd.underlying9 _ _ _ hrr.drew
    rw [hn] at x1 x2
    have S1 := Lib.hid s1
    have R2 := Lib.hid r2
    have HR := Lib.hid hrr
    have HD := Lib.hid hd
    have HO := Lib.hid hok
    have hnc : n ≤ c := by omega
    have hnl : n < 1073741824 := by omega
    have hn4 := Lib.hid hn
    rw [hn] at hc1 ⊢
    clear s1 r2 hrr hd hok hn
    go_enter Tryd.func11, Tryd.ntmps11
    go_wp2
    by_cases he : sealL (l.take n) = l
    · have hok2 := HO.out.2 he
      have HK := Lib.hid hok2
      clear hok2
      first
        | go_region_law (first
          | (refine step_ifT (by rfl) ?_; go_simp; go_at_call 15; refine Calls.mono (S1.out _ (by exact hB) (by exact R2.out.drew)) ?_; rintro e w2 ⟨r2, rfl, ho2, hb2'⟩; have hb2 : Below w.heap.size w w2 := ((Below.refl _ w).drew).trans hb2'; have z1 := run_conv_rd (P := Tryd.prog) w2 23 9 5 Tryd.underlying23 Tryd.underlying5 Tryd.underlying9 _ _ _ (RdV.own ho2); rw [he] at z1; have z2 := run_conv_rd (P := Tryd.prog) w2 23 9 5 Tryd.underlying23 Tryd.underlying5 Tryd.underlying9 _ _ _ (HR.out.below' hb2 hB); rw [hn4.out] at z2; clear ho2 hb2')
          | fail)
        | fail
      all_goals
        have hz2 := hb2.size
        have hE2 := Emp.new w2 5
        have hr2c := (R2.out.below' hb2 hB).alloc (show B ≤ w2.heap.size by omega) (.cells #[] 5)
        have HE2 := Lib.hid hE2
        have HC2 := Lib.hid hr2c
        have hlt : (l.take n).length = n := by rw [List.length_take]; have := hn4.out; omega
        have HLT := Lib.hid hlt
        clear hE2 hr2c hlt
        go_wp2_with (at_builtin; refine wpList_append_rd _ rfl (.tmp 18) (.tmp 21) 23 rfl w.heap.size 5 (.int .u8 0) 1 Tryd.underlying23 Tryd.inf5 rfl _ 0 [] rfl (Emp.own HE2.out hz2) _ rfl _ (bv (l.take n)) HC2.out (bv_one _) (by rw [bv_length, HLT.out]; omega) (by omega) (by simp; omega) ?_; intro v3 w3 ho3 hg3 _)
        go_ret2
        have hg3' : (w2.alloc (.cells #[] 5)).grownBy w3 (some w2.heap.size) := hg3
        have hb3 : Below w.heap.size w w3 := (hb2.alloc hz2 _).grown hg3' (by simp; omega) (by intro g hg; injection hg with hg; omega)
        have hR3 := RdV.own ho3
        rw [List.nil_append] at hR3
        exact ⟨Or.inr (Or.inr ⟨by have := hn4.out; omega, HK.out, v3, rfl, by rw [HD.out]; exact hR3⟩), hb3⟩
    · have hno : ¬ okB l := fun h => he (HO.out.1 h)
      have e1 : (sealL (l.take n) == l) = false := by rw [beq_eq_false_iff_ne]; exact he
      have e2 : (sealL (l.take n) != l) = true := by rw [bne_iff_ne]; exact he
      have HNO := Lib.hid hno
      clear hno
      first
        | go_region_law (first
          | (refine step_ifT (by rfl) ?_; go_simp; go_at_call 15; refine Calls.mono (S1.out _ (by exact hB) (by exact R2.out.drew)) ?_; rintro e w2 ⟨r2, rfl, ho2, hb2'⟩; have hb2 : Below w.heap.size w w2 := ((Below.refl _ w).drew).trans hb2'; have z1 := run_conv_rd (P := Tryd.prog) w2 23 9 5 Tryd.underlying23 Tryd.underlying5 Tryd.underlying9 _ _ _ (RdV.own ho2); have z2 := run_conv_rd (P := Tryd.prog) w2 23 9 5 Tryd.underlying23 Tryd.underlying5 Tryd.underlying9 _ _ _ (HR.out.below' hb2 hB); rw [hn4.out] at z2; clear ho2 hb2')
          | fail)
        | fail
      all_goals
        go_wp2
        go_ret2
        exact ⟨Or.inr (Or.inl ⟨by have := hn4.out; omega, HNO.out, rfl⟩), hb2⟩
end Go.Proofs.YtclenafidfpinaaDoor
