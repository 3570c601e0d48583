/- Slices that read as lists: what append, copy, make, a conversion to a string and an index do with them; and the last step of a law's row where the call has only made memory. Conditions: none of its own. -/
import Derived.Test.YtlbodandidopfaaRows
import Derived.WalkKit
import Derived.ProofKit
import Derived.OpenShut
import Derived.WalkLawsBesides
import Derived.Lib.Hide
import Derived.Lib.BufferRead
import Derived.Laws.CopyOwn
import Derived.Laws.BytesArg
import Derived.Maps.AppendAt
import Derived.ArgAppend
import Derived.Deep.AppendLies
import Derived.Deep.Draws
import Derived.Deep.QuietTactic
import Derived.BigQuiet
import Derived.Maps.RangeWalk
namespace Go.Proofs.Ytlbodandidopfaa
open Go.ChangeShapes Go.WideShapes Go.ChangeAt Go.RowKit
set_option linter.unusedSimpArgs false
set_option linter.unusedVariables false

/-! ## a slice of one-cell elements that reads as a list -/
def RdV (w : World) (B : Nat) (v : Value) (xs : List Value) : Prop :=
  ∃ A c, v = .slice A xs.length c ∧ xs.length ≤ c ∧ c ≤ maxLen ∧
    (0 < xs.length → ∃ b off, A = some ⟨b, off, none⟩ ∧ b < B ∧ ∀ j u, xs[j]? = some u → w.cell? ⟨b, off + j, none⟩ = some u)

def bv (l : List UInt8) : List Value := l.map fun b => .int .u8 (b.toNat : Int)
theorem bv_length (l : List UInt8) : (bv l).length = l.length := by simp [bv]
theorem bv_append (l r : List UInt8) : bv (l ++ r) = bv l ++ bv r := by simp [bv]
theorem bv_get (l : List UInt8) (j : Nat) : (bv l)[j]? = l[j]?.map fun b => .int .u8 (b.toNat : Int) := by simp [bv]
theorem bv_one (l : List UInt8) : ∀ u ∈ bv l, u.oneCell' = true := by
  intro u hu
  obtain ⟨b, _, rfl⟩ := List.mem_map.1 hu
  rfl
theorem bv_inj {l r : List UInt8} (h : bv l = bv r) : l = r := by
  induction l generalizing r with
  | nil => cases r with
    | nil => rfl
    | cons x r => simp [bv] at h
  | cons x l ih =>
    cases r with
    | nil => simp [bv] at h
    | cons y r =>
      simp only [bv, List.map_cons, List.cons.injEq, Value.int.injEq, true_and] at h
      obtain ⟨h1, h2⟩ := h
      rw [ih (r := r) h2, UInt8.toNat_inj.1 (Int.ofNat_inj.1 h1)]

section
variable {w w' : World} {B B' : Nat} {v : Value} {xs : List Value}
theorem RdV.keep (h : RdV w B v xs) (hk : ∀ k, k < B → w'.heap[k]? = w.heap[k]?) : RdV w' B v xs := by
  obtain ⟨A, c, h1, h2, h3, h4⟩ := h
  refine ⟨A, c, h1, h2, h3, fun hn => ?_⟩
  obtain ⟨b, off, e, hb, hc⟩ := h4 hn
  exact ⟨b, off, e, hb, fun j u hu => (World.cell?_of_block (a := ⟨b, off + j, none⟩) (hk b hb)).trans (hc j u hu)⟩
theorem RdV.more (h : RdV w B v xs) (hB : B ≤ B') : RdV w B' v xs := by
  obtain ⟨A, c, h1, h2, h3, h4⟩ := h
  refine ⟨A, c, h1, h2, h3, fun hn => ?_⟩
  obtain ⟨b, off, e, hb, hc⟩ := h4 hn
  exact ⟨b, off, e, by omega, hc⟩
theorem RdV.below (h : RdV w B v xs) (hb : Below B w w') : RdV w' B v xs := h.keep hb.block
theorem RdV.below' (h : RdV w B v xs) (hb : Below B' w w') (hB : B ≤ B') : RdV w' B v xs := h.keep fun k hk => hb.block k (by omega)
theorem RdV.drew (h : RdV w B v xs) : RdV w.drew B v xs := h
theorem RdV.drewN (h : RdV w B v xs) (k : Nat) : RdV (w.drewN k) B v xs := h
theorem RdV.alloc (h : RdV w B v xs) (hB : B ≤ w.heap.size) (o : Obj) : RdV (w.alloc o) B v xs := h.keep fun k hk => Below.heap_alloc w o k (by omega)
theorem RdV.setCell (h : RdV w B v xs) {p : Addr} (hB : B ≤ p.block) (u : Value) : RdV (w.setCell p u) B v xs := h.keep fun k hk => Below.heap_setCell w p u k (by omega)
theorem RdV.grown {row : Option Nat} (h : RdV w B v xs) (hg : w.grownBy w' row) (hB : B ≤ w.heap.size) (hr : ∀ g, row = some g → B ≤ g) : RdV w' B v xs :=
  h.keep fun k hk => hg.block k (by omega) fun e => by have := hr _ e.symm; omega
theorem RdV.own {base : Nat} {e : TypeId} {n : Nat} (h : w.ownsRow base e 1 v n xs) : RdV w w.heap.size v xs := by
  have hl : xs.length = n := by have := h.1; omega
  subst hl
  rcases h.2 with ⟨rfl, h0⟩ | ⟨g, cap, cur, rfl, hb, hh, hnc, hcm, hcs, ht⟩
  · exact ⟨none, 0, by rw [h0], by omega, by unfold maxLen; omega, fun hn => by omega⟩
  · refine ⟨some ⟨g, 0, none⟩, cap, rfl, hnc, hcm, fun _ => ⟨g, 0, rfl, ?_, fun j u hu => ?_⟩⟩
    · rcases Nat.lt_or_ge g w.heap.size with h1 | h1
      · exact h1
      · rw [Array.getElem?_eq_none h1] at hh; cases hh
    · have := h.cells (g := g) rfl j u hu
      rwa [Addr.add_lit] at this
theorem own_form {base : Nat} {e : TypeId} {n : Nat} (h : w.ownsRow base e 1 v n xs) (hn : 0 < n) :
    ∃ g cap, v = .slice (some ⟨g, 0, none⟩) n cap ∧ base ≤ g ∧ g < w.heap.size ∧ n ≤ cap ∧ cap ≤ 9223372036854775807 := by
  obtain ⟨g, cap, rfl, h1, h2⟩ := h.form hn
  obtain ⟨A, c, e1, h3, h4, _⟩ := RdV.own h
  injection e1 with _ e2 e3
  subst e3
  unfold maxLen at h4
  exact ⟨g, cap, rfl, h1, h2, by omega, by omega⟩
/-- the cell at an index -/
theorem RdV.get {A : Option Addr} {n c : Nat} (h : RdV w B (.slice A n c) xs) {j : Nat} {u : Value} (hu : xs[j]? = some u) :
    ∃ b off, A = some ⟨b, off, none⟩ ∧ b < B ∧ w.cell? ⟨b, off + j, none⟩ = some u := by
  obtain ⟨A', c', h1, _, _, h4⟩ := h
  injection h1 with e1 e2 e3
  subst e1
  obtain ⟨b, off, e, hb, hc⟩ := h4 (by have := (List.getElem?_eq_some_iff.1 hu).1; omega)
  exact ⟨b, off, e, hb, hc j u hu⟩
theorem RdV.nil_ (w : World) (B : Nat) : RdV w B (.slice none 0 0) [] := ⟨none, 0, rfl, by simp, by unfold maxLen; omega, fun h => by simp at h⟩
theorem RdV.news {A : Option Addr} {n c : Nat} {ad : Addr} (h : RdV w B (.slice A n c) xs) (hA : A = some ad) : ∀ j u, xs[j]? = some u → w.cell? (ad.add j) = some u := by
  intro j u hu
  obtain ⟨b, off, e, _, hc⟩ := h.get hu
  subst hA
  injection e with e
  subst e
  rw [Addr.add_lit]
  exact hc
end

/-! ## the laws of the built-in operations over such slices -/
section
variable {P : Program} (w : World)

theorem run_append_rd (base : Nat) (t ty e : TypeId) (z : Value) (bytes : Nat) (ht : P.underlying t = some (.slice e)) (hi : (P.info? e).map (fun i => (i.zero, i.size, i.bytes)) = some (some z, 1, bytes))
    (hz1 : z.cells.size = 1) (v : Value) (n : Nat) (xs : List Value) (hown : w.ownsRow base e 1 v n xs) (x : Value) (B : Nat) (news : List Value) (hr : RdV w B x news) (h1 : ∀ u ∈ news, u.oneCell' = true)
    (hbytes : (n + news.length) * bytes ≤ 140737488355328) (hb1 : 0 < bytes) (hbase : base ≤ w.heap.size) :
    ∃ v' w', (Builtin.append_ #[t, t] ty #[v, x]).run P w = .ok v' w' ∧ w'.ownsRow base e 1 v' (n + news.length) (xs ++ news) ∧ w.grownBy w' v.ownBlock ∧ (v'.ownBlock = v.ownBlock ∨ v'.ownBlock = some w.heap.size) := by
  obtain ⟨i, hi1, hi2, hi3, hi4⟩ := info_parts hi
  have h63 : n + news.length ≤ maxLen := by
    unfold maxLen
    have : n + news.length ≤ (n + news.length) * bytes := Nat.le_mul_of_pos_right _ hb1
    omega
  obtain ⟨A, c, rfl, hc1, hc2, hc3⟩ := id hr
  rcases A with _ | ad
  · have hn : news = [] := by
      rcases Nat.eq_zero_or_pos news.length with h0 | h0
      · exact List.eq_nil_of_length_eq_zero h0
      · obtain ⟨b, off, h, _⟩ := hc3 h0; cases h
    subst hn
    have hrun : (Builtin.append_ #[t, t] ty #[v, .slice none 0 c]).run P w = .ok v w := by
      rcases hown.2 with ⟨rfl, rfl⟩ | ⟨g, cap, cur, rfl, _, _, hnc, _⟩
      · simp [Builtin.append_, run_underlying ht, sizeOf, typeInfo, hi1, Builtin.lenOf, Builtin.firstCells]
      · simp [Builtin.append_, run_underlying ht, sizeOf, typeInfo, hi1, Builtin.lenOf, Builtin.firstCells, hnc, storeCells]
    exact ⟨v, w, hrun, by simpa using hown, World.grownBy.refl w _, .inl rfl⟩
  · obtain ⟨v', w', hrun, h2, h3, _, h5⟩ := run_append_own_at (P := P) w base t ty e i z 1 bytes ht hi1 hi2 hi3 hi4 hz1 (by omega) v n xs hown ad news.length c news (by omega) (hr.news rfl) h1 h63 hbytes hbase
    exact ⟨v', w', hrun, h2, h3, h5⟩

theorem wpList_append_rd {ops : Array Oper} {rest : List Oper} {o : Oper} {a : Act} {Q : Exit → Act → World → Prop} (hgd : o.guard = none) (s x : Operand) (t : TypeId)
    (ho : o.op = .call { callee := .builtin .append, args := #[s, x], argTypes := #[t, t] })
    (base : Nat) (e : TypeId) (z : Value) (bytes : Nat) (ht : P.underlying t = some (.slice e)) (hi : (P.info? e).map (fun i => (i.zero, i.size, i.bytes)) = some (some z, 1, bytes))
    (hz1 : z.cells.size = 1) (v : Value) (n : Nat) (xs : List Value) (hs : a.eval s = v) (hown : w.ownsRow base e 1 v n xs) (xv : Value) (hx : a.eval x = xv) (B : Nat) (news : List Value) (hr : RdV w B xv news) (h1 : ∀ u ∈ news, u.oneCell' = true)
    (hbytes : (n + news.length) * bytes ≤ 140737488355328) (hb1 : 0 < bytes) (hbase : base ≤ w.heap.size)
    (h : ∀ v' w', w'.ownsRow base e 1 v' (n + news.length) (xs ++ news) → w.grownBy w' v.ownBlock → (v'.ownBlock = v.ownBlock ∨ v'.ownBlock = some w.heap.size) → wpList P ops Q rest (a.put o.dst v') w') : wpList P ops Q (o :: rest) a w := by
  refine wpList_plain hgd fun K hK => ?_
  obtain ⟨v', w', hrun, h2, h3, h4⟩ := run_append_rd (P := P) w base t o.type e z bytes ht hi hz1 v n xs hown xv B news hr h1 hbytes hb1 hbase
  unfold Oper.wp execOp
  simp only [ho, resolve, invoke, builtin, Sem.run_bind, Sem.run_pure, Result.andThen_ok, List.map_toArray, List.map_cons, List.map_nil, hs, hx, hrun]
  exact hK _ _ (h v' w' h2 h3 h4)

/-- an operation that nothing guards is carried out -/
theorem step_wanted {ops : Array Oper} {o : Oper} {a : Act} {K : Act → World → Prop} {Q : Exit → Act → World → Prop} {E : Prop} (hgd : o.guard = none) (h : Oper.wp P o a w K Q) :
    if Region.wanted o (yielded ops a.tmps) = true then Oper.wp P o a w K Q else E := by
  have hw : Region.wanted o (yielded ops a.tmps) = true := by simp [Region.wanted, hgd]
  rw [if_pos hw]
  exact h
/-- append as one step of a statement whose order is open -/
theorem step_append_rd {ops : Array Oper} {o : Oper} {a : Act} {K : Act → World → Prop} {Q : Exit → Act → World → Prop} {E : Prop} (hgd : o.guard = none) (s x : Operand) (t : TypeId)
    (ho : o.op = .call { callee := .builtin .append, args := #[s, x], argTypes := #[t, t] })
    (base : Nat) (e : TypeId) (z : Value) (bytes : Nat) (ht : P.underlying t = some (.slice e)) (hi : (P.info? e).map (fun i => (i.zero, i.size, i.bytes)) = some (some z, 1, bytes))
    (hz1 : z.cells.size = 1) (v : Value) (n : Nat) (xs : List Value) (hs : a.eval s = v) (hown : w.ownsRow base e 1 v n xs) (xv : Value) (hx : a.eval x = xv) (B : Nat) (news : List Value) (hr : RdV w B xv news) (h1 : ∀ u ∈ news, u.oneCell' = true)
    (hbytes : (n + news.length) * bytes ≤ 140737488355328) (hb1 : 0 < bytes) (hbase : base ≤ w.heap.size)
    (h : ∀ v' w', w'.ownsRow base e 1 v' (n + news.length) (xs ++ news) → w.grownBy w' v.ownBlock → (v'.ownBlock = v.ownBlock ∨ v'.ownBlock = some w.heap.size) → K (a.put o.dst v') w') :
    if Region.wanted o (yielded ops a.tmps) = true then Oper.wp P o a w K Q else E := by
  have hw : Region.wanted o (yielded ops a.tmps) = true := by simp [Region.wanted, hgd]
  rw [if_pos hw]
  obtain ⟨v', w', hrun, h2, h3, h4⟩ := run_append_rd (P := P) w base t o.type e z bytes ht hi hz1 v n xs hown xv B news hr h1 hbytes hb1 hbase
  unfold Oper.wp execOp
  simp only [ho, resolve, invoke, builtin, Sem.run_bind, Sem.run_pure, Result.andThen_ok, List.map_toArray, List.map_cons, List.map_nil, hs, hx, hrun]
  exact h v' w' h2 h3 h4

/-- append to a row without spare room -/
theorem run_append_full (t ty e : TypeId) (z : Value) (bytes : Nat) (ht : P.underlying t = some (.slice e)) (hi : (P.info? e).map (fun i => (i.zero, i.size, i.bytes)) = some (some z, 1, bytes))
    (hz1 : z.cells.size = 1) (g n : Nat) (olds : List Value) (B : Nat) (hr0 : RdV w B (.slice (some ⟨g, 0, none⟩) n n) olds) (hn0 : 0 < n) (hB : B ≤ w.heap.size) (x : Value) (B' : Nat) (news : List Value) (hr : RdV w B' x news) (h1 : ∀ u ∈ news, u.oneCell' = true)
    (hbytes : (n + news.length) * bytes ≤ 140737488355328) (hb1 : 0 < bytes) :
    ∃ v' w', (Builtin.append_ #[t, t] ty #[.slice (some ⟨g, 0, none⟩) n n, x]).run P w = .ok v' w' ∧ RdV w' w'.heap.size v' (olds ++ news) ∧ Below w.heap.size w w' := by
  obtain ⟨i, hi1, hi2, hi3, hi4⟩ := info_parts hi
  have h63 : n + news.length ≤ maxLen := by
    unfold maxLen
    have : n + news.length ≤ (n + news.length) * bytes := Nat.le_mul_of_pos_right _ hb1
    omega
  have hol : olds.length = n := by
    obtain ⟨A, c, h2, _⟩ := hr0
    injection h2 with _ h2 _
    exact h2.symm
  obtain ⟨A, c, rfl, hc1, hc2, hc3⟩ := id hr
  rcases Nat.eq_zero_or_pos news.length with h0 | h0
  · have hn : news = [] := List.eq_nil_of_length_eq_zero h0
    subst hn
    have hrun : (Builtin.append_ #[t, t] ty #[.slice (some ⟨g, 0, none⟩) n n, .slice A 0 c]).run P w = .ok (.slice (some ⟨g, 0, none⟩) n n) w := by
      rcases A with _ | ad
      · simp [Builtin.append_, run_underlying ht, sizeOf, typeInfo, hi1, Builtin.lenOf, Builtin.firstCells, storeCells]
      · have hfc := run_firstCells_some (P := P) w i.size 0 ad 0 c [] (by simp) (by simp)
        simp [Builtin.append_, run_underlying ht, sizeOf, typeInfo, hi1, Builtin.lenOf, hfc, storeCells]
    exact ⟨_, _, hrun, by simpa using hr0.more hB, Below.refl _ _⟩
  · obtain ⟨b, off, rfl, hb, hcell⟩ := hc3 h0
    obtain ⟨v', w', hrun, h2, h3⟩ := run_append_arg_grows (P := P) w t ty e i z 1 bytes ht hi1 hi2 hi3 hi4 hz1 (by omega) ⟨g, 0, none⟩ n n olds (by omega) (hr0.news rfl) ⟨b, off, none⟩ news.length c news (by omega) (hr.news rfl) (by omega) h63 hbytes
    exact ⟨v', w', hrun, RdV.own h2, (Below.refl _ _).grown h3 (Nat.le_refl _) (by intro g h; cases h)⟩

theorem wpList_append_full {ops : Array Oper} {rest : List Oper} {o : Oper} {a : Act} {Q : Exit → Act → World → Prop} (hgd : o.guard = none) (s x : Operand) (t : TypeId)
    (ho : o.op = .call { callee := .builtin .append, args := #[s, x], argTypes := #[t, t] })
    (e : TypeId) (z : Value) (bytes : Nat) (ht : P.underlying t = some (.slice e)) (hi : (P.info? e).map (fun i => (i.zero, i.size, i.bytes)) = some (some z, 1, bytes))
    (hz1 : z.cells.size = 1) (g n : Nat) (olds : List Value) (hs : a.eval s = .slice (some ⟨g, 0, none⟩) n n) (B : Nat) (hr0 : RdV w B (.slice (some ⟨g, 0, none⟩) n n) olds) (hn0 : 0 < n) (hB : B ≤ w.heap.size) (xv : Value) (hx : a.eval x = xv) (B' : Nat) (news : List Value) (hr : RdV w B' xv news) (h1 : ∀ u ∈ news, u.oneCell' = true)
    (hbytes : (n + news.length) * bytes ≤ 140737488355328) (hb1 : 0 < bytes)
    (h : ∀ v' w', RdV w' w'.heap.size v' (olds ++ news) → Below w.heap.size w w' → wpList P ops Q rest (a.put o.dst v') w') : wpList P ops Q (o :: rest) a w := by
  refine wpList_plain hgd fun K hK => ?_
  obtain ⟨v', w', hrun, h2, h3⟩ := run_append_full (P := P) w t o.type e z bytes ht hi hz1 g n olds B hr0 hn0 hB xv B' news hr h1 hbytes hb1
  unfold Oper.wp execOp
  simp only [ho, resolve, invoke, builtin, Sem.run_bind, Sem.run_pure, Result.andThen_ok, List.map_toArray, List.map_cons, List.map_nil, hs, hx, hrun]
  exact hK _ _ (h v' w' h2 h3)

/-! ## a row from block 'base' on, that reads as a list -/
def HeldR (w : World) (base : Nat) (v : Value) (xs : List Value) : Prop := RdV w w.heap.size v xs ∧ ∀ g, v.ownBlock = some g → base ≤ g ∧ g < w.heap.size
theorem HeldR.lt {w : World} {base : Nat} {v : Value} {xs : List Value} (h : HeldR w base v xs) : ∀ g, v.ownBlock = some g → base ≤ g ∧ g < w.heap.size := h.2
theorem HeldR.of_own {w : World} {base : Nat} {v : Value} {xs : List Value} {e : TypeId} {n : Nat} (h : w.ownsRow base e 1 v n xs) : HeldR w base v xs := ⟨RdV.own h, fun g hg => h.lt g hg⟩
theorem HeldR.kept {w w' : World} {base : Nat} {v : Value} {xs : List Value} {row : Option Nat} (h : HeldR w base v xs) (hg : w.grownBy w' row) (hne : v.ownBlock ≠ row) : HeldR w' base v xs := by
  obtain ⟨⟨A, c, rfl, h2, h3, h4⟩, h5⟩ := h
  have hs := hg.size
  refine ⟨⟨A, c, rfl, h2, h3, fun hn => ?_⟩, fun g hg2 => by have := h5 g hg2; omega⟩
  obtain ⟨b, off, rfl, hb, hc⟩ := h4 hn
  exact ⟨b, off, rfl, by omega, fun j u hu => (World.cell?_of_block (a := ⟨b, off + j, none⟩) (hg.block b hb (fun e => hne e))).trans (hc j u hu)⟩
theorem HeldR.alloc {w : World} {base : Nat} {v : Value} {xs : List Value} (h : HeldR w base v xs) (o : Obj) : HeldR (w.alloc o) base v xs := by
  refine ⟨(h.1.alloc (Nat.le_refl _) o).more (by simp), fun g hg => ?_⟩
  have := h.2 g hg
  simp
  omega

/-! ## of what was there one row alone may have turned -/
def Only (w w' : World) (v v' : Value) : Prop := w.grownBy w' v.ownBlock ∧ (v'.ownBlock = v.ownBlock ∨ ∃ g, v'.ownBlock = some g ∧ w.heap.size ≤ g)
theorem Only.refl (w : World) (v : Value) : Only w w v v := ⟨World.grownBy.refl w _, .inl rfl⟩
theorem Only.step {w wr w1 : World} {v o o' : Value} {X : Obj} (h : Only w wr v o) (hg : (wr.alloc X).grownBy w1 o.ownBlock) (hv : o'.ownBlock = o.ownBlock ∨ o'.ownBlock = some (wr.alloc X).heap.size) : Only w w1 v o' := by
  obtain ⟨h1, h2⟩ := h
  have hs : (wr.alloc X).heap.size = wr.heap.size + 1 := by simp
  have hsz := h1.size
  have hsz1 := hg.size
  refine ⟨⟨hg.os.trans h1.os, hg.tape.trans h1.tape, hg.output.trans h1.output, by omega, fun k hk hne => ?_⟩, ?_⟩
  · have e1 := hg.block k (by omega) (by
      rcases h2 with h2 | ⟨g, h2, h3⟩
      · rw [h2]; exact hne
      · rw [h2]; intro e; injection e with e; omega)
    rw [e1, Below.heap_alloc _ _ _ (by omega)]
    exact h1.block k hk hne
  · rcases hv with hv | hv
    · rcases h2 with h2 | ⟨g, h2, h3⟩
      · exact .inl (hv.trans h2)
      · exact .inr ⟨g, hv.trans h2, h3⟩
    · exact .inr ⟨_, hv, by omega⟩
theorem Only.below {w w' : World} {v v' : Value} {B : Nat} (h : Only w w' v v') (hB : B ≤ w.heap.size) (hv : ∀ g, v.ownBlock = some g → B ≤ g) : Below B w w' :=
  (Below.refl B w).grown h.1 hB hv

/-! ## a row without cells, that has just been laid; what becomes of it -/
def Emp (w : World) (e : TypeId) (k : Nat) : Prop := w.heap[k]? = some (.cells #[] e (0, 0))
theorem Emp.lt {w : World} {e : TypeId} {k : Nat} (h : Emp w e k) : k < w.heap.size := by
  rcases Nat.lt_or_ge k w.heap.size with h1 | h1
  · exact h1
  · unfold Emp at h; rw [Array.getElem?_eq_none h1] at h; cases h
theorem Emp.new (w : World) (e : TypeId) : Emp (w.alloc (.cells #[] e)) e w.heap.size := heap_alloc_new w _
theorem Emp.new' {w : World} {e : TypeId} {k : Nat} (h : w.heap.size = k) : Emp (w.alloc (.cells #[] e)) e k := by subst h; exact Emp.new w e
theorem Emp.drew {w : World} {e : TypeId} {k : Nat} (h : Emp w e k) : Emp w.drew e k := h
theorem Emp.alloc {w : World} {e : TypeId} {k : Nat} (h : Emp w e k) (o : Obj) : Emp (w.alloc o) e k := (Below.heap_alloc w o k h.lt).trans h
theorem Emp.below {w w' : World} {e : TypeId} {k B : Nat} (h : Emp w e k) (hb : Below B w w') (hk : k < B) : Emp w' e k := (hb.block k hk).trans h
theorem Emp.grown {w w' : World} {e : TypeId} {k : Nat} {row : Option Nat} (h : Emp w e k) (hg : w.grownBy w' row) (hk : some k ≠ row) : Emp w' e k := (hg.block k h.lt hk).trans h
theorem Emp.other {W w2 : World} {e : TypeId} {a b : Nat} {row : Option Nat} (ha : Emp W e a) (hb : Emp W e b) (hab : a ≠ b) (hg : W.grownBy w2 row) : (row = some a → Emp w2 e b) ∧ (row = some b → Emp w2 e a) :=
  ⟨fun h => hb.grown hg (by rw [h]; intro e; injection e with e; omega), fun h => ha.grown hg (by rw [h]; intro e; injection e with e; omega)⟩
theorem Emp.own {w : World} {e : TypeId} {k base : Nat} (h : Emp w e k) (hb : base ≤ k) : w.ownsRow base e 1 (.slice (some ⟨k, 0, none⟩) 0 0) 0 [] :=
  ⟨by simp, .inr ⟨k, 0, #[], rfl, hb, h, by omega, by unfold maxLen; omega, by simp, by simp⟩⟩

/-- one element appended: its cell has just been laid in a new block -/
theorem RdV.one (w : World) (x : Value) (t : TypeId) : RdV (w.alloc (.cells #[x] t)) (w.heap.size + 1) (.slice (some ⟨w.heap.size, 0, none⟩) 1 1) [x] := by
  refine ⟨_, 1, rfl, by simp, by unfold maxLen; omega, fun _ => ⟨w.heap.size, 0, rfl, by omega, fun j u hu => ?_⟩⟩
  have := cell_one_new w x t j u hu
  rwa [Addr.add_lit] at this

/-- a row that has just been laid -/
theorem RdV.lit (w : World) (cs : List Value) (t : TypeId) (h : cs.length ≤ 1000000) : RdV (w.alloc (.cells cs.toArray t)) (w.heap.size + 1) (.slice (some ⟨w.heap.size, 0, none⟩) cs.length cs.length) cs := by
  refine ⟨_, cs.length, rfl, by omega, by unfold maxLen; omega, fun _ => ⟨w.heap.size, 0, rfl, by omega, fun j u hu => ?_⟩⟩
  have := World.news_of_block (heap_alloc_new w (.cells cs.toArray t)) j u (by simpa using hu)
  rwa [Addr.add_lit] at this

theorem run_make_rd (base : Nat) (t e : TypeId) (z : Value) (bytes : Nat) (ht : P.underlying t = some (.slice e)) (hi : (P.info? e).map (fun i => (i.zero, i.size, i.bytes)) = some (some z, 1, bytes)) (hz1 : z.cells = #[z])
    (kl kc : IntKind) (n c : Nat) (hnc : n ≤ c) (hbytes : bytes * c ≤ 281474976710656) (hc : c ≤ maxLen) (hbase : base ≤ w.heap.size) :
    ∃ w', (Instr.makeSlice t (.int kl (n : Int)) (.int kc (c : Int))).run P w = .ok (.slice (some ⟨w.heap.size, 0, none⟩) n c) w' ∧ w'.ownsRow base e 1 (.slice (some ⟨w.heap.size, 0, none⟩) n c) n (List.replicate n z) ∧ w.grownBy w' none := by
  obtain ⟨i, hi1, hi2, hi3, hi4⟩ := info_parts hi
  have hb : (i.bytes : Int) * (c : Int) ≤ 281474976710656 := by
    rw [hi4]
    have h : ((bytes * c : Nat) : Int) ≤ 281474976710656 := by omega
    rwa [Int.natCast_mul] at h
  have hr := run_make (P := P) w t e i z ht hi1 hi2 kl kc n c (by omega) (by omega) hb (by unfold maxLen at hc; omega)
  rw [Int.toNat_natCast, Int.toNat_natCast, hi3, Nat.mul_one, hz1] at hr
  refine ⟨_, hr, ⟨by simp, .inr ⟨w.heap.size, c, madeCells #[z] c, rfl, hbase, (heap_alloc_new w _), hnc, hc, by simp [size_madeCells], ?_⟩⟩, World.grownBy_alloc w _ _⟩
  rw [toList_madeCells_one, List.take_replicate]
  congr 1
  omega

theorem wpList_make_rd {ops : Array Oper} {rest : List Oper} {o : Oper} {a : Act} {Q : Exit → Act → World → Prop} (hgd : o.guard = none) (l c' : Operand) (t : TypeId) (ho : o.op = Op.makeSlice t l c')
    (base : Nat) (e : TypeId) (z : Value) (bytes : Nat) (ht : P.underlying t = some (.slice e)) (hi : (P.info? e).map (fun i => (i.zero, i.size, i.bytes)) = some (some z, 1, bytes)) (hz1 : z.cells = #[z])
    (kl kc : IntKind) (n c : Nat) (N C : Int) (hl : a.eval l = .int kl N) (hc' : a.eval c' = .int kc C) (hN : N = n) (hC : C = c) (hnc : n ≤ c) (hbytes : bytes * c ≤ 281474976710656) (hc : c ≤ maxLen) (hbase : base ≤ w.heap.size)
    (h : ∀ w', w'.ownsRow base e 1 (.slice (some ⟨w.heap.size, 0, none⟩) n c) n (List.replicate n z) → w.grownBy w' none → wpList P ops Q rest (a.put o.dst (.slice (some ⟨w.heap.size, 0, none⟩) n c)) w') : wpList P ops Q (o :: rest) a w := by
  refine wpList_plain hgd fun K hK => ?_
  subst hN hC
  obtain ⟨w', hrun, h2, h3⟩ := run_make_rd (P := P) w base t e z bytes ht hi hz1 kl kc n c hnc hbytes hc hbase
  unfold Oper.wp
  simp [execOp, ho, hl, hc', hrun, Result.andThen]
  exact hK _ _ (h w' h2 h3)

theorem run_copy_rd (base : Nat) (t t' ty e : TypeId) (z : Value) (bytes : Nat) (ht : P.underlying t = some (.slice e)) (hi : (P.info? e).map (fun i => (i.zero, i.size, i.bytes)) = some (some z, 1, bytes))
    (g n c : Nat) (xs : List Value) (hown : w.ownsRow base e 1 (.slice (some ⟨g, 0, none⟩) n c) n xs) (x : Value) (B : Nat) (ys : List Value) (hr : RdV w B x ys) (hn : ys.length = n) (h1 : ∀ u ∈ ys, u.oneCell' = true) :
    ∃ w', (Builtin.copy_ #[t, t'] ty #[.slice (some ⟨g, 0, none⟩) n c, x]).run P w = .ok (goInt n) w' ∧ w'.ownsRow base e 1 (.slice (some ⟨g, 0, none⟩) n c) n ys ∧ w.grownBy w' (some g) := by
  obtain ⟨i, hi1, hi2, hi3, hi4⟩ := info_parts hi
  have hsz : (P.info? e).map (·.size) = some 1 := by rw [hi1]; simp [hi3]
  have hl := hown.1
  obtain ⟨A, c', rfl, hc1, hc2, hc3⟩ := id hr
  rcases hown.2 with ⟨h, _⟩ | ⟨g', cap, cur, hv, hb, hh, hnc, hcm, hcs, htk⟩
  · cases h
  injection hv with hv1 hv2 hv3
  injection hv1 with hv1
  injection hv1 with hv1 _ _
  subst hv1 hv3
  rcases Nat.eq_zero_or_pos n with h0 | h0
  · subst h0
    have hy : ys = [] := List.eq_nil_of_length_eq_zero hn
    subst hy
    have hx0 : xs = [] := List.eq_nil_of_length_eq_zero (by omega)
    subst hx0
    exact ⟨w, run_copy_none w t t' ty e (some ⟨g, 0, none⟩) A 0 c _ c' ht hsz (by simp), hown, World.grownBy.refl w _⟩
  · obtain ⟨b, off, rfl, hbB, hc⟩ := hc3 (by omega)
    have hrun := run_copy_row (P := P) w t t' ty e g 0 n c ⟨b, off, none⟩ ys.length c' cur e ys ht hsz hh (by rw [hn]; exact (Nat.min_self n).symm) (fun j u hu => by rw [Addr.add_lit]; exact hc j u hu) (by omega) h1
    rw [hn] at hrun ⊢
    refine ⟨_, hrun, ⟨by omega, .inr ⟨g, c, _, rfl, hb, setRow_heap w g cur _ e _ hh, hnc, hcm, ?_, ?_⟩⟩, ⟨rfl, rfl, rfl, by simp, fun k _ hk => setRow_other w g k _ (fun e => hk (by simp [e]))⟩⟩
    · simp
      omega
    · rw [Nat.mul_one]
      simp only [List.take_zero, List.nil_append]
      rw [List.take_append_of_le_length (by omega), List.take_of_length_le (by omega)]

theorem wpList_copy_rd {ops : Array Oper} {rest : List Oper} {o : Oper} {a : Act} {Q : Exit → Act → World → Prop} (hgd : o.guard = none) (d s : Operand) (t t' : TypeId)
    (ho : o.op = .call { callee := .builtin .copy, args := #[d, s], argTypes := #[t, t'] })
    (base : Nat) (e : TypeId) (z : Value) (bytes : Nat) (ht : P.underlying t = some (.slice e)) (hi : (P.info? e).map (fun i => (i.zero, i.size, i.bytes)) = some (some z, 1, bytes))
    (g n c : Nat) (xs : List Value) (hd : a.eval d = .slice (some ⟨g, 0, none⟩) n c) (hown : w.ownsRow base e 1 (.slice (some ⟨g, 0, none⟩) n c) n xs) (x : Value) (hx : a.eval s = x) (B : Nat) (ys : List Value) (hr : RdV w B x ys) (hn : ys.length = n) (h1 : ∀ u ∈ ys, u.oneCell' = true)
    (h : ∀ w', w'.ownsRow base e 1 (.slice (some ⟨g, 0, none⟩) n c) n ys → w.grownBy w' (some g) → wpList P ops Q rest (a.put o.dst (.int .i64 (n : Int))) w') : wpList P ops Q (o :: rest) a w := by
  refine wpList_plain hgd fun K hK => ?_
  obtain ⟨w', hrun, h2, h3⟩ := run_copy_rd (P := P) w base t t' o.type e z bytes ht hi g n c xs hown x B ys hr hn h1
  unfold Oper.wp execOp
  simp only [ho, resolve, invoke, builtin, Sem.run_bind, Sem.run_pure, Result.andThen_ok, List.map_toArray, List.map_cons, List.map_nil, hd, hx, hrun]
  exact hK _ _ (h w' h2 h3)

/-- a conversion of bytes to a string -/
theorem run_conv_rd (src dst e : TypeId) (hs : P.underlying src = some (.slice e)) (he : P.underlying e = some (.int .u8)) (hd : P.underlying dst = some .string) (v : Value) (B : Nat) (l : List UInt8) (hr : RdV w B v (bv l)) :
    (convert src dst v).run P w = .ok (.string ⟨l.toArray⟩) w := by
  obtain ⟨A, c, rfl, hc1, hc2, hc3⟩ := id hr
  rw [bv_length] at hc1 hc3 ⊢
  rcases Nat.eq_zero_or_pos l.length with h0 | h0
  · have hl : l = [] := List.eq_nil_of_length_eq_zero h0
    subst hl
    rcases A with _ | ad
    · exact Lib.run_convert_nil_bytes w src dst e c hs he hd
    · rw [run_convert_bytes_string w src dst e _ _ c hs he hd]
      have := run_bytesToString (P := P) w ad 0 c [] (by simpa using run_loadCells_list (P := P) w ad [] (by simp))
      exact this
  · obtain ⟨b, off, rfl, hbB, hc⟩ := hc3 h0
    rw [run_convert_bytes_arg (P := P) w src e hs he b off l.length c (l.map fun b => (b.toNat : Int)) (by simp) (fun i hi => by
      have := hc i (.int .u8 (l[i].toNat : Int)) (by rw [bv_get, List.getElem?_eq_getElem hi]; rfl)
      rw [this]
      simp [List.getD, List.getElem?_eq_getElem hi]) dst hd]
    simp only [strOfNums, List.map_map]
    congr 4
    exact (List.map_congr_left (fun b _ => by simp)).trans (List.map_id l)
end

/-! ## the last step of a law's row -/
section
variable {H : Type} {enc : TypeId × Value → H} {P : Program}
theorem trodAll_below {W W' : World} (hl : laidOutB P = true) (hb : Below W.heap.size W W') : ∀ (ts : List TypeId) (vs : List Value) (ds : List (DataW H)) (p : List MemPlace),
    ts.all (fun t => P.readableRec t && decide (t < P.types.size)) = true → DataW.TrodAll enc P W 0 (fun _ => true) true ts vs ds p → (∀ x ∈ p, x.block < W.heap.size) →
    DataW.TrodAll enc P W' 0 (fun b => decide (b < W.heap.size)) true ts vs ds p
  | [], vs, ds, p, _, h, _ => by
    obtain ⟨rfl, rfl, rfl⟩ := trodAll_nil h
    exact trodAll_mk0
  | t :: ts, vs, ds, p, hr, h, hlt => by
    obtain ⟨v, vs', d, ds', p1, q1, rfl, rfl, rfl, h0, h1⟩ := trodAll_cons h
    rw [List.all_cons, Bool.and_eq_true, Bool.and_eq_true] at hr
    exact ⟨p1, q1, Below.trod hl hr.1.1 (of_decide_eq_true hr.1.2) h0 hb (fun x hx => hlt x (by simp [hx])), trodAll_below hl hb ts vs' ds' q1 hr.2 h1 (fun x hx => hlt x (by simp [hx])), rfl⟩

theorem lt_of_cell {w : World} {a : Addr} {u : Value} (h : w.cell? a = some u) : a.block < w.heap.size := by
  rcases Nat.lt_or_ge a.block w.heap.size with h1 | h1
  · exact h1
  · simp [World.cell?, Array.getElem?_eq_none h1] at h

/-- a row of bytes that came in -/
theorem open_bytes {W : World} {base : Nat} {t e : TypeId} {v : Value} {d : DataW H} {p : List MemPlace} (ht : P.underlying t = some (.slice e)) (he : P.underlying e = some (.int .u8)) (hc : P.cellsOf e = 1)
    (hval : Value.okWide P W .any base t v) (h : DataW.Trod enc P W 0 (fun _ => true) true t v d p) : ∃ l : List UInt8, RdV W W.heap.size v (bv l) := by
  obtain ⟨a0, len, cap, rfl⟩ := okWide_slice ht hval
  obtain ⟨fuel, hf⟩ := h
  rcases open_ints ht he hc hf with ⟨hcs, _⟩ | ⟨a, len', cap', zs, hcs, _, hl, hm, hz, _, hcell, hwz⟩
  · simp [Value.cells] at hcs
    obtain ⟨rfl, rfl, rfl⟩ := hcs
    exact ⟨[], RdV.nil_ _ _⟩
  · simp [Value.cells] at hcs
    obtain ⟨rfl, rfl, rfl⟩ := hcs
    simp only [if_true] at hz
    refine ⟨(zs.take len).map (fun z => UInt8.ofNat z.toNat), some a, cap, ?_, ?_, hm, fun hn => ?_⟩
    · rw [bv_length, List.length_map, List.length_take, Nat.min_eq_left (by omega)]
    · rw [bv_length, List.length_map, List.length_take, Nat.min_eq_left (by omega)]; exact hl
    · rw [bv_length, List.length_map, List.length_take, Nat.min_eq_left (by omega)] at hn
      obtain ⟨b, off, spot⟩ := a
      have hspot : spot = none := by simpa [Addr.add] using World.cell?_spot (hcell 0 (by omega))
      subst hspot
      refine ⟨b, off, rfl, ?_, fun j u hu => ?_⟩
      · have := lt_of_cell (hcell 0 (by omega))
        rw [Addr.add_lit] at this
        exact this
      · rw [bv_get] at hu
        have hj : j < len := by
          rcases Nat.lt_or_ge j len with h1 | h1
          · exact h1
          · rw [List.getElem?_eq_none (by rw [List.length_map, List.length_take]; omega)] at hu
            simp at hu
        have hjz : j < zs.length := by omega
        rw [← Addr.add_lit, hcell j hjz, ← hu]
        have hwj := hwz zs[j] (List.getElem_mem hjz)
        have hrg : 0 ≤ zs[j] ∧ zs[j] ≤ 255 := by simpa [Lit.wf, IntKind.min, IntKind.max, IntKind.signed, IntKind.bits] using hwj
        simp [List.getD, List.getElem?_eq_getElem hjz, List.getElem?_map, List.getElem?_take, hj]
        omega

/-- A law that answers true and has only made memory. -/
theorem law_post {f : Func} {s : ChangeSpec} {fresh handsOn : Bool} {W W' : World} {args : Array Value} {ds gs : List (DataW H)} {before : List MemPlace} {bt : TypeId}
    (hW : DataW.Whole enc P f.params.toList s.vars false W args.toList ds gs before) (hvars : s.vars = [])
    (hl : laidOutB P = true) (hr : f.params.toList.all (fun t => P.readableRec t && decide (t < P.types.size)) = true)
    (hres : f.resultTypes = #[bt]) (hbt : P.underlying bt = some .bool)
    (hspec : s.fn H ds = { results := [.lit (.bool true)], args := ds }) (hb : Below W.heap.size W W') :
    s.post enc P f false fresh handsOn false W args (.bool true) W' := by
  have hlt : ∀ p ∈ before, p.block < W.heap.size := fun p hp => hW.lt p hp
  have hW' := hW
  obtain ⟨p, q, hA, hV, rfl, hz, hn⟩ := hW
  rw [hvars] at hV
  obtain ⟨rfl, rfl⟩ := trodVars_none hV
  have hspec' : s.fn H (ds ++ []) = { results := [.lit (.bool true)], args := ds } := by rw [List.append_nil]; exact hspec
  refine ⟨ds, [], p ++ [], [], p, [], hW', ?_, ?_, ?_, World.keptBut_mono (fun x hx => ⟨hx, by simpa using hx⟩) (hb.frame (· ∈ p ++ [])), fun h => by cases h⟩
  · rw [hspec', hres]
    exact trodAll_cons_mk (shut_bool hbt _) trodAll_mk0
  · rw [hspec']
    exact trodAll_below hl hb _ _ _ _ hr hA (fun x hx => hlt x (by simp [hx]))
  · rw [hspec', hvars]
    rfl
end
end Go.Proofs.Ytlbodandidopfaa
