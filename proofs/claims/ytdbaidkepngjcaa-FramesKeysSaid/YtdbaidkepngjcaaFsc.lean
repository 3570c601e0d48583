/- A map from whole numbers to whole numbers, read as a function; a loop over it. Conditions: none. -/
import Derived.Test.YtdbaidkepngjcaaFrm
import Derived.Maps.RangeWalk
namespace Go.Proofs.Ytdbaidkepngjcaa
open Go.ChangeShapes Go.WideShapes Go.ChangeAt Go.RowKit Go.Maps
set_option linter.unusedSimpArgs false
set_option linter.unusedVariables false
theorem keyedI : Keyed Try.prog 3 := int_keyed Try.underlying3
theorem keyI (k : Int) (hw : (Lit.int .i64 k).wf = true) : keyOf Try.prog 3 (.int .i64 k) = some (.int .i64 k) := keyOf_int_mk Try.underlying3 hw
theorem elemI (x : Int) (hw : (Lit.int .i64 x).wf = true) : plainElem (H := Unit) Try.prog 3 (.int .i64 x) = some (.lit (.int .i64 x), []) := plainElem_int Try.underlying3 hw
theorem litI_ne {k j : Int} (h : k ≠ j) : Lit.int .i64 k ≠ Lit.int .i64 j := fun e => by injection e with _ e; exact h e
abbrev OwnI (w : World) (b m : Nat) (D : DataW Unit) : Prop := w.ownsMap Try.prog 3 (plainElem Try.prog 3) b m D
/-- the datum D tells what f tells -/
def TellsI (D : DataW Unit) (f : Int → Option Nat) (s : Nat) : Prop := Tidy D ∧ Maps.size D = s ∧ ∀ k, (Lit.int .i64 k).wf = true → Maps.has D (.int .i64 k) = (f k).isSome ∧ D.atKey (.int .i64 k) (.lit (.int .i64 0)) = .lit (.int .i64 (((f k).getD 0 : Nat) : Int))
def IBox (w : World) (b m : Nat) (f : Int → Option Nat) (s : Nat) : Prop := ∃ D, OwnI w b m D ∧ TellsI D f s
theorem IBox.new (w : World) : IBox (w.alloc (.map #[] 0)) w.heap.size 0 (fun _ => none) 0 :=
  ⟨_, World.ownsMap_made w _ _ _, tidy_empty, rfl, fun k hk => ⟨rfl, rfl⟩⟩
theorem IBox.lt {w : World} {b m s : Nat} {f : Int → Option Nat} (h : IBox w b m f s) : b < w.heap.size := h.choose_spec.1.lt
theorem zeroJ (w : World) : (zeroValue 3).run Try.prog w = .ok (.int .i64 0) w := by kernel_rfl
theorem IBox.look {w : World} {b m s : Nat} {f : Int → Option Nat} (h : IBox w b m f s) (k : Int) (hk : (Lit.int .i64 k).wf = true) :
    (Instr.lookup 35 (.map (some b)) (.int .i64 k) true).run Try.prog w = .ok (.tuple #[.int .i64 (((f k).getD 0 : Nat) : Int), .bool (f k).isSome]) w := by
  obtain ⟨D, h1, _, _, h3⟩ := h
  obtain ⟨v, ps, hrun, hv⟩ := h1.look_ok keyedI Try.underlying35 (zeroJ w) (elemI 0 rfl) (keyI k hk)
  obtain ⟨x, rfl, hx, _⟩ := plainElem_int_inv Try.underlying3 hv
  injection hx with hx _
  rw [(h3 k hk).2] at hx
  injection hx with hx
  injection hx with _ hx
  rw [(h3 k hk).1, ← hx] at hrun
  exact hrun
theorem IBox.len {w : World} {b m s : Nat} {f : Int → Option Nat} (h : IBox w b m f s) (ty : TypeId) : (Builtin.len_ #[35] ty #[.map (some b)]).run Try.prog w = .ok (.int .i64 (s : Nat)) w := by
  obtain ⟨D, h1, _, h2, _⟩ := h
  rw [← h2]
  exact h1.len Try.underlying35 ty
theorem IBox.store {w : World} {b m s : Nat} {f : Int → Option Nat} (h : IBox w b m f s) (hm : m < 1000000) (k : Int) (hk : (Lit.int .i64 k).wf = true) (hn : f k = none) (i : Nat) (hi : i < 1000000) :
    ∃ w', (Instr.mapUpdate 35 (.map (some b)) (.int .i64 k) (.int .i64 (i : Nat))).run Try.prog w = .ok () w' ∧ IBox w' b (m + 1) (mset f k (some i)) (s + 1) ∧ w.mapTurned w' b := by
  obtain ⟨D, h1, hT, hs, h3⟩ := h
  obtain ⟨w', hrun, h4, h5⟩ := h1.store keyedI Try.underlying35 (by unfold maxLen; omega) (keyI k hk) (elemI ((i : Nat) : Int) (by rw [wf_i64]; omega))
  refine ⟨w', hrun, ⟨_, h4, hT.put (keyedI.key (keyI k hk)) _, ?_, fun j hj => ?_⟩, h5⟩
  · rw [Go.Maps.size_put hT, (h3 k hk).1, hn, hs]
    rfl
  · by_cases e : j = k
    · subst e
      unfold mset
      rw [if_pos rfl]
      exact ⟨has_put_same hT.isMap (keyedI.key (keyI j hj)) _, atKey_put_same hT.isMap (keyedI.key (keyI j hj)) _ _⟩
    · unfold mset
      rw [if_neg e, has_put_other (litI_ne e), atKey_put_other (litI_ne e)]
      exact h3 j hj
theorem IBox.drop {w : World} {b m s : Nat} {f : Int → Option Nat} (h : IBox w b m f s) (k : Int) (hk : (Lit.int .i64 k).wf = true) (hn : (f k).isSome = true) (ty : TypeId) :
    ∃ w', (Builtin.delete_ #[35, 3] ty #[.map (some b), .int .i64 k]).run Try.prog w = .ok (.tuple #[]) w' ∧ IBox w' b m (mset f k none) (s - 1) ∧ w.mapTurned w' b := by
  obtain ⟨D, h1, hT, hs, h3⟩ := h
  obtain ⟨w', hrun, h4, h5⟩ := h1.drop keyedI Try.underlying35 (keyI k hk) ty
  refine ⟨w', hrun, ⟨_, h4, hT.del _, ?_, fun j hj => ?_⟩, h5⟩
  · have := size_del (k := Lit.int .i64 k) hT
    rw [(h3 k hk).1, hn, hs] at this
    simp at this
    omega
  · by_cases e : j = k
    · subst e
      unfold mset
      rw [if_pos rfl]
      exact ⟨has_del_same, atKey_del_same _⟩
    · unfold mset
      rw [if_neg e, has_del_other (litI_ne e), atKey_del_other (litI_ne e)]
      exact h3 j hj
theorem IBox.keep {w w' : World} {b m s : Nat} {f : Int → Option Nat} (h : IBox w b m f s) (hk : w'.heap[b]? = w.heap[b]?) : IBox w' b m f s := by
  obtain ⟨D, ⟨es, clock, h1, h4⟩, h2⟩ := h
  exact ⟨D, ⟨es, clock, hk.trans h1, h4⟩, h2⟩
/-- what comes out of a loop over it, f tells -/
theorem TellsI.entry {D : DataW Unit} {f : Int → Option Nat} {s : Nat} (h : TellsI D f s) {x c : Int} (hx : (Lit.int .i64 x).wf = true) (hl : Maps.has D (.int .i64 x) = true) (hc : ∀ zd, D.atKey (.int .i64 x) zd = .lit (.int .i64 c)) : ∃ j : Nat, f x = some j ∧ c = (j : Nat) := by
  obtain ⟨_, _, h3⟩ := h
  obtain ⟨h4, h5⟩ := h3 x hx
  rw [hl] at h4
  cases hf : f x with
  | none => rw [hf] at h4; cases h4
  | some j =>
    refine ⟨j, rfl, ?_⟩
    rw [hc, hf] at h5
    injection h5 with h5
    injection h5 with _ h5
end Go.Proofs.Ytdbaidkepngjcaa
