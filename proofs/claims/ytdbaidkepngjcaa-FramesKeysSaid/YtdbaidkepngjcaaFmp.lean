/- A map from keys to frames' places, read as a function: look up, count, store, delete. Conditions: none. Made out of XSmp. -/
import Derived.Test.YtdbaidkepngjcaaRows
import Derived.WalkKit
import Derived.ProofKit
import Derived.OpenShut
import Derived.WalkLawsBesides
import Derived.Lib.Hide
import Derived.DeepKeys4
import Derived.Maps.OwnSet
import Derived.Maps.OwnOps
import Derived.Maps.Views
namespace Go.Proofs.Ytdbaidkepngjcaa
open Go.ChangeShapes Go.WideShapes Go.ChangeAt Go.RowKit Go.Maps
set_option linter.unusedSimpArgs false
set_option linter.unusedVariables false
def numR : Value → Option (DataW Unit × List MemPlace)
  | .int .i64 a => some (.lit (.int .i64 a), [])
  | _ => none
theorem numR_v (x : Int) : numR (.int .i64 x) = some (.lit (.int .i64 x), []) := rfl
theorem numR_inv {v : Value} {d : DataW Unit} {ps : List MemPlace} (h : numR v = some (d, ps)) : ∃ x, v = .int .i64 x ∧ d = .lit (.int .i64 x) := by
  unfold numR at h
  split at h
  · injection h with h
    injection h with h1 h2
    exact ⟨_, rfl, h1.symm⟩
  · cases h
theorem laidS : laidOutB Try.prog = true := by kernel_rfl
theorem keyLawS : WideMaps.KeyLaw Try.prog 69 := deep_law_laid laidS (m := 3) (by omega) (of_decide_eq_true (by kernel_rfl)) (by kernel_rfl) (by kernel_rfl)
theorem keyedS : Keyed Try.prog 69 := Keyed.of_law keyLawS
def keyV (k : Int) : Value := .agg #[.int .i64 k]
def kl (k : Int) : Lit := .string (keyBytes [.int .i64 k])
/-- a struct of one whole number as a key, in any program -/
theorem kl_gen {P : Program} {t i : TypeId} {f : Field} (hu : P.underlying t = some (.struct #[f])) (hf : f.type = i) (ho : f.offset = 0) (hn : (f.name != "_") = true) (hi : P.underlying i = some (.int .i64)) (hk : P.keyType t = true) (hc : P.cellsOf t = 1) (hci : P.cellsOf i = 1) (m : Nat) (hm : P.types.size = m + 1)
    (k : Int) (hw : (Lit.int .i64 k).wf = true) : keyOf P t (keyV k) = some (kl k) := by
  unfold keyOf keyV kl
  rw [hu]
  simp [hk, Value.formed, hu, hc, hm, Program.keyLits, Value.cells, hf, ho, hn, hi, hci, hw]
theorem kl_of (k : Int) (hw : (Lit.int .i64 k).wf = true) : keyOf Try.prog 69 (keyV k) = some (kl k) := by
  have hpos : 0 < Try.prog.types.size := of_decide_eq_true (by kernel_rfl)
  obtain ⟨m, hm⟩ := Nat.exists_eq_succ_of_ne_zero (Nat.pos_iff_ne_zero.1 hpos)
  exact kl_gen Try.underlying69 rfl rfl (by decide) Try.underlying3 (by kernel_rfl) (by kernel_rfl) (by kernel_rfl) m hm k hw
theorem kl_ne {k j : Int} (hk : (Lit.int .i64 k).wf = true) (hj : (Lit.int .i64 j).wf = true) (h : k ≠ j) : kl k ≠ kl j := fun e => by
  have h1 := kl_of k hk
  have h2 := kl_of j hj
  rw [e] at h1
  have := keyedS.inj h1 h2
  injection this with this
  injection this with this
  injection this with this
  injection this with _ this
  exact h this
/-- the map in block b holds f, and s keys -/
def MBox (w : World) (b m : Nat) (f : Int → Option Nat) (s : Nat) : Prop := ∃ D : DataW Unit, w.ownsMap Try.prog 69 numR b m D ∧ Tidy D ∧ Maps.size D = s ∧ ∀ k, (Lit.int .i64 k).wf = true → Maps.has D (kl k) = (f k).isSome ∧ D.atKey (kl k) (.lit (.int .i64 0)) = .lit (.int .i64 (((f k).getD 0 : Nat) : Int))
theorem zeroI (w : World) : (zeroValue 3).run Try.prog w = .ok (.int .i64 0) w := by kernel_rfl
theorem MBox.new (w : World) : MBox (w.alloc (.map #[] 0)) w.heap.size 0 (fun _ => none) 0 := by
  refine ⟨_, World.ownsMap_made w _ _ _, tidy_empty, rfl, fun k hk => ⟨rfl, rfl⟩⟩
theorem MBox.lt {w : World} {b m s : Nat} {f : Int → Option Nat} (h : MBox w b m f s) : b < w.heap.size := h.choose_spec.1.lt
theorem MBox.look {w : World} {b m s : Nat} {f : Int → Option Nat} (h : MBox w b m f s) (k : Int) (hk : (Lit.int .i64 k).wf = true) :
    (Instr.lookup 53 (.map (some b)) (keyV k) true).run Try.prog w = .ok (.tuple #[.int .i64 (((f k).getD 0 : Nat) : Int), .bool (f k).isSome]) w := by
  obtain ⟨D, h1, _, _, h3⟩ := h
  obtain ⟨v, ps, hrun, hv⟩ := h1.look_ok keyedS Try.underlying53 (zeroI w) (numR_v _) (kl_of k hk)
  obtain ⟨x, rfl, hx⟩ := numR_inv hv
  rw [(h3 k hk).2] at hx
  injection hx with hx
  injection hx with _ hx
  rw [(h3 k hk).1, ← hx] at hrun
  exact hrun
theorem MBox.len {w : World} {b m s : Nat} {f : Int → Option Nat} (h : MBox w b m f s) (ty : TypeId) : (Builtin.len_ #[53] ty #[.map (some b)]).run Try.prog w = .ok (.int .i64 (s : Nat)) w := by
  obtain ⟨D, h1, _, h2, _⟩ := h
  rw [← h2]
  exact h1.len Try.underlying53 ty
def mset (f : Int → Option Nat) (k : Int) (x : Option Nat) : Int → Option Nat := fun j => if j = k then x else f j
theorem MBox.store {w : World} {b m s : Nat} {f : Int → Option Nat} (h : MBox w b m f s) (hm : m < 1000000) (k : Int) (hk : (Lit.int .i64 k).wf = true) (hn : f k = none) (i : Nat) :
    ∃ w', (Instr.mapUpdate 53 (.map (some b)) (keyV k) (.int .i64 (i : Nat))).run Try.prog w = .ok () w' ∧ MBox w' b (m + 1) (mset f k (some i)) (s + 1) ∧ w.mapTurned w' b := by
  obtain ⟨D, h1, hT, hs, h3⟩ := h
  obtain ⟨w', hrun, h4, h5⟩ := h1.store keyedS Try.underlying53 (by unfold maxLen; omega) (kl_of k hk) (numR_v ((i : Nat) : Int))
  refine ⟨w', hrun, ⟨_, h4, hT.put (keyedS.key (kl_of k hk)) _, ?_, fun j hj => ?_⟩, h5⟩
  · rw [size_put hT, (h3 k hk).1, hn, hs]
    rfl
  · by_cases e : j = k
    · subst e
      unfold mset
      rw [if_pos rfl]
      exact ⟨has_put_same hT.isMap (keyedS.key (kl_of j hj)) _, atKey_put_same hT.isMap (keyedS.key (kl_of j hj)) _ _⟩
    · unfold mset
      rw [if_neg e, has_put_other (kl_ne hj hk e), atKey_put_other (kl_ne hj hk e)]
      exact h3 j hj
theorem MBox.drop {w : World} {b m s : Nat} {f : Int → Option Nat} (h : MBox w b m f s) (k : Int) (hk : (Lit.int .i64 k).wf = true) (hn : (f k).isSome = true) (ty : TypeId) :
    ∃ w', (Builtin.delete_ #[53, 69] ty #[.map (some b), keyV k]).run Try.prog w = .ok (.tuple #[]) w' ∧ MBox w' b m (mset f k none) (s - 1) ∧ w.mapTurned w' b := by
  obtain ⟨D, h1, hT, hs, h3⟩ := h
  obtain ⟨w', hrun, h4, h5⟩ := h1.drop keyedS Try.underlying53 (kl_of k hk) ty
  refine ⟨w', hrun, ⟨_, h4, hT.del _, ?_, fun j hj => ?_⟩, h5⟩
  · have := size_del (k := kl k) hT
    rw [(h3 k hk).1, hn, hs] at this
    simp at this
    omega
  · by_cases e : j = k
    · subst e
      unfold mset
      rw [if_pos rfl]
      exact ⟨has_del_same, atKey_del_same _⟩
    · unfold mset
      rw [if_neg e, has_del_other (kl_ne hj hk e), atKey_del_other (kl_ne hj hk e)]
      exact h3 j hj
theorem MBox.keep {w w' : World} {b m s : Nat} {f : Int → Option Nat} (h : MBox w b m f s) (hk : w'.heap[b]? = w.heap[b]?) : MBox w' b m f s := by
  obtain ⟨D, ⟨es, clock, h1, h4⟩, h2, h3⟩ := h
  exact ⟨D, ⟨es, clock, hk.trans h1, h4⟩, h2, h3⟩
end Go.Proofs.Ytdbaidkepngjcaa
