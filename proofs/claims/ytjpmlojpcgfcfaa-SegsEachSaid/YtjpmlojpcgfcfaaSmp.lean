/- A map from segments' numbers to what is kept of them, read as a function: look up, store, delete. Conditions: none. -/
import Derived.Test.YtjpmlojpcgfcfaaRows
import Derived.WalkKit
import Derived.ProofKit
import Derived.OpenShut
import Derived.WalkLawsBesides
import Derived.Lib.Hide
import Derived.DeepKeys4
import Derived.Maps.OwnSet
import Derived.Maps.OwnOps
import Derived.Maps.Views
namespace Go.Proofs.Ytjpmlojpcgfcfaa
open Go.ChangeShapes Go.WideShapes Go.ChangeAt Go.RowKit Go.Maps
set_option linter.unusedSimpArgs false
set_option linter.unusedVariables false
structure Ent where
  st : Int
  us : Int
  ep : Int
def entV (x : Ent) : Value := .agg #[.int .i64 x.st, .int .i64 x.us, .int .i64 x.ep]
def entD (x : Ent) : DataW Unit := .agg [.lit (.int .i64 x.st), .lit (.int .i64 x.us), .lit (.int .i64 x.ep)]
def entR : Value → Option (DataW Unit × List MemPlace)
  | .agg ⟨[.int .i64 a, .int .i64 b, .int .i64 c]⟩ => some (entD ⟨a, b, c⟩, [])
  | _ => none
theorem entR_v (x : Ent) : entR (entV x) = some (entD x, []) := rfl
theorem entR_inv {v : Value} {d : DataW Unit} {ps : List MemPlace} (h : entR v = some (d, ps)) : ∃ x, v = entV x ∧ d = entD x := by
  unfold entR at h
  split at h
  · injection h with h
    injection h with h1 h2
    exact ⟨⟨_, _, _⟩, rfl, h1.symm⟩
  · cases h
theorem entD_inj {x y : Ent} (h : entD x = entD y) : x = y := by
  obtain ⟨a, b, c⟩ := x
  obtain ⟨a', b', c'⟩ := y
  simp only [entD, DataW.agg.injEq, List.cons.injEq, DataW.lit.injEq, Lit.int.injEq] at h
  obtain ⟨⟨_, rfl⟩, ⟨_, rfl⟩, ⟨_, rfl⟩, _⟩ := h
  rfl
theorem laidS : laidOutB Try.prog = true := by kernel_rfl
theorem keyLawS : WideMaps.KeyLaw Try.prog 73 := deep_law_laid laidS (m := 3) (by omega) (of_decide_eq_true (by kernel_rfl)) (by kernel_rfl) (by kernel_rfl)
theorem keyedS : Keyed Try.prog 73 := Keyed.of_law keyLawS
def keyV (k : Int) : Value := .agg #[.int .i64 k]
def kl (k : Int) : Lit := .string (keyBytes [.int .i64 k])
/-- a struct of one whole number as a key, in any program -/
theorem kl_gen {P : Program} {t i : TypeId} {f : Field} (hu : P.underlying t = some (.struct #[f])) (hf : f.type = i) (ho : f.offset = 0) (hn : (f.name != "_") = true) (hi : P.underlying i = some (.int .i64)) (hk : P.keyType t = true) (hc : P.cellsOf t = 1) (hci : P.cellsOf i = 1) (m : Nat) (hm : P.types.size = m + 1)
    (k : Int) (hw : (Lit.int .i64 k).wf = true) : keyOf P t (keyV k) = some (kl k) := by
  unfold keyOf keyV kl
  rw [hu]
  simp [hk, Value.formed, hu, hc, hm, Program.keyLits, Value.cells, hf, ho, hn, hi, hci, hw]
theorem kl_of (k : Int) (hw : (Lit.int .i64 k).wf = true) : keyOf Try.prog 73 (keyV k) = some (kl k) := by
  have hpos : 0 < Try.prog.types.size := of_decide_eq_true (by kernel_rfl)
  obtain ⟨m, hm⟩ := Nat.exists_eq_succ_of_ne_zero (Nat.pos_iff_ne_zero.1 hpos)
  exact kl_gen Try.underlying73 rfl rfl (by decide) Try.underlying3 (by kernel_rfl) (by kernel_rfl) (by kernel_rfl) m hm k hw
theorem kl_ne {k j : Int} (hk : (Lit.int .i64 k).wf = true) (hj : (Lit.int .i64 j).wf = true) (h : k ≠ j) : kl k ≠ kl j := fun e => by
  have h1 := kl_of k hk
  have h2 := kl_of j hj
  rw [e] at h1
  have := keyedS.inj h1 h2
  injection this with this
  injection this with this
  injection this with this
  injection this with _ this
  exact h this
def MBox (w : World) (b m : Nat) (f : Int → Ent) : Prop := ∃ D : DataW Unit, w.ownsMap Try.prog 73 entR b m D ∧ IsMap D ∧ ∀ k, (Lit.int .i64 k).wf = true → D.atKey (kl k) (entD ⟨0, 0, 0⟩) = entD (f k)
theorem zeroS (w : World) : (zeroValue 63).run Try.prog w = .ok (entV ⟨0, 0, 0⟩) w := by kernel_rfl
theorem MBox.new (w : World) : MBox (w.alloc (.map #[] 0)) w.heap.size 0 (fun _ => ⟨0, 0, 0⟩) := by
  refine ⟨_, World.ownsMap_made w _ _ _, ⟨[], rfl⟩, fun k hk => rfl⟩
theorem MBox.lt {w : World} {b m : Nat} {f : Int → Ent} (h : MBox w b m f) : b < w.heap.size := h.choose_spec.1.lt
theorem MBox.look {w : World} {b m : Nat} {f : Int → Ent} (h : MBox w b m f) (k : Int) (hk : (Lit.int .i64 k).wf = true) :
    (Instr.lookup 57 (.map (some b)) (keyV k) false).run Try.prog w = .ok (entV (f k)) w := by
  obtain ⟨D, h1, _, h3⟩ := h
  obtain ⟨v, ps, hrun, hv⟩ := h1.lookup keyedS Try.underlying57 (zeroS w) (entR_v _) (kl_of k hk)
  obtain ⟨x, rfl, hx⟩ := entR_inv hv
  rw [h3 k hk] at hx
  rw [entD_inj hx]
  exact hrun
def put (f : Int → Ent) (k : Int) (x : Ent) : Int → Ent := fun j => if j = k then x else f j
theorem MBox.store {w : World} {b m : Nat} {f : Int → Ent} (h : MBox w b m f) (hm : m < 1000000) (k : Int) (hk : (Lit.int .i64 k).wf = true) (x : Ent) :
    ∃ w', (Instr.mapUpdate 57 (.map (some b)) (keyV k) (entV x)).run Try.prog w = .ok () w' ∧ MBox w' b (m + 1) (put f k x) ∧ w.grownBy w' (some b) := by
  obtain ⟨D, h1, hM, h3⟩ := h
  obtain ⟨w', hrun, h4, h5⟩ := h1.update keyedS Try.underlying57 (by unfold maxLen; omega) (kl_of k hk) (entR_v x)
  refine ⟨w', hrun, ⟨_, h4, hM.put _ _, fun j hj => ?_⟩, h5⟩
  unfold put
  by_cases e : j = k
  · subst e
    rw [if_pos rfl]
    exact atKey_put_same hM (keyedS.key (kl_of j hj)) _ _
  · rw [if_neg e, atKey_put_other (kl_ne hj hk e)]
    exact h3 j hj
theorem MBox.drop {w : World} {b m : Nat} {f : Int → Ent} (h : MBox w b m f) (k : Int) (hk : (Lit.int .i64 k).wf = true) (ty : TypeId) :
    ∃ w', (Builtin.delete_ #[57, 73] ty #[.map (some b), keyV k]).run Try.prog w = .ok (.tuple #[]) w' ∧ MBox w' b m (put f k ⟨0, 0, 0⟩) ∧ w.mapTurned w' b := by
  obtain ⟨D, h1, hM, h3⟩ := h
  obtain ⟨w', hrun, h4, h5⟩ := h1.drop keyedS Try.underlying57 (kl_of k hk) ty
  refine ⟨w', hrun, ⟨_, h4, hM.del _, fun j hj => ?_⟩, h5⟩
  unfold put
  by_cases e : j = k
  · subst e
    rw [if_pos rfl]
    exact atKey_del_same _
  · rw [if_neg e, atKey_del_other (kl_ne hj hk e)]
    exact h3 j hj
end Go.Proofs.Ytjpmlojpcgfcfaa
