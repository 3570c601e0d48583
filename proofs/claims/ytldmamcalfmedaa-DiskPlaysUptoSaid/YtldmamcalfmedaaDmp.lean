/- A map from sectors to how many writes are pending there and which is the last, read as a function: look up, store, clear. Conditions: none. Made out of XSmp. -/
import Derived.Test.YtldmamcalfmedaaRows
import Derived.WalkKit
import Derived.ProofKit
import Derived.OpenShut
import Derived.WalkLawsBesides
import Derived.Lib.Hide
import Derived.DeepKeys4
import Derived.Maps.OwnSet
import Derived.Maps.OwnOps
import Derived.Maps.Views
namespace Go.Proofs.Ytldmamcalfmedaa
open Go.ChangeShapes Go.WideShapes Go.ChangeAt Go.RowKit Go.Maps Go.ChangeMaps
set_option linter.unusedSimpArgs false
set_option linter.unusedVariables false
structure Tal where
  cnt : Int
  last : Int
def talV (x : Tal) : Value := .agg #[.int .i64 x.cnt, .int .i64 x.last]
def talD (x : Tal) : DataW Unit := .agg [.lit (.int .i64 x.cnt), .lit (.int .i64 x.last)]
def talR : Value → Option (DataW Unit × List MemPlace)
  | .agg ⟨[.int .i64 a, .int .i64 b]⟩ => some (talD ⟨a, b⟩, [])
  | _ => none
theorem talR_v (x : Tal) : talR (talV x) = some (talD x, []) := rfl
theorem talR_inv {v : Value} {d : DataW Unit} {ps : List MemPlace} (h : talR v = some (d, ps)) : ∃ x, v = talV x ∧ d = talD x := by
  unfold talR at h
  split at h
  · injection h with h
    injection h with h1 h2
    exact ⟨⟨_, _⟩, rfl, h1.symm⟩
  · cases h
theorem talD_inj {x y : Tal} (h : talD x = talD y) : x = y := by
  obtain ⟨a, b⟩ := x
  obtain ⟨a', b'⟩ := y
  simp only [talD, DataW.agg.injEq, List.cons.injEq, DataW.lit.injEq, Lit.int.injEq] at h
  obtain ⟨⟨_, rfl⟩, ⟨_, rfl⟩, _⟩ := h
  rfl
theorem laidS : laidOutB Try.prog = true := by kernel_rfl
theorem keyLawS : WideMaps.KeyLaw Try.prog 74 := deep_law_laid laidS (m := 3) (by omega) (of_decide_eq_true (by kernel_rfl)) (by kernel_rfl) (by kernel_rfl)
theorem keyedS : Keyed Try.prog 74 := Keyed.of_law keyLawS
def keyV (k : Int) : Value := .agg #[.int .i64 k]
def kl (k : Int) : Lit := .string (keyBytes [.int .i64 k])
/-- a struct of one whole number as a key, in any program -/
theorem kl_gen {P : Program} {t i : TypeId} {f : Field} (hu : P.underlying t = some (.struct #[f])) (hf : f.type = i) (ho : f.offset = 0) (hn : (f.name != "_") = true) (hi : P.underlying i = some (.int .i64)) (hk : P.keyType t = true) (hc : P.cellsOf t = 1) (hci : P.cellsOf i = 1) (m : Nat) (hm : P.types.size = m + 1)
    (k : Int) (hw : (Lit.int .i64 k).wf = true) : keyOf P t (keyV k) = some (kl k) := by
  unfold keyOf keyV kl
  rw [hu]
  simp [hk, Value.formed, hu, hc, hm, Program.keyLits, Value.cells, hf, ho, hn, hi, hci, hw]
theorem kl_of (k : Int) (hw : (Lit.int .i64 k).wf = true) : keyOf Try.prog 74 (keyV k) = some (kl k) := by
  have hpos : 0 < Try.prog.types.size := of_decide_eq_true (by kernel_rfl)
  obtain ⟨m, hm⟩ := Nat.exists_eq_succ_of_ne_zero (Nat.pos_iff_ne_zero.1 hpos)
  exact kl_gen Try.underlying74 rfl rfl (by decide) Try.underlying3 (by kernel_rfl) (by kernel_rfl) (by kernel_rfl) m hm k hw
theorem kl_ne {k j : Int} (hk : (Lit.int .i64 k).wf = true) (hj : (Lit.int .i64 j).wf = true) (h : k ≠ j) : kl k ≠ kl j := fun e => by
  have h1 := kl_of k hk
  have h2 := kl_of j hj
  rw [e] at h1
  have := keyedS.inj h1 h2
  injection this with this
  injection this with this
  injection this with this
  injection this with _ this
  exact h this
def MBox (w : World) (b m : Nat) (f : Int → Tal) : Prop := ∃ D : DataW Unit, w.ownsMap Try.prog 74 talR b m D ∧ IsMap D ∧ ∀ k, (Lit.int .i64 k).wf = true → D.atKey (kl k) (talD ⟨0, 0⟩) = talD (f k)
theorem zeroS (w : World) : (zeroValue 72).run Try.prog w = .ok (talV ⟨0, 0⟩) w := by kernel_rfl
theorem MBox.new (w : World) : MBox (w.alloc (.map #[] 0)) w.heap.size 0 (fun _ => ⟨0, 0⟩) := by
  refine ⟨_, World.ownsMap_made w _ _ _, ⟨[], rfl⟩, fun k hk => rfl⟩
theorem MBox.lt {w : World} {b m : Nat} {f : Int → Tal} (h : MBox w b m f) : b < w.heap.size := h.choose_spec.1.lt
theorem MBox.look {w : World} {b m : Nat} {f : Int → Tal} (h : MBox w b m f) (k : Int) (hk : (Lit.int .i64 k).wf = true) :
    (Instr.lookup 68 (.map (some b)) (keyV k) false).run Try.prog w = .ok (talV (f k)) w := by
  obtain ⟨D, h1, _, h3⟩ := h
  obtain ⟨v, ps, hrun, hv⟩ := h1.lookup keyedS Try.underlying68 (zeroS w) (talR_v _) (kl_of k hk)
  obtain ⟨x, rfl, hx⟩ := talR_inv hv
  rw [h3 k hk] at hx
  rw [talD_inj hx]
  exact hrun
def put (f : Int → Tal) (k : Int) (x : Tal) : Int → Tal := fun j => if j = k then x else f j
theorem MBox.store {w : World} {b m : Nat} {f : Int → Tal} (h : MBox w b m f) (hm : m < 1000000) (k : Int) (hk : (Lit.int .i64 k).wf = true) (x : Tal) :
    ∃ w', (Instr.mapUpdate 68 (.map (some b)) (keyV k) (talV x)).run Try.prog w = .ok () w' ∧ MBox w' b (m + 1) (put f k x) ∧ w.grownBy w' (some b) := by
  obtain ⟨D, h1, hM, h3⟩ := h
  obtain ⟨w', hrun, h4, h5⟩ := h1.update keyedS Try.underlying68 (by unfold maxLen; omega) (kl_of k hk) (talR_v x)
  refine ⟨w', hrun, ⟨_, h4, hM.put _ _, fun j hj => ?_⟩, h5⟩
  unfold put
  by_cases e : j = k
  · subst e
    rw [if_pos rfl]
    exact atKey_put_same hM (keyedS.key (kl_of j hj)) _ _
  · rw [if_neg e, atKey_put_other (kl_ne hj hk e)]
    exact h3 j hj
theorem MBox.wipe {w : World} {b m : Nat} {f : Int → Tal} (h : MBox w b m f) (ty : TypeId) :
    ∃ w', (Builtin.clear_ #[68] ty #[.map (some b)]).run Try.prog w = .ok (.tuple #[]) w' ∧ MBox w' b m (fun _ => ⟨0, 0⟩) ∧ w.mapTurned w' b := by
  obtain ⟨D, ⟨es, clock, hb, F, hs, rfl⟩, hM, h3⟩ := h
  refine ⟨setBlock w b (.map #[] clock), ?_, ⟨_, ⟨#[], clock, heap_setBlock_same hb _, ?_, by simp, rfl⟩, ⟨[], rfl⟩, fun k hk => rfl⟩, ⟨es, clock, #[], clock, hb, rfl⟩⟩
  · simp [Builtin.clear_, run_underlying Try.underlying68, MapKept.run_getObj_map hb, MapKept.run_setObj_map _ hb, Result.andThen]
    rfl
  · exact ⟨by simp, MapKept.stamped_empty clock, by simp⟩
end Go.Proofs.Ytldmamcalfmedaa
