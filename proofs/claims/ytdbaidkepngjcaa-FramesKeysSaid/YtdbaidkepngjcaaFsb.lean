/- The acts of a play of frames, as they came in. Conditions: none. -/
import Derived.Test.YtdbaidkepngjcaaAcm
import Derived.Test.YtdbaidkepngjcaaNum
namespace Go.Proofs.Ytdbaidkepngjcaa
open Go.ChangeShapes Go.WideShapes Go.ChangeAt Go.RowKit Go.Maps
set_option linter.unusedSimpArgs false
set_option linter.unusedVariables false
def FOk (x : List Value) : Prop := ∃ (a0 a1 a2 : Int) (b : Bool), x = [.int .i64 a0, .int .i64 a1, .int .i64 a2, .bool b] ∧ (Lit.int .i64 a1).wf = true ∧ (Lit.int .i64 a2).wf = true
theorem fok_of {fs : Array Field} {x : List Value} (hs : Try.prog.underlying 33 = some (.struct fs)) (hl : x.length = fs.size) (h : ∀ (i : Nat) (f : Field) (v : Value), fs[i]? = some f → x[i]? = some v → CellOk Try.prog f.type v) : FOk x := by
  rw [Try.underlying33] at hs
  injection hs with hs
  injection hs with hs
  subst hs
  match x, hl with
  | [v0, v1, v2, v3], _ =>
    obtain ⟨a0, rfl, w0⟩ := (h 0 _ v0 rfl rfl).1 .i64 Try.underlying3
    obtain ⟨a1, rfl, w1⟩ := (h 1 _ v1 rfl rfl).1 .i64 Try.underlying3
    obtain ⟨a2, rfl, w2⟩ := (h 2 _ v2 rfl rfl).1 .i64 Try.underlying3
    obtain ⟨b, rfl⟩ := (h 3 _ v3 rfl rfl).2 Try.underlying4
    exact ⟨a0, a1, a2, b, rfl, w1, w2⟩
theorem RdC.getF {C : Nat} {w : World} {A : Option Addr} {m c : Nat} {l : List (List Value)} (h : RdC 4 w C (.slice A m c) l) (hz : ∀ x ∈ l, FOk x) {i : Nat} (hi : i < l.length) :
    ∃ b off a0 a1 a2 bb, A = some ⟨b, off, none⟩ ∧ b < C ∧ (Lit.int .i64 a1).wf = true ∧ (Lit.int .i64 a2).wf = true ∧ ∀ w', Below C w w' → w'.cell? ⟨b, off + i * 4, none⟩ = some (.int .i64 a0) ∧ w'.cell? ⟨b, off + i * 4 + 1, none⟩ = some (.int .i64 a1) ∧ w'.cell? ⟨b, off + i * 4 + 2, none⟩ = some (.int .i64 a2) ∧ w'.cell? ⟨b, off + i * 4 + 3, none⟩ = some (.bool bb) := by
  obtain ⟨b, off, e, hb, hx, hc⟩ := h.get (x := l[i]) (List.getElem?_eq_getElem hi)
  obtain ⟨a0, a1, a2, bb, hl, w1, w2⟩ := hz _ (List.getElem_mem hi)
  rw [hl] at hc
  refine ⟨b, off, a0, a1, a2, bb, e, hb, w1, w2, fun w' hw => ⟨?_, ?_, ?_, ?_⟩⟩
  · exact (World.cell?_of_block (a := ⟨b, off + i * 4, none⟩) (hw.block b hb)).trans (hc 0 _ rfl)
  · exact (World.cell?_of_block (a := ⟨b, off + i * 4 + 1, none⟩) (hw.block b hb)).trans (hc 1 _ rfl)
  · exact (World.cell?_of_block (a := ⟨b, off + i * 4 + 2, none⟩) (hw.block b hb)).trans (hc 2 _ rfl)
  · exact (World.cell?_of_block (a := ⟨b, off + i * 4 + 3, none⟩) (hw.block b hb)).trans (hc 3 _ rfl)
end Go.Proofs.Ytdbaidkepngjcaa
