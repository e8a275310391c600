/-
  The fault that the reader throws is caught; all lines of a row of tokens.
-/
import Derived.Shelf.Abstract
import Derived.WalkKit
import Derived.WalkSpells
import Derived.WalkLawsBesides
import Derived.BigQuiet
import Derived.Deep.QuietTactic
import Derived.Deep.LoopGhost
import Derived.Defers
import Derived.Recover
import Derived.WalkMore
import Derived.Test.YteccenlceofcfaaGreatDoorJj
namespace Go.Proofs
open Go.RowKit Go.Shelf

set_option maxRecDepth 100000
attribute [local go_sem] Oper.semAt_some

set_option maxHeartbeats 1000000 in
theorem catch_idle (p q : Addr) (w : World) :
    CallsD Tryz.prog 40 #[.pointer (some p), .pointer (some q)] .returning w fun e u' w' => e = .returned (.tuple #[]) ∧ u' = .returning ∧ w' = w := by
  refine callsD_of_wpS Tryz.func40 rfl fun c₀ cs hu => ?_
  apply wpS_seq
  apply wpS_region
  simp [wpOpsS, go_sem, recoverD, hu, Tryz.ntmps40, Exit.thenS]
  refine wpS_of_wp ?_
  go_wp2
  cases c₀
  simp_all [bodyPostS, results, Tryz.results40]
set_option maxHeartbeats 1000000 in
theorem catch_thrown (P Q : Nat) (v0 : Value) (a0 e0 a c : Int) (w : World) (hP : w.heap[P]? = some (.cells #[v0] 23 (0, 0))) (hQ : FB w Q a0 e0) (hPQ : P ≠ Q) :
    CallsD Tryz.prog 40 #[.pointer (some ⟨P, 0, none⟩), .pointer (some ⟨Q, 0, none⟩)] (.panicking [{ v := .iface 26 (.agg #[.int .i64 a, .int .i64 c]), recovered := false }]) w fun e u' w' =>
      e = .returned (.tuple #[]) ∧ u' = .panicking [{ v := .iface 26 (.agg #[.int .i64 a, .int .i64 c]), recovered := true }] ∧ w'.heap[P]? = some (.cells #[.slice none 0 0] 23 (0, 0)) ∧ FB w' Q a c ∧ Mv w w' P (some Q) := by
  refine callsD_of_wpS Tryz.func40 rfl fun c₀ cs hu => ?_
  apply wpS_seq
  apply wpS_region
  simp [wpOpsS, go_sem, recoverD, hu, Tryz.ntmps40, Exit.thenS]
  refine wpS_of_wp ?_
  have p0 : w.cell? ⟨P, 0, none⟩ = some v0 := by simp [World.cell?, hP]
  have p1 : w.frozen? ⟨P, 0, none⟩ = false := by simp [World.frozen?, hP]
  obtain ⟨q0, q1, q2, q3⟩ := hQ.cells
  have hta : ∀ (v : Value) (w : World), (Instr.typeAssert (.iface 26 v) 20 26 true).run Tryz.prog w = .ok (.tuple #[v, .bool true]) w := fun _ _ => by kernel_rfl
  have hPl : P < w.heap.size := (Array.getElem?_eq_some_iff.1 hP).1
  have hQl := hQ.lt
  go_wp2
  have hP2 : (w.alloc (.cells #[.int .i64 a, .int .i64 c] 26)).heap[P]? = some (.cells #[v0] 23 (0, 0)) := (Below.heap_alloc _ _ _ hPl).trans hP
  have hQ2 : FB (w.alloc (.cells #[.int .i64 a, .int .i64 c] 26)) Q a0 e0 := hQ.allocs _
  have hN : FB (w.alloc (.cells #[.int .i64 a, .int .i64 c] 26)) w.heap.size a c := FB.new _ _ _
  have hM : Mv w (w.alloc (.cells #[.int .i64 a, .int .i64 c] 26)) P (some Q) := (Mv.refl _ _ _).alloc _
  have hNP : w.heap.size ≠ P := by omega
  have hNQ : w.heap.size ≠ Q := by omega
  have hQP : Q ≠ P := fun e => hPQ e.symm
  have hPN : P ≠ w.heap.size := by omega
  have hQN : Q ≠ w.heap.size := by omega
  generalize w.alloc (.cells #[.int .i64 a, .int .i64 c] 26) = W at *
  generalize w.heap.size = N at *
  have p0 : W.cell? ⟨P, 0, none⟩ = some v0 := by simp [World.cell?, hP2]
  have p1 : W.frozen? ⟨P, 0, none⟩ = false := by simp [World.frozen?, hP2]
  obtain ⟨q0, q1, q2, q3⟩ := hQ2.cells
  obtain ⟨n0, n1, n2, n3⟩ := hN.cells
  have hfin : ((((W.setCell ⟨P, 0, none⟩ (.slice none 0 0)).setCell ⟨Q, 0, none⟩ (.int .i64 a)).setCell ⟨Q, 1, none⟩ (.int .i64 c)).drew).heap[P]? = some (.cells #[.slice none 0 0] 23 (0, 0)) ∧ FB ((((W.setCell ⟨P, 0, none⟩ (.slice none 0 0)).setCell ⟨Q, 0, none⟩ (.int .i64 a)).setCell ⟨Q, 1, none⟩ (.int .i64 c)).drew) Q a c ∧ Mv w ((((W.setCell ⟨P, 0, none⟩ (.slice none 0 0)).setCell ⟨Q, 0, none⟩ (.int .i64 a)).setCell ⟨Q, 1, none⟩ (.int .i64 c)).drew) P (some Q) := by
    have h1 : ((((W.setCell ⟨P, 0, none⟩ (.slice none 0 0)).setCell ⟨Q, 0, none⟩ (.int .i64 a)).setCell ⟨Q, 1, none⟩ (.int .i64 c))).heap[P]? = some (.cells #[.slice none 0 0] 23 (0, 0)) := by
      rw [heap_set_other _ hPQ, heap_set_other _ hPQ]
      exact cells_setS hP2
    have h2 : FB (((W.setCell ⟨P, 0, none⟩ (.slice none 0 0)).setCell ⟨Q, 0, none⟩ (.int .i64 a)).setCell ⟨Q, 1, none⟩ (.int .i64 c)) Q a c := FB.set (show FB (W.setCell ⟨P, 0, none⟩ (.slice none 0 0)) Q a0 e0 from (heap_set_other _ hQP _ _).trans hQ2) a c
    refine ⟨h1, h2, ?_⟩
    refine ⟨hM.os, hM.tape, hM.output, by simpa using hM.size, fun k k1 k2 k3 => ?_⟩
    have k4 : k ≠ Q := fun e => k3 (by rw [e])
    exact (heap_set_other _ k4 _ _).trans ((heap_set_other _ k4 _ _).trans ((heap_set_other _ k2 _ _).trans (hM.block k k1 k2 k3)))
  go_region
  all_goals exact ⟨rfl, _, rfl, .tuple #[], by simp [results, Tryz.f40], rfl, rfl, hfin⟩
end Go.Proofs
