/-
  The examples at the head of each statement hold: shown answers true.
-/
import Derived.Shelf.Abstract
import Derived.Shelf.RegionOpen
import Derived.WalkKit
import Derived.WalkSpells
import Derived.WalkLawsBesides
import Derived.BigQuiet
import Derived.Deep.QuietTactic
import Derived.Deep.LoopGhost
import Derived.WalkMore
import Derived.Test.YteccenlceofcfaaGreatDoorXh
import Derived.Test.YteccenlceofcfaaGreatDoorJn
import Derived.Test.YteccenlceofcfaaGreatDoorJq
namespace Go.Proofs
open Go.RowKit Go.Shelf

set_option maxRecDepth 100000
attribute [local go_sem] Oper.semAt_some

theorem small (n : Nat) (h : n ≤ 100) : n ≤ maxLen := by unfold maxLen; omega
def Sa : ByteArray := ⟨#[97, 32, 62, 32, 98, 32, 59]⟩
theorem tellsSa0 : Tells 39 #[.string ⟨#[97, 32, 62, 32, 98, 32, 59]⟩, .bool true] 1 0 (1 : Nat) 97 ⟨#[]⟩ 0 0 :=
  first_bare2 ⟨#[97, 32, 62, 32, 98, 32, 59]⟩ 1 0 1 97 ⟨#[]⟩ 0 0 (small _ (by decide)) (by decide) (by decide) (by decide +kernel) (by decide +kernel) (by decide) (by decide) (by decide +kernel) (fun w => bare_ok ⟨#[97, 32, 62, 32, 98, 32, 59]⟩ 97 1 w (small _ (by decide)) (by decide +kernel) (by decide) (by decide) (by decide) (by decide +kernel))
theorem tellsSa2 : Tells 39 #[.string ⟨#[62, 32, 98, 32, 59]⟩, .bool false] 10 0 (1 : Nat) 0 ⟨#[]⟩ 0 0 :=
  first_sign ⟨#[62, 32, 98, 32, 59]⟩ false 0 (small _ (by decide)) (by decide) (by decide) (by decide +kernel) (by decide +kernel)
theorem tellsSa4 : Tells 39 #[.string ⟨#[98, 32, 59]⟩, .bool false] 1 0 (1 : Nat) 98 ⟨#[]⟩ 0 0 :=
  first_bare ⟨#[98, 32, 59]⟩ false 1 0 1 98 ⟨#[]⟩ 0 0 (small _ (by decide)) (by decide) (by decide) (by decide +kernel) (by decide +kernel) (by decide) (by decide) rfl (fun w => bare_ok ⟨#[98, 32, 59]⟩ 98 1 w (small _ (by decide)) (by decide +kernel) (by decide) (by decide) (by decide) (by decide +kernel))
theorem tellsSa6 : Tells 39 #[.string ⟨#[59]⟩, .bool false] 11 0 (1 : Nat) 0 ⟨#[]⟩ 0 0 :=
  first_sign ⟨#[59]⟩ false 1 (small _ (by decide)) (by decide) (by decide) (by decide +kernel) (by decide +kernel)
def toksSa : List Tok := [⟨1, 0, 1, 97, ⟨#[]⟩, 0⟩, ⟨10, 2, 1, 0, ⟨#[]⟩, 0⟩, ⟨1, 4, 1, 98, ⟨#[]⟩, 0⟩, ⟨11, 6, 1, 0, ⟨#[]⟩, 0⟩]
theorem runSa : Run Sa 0 true toksSa 0 0 :=
  Run.step (q := 0) (l := 1) (by decide +kernel) (by decide) tellsSa0 (by decide) (by decide) (Run.step (q := 2) (l := 1) (by decide +kernel) (by decide) tellsSa2 (by decide) (by decide) (Run.step (q := 4) (l := 1) (by decide +kernel) (by decide) tellsSa4 (by decide) (by decide) (Run.step (q := 6) (l := 1) (by decide +kernel) (by decide) tellsSa6 (by decide) (by decide) (Run.fin (by decide +kernel)))))
theorem goodSa : ∀ t, t ∈ toksSa → GoodT t := by
  intro t ht
  simp only [toksSa, List.mem_cons, List.not_mem_nil, or_false] at ht
  rcases ht with rfl | rfl | rfl | rfl <;> exact ⟨(fun e => absurd e (by decide)), by decide⟩
def Sb : ByteArray := ⟨#[94, 32, 97, 32, 62, 32, 98, 32, 59]⟩
theorem tellsSb0 : Tells 39 #[.string ⟨#[94, 32, 97, 32, 62, 32, 98, 32, 59]⟩, .bool true] 15 0 (1 : Nat) 0 ⟨#[]⟩ 0 0 :=
  first_sign ⟨#[94, 32, 97, 32, 62, 32, 98, 32, 59]⟩ true 5 (small _ (by decide)) (by decide) (by decide) (by decide +kernel) (by decide +kernel)
theorem tellsSb2 : Tells 39 #[.string ⟨#[97, 32, 62, 32, 98, 32, 59]⟩, .bool false] 1 0 (1 : Nat) 97 ⟨#[]⟩ 0 0 :=
  first_bare ⟨#[97, 32, 62, 32, 98, 32, 59]⟩ false 1 0 1 97 ⟨#[]⟩ 0 0 (small _ (by decide)) (by decide) (by decide) (by decide +kernel) (by decide +kernel) (by decide) (by decide) rfl (fun w => bare_ok ⟨#[97, 32, 62, 32, 98, 32, 59]⟩ 97 1 w (small _ (by decide)) (by decide +kernel) (by decide) (by decide) (by decide) (by decide +kernel))
theorem tellsSb4 : Tells 39 #[.string ⟨#[62, 32, 98, 32, 59]⟩, .bool false] 10 0 (1 : Nat) 0 ⟨#[]⟩ 0 0 :=
  first_sign ⟨#[62, 32, 98, 32, 59]⟩ false 0 (small _ (by decide)) (by decide) (by decide) (by decide +kernel) (by decide +kernel)
theorem tellsSb6 : Tells 39 #[.string ⟨#[98, 32, 59]⟩, .bool false] 1 0 (1 : Nat) 98 ⟨#[]⟩ 0 0 :=
  first_bare ⟨#[98, 32, 59]⟩ false 1 0 1 98 ⟨#[]⟩ 0 0 (small _ (by decide)) (by decide) (by decide) (by decide +kernel) (by decide +kernel) (by decide) (by decide) rfl (fun w => bare_ok ⟨#[98, 32, 59]⟩ 98 1 w (small _ (by decide)) (by decide +kernel) (by decide) (by decide) (by decide) (by decide +kernel))
theorem tellsSb8 : Tells 39 #[.string ⟨#[59]⟩, .bool false] 11 0 (1 : Nat) 0 ⟨#[]⟩ 0 0 :=
  first_sign ⟨#[59]⟩ false 1 (small _ (by decide)) (by decide) (by decide) (by decide +kernel) (by decide +kernel)
def toksSb : List Tok := [⟨15, 0, 1, 0, ⟨#[]⟩, 0⟩, ⟨1, 2, 1, 97, ⟨#[]⟩, 0⟩, ⟨10, 4, 1, 0, ⟨#[]⟩, 0⟩, ⟨1, 6, 1, 98, ⟨#[]⟩, 0⟩, ⟨11, 8, 1, 0, ⟨#[]⟩, 0⟩]
theorem runSb : Run Sb 0 true toksSb 0 0 :=
  Run.step (q := 0) (l := 1) (by decide +kernel) (by decide) tellsSb0 (by decide) (by decide) (Run.step (q := 2) (l := 1) (by decide +kernel) (by decide) tellsSb2 (by decide) (by decide) (Run.step (q := 4) (l := 1) (by decide +kernel) (by decide) tellsSb4 (by decide) (by decide) (Run.step (q := 6) (l := 1) (by decide +kernel) (by decide) tellsSb6 (by decide) (by decide) (Run.step (q := 8) (l := 1) (by decide +kernel) (by decide) tellsSb8 (by decide) (by decide) (Run.fin (by decide +kernel))))))
theorem goodSb : ∀ t, t ∈ toksSb → GoodT t := by
  intro t ht
  simp only [toksSb, List.mem_cons, List.not_mem_nil, or_false] at ht
  rcases ht with rfl | rfl | rfl | rfl | rfl <;> exact ⟨(fun e => absurd e (by decide)), by decide⟩
def Sc : ByteArray := ⟨#[91, 99, 45, 97, 93, 32, 62, 32, 59]⟩
theorem tellsSc0 : Tells 39 #[.string ⟨#[91, 99, 45, 97, 93, 32, 62, 32, 59]⟩, .bool true] 18 0 (1 : Nat) 0 ⟨#[]⟩ 0 0 :=
  first_sign ⟨#[91, 99, 45, 97, 93, 32, 62, 32, 59]⟩ true 8 (small _ (by decide)) (by decide) (by decide) (by decide +kernel) (by decide +kernel)
theorem tellsSc1 : Tells 39 #[.string ⟨#[99, 45, 97, 93, 32, 62, 32, 59]⟩, .bool false] 1 0 (1 : Nat) 99 ⟨#[]⟩ 0 0 :=
  first_bare ⟨#[99, 45, 97, 93, 32, 62, 32, 59]⟩ false 1 0 1 99 ⟨#[]⟩ 0 0 (small _ (by decide)) (by decide) (by decide) (by decide +kernel) (by decide +kernel) (by decide) (by decide) rfl (fun w => bare_ok ⟨#[99, 45, 97, 93, 32, 62, 32, 59]⟩ 99 1 w (small _ (by decide)) (by decide +kernel) (by decide) (by decide) (by decide) (by decide +kernel))
theorem tellsSc2 : Tells 39 #[.string ⟨#[45, 97, 93, 32, 62, 32, 59]⟩, .bool false] 20 0 (1 : Nat) 0 ⟨#[]⟩ 0 0 :=
  first_sign ⟨#[45, 97, 93, 32, 62, 32, 59]⟩ false 10 (small _ (by decide)) (by decide) (by decide) (by decide +kernel) (by decide +kernel)
theorem tellsSc3 : Tells 39 #[.string ⟨#[97, 93, 32, 62, 32, 59]⟩, .bool false] 1 0 (1 : Nat) 97 ⟨#[]⟩ 0 0 :=
  first_bare ⟨#[97, 93, 32, 62, 32, 59]⟩ false 1 0 1 97 ⟨#[]⟩ 0 0 (small _ (by decide)) (by decide) (by decide) (by decide +kernel) (by decide +kernel) (by decide) (by decide) rfl (fun w => bare_ok ⟨#[97, 93, 32, 62, 32, 59]⟩ 97 1 w (small _ (by decide)) (by decide +kernel) (by decide) (by decide) (by decide) (by decide +kernel))
theorem tellsSc4 : Tells 39 #[.string ⟨#[93, 32, 62, 32, 59]⟩, .bool false] 19 0 (1 : Nat) 0 ⟨#[]⟩ 0 0 :=
  first_sign ⟨#[93, 32, 62, 32, 59]⟩ false 9 (small _ (by decide)) (by decide) (by decide) (by decide +kernel) (by decide +kernel)
theorem tellsSc6 : Tells 39 #[.string ⟨#[62, 32, 59]⟩, .bool false] 10 0 (1 : Nat) 0 ⟨#[]⟩ 0 0 :=
  first_sign ⟨#[62, 32, 59]⟩ false 0 (small _ (by decide)) (by decide) (by decide) (by decide +kernel) (by decide +kernel)
theorem tellsSc8 : Tells 39 #[.string ⟨#[59]⟩, .bool false] 11 0 (1 : Nat) 0 ⟨#[]⟩ 0 0 :=
  first_sign ⟨#[59]⟩ false 1 (small _ (by decide)) (by decide) (by decide) (by decide +kernel) (by decide +kernel)
def toksSc : List Tok := [⟨18, 0, 1, 0, ⟨#[]⟩, 0⟩, ⟨1, 1, 1, 99, ⟨#[]⟩, 0⟩, ⟨20, 2, 1, 0, ⟨#[]⟩, 0⟩, ⟨1, 3, 1, 97, ⟨#[]⟩, 0⟩, ⟨19, 4, 1, 0, ⟨#[]⟩, 0⟩, ⟨10, 6, 1, 0, ⟨#[]⟩, 0⟩, ⟨11, 8, 1, 0, ⟨#[]⟩, 0⟩]
theorem runSc : Run Sc 0 true toksSc 0 0 :=
  Run.step (q := 0) (l := 1) (by decide +kernel) (by decide) tellsSc0 (by decide) (by decide) (Run.step (q := 1) (l := 1) (by decide +kernel) (by decide) tellsSc1 (by decide) (by decide) (Run.step (q := 2) (l := 1) (by decide +kernel) (by decide) tellsSc2 (by decide) (by decide) (Run.step (q := 3) (l := 1) (by decide +kernel) (by decide) tellsSc3 (by decide) (by decide) (Run.step (q := 4) (l := 1) (by decide +kernel) (by decide) tellsSc4 (by decide) (by decide) (Run.step (q := 6) (l := 1) (by decide +kernel) (by decide) tellsSc6 (by decide) (by decide) (Run.step (q := 8) (l := 1) (by decide +kernel) (by decide) tellsSc8 (by decide) (by decide) (Run.fin (by decide +kernel))))))))
theorem goodSc : ∀ t, t ∈ toksSc → GoodT t := by
  intro t ht
  simp only [toksSc, List.mem_cons, List.not_mem_nil, or_false] at ht
  rcases ht with rfl | rfl | rfl | rfl | rfl | rfl | rfl <;> exact ⟨(fun e => absurd e (by decide)), by decide⟩
def Sd : ByteArray := ⟨#[]⟩
def toksSd : List Tok := []
theorem runSd : Run Sd 0 true toksSd 0 0 :=
  Run.fin (by decide +kernel)
theorem goodSd : ∀ t, t ∈ toksSd → GoodT t := by
  intro t ht
  simp [toksSd] at ht
abbrev ruleA : Ln := ⟨2, 0, ⟨#[]⟩, false, false, [], [.mk 1 97 ⟨#[]⟩ [] 0 0 false 0], [], [.mk 1 98 ⟨#[]⟩ [] 0 0 false 0], 1⟩
theorem linesSa : linesT 7 4 toksSa = .ok [ruleA] [] := by rfl
theorem linesSb : linesT 9 5 toksSb = .no 4 50 := by rfl
theorem linesSc : linesT 9 7 toksSc = .no 1 51 := by rfl
theorem parseSa (w : World) : Calls Tryz.prog 9 #[.string ⟨#[97, 32, 62, 32, 98, 32, 59]⟩] w fun x w' => ∃ v, x = .returned (.tuple #[v, .agg #[.int .i64 0, .int .i64 0]]) ∧ RowsL w' w.heap.size v [ruleA] ∧ Below w.heap.size w w' := by
  refine (parse_run Sa toksSa 0 0 (by decide) runSa goodSa (by decide) w).mono ?_
  intro x w' h
  unfold PO at h
  rw [if_pos rfl] at h
  obtain ⟨h1, h2⟩ := h
  rw [show linesT (Sa.size : Int) toksSa.length toksSa = .ok [ruleA] [] from linesSa] at h2
  obtain ⟨v, e, h3⟩ := h2
  exact ⟨v, e, h3, h1⟩
theorem parseSb (w : World) : Calls Tryz.prog 9 #[.string ⟨#[94, 32, 97, 32, 62, 32, 98, 32, 59]⟩] w fun x w' => x = .returned (.tuple #[.slice none 0 0, .agg #[.int .i64 4, .int .i64 50]]) ∧ Below w.heap.size w w' := by
  refine (parse_run Sb toksSb 0 0 (by decide) runSb goodSb (by decide) w).mono ?_
  intro x w' h
  unfold PO at h
  rw [if_pos rfl] at h
  obtain ⟨h1, h2⟩ := h
  rw [show linesT (Sb.size : Int) toksSb.length toksSb = .no 4 50 from linesSb] at h2
  exact ⟨h2, h1⟩
theorem parseSc (w : World) : Calls Tryz.prog 9 #[.string ⟨#[91, 99, 45, 97, 93, 32, 62, 32, 59]⟩] w fun x w' => x = .returned (.tuple #[.slice none 0 0, .agg #[.int .i64 1, .int .i64 51]]) ∧ Below w.heap.size w w' := by
  refine (parse_run Sc toksSc 0 0 (by decide) runSc goodSc (by decide) w).mono ?_
  intro x w' h
  unfold PO at h
  rw [if_pos rfl] at h
  obtain ⟨h1, h2⟩ := h
  rw [show linesT (Sc.size : Int) toksSc.length toksSc = .no 1 51 from linesSc] at h2
  exact ⟨h2, h1⟩
theorem parseSd (w : World) : Calls Tryz.prog 9 #[.string ⟨#[]⟩] w fun x w' => ∃ A c, x = .returned (.tuple #[.slice A 0 c, .agg #[.int .i64 0, .int .i64 0]]) ∧ Below w.heap.size w w' := by
  refine (parse_run Sd toksSd 0 0 (by decide) runSd goodSd (by decide) w).mono ?_
  intro x w' h
  unfold PO at h
  rw [if_pos rfl] at h
  obtain ⟨h1, h2⟩ := h
  rw [show linesT (Sd.size : Int) toksSd.length toksSd = .ok [] [] from rfl] at h2
  obtain ⟨v, e, A, c, ms, rfl, h3⟩ := h2
  exact ⟨A, c, e, h1⟩
end Go.Proofs
