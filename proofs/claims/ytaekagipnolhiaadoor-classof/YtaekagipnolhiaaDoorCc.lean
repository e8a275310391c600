/-
  The table of the sets that have names, as the program lays it and as the reference does: where its rows lie and what they hold.
-/
import Derived.RangeFuncNested
import Derived.RangeFuncBound
import Derived.RangeFuncCalls
import Derived.RangeFuncLeaves
import Derived.Shelf.SlSorted.Search
import Derived.Deep.MidRow
import Derived.Maps.OwnSet
import Derived.Maps.OwnOps
import Derived.Shelf.Abstract
import Derived.Shelf.RegionOpen
import Derived.WalkKit
import Derived.WalkSpells
import Derived.WalkLawsBesides
import Derived.OwnWalkIn
import Derived.TacticsInMore
import Derived.LoopNIn
import Derived.LoopIn
import Derived.BigQuiet
import Derived.RegionIn
import Derived.Deep.QuietTactic
import Derived.Deep.RegionWith
import Derived.Lib.OthersKept
import Derived.Maps.AppendAt
import Derived.Lib.SmallJoins
import Derived.Shelf.SlSortCmp.QuietGrown
import Derived.Deep.DrawnRows
import Derived.Test.YtaekagipnolhiaaDoorCb
namespace Go.Proofs
open Go.RowKit Go.Shelf

set_option maxRecDepth 100000
attribute [local go_sem] Oper.semAt_some

/-- the names and their ranges -/
def tbl : List (ByteArray × List (Int × Int)) := [
  (⟨#[97, 108, 110, 117, 109]⟩, [(48, 57), (65, 90), (97, 122)]),
  (⟨#[97, 108, 112, 104, 97]⟩, [(65, 90), (97, 122)]),
  (⟨#[97, 110, 121]⟩, [(0, 55295), (57344, 1114111), (1114240, 1114367)]),
  (⟨#[97, 115, 99, 105, 105]⟩, [(0, 127)]),
  (⟨#[98, 108, 97, 110, 107]⟩, [(9, 9), (32, 32)]),
  (⟨#[99, 110, 116, 114, 108]⟩, [(0, 31), (127, 127)]),
  (⟨#[99, 121, 114, 105, 108, 108, 105, 99]⟩, [(1024, 1119)]),
  (⟨#[100, 105, 103, 105, 116]⟩, [(48, 57)]),
  (⟨#[103, 114, 97, 112, 104]⟩, [(33, 126)]),
  (⟨#[103, 114, 101, 101, 107]⟩, [(913, 929), (931, 937), (945, 969)]),
  (⟨#[104, 97, 110, 103, 117, 108]⟩, [(44032, 55203)]),
  (⟨#[107, 97, 110, 97]⟩, [(12353, 12438), (12449, 12538)]),
  (⟨#[108, 97, 116, 105, 110]⟩, [(65, 90), (97, 122), (192, 214), (216, 246), (248, 255)]),
  (⟨#[108, 111, 119, 101, 114]⟩, [(97, 122), (223, 246), (248, 255), (945, 969), (1072, 1119)]),
  (⟨#[109, 97, 114, 107]⟩, [(768, 879)]),
  (⟨#[111, 116, 104, 101, 114]⟩, [(128, 55295), (57344, 1114111), (1114240, 1114367)]),
  (⟨#[112, 114, 105, 110, 116]⟩, [(32, 126)]),
  (⟨#[112, 117, 110, 99, 116]⟩, [(33, 47), (58, 64), (91, 96), (123, 126)]),
  (⟨#[114, 117, 110, 101]⟩, [(0, 55295), (57344, 1114111)]),
  (⟨#[115, 112, 97, 99, 101]⟩, [(9, 13), (32, 32), (133, 133), (160, 160)]),
  (⟨#[115, 116, 114, 97, 121]⟩, [(1114240, 1114367)]),
  (⟨#[117, 112, 112, 101, 114]⟩, [(65, 90), (192, 214), (216, 222), (913, 929), (931, 937), (1024, 1071)]),
  (⟨#[118, 111, 119, 101, 108]⟩, [(65, 65), (69, 69), (73, 73), (79, 79), (85, 85), (97, 97), (101, 101), (105, 105), (111, 111), (117, 117)]),
  (⟨#[120, 100, 105, 103, 105, 116]⟩, [(48, 57), (65, 70), (97, 102)])]
/-- a list of plain operations, run one after another -/
def runL (P : Program) : List Oper → Act → World → Option (Act × World)
  | [], a, w => some (a, w)
  | o :: r, a, w => match o.guard, (execOp a.eval o).run P w with
    | none, .ok (.value v) w' => runL P r (a.put o.dst v) w'
    | _, _ => none
theorem wpList_runL {P : Program} {ops : Array Oper} {Q : Exit → Act → World → Prop} : ∀ (l : List Oper) (a : Act) (w : World) {a' : Act} {w' : World}, runL P l a w = some (a', w') → Q .normal a' w' → wpList P ops Q l a w
  | [], a, w, a', w', h, hQ => by
    simp only [runL, Option.some.injEq, Prod.mk.injEq] at h
    obtain ⟨rfl, rfl⟩ := h
    exact hQ
  | o :: r, a, w, a', w', h, hQ => by
    unfold runL at h
    split at h
    · rename_i v w1 hg hr
      refine wpList_plain hg fun K hK => ?_
      unfold Oper.wp
      rw [hr]
      exact hK _ _ (wpList_runL r _ _ h hQ)
    · cases h
theorem wpList_runTo {P : Program} {ops : Array Oper} {Q : Exit → Act → World → Prop} {l : List Oper} {a : Act} {w w' : World} {x : Option Value} {d : List Deferred}
    (h : (runL P l a w).map (fun p => (p.1.tmps[0]?, p.1.defers, p.2)) = some (x, d, w')) (hQ : ∀ a', a'.tmps[0]? = x → a'.defers = d → Q .normal a' w') : wpList P ops Q l a w := by
  cases hr : runL P l a w with
  | none => rw [hr] at h; cases h
  | some p =>
    rw [hr] at h
    simp only [Option.map_some, Option.some.injEq, Prod.mk.injEq] at h
    obtain ⟨h1, h2, h3⟩ := h
    subst h3
    exact wpList_runL l a w hr (hQ _ h1 h2)
/-- the cells of some ranges -/
def spanCells (s : List (Int × Int)) : Array Value := (s.flatMap fun p => [.int .i64 p.1, .int .i64 p.2]).toArray
/-- the rows' ranges laid one after another, and the cells of the rows -/
def chain (T : TypeId) : World → List (ByteArray × List (Int × Int)) → List Value → World × List Value
  | w, [], acc => (w, acc)
  | w, x :: r, acc => chain T (w.alloc (.cells (spanCells x.2) T)) r (acc ++ [.string x.1, .slice (some ⟨w.heap.size, 0, none⟩) x.2.length x.2.length])
def laidW (T U : TypeId) (w : World) : World := (chain T w tbl []).1.alloc (.cells (chain T w tbl []).2.toArray U)
theorem table_run (w : World) : Calls Tryd.prog 19 #[] w fun e w' => e = .returned (.slice (some ⟨(chain 48 w tbl []).1.heap.size, 0, none⟩) 24 24) ∧ w' = laidW 48 46 w := by
  go_enter Tryd.func19, Tryd.ntmps19
  refine wp_seq (wp_region_list (wpList_runL _ _ _ rfl ?_))
  simp only [Exit.then]
  refine wp_seq (wp_region_list (wpList_runTo (x := some (.slice (some ⟨(chain 48 w tbl []).1.heap.size, 0, none⟩) 24 24)) (d := []) (w' := laidW 48 46 w) (by kernel_rfl) ?_))
  intro a' h0 hd
  simp only [Exit.then]
  refine wp_ret ?_
  refine bodyPost_ret ((results_tmp (t := 0) rfl _ _ _).trans ?_) hd ⟨rfl, rfl⟩
  rw [Array.getD_eq_getD_getElem?, h0]
  rfl
theorem rows_run (w : World) : Calls Tryd.prog 21 #[] w fun e w' => e = .returned (.slice (some ⟨(chain 31 w tbl []).1.heap.size, 0, none⟩) 24 24) ∧ w' = laidW 31 52 w := by
  go_enter Tryd.func21, Tryd.ntmps21
  refine wp_seq (wp_region_list (wpList_runL _ _ _ rfl ?_))
  simp only [Exit.then]
  refine wp_seq (wp_region_list (wpList_runTo (x := some (.slice (some ⟨(chain 31 w tbl []).1.heap.size, 0, none⟩) 24 24)) (d := []) (w' := laidW 31 52 w) (by kernel_rfl) ?_))
  intro a' h0 hd
  simp only [Exit.then]
  refine wp_ret ?_
  refine bodyPost_ret ((results_tmp (t := 0) rfl _ _ _).trans ?_) hd ⟨rfl, rfl⟩
  rw [Array.getD_eq_getD_getElem?, h0]
  rfl

theorem spanCells_at : ∀ (s : List (Int × Int)) (j : Nat) (p : Int × Int), s[j]? = some p → (spanCells s)[j * 2]? = some (.int .i64 p.1) ∧ (spanCells s)[j * 2 + 1]? = some (.int .i64 p.2)
  | [], j, p, h => by simp at h
  | x :: s, 0, p, h => by
    simp at h
    subst h
    exact ⟨rfl, rfl⟩
  | x :: s, j + 1, p, h => by
    have ih := spanCells_at s j p (by simpa using h)
    have e : spanCells (x :: s) = #[.int .i64 x.1, .int .i64 x.2] ++ spanCells s := by simp [spanCells]
    rw [e, Array.getElem?_append_right (by simp; omega), Array.getElem?_append_right (by simp; omega)]
    have e1 : (j + 1) * 2 - #[Value.int .i64 x.1, .int .i64 x.2].size = j * 2 := by simp; omega
    have e2 : (j + 1) * 2 + 1 - #[Value.int .i64 x.1, .int .i64 x.2].size = j * 2 + 1 := by simp; omega
    rw [e1, e2]
    exact ih
/-- some ranges lie in block b -/
def SpAt (w : World) (b : Nat) (s : List (Int × Int)) : Prop := ∀ j p, s[j]? = some p → w.cell? ⟨b, j * 2, none⟩ = some (.int .i64 p.1) ∧ w.cell? ⟨b, j * 2 + 1, none⟩ = some (.int .i64 p.2)
theorem SpAt.grown {w w' : World} {b : Nat} {s : List (Int × Int)} (h : SpAt w b s) (k : Grown w w') : SpAt w' b s := fun j p hp => ⟨k.cellv (h j p hp).1, k.cellv (h j p hp).2⟩
theorem chain_at (T : TypeId) : ∀ (l : List (ByteArray × List (Int × Int))) (w : World) (acc : List Value), Grown w (chain T w l acc).1 ∧ (∀ j, j < acc.length → (chain T w l acc).2[j]? = acc[j]?)
    ∧ ∀ k x, l[k]? = some x → (chain T w l acc).2[acc.length + 2 * k]? = some (.string x.1) ∧ ∃ b, (chain T w l acc).2[acc.length + 2 * k + 1]? = some (.slice (some ⟨b, 0, none⟩) x.2.length x.2.length) ∧ w.heap.size ≤ b ∧ SpAt (chain T w l acc).1 b x.2
  | [], w, acc => ⟨Grown.refl _, fun _ _ => rfl, fun k x h => by simp at h⟩
  | y :: l, w, acc => by
    have ih := chain_at T l (w.alloc (.cells (spanCells y.2) T)) (acc ++ [.string y.1, .slice (some ⟨w.heap.size, 0, none⟩) y.2.length y.2.length])
    obtain ⟨i1, i2, i3⟩ := ih
    have hup : Grown w (w.alloc (.cells (spanCells y.2) T)) := (Grown.refl w).alloc _
    simp only [List.length_append, List.length_cons, List.length_nil] at i2 i3
    show Grown w (chain T _ l _).1 ∧ _
    refine ⟨hup.trans i1, fun j hj => ?_, fun k x h => ?_⟩
    · show (chain T _ l _).2[j]? = _
      rw [i2 j (by omega), List.getElem?_append_left hj]
    · show (chain T _ l _).2[_]? = _ ∧ ∃ b, (chain T _ l _).2[_]? = _ ∧ _ ∧ SpAt (chain T _ l _).1 b x.2
      cases k with
      | zero =>
        simp only [List.getElem?_cons_zero, Option.some.injEq] at h
        subst h
        refine ⟨?_, w.heap.size, ?_, Nat.le_refl _, ?_⟩
        · rw [i2 _ (by omega), List.getElem?_append_right (by omega)]
          simp
        · rw [i2 _ (by omega), List.getElem?_append_right (by omega)]
          simp
        · intro j p hp
          have := spanCells_at y.2 j p hp
          exact ⟨i1.cellv (new_cell _ _ _ _ this.1), i1.cellv (new_cell _ _ _ _ this.2)⟩
      | succ k =>
        obtain ⟨j1, b, j2, j3, j4⟩ := i3 k x (by simpa using h)
        have e1 : acc.length + (0 + 1 + 1) + 2 * k = acc.length + 2 * (k + 1) := by omega
        rw [e1] at j1 j2
        exact ⟨j1, b, j2, Nat.le_trans hup.size j3, j4⟩
/-- the table of the names and their ranges, as rows of a slice -/
def TblAt (w : World) (B : Nat) : Prop := ∀ k x, tbl[k]? = some x → w.cell? ⟨B, k * 2, none⟩ = some (.string x.1) ∧ ∃ b, w.cell? ⟨B, k * 2 + 1, none⟩ = some (.slice (some ⟨b, 0, none⟩) x.2.length x.2.length) ∧ SpAt w b x.2
theorem TblAt.grown {w w' : World} {B : Nat} (h : TblAt w B) (k : Grown w w') : TblAt w' B := fun j x hx => by
  obtain ⟨h1, b, h2, h3⟩ := h j x hx
  exact ⟨k.cellv h1, b, k.cellv h2, h3.grown k⟩
/-- .. whose ranges lie from some block on -/
def TblFrom (w : World) (B H : Nat) : Prop := ∀ k x, tbl[k]? = some x → w.cell? ⟨B, k * 2, none⟩ = some (.string x.1) ∧ ∃ b, H ≤ b ∧ w.cell? ⟨B, k * 2 + 1, none⟩ = some (.slice (some ⟨b, 0, none⟩) x.2.length x.2.length) ∧ SpAt w b x.2
theorem laid_at (T U : TypeId) (w : World) : Grown w (laidW T U w) ∧ TblFrom (laidW T U w) (chain T w tbl []).1.heap.size w.heap.size ∧ w.heap.size ≤ (chain T w tbl []).1.heap.size := by
  obtain ⟨h1, -, h3⟩ := chain_at T tbl w []
  have hup := (Grown.refl (chain T w tbl []).1).alloc (.cells (chain T w tbl []).2.toArray U)
  refine ⟨h1.trans hup, fun k x hx => ?_, h1.size⟩
  obtain ⟨j1, b, j2, j3, j4⟩ := h3 k x hx
  simp only [List.length_nil, Nat.zero_add, Nat.mul_comm 2 k] at j1 j2
  exact ⟨new_cell _ _ _ _ (by simpa using j1), b, j3, new_cell _ _ _ _ (by simpa using j2), j4.grown hup⟩
theorem table_any (w : World) : Calls Tryd.prog 19 #[] w fun e w' => ∃ B, e = .returned (.slice (some ⟨B, 0, none⟩) 24 24) ∧ Grown w w' ∧ w.heap.size ≤ B ∧ TblFrom w' B w.heap.size :=
  (table_run w).mono fun _ _ ⟨h1, h2⟩ => ⟨_, h1, h2 ▸ (laid_at 48 46 w).1, (laid_at 48 46 w).2.2, h2 ▸ (laid_at 48 46 w).2.1⟩
theorem rows_any (w : World) : Calls Tryd.prog 21 #[] w fun e w' => ∃ B, e = .returned (.slice (some ⟨B, 0, none⟩) 24 24) ∧ Grown w w' ∧ w.heap.size ≤ B ∧ TblFrom w' B w.heap.size :=
  (rows_run w).mono fun _ _ ⟨h1, h2⟩ => ⟨_, h1, h2 ▸ (laid_at 31 52 w).1, (laid_at 31 52 w).2.2, h2 ▸ (laid_at 31 52 w).2.1⟩
end Go.Proofs
