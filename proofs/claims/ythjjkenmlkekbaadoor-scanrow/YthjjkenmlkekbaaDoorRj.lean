/-
  A row of bytes that came out of a string, and strings appended to it.
-/
import Derived.Shelf.Abstract
import Derived.Shelf.RegionOpen
import Derived.WalkKit
import Derived.WalkSpells
import Derived.WalkLawsBesides
import Derived.BigQuiet
import Derived.Deep.QuietTactic
import Derived.Deep.LoopGhost
import Derived.Lib.OthersKept
import Derived.ScopeJumps
import Derived.WalkMore
import Derived.Maps.AppendAt
import Derived.Lib.SmallJoins
import Derived.Lib.FrozenHead
import Derived.Laws.IdiomStrings
import Derived.Test.YthjjkenmlkekbaaDoorRi
namespace Go.Proofs
open Go.RowKit Go.Shelf

set_option maxRecDepth 100000
attribute [local go_sem] Oper.semAt_some

/-- no cell of the row is frozen -/
def Fr (n : Nat) (fz : Nat × Nat) : Prop := ∀ j, j < n → j < fz.1 ∨ fz.2 ≤ j
theorem Fr.cell {w : World} {g j : Nat} {cur : Array Value} {t : TypeId} {fz : Nat × Nat} (h : Fr cur.size fz) (hg : w.heap[g]? = some (.cells cur t fz)) (hj : j < cur.size) : w.frozen? ⟨g, j, none⟩ = false := by
  have := h j hj
  obtain ⟨lo, hi⟩ := fz
  simp only [World.frozen?, hg, Bool.and_eq_false_iff, decide_eq_false_iff_not]
  simp only at this
  omega
theorem storeS (g o : Nat) (t : TypeId) (fz : Nat × Nat) (vs : List Value) : ∀ (i : Nat) (cur : Array Value) (w : World), w.heap[g]? = some (.cells cur t fz) → Fr cur.size fz → o + i + vs.length ≤ cur.size → (∀ v ∈ vs, v.oneCell' = true) →
    (storeCells ⟨g, o, none⟩ vs i).run Tryd.prog w = .ok () (w.setRow g (cur.toList.take (o + i) ++ vs ++ cur.toList.drop (o + i + vs.length)).toArray) := by
  induction vs with
  | nil =>
    intro i cur w hg _ _ _
    simp only [storeCells, List.append_nil, List.length_nil, Nat.add_zero, List.take_append_drop, Array.toArray_toList]
    rw [setRow_self w g cur t fz hg]
    rfl
  | cons v rest ih =>
    intro i cur w hg hfz hl h1
    have hi : o + i < cur.size := by simp at hl; omega
    have hadd : (⟨g, o, none⟩ : Addr).add i = ⟨g, o + i, none⟩ := by unfold Addr.add; split <;> simp_all
    have hcell : w.cell? ⟨g, o + i, none⟩ = some cur[o + i] := by simp [World.cell?, hg, hi]
    have hst : (store ((⟨g, o, none⟩ : Addr).add i) v).run Tryd.prog w = .ok () (w.setRow g (cur.setIfInBounds (o + i) v)) := by
      rw [hadd, run_store Tryd.prog w _ v _ (h1 v (by simp)), hcell]
      simp [hfz.cell hg hi, setCell_eq_setRow w g (o + i) cur t fz v hg]
    have ih := ih (i + 1) (cur.setIfInBounds (o + i) v) (w.setRow g (cur.setIfInBounds (o + i) v)) (setRow_heap w g cur _ t _ hg) (by simpa using hfz) (by simp at hl ⊢; omega) (fun x hx => h1 x (by simp [hx]))
    simp only [storeCells, Sem.run_bind, hst, Result.andThen_ok, ih, setRow_setRow]
    congr 3
    have e := list_seg_step cur.toList (o + i) v rest (by simp at hl ⊢; omega)
    simpa [Array.toList_setIfInBounds, Nat.add_assoc] using e
/-- a row of bytes of the call's own that is not nil -/
def OwnS (w : World) (base : Nat) (v : Value) (l : List UInt8) : Prop := ∃ g cap cur fz, v = .slice (some ⟨g, 0, none⟩) l.length cap ∧ base ≤ g ∧ w.heap[g]? = some (.cells cur 5 fz) ∧ Fr cur.size fz ∧ l.length ≤ cap ∧ cap ≤ maxLen ∧ cur.size = cap ∧ cur.toList.take l.length = fb l
theorem OwnS.below {w w' : World} {base n : Nat} {v : Value} {l : List UInt8} (h : OwnS w base v l) (hb : Below n w w') (hn : w.heap.size ≤ n) : OwnS w' base v l := by
  obtain ⟨g, cap, cur, fz, rfl, h1, h2, h3⟩ := h
  have : g < w.heap.size := (Array.getElem?_eq_some_iff.1 h2).1
  exact ⟨g, cap, cur, fz, rfl, h1, (hb.block g (by omega)).trans h2, h3⟩
theorem OwnS.cells {w : World} {base g n c : Nat} {l : List UInt8} (h : OwnS w base (.slice (some ⟨g, 0, none⟩) n c) l) : ∀ j u, (fb l)[j]? = some u → w.cell? ((⟨g, 0, none⟩ : Addr).add j) = some u := by
  intro j u hu
  obtain ⟨g', cap, cur, fz, e, h1, h2, _, _, _, _, h3⟩ := h
  injection e with e1 e2 e3
  injection e1 with e1
  injection e1 with e1
  subst e1
  have hadd : (⟨g, 0, none⟩ : Addr).add j = ⟨g, j, none⟩ := by unfold Addr.add; split <;> simp_all
  rw [hadd, cell_of_row w g j cur 5 fz h2]
  rw [← h3, List.getElem?_take] at hu
  split at hu
  · simpa using hu
  · cases hu
theorem fb_len (l : List UInt8) : (fb l).length = l.length := by simp [fb]
theorem OwnS.start (s : ByteArray) (w : World) (base : Nat) (hb : base ≤ w.heap.size) (hs : s.size ≤ maxLen) : ∃ v w', (convert 9 38 (.string s)).run Tryd.prog w = .ok v w' ∧ OwnS w' base v s.data.toList ∧ Below w.heap.size w w' := by
  refine ⟨_, _, run_bytes_of_string w 9 38 5 s Tryd.underlying9 Tryd.underlying38 Tryd.underlying5, ?_, ((Below.refl _ w).drew).alloc (Nat.le_refl _) _⟩
  have hge := grownCap_ge w s.size 0 5
  have hcm := grownCap_le_maxLen w s.size 0 5 hs
  have hz : s.data.toList.length = s.size := by simp
  have hbz : (bytesRow s (grownCap w s.size 0 5)).size = grownCap w s.size 0 5 := by
    simp only [bytesRow, Array.size_append, Array.size_map, Array.size_replicate]
    have : s.data.size = s.size := rfl
    omega
  refine ⟨w.heap.size, _, _, _, by rw [hz], hb, heap_alloc_new w.drew _, ?_, by omega, hcm, hbz, ?_⟩
  · intro j hj
    exact .inl hj
  · rw [hz]
    simp only [bytesRow, Array.toList_append, Array.toList_map]
    rw [List.take_append_of_le_length (by simp), List.take_of_length_le (by simp)]
    rfl
theorem append_S (w : World) (base : Nat) (v : Value) (l : List UInt8) (s : ByteArray) (ty : TypeId) (hown : OwnS w base v l) (hl : l.length + s.size ≤ 1000000) (hbase : base ≤ w.heap.size) :
    ∃ v' w', (Builtin.append_ #[38, 9] ty #[v, .string s]).run Tryd.prog w = .ok v' w' ∧ OwnS w' base v' (l ++ s.data.toList) ∧ w.grownBy w' v.ownBlock ∧ (∀ b, v.ownBlock = some b → base ≤ b) := by
  obtain ⟨i0, hi, hz0, hz1, hz2⟩ := info_parts info5
  have hO := hown
  obtain ⟨g, cap, cur, fz, rfl, hbg, hg, hfr, hnc, hcm, hcs, htake⟩ := hown
  have hlen : (l ++ s.data.toList).length = l.length + s.size := by simp
  have hfbs : fb (l ++ s.data.toList) = fb l ++ Lib.strCells s := by simp [fb, Lib.strCells]
  have hsl := Lib.strCells_length s
  have hfl := fb_len l
  by_cases hroom : l.length + s.size ≤ cap
  · have hf := Lib.run_firstCells_string (P := Tryd.prog) w 1 s
    have hst := storeS g l.length 5 fz (Lib.strCells s) 0 cur w hg hfr (by rw [hsl]; omega) (Lib.strCells_oneCell s)
    simp only [Nat.add_zero, hsl] at hst
    refine ⟨.slice (some ⟨g, 0, none⟩) (l.length + s.size) cap, w.setRow g (cur.toList.take l.length ++ Lib.strCells s ++ cur.toList.drop (l.length + s.size)).toArray, ?_, ⟨g, cap, _, fz, by rw [hlen], hbg, setRow_heap w g cur _ 5 _ hg, ?_, by omega, hcm, ?_, ?_⟩, ⟨rfl, rfl, rfl, by simp, fun k _ hk => setRow_other w g k _ (fun e => hk (by simp [Value.ownBlock, e]))⟩, ?_⟩
    · simp [Builtin.append_, run_underlying Tryd.underlying38, run_underlying Tryd.underlying9, sizeOf, typeInfo, hi, hz1, Builtin.lenOf, hroom, hf, Addr.add_lit, hst]
    · have : ((cur.toList.take l.length ++ Lib.strCells s ++ cur.toList.drop (l.length + s.size)).toArray).size = cur.size := by
        simp only [List.size_toArray, List.length_append, List.length_take, List.length_drop, Array.length_toList, hsl]
        omega
      rw [this]
      exact hfr
    · simp only [List.size_toArray, List.length_append, List.length_take, List.length_drop, Array.length_toList, hsl]
      omega
    · rw [hfbs, htake, hlen]
      rw [List.take_append_of_le_length (by rw [List.length_append, hfl, hsl]; omega)]
      exact List.take_of_length_le (by rw [List.length_append, hfl, hsl]; omega)
    · intro b hb; simp [Value.ownBlock] at hb; omega
  · have hr := Lib.run_append_grow_string (P := Tryd.prog) w 38 9 ty 5 i0 (.int .u8 0) Tryd.underlying38 Tryd.underlying9 hi hz0 ⟨g, 0, none⟩ l.length cap (fb l) (by rw [hz1, hfl]; omega) hO.cells s (by omega) (by omega) (by rw [hz2]; exact growslice_fits (by omega) (by omega))
    have hge := grownCap_ge w (l.length + s.size) cap 5
    have hcm2 := grownCap_le_maxLen w (l.length + s.size) cap 5 (by unfold maxLen; omega)
    refine ⟨_, _, hr, ⟨w.heap.size, _, _, (0, 0), by rw [hlen], hbase, heap_alloc_new w.drew _, ?_, by omega, hcm2, ?_, ?_⟩, ⟨rfl, rfl, rfl, by simp, fun k hk _ => heap_alloc_old w.drew _ hk⟩, ?_⟩
    · intro j _; exact .inr (Nat.zero_le _)
    · have h1 : (Value.int IntKind.u8 0).cells.size = 1 := rfl
      simp only [Array.size_append, List.size_toArray, size_zeroCells, h1, hfl, hsl]
      omega
    · rw [hfbs, hlen]
      simp only [Array.toList_append, List.append_assoc]
      rw [← List.append_assoc, List.take_append_of_le_length (by rw [List.length_append, hfl, hsl]; omega)]
      exact List.take_of_length_le (by rw [List.length_append, hfl, hsl]; omega)
    · intro b hb; simp [Value.ownBlock] at hb; omega
theorem push_S {ops : Array Oper} {rest : List Oper} {o : Oper} {a : Act} {Q : Exit → Act → World → Prop} {w : World} (hgd : o.guard = none) (sl x : Operand)
    (ho : o.op = .call { callee := .builtin .append, args := #[sl, x], argTypes := #[38, 9] })
    (base : Nat) (v : Value) (l : List UInt8) (hs : a.eval sl = v) (hown : OwnS w base v l) (s : ByteArray) (hx : a.eval x = .string s) (hl : l.length + s.size ≤ 1000000) (hbase : base ≤ w.heap.size)
    (h : ∀ v' w', OwnS w' base v' (l ++ s.data.toList) → Below base w w' → w.grownBy w' v.ownBlock → wpList Tryd.prog ops Q rest (a.put o.dst v') w') : wpList Tryd.prog ops Q (o :: rest) a w := by
  refine wpList_plain hgd fun K hK => ?_
  obtain ⟨v', w', hr, h2, h3, h4⟩ := append_S w base v l s o.type hown hl hbase
  unfold Oper.wp execOp
  simp only [ho, resolve, invoke, builtin, Sem.run_bind, Sem.run_pure, Result.andThen_ok, List.map_toArray, List.map_cons, List.map_nil, hs, hx, hr]
  exact hK _ _ (h v' w' h2 ((Below.refl _ w).grown h3 hbase h4) h3)
end Go.Proofs
