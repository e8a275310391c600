/-
  ParseBlanks: what is let by, put in between tokens, changes no line but its place.
-/
import Derived.Shelf.Abstract
import Derived.Shelf.RegionOpen
import Derived.WalkKit
import Derived.WalkSpells
import Derived.WalkLawsBesides
import Derived.BigQuiet
import Derived.Deep.QuietTactic
import Derived.Deep.LoopGhost
import Derived.Deep.DeepCutAuto
import Derived.WalkMore
import Derived.Maps.AppendAt
import Derived.Lib.SmallJoins
import Derived.Shelf.SlSortCmp.QuietGrown
import Derived.Lib.SlBytesConst
import Derived.ArgAppend
import Derived.Test.YtknaoahokopplaaGreatDoorMgrb
import Derived.Test.YtknaoahokopplaaGreatDoorLbb
import Derived.Test.YtknaoahokopplaaGreatDoorMgtb
import Derived.Test.YtknaoahokopplaaGreatDoorKkb
namespace Go.Proofs
open Go.RowKit Go.Shelf

set_option maxRecDepth 100000
attribute [local go_sem] Oper.semAt_some

/-- a row of bytes of the call's own -/
def OwnB (w : World) (base : Nat) (v : Value) (l : List UInt8) : Prop := w.ownsRow base 5 1 v l.length (bc l)
theorem bc_length (l : List UInt8) : (bc l).length = l.length := by simp [bc]
theorem bc_append (l m : List UInt8) : bc (l ++ m) = bc l ++ bc m := by simp [bc]
theorem bc_one (l : List UInt8) : ∀ u ∈ bc l, u.oneCell' = true := by
  intro u hu
  simp only [bc, List.mem_map] at hu
  obtain ⟨x, _, rfl⟩ := hu
  rfl
theorem OwnB.alloc {w : World} {base : Nat} {v : Value} {l : List UInt8} (h : OwnB w base v l) (o : Obj) : OwnB (w.alloc o) base v l := World.ownsRow.alloc h o
theorem OwnB.new (w : World) (l : List UInt8) (h : l.length ≤ maxLen) : OwnB (w.alloc (.cells (bc l).toArray 5)) w.heap.size (.slice (some ⟨w.heap.size, 0, none⟩) l.length l.length) l := by
  refine ⟨by rw [bc_length]; omega, .inr ⟨w.heap.size, l.length, (bc l).toArray, rfl, Nat.le_refl _, World.alloc_heap_new _ _, Nat.le_refl _, h, by simp [bc_length], ?_⟩⟩
  simp only [Nat.mul_one]
  exact List.take_of_length_le (by simp [bc_length])
theorem OwnB.form {w : World} {b : Nat} {v : Value} {l : List UInt8} (h : OwnB w b v l) : ∃ A c, v = .slice A l.length c := by
  rcases h.2 with ⟨e, h0⟩ | ⟨g, cap, cur, e, _⟩
  · subst e; exact ⟨none, 0, by rw [h0]⟩
  · exact ⟨_, _, e⟩
theorem OwnB.below {w w' : World} {base n : Nat} {v : Value} {l : List UInt8} (h : OwnB w base v l) (hb : Below n w w') (hn : ∀ g, v.ownBlock = some g → g < n) : OwnB w' base v l := by
  refine ⟨h.1, ?_⟩
  rcases h.2 with h | ⟨g, cap, cur, rfl, h1, h2, h3⟩
  · exact .inl h
  · exact .inr ⟨g, cap, cur, rfl, h1, (hb.block g (hn g rfl)).trans h2, h3⟩
theorem ownB_below {w w' : World} {base : Nat} {v : Value} {l : List UInt8} (h : OwnB w base v l) (hb : base ≤ w.heap.size) (hg : w.grownBy w' v.ownBlock) : Below base w w' := (Below.refl _ w).grown hg hb (fun k hk => (World.ownsRow.lt h k hk).1)
/-- a string's bytes behind a row -/
theorem push_Bs {ops : Array Oper} {rest : List Oper} {o : Oper} {a : Act} {Q : Exit → Act → World → Prop} {w : World} (hgd : o.guard = none) (s x : Operand)
    (ho : o.op = .call { callee := .builtin .append, args := #[s, x], argTypes := #[50, 9] })
    (base : Nat) (v : Value) (l : List UInt8) (hs : a.eval s = v) (hown : OwnB w base v l) (t : ByteArray) (hx : a.eval x = .string t) (hl : l.length + t.size ≤ 10000000000) (hbase : base ≤ w.heap.size)
    (h : ∀ v' w', OwnB w' base v' (l ++ t.data.toList) → Below base w w' → wpList Tryz.prog ops Q rest (a.put o.dst v') w') : wpList Tryz.prog ops Q (o :: rest) a w := by
  obtain ⟨i0, hi, hz0, hz1, hz2⟩ := info_parts info5
  refine Lib.wpList_append_own_string _ hgd s x 50 9 ho base 5 i0 Tryz.underlying50 Tryz.underlying9 hi hz0 hz1 hz2 v _ _ hs hown t hx (by unfold maxLen; omega) (by omega) hbase (fun v' w' h2 h3 _ => h v' w' ?_ (ownB_below hown hbase h3))
  unfold OwnB
  rw [bc_append, List.length_append]
  exact h2
/-- a row's bytes behind a row -/
theorem push_Bl {ops : Array Oper} {rest : List Oper} {o : Oper} {a : Act} {Q : Exit → Act → World → Prop} {w : World} (hgd : o.guard = none) (s x : Operand)
    (ho : o.op = .call { callee := .builtin .append, args := #[s, x], argTypes := #[50, 50] })
    (base : Nat) (v : Value) (l : List UInt8) (hs : a.eval s = v) (hown : OwnB w base v l) (b2 : Nat) (u : Value) (m : List UInt8) (hu : OwnB w b2 u m) (hm : m ≠ []) (hx : a.eval x = u) (hl : l.length + m.length ≤ 10000000000) (hbase : base ≤ w.heap.size)
    (h : ∀ v' w', OwnB w' base v' (l ++ m) → Below base w w' → wpList Tryz.prog ops Q rest (a.put o.dst v') w') : wpList Tryz.prog ops Q (o :: rest) a w := by
  obtain ⟨i0, hi, hz0, hz1, hz2⟩ := info_parts info5
  rcases hu.2 with ⟨_, h0⟩ | ⟨g, cap, cur, rfl, _, k2, k3, k4, k5, k6⟩
  · exact absurd (List.eq_nil_of_length_eq_zero h0) hm
  · refine wpList_append_own _ hgd s x 50 ho base 5 i0 _ 1 1 Tryz.underlying50 hi hz0 hz1 hz2 rfl (by decide) v _ _ hs hown ⟨g, 0, none⟩ m.length cap (bc m) hx (by simp [bc_length]) ?_ (bc_one _) (by unfold maxLen; omega) (by omega) hbase (fun v' w' h2 h3 _ => h v' w' ?_ (ownB_below hown hbase h3))
    · intro j z hj
      rw [add_zero_at', World.cell?, k2]
      rw [← k6, List.getElem?_take] at hj
      split at hj
      · simpa using hj
      · cases hj
    · unfold OwnB
      rw [bc_append, List.length_append]
      exact h2
/-- a row of bytes that is full and perhaps marked, or of the call's own -/
def LetV (w : World) (base : Nat) (v : Value) (l : List UInt8) : Prop := OwnB w base v l ∨ ∃ g, v = .slice (some ⟨g, 0, none⟩) l.length l.length ∧ base ≤ g ∧ g < w.heap.size ∧ ∀ j u, (bc l)[j]? = some u → w.cell? ⟨g, j, none⟩ = some u
theorem LetV.alloc {w : World} {base : Nat} {v : Value} {l : List UInt8} (h : LetV w base v l) (o : Obj) : LetV (w.alloc o) base v l := by
  rcases h with h | ⟨g, e, h1, h2, h3⟩
  · exact .inl (h.alloc o)
  · exact .inr ⟨g, e, h1, by simp; omega, fun j u hj => cell_up (h3 j u hj) o⟩
theorem push_Lb {ops : Array Oper} {rest : List Oper} {o : Oper} {a : Act} {Q : Exit → Act → World → Prop} {w : World} (hgd : o.guard = none) (s x : Operand)
    (ho : o.op = .call { callee := .builtin .append, args := #[s, x], argTypes := #[50, 50] })
    (base : Nat) (v : Value) (l : List UInt8) (hs : a.eval s = v) (hown : LetV w base v l) (g : Nat) (y : UInt8) (hx : a.eval x = .slice (some ⟨g, 0, none⟩) 1 1) (hy : w.cell? ⟨g, 0, none⟩ = some (.int .u8 (y.toNat : Int))) (hl : l.length + 1 ≤ 10000000000) (hbase : base ≤ w.heap.size)
    (h : ∀ v' w', OwnB w' base v' (l ++ [y]) → Below base w w' → wpList Tryz.prog ops Q rest (a.put o.dst v') w') : wpList Tryz.prog ops Q (o :: rest) a w := by
  obtain ⟨i0, hi, hz0, hz1, hz2⟩ := info_parts info5
  have hn : ∀ j u, (bc [y])[j]? = some u → w.cell? ((⟨g, 0, none⟩ : Addr).add j) = some u := by
    intro j u hj
    match j, hj with
    | 0, hj => simp [bc] at hj; subst hj; exact hy
  rcases hown with hown | ⟨g', rfl, hb, hlt, hc⟩
  · refine wpList_append_own _ hgd s x 50 ho base 5 i0 _ 1 1 Tryz.underlying50 hi hz0 hz1 hz2 rfl (by decide) v _ _ hs hown ⟨g, 0, none⟩ 1 1 (bc [y]) hx rfl hn (bc_one _) (by unfold maxLen; omega) (by omega) hbase (fun v' w' h2 h3 _ => h v' w' ?_ (ownB_below hown hbase h3))
    unfold OwnB
    rw [bc_append, List.length_append]
    exact h2
  · refine wpList_append_grows w hgd s x 50 ho 5 i0 _ 1 1 Tryz.underlying50 hi hz0 hz1 hz2 rfl (by decide) (some ⟨g', 0, none⟩) l.length l.length (bc l) hs (fun e => by cases e) (by simp [bc_length]) (fun b e j u hj => by cases e; rw [add_zero_at']; exact hc j u hj) ⟨g, 0, none⟩ 1 1 (bc [y]) hx rfl hn (bc_one _) (by omega) (by unfold maxLen; omega) (by omega) (fun v' w' h2 h3 => h v' w' ?_ ?_)
    · unfold OwnB
      rw [bc_append, List.length_append]
      exact Joins.ownsRow_le h2 hbase
    · exact ((Below.refl _ w).grown h3 hbase (fun k hk => by cases hk))
theorem push_Ls {ops : Array Oper} {rest : List Oper} {o : Oper} {a : Act} {Q : Exit → Act → World → Prop} {w : World} (hgd : o.guard = none) (s x : Operand)
    (ho : o.op = .call { callee := .builtin .append, args := #[s, x], argTypes := #[50, 9] })
    (base : Nat) (v : Value) (l : List UInt8) (hs : a.eval s = v) (hown : LetV w base v l) (t : ByteArray) (ht0 : 0 < t.size) (hx : a.eval x = .string t) (hl : l.length + t.size ≤ 10000000000) (hbase : base ≤ w.heap.size)
    (h : ∀ v' w', OwnB w' base v' (l ++ t.data.toList) → Below base w w' → wpList Tryz.prog ops Q rest (a.put o.dst v') w') : wpList Tryz.prog ops Q (o :: rest) a w := by
  obtain ⟨i0, hi, hz0, hz1, hz2⟩ := info_parts info5
  rcases hown with hown | ⟨g, rfl, hb, hlt, hc⟩
  · exact push_Bs hgd s x ho base v l hs hown t hx hl hbase h
  · have hlen : (l ++ t.data.toList).length = l.length + t.size := by simp
    have hsl := Lib.strCells_length t
    have hfl := bc_length l
    have hfbs : bc (l ++ t.data.toList) = bc l ++ Lib.strCells t := by simp [bc, Lib.strCells]
    refine wpList_plain hgd fun K hK => ?_
    have hr := Lib.run_append_grow_string (P := Tryz.prog) w 50 9 o.type 5 i0 (.int .u8 0) Tryz.underlying50 Tryz.underlying9 hi hz0 ⟨g, 0, none⟩ l.length l.length (bc l) (by rw [hz1, hfl]; omega) (fun j u hj => by rw [add_zero_at']; exact hc j u hj) t (by omega) (by omega) (by rw [hz2]; exact growslice_fits (by omega) (by omega))
    have hge := grownCap_ge w (l.length + t.size) l.length 5
    have hcm2 := grownCap_le_maxLen w (l.length + t.size) l.length 5 (by unfold maxLen; omega)
    unfold Oper.wp execOp
    simp only [ho, resolve, invoke, builtin, Sem.run_bind, Sem.run_pure, Result.andThen_ok, List.map_toArray, List.map_cons, List.map_nil, hs, hx, hr]
    refine hK _ _ (h _ _ ⟨by simp [bc_length], .inr ⟨w.heap.size, _, _, by rw [hlen], hbase, heap_alloc_new w.drew _, by omega, hcm2, ?_, ?_⟩⟩ ?_)
    · have h1 : (Value.int IntKind.u8 0).cells.size = 1 := rfl
      simp only [Array.size_append, List.size_toArray, size_zeroCells, h1, hfl, hsl]
      omega
    · rw [hfbs, hlen]
      simp only [Array.toList_append, List.append_assoc, Nat.mul_one]
      rw [← List.append_assoc, List.take_append_of_le_length (by rw [List.length_append, hfl, hsl]; omega)]
      exact List.take_of_length_le (by rw [List.length_append, hfl, hsl]; omega)
    · exact ((Below.refl _ w).drew).alloc hbase _
theorem past_note : ∀ (x Y : List UInt8), (∀ c ∈ x, c.toNat ≠ 10) → pastN true (x ++ 10 :: Y) = x.length + (1 + pastN false Y)
  | [], Y, _ => by rw [List.nil_append, pastN_nl (by decide), pastN_ws (by decide)]; simp
  | c :: x, Y, h => by
    rw [List.cons_append, pastN_in (h c (List.mem_cons_self ..)), past_note x Y (fun d hd => h d (List.mem_cons_of_mem _ hd)), List.length_cons]
    omega
theorem letby_of (x : List UInt8) (h : ∀ c ∈ x, c.toNat ≠ 10) : LetBy ([32, 9, 13, 10, 35] ++ x ++ [10, 32]) := by
  refine ⟨rfl, fun X => ?_⟩
  rw [show [32, 9, 13, 10, 35] ++ x ++ [10, 32] ++ X = 32 :: 9 :: 13 :: 10 :: 35 :: (x ++ 10 :: 32 :: X) by simp]
  rw [pastN_ws (by decide), pastN_ws (by decide), pastN_ws (by decide), pastN_ws (by decide), pastN_sharp (by decide), pastN_in (by decide), past_note x _ h, pastN_ws (by decide)]
  simp
  omega
theorem ins_len (s L : List UInt8) (c : Nat → Bool) : ∀ (toks : List Tok) (i p : Nat), (ins s L c i p toks).length ≤ s.length * (toks.length + 1) + toks.length * L.length
  | [], i, p => by simp [ins]
  | t :: ts, i, p => by
    have ih := ins_len s L c ts (i + 1) (t.a + t.l).toNat
    simp only [ins, List.length_append, List.length_take, List.length_drop, List.length_cons]
    have h2 : (if c i then L else []).length ≤ L.length := by split <;> simp
    rw [show s.length * (ts.length + 1 + 1) = s.length * (ts.length + 1) + s.length by rw [Nat.mul_add]; omega, show (ts.length + 1) * L.length = ts.length * L.length + L.length by rw [Nat.add_mul]; omega]
    omega
set_option maxHeartbeats 1000000 in
theorem rscan_long (s : ByteArray) (hs : 32768 < s.size) (w : World) : Calls Tryz.prog 22 #[.string s] w fun e w' => e = .returned (.tuple #[.slice none 0 0, .agg #[.int .i64 32768, .int .i64 2]]) ∧ Below w.heap.size w w' := by
  have hd : (32768 : Int) < (s.size : Int) := by omega
  go_enter Tryz.func22, Tryz.ntmps22
  go_wp2
  exact bodyPost_ret (v := .tuple #[.slice none 0 0, .agg #[.int .i64 32768, .int .i64 2]]) (by simp [results, Tryz.f22, go_sem]) rfl ⟨rfl, (Below.refl _ _).alloc (Nat.le_refl _) _⟩
theorem rscan_any (s : ByteArray) : ∃ fa fe : Int, ∀ w, Calls Tryz.prog 22 #[.string s] w fun e w' => ∃ A n c, e = .returned (.tuple #[.slice A n c, .agg #[.int .i64 fa, .int .i64 fe]]) ∧ Below w.heap.size w w' := by
  by_cases hs : s.size ≤ 32768
  · obtain ⟨toks, fa, fe, h1, h2, _⟩ := scan_both s hs
    refine ⟨fa, fe, fun w => (rscan_run s toks fa fe hs h2 w).mono ?_⟩
    rintro e w' ⟨v, k1, k2, k3⟩
    split at k2
    · obtain ⟨A, c, rfl⟩ := formT k2
      exact ⟨_, _, _, k1, k3⟩
    · subst k2
      exact ⟨_, _, _, k1, k3⟩
  · refine ⟨32768, 2, fun w => (rscan_long s (by omega) w).mono ?_⟩
    rintro e w' ⟨rfl, k3⟩
    exact ⟨_, _, _, rfl, k3⟩
end Go.Proofs
