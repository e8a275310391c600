/-
  Names: all names, laid anew; a row of strings of the call's own.
-/
import Derived.RangeFuncNested
import Derived.RangeFuncBound
import Derived.RangeFuncCalls
import Derived.RangeFuncLeaves
import Derived.Shelf.SlSorted.Search
import Derived.Deep.MidRow
import Derived.Maps.OwnSet
import Derived.Maps.OwnOps
import Derived.Shelf.Abstract
import Derived.Shelf.RegionOpen
import Derived.WalkKit
import Derived.WalkSpells
import Derived.WalkLawsBesides
import Derived.OwnWalkIn
import Derived.TacticsInMore
import Derived.LoopNIn
import Derived.LoopIn
import Derived.BigQuiet
import Derived.RegionIn
import Derived.Deep.QuietTactic
import Derived.Deep.RegionWith
import Derived.Lib.OthersKept
import Derived.Maps.AppendAt
import Derived.Lib.SmallJoins
import Derived.Shelf.SlSortCmp.QuietGrown
import Derived.Deep.DrawnRows
import Derived.Test.YtaekagipnolhiaaDoorCs
namespace Go.Proofs
open Go.RowKit Go.Shelf

set_option maxRecDepth 100000
attribute [local go_sem] Oper.semAt_some
open Go.Maps
def OwnS (w : World) (base : Nat) (v : Value) (l : List ByteArray) : Prop := w.ownsRow base 9 1 v l.length (l.map Value.string)
theorem OwnS.nil (w : World) (base : Nat) : OwnS w base (.slice none 0 0) [] := World.ownsRow_nil _ _ _ _
theorem OwnS.alloc {w : World} {base : Nat} {v : Value} {l : List ByteArray} (h : OwnS w base v l) (o : Obj) : OwnS (w.alloc o) base v l := World.ownsRow.alloc h o
theorem OwnS.le {w : World} {base base' : Nat} {v : Value} {l : List ByteArray} (h : OwnS w base v l) (hb : base' ≤ base) : OwnS w base' v l := Joins.ownsRow_le h hb
theorem OwnS.below {w w' : World} {base n : Nat} {v : Value} {l : List ByteArray} (h : OwnS w base v l) (hb : Below n w w') (hn : w.heap.size ≤ n) : OwnS w' base v l := by
  refine ⟨h.1, ?_⟩
  rcases h.2 with h | ⟨g, cap, cur, rfl, h1, h2, h3⟩
  · exact .inl h
  · have : g < w.heap.size := (Array.getElem?_eq_some_iff.1 h2).1
    exact .inr ⟨g, cap, cur, rfl, h1, (hb.block g (by omega)).trans h2, h3⟩
theorem info9 : (Tryd.prog.info? 9).map (fun i => (i.zero, i.size, i.bytes)) = some (some (.string ⟨#[]⟩), 1, 16) := by kernel_rfl
theorem owns_below {w w' : World} {base : Nat} {v : Value} {l : List ByteArray} (h : OwnS w base v l) (hb : base ≤ w.heap.size) (hg : w.grownBy w' v.ownBlock) : Below base w w' := (Below.refl _ w).grown hg hb (fun k hk => (World.ownsRow.lt h k hk).1)
/-- one string more behind a row of the call's own -/
theorem push_S {ops : Array Oper} {rest : List Oper} {o : Oper} {a : Act} {Q : Exit → Act → World → Prop} {w : World} (hgd : o.guard = none) (s x : Operand)
    (ho : o.op = .call { callee := .builtin .append, args := #[s, x], argTypes := #[33, 33] })
    (base : Nat) (v : Value) (l : List ByteArray) (hs : a.eval s = v) (hown : OwnS w base v l) (g c : Nat) (p : ByteArray) (hx : a.eval x = .slice (some ⟨g, 0, none⟩) 1 c)
    (hp : w.cell? ⟨g, 0, none⟩ = some (.string p)) (hl : l.length + 1 ≤ 8796093022208) (hbase : base ≤ w.heap.size)
    (h : ∀ v' w', OwnS w' base v' (l ++ [p]) → w.grownBy w' v.ownBlock → Below base w w' → wpList Tryd.prog ops Q rest (a.put o.dst v') w') : wpList Tryd.prog ops Q (o :: rest) a w := by
  obtain ⟨i0, hi, hz0, hz1, hz2⟩ := info_parts info9
  refine wpList_append_own w hgd s x 33 ho base 9 i0 (.string ⟨#[]⟩) 1 16 Tryd.underlying33 hi hz0 hz1 hz2 rfl (by decide) v l.length (l.map Value.string) hs hown ⟨g, 0, none⟩ 1 c [.string p] hx rfl ?_ (by simp [Value.oneCell']) (by unfold maxLen; omega) (by omega) hbase (fun v' w' h2 h3 _ => h v' w' ?_ h3 (owns_below hown hbase h3))
  · intro j u hj
    match j, hj with
    | 0, hj => simp at hj; subst hj; exact hp
  · unfold OwnS
    rw [List.map_append, List.length_append]
    exact h2
/-- all names -/
def nms : List ByteArray := tbl.map (·.1)
theorem nms_len : nms.length = 24 := rfl
theorem nms_take {k : Nat} (hk : k < 24) : nms.take (k + 1) = nms.take k ++ [nmAt k] := by
  have h1 : k < nms.length := hk
  have h2 : k < tbl.length := hk
  rw [List.take_succ_eq_append_getElem h1]
  simp [nms, nmAt, List.getElem?_eq_getElem h2]
set_option maxHeartbeats 2000000 in
theorem names_any (w : World) : Calls Tryd.prog 12 #[] w fun e w' => ∃ v, e = .returned v ∧ OwnS w' w.heap.size v nms ∧ Below w.heap.size w w' := by
  go_enter Tryd.func12, Tryd.ntmps12
  go_wp2_with fail
  refine (table_any _).mono ?_
  rintro e w1 ⟨B, rfl, hG, hB, hT⟩
  have HT : Hid (TblFrom w1 B w.heap.size) := hT
  have HW : Hid (Below w.heap.size w w1) := hG.below
  have hzz : w.heap.size ≤ w1.heap.size := hG.size
  clear hT hG hB
  go_wp2
  go_loopw [1, 6] (fun vs vi wr => ∃ j : Nat, vi = .int .i64 j ∧ j ≤ 24 ∧ OwnS wr w1.heap.size vs (nms.take j) ∧ Below w1.heap.size w1 wr) (fun _ vi _ => 24 - (intOf vi).toNat)
  case atStart => exact ⟨0, rfl, by omega, OwnS.nil _ _, Below.refl _ _⟩
  case round =>
    obtain ⟨j, rfl, hj, hO, hBr⟩ := hrel
    have hz := hBr.size
    by_cases hjm : j = 24
    · subst hjm
      go_wp2
      go_ret
      exact ⟨_, rfl, OwnS.le hO hzz, HW.out.trans (hBr.mono hzz)⟩
    · obtain ⟨x, hx, hxn⟩ := nm_some (k := j) (by omega)
      obtain ⟨c0, b, -, c1, -⟩ := HT.out.below hBr (Nat.le_refl _) j x hx
      obtain ⟨s, hs⟩ : ∃ s, s = x.1 := ⟨_, rfl⟩
      obtain ⟨m, hm⟩ : ∃ m, m = x.2.length := ⟨_, rfl⟩
      rw [← hs] at c0
      rw [← hm] at c1
      have HN : Hid (nms.take (j + 1) = nms.take j ++ [s]) := by show _ = _; rw [nms_take (by omega), hs, hxn]
      have htk : (nms.take j).length = j := by rw [List.length_take, nms_len]; omega
      clear hs hm hxn hx
      go_wp2_with (at_builtin; go_must (refine push_S rfl _ _ rfl w1.heap.size _ _ rfl ((hO.alloc _).alloc _) _ _ s rfl (by simp) (by omega) (by simp; omega) ?_); intro v' w3 hO1 _ hb1)
      exact ⟨⟨j + 1, by go_num, by omega, by rw [HN.out]; exact hO1, ((hBr.alloc hz _).alloc (by simp; omega) _).trans hb1⟩, by simp [intOf]; omega⟩
end Go.Proofs
