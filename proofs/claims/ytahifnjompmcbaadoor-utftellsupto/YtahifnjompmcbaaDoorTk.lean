/-
  What UtfTells needs besides: rows that are written into and those that stay.
-/
import Derived.RangeFuncNested
import Derived.RangeFuncBound
import Derived.RangeFuncCalls
import Derived.RangeFuncLeaves
import Derived.Shelf.Abstract
import Derived.Shelf.RegionOpen
import Derived.WalkKit
import Derived.WalkSpells
import Derived.WalkLawsBesides
import Derived.OwnWalkIn
import Derived.TacticsInMore
import Derived.LoopNIn
import Derived.LoopIn
import Derived.BigQuiet
import Derived.RegionIn
import Derived.Deep.QuietTactic
import Derived.Lib.OthersKept
import Derived.Maps.AppendAt
import Derived.Lib.IndexBytes
import Derived.Lib.SmallJoins
import Derived.Deep.RegionWith
import Derived.ArgAppend
import Derived.Laws.CopyOwn
import Derived.Laws.MakeOwn
import Derived.Deep.RegionHeld3
import Derived.Deep.AppendLies
import Derived.Test.YtahifnjompmcbaaDoorTj
namespace Go.Proofs
open Go.RowKit Go.Shelf

set_option maxRecDepth 100000
attribute [local go_sem] Oper.semAt_some

theorem OwnI0.le {w : World} {base base' : Nat} {v : Value} {l : List Int} (h : OwnI0 w base v l) (hb : base' ≤ base) : OwnI0 w base' v l := h.imp id fun h => Joins.ownsRow_le h hb
set_option maxHeartbeats 4000000 in
theorem rcut_own (s : ByteArray) (w : World) (hs : s.size ≤ 4398046511104) : Calls Tryd.prog 22 #[.string s] w fun e w' => ∃ v, e = .returned v ∧ OwnI0 w' w.heap.size v (ints (units s)) ∧ Below w.heap.size w w' := by
  have hul := units_len s
  go_enter Tryd.func22, Tryd.ntmps22
  go_wp2_with fail
  refine (runits_any s _ hs).mono ?_
  rintro e w1 ⟨v, rfl, hO, hb⟩
  obtain ⟨A, n, cap, rfl, hn, hcells⟩ : ∃ A n cap, v = .slice A n cap ∧ n = (units s).length ∧ ∀ j x, (units s)[j]? = some x → ∃ g, A = some ⟨g, 0, none⟩ ∧ g < w1.heap.size ∧ w1.cell? ⟨g, j * 2 + 1, none⟩ = some (.int .i64 x.2) ∧ n ≤ cap := by
    rcases hO.2 with ⟨rfl, h0⟩ | ⟨g, cap, cur, rfl, _, hh, hc, _⟩
    · have : units s = [] := List.eq_nil_of_length_eq_zero h0
      exact ⟨none, 0, 0, rfl, by rw [this]; rfl, fun j x h => by rw [this] at h; simp at h⟩
    · exact ⟨_, _, cap, rfl, rfl, fun j x h => ⟨g, rfl, (Array.getElem?_eq_some_iff.1 hh).1, (OwnU.at hO h).2, hc⟩⟩
  have HC : Hid (∀ j x, (units s)[j]? = some x → ∃ g, A = some ⟨g, 0, none⟩ ∧ g < w1.heap.size ∧ w1.cell? ⟨g, j * 2 + 1, none⟩ = some (.int .i64 x.2) ∧ n ≤ cap) := hcells
  have HN : Hid (n = (units s).length) := hn
  have hni : n ≤ 4398046511104 := by omega
  have hb0 : Below w.heap.size w w1 := by
    first | exact hb | exact ((Below.refl _ w).alloc (Nat.le_refl _) _).trans (hb.mono (by simp))
  have HB : Hid (Below w.heap.size w w1) := hb0
  have hz1 : w.heap.size ≤ w1.heap.size := hb0.size
  clear hcells hb hn hO hb0 hul
  go_wp2
  go_loopw [3, 5] (fun vo vi wr => ∃ i : Nat, vi = .int .i64 i ∧ i ≤ n ∧ OwnI0 wr w1.heap.size vo ((ints (units s)).take i) ∧ Below w1.heap.size w1 wr) (fun _ vi _ => n - (intOf vi).toNat)
  case atStart => exact ⟨0, rfl, by omega, .inl ⟨_, rfl, rfl⟩, Below.refl _ _⟩
  case round =>
    obtain ⟨i, rfl, hi, hO, hW⟩ := hrel
    have hz : w1.heap.size ≤ wr.heap.size := hW.size
    by_cases hin : i = n
    · as_aux_lemma =>
        have hni' := hin.symm
        subst hni'
        have HO : Hid (OwnI0 wr w.heap.size u3 (ints (units s))) := by
          have := hO.le hz1
          rw [List.take_of_length_le (by rw [ints_length, HN.out]; exact Nat.le_refl _)] at this
          exact this
        have HW : Hid (Below w1.heap.size w1 wr) := hW
        clear hO hW
        go_wp2
        go_ret
        exact ⟨_, rfl, HO.out, HB.out.trans (HW.out.mono hz1)⟩
    · as_aux_lemma =>
        obtain ⟨x, hx⟩ : ∃ x, (units s)[i]? = some x := ⟨_, List.getElem?_eq_getElem (by rw [← HN.out]; omega)⟩
        obtain ⟨g, rfl, hg, hc, hcap⟩ := HC.out i x hx
        have hc' := (hW.cell (p := ⟨g, i * 2 + 1, none⟩) hg).trans hc
        have HT : Hid ((ints (units s)).take (i + 1) = (ints (units s)).take i ++ [(x.2 : Int)]) := ints_at hx
        have hlen : ((ints (units s)).take i).length = i := by rw [List.length_take, ints_length, ← HN.out]; omega
        have HO : Hid (OwnI0 wr w1.heap.size u3 ((ints (units s)).take i)) := hO
        have HW : Hid (Below w1.heap.size w1 wr) := hW
        have HL : Hid (((ints (units s)).take i).length = i) := hlen
        clear hx hc hO hW hlen
        go_wp2_with (at_builtin; go_must (refine push_I0 rfl _ _ rfl w1.heap.size _ _ rfl (HO.out.alloc _) _ _ (x.2 : Int) rfl (by simp) (by rw [HL.out]; omega) (by simp; omega) ?_); intro v' w3 hO1 hb3)
        exact ⟨⟨i + 1, by go_num, by omega, by rw [HT.out]; exact hO1, (HW.out.alloc hz _).trans hb3⟩, by simp [intOf]; omega⟩
theorem grownBy_trans {a b c : World} {row : Option Nat} (h : a.grownBy b row) (k : b.grownBy c row) : a.grownBy c row :=
  ⟨k.os.trans h.os, k.tape.trans h.tape, k.output.trans h.output, Nat.le_trans h.size k.size, fun i hi hne => (k.block i (Nat.lt_of_lt_of_le hi h.size) hne).trans (h.block i hi hne)⟩
theorem grownBy_refl (a : World) (row : Option Nat) : a.grownBy a row := ⟨rfl, rfl, rfl, Nat.le_refl _, fun _ _ _ => rfl⟩
theorem Ints.kept {W W' : World} {v : Value} {xs : List Int} {row : Option Nat} (h : Ints W v xs) (k : W.grownBy W' row) (hne : xs = [] ∨ v.ownBlock ≠ row) : Ints W' v xs := by
  obtain ⟨a, cap, rfl, hc⟩ := h
  refine ⟨a, cap, rfl, ?_⟩
  rcases hc with hc | ⟨g, o, rfl, hc⟩
  · exact .inl hc
  · by_cases h0 : xs = []
    · exact .inl h0
    · refine .inr ⟨g, o, rfl, fun j hj => ?_⟩
      have hcell := hc j hj
      obtain ⟨ob, ho, _⟩ := cells_of_cell hcell
      have hb := k.block g (Array.getElem?_eq_some_iff.1 ho).1 (fun e => (hne.resolve_left h0) (by simpa [Value.ownBlock] using e))
      exact (World.cell?_of_block (w := W) hb).trans hcell
def flatI (l : List (Nat × Nat)) : List Int := l.flatMap fun x => [(x.1 : Int), (x.2 : Int)]
theorem flat_map (l : List (Nat × Nat)) : flat l = (flatI l).map (Value.int .i64) := by
  induction l with
  | nil => rfl
  | cons x l ih =>
    have e1 : flat (x :: l) = .int .i64 x.1 :: .int .i64 x.2 :: flat l := by simp [flat]
    have e2 : flatI (x :: l) = (x.1 : Int) :: (x.2 : Int) :: flatI l := by simp [flatI]
    rw [e1, e2, ih]; rfl
theorem flatI_length (l : List (Nat × Nat)) : (flatI l).length = 2 * l.length := by
  have := flat_length l
  rw [flat_map, List.length_map] at this
  exact this
theorem flatI_take : ∀ (l : List (Nat × Nat)) (k : Nat), flatI (l.take k) = (flatI l).take (2 * k)
  | [], k => by simp [flatI]
  | x :: l, 0 => by simp [flatI]
  | x :: l, k + 1 => by
    have e2 : ∀ r, flatI (x :: r) = (x.1 : Int) :: (x.2 : Int) :: flatI r := fun r => by simp [flatI]
    rw [List.take_succ_cons, e2, e2, flatI_take l k, show 2 * (k + 1) = 2 * k + 1 + 1 by omega]
    rfl
theorem ints_of_flat {w : World} {base : Nat} {v : Value} {l : List (Nat × Nat)} {n : Nat} (hn : n = 2 * l.length) (h : w.ownsRow base 3 1 v n (flat l)) : Ints w v (flatI l) := by
  refine Ints.of_row (base := base) ?_
  rw [flatI_length, ← flat_map, ← hn]
  exact h
/-- the first ones of a row -/
theorem Ints.cut {w : World} {a : Option Addr} {n cap : Nat} {xs : List Int} (h : Ints w (.slice a n cap) xs) (k cap' : Nat) (hk : k ≤ xs.length) : Ints w (.slice a k cap') (xs.take k) := by
  obtain ⟨a', c', e, hc⟩ := h
  injection e with e1 e2 e3
  subst e1
  refine ⟨a, cap', by rw [List.length_take]; congr 1; omega, ?_⟩
  rcases hc with rfl | ⟨g, o, rfl, hc⟩
  · exact .inl (by simp)
  · refine .inr ⟨g, o, rfl, fun j hj => ?_⟩
    rw [List.length_take] at hj
    rw [hc j (by omega), List.getElem?_take_of_lt (by omega)]
theorem take_snoc2 {l : List (Nat × Nat)} {i : Nat} {x : Nat × Nat} (h : l[i]? = some x) : flat (l.take (i + 1)) = flat (l.take i) ++ [.int .i64 x.1, .int .i64 x.2] := by
  obtain ⟨hlt, e⟩ := List.getElem?_eq_some_iff.1 h
  rw [List.take_succ_eq_append_getElem hlt, e, flat_snoc]
end Go.Proofs
