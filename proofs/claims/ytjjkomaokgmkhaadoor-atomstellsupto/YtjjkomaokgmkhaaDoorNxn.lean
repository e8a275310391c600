/-
  Whether sets are too many.
-/
import Derived.RangeFuncNested
import Derived.RangeFuncBound
import Derived.RangeFuncCalls
import Derived.RangeFuncLeaves
import Derived.Shelf.Abstract
import Derived.Shelf.RegionOpen
import Derived.WalkKit
import Derived.WalkSpells
import Derived.WalkLawsBesides
import Derived.OwnWalkIn
import Derived.TacticsInMore
import Derived.LoopNIn
import Derived.LoopIn
import Derived.BigQuiet
import Derived.RegionIn
import Derived.Deep.QuietTactic
import Derived.Deep.RegionWith
import Derived.Lib.OthersKept
import Derived.Maps.AppendAt
import Derived.Lib.SmallJoins
import Derived.Shelf.SlSortCmp.QuietGrown
import Derived.Test.YtjjkomaokgmkhaaDoorMen
import Derived.Test.YtjjkomaokgmkhaaDoorRxn
namespace Go.Proofs
open Go.RowKit Go.Shelf

set_option maxRecDepth 100000
attribute [local go_sem] Oper.semAt_some
attribute [local go_sem ↓] Go.wp_at_zero Go.wp_at_succ

def unB (u : Int) : Bool := decide ((0 ≤ u ∧ u ≤ 55295) ∨ (57344 ≤ u ∧ u ≤ 1114111) ∨ (1114240 ≤ u ∧ u ≤ 1114367))
theorem unB_iff (u : Int) : unB u = true ↔ isUn u := by
  unfold unB isUn inS anyR
  simp
def wdB (u : Int) : Int := if unB u then (if (0 ≤ u ∧ u ≤ 127) ∨ 1114240 ≤ u then 1 else if u ≤ 2047 then 2 else if u ≤ 65535 then 3 else 4) else 0
theorem wdB_pos (u : Int) : decide (0 < wdB u) = unB u := by
  unfold wdB
  cases unB u with
  | false => simp
  | true => simp only [if_true]; repeat' split
            all_goals decide
set_option maxHeartbeats 1000000 in
theorem width32 (u : Int) (w : World) : Calls Tryd.prog 32 #[.int .i64 u] w fun e w' => e = .returned (.int .i64 (wdB u)) ∧ w' = w := by
  go_enter Tryd.func32, Tryd.ntmps32
  go_wp2
  all_goals (go_ret; refine ⟨?_, rfl⟩; show Ending.returned (Value.int .i64 _) = _; congr 2; unfold wdB unB; repeat' split)
  all_goals (first | omega | (simp only [decide_eq_true_eq] at *; omega))
theorem unit_any (u : Int) (w : World) : Calls Tryd.prog 19 #[.int .i64 u] w fun e w' => e = .returned (.bool (unB u)) ∧ w' = w := by
  have HC := Hid.mk' (width32 u w)
  have hp := wdB_pos u
  generalize wdB u = q at HC hp
  generalize unB u = b at hp ⊢
  go_enter Tryd.func19, Tryd.ntmps19
  go_wp2_with (go_at_call 32; refine HC.out.mono ?_; rintro e w' ⟨rfl, rfl⟩)
  go_ret
  exact ⟨by first | rfl | (rw [← hp]; rfl), rfl⟩
/-- a row of sets as it lies in memory: its values -/
structure LV (w : World) (A : Option Addr) (vals : List Value) (ss : List (List (Int × Int))) : Prop where
  len : vals.length = ss.length
  rd : ∀ j v, vals[j]? = some v → ∃ g o, A = some ⟨g, o, none⟩ ∧ w.cell? ⟨g, o + j, none⟩ = some v
  rs : ∀ (j : Nat) v s, vals[j]? = some v → ss[j]? = some s → Rs w v s
theorem LV.of {w : World} {A : Option Addr} {n c : Nat} {ss : List (List (Int × Int))} (h : SR w (.slice A n c) ss) : n = ss.length ∧ n ≤ c ∧ ∃ vals, LV w A vals ss := by
  obtain ⟨a, cap, e, hc, h⟩ := h
  injection e with e1 e2 e3
  subst e1
  subst e3
  refine ⟨e2, by omega, ?_⟩
  rcases h with rfl | ⟨g, o, rfl, hr⟩
  · exact ⟨[], rfl, fun j v h => by simp at h, fun j v s h => by simp at h⟩
  · refine ⟨(List.range ss.length).map fun j => (w.cell? ⟨g, o + j, none⟩).getD undef, by simp, fun j v hv => ⟨g, o, rfl, ?_⟩, fun j v s hv hs => ?_⟩
    · have hj := (List.getElem?_eq_some_iff.1 hv).1
      simp at hj
      obtain ⟨sv, e1, e2⟩ := hr j hj
      simp [hj, e1] at hv
      rw [e1, hv]
    · have hj := (List.getElem?_eq_some_iff.1 hs).1
      obtain ⟨sv, e1, e2⟩ := hr j hj
      simp [hj, e1] at hv
      rw [List.getElem?_eq_getElem hj] at hs
      injection hs with hs
      rw [← hv, ← hs]; exact e2
theorem LV.below {w w' : World} {A : Option Addr} {vals : List Value} {ss : List (List (Int × Int))} (h : LV w A vals ss) {n : Nat} (hb : Below n w w') (hn : w.heap.size ≤ n) : LV w' A vals ss :=
  ⟨h.len, fun j v hv => by
    obtain ⟨g, o, e1, e2⟩ := h.rd j v hv
    exact ⟨g, o, e1, cell_below e2 hb hn⟩, fun j v s hv hs => (h.rs j v s hv hs).below hb hn⟩
theorem LV.one {w : World} {A : Option Addr} {vals : List Value} {ss : List (List (Int × Int))} (h : LV w A vals ss) : ∀ u ∈ vals, u.oneCell' = true := fun u hu => by
  obtain ⟨j, hj, rfl⟩ := List.getElem_of_mem hu
  obtain ⟨a, c, e, _⟩ := h.rs j vals[j] (ss[j]'(by rw [← h.len]; exact hj)) (List.getElem?_eq_getElem hj) (List.getElem?_eq_getElem _)
  rw [e]; rfl
/-- a row of the call's own, of sets -/
theorem own_sr {w : World} {base : Nat} {v : Value} {vals : List Value} {ss : List (List (Int × Int))} (h : w.ownsRow base 27 1 v vals.length vals) (hl : vals.length = ss.length) (hr : ∀ (j : Nat) v s, vals[j]? = some v → ss[j]? = some s → Rs w v s) : SR w v ss := by
  rcases h.2 with ⟨rfl, h0⟩ | ⟨g, cap, cur, rfl, _, hg, hc, _, hsz, ht⟩
  · have : ss = [] := List.eq_nil_of_length_eq_zero (by omega)
    subst this
    exact ⟨none, 0, by simp, by simp, .inl rfl⟩
  · refine ⟨_, cap, by rw [hl], by omega, .inr ⟨g, 0, rfl, fun j hj => ?_⟩⟩
    have hj2 : j < vals.length := by omega
    refine ⟨vals[j], ?_, hr j _ _ (List.getElem?_eq_getElem hj2) (List.getElem?_eq_getElem hj)⟩
    rw [Nat.zero_add]
    refine heap_cellv hg ?_
    obtain ⟨x, hx⟩ : ∃ x, vals[j] = x := ⟨_, rfl⟩
    have h5 : vals[j]? = some x := by rw [List.getElem?_eq_getElem hj2, hx]
    rw [hx]
    rw [← ht, List.getElem?_take, if_pos (by omega), Array.getElem?_toList] at h5
    exact h5
/-- some sets behind a row of the call's own -/
theorem push_V {ops : Array Oper} {rest : List Oper} {o : Oper} {a : Act} {Q : Exit → Act → World → Prop} {w : World} (hgd : o.guard = none) (s x : Operand)
    (ho : o.op = .call { callee := .builtin .append, args := #[s, x], argTypes := #[22, 22] })
    (base : Nat) (v : Value) (xs : List Value) (hs : a.eval s = v) (hown : w.ownsRow base 27 1 v xs.length xs) (A : Addr) (m c : Nat) (news : List Value) (hx : a.eval x = .slice (some A) m c) (hl : news.length = m)
    (hc : ∀ j u, news[j]? = some u → w.cell? (A.add j) = some u) (h1 : ∀ u ∈ news, u.oneCell' = true) (hn : xs.length + m ≤ 1000000) (hbase : base ≤ w.heap.size)
    (h : ∀ v' w', w'.ownsRow base 27 1 v' (xs ++ news).length (xs ++ news) → Below base w w' → wpList Tryd.prog ops Q rest (a.put o.dst v') w') : wpList Tryd.prog ops Q (o :: rest) a w := by
  obtain ⟨i0, hi, hz0, hz1, hz2⟩ := info_parts info27
  refine wpList_append_own_at w hgd s x 22 ho base 27 i0 (.slice none 0 0) 1 24 Tryd.underlying22 hi hz0 hz1 hz2 rfl (by decide) v xs.length xs hs hown A m c news hx (by omega) hc h1 (by unfold maxLen; omega) (by omega) hbase (fun v' w' h2 h3 _ _ => h v' w' ?_ ?_)
  · rw [List.length_append, hl]; exact h2
  · exact (fr_by h3).below (fun k hk => (World.ownsRow.lt hown k hk).1) hbase
theorem append_none (h : Nat) (B : Option Addr) (c : Nat) (ty : TypeId) (w : World) : (Builtin.append_ #[22, 22] ty #[.slice (some ⟨h, 0, none⟩) 0 0, .slice B 0 c]).run Tryd.prog w = .ok (.slice (some ⟨h, 0, none⟩) 0 0) w := by
  obtain ⟨i0, hi, hz0, hz1, hz2⟩ := info_parts info27
  cases B <;> simp [Builtin.append_, run_underlying Tryd.underlying22, Go.sizeOf, typeInfo, hi, Builtin.lenOf, Builtin.firstCells, storeCells, loadCells, loadCellsFrom]
/-- a whole row of sets behind nothing -/
theorem push_L {ops : Array Oper} {rest : List Oper} {o : Oper} {a : Act} {Q : Exit → Act → World → Prop} {w : World} (hgd : o.guard = none) (s x : Operand)
    (ho : o.op = .call { callee := .builtin .append, args := #[s, x], argTypes := #[22, 22] })
    (base hh : Nat) (hs : a.eval s = .slice (some ⟨hh, 0, none⟩) 0 0) (hown : w.ownsRow base 27 1 (.slice (some ⟨hh, 0, none⟩) 0 0) 0 []) (A : Option Addr) (m c : Nat) (vals : List Value) (ss : List (List (Int × Int))) (hx : a.eval x = .slice A m c) (hl : vals.length = m)
    (hv : LV w A vals ss) (hn : m ≤ 1000000) (hbase : base ≤ w.heap.size)
    (h : ∀ v' w', w'.ownsRow base 27 1 v' vals.length vals → Below base w w' → wpList Tryd.prog ops Q rest (a.put o.dst v') w') : wpList Tryd.prog ops Q (o :: rest) a w := by
  by_cases h0 : vals = []
  · subst h0
    obtain rfl : m = 0 := by simpa using hl.symm
    refine wpList_plain hgd fun K hK => ?_
    have hrun := append_none hh A c o.type w
    unfold Oper.wp
    simp [execOp, ho, resolve, invoke, builtin, hs, hx, hrun, Result.andThen]
    exact hK _ _ (h _ _ hown (Below.refl _ _))
  · obtain ⟨v0, hv0⟩ : ∃ v0, vals[0]? = some v0 := ⟨_, List.getElem?_eq_getElem (List.length_pos_iff.2 h0)⟩
    obtain ⟨g, o', hA, _⟩ := hv.rd 0 v0 hv0
    subst hA
    refine push_V hgd s x ho base _ [] hs hown ⟨g, o', none⟩ m c vals hx hl (fun j u hj => ?_) hv.one (by simpa using hn) hbase (fun v' w' h1 h2 => h v' w' (by simpa using h1) h2)
    obtain ⟨g2, o2, e, hc⟩ := hv.rd j u hj
    injection e with e
    injection e with e1 e2 _
    rw [Addr.add_lit, e1, e2]; exact hc
def totS (ss : List (List (Int × Int))) : Nat := (ss.map List.length).sum
theorem totS_take (ss : List (List (Int × Int))) {k : Nat} (hk : k < ss.length) : totS (ss.take (k + 1)) = totS (ss.take k) + ss[k].length := by
  unfold totS
  rw [List.take_succ_eq_append_getElem hk, List.map_append, List.sum_append]; simp
theorem totS_le (ss : List (List (Int × Int))) (k : Nat) : totS (ss.take k) ≤ totS ss := by
  unfold totS
  conv => rhs; rw [← List.take_append_drop k ss, List.map_append, List.sum_append]
  omega
theorem allT_len : ∀ (k : Nat) (ss : List (List (Int × Int))), (allT k ss).length = 2 * totS ss
  | _, [] => rfl
  | k, s :: r => by
    have := allT_len (k + 1) r
    rw [allT, List.length_append, this, tnS_len]
    unfold totS
    simp; omega
/-- what is not too great -/
def Few (ss : List (List (Int × Int))) : Prop := ss.length ≤ 1500 ∧ (ss.length + totS ss ≤ 1500 ∨ ∃ s ∈ ss, 512 < s.length)
theorem Few.valid {ss : List (List (Int × Int))} (h : Few ss) (hv : ∀ s ∈ ss, validB s = true) : ss.length + totS ss ≤ 1500 := by
  rcases h.2 with h | ⟨s, hs, hl⟩
  · exact h
  · have := ((validB_iff s).1 (hv s hs)).1
    omega
end Go.Proofs
namespace Go.Proofs
open Go.RowKit Go.Shelf

set_option maxRecDepth 100000
attribute [local go_sem] Oper.semAt_some
attribute [local go_sem ↓] Go.wp_at_zero Go.wp_at_succ

theorem great_big (A : Option Addr) (n c : Nat) (w : World) (hn : 1500 < n) : Calls Tryd.prog 7 #[.slice A n c] w fun e w' => e = .returned (.bool true) ∧ w' = w := by
  have hnI : ¬ (n : Int) ≤ 1500 := by omega
  have hnI2 : (1500 : Int) < (n : Int) := by omega
  have hnI3 : (0 : Int) < (n : Int) := by omega
  go_enter Tryd.func7, Tryd.ntmps7
  go_wp2
  refine wp_loop_rounds 1 ?_
  rw [rounds_succ]
  go_wp2
  go_ret
  exact ⟨rfl, rfl⟩
def GrQ (ss : List (List (Int × Int))) (w : World) (e : Ending) (w' : World) : Prop := ∃ b, e = .returned (.bool b) ∧ w' = w ∧ (b = false → Few ss)
set_option maxHeartbeats 2000000 in
theorem great_few (A : Option Addr) (n c : Nat) (vals : List Value) (ss : List (List (Int × Int))) (w : World) (hN : ss.length = n) (hn : n ≤ 1500) (h : LV w A vals ss) : Calls Tryd.prog 7 #[.slice A n c] w (GrQ ss w) := by
  have HL := Hid.mk' h
  have HN := Hid.mk' hN
  have hnI : (n : Int) ≤ 1500 := by omega
  clear h hN
  go_enter Tryd.func7, Tryd.ntmps7
  go_wp2
  go_loopg [3, 4] n (fun q s3 s4 wr => ∃ (i : Nat) (nv : Int), s3 = .int .i64 nv ∧ s4 = .int .i64 (i : Int) ∧ i ≤ n ∧ n - i ≤ q ∧ Hid (wr = w ∧ ((∃ s ∈ ss, 512 < s.length) ∨ nv = ((n + totS (ss.take i) : Nat) : Int))))
  case atStart => exact ⟨0, _, rfl, rfl, by omega, by omega, rfl, .inr (by simp [totS])⟩
  case round =>
    obtain ⟨i, nv, rfl, rfl, hi1, hi2, HR⟩ := hrel
    obtain ⟨hwe, hal⟩ := HR.out
    subst hwe
    clear HR
    have hiI : (i : Int) ≤ 1500 := by omega
    by_cases hil : i < n
    · have hilI : (i : Int) < (n : Int) := by omega
      by_cases hnv : nv ≤ 1500
      · have his : i < ss.length := by rw [HN.out]; exact hil
        have hiv : i < vals.length := by rw [HL.out.len]; exact his
        obtain ⟨g, o, hA, hc⟩ := HL.out.rd i vals[i] (List.getElem?_eq_getElem hiv)
        subst hA
        obtain ⟨sa, sc, hse, hcap, _⟩ := HL.out.rs i vals[i] ss[i] (List.getElem?_eq_getElem hiv) (List.getElem?_eq_getElem his)
        rw [hse] at hc
        obtain ⟨L, hL⟩ : ∃ L, ss[i].length = L := ⟨_, rfl⟩
        rw [hL] at hc
        have ht := totS_take ss his
        rw [hL] at ht
        by_cases hbad : (∃ s ∈ ss, 512 < s.length)
        · have HB := Hid.mk' hbad
          clear hal hse hL ht hbad hiv hcap
          go_wp2
          go_roundg (n - (i + 1))
          case measure => omega
          case rel => exact ⟨i + 1, _, rfl, rfl, by omega, Nat.le_refl _, rfl, .inl HB.out⟩
        · have hnv2 := hal.resolve_left hbad
          have hL2 : L ≤ 512 := by
            rcases Nat.lt_or_ge 512 L with h1 | h1
            · exact absurd ⟨ss[i], List.getElem_mem his, by omega⟩ hbad
            · exact h1
          have hn0 : 0 ≤ nv := by omega
          have HT : Hid (nv + (L : Int) = ((n + totS (ss.take (i + 1)) : Nat) : Int)) := by show _ = _; omega
          have hLI : (L : Int) ≤ 512 := by omega
          clear hal hse hL ht hbad hiv hcap hnv2
          go_wp2
          go_roundg (n - (i + 1))
          case measure => omega
          case rel => exact ⟨i + 1, _, rfl, rfl, by omega, Nat.le_refl _, rfl, .inr HT.out⟩
      · have HA := Hid.mk' hal
        have hnv2 : (1500 : Int) < nv := by omega
        clear hal
        go_wp2
        go_ret
        exact ⟨_, rfl, rfl, fun e => by cases e⟩
    · have hilI : ¬ (i : Int) < (n : Int) := by omega
      have hie : i = n := by omega
      subst hie
      rw [List.take_of_length_le (by have := HN.out; omega)] at hal
      have HA := Hid.mk' hal
      clear hal
      by_cases hnv : (1500 : Int) < nv
      · go_wp2
        go_ret
        exact ⟨_, rfl, rfl, fun e => by cases e⟩
      · have HNV := Hid.mk' hnv
        go_wp2
        go_ret
        refine ⟨_, rfl, rfl, fun _ => ⟨by rw [HN.out]; exact hn, ?_⟩⟩
        rcases HA.out with e | e
        · exact .inr e
        · left
          have := HNV.out
          have := HN.out
          omega
theorem great_any (A : Option Addr) (n c : Nat) (vals : List Value) (ss : List (List (Int × Int))) (w : World) (hN : ss.length = n) (h : LV w A vals ss) : Calls Tryd.prog 7 #[.slice A n c] w (GrQ ss w) := by
  by_cases hn : n ≤ 1500
  · exact great_few A n c vals ss w hN hn h
  · refine (great_big A n c w (by omega)).mono ?_
    rintro e w' ⟨rfl, rfl⟩
    exact ⟨_, rfl, rfl, fun e => by cases e⟩
end Go.Proofs
