/-
  The document makes a table.
-/
import Derived.RangeFuncNested
import Derived.RangeFuncBound
import Derived.RangeFuncCalls
import Derived.RangeFuncLeaves
import Derived.Shelf.Abstract
import Derived.Shelf.RegionOpen
import Derived.WalkKit
import Derived.WalkSpells
import Derived.WalkLawsBesides
import Derived.OwnWalkIn
import Derived.TacticsInMore
import Derived.LoopNIn
import Derived.LoopIn
import Derived.BigQuiet
import Derived.RegionIn
import Derived.Deep.QuietTactic
import Derived.Deep.RegionWith
import Derived.Lib.OthersKept
import Derived.Maps.AppendAt
import Derived.Lib.SmallJoins
import Derived.Shelf.SlSortCmp.QuietGrown
import Derived.Deep.AppendLies
import Derived.Test.YtjjkomaokgmkhaaDoorOxn
namespace Go.Proofs
open Go.RowKit Go.Shelf

set_option maxRecDepth 100000
attribute [local go_sem] Oper.semAt_some
attribute [local go_sem ↓] Go.wp_at_zero Go.wp_at_succ

theorem radd_facts {ss : List (List (Int × Int))} {L : List (List Bool × List (Int × Int))} {p : Int × Int} (h : ∀ x ∈ L, x.1.length = ss.length) : (radd ss L p).length ≤ L.length + 1 ∧ ∀ x ∈ radd ss L p, x.1.length = ss.length := by
  have hi : (inV ss p.1).length = ss.length := by simp [inV]
  unfold radd
  split
  · refine ⟨by simp, fun x hx => ?_⟩
    have hm : x.1 ∈ (L.modify ((L.map Prod.fst).idxOf (inV ss p.1)) (fun x => (x.1, mrg x.2 p))).map Prod.fst := List.mem_map_of_mem hx
    rw [map_fst_modify] at hm
    obtain ⟨y, hy, e⟩ := List.mem_map.1 hm
    rw [← e]; exact h y hy
  · refine ⟨by simp, fun x hx => ?_⟩
    rcases List.mem_append.1 hx with hx | hx
    · exact h x hx
    · simp at hx; subst hx; exact hi
theorem mrg_len (l : List (Int × Int)) (p : Int × Int) : (mrg l p).length ≤ l.length + 1 := by
  unfold mrg
  split
  · split <;> simp
  · simp
theorem radd_len {ss : List (List (Int × Int))} {L : List (List Bool × List (Int × Int))} {p : Int × Int} {m : Nat} (h : ∀ x ∈ L, x.2.length ≤ m) : ∀ x ∈ radd ss L p, x.2.length ≤ m + 1 := by
  unfold radd
  split
  · intro x hx
    obtain ⟨j, hj, rfl⟩ := List.getElem_of_mem hx
    have hj' : j < L.length := by simpa using hj
    rw [List.getElem_modify]
    have := h _ (List.getElem_mem hj')
    split
    · have := mrg_len L[j].2 p; simp only; omega
    · omega
  · intro x hx
    rcases List.mem_append.1 hx with hx | hx
    · have := h x hx; omega
    · simp at hx; subst hx; simp
theorem rfill_len (ss : List (List (Int × Int))) (P : List (Int × Int)) : ∀ k, k ≤ P.length → ∀ x ∈ rfill ss (P.take k), x.2.length ≤ k
  | 0, _ => by simp [rfill]
  | k + 1, hk => by
    rw [List.take_succ_eq_append_getElem (by omega), rfill_snoc]
    exact radd_len (rfill_len ss P k (by omega))
theorem modify_set {α : Type} (L : List α) (i : Nat) (f : α → α) (h : i < L.length) : L.modify i f = L.set i (f L[i]) := by
  apply List.ext_getElem (by simp)
  intro n h1 h2
  rw [List.getElem_modify, List.getElem_set]
  by_cases e : i = n
  · subst e; simp
  · simp [e]
theorem fl_last (l : List (Int × Int)) (m : Nat) (q p : Int × Int) (hl : l.length = m + 1) (hq : rg l m = q) (h : q.2 + 1 = p.1) : (fl l).set (m * 2 + 1) (.int .i64 p.2) = fl (mrg l p) ∧ (mrg l p).length = l.length := by
  have hne : l ≠ [] := fun e => by rw [e] at hl; simp at hl
  have hlast : l.getLast? = some q := by
    rw [List.getLast?_eq_getElem?, hl, Nat.add_sub_cancel, List.getElem?_eq_getElem (by omega), ← hq, rg_lt (by omega)]
  have hs : l = l.dropLast ++ [q] := by
    have h1 := (List.dropLast_concat_getLast hne).symm
    rw [List.getLast?_eq_some_getLast hne] at hlast
    injection hlast with hlast
    rw [hlast] at h1
    exact h1
  have hd : l.dropLast.length = m := by simp [hl]
  have hm : mrg l p = l.dropLast ++ [(q.1, p.2)] := by unfold mrg; rw [hlast]; simp [h]
  rw [hm]
  refine ⟨?_, by simp [hl]⟩
  conv => lhs; rw [hs]
  rw [fl_append, fl_append, List.set_append_right _ _ (by rw [fl_length, hd]; omega), fl_length, hd]
  congr 1
  simp [fl]
theorem mrg_app {l : List (Int × Int)} {p : Int × Int} (h : ∀ q, l.getLast? = some q → q.2 + 1 ≠ p.1) : mrg l p = l ++ [p] := by
  unfold mrg
  split
  · rename_i q hq
    rw [if_neg (h q hq)]
  · rename_i hq
    rw [List.getLast?_eq_none_iff.1 hq]; rfl
theorem rfill_facts (ss : List (List (Int × Int))) (P : List (Int × Int)) : ∀ k, k ≤ P.length → (rfill ss (P.take k)).length ≤ k ∧ ∀ x ∈ rfill ss (P.take k), x.1.length = ss.length
  | 0, _ => ⟨by simp [rfill], by simp [rfill]⟩
  | k + 1, hk => by
    obtain ⟨a1, a2⟩ := rfill_facts ss P k (by omega)
    rw [List.take_succ_eq_append_getElem (by omega), rfill_snoc]
    obtain ⟨b1, b2⟩ := radd_facts (p := P[k]) a2
    exact ⟨by omega, b2⟩
/-- the table is made -/
theorem rnew_done {w w2 W : World} {B n : Nat} {sA : Option Addr} {sC : Nat} {vs : List Value} {ss : List (List (Int × Int))} (hB : w.heap.size = B) (hN : ss.length = n) (hn : n ≤ 1500) (hv : ∀ s ∈ ss, validB s = true) (hsc : SC w2 B B (.slice sA n sC) vs ss) {P : List (Int × Int)} (_hP : Pcs ss P) (hl : P.length ≤ 4000000) {la : Option Addr} {ln lc : Nat} {ats : List (Value × Value)} (h : PT w2 W B (.slice sA n sC) la ln lc ats (rfill ss P)) (hb : Below B w w2) : RT W w.heap.size B sA n sC vs ss la ln lc ats (rfill ss P) ∧ Below w.heap.size w W := by
  have hbl := h.bl
  have hle : w.heap.size ≤ w2.heap.size := by omega
  have keep : ∀ {e size m : Nat} {v : Value} {xs : List Value}, w2.ownsRow B e size v m xs → e ≠ 59 → W.ownsRow w.heap.size e size v m xs := fun ho hne => by
    rw [hB]
    exact own_fr ho h.fr fun b hb e => own_not ho hsc.blk (fun e => hne e.symm) (by rw [← (show b = B from e)]; exact hb)
  have hf := rfill_facts ss P P.length (Nat.le_refl _)
  rw [List.take_of_length_le (Nat.le_refl _)] at hf
  refine ⟨⟨Nat.le_of_eq hB, h.blk, hN, hsc.sl, keep hsc.so (by decide), fun j v s hv hs => keep (hsc.sr j v s hv hs) (by decide), Joins.ownsRow_le h.lo hle, h.ll, fun k p x hp hx => ⟨Joins.ownsRow_le (h.lu k p x hp hx).1 hle, Joins.ownsRow_le (h.lu k p x hp hx).2 hle⟩, fun x hx => (hf.2 x hx).trans hN, hv, hn, by omega⟩, ?_⟩
  rw [hB]
  exact hb.trans (h.fr.below (fun k e => by have e : k = B := e; omega) (by omega))
theorem SC.lvf {w2 W : World} {base R : Nat} {sA : Option Addr} {sn sC : Nat} {vals : List Value} {ss : List (List (Int × Int))} (h : SC w2 base R (.slice sA sn sC) vals ss) (hf : Fr w2 W (fun k => k = R)) : LV W sA vals ss := by
  have k1 := own_fr h.so hf fun b hb e => own_not h.so h.blk (by decide) (by rw [← (show b = R from e)]; exact hb)
  refine ⟨h.sl, fun j v hv => ?_, fun j v s hv hs => ?_⟩
  · have hj := (List.getElem?_eq_some_iff.1 hv).1
    rcases k1.2 with ⟨_, e⟩ | ⟨g, cap, cur, e, _, hg, hc, _, hsz, ht⟩
    · omega
    · injection e with e1 _ _
      refine ⟨g, 0, e1, ?_⟩
      rw [Nat.zero_add]
      refine heap_cellv hg ?_
      rw [← ht, List.getElem?_take, if_pos (by omega), Array.getElem?_toList] at hv
      exact hv
  · have o := h.sr j v s hv hs
    exact OwnR.rs (own_fr o hf fun b hb e => own_not o h.blk (by decide) (by rw [← (show b = R from e)]; exact hb))
theorem info65 : (Tryd.prog.info? 65).map (fun i => (i.zero, i.size, i.bytes)) = some (some (.agg #[.slice none 0 0, .slice none 0 0]), 2, 48) := by kernel_rfl
theorem push_A {ops : Array Oper} {rest : List Oper} {o : Oper} {a : Act} {Q : Exit → Act → World → Prop} {w : World} (hgd : o.guard = none) (s x : Operand)
    (ho : o.op = .call { callee := .builtin .append, args := #[s, x], argTypes := #[57, 57] }) (base : Nat) (v : Value) (l : List (Value × Value)) (hs : a.eval s = v) (hown : w.ownsRow base 65 2 v l.length (atv l)) (g c : Nat) (p q : Value) (hx : a.eval x = .slice (some ⟨g, 0, none⟩) 1 c)
    (hc : w.heap[g]? = some (.cells #[p, q] 65 (0, 0))) (h1 : p.oneCell' = true) (h2 : q.oneCell' = true) (hl : l.length + 1 ≤ 100000000) (hbase : base ≤ w.heap.size)
    (h : ∀ gg cap w', w'.ownsRow base 65 2 (.slice (some ⟨gg, 0, none⟩) (l.length + 1) cap) (l ++ [(p, q)]).length (atv (l ++ [(p, q)])) → w.grownBy w' v.ownBlock → wpList Tryd.prog ops Q rest (a.put o.dst (.slice (some ⟨gg, 0, none⟩) (l.length + 1) cap)) w') : wpList Tryd.prog ops Q (o :: rest) a w := by
  obtain ⟨i0, hi, hz0, hz1, hz2⟩ := info_parts info65
  refine wpList_append_own_at w hgd s x 57 ho base 65 i0 (.agg #[.slice none 0 0, .slice none 0 0]) 2 48 Tryd.underlying57 hi hz0 hz1 hz2 rfl (by decide) v l.length (atv l) hs hown ⟨g, 0, none⟩ 1 c (atv [(p, q)]) hx rfl ?_ (fun u hu => by simp [atv] at hu; rcases hu with rfl | rfl <;> assumption) (by unfold maxLen; omega) (by omega) hbase (fun v' w' h2 h3 _ _ => ?_)
  · intro j u hj
    rw [add_zero_at]
    match j, hj with
    | 0, hj => simp [atv] at hj; subst hj; exact heap_cellv hc rfl
    | 1, hj => simp [atv] at hj; subst hj; exact heap_cellv hc rfl
  · have e : atv (l ++ [(p, q)]) = atv l ++ atv [(p, q)] := by simp [atv]
    rcases h2.2 with ⟨_, e0⟩ | ⟨gg, cap, cur, e1, _⟩
    · omega
    · subst e1
      refine h gg cap w' ?_ h3
      rw [List.length_append, e]
      exact h2
theorem SC.below {W W' : World} {base R : Nat} {sv : Value} {vals : List Value} {ss : List (List (Int × Int))} (h : SC W base R sv vals ss) {m : Nat} (hb : Below m W W') (hm : W.heap.size ≤ m) : SC W' base R sv vals ss := by
  have f1 : Fr W W' (fun _ => False) := fr_below hb hm _
  exact ⟨h.tb, (f1.block _ (blk_lt h.blk) fun e => e).trans h.blk, h.sl, own_fr h.so f1 fun _ _ e => e, fun j v s hv hs => own_fr (h.sr j v s hv hs) f1 fun _ _ e => e⟩
/-- one set behind a row of the call's own, in a region: which block is touched -/
theorem step_V3 {ops : Array Oper} {o : Oper} {a : Act} {K : Act → World → Prop} {Q : Exit → Act → World → Prop} {E : Prop} {w : World} (hgd : o.guard = none) (s x : Operand)
    (ho : o.op = .call { callee := .builtin .append, args := #[s, x], argTypes := #[22, 22] }) (base : Nat) (v : Value) (xs : List Value) (hs : a.eval s = v) (hown : w.ownsRow base 27 1 v xs.length xs) (g : Nat) (c : Nat) (y : Value) (hx : a.eval x = .slice (some ⟨g, 0, none⟩) 1 c)
    (hc : w.heap[g]? = some (.cells #[y] 27 (0, 0))) (h1 : y.oneCell' = true) (hn : xs.length ≤ 1000000) (hbase : base ≤ w.heap.size)
    (h : ∀ gg cap w', w'.ownsRow base 27 1 (.slice (some ⟨gg, 0, none⟩) (xs.length + 1) cap) (xs ++ [y]).length (xs ++ [y]) → w.grownBy w' v.ownBlock → K (a.put o.dst (.slice (some ⟨gg, 0, none⟩) (xs.length + 1) cap)) w') : if Region.wanted o (yielded ops a.tmps) = true then Oper.wp Tryd.prog o a w K Q else E := by
  obtain ⟨i0, hi0, hz0, hz1, hz2⟩ := info_parts info27
  refine step_append_lies w hgd s x 22 ho base 27 i0 (.slice none 0 0) 1 24 Tryd.underlying22 hi0 hz0 hz1 hz2 rfl (by decide) v xs.length xs hs hown ⟨g, 0, none⟩ 1 c [y] hx rfl (World.news_of_block (cs := #[y]) (t := 27) (fr := (0, 0)) hc) (fun u hu => by simp at hu; rw [hu]; exact h1) (by decide) (by unfold maxLen; omega) (by omega) hbase _ rfl ?_
  intro gg cap wn hown1 hgrow _ _
  refine h gg cap wn ?_ hgrow
  rw [List.length_append]; exact hown1
/-- while the sets are copied -/
def NQ (w : World) (base R : Nat) (ss : List (List (Int × Int))) (i : Nat) (W : World) : Prop := ∃ sv vals, SC W base R sv vals (ss.take i) ∧ Below base w W ∧ ∀ j (hj : j < ss.length), j < i → validB ss[j] = true
/-- behind New -/
def RNQ (w : World) (ss : List (List (Int × Int))) (e : Ending) (W : World) : Prop :=
  ((∀ s ∈ ss, validB s = true) ∧ ∃ R A n c vals la ln lc ats P, e = .returned (.tuple #[.pointer (some ⟨R, 0, none⟩), .int .i64 0]) ∧ RT W w.heap.size R A n c vals ss la ln lc ats (rfill ss P) ∧ Pcs ss P ∧ Below w.heap.size w W) ∨ ((∃ s ∈ ss, validB s = false) ∧ e = .returned (.tuple #[.pointer none, .int .i64 20]) ∧ Below w.heap.size w W)
set_option maxHeartbeats 8000000 in
theorem rnew_walk (A : Option Addr) (n c : Nat) (vals : List Value) (ss : List (List (Int × Int))) (w : World) (hN : ss.length = n) (hn : n ≤ 1500) (h : LV w A vals ss) :
    Calls Tryd.prog 9 #[.slice A n c] w (RNQ w ss) := by
  have HL := Hid.mk' h
  have HN := Hid.mk' hN
  have hnI : (n : Int) ≤ 1500 := by omega
  obtain ⟨B, hB⟩ : ∃ B, w.heap.size = B := ⟨_, rfl⟩
  have HB := Hid.mk' hB
  have HE : Hid (NQ w B B ss 0 (w.alloc (.cells #[.slice none 0 0, .slice none 0 0] 59))) := by
    refine ⟨.slice none 0 0, [], ⟨Nat.le_refl _, by rw [← hB]; exact heap_alloc_new _ _, rfl, World.ownsRow_nil _ _ _ _, fun j v s hv => by simp at hv⟩, by rw [← hB]; exact (Below.refl _ w).alloc (Nat.le_refl _) _, fun j hj h => by omega⟩
  clear h hN
  go_enter Tryd.func9, Tryd.ntmps9
  go_wp2
  clear hB
  go_loopg [5] n (fun q s5 wr => ∃ i : Nat, s5 = .int .i64 (i : Int) ∧ i ≤ n ∧ n - i ≤ q ∧ Hid (NQ w B B ss i wr))
  case atStart => exact ⟨0, rfl, by omega, by omega, HE⟩
  case round =>
    obtain ⟨i, rfl, hi1, hi2, HR⟩ := hrel
    clear HE
    have hiI : (i : Int) ≤ 1500 := by omega
    by_cases hil : i < n
    · have hilI : (i : Int) < (n : Int) := by omega
      have his : i < ss.length := by rw [HN.out]; exact hil
      have hiv : i < vals.length := by rw [HL.out.len]; exact his
      obtain ⟨sv, vs, hsc, hbw, hval⟩ := HR.out
      obtain ⟨g, o, hA, hc⟩ := HL.out.rd i vals[i] (List.getElem?_eq_getElem hiv)
      subst hA
      have hrs := HL.out.rs i vals[i] ss[i] (List.getElem?_eq_getElem hiv) (List.getElem?_eq_getElem his)
      obtain ⟨sa, sc, hse, _⟩ := id hrs
      obtain ⟨L, hL⟩ : ∃ L, ss[i].length = L := ⟨_, rfl⟩
      rw [hL] at hse
      rw [hse] at hc hrs
      have HRS : Hid (∀ W, Below B w W → Rs W (.slice sa L sc) ss[i] ∧ W.cell? ⟨g, o + i, none⟩ = some (.slice sa L sc)) := fun W hW => ⟨hrs.below hW (Nat.le_of_eq HB.out), cell_below hc hW (Nat.le_of_eq HB.out)⟩
      have hcr := (HRS.out wr hbw).2
      have HRV := Hid.mk' (rvalid_any (.slice sa L sc) ss[i] wr (HRS.out wr hbw).1)
      obtain ⟨vb, hvb⟩ : ∃ vb, validB ss[i] = vb := ⟨_, rfl⟩
      rw [hvb] at HRV
      have HVB := Hid.mk' hvb
      have HSC := Hid.mk' (And.intro hsc (And.intro hbw hval))
      have HLL := Hid.mk' hL
      clear hrs hc hse hvb hiv hsc hbw hval hL HR
      cases vb with
      | false =>
        go_wp2_with (go_at_call 21; refine HRV.out.mono ?_; rintro e w1 ⟨rfl, hg⟩; have HG := Hid.mk' hg; clear hg)
        refine bodyPost_ret (v := .tuple #[.pointer none, .int .i64 20]) (by simp [results, Tryd.f9, go_sem]) rfl (.inr ⟨⟨ss[i], List.getElem_mem his, HVB.out⟩, rfl, ?_⟩)
        rw [HB.out]
        exact HSC.out.2.1.trans (HG.out.below.mono (by have := HSC.out.2.1.size; have := HB.out; omega))
      | true =>
        have hL5 : L ≤ 512 := by rw [← HLL.out]; exact ((validB_iff _).1 HVB.out).1
        obtain ⟨ta, tc, hte⟩ := own_len HSC.out.1.so
        obtain ⟨tn, htn⟩ : ∃ tn, vs.length = tn := ⟨_, rfl⟩
        rw [htn] at hte
        subst hte
        have HTN : Hid (vs.length = tn ∧ tn ≤ 1500) := ⟨htn, by rw [← htn, HSC.out.1.sl, List.length_take]; omega⟩
        go_wp2_with (go_at_call 21; refine HRV.out.mono ?_; rintro e w1 ⟨rfl, hg⟩; have HG := Hid.mk' hg; clear hg)
        obtain ⟨hsc, hbw, hval⟩ := HSC.out
        have hsc1 := hsc.below HG.out.below (Nat.le_refl _)
        have hbw1 : Below B w w1 := hbw.trans (HG.out.below.mono (by have := hbw.size; have := HB.out; omega))
        have cR : w1.cell? ⟨B, 0, none⟩ = some (.slice ta tn tc) := heap_cellv hsc1.blk rfl
        have hcr1 := (HRS.out w1 hbw1).2
        obtain ⟨h1, hh1⟩ : ∃ h1, w1.heap.size = h1 := ⟨_, rfl⟩
        have hbz1 : B ≤ h1 := by have := hbw1.size; have := HB.out; omega
        have HX1 : Hid (OwnR ((w1.alloc (.cells #[] 29)).drew) h1 (.slice (some ⟨h1, 0, none⟩) 0 0) [] ∧ (ss[i] = [] ∨ ∃ g o, sa = some ⟨g, o, none⟩ ∧ Reads ((w1.alloc (.cells #[] 29)).drew) g o ss[i]) ∧ h1 ≤ ((w1.alloc (.cells #[] 29)).drew).heap.size ∧ Below h1 w1 ((w1.alloc (.cells #[] 29)).drew)) := by
          have hgx : Grown w1 ((w1.alloc (.cells #[] 29)).drew) := ((Grown.refl _).alloc _).drew
          have o1 : OwnR (w1.alloc (.cells #[] 29)) w1.heap.size (.slice (some ⟨w1.heap.size, 0, none⟩) 0 0) [] := ⟨rfl, .inr ⟨w1.heap.size, 0, #[], rfl, Nat.le_refl _, heap_alloc_new _ _, Nat.le_refl _, Nat.zero_le _, rfl, rfl⟩⟩
          rw [hh1] at o1
          obtain ⟨a', c', e, _, hr⟩ := (HRS.out _ (hbw1.trans (hgx.below.mono (by rw [hh1]; exact hbz1)))).1
          injection e with e1 _ _
          refine ⟨own_fr o1 (fr_grown ((Grown.refl _).drew) fun _ => False) fun _ _ e => e, by rw [e1]; exact hr, by have := hgx.size; omega, by rw [← hh1]; exact hgx.below⟩
        have cRx : ((w1.alloc (.cells #[] 29)).drew).cell? ⟨B, 0, none⟩ = some (.slice ta tn tc) := (((Grown.refl w1).alloc _).drew).cellv cR
        have hcrx : ((w1.alloc (.cells #[] 29)).drew).cell? ⟨g, o + i, none⟩ = some (.slice sa L sc) := (((Grown.refl w1).alloc _).drew).cellv hcr1
        have cRa : (w1.alloc (.cells #[] 29)).cell? ⟨B, 0, none⟩ = some (.slice ta tn tc) := ((Grown.refl w1).alloc _).cellv cR
        have hcra : (w1.alloc (.cells #[] 29)).cell? ⟨g, o + i, none⟩ = some (.slice sa L sc) := ((Grown.refl w1).alloc _).cellv hcr1
        have HS1 := Hid.mk' (And.intro hsc1 (And.intro hbw1 hval))
        have HH1 := Hid.mk' hh1
        clear hsc hbw hval hsc1 hbw1 HSC HG
        go_region_law (first
          | (refine step_C rfl (.tmp 30) (.tmp 34) rfl h1 h1 rfl HX1.out.1 sa L sc ss[i] rfl HLL.out HX1.out.2.1 (by omega) HX1.out.2.2.1 ?_
             intro va vc w2 q1 q2
             have hb12 : Below h1 w1 w2 := HX1.out.2.2.2.trans q2
             have HS2 : Hid (SC w2 B B (.slice ta tn tc) vs (ss.take i) ∧ Below h1 w1 w2 ∧ OwnR w2 B (.slice va L vc) ss[i]) := ⟨HS1.out.1.below hb12 (Nat.le_of_eq HH1.out), hb12, q1.le hbz1⟩
             have cR2 : w2.cell? ⟨B, 0, none⟩ = some (.slice ta tn tc) := heap_cellv HS2.out.1.blk rfl
             have hcr2 := cell_below hcr1 hb12 (Nat.le_of_eq HH1.out)
             have cR2a := cell_up cR2 (.cells #[.slice va L vc] 27)
             have hbz2 : B ≤ w2.heap.size := by have := hb12.size; omega
             clear q1 q2 hb12)
          | (refine step_V3 rfl (.tmp 29) (.tmp 36) rfl B (.slice ta tn tc) vs rfl (World.ownsRow.alloc HS2.out.1.so _) w2.heap.size 1 (.slice va L vc) rfl (heap_alloc_new _ _) rfl (by have := HTN.out; omega) (by simp; omega) ?_
             intro gg cap w4 q3 q4
             obtain ⟨e4, sc4⟩ := HS2.out.1.push ((Below.refl _ w2).alloc (Nat.le_refl _) _) (HS2.out.2.2.alloc _) q3 (fr_by q4)
             have cR4 : w4.cell? ⟨B, 0, none⟩ = some (.slice ta tn tc) := heap_cellv e4 rfl
             have fR4 : w4.frozen? ⟨B, 0, none⟩ = false := free_of e4
             have HQ : Hid (NQ w B B ss (i + 1) (w4.setCell ⟨B, 0, none⟩ (.slice (some ⟨gg, 0, none⟩) (vs.length + 1) cap))) := by
               refine ⟨_, _, by rw [List.take_succ_eq_append_getElem his]; exact sc4, ?_, fun j hj hji => ?_⟩
               · have b1 := HS1.out.2.1.trans (HS2.out.2.1.mono hbz1)
                 have b2 := (b1.alloc hbz2 (.cells #[.slice va L vc] 27)).trans ((fr_by q4).below (fun k hk => (World.ownsRow.lt (World.ownsRow.alloc HS2.out.1.so (.cells #[.slice va L vc] 27)) k hk).1) (by simp; omega))
                 exact b2.trans ((fr_set _ _ _ _).below (fun k e => by have e : k = B := e; omega) (by have := b2.size; have := HB.out; omega))
               · by_cases e : j = i
                 · subst e; exact HVB.out
                 · exact HS1.out.2.2 j hj (by omega)
             rw [HTN.out.1] at HQ
             rw [HTN.out.1]
             clear q3 q4 e4 sc4))
        all_goals
          go_wp2
          go_roundg (n - (i + 1))
          case measure => omega
          case rel => exact ⟨i + 1, rfl, by omega, Nat.le_refl _, HQ⟩
    · have hie : i = n := by omega
      subst hie
      have hge : ¬ (i : Int) < (i : Int) := by omega
      obtain ⟨sv, vs, hsc, hbw, hval⟩ := HR.out
      rw [List.take_of_length_le (by have := HN.out; omega)] at hsc
      have hv : ∀ s ∈ ss, validB s = true := fun s hs => by
        obtain ⟨j, hj, rfl⟩ := List.getElem_of_mem hs
        exact hval j hj (by rw [← HN.out]; exact hj)
      obtain ⟨sA, sC, hse⟩ := own_len hsc.so
      rw [hsc.sl, HN.out] at hse
      subst hse
      have cR : wr.cell? ⟨B, 0, none⟩ = some (.slice sA i sC) := heap_cellv hsc.blk rfl
      have HCUT := Hid.mk' (cuts_walk sA i sC vs ss wr HN.out hn (hsc.lvf (Fr.refl _ _)) hv)
      have HSC := Hid.mk' hsc
      have HBW := Hid.mk' hbw
      have HV := Hid.mk' hv
      clear hsc hbw hval hv HR
      go_wp2_with fail
      refine HCUT.out.mono ?_
      rintro e w2 ⟨pv, P, rfl, p1, p2, p3, p4⟩
      obtain ⟨pa, pc, hpe⟩ := own_len p1
      obtain ⟨pn, hpn⟩ : ∃ pn, P.length = pn := ⟨_, rfl⟩
      rw [hpn] at hpe p3
      subst hpe
      have hpI : (pn : Int) ≤ 4000000 := by omega
      have HPN := Hid.mk' hpn
      have hsc2 := HSC.out.below p4 (Nat.le_refl _)
      have HS2 := Hid.mk' hsc2
      have HP := Hid.mk' (And.intro p1 p2)
      have HB2 : Hid (Below B w w2) := HBW.out.trans (p4.mono (by have := HBW.out.size; have := HB.out; omega))
      have H0 : Hid (∃ la ln lc ats, PT w2 w2 B (.slice sA i sC) la ln lc ats (rfill ss (P.take 0))) := ⟨none, 0, 0, [], hsc2.blk, blk_lt hsc2.blk, World.ownsRow_nil _ _ _ _, rfl, fun k p x hp => by simp at hp, fun i j p q b hp => by simp at hp, Fr.refl _ _⟩
      clear p1 p2 p4 hpn hsc2 HSC HBW HCUT cR
      go_wp2
      go_loopg [7] pn (fun q s7 wx => ∃ k : Nat, s7 = .int .i64 (k : Int) ∧ k ≤ pn ∧ pn - k ≤ q ∧ Hid (∃ la ln lc ats, PT w2 wx B (.slice sA i sC) la ln lc ats (rfill ss (P.take k))))
      case atStart => exact ⟨0, rfl, by omega, by omega, H0⟩
      case round =>
        obtain ⟨k, rfl, hk1, hk2, HR⟩ := hrel
        clear H0
        have hkI : (k : Int) ≤ 4000000 := by omega
        by_cases hkl : k < pn
        · have hklI : (k : Int) < (pn : Int) := by omega
          have hkP : k < P.length := by rw [HPN.out]; exact hkl
          obtain ⟨la, ln, lc, ats, hpt⟩ := HR.out
          obtain ⟨po, hpo⟩ : ∃ po, (rg P k).1 = po := ⟨_, rfl⟩
          obtain ⟨pq, hpq⟩ : ∃ pq, (rg P k).2 = pq := ⟨_, rfl⟩
          have hrp := HP.out.1.rs
          obtain ⟨pa', pc', hpe, _, hrd⟩ := hrp
          injection hpe with hpe1 hpe2 hpe3
          subst hpe1
          clear hpe2 hpe3
          obtain ⟨pg, pof, hpa, hrd2⟩ := hrd.resolve_left (fun e => by rw [e] at hkP; simp at hkP)
          clear hrd
          subst hpa
          have hpgB : pg ≠ B := fun e => by
            have hpo2 : (Value.slice (some ⟨pg, pof, none⟩) pn pc).ownBlock = some pg := rfl
            exact own_not HP.out.1 HS2.out.blk (by decide) (by rw [← e]; exact hpo2)
          have HRD : Hid (∀ W, Fr w2 W (fun k => k = B) → W.cell? ⟨pg, pof + k * 2, none⟩ = some (.int .i64 po) ∧ W.cell? ⟨pg, pof + k * 2 + 1, none⟩ = some (.int .i64 pq)) := fun W hW => by
            have := (hrd2.frD (hrd2.lt (fun e => by rw [e] at hkP; simp at hkP)) hW hpgB) k hkP
            rw [hpo, hpq] at this
            exact this
          obtain ⟨cp, _⟩ := HRD.out wr hpt.fr
          have HIN := Hid.mk' (in_walk B sA i sC vs ss po wr (heap_cellv hpt.blk rfl) HN.out hn (HS2.out.lvf hpt.fr) HV.out)
          have HPT := Hid.mk' hpt
          have HPQ : Hid (rg P k = (po, pq)) := Prod.ext hpo hpq
          have hb2 : w2.heap.size ≤ wr.heap.size := hpt.fr.size
          clear hrd2 hpo hpq hpt HR hpgB
          go_wp2_with (first
            | (go_at_call 26
               refine HIN.out.mono ?_
               rintro e w3 ⟨iv, rfl, q1, q2⟩
               obtain ⟨ia, ic, hie⟩ := own_len q1
               obtain ⟨inn, hin⟩ : ∃ inn, (inV ss po).length = inn := ⟨_, rfl⟩
               rw [hin] at hie
               subst hie
               have HP3 := Hid.mk' (HPT.out.below q2 (Nat.le_refl _))
               have HI3 : Hid (OwnB w3 w2.heap.size (.slice ia inn ic) (inV ss po)) := Joins.ownsRow_le q1 hb2
               have HFD : Hid (Calls Tryd.prog 27 #[.pointer (some ⟨B, 0, none⟩), .slice ia inn ic] w3 fun e w' => e = .returned (.int .i64 (fndP ((rfill ss (P.take k)).map Prod.fst) (inV ss po))) ∧ Grown w3 w') := by
                 have hrf := rfill_facts ss P k (by omega)
                 refine find_walk B la ln lc _ ia inn ic _ w3 HP3.out.frow q1.br (fun x hx => ?_) (by unfold inV; rw [List.length_map, HN.out]; exact hn) (by rw [HP3.out.lnl]; omega)
                 obtain ⟨y, hy, rfl⟩ := List.mem_map.1 hx
                 unfold inV
                 rw [List.length_map]
                 exact hrf.2 y hy
               clear q1 q2 hin))
          obtain ⟨kv, hkv⟩ : ∃ kv, fndP ((rfill ss (P.take k)).map Prod.fst) (inV ss po) = kv := ⟨_, rfl⟩
          rw [hkv] at HFD
          have HRF : Hid (rfill ss (P.take (k + 1)) = radd ss (rfill ss (P.take k)) (po, pq)) := by
            show _ = _
            rw [List.take_succ_eq_append_getElem hkP, rfill_snoc, ← rg_lt hkP, HPQ.out]
          obtain ⟨L, hL⟩ : ∃ L, rfill ss (P.take k) = L := ⟨_, rfl⟩
          have HUL : Hid (∀ x ∈ L, x.2.length ≤ 4000000) := by rw [← hL]; intro x hx; have := rfill_len ss P k (by omega) x hx; omega
          have HQB : Hid (∀ x ∈ L, ∀ q ∈ x.2, -1 ≤ q.2 ∧ q.2 ≤ 4000000) := by
            rw [← hL]
            refine rfill_high (T := fun z => -1 ≤ z ∧ z ≤ 4000000) ss (fun p hp => ?_) k (by omega)
            obtain ⟨x, hx, h1, h2⟩ := HP.out.2.un p hp p.2 (HP.out.2.ok p hp) (Int.le_refl _)
            simp only [anyR, List.mem_cons, List.not_mem_nil, or_false] at hx
            rcases hx with rfl | rfl | rfl <;> (simp only at h1 h2; show _ ∧ _; omega)
          have HLB : Hid (L.length ≤ 4000000) := by rw [← hL]; have := (rfill_facts ss P k (by omega)).1; show _ ≤ _; omega
          rw [hL] at HRF HP3 hkv
          clear hL
          have HKV := Hid.mk' hkv
          refine HFD.out.mono ?_
          rintro e w4 ⟨rfl, hg4⟩
          have HP4 := Hid.mk' (HP3.out.below hg4.below (Nat.le_refl _))
          have HI4 : Hid (OwnB w4 w2.heap.size (.slice ia inn ic) (inV ss po)) := own_fr HI3.out (fr_grown hg4 fun _ => False) fun _ _ e => e
          have cB4 : w4.cell? ⟨B, 1, none⟩ = some (.slice la ln lc) := heap_cellv HP4.out.blk rfl
          have hb4 : w2.heap.size ≤ w4.heap.size := HP4.out.fr.size
          have HLN : Hid (ats.length = ln ∧ L.length = ln) := ⟨by rw [HP4.out.ll]; exact HP4.out.lnl.symm, HP4.out.lnl.symm⟩
          have hlnI : (ln : Int) ≤ 4000000 := by have := HLB.out; have := HLN.out; omega
          clear HP3 HI3 HFD hg4 hkv cp HIN HPT
          by_cases hm : inV ss po ∈ L.map Prod.fst
          · obtain ⟨k0, hk0⟩ : ∃ k0, (L.map Prod.fst).idxOf (inV ss po) = k0 := ⟨_, rfl⟩
            have hk0l : k0 < L.length := by
              have := List.idxOf_lt_length_of_mem hm
              rw [hk0] at this
              simpa using this
            obtain rfl : kv = (k0 : Int) := by
              have := HKV.out
              unfold fndP at this
              rw [if_pos hm, hk0] at this
              exact this.symm
            obtain ⟨x, hx⟩ : ∃ x, L[k0]? = some x := ⟨_, List.getElem?_eq_getElem hk0l⟩
            obtain ⟨p, hp⟩ : ∃ p, ats[k0]? = some p := ⟨_, List.getElem?_eq_getElem (by rw [HP4.out.ll]; exact hk0l)⟩
            obtain ⟨xb, xl⟩ := x
            obtain ⟨uv, iv0⟩ := p
            obtain ⟨lb, hla, hk0n, cu, _, _⟩ := HP4.out.at' hp
            subst hla
            have hou := (HP4.out.lu k0 _ _ hp hx).1
            obtain ⟨ua, uc, hue⟩ := own_len hou
            obtain ⟨un, hun⟩ : ∃ un, xl.length = un := ⟨_, rfl⟩
            have hue : uv = .slice ua un uc := by rw [← hun]; exact hue
            subst hue
            have cu : w4.cell? ⟨lb, k0 * 2, none⟩ = some (.slice ua un uc) := cu
            have hk0I : (k0 : Int) < (ln : Int) := by omega
            have hk0z : ¬ (k0 : Int) < 0 := by omega
            have hk0d : decide ((k0 : Int) < 0) = false := by simp
            have HK0 : Hid (k0 < L.length ∧ xl.length = un ∧ ats[k0]? = some (.slice ua un uc, iv0) ∧ L[k0]? = some (xb, xl)) := ⟨hk0l, hun, hp, hx⟩
            have HXL : Hid (xl.length ≤ 4000000) := HUL.out (xb, xl) (List.mem_of_getElem? hx)
            have hunI : (un : Int) ≤ 4000000 := by have := HXL.out; omega
            have HRM : Hid (rfill ss (P.take (k + 1)) = L.set k0 (xb, mrg xl (po, pq))) := by
              show _ = _
              rw [HRF.out]
              unfold radd
              rw [if_pos hm, hk0, modify_set _ _ _ hk0l]
              rw [List.getElem?_eq_getElem hk0l] at hx
              injection hx with hx
              rw [hx]
            have HO4 := Hid.mk' hou
            clear hm hk0 hk0l hx hp hou hun HKV HRF HI4
            by_cases hu0 : un = 0
            · have HRE : Hid (rfill ss (P.take (k + 1)) = L.set k0 (xb, xl ++ [(po, pq)])) := by
                show _ = _
                rw [HRM.out, mrg_app]
                intro q hq
                have : xl = [] := List.eq_nil_of_length_eq_zero (by rw [HK0.out.2.1]; exact hu0)
                rw [this] at hq
                cases hq
              have hz0d : decide ((0 : Int) < (un : Int)) = false := by subst hu0; rfl
              have hz0n : decide (0 < un) = false := by subst hu0; rfl
              have HUN := Hid.mk' hu0
              clear HRM hu0
              go_wp2
              go_big_quiet (fail)
              rename_i nq
              have hgq : Grown w4 (w4.drewN nq) := (Grown.refl _).drewN _
              have HP6 := Hid.mk' (HP4.out.below hgq.below (Nat.le_refl _))
              obtain ⟨cp1, cp2⟩ := HRD.out _ HP6.out.fr
              have cB6 : (w4.drewN nq).cell? ⟨B, 1, none⟩ = some (.slice (some ⟨lb, 0, none⟩) ln lc) := heap_cellv HP6.out.blk rfl
              have hb6 : w2.heap.size ≤ (w4.drewN nq).heap.size := HP6.out.fr.size
              obtain ⟨W7, hW7⟩ : ∃ W7, W7 = w4.drewN nq := ⟨_, rfl⟩
              rw [← hW7] at HP6 cp1 cp2 cB6 hb6 ⊢
              have HO7 : Hid (OwnR W7 w2.heap.size (.slice ua xl.length uc) xl) := (HP6.out.lu k0 _ _ HK0.out.2.2.1 HK0.out.2.2.2).1
              clear hW7 HP4 hgq
              go_wp2_with (at_builtin; go_must (refine push_R3 rfl _ _ 27 rfl Tryd.underlying27 w2.heap.size (.slice ua xl.length uc) xl rfl (HO7.out.alloc _) _ _ po pq rfl (heap_alloc_new _ _) (by have := HXL.out; omega) (by simp; omega) ?_
                                                intro v' w8 q1 q2 q3
                                                obtain ⟨va, vc, hve⟩ := own_len q1
                                                obtain ⟨vn, hvn⟩ : ∃ vn, (xl ++ [(po, pq)]).length = vn := ⟨_, rfl⟩
                                                rw [hvn] at hve
                                                have hpt7 := HP6.out.below ((Below.refl _ W7).alloc (Nat.le_refl _) (.cells #[.int .i64 po, .int .i64 pq] 29)) (Nat.le_refl _)
                                                obtain ⟨x1, x2, x3⟩ := hpt7.units HK0.out.2.2.1 HK0.out.2.2.2 q1 (fr_by q2) q3 rfl
                                                have cB8 : w8.cell? ⟨B, 1, none⟩ = some (.slice (some ⟨lb, 0, none⟩) ln lc) := heap_cellv (((fr_by q2).block _ (blk_lt hpt7.blk) (own_not (HO7.out.alloc _) hpt7.blk (by decide))).trans hpt7.blk) rfl
                                                rw [← HRE.out] at x3
                                                have HP8 := Hid.mk' x3
                                                subst hve
                                                clear q1 q2 q3 x3 hpt7 hvn))
              go_roundg (pn - (k + 1))
              case measure => omega
              case rel => exact ⟨k + 1, rfl, by omega, Nat.le_refl _, _, _, _, _, HP8.out⟩
            · obtain ⟨m, hmu⟩ : ∃ m, un = m + 1 := ⟨un - 1, by omega⟩
              obtain ⟨ug, hua, hrdu⟩ : ∃ ug, ua = some ⟨ug, 0, none⟩ ∧ Reads w4 ug 0 xl := by
                rcases HO4.out.2 with ⟨_, e⟩ | ⟨g, cap, cur, e, _⟩
                · have e' : xl.length = 0 := e
                  have := HK0.out.2.1; omega
                · injection e with e1 _ _
                  subst e1
                  exact ⟨g, rfl, OwnR.reads HO4.out⟩
              subst hua
              have hmx : m < xl.length := by have := HK0.out.2.1; omega
              obtain ⟨_, cl⟩ := hrdu m hmx
              obtain ⟨qh, hqh⟩ : ∃ qh, (rg xl m).2 = qh := ⟨_, rfl⟩
              rw [hqh, Nat.zero_add] at cl
              have hmI : (un : Int) - 1 = (m : Int) := by omega
              have hmn : (m : Int) < (un : Int) := by omega
              have hu0I : (0 : Int) < (un : Int) := by omega
              have hu0d : decide ((0 : Int) < (un : Int)) = true := by simpa using hu0I
              have hu0n : decide (0 < un) = true := by simp; omega
              have hqb : -1 ≤ qh ∧ qh ≤ 4000000 := by
                have := HQB.out (xb, xl) (List.mem_of_getElem? HK0.out.2.2.2) (rg xl m) (by rw [rg_lt hmx]; exact List.getElem_mem _)
                rw [hqh] at this; exact this
              have HQH := Hid.mk' hqh
              have HXM : Hid (xl.length = m + 1) := HK0.out.2.1.trans hmu
              obtain ⟨cp1, cp2⟩ := HRD.out _ HP4.out.fr
              obtain ⟨hqb1, hqb2⟩ := hqb
              by_cases hj : qh + 1 = po
              · have hjd : decide (qh + 1 = po) = true := by simpa using hj
                have HJ : Hid (qh + 1 = po) := hj
                go_wp2
                go_big_quiet (fail)
                rename_i nq
                have hgq : Grown w4 (w4.drewN nq) := (Grown.refl _).drewN _
                have HP6 := Hid.mk' (HP4.out.below hgq.below (Nat.le_refl _))
                obtain ⟨cp1, cp2⟩ := HRD.out _ HP6.out.fr
                obtain ⟨W7, hW7⟩ : ∃ W7, W7 = w4.drewN nq := ⟨_, rfl⟩
                rw [← hW7] at HP6 cp1 cp2 ⊢
                have HO7 : Hid (OwnR W7 w2.heap.size (.slice (some ⟨ug, 0, none⟩) (m + 1) uc) xl) := by
                  have := (HP6.out.lu k0 _ _ HK0.out.2.2.1 HK0.out.2.2.2).1
                  show OwnR _ _ _ _
                  rw [← HXM.out]; exact this
                have hO : W7.ownsRow w2.heap.size 29 2 (.slice (some ⟨ug, 0, none⟩) (m + 1) uc) (m + 1) (fl xl) := by
                  have := HO7.out
                  unfold OwnR at this
                  rw [HXM.out] at this
                  exact this
                have hfl := fl_last xl m (rg xl m) (po, pq) HXM.out rfl (by rw [HQH.out]; exact HJ.out)
                obtain ⟨s1, s2⟩ := hO.stored (m * 2 + 1) (.int .i64 pq)
                rw [hfl.1] at s1
                obtain ⟨x1, x2, x3⟩ := HP6.out.units (W' := W7.setCell ⟨ug, m * 2 + 1, none⟩ (.int .i64 pq)) HK0.out.2.2.1 HK0.out.2.2.2 (v' := .slice (some ⟨ug, 0, none⟩) (m + 1) uc) (l' := mrg xl (po, pq)) (by unfold OwnR; rw [hfl.2, HXM.out]; exact s1) (fr_by s2) (.inl (by rw [HXM.out])) rfl
                have cB8 : (W7.setCell ⟨ug, m * 2 + 1, none⟩ (.int .i64 pq)).cell? ⟨B, 1, none⟩ = some (.slice (some ⟨lb, 0, none⟩) ln lc) := heap_cellv (((fr_by s2).block _ (blk_lt HP6.out.blk) (own_not HO7.out HP6.out.blk (by decide))).trans HP6.out.blk) rfl
                rw [← HRM.out] at x3
                obtain ⟨_, cl7⟩ := OwnR.reads HO7.out m (by rw [HXM.out]; omega)
                rw [HQH.out, Nat.zero_add] at cl7
                have fl7 : W7.frozen? ⟨ug, m * 2 + 1, none⟩ = false := hO.frozenAt _
                have HP9 := Hid.mk' x3
                clear x3 hfl s1 s2 hO hW7 HP4 hgq
                go_wp2
                go_roundg (pn - (k + 1))
                case measure => omega
                case rel => exact ⟨k + 1, rfl, by omega, Nat.le_refl _, _, _, _, _, HP9.out⟩
              · have hjd : decide (qh + 1 = po) = false := by simpa using hj
                have HRE : Hid (rfill ss (P.take (k + 1)) = L.set k0 (xb, xl ++ [(po, pq)])) := by
                  show _ = _
                  rw [HRM.out, mrg_app]
                  intro q hq
                  have hxm : xl.length = m + 1 := HK0.out.2.1.trans hmu
                  rw [List.getLast?_eq_getElem?, hxm, Nat.add_sub_cancel, List.getElem?_eq_getElem (by omega), ← rg_lt (by omega)] at hq
                  injection hq with hq
                  rw [← hq, hqh]; exact hj
                clear HRM
                go_wp2
                go_big_quiet (fail)
                rename_i nq
                have hgq : Grown w4 (w4.drewN nq) := (Grown.refl _).drewN _
                have HP6 := Hid.mk' (HP4.out.below hgq.below (Nat.le_refl _))
                obtain ⟨cp1, cp2⟩ := HRD.out _ HP6.out.fr
                have cB6 : (w4.drewN nq).cell? ⟨B, 1, none⟩ = some (.slice (some ⟨lb, 0, none⟩) ln lc) := heap_cellv HP6.out.blk rfl
                have hb6 : w2.heap.size ≤ (w4.drewN nq).heap.size := HP6.out.fr.size
                obtain ⟨W7, hW7⟩ : ∃ W7, W7 = w4.drewN nq := ⟨_, rfl⟩
                rw [← hW7] at HP6 cp1 cp2 cB6 hb6 ⊢
                have HO7 : Hid (OwnR W7 w2.heap.size (.slice (some ⟨ug, 0, none⟩) (m + 1) uc) xl) := by
                  have := (HP6.out.lu k0 _ _ HK0.out.2.2.1 HK0.out.2.2.2).1
                  show OwnR _ _ _ _
                  rw [← HXM.out]; exact this
                clear hW7 HP4 hgq
                go_wp2_with (at_builtin; go_must (refine push_R3 rfl _ _ 27 rfl Tryd.underlying27 w2.heap.size (.slice (some ⟨ug, 0, none⟩) (m + 1) uc) xl rfl (HO7.out.alloc _) _ _ po pq rfl (heap_alloc_new _ _) (by have := HXL.out; omega) (by simp; omega) ?_
                                                  intro v' w8 q1 q2 q3
                                                  obtain ⟨va, vc, hve⟩ := own_len q1
                                                  obtain ⟨vn, hvn⟩ : ∃ vn, (xl ++ [(po, pq)]).length = vn := ⟨_, rfl⟩
                                                  rw [hvn] at hve
                                                  have hpt7 := HP6.out.below ((Below.refl _ W7).alloc (Nat.le_refl _) (.cells #[.int .i64 po, .int .i64 pq] 29)) (Nat.le_refl _)
                                                  obtain ⟨x1, x2, x3⟩ := hpt7.units HK0.out.2.2.1 HK0.out.2.2.2 q1 (fr_by q2) q3 rfl
                                                  have cB8 : w8.cell? ⟨B, 1, none⟩ = some (.slice (some ⟨lb, 0, none⟩) ln lc) := heap_cellv (((fr_by q2).block _ (blk_lt hpt7.blk) (own_not (HO7.out.alloc _) hpt7.blk (by decide))).trans hpt7.blk) rfl
                                                  rw [← HRE.out] at x3
                                                  have HP8 := Hid.mk' x3
                                                  subst hve
                                                  clear q1 q2 q3 x3 hpt7 hvn))
                go_roundg (pn - (k + 1))
                case measure => omega
                case rel => exact ⟨k + 1, rfl, by omega, Nat.le_refl _, _, _, _, _, HP8.out⟩
          · have hneg : kv < 0 := by
              have := HKV.out
              unfold fndP at this
              rw [if_neg hm] at this
              omega
            have hnegd : decide (kv < 0) = true := by simpa using hneg
            have HRE : Hid (rfill ss (P.take (k + 1)) = (L ++ [(inV ss po, [])]).set ln (inV ss po, [(po, pq)])) := by
              show _ = _
              rw [HRF.out]
              unfold radd
              rw [if_neg hm, ← HLN.out.2]
              simp
            clear hm HKV HRF
            go_wp2_with (at_builtin; go_must (refine push_A rfl _ _ rfl w2.heap.size (.slice la ln lc) ats rfl (World.ownsRow.alloc HP4.out.lo _) _ _ (.slice none 0 0) (.slice ia inn ic) rfl (heap_alloc_new _ _) rfl rfl (by have := HLN.out; omega) (by simp; omega) ?_
                                              intro gg cap w5 q1 q2
                                              rw [HLN.out.1] at q1 ⊢
                                              obtain ⟨e5, pt5⟩ := (HP4.out.below ((Below.refl _ w4).alloc (Nat.le_refl _) (.cells #[.slice none 0 0, .slice ia inn ic] 65)) (Nat.le_refl _)).add (World.ownsRow.alloc HI4.out _) q1 (fr_by q2)
                                              have cB5 : w5.cell? ⟨B, 1, none⟩ = some (.slice la ln lc) := heap_cellv e5 rfl
                                              have fB5 : w5.frozen? ⟨B, 1, none⟩ = false := free_of e5
                                              have c7 : (w5.setCell ⟨B, 1, none⟩ (.slice (some ⟨gg, 0, none⟩) (ln + 1) cap)).cell? ⟨gg, ln * 2, none⟩ = some (.slice none 0 0) := by
                                                obtain ⟨lb, e1, _, c, _, _⟩ := pt5.at' (k := ln) (p := (.slice none 0 0, .slice ia inn ic)) (by rw [← HLN.out.1]; simp)
                                                injection e1 with e1
                                                injection e1 with e1 _ _
                                                rw [← e1] at c; exact c
                                              have HP5 := Hid.mk' pt5
                                              clear q1 q2 e5 pt5))
            obtain ⟨W6, hW6⟩ : ∃ W6, W6 = w5.setCell ⟨B, 1, none⟩ (.slice (some ⟨gg, 0, none⟩) (ln + 1) cap) := ⟨_, rfl⟩
            rw [← hW6] at HP5 c7 ⊢
            clear hW6 cB5 fB5 c7
            go_big_quiet (fail)
            rename_i nq
            have hgq : Grown W6 (W6.drewN nq) := (Grown.refl _).drewN _
            have HP6 := Hid.mk' (HP5.out.below hgq.below (Nat.le_refl _))
            obtain ⟨cp1, cp2⟩ := HRD.out _ HP6.out.fr
            have cB6 : (W6.drewN nq).cell? ⟨B, 1, none⟩ = some (.slice (some ⟨gg, 0, none⟩) (ln + 1) cap) := heap_cellv HP6.out.blk rfl
            have hb6 : w2.heap.size ≤ (W6.drewN nq).heap.size := HP6.out.fr.size
            obtain ⟨W7, hW7⟩ : ∃ W7, W7 = W6.drewN nq := ⟨_, rfl⟩
            rw [← hW7] at HP6 cp1 cp2 cB6 hb6 ⊢
            clear hW7 HP5 hgq
            go_wp2_with (at_builtin; go_must (refine push_R3 rfl _ _ 27 rfl Tryd.underlying27 w2.heap.size (.slice none 0 0) [] rfl (OwnR.nil _ _) _ _ po pq rfl (heap_alloc_new _ _) (by simp) (by simp; omega) ?_
                                              intro v' w8 q1 q2 q3
                                              obtain ⟨va, vc, hve⟩ := own_len q1
                                              obtain ⟨x1, x2, x3⟩ := (HP6.out.below ((Below.refl _ W7).alloc (Nat.le_refl _) (.cells #[.int .i64 po, .int .i64 pq] 29)) (Nat.le_refl _)).units (k := ln) (p := (.slice none 0 0, .slice ia inn ic)) (x := (inV ss po, [])) (by rw [← HLN.out.1]; simp) (by rw [← HLN.out.2]; simp) q1 (fr_by q2) q3 rfl
                                              have cB8 : w8.cell? ⟨B, 1, none⟩ = some (.slice (some ⟨gg, 0, none⟩) (ln + 1) cap) := by
                                                have hbk := (HP6.out.below ((Below.refl _ W7).alloc (Nat.le_refl _) (.cells #[.int .i64 po, .int .i64 pq] 29)) (Nat.le_refl _)).blk
                                                exact heap_cellv (((fr_by q2).block _ (blk_lt hbk) (by simp [Value.ownBlock])).trans hbk) rfl
                                              have HP8 := Hid.mk' x3
                                              subst hve
                                              clear q1 q2 q3 x3))
            go_roundg (pn - (k + 1))
            case measure => omega
            case rel =>
              have hfin := HP8.out
              simp only [List.nil_append] at hfin
              rw [← HRE.out] at hfin
              exact ⟨k + 1, rfl, by omega, Nat.le_refl _, _, _, _, _, hfin⟩
        · have hke : k = pn := by omega
          subst hke
          have hge2 : ¬ (k : Int) < (k : Int) := by omega
          have HX : Hid (∃ la ln lc ats, PT w2 wr B (.slice sA i sC) la ln lc ats (rfill ss P)) := by
            have := HR.out
            rw [List.take_of_length_le (by have := HPN.out; omega)] at this
            exact this
          clear HR
          go_wp2
          refine bodyPost_ret (v := .tuple #[.pointer (some ⟨B, 0, none⟩), .int .i64 0]) (by simp [results, Tryd.f9, go_sem]) rfl (.inl ⟨HV.out, ?_⟩)
          obtain ⟨la, ln, lc, ats, hpt⟩ := HX.out
          obtain ⟨r1, r2⟩ := rnew_done HB.out HN.out hn HV.out HS2.out HP.out.2 (by rw [HPN.out]; exact p3) hpt HB2.out
          exact ⟨B, sA, i, sC, vs, la, ln, lc, ats, P, rfl, r1, HP.out.2, r2⟩
end Go.Proofs
