/-
  names: the statement's line: a rule with an item in its key, its contexts, and as a pair's set.
-/
import Derived.Shelf.Abstract
import Derived.Shelf.RegionOpen
import Derived.WalkKit
import Derived.WalkSpells
import Derived.WalkLawsBesides
import Derived.OwnWalk
import Derived.BigQuiet
import Derived.Deep.QuietTactic
import Derived.Deep.LoopGhost
import Derived.Deep.RegionWith
import Derived.Deep.AppendLies
import Derived.Deep.DeepCutAuto
import Derived.Laws.EntriesVeiled
import Derived.Lib.OthersKept
import Derived.Maps.AppendAt
import Derived.Maps.OwnSet
import Derived.StringKeys
import Derived.WalkMore
import Derived.Lib.SmallJoins
import Derived.Test.YtbacejefgpaabaaDoorYe
import Derived.Test.YtbacejefgpaabaaDoorGx
import Derived.Test.YtbacejefgpaabaaDoorNv
namespace Go.Proofs
open Go.RowKit Go.Shelf

set_option maxRecDepth 100000
attribute [local go_sem] Oper.semAt_some

abbrev xC : It := ⟨7, 0, ⟨#[]⟩, 0, 0, false, 2⟩
/-- what each operation of the literal leaves -/
def lnI (xk xu : Int) (xnm : ByteArray) (pa : Option Addr) (pn pc : Nat) (xlo xhi : Int) (xnt : Bool) (xky : Int) (A : Option Addr) (m c : Nat) (cu : Int) (i : Nat) (v : Value) (w : World) : Prop := match i with
  | 0 | 3 | 4 | 9 => v = (itv xk xu xnm (.slice pa pn pc) xlo xhi xnt xky)
  | 1 => v = itU 97
  | 2 => SlB w v 2 (itc xk xu xnm (.slice pa pn pc) xlo xhi xnt xky ++ itc 1 97 ⟨#[]⟩ nl 0 0 false 0) 24
  | 5 => SlB w v 2 (itc xk xu xnm (.slice pa pn pc) xlo xhi xnt xky ++ itc xk xu xnm (.slice pa pn pc) xlo xhi xnt xky) 24
  | 6 => v = (.slice A (m + 1) c)
  | 7 => v = itv 5 0 ⟨#[]⟩ (.slice A (m + 1) c) 0 0 false 0
  | 8 => SlB w v 1 (itc 5 0 ⟨#[]⟩ (.slice A (m + 1) c) 0 0 false 0) 24
  | 10 => SlB w v 1 (itc xk xu xnm (.slice pa pn pc) xlo xhi xnt xky) 24
  | 11 => ∃ s, v = itv 8 0 ⟨#[]⟩ s 0 0 false 1 ∧ SlB w s 1 (itc xk xu xnm (.slice pa pn pc) xlo xhi xnt xky) 24
  | 12 => v = itv 7 0 ⟨#[]⟩ nl 0 0 false 2
  | 13 => v = itU 99
  | 14 => ∃ s, SlB w v 3 (itc 8 0 ⟨#[]⟩ s 0 0 false 1 ++ itc 7 0 ⟨#[]⟩ nl 0 0 false 2 ++ itc 1 99 ⟨#[]⟩ nl 0 0 false 0) 24 ∧ SlB w s 1 (itc xk xu xnm (.slice pa pn pc) xlo xhi xnt xky) 24
  | 15 => v = .int .i64 cu
  | 16 => ∃ a k p r s, v = lnv 2 0 ⟨#[]⟩ false true a k p r cu ∧ SlB w a 2 (itc xk xu xnm (.slice pa pn pc) xlo xhi xnt xky ++ itc 1 97 ⟨#[]⟩ nl 0 0 false 0) 24 ∧ SlB w k 2 (itc xk xu xnm (.slice pa pn pc) xlo xhi xnt xky ++ itc xk xu xnm (.slice pa pn pc) xlo xhi xnt xky) 24 ∧ SlB w p 1 (itc 5 0 ⟨#[]⟩ (.slice A (m + 1) c) 0 0 false 0) 24 ∧ SlB w r 3 (itc 8 0 ⟨#[]⟩ s 0 0 false 1 ++ itc 7 0 ⟨#[]⟩ nl 0 0 false 2 ++ itc 1 99 ⟨#[]⟩ nl 0 0 false 0) 24 ∧ SlB w s 1 (itc xk xu xnm (.slice pa pn pc) xlo xhi xnt xky) 24
  | _ => True
theorem lnI_ext (xk xu : Int) (xnm : ByteArray) (pa : Option Addr) (pn pc : Nat) (xlo xhi : Int) (xnt : Bool) (xky : Int) (A : Option Addr) (m c : Nat) (cu : Int) (i : Nat) (v : Value) (w w' : World) (h : lnI xk xu xnm pa pn pc xlo xhi xnt xky A m c cu i v w) (k : Ext w w') : lnI xk xu xnm pa pn pc xlo xhi xnt xky A m c cu i v w' := by
  match i, h with
  | 0, h | 3, h | 4, h | 9, h | 1, h | 6, h | 7, h | 12, h | 13, h | 15, h => exact h
  | 2, h | 5, h | 8, h | 10, h => exact SlB.ext h k
  | 11, ⟨s, e, h⟩ => exact ⟨s, e, h.ext k⟩
  | 14, ⟨s, h1, h2⟩ => exact ⟨s, h1.ext k, h2.ext k⟩
  | 16, ⟨a, b, p, r, s, e, h1, h2, h3, h4, h5⟩ => exact ⟨a, b, p, r, s, e, h1.ext k, h2.ext k, h3.ext k, h4.ext k, h5.ext k⟩
  | _ + 17, _ => trivial
/-- the line lies in its block -/
def lnF (xk xu : Int) (xnm : ByteArray) (pa : Option Addr) (pn pc : Nat) (xlo xhi : Int) (xnt : Bool) (xky : Int) (A : Option Addr) (m c : Nat) (cu : Int) (B : Nat) (w : World) : Prop := ∃ a k p r s, w.heap[B]? = some (.cells (lnc 2 0 ⟨#[]⟩ false true a k p r cu).toArray 53 (0, 0)) ∧ SlB w a 2 (itc xk xu xnm (.slice pa pn pc) xlo xhi xnt xky ++ itc 1 97 ⟨#[]⟩ nl 0 0 false 0) 24 ∧ SlB w k 2 (itc xk xu xnm (.slice pa pn pc) xlo xhi xnt xky ++ itc xk xu xnm (.slice pa pn pc) xlo xhi xnt xky) 24 ∧ SlB w p 1 (itc 5 0 ⟨#[]⟩ (.slice A (m + 1) c) 0 0 false 0) 24 ∧ SlB w r 3 (itc 8 0 ⟨#[]⟩ s 0 0 false 1 ++ itc 7 0 ⟨#[]⟩ nl 0 0 false 2 ++ itc 1 99 ⟨#[]⟩ nl 0 0 false 0) 24 ∧ SlB w s 1 (itc xk xu xnm (.slice pa pn pc) xlo xhi xnt xky) 24
theorem row_other {W : World} {B b : Nat} {cs : Array Value} (hne : B ≠ b) : (W.setRow B cs).heap[b]? = W.heap[b]? := by
  unfold World.setRow
  show (W.heap.modify B _)[b]? = _
  rw [Array.getElem?_modify, if_neg hne]
theorem SlB.row {W : World} {s : Value} {n B : Nat} {cs : List Value} {ds : Array Value} {old : Array Value} (h : SlB W s n cs 24) (hB : W.heap[B]? = some (.cells old 53 (0, 0))) : SlB (W.setRow B ds) s n cs 24 := by
  obtain ⟨g, e, hb⟩ := h
  exact ⟨g, e, (row_other (fun e => by subst e; rw [hb] at hB; cases hB)).trans hb⟩
theorem store_line (W : World) (B : Nat) (old : Array Value) (hs : old.size = 10) (hB : W.heap[B]? = some (.cells old 53 (0, 0))) (cs : Array Value) (hc : cs.size = 10) (h1 : ∀ v ∈ cs.toList, v.oneCell' = true) : (storeVar 53 ⟨B, 0, none⟩ (.agg cs)).run Tryd.prog W = .ok () (W.setRow B cs) := by
  have := run_storeCells_at Tryd.prog B 0 53 cs.toList 0 old W hB (by simp [hs, hc]) h1
  have e : (old.toList.take (0 + 0) ++ cs.toList ++ old.toList.drop (0 + 0 + cs.toList.length)).toArray = cs := by
    have h0 : old.toList.drop (0 + 0 + cs.toList.length) = [] := List.drop_eq_nil_of_le (by simp [hs, hc])
    rw [h0]
    simp
  rw [e] at this
  have hi : (Tryd.prog.info? 53).map (·.size) = some 10 := by kernel_rfl
  cases hq : Tryd.prog.info? 53 with
  | none => simp [hq] at hi
  | some i =>
    have hsz : i.size = 10 := by simpa [hq] using hi
    simp [storeVar, sizeOf, typeInfo, hq, Value.cells, hsz, hc, this]
theorem fill_ones {n : Nat} {place : Nat → Option (Nat × Nat)} (hp : ∀ i, i < n → place i = some (i, 1)) : ∀ (ps : List (Nat × Value)) (l : List Value), l.length = n → (∀ p ∈ ps, p.1 < n ∧ p.2.cells = #[p.2]) → Instr.fill place l.toArray ps = some (ps.foldl (fun l p => l.set p.1 p.2) l).toArray
  | [], l, _, _ => rfl
  | (i, v) :: ps, l, hl, h => by
    obtain ⟨h1, h2⟩ := h (i, v) List.mem_cons_self
    simp only at h1 h2
    unfold Instr.fill
    rw [hp i h1]
    simp only [h2]
    rw [if_neg (by simp; omega)]
    have e : (#[v].zipIdx.foldl (fun (cs : Array Value) (x : Value × Nat) => cs.setIfInBounds (i + x.2) x.1) l.toArray) = (l.set i v).toArray := by simp
    have ih := fill_ones hp ps (l.set i v) (by rw [List.length_set]; exact hl) (fun p hp => h p (List.mem_cons_of_mem _ hp))
    rw [← e] at ih
    exact ih
theorem built_line (ps : List (Nat × Value)) : Tryd.prog.built 53 ps = Instr.fill (fun i => ([(0, 1), (1, 1), (2, 1), (3, 1), (4, 1), (5, 1), (6, 1), (7, 1), (8, 1), (9, 1)] : List (Nat × Nat)).toArray[i]?) (lnc 0 0 ⟨#[]⟩ false false nl nl nl nl 0).toArray ps := by kernel_rfl
theorem step_line {ops : Array Oper} {o : Oper} {a : Act} {w : World} {K : Act → World → Prop} {Q : Exit → Act → World → Prop} {E : Prop} (hg : o.guard = none) (parts : Array (Nat × Operand)) (ho : o.op = .build 53 parts) (vs : List (Nat × Value)) (hparts : (parts.map fun (i, x) => (i, a.eval x)).toList = vs) (hv : ∀ p ∈ vs, p.1 < 10 ∧ p.2.cells = #[p.2])
    (h : K (a.put o.dst (.agg (vs.foldl (fun l p => l.set p.1 p.2) (lnc 0 0 ⟨#[]⟩ false false nl nl nl nl 0)).toArray)) w) : if Region.wanted o (yielded ops a.tmps) = true then Oper.wp Tryd.prog o a w K Q else E := by
  have hw : Region.wanted o (yielded ops a.tmps) = true := by simp [Region.wanted, hg]
  rw [if_pos hw]
  have hb : Tryd.prog.built 53 (parts.map fun (i, x) => (i, a.eval x)).toList = some (vs.foldl (fun l p => l.set p.1 p.2) (lnc 0 0 ⟨#[]⟩ false false nl nl nl nl 0)).toArray := by
    rw [hparts, built_line]
    exact fill_ones (n := 10) (fun i hi => by
      have : i = 0 ∨ i = 1 ∨ i = 2 ∨ i = 3 ∨ i = 4 ∨ i = 5 ∨ i = 6 ∨ i = 7 ∨ i = 8 ∨ i = 9 := by omega
      rcases this with rfl | rfl | rfl | rfl | rfl | rfl | rfl | rfl | rfl | rfl <;> rfl) vs _ rfl hv
  unfold Oper.wp execOp
  simp only [ho, Sem.run_bind, run_build w 53 _ _ hb, Result.andThen_ok]
  exact h
/-- the line, as it is read -/
def lnOf (x : It) (psv : Value) (l : List (It × Value)) (sv xv : Value) (il : List (It × Value)) (cu : Int) : Ln := ⟨false, true, cu, [⟨x, psv, l⟩, ⟨xU 97, nl, []⟩], [⟨x, psv, l⟩, ⟨x, psv, l⟩], [⟨xS, sv, (xU 98, nl) :: il⟩], [⟨xP, xv, ⟨x, psv, l⟩⟩, ⟨xC, nl, ⟨x, psv, l⟩⟩, ⟨xU 99, nl, ⟨x, psv, l⟩⟩]⟩
set_option maxHeartbeats 8000000 in
theorem line_walk (xk xu : Int) (xnm : ByteArray) (pa : Option Addr) (pn pc : Nat) (xlo xhi : Int) (xnt : Bool) (xky : Int) (IA : Option Addr) (m ic : Nat) (cu : Int) (il : List (It × Value)) (w : World) (hm : il.length = m) (hin : PRow w (.slice IA m ic) il) (hsl : Sls il) (hl : m ≤ 1000) :
    Calls Tryd.prog 18 #[itv xk xu xnm (.slice pa pn pc) xlo xhi xnt xky, .slice IA m ic, .int .i64 cu] w fun e w' => ∃ A c a k p r, e = .returned (lnv 2 0 ⟨#[]⟩ false true a k p r cu) ∧ (∃ s, SlB w' a 2 (itc xk xu xnm (.slice pa pn pc) xlo xhi xnt xky ++ itc 1 97 ⟨#[]⟩ nl 0 0 false 0) 24 ∧ SlB w' k 2 (itc xk xu xnm (.slice pa pn pc) xlo xhi xnt xky ++ itc xk xu xnm (.slice pa pn pc) xlo xhi xnt xky) 24 ∧ SlB w' p 1 (itc 5 0 ⟨#[]⟩ (.slice A (m + 1) c) 0 0 false 0) 24 ∧ SlB w' r 3 (itc 8 0 ⟨#[]⟩ s 0 0 false 1 ++ itc 7 0 ⟨#[]⟩ nl 0 0 false 2 ++ itc 1 99 ⟨#[]⟩ nl 0 0 false 0) 24 ∧ SlB w' s 1 (itc xk xu xnm (.slice pa pn pc) xlo xhi xnt xky) 24) ∧ PRow w' (.slice A (m + 1) c) ((xU 98, nl) :: il) ∧ Below w.heap.size w w' := by
  have HI1 : Hid (∀ W, Below w.heap.size w W → PRow W (.slice IA m ic) il) := fun W hW => by
    obtain ⟨a, c, e, h⟩ := hin
    exact ⟨a, c, e, h.imp id (fun ⟨g, o, e, hg, h⟩ => ⟨g, o, e, Nat.lt_of_lt_of_le hg hW.size, fun j hj => (h j hj).below hW hg⟩)⟩
  have HSl : Hid (Sls ((xU 98, nl) :: il) ∧ il.length = m) := ⟨fun q hq => by
    rw [List.mem_cons] at hq
    rcases hq with rfl | hq
    · exact ⟨_, _, _, rfl⟩
    · exact hsl q hq, hm⟩
  have HB1 : Hid (∀ o1 o2, Below w.heap.size w ((w.alloc o1).alloc o2) ∧ (∀ W, Below ((w.alloc o1).alloc o2).heap.size ((w.alloc o1).alloc o2) W → W.heap[w.heap.size]? = some o1 ∧ W.heap[w.heap.size + 1]? = some o2 ∧ Below w.heap.size w W)) := fun o1 o2 => by
    have hb : Below w.heap.size w ((w.alloc o1).alloc o2) := ((Below.refl _ _).alloc (Nat.le_refl _) _).alloc (by simp) _
    refine ⟨hb, fun W hW => ⟨(hW.block _ (by simp; omega)).trans (blk_up (blk_new rfl) _), (hW.block _ (by simp)).trans (blk_new (by simp)), hb.trans (hW.mono hb.size)⟩⟩
  clear hin hsl hm
  go_enter Tryd.func18, Tryd.ntmps18
  go_wp2_with fail
  refine (unit_any 98 _).mono ?_
  rintro e w2 ⟨rfl, hb2⟩
  obtain ⟨hk1, hk2, hB2⟩ := (HB1.out _ _).2 w2 hb2
  have HK2 : Hid (w2.heap[w.heap.size]? = some (.cells (itc xk xu xnm (.slice pa pn pc) xlo xhi xnt xky).toArray 24 (0, 0)) ∧ w2.heap[w.heap.size + 1]? = some (.cells (lnc 0 0 ⟨#[]⟩ false false nl nl nl nl 0).toArray 53 (0, 0)) ∧ Below w.heap.size w w2) := ⟨hk1, hk2, hB2⟩
  have HA2 : Hid (∀ ob, Below w2.heap.size w2 (w2.alloc ob)) := fun ob => Ext_alloc _ _
  clear hb2 hk1 hk2 hB2
  go_wp2_with (at_builtin; go_must (refine app_items rfl _ _ rfl w2.heap.size (xU 98, nl) (.slice IA m ic) il rfl rfl (by simp) (itAtB (blk_new rfl) 0 (xU 98) nl rfl) (HI1.out _ (HK2.out.2.2.trans ((HA2.out _).mono HK2.out.2.2.size))) HSl.out.1 (by rw [HSl.out.2]; omega) ?_; rw [HSl.out.2]; intro A c w3 hP3 hb3; have HB3 : Hid (Below w2.heap.size w2 w3 ∧ PRow w3 (.slice A (m + 1) c) ((xU 98, nl) :: il)) := ⟨(HA2.out _).trans (hb3.mono (HA2.out _).size), hP3⟩; clear hP3 hb3))
  have HK : Hid (w3.heap[w.heap.size]? = some (.cells (itc xk xu xnm (.slice pa pn pc) xlo xhi xnt xky).toArray 24 (0, 0)) ∧ w3.heap[w.heap.size + 1]? = some (.cells (lnc 0 0 ⟨#[]⟩ false false nl nl nl nl 0).toArray 53 (0, 0)) ∧ Below w.heap.size w w3) := ⟨(HB3.out.1.block _ (blk_lt HK2.out.1)).trans HK2.out.1, (HB3.out.1.block _ (blk_lt HK2.out.2.1)).trans HK2.out.2.1, HK2.out.2.2.trans (HB3.out.1.mono HK2.out.2.2.size)⟩
  have HF3 : Hid (PRow w3 (.slice A (m + 1) c) ((xU 98, nl) :: il)) := HB3.out.2
  clear HK2 HA2 HB3 HSl
  rename_i Kx hx
  refine wp_region_last' 17 (by rfl) (by rfl) (by kernel_rfl) (by kernel_rfl) (by kernel_rfl) (by kernel_rfl) (by kernel_rfl) (by kernel_rfl) (lnI xk xu xnm pa pn pc xlo xhi xnt xky A m c cu) (fun _ W => lnF xk xu xnm pa pn pc xlo xhi xnt xky A m c cu (w.heap.size + 1) W ∧ w3.grownBy W (some (w.heap.size + 1))) (lnI_ext xk xu xnm pa pn pc xlo xhi xnt xky A m c cu) (fun _ _ _ _ h => h) ⟨?_, ?_, ?_, ?_, ?_, ?_, ?_, ?_, ?_, ?_, ?_, ?_, ?_, ?_, ?_, ?_, ?_, trivial⟩ ?_ ?_
  · as_aux_lemma =>
      clear hx HB1 HI1 HF3
      intro a W hw hp hf K hK
      have d : a.tmps.getD 3 undef = .pointer (some ⟨w.heap.size, 0, none⟩) := hf 3 (by kernel_rfl)
      clear hp hf
      have hb : W.heap[w.heap.size]? = some (.cells (itc xk xu xnm (.slice pa pn pc) xlo xhi xnt xky).toArray 24 (0, 0)) := (hw.block w.heap.size (blk_lt HK.out.1)).trans HK.out.1
      have c0 : W.cell? ⟨w.heap.size, 0, none⟩ = some (.int .i64 xk) := (cellB hb 0).trans rfl
      have c1 : W.cell? ⟨w.heap.size, 1, none⟩ = some (.int .i64 xu) := (cellB hb 1).trans rfl
      have c2 : W.cell? ⟨w.heap.size, 2, none⟩ = some (.string xnm) := (cellB hb 2).trans rfl
      have c3 : W.cell? ⟨w.heap.size, 3, none⟩ = some (.slice pa pn pc) := (cellB hb 3).trans rfl
      have c4 : W.cell? ⟨w.heap.size, 4, none⟩ = some (.int .i64 xlo) := (cellB hb 4).trans rfl
      have c5 : W.cell? ⟨w.heap.size, 5, none⟩ = some (.int .i64 xhi) := (cellB hb 5).trans rfl
      have c6 : W.cell? ⟨w.heap.size, 6, none⟩ = some (.bool xnt) := (cellB hb 6).trans rfl
      have c7 : W.cell? ⟨w.heap.size, 7, none⟩ = some (.int .i64 xky) := (cellB hb 7).trans rfl
      clear hb hw HK
      simp only [Array.getD_eq_getD_getElem?] at d
      go_simp
      exact hK _ _ (Below.refl _ _) rfl
  · as_aux_lemma =>
      clear hx HB1 HI1 HF3
      intro a W hw hp hf K hK
      clear hp hf
      go_simp
      refine (unit_any 97 W).mono ?_
      rintro e w' ⟨rfl, hb⟩
      exact hK _ _ hb rfl
  · as_aux_lemma =>
      clear hx HB1 HI1 HF3
      intro a W hw hp hf K hK
      have d0 : _ = _ := hp 0 (by kernel_rfl) _ _ (by rfl) rfl
      have d1 : _ = _ := hp 1 (by kernel_rfl) _ _ (by rfl) rfl
      clear hp hf
      refine step_slice rfl 22 24 2 _ rfl 8 Tryd.underlying22 (by kernel_rfl) (by kernel_rfl) (by decide) [(itv xk xu xnm (.slice pa pn pc) xlo xhi xnt xky), itU 97] ?_ (by intro v hm; simp only [List.mem_cons, List.not_mem_nil, or_false] at hm; rcases hm with rfl | rfl <;> rfl) rfl (by decide) (by decide) (hK _ _ (Ext_alloc _ _) ⟨W.heap.size, rfl, blk_new rfl⟩)
      rw [Array.toList_map]
      show [(0, a.tmps.getD 13 undef), (1, a.tmps.getD 14 undef)] = _
      rw [d0, d1]
      rfl
  · as_aux_lemma =>
      clear hx HB1 HI1 HF3
      intro a W hw hp hf K hK
      have d : a.tmps.getD 3 undef = .pointer (some ⟨w.heap.size, 0, none⟩) := hf 3 (by kernel_rfl)
      clear hp hf
      have hb : W.heap[w.heap.size]? = some (.cells (itc xk xu xnm (.slice pa pn pc) xlo xhi xnt xky).toArray 24 (0, 0)) := (hw.block w.heap.size (blk_lt HK.out.1)).trans HK.out.1
      have c0 : W.cell? ⟨w.heap.size, 0, none⟩ = some (.int .i64 xk) := (cellB hb 0).trans rfl
      have c1 : W.cell? ⟨w.heap.size, 1, none⟩ = some (.int .i64 xu) := (cellB hb 1).trans rfl
      have c2 : W.cell? ⟨w.heap.size, 2, none⟩ = some (.string xnm) := (cellB hb 2).trans rfl
      have c3 : W.cell? ⟨w.heap.size, 3, none⟩ = some (.slice pa pn pc) := (cellB hb 3).trans rfl
      have c4 : W.cell? ⟨w.heap.size, 4, none⟩ = some (.int .i64 xlo) := (cellB hb 4).trans rfl
      have c5 : W.cell? ⟨w.heap.size, 5, none⟩ = some (.int .i64 xhi) := (cellB hb 5).trans rfl
      have c6 : W.cell? ⟨w.heap.size, 6, none⟩ = some (.bool xnt) := (cellB hb 6).trans rfl
      have c7 : W.cell? ⟨w.heap.size, 7, none⟩ = some (.int .i64 xky) := (cellB hb 7).trans rfl
      clear hb hw HK
      simp only [Array.getD_eq_getD_getElem?] at d
      go_simp
      exact hK _ _ (Below.refl _ _) rfl
  · as_aux_lemma =>
      clear hx HB1 HI1 HF3
      intro a W hw hp hf K hK
      have d : a.tmps.getD 3 undef = .pointer (some ⟨w.heap.size, 0, none⟩) := hf 3 (by kernel_rfl)
      clear hp hf
      have hb : W.heap[w.heap.size]? = some (.cells (itc xk xu xnm (.slice pa pn pc) xlo xhi xnt xky).toArray 24 (0, 0)) := (hw.block w.heap.size (blk_lt HK.out.1)).trans HK.out.1
      have c0 : W.cell? ⟨w.heap.size, 0, none⟩ = some (.int .i64 xk) := (cellB hb 0).trans rfl
      have c1 : W.cell? ⟨w.heap.size, 1, none⟩ = some (.int .i64 xu) := (cellB hb 1).trans rfl
      have c2 : W.cell? ⟨w.heap.size, 2, none⟩ = some (.string xnm) := (cellB hb 2).trans rfl
      have c3 : W.cell? ⟨w.heap.size, 3, none⟩ = some (.slice pa pn pc) := (cellB hb 3).trans rfl
      have c4 : W.cell? ⟨w.heap.size, 4, none⟩ = some (.int .i64 xlo) := (cellB hb 4).trans rfl
      have c5 : W.cell? ⟨w.heap.size, 5, none⟩ = some (.int .i64 xhi) := (cellB hb 5).trans rfl
      have c6 : W.cell? ⟨w.heap.size, 6, none⟩ = some (.bool xnt) := (cellB hb 6).trans rfl
      have c7 : W.cell? ⟨w.heap.size, 7, none⟩ = some (.int .i64 xky) := (cellB hb 7).trans rfl
      clear hb hw HK
      simp only [Array.getD_eq_getD_getElem?] at d
      go_simp
      exact hK _ _ (Below.refl _ _) rfl
  · as_aux_lemma =>
      clear hx HB1 HI1 HF3
      intro a W hw hp hf K hK
      have d0 : _ = _ := hp 3 (by kernel_rfl) _ _ (by rfl) rfl
      have d1 : _ = _ := hp 4 (by kernel_rfl) _ _ (by rfl) rfl
      clear hp hf
      refine step_slice rfl 22 24 2 _ rfl 8 Tryd.underlying22 (by kernel_rfl) (by kernel_rfl) (by decide) [(itv xk xu xnm (.slice pa pn pc) xlo xhi xnt xky), (itv xk xu xnm (.slice pa pn pc) xlo xhi xnt xky)] ?_ (by intro v hm; simp only [List.mem_cons, List.not_mem_nil, or_false] at hm; rcases hm with rfl | rfl <;> rfl) rfl (by decide) (by decide) (hK _ _ (Ext_alloc _ _) ⟨W.heap.size, rfl, blk_new rfl⟩)
      rw [Array.toList_map]
      show [(0, a.tmps.getD 16 undef), (1, a.tmps.getD 17 undef)] = _
      rw [d0, d1]
      rfl
  · as_aux_lemma =>
      clear hx HB1 HI1 HF3
      intro a W hw hp hf K hK
      have d : a.tmps.getD 7 undef = (.slice A (m + 1) c) := hf 7 (by kernel_rfl)
      clear hp hf
      exact step_value (v := (.slice A (m + 1) c)) (w' := W) rfl (fun _ _ h => by cases h) (rho [(7, (.slice A (m + 1) c))]) (rho_of (by intro p hm; simp only [List.mem_cons, List.not_mem_nil, or_false] at hm; rcases hm with rfl; exact d) (by kernel_rfl)) (by kernel_rfl) (hK _ _ (Below.refl _ _) rfl)
  · as_aux_lemma =>
      clear hx HB1 HI1 HF3
      intro a W hw hp hf K hK
      have d : _ = _ := hp 6 (by kernel_rfl) _ _ (by rfl) rfl
      clear hp hf
      exact step_value (v := itv 5 0 ⟨#[]⟩ (.slice A (m + 1) c) 0 0 false 0) (w' := W) rfl (fun _ _ h => by cases h) (rho [(19, (.slice A (m + 1) c))]) (rho_of (by intro p hm; simp only [List.mem_cons, List.not_mem_nil, or_false] at hm; rcases hm with rfl; exact d) (by kernel_rfl)) (by kernel_rfl) (hK _ _ (Below.refl _ _) rfl)
  · as_aux_lemma =>
      clear hx HB1 HI1 HF3
      intro a W hw hp hf K hK
      have d : _ = _ := hp 7 (by kernel_rfl) _ _ (by rfl) rfl
      clear hp hf
      refine step_slice rfl 22 24 1 _ rfl 8 Tryd.underlying22 (by kernel_rfl) (by kernel_rfl) (by decide) [itv 5 0 ⟨#[]⟩ (.slice A (m + 1) c) 0 0 false 0] ?_ (by intro v hm; simp only [List.mem_cons, List.not_mem_nil, or_false] at hm; rcases hm with rfl <;> rfl) rfl (by decide) (by decide) (hK _ _ (Ext_alloc _ _) ⟨W.heap.size, rfl, blk_new rfl⟩)
      rw [Array.toList_map]
      show [(0, a.tmps.getD 20 undef)] = _
      rw [d]
      rfl
  · as_aux_lemma =>
      clear hx HB1 HI1 HF3
      intro a W hw hp hf K hK
      have d : a.tmps.getD 3 undef = .pointer (some ⟨w.heap.size, 0, none⟩) := hf 3 (by kernel_rfl)
      clear hp hf
      have hb : W.heap[w.heap.size]? = some (.cells (itc xk xu xnm (.slice pa pn pc) xlo xhi xnt xky).toArray 24 (0, 0)) := (hw.block w.heap.size (blk_lt HK.out.1)).trans HK.out.1
      have c0 : W.cell? ⟨w.heap.size, 0, none⟩ = some (.int .i64 xk) := (cellB hb 0).trans rfl
      have c1 : W.cell? ⟨w.heap.size, 1, none⟩ = some (.int .i64 xu) := (cellB hb 1).trans rfl
      have c2 : W.cell? ⟨w.heap.size, 2, none⟩ = some (.string xnm) := (cellB hb 2).trans rfl
      have c3 : W.cell? ⟨w.heap.size, 3, none⟩ = some (.slice pa pn pc) := (cellB hb 3).trans rfl
      have c4 : W.cell? ⟨w.heap.size, 4, none⟩ = some (.int .i64 xlo) := (cellB hb 4).trans rfl
      have c5 : W.cell? ⟨w.heap.size, 5, none⟩ = some (.int .i64 xhi) := (cellB hb 5).trans rfl
      have c6 : W.cell? ⟨w.heap.size, 6, none⟩ = some (.bool xnt) := (cellB hb 6).trans rfl
      have c7 : W.cell? ⟨w.heap.size, 7, none⟩ = some (.int .i64 xky) := (cellB hb 7).trans rfl
      clear hb hw HK
      simp only [Array.getD_eq_getD_getElem?] at d
      go_simp
      exact hK _ _ (Below.refl _ _) rfl
  · as_aux_lemma =>
      clear hx HB1 HI1 HF3
      intro a W hw hp hf K hK
      have d : _ = _ := hp 9 (by kernel_rfl) _ _ (by rfl) rfl
      clear hp hf
      refine step_slice rfl 22 24 1 _ rfl 8 Tryd.underlying22 (by kernel_rfl) (by kernel_rfl) (by decide) [(itv xk xu xnm (.slice pa pn pc) xlo xhi xnt xky)] ?_ (by intro v hm; simp only [List.mem_cons, List.not_mem_nil, or_false] at hm; rcases hm with rfl <;> rfl) rfl (by decide) (by decide) (hK _ _ (Ext_alloc _ _) ⟨W.heap.size, rfl, blk_new rfl⟩)
      rw [Array.toList_map]
      show [(0, a.tmps.getD 22 undef)] = _
      rw [d]
      rfl
  · as_aux_lemma =>
      clear hx HB1 HI1 HF3
      intro a W hw hp hf K hK
      obtain ⟨g, d, h⟩ := hp 10 (by kernel_rfl) _ _ (by rfl) rfl
      clear hp hf
      exact step_value (v := itv 8 0 ⟨#[]⟩ (.slice (some ⟨g, 0, none⟩) 1 1) 0 0 false 1) (w' := W) rfl (fun _ _ h => by cases h) (rho [(23, (.slice (some ⟨g, 0, none⟩) 1 1))]) (rho_of (by intro p hm; simp only [List.mem_cons, List.not_mem_nil, or_false] at hm; rcases hm with rfl; exact d) (by kernel_rfl)) (by kernel_rfl) (hK _ _ (Below.refl _ _) ⟨_, rfl, g, rfl, h⟩)
  · as_aux_lemma =>
      clear hx HB1 HI1 HF3
      intro a W hw hp hf K hK
      clear hp hf
      exact step_value (v := itv 7 0 ⟨#[]⟩ nl 0 0 false 2) (w' := W) rfl (fun _ _ h => by cases h) (rho []) (rho_of (fun p hm => by cases hm) (by kernel_rfl)) (by kernel_rfl) (hK _ _ (Below.refl _ _) rfl)
  · as_aux_lemma =>
      clear hx HB1 HI1 HF3
      intro a W hw hp hf K hK
      clear hp hf
      go_simp
      refine (unit_any 99 W).mono ?_
      rintro e w' ⟨rfl, hb⟩
      exact hK _ _ hb rfl
  · as_aux_lemma =>
      clear hx HB1 HI1 HF3
      intro a W hw hp hf K hK
      obtain ⟨s, d, g, e, h⟩ := hp 11 (by kernel_rfl) _ _ (by rfl) rfl
      subst e
      have d1 : _ = _ := hp 12 (by kernel_rfl) _ _ (by rfl) rfl
      have d2 : _ = _ := hp 13 (by kernel_rfl) _ _ (by rfl) rfl
      clear hp hf
      refine step_slice rfl 22 24 3 _ rfl 8 Tryd.underlying22 (by kernel_rfl) (by kernel_rfl) (by decide) [itv 8 0 ⟨#[]⟩ (.slice (some ⟨g, 0, none⟩) 1 1) 0 0 false 1, itv 7 0 ⟨#[]⟩ nl 0 0 false 2, itU 99] ?_ (by intro v hm; simp only [List.mem_cons, List.not_mem_nil, or_false] at hm; rcases hm with rfl | rfl | rfl <;> rfl) rfl (by decide) (by decide) (hK _ _ (Ext_alloc _ _) ⟨(.slice (some ⟨g, 0, none⟩) 1 1), ⟨W.heap.size, rfl, blk_new rfl⟩, SlB.ext ⟨g, rfl, h⟩ (Ext_alloc _ _)⟩)
      rw [Array.toList_map]
      show [(0, a.tmps.getD 24 undef), (1, a.tmps.getD 25 undef), (2, a.tmps.getD 26 undef)] = _
      rw [d, d1, d2]
      rfl
  · as_aux_lemma =>
      clear hx HB1 HI1 HF3
      intro a W hw hp hf K hK
      have d : a.tmps.getD 2 undef = .int .i64 cu := hf 2 (by kernel_rfl)
      clear hp hf
      exact step_value (v := .int .i64 cu) (w' := W) rfl (fun _ _ h => by cases h) (rho [(2, .int .i64 cu)]) (rho_of (by intro p hm; simp only [List.mem_cons, List.not_mem_nil, or_false] at hm; rcases hm with rfl; exact d) (by kernel_rfl)) (by kernel_rfl) (hK _ _ (Below.refl _ _) rfl)
  · as_aux_lemma =>
      clear hx HB1 HI1 HF3
      intro a W hw hp hf K hK
      obtain ⟨ga, d1, h1⟩ := hp 2 (by kernel_rfl) _ _ (by rfl) rfl
      obtain ⟨gk, d2, h2⟩ := hp 5 (by kernel_rfl) _ _ (by rfl) rfl
      obtain ⟨gp, d3, h3⟩ := hp 8 (by kernel_rfl) _ _ (by rfl) rfl
      obtain ⟨s, ⟨gr, d4, h4⟩, h5⟩ := hp 14 (by kernel_rfl) _ _ (by rfl) rfl
      have d5 : _ = _ := hp 15 (by kernel_rfl) _ _ (by rfl) rfl
      clear hp hf
      refine step_line rfl _ rfl [(0, .int .i64 2), (5, (.slice (some ⟨ga, 0, none⟩) 2 2)), (6, (.slice (some ⟨gk, 0, none⟩) 2 2)), (7, (.slice (some ⟨gp, 0, none⟩) 1 1)), (4, .bool true), (8, (.slice (some ⟨gr, 0, none⟩) 3 3)), (9, .int .i64 cu)] ?_ (by intro p hm; simp only [List.mem_cons, List.not_mem_nil, or_false] at hm; rcases hm with rfl | rfl | rfl | rfl | rfl | rfl | rfl <;> exact ⟨by simp, rfl⟩) (hK _ _ (Below.refl _ _) ⟨_, _, _, _, s, rfl, ⟨ga, rfl, h1⟩, ⟨gk, rfl, h2⟩, ⟨gp, rfl, h3⟩, ⟨gr, rfl, h4⟩, h5⟩)
      rw [Array.toList_map]
      show [(0, .int .i64 2), (5, a.tmps.getD 15 undef), (6, a.tmps.getD 18 undef), (7, a.tmps.getD 21 undef), (4, .bool true), (8, a.tmps.getD 27 undef), (9, a.tmps.getD 28 undef)] = _
      rw [d1, d2, d3, d4, d5]
  · as_aux_lemma =>
      clear hx HB1 HI1 HF3
      intro a W vs hw hi hval hfr K hK
      obtain ⟨ya, yk, yp, yr, ys, e, h1, h2, h3, h4, h5⟩ := hi 16 (by decide)
      have d6 : a.tmps.getD 6 undef = .pointer (some ⟨w.heap.size + 1, 0, none⟩) := hfr 6 (by kernel_rfl)
      have d29 : a.tmps.getD 29 undef = lnv 2 0 ⟨#[]⟩ false true ya yk yp yr cu := (hval 16 _ 29 (by rfl) rfl).trans e
      have hb : W.heap[w.heap.size + 1]? = some (.cells (lnc 0 0 ⟨#[]⟩ false false nl nl nl nl 0).toArray 53 (0, 0)) := (hw.block _ (blk_lt HK.out.2.1)).trans HK.out.2.1
      have hst := store_line W (w.heap.size + 1) _ rfl hb (lnc 2 0 ⟨#[]⟩ false true ya yk yp yr cu).toArray rfl (by
        obtain ⟨_, e1, _⟩ := h1
        obtain ⟨_, e2, _⟩ := h2
        obtain ⟨_, e3, _⟩ := h3
        obtain ⟨_, e4, _⟩ := h4
        subst e1 e2 e3 e4
        intro v hv
        simp only [lnc, List.mem_cons, List.not_mem_nil, or_false] at hv
        rcases hv with rfl | rfl | rfl | rfl | rfl | rfl | rfl | rfl | rfl | rfl <;> rfl)
      have hg : w3.grownBy (W.setRow (w.heap.size + 1) (lnc 2 0 ⟨#[]⟩ false true ya yk yp yr cu).toArray) (some (w.heap.size + 1)) := ⟨hw.os, hw.tape, hw.output, by simpa [World.setRow] using hw.size, fun i hil hne => (row_other (fun e => hne (by rw [e]))).trans (hw.block i hil)⟩
      refine step_skip rfl (fun _ _ h => by cases h) (rho [(6, .pointer (some ⟨w.heap.size + 1, 0, none⟩)), (29, lnv 2 0 ⟨#[]⟩ false true ya yk yp yr cu)]) (rho_of (by intro p hm; simp only [List.mem_cons, List.not_mem_nil, or_false] at hm; rcases hm with rfl | rfl; exact d6; exact d29) (by kernel_rfl)) (w' := W.setRow (w.heap.size + 1) (lnc 2 0 ⟨#[]⟩ false true ya yk yp yr cu).toArray) ?_ (hK _ _ ⟨⟨ya, yk, yp, yr, ys, setRow_heap _ _ _ _ _ _ hb, h1.row hb, h2.row hb, h3.row hb, h4.row hb, h5.row hb⟩, hg⟩)
      have e6 : rho [(6, .pointer (some ⟨w.heap.size + 1, 0, none⟩)), (29, lnv 2 0 ⟨#[]⟩ false true ya yk yp yr cu)] (.tmp 6) = .pointer (some ⟨w.heap.size + 1, 0, none⟩) := rfl
      have e29 : rho [(6, .pointer (some ⟨w.heap.size + 1, 0, none⟩)), (29, lnv 2 0 ⟨#[]⟩ false true ya yk yp yr cu)] (.tmp 29) = lnv 2 0 ⟨#[]⟩ false true ya yk yp yr cu := rfl
      unfold execOp
      simp only [e6, e29, Instr.storeAt, Instr.sureAddr, Sem.run_bind, Sem.run_pure, Result.andThen_ok]
      rw [hst]
      rfl
  · intro vs W hLW
    obtain ⟨⟨ya, yk, yp, yr, ys, hb, h1, h2, h3, h4, h5⟩, hg⟩ := hLW
    obtain ⟨_, e1, _⟩ := id h1
    obtain ⟨_, e2, _⟩ := id h2
    obtain ⟨_, e3, _⟩ := id h3
    obtain ⟨_, e4, _⟩ := id h4
    have HR : Hid ((∃ s, SlB W ya 2 (itc xk xu xnm (.slice pa pn pc) xlo xhi xnt xky ++ itc 1 97 ⟨#[]⟩ nl 0 0 false 0) 24 ∧ SlB W yk 2 (itc xk xu xnm (.slice pa pn pc) xlo xhi xnt xky ++ itc xk xu xnm (.slice pa pn pc) xlo xhi xnt xky) 24 ∧ SlB W yp 1 (itc 5 0 ⟨#[]⟩ (.slice A (m + 1) c) 0 0 false 0) 24 ∧ SlB W yr 3 (itc 8 0 ⟨#[]⟩ s 0 0 false 1 ++ itc 7 0 ⟨#[]⟩ nl 0 0 false 2 ++ itc 1 99 ⟨#[]⟩ nl 0 0 false 0) 24 ∧ SlB W s 1 (itc xk xu xnm (.slice pa pn pc) xlo xhi xnt xky) 24) ∧ PRow W (.slice A (m + 1) c) ((xU 98, nl) :: il) ∧ Below w.heap.size w W) := by
      refine ⟨⟨ys, h1, h2, h3, h4, h5⟩, ?_, HK.out.2.2.grown hg HK.out.2.2.size (fun k e => by cases e; omega)⟩
      obtain ⟨a', c', e', h⟩ := HF3.out
      refine ⟨a', c', e', h.imp id (fun ⟨g, o, e, hgl, hh⟩ => ⟨g, o, e, Nat.lt_of_lt_of_le hgl hg.size, fun j hj => ?_⟩)⟩
      have hne : some g ≠ some (w.heap.size + 1) := fun e2 => by
        have e3 : g = w.heap.size + 1 := Option.some.inj e2
        have h0 := (hh 0 (by simp)).1
        rw [e3, cellB HK.out.2.1] at h0
        have hm := List.mem_of_getElem? h0
        simp at hm
      obtain ⟨q0, q1, q2, q3, q4, q5, q6, q7⟩ := hh j hj
      exact ⟨hg.cell q0 hne, hg.cell q1 hne, hg.cell q2 hne, hg.cell q3 hne, hg.cell q4 hne, hg.cell q5 hne, hg.cell q6 hne, hg.cell q7 hne⟩
    have hcs : ∀ j, W.cell? ⟨w.heap.size + 1, j, none⟩ = (lnc 2 0 ⟨#[]⟩ false true ya yk yp yr cu)[j]? := fun j => cellB hb j
    subst e1 e2 e3 e4
    have z0 := hcs 0
    have z1 := hcs 1
    have z2 := hcs 2
    have z3 := hcs 3
    have z4 := hcs 4
    have z5 := hcs 5
    have z6 := hcs 6
    have z7 := hcs 7
    have z8 := hcs 8
    have z9 := hcs 9
    simp at z0 z1 z2 z3 z4 z5 z6 z7 z8 z9
    clear h1 h2 h3 h4 h5 hb hg hcs HK HF3 HB1 HI1
    rw [putL_eq]
    simp only [putsL, List.set_cons_zero, List.set_cons_succ]
    go_wp2
    exact bodyPost_ret (v := lnv 2 0 ⟨#[]⟩ false true _ _ _ _ cu) (by simp [results, Tryd.f18, go_sem, z0, z1, z2, z3, z4, z5, z6, z7, z8, z9]) rfl ⟨A, c, _, _, _, _, rfl, HR.out.1, HR.out.2⟩
end Go.Proofs
