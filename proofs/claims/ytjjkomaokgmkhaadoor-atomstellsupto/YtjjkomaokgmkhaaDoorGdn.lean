/-
  All units as a set; turns sorted.
-/
import Derived.RangeFuncNested
import Derived.RangeFuncBound
import Derived.RangeFuncCalls
import Derived.RangeFuncLeaves
import Derived.Shelf.Abstract
import Derived.Shelf.RegionOpen
import Derived.WalkKit
import Derived.WalkSpells
import Derived.WalkLawsBesides
import Derived.OwnWalkIn
import Derived.TacticsInMore
import Derived.LoopNIn
import Derived.LoopIn
import Derived.BigQuiet
import Derived.RegionIn
import Derived.Deep.QuietTactic
import Derived.Deep.RegionWith
import Derived.Lib.OthersKept
import Derived.Maps.AppendAt
import Derived.Lib.SmallJoins
import Derived.Shelf.SlSortCmp.QuietGrown
import Derived.Test.YtjjkomaokgmkhaaDoorGcn
namespace Go.Proofs
open Go.RowKit Go.Shelf

set_option maxRecDepth 100000
attribute [local go_sem] Oper.semAt_some
attribute [local go_sem ↓] Go.wp_at_zero Go.wp_at_succ

set_option maxHeartbeats 1000000 in
theorem any_any (w : World) (hT : Tab w) : Calls Tryd.prog 40 #[] w fun e w' => ∃ v, e = .returned v ∧ OwnR w' w.heap.size v allU ∧ Below w.heap.size w w' := by
  have t0 := hT.cell 0 (.int .i64 0) rfl
  have t1 := hT.cell 1 (.int .i64 55295) rfl
  have t2 := hT.cell 2 (.int .i64 57344) rfl
  have t3 := hT.cell 3 (.int .i64 1114111) rfl
  have t4 := hT.cell 4 (.int .i64 1114240) rfl
  have t5 := hT.cell 5 (.int .i64 1114367) rfl
  go_enter Tryd.func40, Tryd.ntmps40
  go_wp2
  clear t0 t1 t2 t3 t4 t5
  go_loopw [1, 5] (fun vs vi wr => ∃ k : Nat, vi = .int .i64 k ∧ k ≤ 3 ∧ OwnR wr w.heap.size vs (allU.take k) ∧ Below w.heap.size w wr) (fun _ vi _ => 3 - (intOf vi).toNat)
  case atStart => exact ⟨0, rfl, by omega, OwnR.nil _ _, Below.refl _ _⟩
  case round =>
    obtain ⟨k, rfl, hk, hO, hB⟩ := hrel
    have hz := hB.size
    have hk5 : k = 0 ∨ k = 1 ∨ k = 2 ∨ k = 3 := by omega
    rcases hk5 with rfl | rfl | rfl | rfl
    · have hix := idx0
      go_wp2_with (at_builtin; go_must (refine push_R rfl _ _ 27 rfl Tryd.underlying27 w.heap.size _ _ rfl ((hO.alloc _).alloc _) _ _ 0 55295 rfl (by simp) (by simp) (by decide) (by simp; omega) ?_); intro v' w1 hO1 _ hb1)
      exact ⟨⟨1, rfl, by omega, hO1, ((hB.alloc hz _).alloc (by simp; omega) _).trans hb1⟩, by simp [intOf]⟩
    · have hix := idx1
      go_wp2_with (at_builtin; go_must (refine push_R rfl _ _ 27 rfl Tryd.underlying27 w.heap.size _ _ rfl ((hO.alloc _).alloc _) _ _ 57344 1114111 rfl (by simp) (by simp) (by decide) (by simp; omega) ?_); intro v' w1 hO1 _ hb1)
      exact ⟨⟨2, rfl, by omega, hO1, ((hB.alloc hz _).alloc (by simp; omega) _).trans hb1⟩, by simp [intOf]⟩
    · have hix := idx2
      go_wp2_with (at_builtin; go_must (refine push_R rfl _ _ 27 rfl Tryd.underlying27 w.heap.size _ _ rfl ((hO.alloc _).alloc _) _ _ 1114240 1114367 rfl (by simp) (by simp) (by decide) (by simp; omega) ?_); intro v' w1 hO1 _ hb1)
      exact ⟨⟨3, rfl, by omega, hO1, ((hB.alloc hz _).alloc (by simp; omega) _).trans hb1⟩, by simp [intOf]⟩
    · go_wp2
      go_ret
      exact ⟨_, rfl, hO, hB⟩
theorem rg_slice {w : World} {g o : Nat} {l : List (Int × Int)} (h : Reads w g o l) (a : Nat) : Reads w g (o + a * 2) (l.drop a) := fun j hj => by
  rw [List.length_drop] at hj
  have := h (a + j) (by omega)
  rw [show rg (l.drop a) j = rg l (a + j) by simp only [rg]; rw [List.getElem?_drop], show o + a * 2 + j * 2 = o + (a + j) * 2 by omega]
  exact this

set_option maxHeartbeats 1000000 in
theorem appT_nil (a0 a1 : Option Addr) (n0 c0 c : Nat) (n : Int) (w : World) : Calls Tryd.prog 39 #[.slice a0 n0 c0, .int .i64 n, .slice a1 0 c] w fun e w' => e = .returned (.slice a0 n0 c0) ∧ w' = w := by
  go_enter Tryd.func39, Tryd.ntmps39
  go_wp2
  refine wp_loop_rounds 1 ?_
  rw [rounds_succ]
  go_wp2
  go_ret
  exact ⟨rfl, rfl⟩
/-- the turns of one set more -/
theorem appT_any (a0 : Option Addr) (n0 c0 : Nat) (sv : Value) (n : Int) (l s : List (Int × Int)) (base : Nat) (w : World) (hO : OwnT w base (.slice a0 n0 c0) l) (hb : base ≤ w.heap.size) (hs : ∀ W, Fr w W (fun b => (Value.slice a0 n0 c0).ownBlock = some b) → Rs W sv s)
    (hbd : ∀ x ∈ s, 0 ≤ x.1 ∧ x.1 ≤ 1114367 ∧ 0 ≤ x.2 ∧ x.2 ≤ 1114367) (hl : l.length + 2 * s.length ≤ 4398046511104) :
    Calls Tryd.prog 39 #[.slice a0 n0 c0, .int .i64 n, sv] w fun e w' => ∃ v', e = .returned v' ∧ OwnT w' base v' (l ++ tnS n s) ∧ Fr w w' (fun b => (Value.slice a0 n0 c0).ownBlock = some b) ∧ Loc w (.slice a0 n0 c0) v' := by
  obtain ⟨a, c, rfl, hc, h⟩ := hs w (Fr.refl _ _)
  by_cases h0 : s = []
  · subst h0
    refine (appT_nil a0 a n0 c0 c n w).mono ?_
    rintro e w' ⟨rfl, rfl⟩
    exact ⟨_, rfl, by simpa [tnS] using hO, Fr.refl _ _, .inl rfl⟩
  · obtain ⟨g, o, rfl, _⟩ := h.resolve_left h0
    refine appT_walk a0 n0 c0 n l s g o s.length c base w rfl hO hb (fun W hW => ?_) hc hbd hl
    obtain ⟨a', c', e, _, h'⟩ := hs W hW
    obtain ⟨g', o', e', h3⟩ := h'.resolve_left h0
    injection e with e1 e2 e3
    rw [e'] at e1
    injection e1 with e1
    injection e1 with e1 e2 _
    subst e1 e2
    exact h3
/-! the sort -/
def encR (x : Int × Int) : List Value := [.int .i64 x.1, .int .i64 x.2]
theorem OwnT.reads {w : World} {base g n cap : Nat} {l : List (Int × Int)} (h : OwnT w base (.slice (some ⟨g, 0, none⟩) n cap) l) : Reads w g 0 l := fun j hj => by
  have h1 := h.cells rfl
  have := fl_at l hj
  have a1 := h1 _ _ this.1
  have a2 := h1 _ _ this.2
  rw [add_zero_at] at a1 a2
  rw [Nat.zero_add]
  exact ⟨a1, a2⟩
theorem own_holds {w : World} {base g n cap : Nat} {l : List (Int × Int)} (h : OwnT w base (.slice (some ⟨g, 0, none⟩) n cap) l) : Go.Sort.HoldsK encR 2 w g 0 l.toArray := by
  intro t ht
  have ht' : t < l.toArray.size * 2 := by simpa using ht
  rw [Go.Sort.get_flatK _ _ _ t ht']
  have hj : t / 2 < l.length := by simp at ht'; omega
  have hr := OwnT.reads h (t / 2) hj
  have hrg : rg l (t / 2) = l.toArray[t / 2]! := by rw [rg_lt hj]; simp [hj]
  rw [hrg, Nat.zero_add] at hr
  refine ⟨?_, ?_⟩
  · rw [Nat.zero_add]
    have h2 : t % 2 = 0 ∨ t % 2 = 1 := by omega
    rcases h2 with h2 | h2
    · rw [h2]
      have e : t / 2 * 2 = t := by omega
      rw [e] at hr
      exact hr.1
    · rw [h2]
      have e : t / 2 * 2 + 1 = t := by omega
      rw [e] at hr
      exact hr.2
  · rcases h.2 with ⟨h2, _⟩ | ⟨g', cap', cur, hv, hg, hh, _⟩
    · cases h2
    · cases hv
      simp [World.frozen?, hh]
theorem holds_reads {w : World} {g : Nat} {d : Array (Int × Int)} (h : Go.Sort.HoldsK encR 2 w g 0 d) : Reads w g 0 d.toList := fun j hj => by
  have hj' : j < d.size := by simpa using hj
  have h0 := (h.cell (i := j) (c := 0) hj' (by omega)).1
  have h1 := (h.cell (i := j) (c := 1) hj' (by omega)).1
  have hrg : rg d.toList j = d[j]! := by rw [rg_lt hj]; simp [hj']
  rw [hrg]
  exact ⟨h0, h1⟩
theorem grownBy_sortK {w : World} {g n : Nat} {os : Array Obj} (d : Array (Int × Int)) : w.grownBy (sortWorldK encR 2 w g 0 n d os) (some g) := by
  unfold sortWorldK Go.Sort.putRowK
  refine ⟨rfl, rfl, rfl, by simp, fun k hk hne => ?_⟩
  rw [Go.Sort.heap_grow_old _ _ (by simpa using hk)]
  have : g ≠ k := fun e => hne (by rw [e])
  simp [Go.Sort.putRow, Go.Sort.mapBlock, Sort.ahead, Array.getElem?_modify, this]
def AscT (l : List (Int × Int)) : Prop := l.Pairwise fun x y => ¬ ltT y x
theorem sortT_any (v : Value) (m : List (Int × Int)) (base : Nat) (w : World) (h : OwnT w base v m) (hn : m.length < 8796093022208) :
    Calls Tryd.prog 41 #[v, .func (.func 42) #[] #[]] w fun e w' => e = .returned (.tuple #[]) ∧ ∃ m', m'.Perm m ∧ AscT m' ∧ Rs w' v m' ∧ w.grownBy w' v.ownBlock := by
  rcases h.2 with ⟨rfl, h0⟩ | ⟨g, cap, cur, rfl, hbg, hh, hc, _⟩
  · have : m = [] := List.eq_nil_of_length_eq_zero h0
    subst this
    refine (AnyF.slices_SortFunc_none Tryd.sortR none 0 _ w).mono ?_
    rintro e w' ⟨rfl, rfl⟩
    exact ⟨rfl, [], List.Perm.refl _, List.Pairwise.nil, ⟨none, 0, rfl, Nat.le_refl _, .inl rfl⟩, rfl, rfl, rfl, Nat.le_refl _, fun _ _ _ => rfl⟩
  · have eg : ∀ args w, (callFunc 42 args).run Tryd.prog w = .ok (.enter 42 args) w := enters_of Tryd.func42 (by kernel_rfl) rfl
    have hg : g < w.heap.size := (Array.getElem?_eq_some_iff.1 hh).1
    have hH := own_holds h
    have hcon := AnyQ.slices_SortFunc Tryd.sortR 2 Tryd.isAgg77 Tryd.sizeOf77 encR (fun _ => rfl) (fun x v hv => by simp [encR] at hv; rcases hv with rfl | rfl <;> rfl) cfT swoT 42 #[] g 0 cap m.toArray w eg (fun _ _ _ _ x y => closure42 x y _) hH hg (by simp; omega)
    change Calls Tryd.prog 41 _ _ _ at hcon
    refine hcon.mono ?_
    rintro e w' ⟨rfl, d', n, os, hp, hs, rfl⟩
    have hsz : d'.size = m.length := by have := hp.1; simpa using this
    refine ⟨rfl, d'.toList, ?_, ?_, ?_, grownBy_sortK d'⟩
    · have h2 := hp.2.2
      have e1 : (d'.extract 0 m.toArray.size).toList = d'.toList := by simp [← hsz]
      have e2 : (m.toArray.extract 0 m.toArray.size).toList = m := by simp
      rw [e1, e2] at h2
      exact h2
    · unfold AscT
      rw [List.pairwise_iff_getElem]
      intro i j hi hj hij
      have := hs i j (Nat.zero_le _) hij (by simp at hj ⊢; omega)
      rw [ltOfT_f] at this
      simp at hi hj
      simp [hi, hj] at this
      simpa using this
    · refine ⟨some ⟨g, 0, none⟩, cap, by simp [hsz], by simpa [hsz] using hc, .inr ⟨g, 0, rfl, holds_reads ?_⟩⟩
      exact holdsK_sortWorldK encR 2 w g 0 n m.toArray d' os hg hH (by simpa using hsz)
end Go.Proofs
