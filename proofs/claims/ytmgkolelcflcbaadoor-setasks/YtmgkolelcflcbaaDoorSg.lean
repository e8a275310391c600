/-
  The first units of a set.
-/
import Derived.RangeFuncNested
import Derived.RangeFuncBound
import Derived.RangeFuncCalls
import Derived.RangeFuncLeaves
import Derived.Shelf.Abstract
import Derived.Shelf.RegionOpen
import Derived.WalkKit
import Derived.WalkSpells
import Derived.WalkLawsBesides
import Derived.OwnWalkIn
import Derived.TacticsInMore
import Derived.LoopNIn
import Derived.LoopIn
import Derived.BigQuiet
import Derived.RegionIn
import Derived.Deep.QuietTactic
import Derived.Deep.RegionWith
import Derived.Lib.OthersKept
import Derived.Maps.AppendAt
import Derived.Lib.SmallJoins
import Derived.Test.YtmgkolelcflcbaaDoorSf
namespace Go.Proofs
open Go.RowKit Go.Shelf

set_option maxRecDepth 100000
attribute [local go_sem] Oper.semAt_some

def ints (l : List Int) : List Value := l.map fun x => .int .i64 x
def OwnI (w : World) (base : Nat) (v : Value) (l : List Int) : Prop := w.ownsRow base 3 1 v l.length (ints l)
theorem info3 : Tryd.prog.info? 3 = some Tryd.t3 ∧ Tryd.t3.zero = some (.int .i64 0) ∧ Tryd.t3.size = 1 ∧ Tryd.t3.bytes = 8 := ⟨by kernel_rfl, by kernel_rfl, by kernel_rfl, by kernel_rfl⟩
theorem pushIn_I {F : Fence} {nF : Nat} {ops : Array Oper} {rest : List Oper} {o : Oper} {a : Act} {Q : Exit → Act → World → Prop} {w : World} (hgd : o.guard = none) (s x : Operand) (t : TypeId)
    (ho : o.op = .call { callee := .builtin .append, args := #[s, x], argTypes := #[t, t] }) (ht : Tryd.prog.underlying t = some (.slice 3))
    (base : Nat) (v : Value) (l : List Int) (hs : a.eval s = v) (hown : OwnI w base v l) (g c : Nat) (p : Int) (hx : a.eval x = .slice (some ⟨g, 0, none⟩) 1 c)
    (hp : w.cell? ⟨g, 0, none⟩ = some (.int .i64 p)) (hl : l.length + 1 ≤ 8796093022208) (hbase : base ≤ w.heap.size)
    (h : ∀ v' w', OwnI w' base v' (l ++ [p]) → w.grownBy w' v.ownBlock → (v'.ownBlock = v.ownBlock ∨ v'.ownBlock = some w.heap.size) → wpListIn F nF Tryd.prog ops Q rest (a.put o.dst v') w') : wpListIn F nF Tryd.prog ops Q (o :: rest) a w := by
  refine wpListIn_append_own_at w hgd s x t ho base 3 Tryd.t3 (.int .i64 0) 1 8 ht info3.1 info3.2.1 info3.2.2.1 info3.2.2.2 rfl (by decide) v l.length (ints l) hs hown ⟨g, 0, none⟩ 1 c (ints [p]) hx rfl ?_ (fun u hu => by simp [ints] at hu; subst hu; rfl) (by unfold maxLen; omega) (by omega) hbase (fun v' w' h2 h3 _ h5 => h v' w' ?_ h3 h5)
  · intro j u hj
    match j, hj with
    | 0, hj => simp [ints] at hj; subst hj; exact hp
  · unfold OwnI
    rw [List.length_append]
    simpa [ints] using h2
set_option maxHeartbeats 1000000 in
theorem all_in_nil (B l c : Nat) (A : Option Addr) (J : List Int → World → Prop) (W0 : World) (hJ : OwnFrom W0.heap.size J) (h0 : J [] W0) (hB : Boxed W0 B 29 (.slice A 0 c)) :
    CallsIn Fence.wide 5 Tryd.prog 59 #[.func (.yield l) #[] #[], .pointer (some ⟨B, 0, none⟩)] W0 fun e Y => (∃ v, e = .returned v) ∧ J [] Y := by
  have hc := cell_up hB.cell (.cells #[.func (.yield l) #[] #[]] 67)
  have HV3 : Hid (J [] (W0.alloc (.cells #[.func (.yield l) #[] #[]] 67))) := hJ.alloc _ h0
  clear hJ h0 hB
  refine callsIn_of_wp_marks Tryd.func59 rfl trivial ?_ rfl
  simp only [Tryd.ntmps59, List.size_toArray, List.length_cons, List.length_nil, Nat.reduceAdd, Nat.reduceSub, Array.replicate_succ, Array.replicate_zero, List.push_toArray, List.append_toArray, List.nil_append, List.cons_append]
  gi_wp2
  refine wpIn_loop_once ?_
  gi_wp2
  exact ⟨.tuple #[], by simp [results, Tryd.f59, go_sem], ⟨_, rfl⟩, HV3.out⟩
theorem all_over (B : Nat) (v : Value) (ls : List (Int × Int)) (hN : ls.length ≤ 512) (hG : ∀ k, k < ls.length → 0 ≤ (rg ls k).1 ∧ (rg ls k).1 ≤ (rg ls k).2 ∧ (rg ls k).2 ≤ 1114367) (w : World) (hB : Boxed w B 29 v) (hR : Row w v ls) :
    SeqOver 5 59 #[.pointer (some ⟨B, 0, none⟩)] (fun xs => xs = allL ls) (fun pre => pre <+: allL ls ∧ pre ≠ []) (allL ls).length w := fun l J Jx W hW hJ hJx hY h0 => by
  have hB' := boxed_below hB hW hB.lt
  obtain ⟨A, c, rfl, _, hl | ⟨g, cur, rfl, hg, hr⟩⟩ := hR
  · subst hl
    refine (all_in_nil B l c A J W hJ h0 hB').mono ?_
    rintro e Y ⟨h1, h2⟩
    exact ⟨h1, .inl ⟨_, rfl, h2⟩⟩
  · have hg' := (hW.block g (Array.getElem?_eq_some_iff.1 hg).1).trans hg
    exact all_in B l g c cur ls ls.length rfl hN hG J Jx W hJ hJx hY h0 hB' hg' (reads_same hr hg hg')
end Go.Proofs
