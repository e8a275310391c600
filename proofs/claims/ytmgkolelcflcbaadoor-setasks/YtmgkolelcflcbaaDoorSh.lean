/-
  The first units of a set.
-/
import Derived.RangeFuncNested
import Derived.RangeFuncBound
import Derived.RangeFuncCalls
import Derived.RangeFuncLeaves
import Derived.Shelf.Abstract
import Derived.Shelf.RegionOpen
import Derived.WalkKit
import Derived.WalkSpells
import Derived.WalkLawsBesides
import Derived.OwnWalkIn
import Derived.TacticsInMore
import Derived.LoopNIn
import Derived.LoopIn
import Derived.BigQuiet
import Derived.RegionIn
import Derived.Deep.QuietTactic
import Derived.Deep.RegionWith
import Derived.Lib.OthersKept
import Derived.Maps.AppendAt
import Derived.Lib.SmallJoins
import Derived.Test.YtmgkolelcflcbaaDoorSg
namespace Go.Proofs
open Go.RowKit Go.Shelf

set_option maxRecDepth 100000
attribute [local go_sem] Oper.semAt_some

/-- what first has gathered -/
def FI (w : World) (m : Nat) (p : List Int) (W : World) : Prop := (∃ v, Boxed W (w.heap.size + 1 + 1) 41 v ∧ OwnI W (w.heap.size + 1) v p) ∧ Boxed W w.heap.size 3 (.int .i64 m) ∧ Below w.heap.size w W
theorem ownI_kept {W W' : World} {row : Option Nat} {base : Nat} {v : Value} {l : List Int} (h : OwnI W base v l) (hg : W.grownBy W' row) (hr : ∀ r, row = some r → ∃ o : Obj, W.heap[r]? = some o ∧ o.isCells = false) : OwnI W' base v l := by
  refine h.kept hg ?_
  rcases h.2 with ⟨rfl, _⟩ | ⟨g, cap, cur, rfl, _, hgb, _⟩
  · exact .inl rfl
  · refine .inr fun e' => ?_
    obtain ⟨o, ho, hc⟩ := hr g (by simpa [Value.ownBlock] using e'.symm)
    rw [hgb] at ho; cases ho; cases hc
theorem FI_own {w : World} {m : Nat} {B : Nat} (hB : w.heap.size ≤ B) : OwnFrom B (FI w m) := by
  rintro p X Y row ⟨⟨v, h1, h2⟩, h3, h4⟩ hg hr
  exact ⟨⟨v, boxed_kept h1 hg (fun r e => (hr r e).2), ownI_kept h2 hg (fun r e => (hr r e).2)⟩, boxed_kept h3 hg (fun r e => (hr r e).2), h4.grown hg h4.size (fun k e => by have := (hr k e).1; omega)⟩
theorem formI {w : World} {b : Nat} {v : Value} {l : List Int} (h : OwnI w b v l) : ∃ A c, v = .slice A l.length c := by
  rcases h.2 with ⟨e, h0⟩ | ⟨g, cap, cur, e, _⟩
  · subst e; exact ⟨none, 0, by rw [h0]⟩
  · exact ⟨_, _, e⟩
theorem ownI_below {W W' : World} {base n : Nat} {v : Value} {l : List Int} (h : OwnI W base v l) (hb : Below n W W') (hn : W.heap.size ≤ n) : OwnI W' base v l := by
  refine ⟨h.1, h.2.imp id ?_⟩
  rintro ⟨g, cap, cur, e, h1, h2, h3⟩
  exact ⟨g, cap, cur, e, h1, (hb.block g (Nat.lt_of_lt_of_le (Array.getElem?_eq_some_iff.1 h2).1 hn)).trans h2, h3⟩
theorem ownI_le {W : World} {a b : Nat} {v : Value} {l : List Int} (h : OwnI W a v l) (hb : b ≤ a) : OwnI W b v l := by
  refine ⟨h.1, h.2.imp id ?_⟩
  rintro ⟨g, cap, cur, e, h1, h2⟩
  exact ⟨g, cap, cur, e, Nat.le_trans hb h1, h2⟩
set_option maxHeartbeats 2000000 in
theorem first_gen (w : World) (g o n c m : Nat) (l : List (Int × Int)) (hN : l.length ≤ 512) (hm : m ≤ 1000)
    (hG : ∀ k, k < l.length → 0 ≤ (rg l k).1 ∧ (rg l k).1 ≤ (rg l k).2 ∧ (rg l k).2 ≤ 1114367)
    (hA : ∀ W : World, Below w.heap.size w W → Calls Tryd.prog 41 #[.slice (some ⟨g, o, none⟩) n c] W fun e w' => ∃ v, e = .returned (.func (.func 59) #[] #[.pointer (some ⟨W.heap.size, 0, none⟩)]) ∧ Boxed w' W.heap.size 29 v ∧ Row w' v l ∧ Below W.heap.size W w') :
    Calls Tryd.prog 27 #[.slice (some ⟨g, o, none⟩) n c, .int .i64 m] w fun e w' => ∃ v, e = .returned v ∧ OwnI w' w.heap.size v ((allL l).take m) ∧ Below w.heap.size w w' := by
  obtain ⟨W3, hW3⟩ : ∃ W3, ((w.alloc (.cells #[.int .i64 m] 3)).alloc (.cells #[] 3)).alloc (.cells #[.slice (some ⟨w.heap.size + 1, 0, none⟩) 0 0] 41) = W3 := ⟨_, rfl⟩
  have B3 : Below w.heap.size w W3 := by rw [← hW3]; exact (((Below.refl _ w).alloc (Nat.le_refl _) _).alloc (by simp) _).alloc (by simp; omega) _
  have z3 : W3.heap.size = w.heap.size + 3 := by rw [← hW3]; simp
  have x0 : Boxed W3 w.heap.size 3 (.int .i64 m) := by rw [← hW3]; exact ((Boxed.new w _ _).alloc _).alloc _
  have x2 : Boxed W3 (w.heap.size + 1 + 1) 41 (.slice (some ⟨w.heap.size + 1, 0, none⟩) 0 0) := by
    have := Boxed.new ((w.alloc (.cells #[.int .i64 m] 3)).alloc (.cells #[] 3)) 41 (.slice (some ⟨w.heap.size + 1, 0, none⟩) 0 0)
    rw [hW3] at this; simpa using this
  have x1 : W3.heap[w.heap.size + 1]? = some (.cells #[] 3 (0, 0)) := by
    have := World.alloc_heap_new (w.alloc (.cells #[.int .i64 m] 3)) (.cells #[] 3)
    rw [World.size_alloc] at this
    rw [← hW3]; exact (Below.heap_alloc _ _ _ (by simp)).trans this
  have HF : Hid (FI w m [] W3) := ⟨⟨_, x2, ⟨rfl, .inr ⟨w.heap.size + 1, 0, #[], rfl, Nat.le_refl _, x1, Nat.le_refl _, by unfold maxLen; omega, rfl, rfl⟩⟩⟩, x0, B3⟩
  have HA : Hid (Calls Tryd.prog 41 #[.slice (some ⟨g, o, none⟩) n c] W3 fun e w' => ∃ v, e = .returned (.func (.func 59) #[] #[.pointer (some ⟨W3.heap.size, 0, none⟩)]) ∧ Boxed w' W3.heap.size 29 v ∧ Row w' v l ∧ Below W3.heap.size W3 w') := hA W3 B3
  have HL : Hid (l.length ≤ 512 ∧ ∀ k, k < l.length → 0 ≤ (rg l k).1 ∧ (rg l k).1 ≤ (rg l k).2 ∧ (rg l k).2 ≤ 1114367) := ⟨hN, hG⟩
  clear x0 x1 x2 hN hG hA B3
  refine (callsIn_wide (n := 6)).1 ?_
  refine callsIn_of_wp_marks Tryd.func27 rfl trivial ?_ rfl
  simp only [Tryd.ntmps27, List.size_toArray, List.length_cons, List.length_nil, Nat.reduceAdd, Nat.reduceSub, Array.replicate_succ, Array.replicate_zero, List.push_toArray, List.append_toArray, List.nil_append, List.cons_append]
  gi_wp2
  refine ⟨trivial, ?_⟩
  gi_at_call 41
  refine (callsIn_wide.2 HA.out).mono ?_
  rintro e w1 ⟨v, rfl, hbx, hrow, hb⟩
  have HI : Hid (FI w m [] w1) := by
    obtain ⟨⟨v, q1, q2⟩, q3, q4⟩ := HF.out
    refine ⟨⟨v, boxed_below q1 hb (by omega), ownI_below q2 hb (Nat.le_refl _)⟩, boxed_below q3 hb (by omega), q4.trans (hb.mono (by omega))⟩
  have HS := all_over W3.heap.size v l HL.out.1 HL.out.2 w1 hbx hrow
  rw [z3] at HS
  have hz1 : w.heap.size + 3 ≤ w1.heap.size := by have := hb.size; omega
  clear HF HA hbx hrow
  gi_wp2
  refine wpIn_over (by omega) (gf := 59) (lb := #[.pointer (some ⟨w.heap.size + 3, 0, none⟩)]) rfl (enters_of Tryd.func59 (by kernel_rfl) rfl) HS rfl
    (fun p W => FI w m p W ∧ p.length ≤ m) (fun c q W => c = .exit 0 ∧ ∃ p x, q = p ++ [x] ∧ p.length = m ∧ FI w m p W)
    (fun p X Y row hs hgr hr => ⟨FI_own (by omega) p X Y row hs.1 hgr hr, hs.2⟩) (fun c q X Y row hs hgr hr => by
      obtain ⟨e, p, x, e2, e3, hf⟩ := hs
      exact ⟨e, p, x, e2, e3, FI_own (by omega) p X Y row hf hgr hr⟩) ⟨HI.out, by simp⟩
    (fun x => { tmps := #[.slice (some ⟨g, o, none⟩) n c, .int .i64 m, undef, .pointer (some ⟨w.heap.size, 0, none⟩), .slice none 0 0, .pointer (some ⟨w.heap.size + 1 + 1, 0, none⟩), .int .i64 x, .slice (some ⟨w.heap.size + 1, 0, none⟩) 0 0, .slice (some ⟨g, o, none⟩) n c, .func (.func 59) #[] #[.pointer (some ⟨w.heap.size + 3, 0, none⟩)], .int .i64 x, undef, undef, undef, undef, undef, undef, undef, undef, undef], defers := [] }) ?assign ?body ?done ?stop
  case assign =>
    intro l1 x W K hK
    gi_wp2
    exact hK
  case body =>
    as_aux_lemma =>
      rintro l1 pre x W ⟨⟨⟨v1, h1, h2⟩, h3, h4⟩, hle⟩ hlen
      obtain ⟨A1, c1, rfl⟩ := formI h2
      have cv := h1.cell
      have cm := h3.cell
      have hz := h4.size
      by_cases hge : m ≤ pre.length
      · obtain rfl : pre.length = m := by omega
        gi_wp2
        exact ⟨(KeepsOthers.refl W).from _, rfl, pre, x, rfl, rfl, ⟨_, h1, h2⟩, h3, h4⟩
      · have hlt : (pre.length : Int) < (m : Int) := by omega
        have hnge : ¬ (m : Int) ≤ (pre.length : Int) := by omega
        have hd : decide ((m : Int) ≤ (pre.length : Int)) = false := by simpa using hnge
        gi_wp2_with (gi_at_builtin; go_must (refine pushIn_I rfl _ _ 41 rfl Tryd.underlying41 (w.heap.size + 1) (.slice A1 pre.length c1) pre rfl (World.ownsRow.alloc h2 _) W.heap.size _ x rfl (Boxed.new W 3 (.int .i64 x)).cell (by omega) (by rw [World.size_alloc]; omega) ?_); intro v' w1' hown' hgrow hat; obtain ⟨A2, c2, e2⟩ := formI hown'; rw [show (pre ++ [x]).length = pre.length + 1 by simp] at e2; subst e2; obtain ⟨hv1, hv2, hr2, hk2, hb2⟩ := h1.appended (by decide) h2 (Nat.le_of_lt (Nat.lt_of_succ_lt h1.lt)) (Nat.le_succ _) hown' hgrow; have hc1 := hv1.cell; have hf1 := hv1.frozen)
        refine ⟨hk2.from _, ⟨hk2.from _, hk2.walks, fun k cs t ht hk => ?_⟩, ⟨⟨_, hv2, hr2⟩, boxed_below h3 hb2 (Nat.lt_succ_self _), h4.trans (hb2.mono (Nat.le_succ _))⟩, by rw [List.length_append]; simp; omega⟩
        have hkl := (Array.getElem?_eq_some_iff.1 hk).1
        have a2 : w1'.heap[k]? = some (.cells cs t (0, 0)) := by
          refine (hgrow.block k (by rw [World.size_alloc]; omega) (fun e => ?_)).trans ((Below.heap_alloc _ _ _ hkl).trans hk)
          rcases h2.2 with ⟨e1, _⟩ | ⟨g1, cap1, cur1, e1, _, hgb, _⟩
          · rw [e1] at e; simp [Value.ownBlock] at e
          · rw [e1] at e
            obtain rfl : g1 = k := by simpa [Value.ownBlock] using e.symm
            rw [hgb] at hk; cases hk; rcases ht with e | e | e <;> cases e
        have a3 : ∀ u, (w1'.setCell ⟨w.heap.size + 1 + 1, 0, none⟩ u).heap[k]? = w1'.heap[k]? := fun u => by
          show (w1'.heap.modify (w.heap.size + 1 + 1) _)[k]? = _
          rw [Array.getElem?_modify, if_neg]
          rintro rfl
          rw [show W.heap[w.heap.size + 1 + 1]? = _ from h1] at hk
          cases hk
          rcases ht with e | e | e <;> cases e
        exact (a3 _).trans a2
  case done =>
    rintro D xs W hD rfl ⟨⟨⟨v1, h1, h2⟩, h3, h4⟩, hle⟩ hK
    obtain ⟨A1, c1, rfl⟩ := formI h2
    have cv := h1.cell
    have HT : Hid ((allL l).take m = allL l) := List.take_of_length_le hle
    gi_wp2
    refine leaves_marks (fun W => OwnI W (w.heap.size + 1) (.slice A1 (allL l).length c1) (allL l) ∧ Below w.heap.size w W) w.heap.size ?_ ?_ [D] W (by simp) ?_ ⟨h2, h4⟩
    · rintro W D ob o' ⟨q1, q2⟩ hD hob hoc
      exact ⟨ownI_kept q1 (grownBy_putObj' W D o') (fun r e => by cases e; exact ⟨ob, hob, hoc⟩), q2.grown (grownBy_putObj' W D o') q2.size (fun k e => by cases e; exact hD)⟩
    · rintro W ⟨q1, q2⟩
      exact ⟨.slice A1 (allL l).length c1, by simp [results, Tryd.f27, go_sem], _, rfl, by rw [HT.out]; exact ownI_le q1 (Nat.le_succ _), q2⟩
    · intro E hE
      obtain rfl : E = D := by simpa using hE
      exact ⟨by omega, hK⟩
  case stop =>
    rintro D c2 q W hD ⟨hq, _⟩ ⟨rfl, p, x, rfl, hpm, ⟨v1, h1, h2⟩, h3, h4⟩ hK
    obtain ⟨A1, c1, rfl⟩ := formI h2
    have cv := h1.cell
    have HT : Hid ((allL l).take m = p) := by
      obtain ⟨t, ht⟩ := hq
      show (allL l).take m = p
      rw [← ht, ← hpm, List.append_assoc, List.take_left]
    gi_wp2
    refine leaves_marks (fun W => OwnI W (w.heap.size + 1) (.slice A1 p.length c1) p ∧ Below w.heap.size w W) w.heap.size ?_ ?_ [D] W (by simp) ?_ ⟨h2, h4⟩
    · rintro W D ob o' ⟨q1, q2⟩ hD hob hoc
      exact ⟨ownI_kept q1 (grownBy_putObj' W D o') (fun r e => by cases e; exact ⟨ob, hob, hoc⟩), q2.grown (grownBy_putObj' W D o') q2.size (fun k e => by cases e; exact hD)⟩
    · rintro W ⟨q1, q2⟩
      exact ⟨.slice A1 p.length c1, by simp [results, Tryd.f27, go_sem, hpm], _, rfl, by rw [HT.out]; exact ownI_le q1 (Nat.le_succ _), q2⟩
    · intro E hE
      obtain rfl : E = D := by simpa using hE
      exact ⟨by omega, hK⟩
end Go.Proofs
