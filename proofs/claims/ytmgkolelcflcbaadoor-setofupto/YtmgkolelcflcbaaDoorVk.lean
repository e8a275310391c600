/-
  common: what two rows of ranges have in common.
-/
import Derived.RangeFuncNested
import Derived.RangeFuncBound
import Derived.RangeFuncCalls
import Derived.RangeFuncLeaves
import Derived.Shelf.Abstract
import Derived.Shelf.RegionOpen
import Derived.WalkKit
import Derived.WalkSpells
import Derived.WalkLawsBesides
import Derived.OwnWalkIn
import Derived.TacticsInMore
import Derived.LoopNIn
import Derived.LoopIn
import Derived.BigQuiet
import Derived.RegionIn
import Derived.Deep.QuietTactic
import Derived.Deep.RegionWith
import Derived.Lib.OthersKept
import Derived.Maps.AppendAt
import Derived.Lib.SmallJoins
import Derived.Test.YtmgkolelcflcbaaDoorMa
namespace Go.Proofs
open Go.RowKit Go.Shelf

set_option maxRecDepth 100000
attribute [local go_sem] Oper.semAt_some
def Apart (l : List (Int × Int)) : Prop := l.Pairwise (fun x y => x.2 + 2 ≤ y.1)
/-- what is gathered of two rows when i of the one and j of the other are done -/
def Com (a b r : List (Int × Int)) (i j : Nat) : Prop :=
  Good r ∧ (∀ u, (hasU a u ∧ hasU b u) ↔ (hasU r u ∨ (hasU (a.drop i) u ∧ hasU (b.drop j) u))) ∧ (∀ x ∈ r, ∀ u, hasU (a.drop i) u → hasU (b.drop j) u → x.2 + 2 ≤ u) ∧ r.length ≤ i + j
theorem apart_drop {l : List (Int × Int)} (h : Apart l) {i : Nat} (hi : i < l.length) {u : Int} (hu : hasU (l.drop (i + 1)) u) : (rg l i).2 + 2 ≤ u := by
  obtain ⟨y, hy, h1, _⟩ := hu
  have h2 : Apart (l.drop i) := h.sublist (List.drop_sublist _ _)
  rw [drop_rg hi] at h2
  have := (List.pairwise_cons.1 h2).1 y hy
  omega
theorem com_end {a b r : List (Int × Int)} {i j : Nat} (h : Com a b r i j) (he : a.length ≤ i ∨ b.length ≤ j) : Good r ∧ ∀ u, hasU r u ↔ hasU a u ∧ hasU b u := by
  refine ⟨h.1, fun u => ?_⟩
  rw [h.2.1 u]
  rcases he with he | he
  · rw [List.drop_eq_nil_of_le he]
    exact ⟨.inl, fun k => k.resolve_right (fun q => hasU_nil u q.1)⟩
  · rw [List.drop_eq_nil_of_le he]
    exact ⟨.inl, fun k => k.resolve_right (fun q => hasU_nil u q.2)⟩
theorem com_step {a b r : List (Int × Int)} {i j : Nat} (ha : Good a) (hb : Apart b) (h : Com a b r i j) (hi : i < a.length) (hj : j < b.length) {p q s t : Int} (ea : rg a i = (p, q)) (eb : rg b j = (s, t)) :
    ∃ r', (r' = if max p s ≤ min q t then r ++ [(max p s, min q t)] else r) ∧ (q < t → Com a b r' (i + 1) j) ∧ (¬ q < t → Com a b r' i (j + 1)) := by
  refine ⟨_, rfl, ?_⟩
  obtain ⟨hg, hm, hl, hn⟩ := h
  have hw := good_at ha hi
  rw [ea] at hw
  have hw2 := (whole_iff p q).1 hw
  have da := drop_rg hi
  have db := drop_rg hj
  rw [ea] at da
  rw [eb] at db
  have aa : ∀ u, hasU (a.drop (i + 1)) u → q + 2 ≤ u := fun u hu => by have := apart_drop ha.2 hi hu; rw [ea] at this; exact this
  have ab : ∀ u, hasU (b.drop (j + 1)) u → t + 2 ≤ u := fun u hu => by have := apart_drop hb hj hu; rw [eb] at this; exact this
  have hA : ∀ u, hasU (a.drop i) u ↔ (p ≤ u ∧ u ≤ q) ∨ hasU (a.drop (i + 1)) u := fun u => by rw [da, hasU_cons]
  have hB : ∀ u, hasU (b.drop j) u ↔ (s ≤ u ∧ u ≤ t) ∨ hasU (b.drop (j + 1)) u := fun u => by rw [db, hasU_cons]
  have hr' : ∀ u, hasU (if max p s ≤ min q t then r ++ [(max p s, min q t)] else r) u ↔ hasU r u ∨ (p ≤ u ∧ u ≤ q ∧ s ≤ u ∧ u ≤ t) := fun u => by
    split
    · rw [hasU_append, hasU_one]
      constructor
      · rintro (h | h)
        · exact .inl h
        · exact .inr (by omega)
      · rintro (h | h)
        · exact .inl h
        · exact .inr (by omega)
    · constructor
      · exact .inl
      · rintro (h | h)
        · exact h
        · omega
  have hgd : Good (if max p s ≤ min q t then r ++ [(max p s, min q t)] else r) := by
    split
    · rename_i hc
      refine good_snoc.2 ⟨hg, ?_, fun y hy => ?_⟩
      · rw [whole_iff]; omega
      · exact hl y hy (max p s) ((hA _).2 (.inl (by omega))) ((hB _).2 (.inl (by omega)))
    · exact hg
  have hbd : ∀ x ∈ (if max p s ≤ min q t then r ++ [(max p s, min q t)] else r), (x ∈ r ∨ (x.2 = min q t)) := fun x hx => by
    split at hx
    · rw [List.mem_append, List.mem_singleton] at hx
      rcases hx with hx | rfl
      · exact .inl hx
      · exact .inr rfl
    · exact .inl hx
  have hln : (if max p s ≤ min q t then r ++ [(max p s, min q t)] else r).length ≤ i + j + 1 := by
    split
    · simp; omega
    · omega
  constructor
  · intro hqt
    refine ⟨hgd, fun u => ?_, fun x hx u h1 h2 => ?_, by omega⟩
    · rw [hm u, hr' u, hA u, hB u]
      constructor
      · rintro (h | ⟨h1 | h1, h2 | h2⟩)
        · exact .inl (.inl h)
        · exact .inl (.inr (by omega))
        · have := ab u h2; omega
        · exact .inr ⟨h1, .inl h2⟩
        · exact .inr ⟨h1, .inr h2⟩
      · rintro ((h | h) | ⟨h1, h2⟩)
        · exact .inl h
        · exact .inr ⟨.inl (by omega), .inl (by omega)⟩
        · exact .inr ⟨.inr h1, h2⟩
    · rcases hbd x hx with h | h
      · exact hl x h u ((hA u).2 (.inr h1)) h2
      · have := aa u h1; omega
  · intro hqt
    refine ⟨hgd, fun u => ?_, fun x hx u h1 h2 => ?_, by omega⟩
    · rw [hm u, hr' u, hA u, hB u]
      constructor
      · rintro (h | ⟨h1 | h1, h2 | h2⟩)
        · exact .inl (.inl h)
        · exact .inl (.inr (by omega))
        · exact .inr ⟨.inl h1, h2⟩
        · have := aa u h1; omega
        · exact .inr ⟨.inr h1, h2⟩
      · rintro ((h | h) | ⟨h1, h2⟩)
        · exact .inl h
        · exact .inr ⟨.inl (by omega), .inl (by omega)⟩
        · exact .inr ⟨h1, .inr h2⟩
    · rcases hbd x hx with h | h
      · exact hl x h u h1 ((hB u).2 (.inr h2))
      · have := ab u h2; omega
set_option maxHeartbeats 4000000 in
theorem common_walk (A1 A2 : Option Addr) (c1 c2 : Nat) (a b : List (Int × Int)) (w : World) (h1 : a = [] ∨ ∃ g o, A1 = some ⟨g, o, none⟩ ∧ Reads w g o a) (h2 : b = [] ∨ ∃ g o, A2 = some ⟨g, o, none⟩ ∧ Reads w g o b) (ha : Good a) (hb : Apart b) (hna : a.length ≤ 100000) (hnb : b.length ≤ 100000) :
    Calls Tryd.prog 55 #[.slice A1 a.length c1, .slice A2 b.length c2] w fun e w' => ∃ v r, e = .returned v ∧ (Good r ∧ ∀ u, hasU r u ↔ hasU a u ∧ hasU b u) ∧ OwnR w' w.heap.size v r ∧ Below w.heap.size w w' := by
  obtain ⟨n1, hn1⟩ : ∃ n, a.length = n := ⟨_, rfl⟩
  obtain ⟨n2, hn2⟩ : ∃ n, b.length = n := ⟨_, rfl⟩
  have HN1 : Hid (a.length = n1) := hn1
  have HN2 : Hid (b.length = n2) := hn2
  rw [hn1] at hna ⊢
  rw [hn2] at hnb ⊢
  have HA : Hid (Good a) := ha
  have HB : Hid (Apart b) := hb
  have H1 : Hid (a = [] ∨ ∃ g o, A1 = some ⟨g, o, none⟩ ∧ Reads w g o a) := h1
  have H2 : Hid (b = [] ∨ ∃ g o, A2 = some ⟨g, o, none⟩ ∧ Reads w g o b) := h2
  clear ha hb h1 h2 hn1 hn2
  go_enter Tryd.func55, Tryd.ntmps55
  go_wp2
  go_loopw [5, 6, 7] (fun vs vi vj wr => ∃ i j : Nat, ∃ r : List (Int × Int), vi = .int .i64 i ∧ vj = .int .i64 j ∧ i ≤ n1 ∧ j ≤ n2 ∧ Hid (Com a b r i j) ∧ OwnR wr w.heap.size vs r ∧ Below w.heap.size w wr) (fun _ vi vj _ => (n1 - (intOf vi).toNat) + (n2 - (intOf vj).toNat))
  case atStart => exact ⟨0, 0, [], rfl, rfl, by omega, by omega, ⟨good_nil, fun u => by simp [hasU], fun x hx => by simp at hx, by simp⟩, OwnR.nil _ _, Below.refl _ _⟩
  case round =>
    obtain ⟨i, j, r, rfl, rfl, hi, hj, hC, hO, hB⟩ := hrel
    have hz := hB.size
    by_cases hil : i < n1
    · by_cases hjl : j < n2
      · have hia : i < a.length := by rw [HN1.out]; exact hil
        have hjb : j < b.length := by rw [HN2.out]; exact hjl
        obtain ⟨g1, o1, hA1, hr1⟩ := H1.out.resolve_left (fun e => by rw [e] at hia; simp at hia)
        obtain ⟨g2, o2, hA2, hr2⟩ := H2.out.resolve_left (fun e => by rw [e] at hjb; simp at hjb)
        subst hA1
        subst hA2
        obtain ⟨p, q, hpq⟩ : ∃ p q : Int, rg a i = (p, q) := ⟨_, _, rfl⟩
        obtain ⟨s, t, hst⟩ : ∃ s t : Int, rg b j = (s, t) := ⟨_, _, rfl⟩
        have hg1 : g1 < w.heap.size := hr1.lt (fun e => by rw [e] at hia; simp at hia)
        have hg2 : g2 < w.heap.size := hr2.lt (fun e => by rw [e] at hjb; simp at hjb)
        have x1 := hr1 i hia
        have x2 := hr2 j hjb
        rw [hpq] at x1
        rw [hst] at x2
        have HX : Hid (∀ W, Below w.heap.size w W → (W.cell? ⟨g1, o1 + i * 2, none⟩ = some (.int .i64 p) ∧ W.cell? ⟨g1, o1 + i * 2 + 1, none⟩ = some (.int .i64 q)) ∧ (W.cell? ⟨g2, o2 + j * 2, none⟩ = some (.int .i64 s) ∧ W.cell? ⟨g2, o2 + j * 2 + 1, none⟩ = some (.int .i64 t))) := fun W hW =>
          ⟨⟨(hW.cell (p := ⟨g1, _, none⟩) hg1).trans x1.1, (hW.cell (p := ⟨g1, _, none⟩) hg1).trans x1.2⟩, ⟨(hW.cell (p := ⟨g2, _, none⟩) hg2).trans x2.1, (hW.cell (p := ⟨g2, _, none⟩) hg2).trans x2.2⟩⟩
        obtain ⟨r', er', hc1, hc2⟩ := com_step HA.out HB.out hC.out hia hjb hpq hst
        have HR : Hid ((q < t → Com a b r' (i + 1) j) ∧ (¬ q < t → Com a b r' i (j + 1))) := ⟨hc1, hc2⟩
        have hrl : r.length ≤ 200000 := by have := hC.out.2.2.2; omega
        obtain ⟨⟨cp, cq⟩, ⟨cs, ct⟩⟩ := HX.out wr hB
        have dp := fun ob => cell_up cp ob
        have dq := fun ob => cell_up cq ob
        have ds := fun ob => cell_up cs ob
        have dt := fun ob => cell_up ct ob
        have i0 : (0 : Int) ≤ (i : Int) := by omega
        have i1 : (i : Int) < (n1 : Int) := by omega
        have j0 : (0 : Int) ≤ (j : Int) := by omega
        have j1 : (j : Int) < (n2 : Int) := by omega
        clear hpq hst x1 x2 hr1 hr2 hc1 hc2 hC hg1 hg2
        obtain ⟨x, hx⟩ : ∃ x : Int, max p s = x := ⟨_, rfl⟩
        obtain ⟨y, hy⟩ : ∃ y : Int, min q t = y := ⟨_, rfl⟩
        go_wp2
        go_region
        as_aux_lemma =>
          obtain ⟨W, hW⟩ : ∃ W, (wr.alloc (.cells #[.int .i64 x, .int .i64 y] 38)).drew = W := ⟨_, rfl⟩
          have hBW : Below w.heap.size w W := by rw [← hW]; exact (hB.alloc hz _).drew
          have hOW : OwnR W w.heap.size u5 r := by rw [← hW]; exact hO.alloc _
          have hzW : W.heap.size = wr.heap.size + 1 := by rw [← hW]; exact World.size_alloc _ _
          have n0 : W.cell? ⟨wr.heap.size, 0, none⟩ = some (.int .i64 x) := by rw [← hW]; exact (new_cells wr _ _ _ _ rfl).1
          have n1' : W.cell? ⟨wr.heap.size, 1, none⟩ = some (.int .i64 y) := by rw [← hW]; exact (new_cells wr _ _ _ _ rfl).2
          rw [hW]
          rw [hx, hy] at er'
          clear hW hx hy cp cq cs ct dp dq ds dt hO
          by_cases hc : x ≤ y
          · rw [if_pos hc] at er'
            subst er'
            go_wp2_with (at_builtin; go_must (refine push_R rfl _ _ 22 rfl Tryd.underlying22 w.heap.size _ _ rfl (hOW.alloc _) _ _ x y rfl (new_cells W _ _ _ _ hzW).1 (new_cells W _ _ _ _ hzW).2 (by omega) (by rw [World.size_alloc]; omega) ?_); intro v' w3 hO1 _ hb1)
            have hB3 : Below w.heap.size w w3 := (hBW.alloc (by omega) _).trans hb1
            obtain ⟨⟨cp, cq⟩, ⟨cs, ct⟩⟩ := HX.out w3 hB3
            by_cases hqt : q < t
            · go_wp2
              go_quiet (fail)
              go_wp2
              exact ⟨⟨i + 1, j, _, by go_num, rfl, by omega, by omega, HR.out.1 hqt, hO1, below_drewN hB3 _⟩, by simp [intOf]; omega⟩
            · have hd2 : decide (q < t) = false := by simp; omega
              have HQ : Hid (¬ q < t) := hqt
              clear hqt
              go_wp2
              go_quiet (fail)
              go_wp2
              exact ⟨⟨i, j + 1, _, rfl, by go_num, by omega, by omega, HR.out.2 (by have := HQ.out; omega), hO1, below_drewN hB3 _⟩, by simp [intOf]; omega⟩
          · have hd : decide (x ≤ y) = false := by simp; omega
            rw [if_neg hc] at er'
            subst er'
            clear hc
            obtain ⟨⟨cp, cq⟩, ⟨cs, ct⟩⟩ := HX.out W hBW
            go_wp2
            by_cases hqt : q < t
            · go_quiet (fail)
              go_wp2
              exact ⟨⟨i + 1, j, _, by go_num, rfl, by omega, by omega, HR.out.1 hqt, hOW, below_drewN hBW _⟩, by simp [intOf]; omega⟩
            · have hd2 : decide (q < t) = false := by simp; omega
              have HQ : Hid (¬ q < t) := hqt
              clear hqt
              go_quiet (fail)
              go_wp2
              exact ⟨⟨i, j + 1, _, rfl, by go_num, by omega, by omega, HR.out.2 (by have := HQ.out; omega), hOW, below_drewN hBW _⟩, by simp [intOf]; omega⟩
      · have hjd : decide ((j : Int) < (n2 : Int)) = false := by simp; omega
        have hjd2 : decide (j < n2) = false := by simp; omega
        have i1 : (i : Int) < (n1 : Int) := by omega
        have HF : Hid (Good r ∧ ∀ u, hasU r u ↔ hasU a u ∧ hasU b u) := com_end hC.out (.inr (by rw [HN2.out]; omega))
        clear hC hjl
        go_wp2
        go_ret
        exact ⟨_, r, rfl, HF.out, hO, hB⟩
    · have hid : decide ((i : Int) < (n1 : Int)) = false := by simp; omega
      have hid2 : decide (i < n1) = false := by simp; omega
      have HF : Hid (Good r ∧ ∀ u, hasU r u ↔ hasU a u ∧ hasU b u) := com_end hC.out (.inl (by rw [HN1.out]; omega))
      clear hC hil
      go_wp2
      go_ret
      exact ⟨_, r, rfl, HF.out, hO, hB⟩
theorem common_any (v1 v2 : Value) (a b : List (Int × Int)) (w : World) (h1 : Rs w v1 a) (h2 : Rs w v2 b) (ha : Good a) (hb : Apart b) (hna : a.length ≤ 100000) (hnb : b.length ≤ 100000) :
    Calls Tryd.prog 55 #[v1, v2] w fun e w' => ∃ v r, e = .returned v ∧ (Good r ∧ ∀ u, hasU r u ↔ hasU a u ∧ hasU b u) ∧ OwnR w' w.heap.size v r ∧ Below w.heap.size w w' := by
  obtain ⟨A1, c1, rfl, _, h1⟩ := h1
  obtain ⟨A2, c2, rfl, _, h2⟩ := h2
  exact common_walk A1 A2 c1 c2 a b w h1 h2 ha hb hna hnb
end Go.Proofs
