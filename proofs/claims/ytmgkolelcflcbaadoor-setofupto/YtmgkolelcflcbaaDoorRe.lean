/-
  The document's answer: united.
-/
import Derived.RangeFuncNested
import Derived.RangeFuncBound
import Derived.RangeFuncCalls
import Derived.RangeFuncLeaves
import Derived.Shelf.Abstract
import Derived.Shelf.RegionOpen
import Derived.WalkKit
import Derived.WalkSpells
import Derived.WalkLawsBesides
import Derived.OwnWalkIn
import Derived.TacticsInMore
import Derived.LoopNIn
import Derived.LoopIn
import Derived.BigQuiet
import Derived.RegionIn
import Derived.Deep.QuietTactic
import Derived.Deep.RegionWith
import Derived.Lib.OthersKept
import Derived.Maps.AppendAt
import Derived.Maps.OwnIn
import Derived.Lib.SmallJoins
import Derived.Deep.RegionHeld3
import Derived.Test.YtmgkolelcflcbaaDoorRh
namespace Go.Proofs
open Go.RowKit Go.Shelf

set_option maxRecDepth 100000
attribute [local go_sem] Oper.semAt_some
attribute [local go_sem ↓] Go.wp_at_zero Go.wp_at_succ
/-- one range more behind a row of the call's own: where the row then lies -/
theorem push_at {ops : Array Oper} {rest : List Oper} {o : Oper} {a : Act} {Q : Exit → Act → World → Prop} {w : World} (hgd : o.guard = none) (s x : Operand) (t : TypeId)
    (ho : o.op = .call { callee := .builtin .append, args := #[s, x], argTypes := #[t, t] }) (ht : Tryd.prog.underlying t = some (.slice 38))
    (base : Nat) (v : Value) (l : List (Int × Int)) (hs : a.eval s = v) (hown : OwnR w base v l) (g c : Nat) (p q : Int) (hx : a.eval x = .slice (some ⟨g, 0, none⟩) 1 c)
    (hp : w.cell? ⟨g, 0, none⟩ = some (.int .i64 p)) (hq : w.cell? ⟨g, 1, none⟩ = some (.int .i64 q)) (hl : l.length + 1 ≤ 8796093022208) (hbase : base ≤ w.heap.size)
    (h : ∀ v' w', OwnR w' base v' (l ++ [(p, q)]) → w.grownBy w' v.ownBlock → Below base w w' → (v'.ownBlock = v.ownBlock ∨ v'.ownBlock = some w.heap.size) → wpList Tryd.prog ops Q rest (a.put o.dst v') w') : wpList Tryd.prog ops Q (o :: rest) a w := by
  obtain ⟨i0, hi, hz0, hz1, hz2⟩ := info_parts info38
  refine wpList_append_own_at w hgd s x t ho base 38 i0 (.agg #[.int .i64 0, .int .i64 0]) 2 16 ht hi hz0 hz1 hz2 rfl (by decide) v l.length (fl l) hs hown ⟨g, 0, none⟩ 1 c (fl [(p, q)]) hx rfl ?_ (fl_one _) (by unfold maxLen; omega) (by omega) hbase (fun v' w' h2 h3 _ h5 => h v' w' ?_ h3 (own_below hown hbase h3) h5)
  · intro j u hj
    match j, hj with
    | 0, hj => simp [fl] at hj; subst hj; exact hp
    | 1, hj => simp [fl] at hj; subst hj; exact hq
  · unfold OwnR
    rw [fl_append, List.length_append]
    exact h2
/-- the row of blocks lies at B, and a row of the call's own lies elsewhere -/
def DomAt (W : World) (B : Nat) : Prop := ∀ j, j < 3 → W.cell? ⟨B, j * 2, none⟩ = some (.int .i64 (blkLo j)) ∧ W.cell? ⟨B, j * 2 + 1, none⟩ = some (.int .i64 (blkHi j))
theorem DomAt.lt {W : World} {B : Nat} (h : DomAt W B) : B < W.heap.size := by
  obtain ⟨ob, ho, _⟩ := cells_of_cell (h 0 (by omega)).1
  exact (Array.getElem?_eq_some_iff.1 ho).1
theorem DomAt.kept {W W' : World} {B : Nat} {row : Option Nat} (h : DomAt W B) (hg : W.grownBy W' row) (hr : row ≠ some B) : DomAt W' B := fun j hj => by
  have hb := hg.block B h.lt (fun e => hr e.symm)
  exact ⟨(World.cell?_of_block (w := W) hb).trans (h j hj).1, (World.cell?_of_block (w := W) hb).trans (h j hj).2⟩
theorem DomAt.below {W W' : World} {B n : Nat} (h : DomAt W B) (hb : Below n W W') (hn : B < n) : DomAt W' B := fun j hj => ⟨(hb.cell (p := ⟨B, j * 2, none⟩) hn).trans (h j hj).1, (hb.cell (p := ⟨B, j * 2 + 1, none⟩) hn).trans (h j hj).2⟩
theorem dom_new (w : World) (B : Nat) (hB : w.heap.size = B) : DomAt (w.alloc (.cells #[.int .i64 0, .int .i64 55295, .int .i64 57344, .int .i64 1114111, .int .i64 1114240, .int .i64 1114367] 38)) B := fun j hj => by
  have h := OwnR.reads (lit3 w B hB) j hj
  have e : rg allU j = (blkLo j, blkHi j) := by
    have h3 : j = 0 ∨ j = 1 ∨ j = 2 := by omega
    rcases h3 with rfl | rfl | rfl <;> rfl
  rw [e, Nat.zero_add] at h
  exact h
theorem held_new {wr W w' : World} (hG : Grown W w') (h : W = (wr.alloc (.cells #[.int .i64 0, .int .i64 0] 38)).drew) :
    w'.cell? ⟨wr.heap.size, 0, none⟩ = some (.int .i64 0) ∧ w'.cell? ⟨wr.heap.size, 1, none⟩ = some (.int .i64 0) ∧ w'.frozen? ⟨wr.heap.size, 0, none⟩ = false ∧ w'.frozen? ⟨wr.heap.size, 1, none⟩ = false := by
  subst h
  refine ⟨hG.cellv (new_cells wr _ _ _ _ rfl).1, hG.cellv (new_cells wr _ _ _ _ rfl).2, ?_, ?_⟩
  · refine (hG.below.frozen (p := ⟨wr.heap.size, 0, none⟩) ?_).trans ?_
    · show wr.heap.size < (wr.alloc _).heap.size
      rw [World.size_alloc]; omega
    · show (wr.alloc (.cells #[.int .i64 0, .int .i64 0] 38)).frozen? _ = _
      simp
  · refine (hG.below.frozen (p := ⟨wr.heap.size, 1, none⟩) ?_).trans ?_
    · show wr.heap.size < (wr.alloc _).heap.size
      rw [World.size_alloc]; omega
    · show (wr.alloc (.cells #[.int .i64 0, .int .i64 0] 38)).frozen? _ = _
      simp
theorem drewN_more (w : World) (a b : Nat) : (w.drewN a).drewN b = w.drewN (a + b) := by rw [World.drewN_drewN]
/-- how long a slice is -/
def slen : Value → Nat
  | .slice _ n _ => n
  | _ => 0
theorem own_len {w : World} {base : Nat} {v : Value} {l : List (Int × Int)} (h : OwnR w base v l) : ∃ A c, v = .slice A l.length c ∧ (l = [] ∨ ∃ g, A = some ⟨g, 0, none⟩ ∧ Reads w g 0 l) := by
  rcases h.2 with ⟨rfl, h0⟩ | ⟨g, cap, cur, rfl, _⟩
  · have : l = [] := List.eq_nil_of_length_eq_zero h0
    subst this
    exact ⟨none, 0, rfl, .inl rfl⟩
  · exact ⟨_, cap, rfl, .inr ⟨g, rfl, OwnR.reads h⟩⟩
/-- the first of the least beginnings among the first i -/
def FirstAt (left : List (Int × Int)) (f : Int) (i : Nat) : Prop := (f = -1 ∧ i = 0) ∨ ∃ m : Nat, f = m ∧ m < i ∧ ∀ j, j < i → (rg left m).1 ≤ (rg left j).1
theorem cells2 {W : World} {n : Nat} (h : W.heap.size = n) (a b : Int) : (W.alloc (.cells #[.int .i64 a, .int .i64 b] 38)).cell? ⟨n, 0, none⟩ = some (.int .i64 a) ∧ (W.alloc (.cells #[.int .i64 a, .int .i64 b] 38)).cell? ⟨n, 1, none⟩ = some (.int .i64 b) := by
  have hb : (W.alloc (.cells #[.int .i64 a, .int .i64 b] 38)).heap[n]? = some (.cells #[.int .i64 a, .int .i64 b] 38 (0, 0)) := blk_new h
  simp [World.cell?, hb]
theorem left_cell {W : World} {base g3 i c3 k : Nat} {left : List (Int × Int)} (h : OwnR W base (.slice (some ⟨g3, 0, none⟩) i c3) left) (hk : k < left.length) : W.cell? ⟨g3, k * 2, none⟩ = some (.int .i64 left[k].1) ∧ W.cell? ⟨g3, k * 2 + 1, none⟩ = some (.int .i64 left[k].2) := by
  obtain ⟨A, c, e, hr⟩ := own_len h
  obtain ⟨g, e2, hrd⟩ := hr.resolve_left (fun e => by rw [e] at hk; simp at hk)
  simp only [Value.slice.injEq] at e
  rw [e2] at e
  have eg : g3 = g := by simpa using e.1
  subst eg
  have := hrd k hk
  rwa [Nat.zero_add, rg_lt hk] at this
/-- how far the range at p is -/
def xAt (p : Nat) (W : World) : Int × Int := (0, intOf ((W.cell? ⟨p, 1, none⟩).getD undef))
def boolOf : Value → Bool
  | .bool b => b
  | _ => false
set_option maxHeartbeats 8000000 in
theorem united_walk (A : Option Addr) (c : Nat) (l : List (Int × Int)) (w : World) (h : l = [] ∨ ∃ g o, A = some ⟨g, o, none⟩ ∧ Reads w g o l) (hn : 3 * l.length < 8796093022208) :
    Calls Tryd.prog 49 #[.slice A l.length c] w fun e w' => ∃ v r, e = .returned v ∧ (Good r ∧ ∀ u, hasU r u ↔ isU u ∧ hasU l u) ∧ OwnR w' w.heap.size v r ∧ Below w.heap.size w w' := by
  obtain ⟨n, hnn⟩ : ∃ n, l.length = n := ⟨_, rfl⟩
  have HN : Hid (l.length = n) := hnn
  rw [hnn] at hn ⊢
  have HH : Hid (l = [] ∨ ∃ g o, A = some ⟨g, o, none⟩ ∧ Reads w g o l) := h
  clear h hnn
  go_enter Tryd.func49, Tryd.ntmps49
  go_wp2_with fail
  refine (domain_any _).mono ?_
  rintro e w1 ⟨rfl, hw1⟩
  have hz1 : (w.alloc (.cells #[] 38)).heap.size = w.heap.size + 1 := World.size_alloc _ _
  have hD1 : DomAt w1 (w.heap.size + 1) := by rw [hw1]; exact dom_new _ _ hz1
  have hO1 : OwnR w1 w.heap.size (.slice (some ⟨w.heap.size, 0, none⟩) 0 0) [] := by
    have h0 : OwnR (w.alloc (.cells #[] 38)) w.heap.size (.slice (some ⟨w.heap.size, 0, none⟩) 0 0) [] := World.ownsRow_lit (e := 38) (size := 2) w #[] 0 (Nat.le_refl _) (by unfold maxLen; omega) rfl
    rw [hw1]
    exact h0.alloc _
  have hB1 : Below w.heap.size w w1 := by rw [hw1]; exact ((Below.refl _ w).alloc (Nat.le_refl _) _).alloc (by simp) _
  rw [hz1]
  clear hw1 hz1
  go_wp2
  go_loopw [3, 5] (fun vs vi wr => ∃ k : Nat, vi = .int .i64 k ∧ k ≤ n ∧ OwnR wr w.heap.size vs (clipAll (l.take k)) ∧ vs.ownBlock ≠ some (w.heap.size + 1) ∧ DomAt wr (w.heap.size + 1) ∧ Below w.heap.size w wr) (fun _ vi _ => n - (intOf vi).toNat)
  case atStart => exact ⟨0, rfl, by omega, hO1, by simp [Value.ownBlock], hD1, hB1⟩
  case round =>
    obtain ⟨k, rfl, hk, hO, hne, hDm, hB⟩ := hrel
    by_cases hlt : k < n
    · as_aux_lemma =>
        clear hO1 hD1 hB1
        have hlt' : (k : Int) < (n : Int) := by omega
        have hpos : (0 : Int) ≤ (k : Int) := by omega
        have hkl : k < l.length := by rw [HN.out]; exact hlt
        obtain ⟨g, o, hA, hrd⟩ := HH.out.resolve_left (fun e => by rw [e] at hkl; simp at hkl)
        subst hA
        have hg : g < w.heap.size := hrd.lt (fun e => by rw [e] at hkl; simp at hkl)
        obtain ⟨a, b, hab⟩ : ∃ a b : Int, rg l k = (a, b) := ⟨_, _, rfl⟩
        have x1 := hrd k hkl
        rw [hab] at x1
        have HX : Hid (∀ W, Below w.heap.size w W → W.cell? ⟨g, o + k * 2, none⟩ = some (.int .i64 a) ∧ W.cell? ⟨g, o + k * 2 + 1, none⟩ = some (.int .i64 b)) := fun W hW =>
          ⟨(hW.cell (p := ⟨g, _, none⟩) hg).trans x1.1, (hW.cell (p := ⟨g, _, none⟩) hg).trans x1.2⟩
        have HCk : Hid (clipAll (l.take (k + 1)) = clipAll (l.take k) ++ clips a b) := by have := clipAll_take hkl; rw [hab] at this; exact this
        have hml : (clipAll (l.take k)).length + 3 < 8796093022208 := by have := clipAll_len (l.take k); rw [List.length_take] at this; omega
        obtain ⟨m, hm⟩ : ∃ m, clipAll (l.take k) = m := ⟨_, rfl⟩
        rw [hm] at hO HCk hml
        clear hab hrd x1 hm
        go_wp2
        go_loopw [3, 6] (fun vs vj wr => ∃ j : Nat, vj = .int .i64 j ∧ j ≤ 3 ∧ OwnR wr w.heap.size vs (m ++ clipsN a b j) ∧ vs.ownBlock ≠ some (w.heap.size + 1) ∧ DomAt wr (w.heap.size + 1) ∧ Below w.heap.size w wr) (fun _ vj _ => 3 - (intOf vj).toNat)
        case atStart => exact ⟨0, rfl, by omega, by simpa [clipsN] using hO, hne, hDm, hB⟩
        case round =>
          obtain ⟨j, rfl, hj, hOj, hnej, hDj, hBj⟩ := hrel
          have hzj := hBj.size
          by_cases hj3 : j < 3
          · as_aux_lemma =>
              clear hO hne hDm hB
              obtain ⟨ca, cb⟩ := HX.out _ hBj
              obtain ⟨d0, d1⟩ := hDj j hj3
              have hjl : (j : Int) < 3 := by omega
              have hj0 : (0 : Int) ≤ (j : Int) := by omega
              obtain ⟨lo, hlo⟩ : ∃ lo, blkLo j = lo := ⟨_, rfl⟩
              obtain ⟨hi, hhi⟩ : ∃ hi, blkHi j = hi := ⟨_, rfl⟩
              rw [hlo] at d0
              rw [hhi] at d1
              have HPc : Hid (pc a b j = (max a lo, min b hi)) := by show pc a b j = _; unfold pc; rw [hlo, hhi]
              obtain ⟨x, hx⟩ : ∃ x : Int, max a lo = x := ⟨_, rfl⟩
              obtain ⟨y, hy⟩ : ∃ y : Int, min b hi = y := ⟨_, rfl⟩
              have HCt : Hid (∀ W, Calls Tryd.prog 65 #[.agg #[.int .i64 a, .int .i64 b], .agg #[.int .i64 lo, .int .i64 hi]] W fun e w' => e = .returned (.tuple #[.agg #[.int .i64 x, .int .i64 y], .bool (decide (x ≤ y))]) ∧ Grown W w') := fun W => by have := cut_any a b lo hi W; rw [hx, hy] at this; exact this
              rw [hx, hy] at HPc
              clear hlo hhi hx hy
              have e1 := fun ob => cell_up ca ob
              have e2 := fun ob => cell_up cb ob
              have e3 := fun ob => cell_up d0 ob
              have e4 := fun ob => cell_up d1 ob
              go_wp2
              as_aux_lemma =>
                clear HN HH HX hn hk hpos hkl HCk
                have ne1 := World.new_ne wr _ ca
                have ne2 := World.new_ne wr _ cb
                have ne3 := World.new_ne wr _ d0
                have ne4 := World.new_ne wr _ d1
                go_region_held3 (fun W => (W.cell? ⟨g, o + k * 2, none⟩ = some (.int .i64 a) ∧ W.cell? ⟨g, o + k * 2 + 1, none⟩ = some (.int .i64 b)) ∧ (W.cell? ⟨w.heap.size + 1, j * 2, none⟩ = some (.int .i64 lo) ∧ W.cell? ⟨w.heap.size + 1, j * 2 + 1, none⟩ = some (.int .i64 hi))) (go_keep) (first | (go_at_call 65; refine (HCt.out _).mono ?_; rintro e w' ⟨rfl, hG'⟩; have k1 : w'.cell? ⟨g, o + k * 2, none⟩ = some (.int .i64 a) := hG'.cellv (by simp [*]); have k2 : w'.cell? ⟨g, o + k * 2 + 1, none⟩ = some (.int .i64 b) := hG'.cellv (by simp [*]); have k3 : w'.cell? ⟨w.heap.size + 1, j * 2, none⟩ = some (.int .i64 lo) := hG'.cellv (by simp [*]); have k4 : w'.cell? ⟨w.heap.size + 1, j * 2 + 1, none⟩ = some (.int .i64 hi) := hG'.cellv (by simp [*]); first | (obtain ⟨q0, q1, f0, f1⟩ := held_new (wr := wr) hG' rfl) | skip))
                · have hG1 : Grown wr w' := ((Grown.refl wr).drew).trans hG'
                  have hBW' : Below w.heap.size w w' := hBj.trans (hG1.below.mono hzj)
                  obtain ⟨W, hW⟩ : ∃ W, w'.alloc (.cells #[.int .i64 x, .int .i64 y] 38) = W := ⟨_, rfl⟩
                  obtain ⟨p, hp⟩ : ∃ p, w'.heap.size = p := ⟨_, rfl⟩
                  have nn := new_cells w' (.int .i64 x) (.int .i64 y) 38 p hp
                  rw [hW] at nn
                  obtain ⟨n0, n1⟩ := nn
                  have hOW : OwnR W w.heap.size u3 (m ++ clipsN a b j) := by rw [← hW]; exact (hOj.below hG1.below (Nat.le_refl _)).alloc _
                  have hDW : DomAt W (w.heap.size + 1) := by rw [← hW]; exact DomAt.kept (hDj.below hG1.below hDj.lt) (World.grownBy_alloc w' _ none) (by simp)
                  have hBW : Below w.heap.size w W := by rw [← hW]; exact hBW'.alloc hBW'.size _
                  rw [hW, hp]
                  clear hW hp hG' hG1 hBW'
                  as_aux_lemma =>
                    clear hOj hDj hBj hzj ca cb d0 d1 e1 e2 e3 e4 HCt ne1 ne2 ne3 ne4
                    have hzW := hBW.size
                    have hlen : (m ++ clipsN a b j).length + 1 ≤ 8796093022208 := by have := clipsN_len a b j; rw [List.length_append]; omega
                    by_cases hc : x ≤ y
                    · have HS : Hid (clipsN a b (j + 1) = clipsN a b j ++ [(x, y)]) := by
                        show clipsN a b j ++ (if (pc a b j).1 ≤ (pc a b j).2 then [pc a b j] else []) = _
                        rw [HPc.out, if_pos hc]
                      go_wp2_with (at_builtin; go_must (refine push_at rfl _ _ 22 rfl Tryd.underlying22 w.heap.size _ _ rfl (hOW.alloc _) _ _ x y rfl (new_cells W _ _ _ _ rfl).1 (new_cells W _ _ _ _ rfl).2 hlen (by rw [World.size_alloc]; omega) ?_); intro v' w3 hO1 hgr hb1 hat)
                      refine ⟨⟨j + 1, by go_num, by omega, ?_, ?_, ?_, (hBW.alloc hzW _).trans hb1⟩, by simp [intOf]; omega⟩
                      · rw [HS.out, ← List.append_assoc]; exact hO1
                      · rcases hat with e | e
                        · rw [e]; exact hnej
                        · rw [e, World.size_alloc]
                          intro e2
                          have := Option.some.inj e2
                          have := hDW.lt
                          omega
                      · exact DomAt.kept (DomAt.kept hDW (World.grownBy_alloc W _ none) (by simp)) hgr hnej
                    · have HS : Hid (clipsN a b (j + 1) = clipsN a b j) := by
                        show clipsN a b j ++ (if (pc a b j).1 ≤ (pc a b j).2 then [pc a b j] else []) = _
                        rw [HPc.out, if_neg hc, List.append_nil]
                      have hd : decide (x ≤ y) = false := by simp; omega
                      simp only [hd]
                      clear hc
                      go_wp2
                      exact ⟨⟨j + 1, by go_num, by omega, by rw [HS.out]; exact hOW, hnej, hDW, hBW⟩, by simp [intOf]; omega⟩
                · have hG1 : Grown (wr.alloc (.cells #[.int .i64 0, .int .i64 0] 38)) w' := ((Grown.refl _).drew).trans hG'
                  have hBa : Below w.heap.size w (wr.alloc (.cells #[.int .i64 0, .int .i64 0] 38)) := hBj.alloc hzj _
                  have hBW' : Below w.heap.size w w' := hBa.trans (hG1.below.mono hBa.size)
                  obtain ⟨W, hW⟩ : ∃ W, (w'.setCell ⟨wr.heap.size, 0, none⟩ (.int .i64 x)).setCell ⟨wr.heap.size, 1, none⟩ (.int .i64 y) = W := ⟨_, rfl⟩
                  obtain ⟨p, hp⟩ : ∃ p, wr.heap.size = p := ⟨_, rfl⟩
                  have hOa : OwnR w' w.heap.size u3 (m ++ clipsN a b j) := (hOj.alloc _).below hG1.below (Nat.le_refl _)
                  have hub : u3.ownBlock ≠ some p := fun e => by have := (World.ownsRow.lt hOj _ e).2; omega
                  have hDa : DomAt w' (w.heap.size + 1) := (DomAt.kept hDj (World.grownBy_alloc wr _ none) (by simp)).below hG1.below (by rw [World.size_alloc]; have := hDj.lt; omega)
                  have hpd : w.heap.size + 1 ≠ p := by have := hDj.lt; omega
                  rw [hp] at hW q0 q1 f0 f1
                  have n0 : W.cell? ⟨p, 0, none⟩ = some (.int .i64 x) := by
                    rw [← hW, World.cell?_setCell_other _ _ _ _ (by simp)]
                    exact World.cell?_setCell_same _ _ _ q0
                  have n1 : W.cell? ⟨p, 1, none⟩ = some (.int .i64 y) := by
                    rw [← hW]
                    exact World.cell?_setCell_same _ _ _ (by rw [World.cell?_setCell_other _ _ _ _ (by simp)]; exact q1)
                  have hOW : OwnR W w.heap.size u3 (m ++ clipsN a b j) := by
                    rw [← hW]
                    exact ownsRow_setCell_other (ownsRow_setCell_other hOa (a := ⟨p, 0, none⟩) hub _) (a := ⟨p, 1, none⟩) hub _
                  have hDW : DomAt W (w.heap.size + 1) := fun i hi => by
                    rw [← hW]
                    have := hDa i hi
                    rw [World.cell?_setCell_other _ _ _ _ (by simp only [ne_eq, Addr.mk.injEq, not_and]; intro e; exact absurd e.symm (by omega)), World.cell?_setCell_other _ _ _ _ (by simp only [ne_eq, Addr.mk.injEq, not_and]; intro e; exact absurd e.symm (by omega)), World.cell?_setCell_other _ _ _ _ (by simp only [ne_eq, Addr.mk.injEq, not_and]; intro e; exact absurd e.symm (by omega)), World.cell?_setCell_other _ _ _ _ (by simp only [ne_eq, Addr.mk.injEq, not_and]; intro e; exact absurd e.symm (by omega))]
                    exact this
                  have hBW : Below w.heap.size w W := by rw [← hW]; exact (hBW'.setCell (p := ⟨p, 0, none⟩) (by show w.heap.size ≤ p; omega) _).setCell (p := ⟨p, 1, none⟩) (by show w.heap.size ≤ p; omega) _
                  rw [hp, hW]
                  clear hW hG' hG1 hBW' hBa hOa hDa q0 q1 f0 f1 hub
                  as_aux_lemma =>
                    clear hOj hDj hBj hzj hp ca cb d0 d1 e1 e2 e3 e4 HCt ne1 ne2 ne3 ne4
                    have hzW := hBW.size
                    have hlen : (m ++ clipsN a b j).length + 1 ≤ 8796093022208 := by have := clipsN_len a b j; rw [List.length_append]; omega
                    by_cases hc : x ≤ y
                    · have HS : Hid (clipsN a b (j + 1) = clipsN a b j ++ [(x, y)]) := by
                        show clipsN a b j ++ (if (pc a b j).1 ≤ (pc a b j).2 then [pc a b j] else []) = _
                        rw [HPc.out, if_pos hc]
                      go_wp2_with (at_builtin; go_must (refine push_at rfl _ _ 22 rfl Tryd.underlying22 w.heap.size _ _ rfl (hOW.alloc _) _ _ x y rfl (new_cells W _ _ _ _ rfl).1 (new_cells W _ _ _ _ rfl).2 hlen (by rw [World.size_alloc]; omega) ?_); intro v' w3 hO1 hgr hb1 hat)
                      refine ⟨⟨j + 1, by go_num, by omega, ?_, ?_, ?_, (hBW.alloc hzW _).trans hb1⟩, by simp [intOf]; omega⟩
                      · rw [HS.out, ← List.append_assoc]; exact hO1
                      · rcases hat with e | e
                        · rw [e]; exact hnej
                        · rw [e, World.size_alloc]
                          intro e2
                          have := Option.some.inj e2
                          have := hDW.lt
                          omega
                      · exact DomAt.kept (DomAt.kept hDW (World.grownBy_alloc W _ none) (by simp)) hgr hnej
                    · have HS : Hid (clipsN a b (j + 1) = clipsN a b j) := by
                        show clipsN a b j ++ (if (pc a b j).1 ≤ (pc a b j).2 then [pc a b j] else []) = _
                        rw [HPc.out, if_neg hc, List.append_nil]
                      have hd : decide (x ≤ y) = false := by simp; omega
                      simp only [hd]
                      clear hc
                      go_wp2
                      exact ⟨⟨j + 1, by go_num, by omega, by rw [HS.out]; exact hOW, hnej, hDW, hBW⟩, by simp [intOf]; omega⟩
          · as_aux_lemma =>
              have hj3' : j = 3 := by omega
              subst hj3'
              have hOk : OwnR wr w.heap.size u3 (clipAll (l.take (k + 1))) := by rw [HCk.out]; exact hOj
              clear hO hne hDm hB
              go_wp2
              exact ⟨⟨k + 1, by go_num, by omega, hOk, hnej, hDj, hBj⟩, by simp [intOf]; omega⟩
    · as_aux_lemma =>
        clear hO1 hD1 hB1
        have hlk : l.take k = l := List.take_of_length_le (by rw [HN.out]; omega)
        rw [hlk] at hO
        have hml : (clipAll l).length < 8796093022208 := by have := clipAll_len l; rw [HN.out] at this; omega
        have HU0 : Hid (Uni (clipAll l) [] (clipAll l)) := uni_start (fun y hy => clipAll_whole hy)
        have hz := hB.size
        have hO0 : OwnR (wr.alloc (.cells #[] 38)) w.heap.size (.slice (some ⟨wr.heap.size, 0, none⟩) 0 0) [] := World.ownsRow_lit (e := 38) (size := 2) wr #[] 0 hz (by unfold maxLen; omega) rfl
        have hne0 : u3.ownBlock ≠ some wr.heap.size := fun e => by have := (World.ownsRow.lt hO _ e).2; omega
        clear hlk hne hDm
        go_wp2
        go_loopw [3, 9] (fun v3 v9 wr' => ∃ left out, OwnR wr' w.heap.size v3 left ∧ OwnR wr' w.heap.size v9 out ∧ v3.ownBlock ≠ v9.ownBlock ∧ Hid (Uni (clipAll l) out left) ∧ left.length + out.length ≤ (clipAll l).length ∧ Below w.heap.size w wr') (fun v3 _ _ => slen v3)
        case atStart => exact ⟨_, [], hO.alloc _, hO0, by simpa [Value.ownBlock] using hne0, HU0, by simp, hB.alloc hz _⟩
        case round =>
          obtain ⟨left, out, hL, hQ, hLQ, hU, hlen, hBr⟩ := hrel
          have hzr := hBr.size
          obtain ⟨A3, c3, rfl, hA3⟩ := own_len hL
          obtain ⟨nl, hnl⟩ : ∃ nl, left.length = nl := ⟨_, rfl⟩
          have HNL : Hid (left.length = nl) := hnl
          have HA3 : Hid (left = [] ∨ ∃ g, A3 = some ⟨g, 0, none⟩ ∧ Reads wr g 0 left) := hA3
          clear hA3
          simp only [hnl]
          rw [hnl] at hL hLQ hlen
          go_wp2
          go_loopw [10, 11] (fun vf vi wq => ∃ i : Nat, ∃ f : Int, vi = .int .i64 i ∧ vf = .int .i64 f ∧ i ≤ nl ∧ Hid (FirstAt left f i) ∧ ∃ q, wq = wr.drewN q) (fun _ vi _ => nl - (intOf vi).toNat)
          case atStart => exact ⟨0, -1, rfl, rfl, by omega, .inl ⟨rfl, rfl⟩, 0, rfl⟩
          case round =>
            obtain ⟨i, f, rfl, rfl, hi, hF, q, rfl⟩ := hrel
            by_cases hil : i < nl
            · as_aux_lemma =>
                have hil' : (i : Int) < (nl : Int) := by omega
                have hi0 : (0 : Int) ≤ (i : Int) := by omega
                have hia : i < left.length := by rw [HNL.out]; exact hil
                obtain ⟨g, hA, hrd⟩ := HA3.out.resolve_left (fun e => by rw [e] at hia; simp at hia)
                subst hA
                have ci := (hrd i hia).1
                rw [Nat.zero_add] at ci
                obtain ⟨y, hy⟩ : ∃ y, (rg left i).1 = y := ⟨_, rfl⟩
                rw [hy] at ci
                rcases hF.out with ⟨rfl, hi00⟩ | ⟨m, hfm, hm, hmin⟩
                · as_aux_lemma =>
                    have HF' : Hid (FirstAt left (i : Int) (i + 1)) := .inr ⟨i, rfl, by omega, fun j hj => by
                      have : j = i := by omega
                      rw [this]; exact Int.le_refl _⟩
                    clear hF hi00 hrd hy
                    go_wp2
                    go_quiet (fail)
                    go_wp2
                    exact ⟨⟨i + 1, (i : Int), by go_num, rfl, by omega, HF', q + nq, rfl⟩, by simp [intOf]; omega⟩
                · subst hfm
                  obtain ⟨x, hx⟩ : ∃ x, (rg left m).1 = x := ⟨_, rfl⟩
                  have cm := (hrd m (by omega)).1
                  rw [Nat.zero_add, hx] at cm
                  have hm0 : (0 : Int) ≤ (m : Int) := by omega
                  have hml' : (m : Int) < (nl : Int) := by omega
                  have hmd : decide ((m : Int) < 0) = false := by simp
                  by_cases hxy : y < x
                  · as_aux_lemma =>
                      have HF' : Hid (FirstAt left (i : Int) (i + 1)) := .inr ⟨i, rfl, by omega, fun j hj => by
                        by_cases e : j = i
                        · rw [e]; exact Int.le_refl _
                        · have := hmin j (by omega); rw [hy]; rw [hx] at this; omega⟩
                      clear hF hmin hrd hy hx
                      go_wp2
                      go_quiet (fail)
                      go_wp2
                      exact ⟨⟨i + 1, (i : Int), by go_num, rfl, by omega, HF', q + nq, rfl⟩, by simp [intOf]; omega⟩
                  · as_aux_lemma =>
                      have HF' : Hid (FirstAt left (m : Int) (i + 1)) := .inr ⟨m, rfl, by omega, fun j hj => by
                        by_cases e : j = i
                        · rw [e, hy, hx]; omega
                        · exact hmin j (by omega)⟩
                      have hd : decide (y < x) = false := by simp; omega
                      clear hF hmin hrd hy hx hxy
                      go_wp2
                      go_quiet (fail)
                      go_wp2
                      exact ⟨⟨i + 1, (m : Int), by go_num, rfl, by omega, HF', q + nq, rfl⟩, by simp [intOf]; omega⟩
            · rcases hF.out with ⟨rfl, hi00⟩ | ⟨m, hfm, hm, hmin⟩
              · as_aux_lemma =>
                  have hln : left = [] := List.eq_nil_of_length_eq_zero (by rw [HNL.out]; omega)
                  have HE : Hid (Good out ∧ ∀ u, hasU out u ↔ isU u ∧ hasU l u) := ⟨hU.out.1, fun u => by
                    have h1 := hU.out.2.2.1 u
                    rw [hln, clipAll_has] at h1
                    rw [h1]
                    exact ⟨.inl, fun k => k.resolve_right (hasU_nil u)⟩⟩
                  clear hU hF hln
                  go_wp2
                  go_ret
                  exact ⟨_, out, rfl, HE.out, hQ, below_drewN hBr _⟩
              · as_aux_lemma =>
                  subst hfm
                  obtain rfl : i = nl := by omega
                  have hml0 : m < left.length := by rw [HNL.out]; exact hm
                  obtain ⟨g3, hA, hrd⟩ := HA3.out.resolve_left (fun e => by rw [e] at hml0; simp at hml0)
                  subst hA
                  obtain ⟨A9, c9, e9, _⟩ := own_len hQ
                  subst e9
                  have cm1 := (hrd m hml0).1
                  have cm2 := (hrd m hml0).2
                  rw [Nat.zero_add] at cm1 cm2
                  have hmem : rg left m ∈ left := by rw [rg_lt hml0]; exact List.getElem_mem hml0
                  have hG0 : Growing left (rg left m) := growing_start hU.out.2.1 hmem (fun y hy => by
                    obtain ⟨j, hj, rfl⟩ := List.getElem_of_mem hy
                    have := hmin j (by rw [← HNL.out]; exact hj)
                    rwa [rg_lt hj] at this)
                  have hm0 : (0 : Int) ≤ (m : Int) := by omega
                  have hml' : (m : Int) < (i : Int) := by omega
                  obtain ⟨⟨xl, xh⟩, hx⟩ : ∃ x, rg left m = x := ⟨_, rfl⟩
                  rw [hx] at cm1 cm2 hmem hG0
                  simp only at cm1 cm2
                  obtain ⟨W0, hW0⟩ : ∃ W0, wr.drewN q = W0 := ⟨_, rfl⟩
                  have hL0 : OwnR W0 w.heap.size (.slice (some ⟨g3, 0, none⟩) i c3) left := by rw [← hW0]; exact hL.far (fun _ _ => rfl)
                  have hQ0 : OwnR W0 w.heap.size (.slice A9 out.length c9) out := by rw [← hW0]; exact hQ.far (fun _ _ => rfl)
                  have hB0 : Below w.heap.size w W0 := by rw [← hW0]; exact below_drewN hBr q
                  have d1 : W0.cell? ⟨g3, m * 2, none⟩ = some (.int .i64 xl) := by rw [← hW0]; exact cm1
                  have d2 : W0.cell? ⟨g3, m * 2 + 1, none⟩ = some (.int .i64 xh) := by rw [← hW0]; exact cm2
                  have HS0 : Hid (US w w.heap.size W0.heap.size (.slice (some ⟨g3, 0, none⟩) i c3) (.slice A9 out.length c9) left out (xl, xh) (.slice (some ⟨W0.heap.size + 1, 0, none⟩) 0 0) [] ((W0.alloc (.cells #[.int .i64 xl, .int .i64 xh] 38)).alloc (.cells #[] 38))) := us_start (xl, xh) hL0 hQ0 hLQ hB0 hB0.size
                  rw [hW0]
                  clear hL0 hQ0 hB0 cm1 cm2 hW0
                  have HU : Hid (Uni (clipAll l) out left ∧ (xl, xh) ∈ left) := ⟨hU.out, hmem⟩
                  have HG0 : Hid (Growing left (xl, xh)) := hG0
                  clear hF hmin hrd hx hL hQ hLQ hBr hU hmem hG0
                  go_wp2
                  go_loopw [13, 14] (fun v13 v14 wq => ∃ (va : Value) (x : Int × Int) (g : Bool) (rs : List (Int × Int)), va = v13 ∧ v14 = .bool g ∧ Hid (US w w.heap.size W0.heap.size (.slice (some ⟨g3, 0, none⟩) i c3) (.slice A9 out.length c9) left out x va rs wq ∧ Growing left x ∧ x.1 = xl ∧ rs.length ≤ i ∧ (g = false → rs = left.filter (fun y => decide (x.2 + 1 < y.1)) ∧ ∀ y ∈ left, y.1 ≤ x.2 + 1 → y.2 ≤ x.2))) (fun _ v14 wq => leftOver (xAt W0.heap.size wq) (boolOf v14))
                  case atStart => exact ⟨_, (xl, xh), true, [], rfl, rfl, HS0.out, HG0.out, rfl, by simp, fun e => by cases e⟩
                  case round =>
                    obtain ⟨va, x, g, rs, rfl, rfl, HI⟩ := hrel
                    obtain ⟨A13, c13, rfl, _⟩ := own_len HI.out.1.r
                    obtain ⟨xa, xb⟩ := x
                    cases g with
                    | false =>
                      as_aux_lemma =>
                        obtain ⟨hUS, hG, hx1, hrl, hdone⟩ := HI.out
                        obtain ⟨hrs, hd⟩ := hdone (by trivial)
                        obtain ⟨z0, z1, _⟩ := hUS.cells
                        simp only at z0 z1 hx1
                        have HE : Hid (Uni (clipAll l) (out ++ [(xa, xb)]) rs ∧ rs.length < left.length) := by
                          rw [hrs]
                          exact ⟨uni_step HU.out.1 hG ⟨(xl, xh), HU.out.2, hx1.symm⟩ hd, uni_less hG.1.1 ⟨(xl, xh), HU.out.2, hx1.symm⟩⟩
                        have HR : Hid (US w w.heap.size W0.heap.size (.slice (some ⟨g3, 0, none⟩) i c3) (.slice A9 out.length c9) left out (xa, xb) (.slice A13 rs.length c13) rs wr) := hUS
                        have HOo : Hid (∀ ob, OwnR (wr.alloc ob) w.heap.size (.slice A9 out.length c9) out ∧ w.heap.size ≤ (wr.alloc ob).heap.size) := fun ob => ⟨hUS.o.alloc ob, by rw [World.size_alloc]; exact Nat.le_succ_of_le hUS.le⟩
                        have hol : out.length + 1 ≤ 8796093022208 := by omega
                        have hlen' := hlen
                        clear hUS hG hdone hrs hd hrl HI HG0 HS0 hx1
                        go_wp2_with (at_builtin; go_must (refine push_at rfl _ _ 29 rfl Tryd.underlying29 w.heap.size _ out rfl (HOo.out _).1 _ _ xa xb rfl (by simp) (by simp) hol (HOo.out _).2 ?_; intro v' w' hO hg hb hat))
                        have hnl' : left.length = i := HNL.out
                        have hls := HE.out.2
                        have hz2 : (wr.alloc (.cells #[.int .i64 xa, .int .i64 xb] 38)).heap.size = wr.heap.size + 1 := World.size_alloc _ _
                        refine ⟨⟨rs, out ++ [(xa, xb)], HR.out.r.far (fun b e => (hg.block b (by have := own_lt HR.out.r e; omega) (fun e2 => HR.out.ro (e.trans e2))).trans (Below.heap_alloc _ _ _ (own_lt HR.out.r e))), hO, ?_, HE.out.1, by simp; omega, (HR.out.b.alloc HR.out.le _).trans hb⟩, by show rs.length < i; omega⟩
                        intro e
                        rcases hat with e2 | e2
                        · exact HR.out.ro (e.trans e2)
                        · have := own_lt HR.out.r (e.trans e2)
                          omega
                    | true =>
                      obtain ⟨hUS, hG, hx1, hrl, _⟩ := HI.out
                      have HA : Hid (US w w.heap.size W0.heap.size (.slice (some ⟨g3, 0, none⟩) i c3) (.slice A9 out.length c9) left out (xa, xb) (.slice (some ⟨wr.heap.size, 0, none⟩) 0 0) [] (wr.alloc (.cells #[] 38)) ∧ Growing left (xa, xb)) := ⟨hUS.anew, hG⟩
                      have HX1 : Hid (xa = xl ∧ xAt W0.heap.size wr = (0, xb)) := ⟨hx1, by simp [xAt, hUS.cells.2.1, intOf]⟩
                      clear hUS hG hx1 hrl HI HG0 HS0
                      go_wp2
                      go_loopw [13, 14, 15] (fun v13 v14 v15 wz => ∃ (va : Value) (y : Int × Int) (g : Bool) (rs : List (Int × Int)) (k : Nat), va = v13 ∧ v14 = .bool g ∧ v15 = .int .i64 k ∧ k ≤ i ∧ Hid (US w w.heap.size W0.heap.size (.slice (some ⟨g3, 0, none⟩) i c3) (.slice A9 out.length c9) left out y va rs wz ∧ Ov left (xa, xb) y g rs k)) (fun _ _ v15 _ => i - (intOf v15).toNat)
                      case atStart => exact ⟨_, (xa, xb), false, [], 0, rfl, rfl, rfl, Nat.zero_le _, HA.out.1, ov_start HA.out.2⟩
                      case round =>
                        obtain ⟨va, y, g, rs', k, rfl, rfl, rfl, hki, HJ⟩ := hrel
                        clear HA
                        by_cases hkl : k < i
                        · obtain ⟨hUS, hOv⟩ := HJ.out
                          obtain ⟨A13', c13', rfl, _⟩ := own_len hUS.r
                          have hkl' : k < left.length := by rw [HNL.out]; exact hkl
                          obtain ⟨A3', c3', e3', hr3⟩ := own_len hUS.l
                          obtain ⟨g3', e4', hrd3⟩ := hr3.resolve_left (fun e => by rw [e] at hkl'; simp at hkl')
                          simp only [Value.slice.injEq] at e3'
                          rw [← e3'.1] at e4'
                          simp only [Option.some.injEq, Addr.mk.injEq, and_true] at e4'
                          obtain ⟨ya, yb⟩ := y
                          obtain ⟨q1, q2⟩ := hrd3 k hkl'
                          rw [← e4', Nat.zero_add] at q1 q2
                          obtain ⟨⟨lo, hi'⟩, hlh⟩ : ∃ z, rg left k = z := ⟨_, rfl⟩
                          rw [hlh] at q1 q2
                          simp only at q1 q2
                          have hlk : left[k] = (lo, hi') := by rw [← rg_lt hkl']; exact hlh
                          obtain ⟨z0, z1, zf⟩ := hUS.cells
                          simp only at z0 z1
                          have hyb : yb ≤ 1114367 := growing_top hOv.1
                          have hyb0 : 0 ≤ yb := by have h1 := hOv.1.1.1; have h2 := hOv.1.1.2; simp only at h1 h2; omega
                          have hkI0 : (0 : Int) ≤ (k : Int) := by omega
                          have hkI1 : (k : Int) < (i : Int) := by omega
                          have HK : Hid (US w w.heap.size W0.heap.size (.slice (some ⟨g3, 0, none⟩) i c3) (.slice A9 out.length c9) left out (ya, yb) (.slice A13' rs'.length c13') rs' wr ∧ Ov left (xa, xb) (ya, yb) g rs' k ∧ left[k]'hkl' = (lo, hi')) := ⟨hUS, hOv, hlk⟩
                          clear hUS hOv hr3 hrd3 e3' e4' hlh hlk HJ
                          by_cases hfar : yb + 1 < lo
                          · as_aux_lemma =>
                              have hd1 : decide (lo ≤ yb + 1) = false := by simp; omega
                              have HN2 : Hid (Ov left (xa, xb) (ya, yb) g (rs' ++ [(lo, hi')]) (k + 1)) := by
                                have := ov_far HK.out.2.1 hkl' (by rw [HK.out.2.2]; exact hfar)
                                rwa [HK.out.2.2] at this
                              have hrl : rs'.length + 1 ≤ 8796093022208 := by
                                have h1 := HK.out.2.1.2.2.1
                                have h2 := HNL.out
                                omega
                              go_wp2
                              go_quiet (fail)
                              obtain ⟨W5, hW5⟩ : ∃ W5, wr.drewN nq = W5 := ⟨_, rfl⟩
                              have HK5 : Hid (US w w.heap.size W0.heap.size (.slice (some ⟨g3, 0, none⟩) i c3) (.slice A9 out.length c9) left out (ya, yb) (.slice A13' rs'.length c13') rs' W5) := by rw [← hW5]; exact HK.out.1.drewN nq
                              have q1' : W5.cell? ⟨g3, k * 2, none⟩ = some (.int .i64 lo) := by rw [← hW5]; exact q1
                              have q2' : W5.cell? ⟨g3, k * 2 + 1, none⟩ = some (.int .i64 hi') := by rw [← hW5]; exact q2
                              have HR5 : Hid (∀ ob, OwnR (W5.alloc ob) w.heap.size (.slice A13' rs'.length c13') rs' ∧ w.heap.size ≤ (W5.alloc ob).heap.size ∧ Below W5.heap.size W5 (W5.alloc ob)) := fun ob => ⟨HK5.out.r.alloc ob, by rw [World.size_alloc]; exact Nat.le_succ_of_le HK5.out.le, (Below.refl _ _).alloc (Nat.le_refl _) _⟩
                              rw [hW5]
                              clear q1 q2 z0 z1 hW5 zf
                              go_wp2_with (at_builtin; go_must (refine push_at rfl _ _ 22 rfl Tryd.underlying22 w.heap.size _ rs' rfl (HR5.out _).1 _ _ lo hi' rfl (cells2 rfl lo hi').1 (cells2 rfl lo hi').2 hrl (HR5.out _).2.1 ?_; intro v' w' hO hg hb hat; have HK6 : Hid (US w w.heap.size W0.heap.size (.slice (some ⟨g3, 0, none⟩) i c3) (.slice A9 out.length c9) left out (ya, yb) v' (rs' ++ [(lo, hi')]) w') := HK5.out.push (HR5.out _).2.2 hO hg hb hat; obtain ⟨z0, z1, _⟩ := HK6.out.cells; have hq := left_cell HK6.out.l hkl'; rw [HK.out.2.2] at hq; obtain ⟨q3, q4⟩ := hq; simp only at z0 z1 q3 q4; clear hO hg hb hat q1' q2'))
                              go_quiet (fail)
                              go_wp2
                              exact ⟨⟨_, (ya, yb), g, rs' ++ [(lo, hi')], k + 1, rfl, rfl, by go_num, by omega, HK6.out.drewN _, HN2.out⟩, by simp [intOf]; omega⟩
                          · have hnear : lo ≤ yb + 1 := by omega
                            have hd1 : decide (yb + 1 < lo) = false := by simpa using hfar
                            by_cases hgr : yb < hi'
                            · as_aux_lemma =>
                                have HN2 : Hid (Ov left (xa, xb) (ya, hi') true rs' (k + 1)) := by
                                  have := ov_grow HU.out.1.2.1 HK.out.2.1 hkl' (by rw [HK.out.2.2]; exact hnear) (by rw [HK.out.2.2]; exact hgr)
                                  rwa [HK.out.2.2] at this
                                go_wp2
                                go_quiet (fail)
                                go_wp2
                                go_quiet (fail)
                                go_wp2
                                exact ⟨⟨_, (ya, hi'), true, rs', k + 1, rfl, rfl, by go_num, by omega, (HK.out.1.drewN _).grow hi', HN2.out⟩, by simp [intOf]; omega⟩
                            · as_aux_lemma =>
                                have hd2 : decide (yb < hi') = false := by simpa using hgr
                                have HN2 : Hid (Ov left (xa, xb) (ya, yb) g rs' (k + 1)) := ov_in HK.out.2.1 hkl' (by rw [HK.out.2.2]; exact hnear) (by rw [HK.out.2.2]; show hi' ≤ yb; omega)
                                go_wp2
                                go_quiet (fail)
                                go_wp2
                                go_quiet (fail)
                                go_wp2
                                exact ⟨⟨_, (ya, yb), g, rs', k + 1, rfl, rfl, by go_num, by omega, HK.out.1.drewN _, HN2.out⟩, by simp [intOf]; omega⟩
                        · as_aux_lemma =>
                            have eki : i = k := by omega
                            subst eki
                            obtain ⟨hUS, hOv⟩ := HJ.out
                            have hc1 := hUS.cells.2.1
                            have HE : Hid (US w w.heap.size W0.heap.size (.slice (some ⟨g3, 0, none⟩) i c3) (.slice A9 out.length c9) left out y va rs' wr ∧ Growing left y ∧ y.1 = xl ∧ rs'.length ≤ i ∧ (g = false → rs' = left.filter (fun z => decide (y.2 + 1 < z.1)) ∧ ∀ z ∈ left, z.1 ≤ y.2 + 1 → z.2 ≤ y.2)) := by
                              rw [← HNL.out] at hOv
                              refine ⟨hUS, hOv.1, hOv.2.1.trans HX1.out.1, by rw [← HNL.out]; exact hOv.2.2.1, fun e => ?_⟩
                              subst e
                              exact ov_end hOv
                            have HL : Hid (leftOver (xAt W0.heap.size wr) g < leftOver (0, xb) true) := by
                              have h1 : xAt W0.heap.size wr = (0, y.2) := by simp [xAt, hc1, intOf]
                              have h2 := ov_less hOv
                              rw [h1]
                              exact h2
                            clear hUS hOv hc1 HJ
                            go_wp2
                            exact ⟨⟨va, y, g, rs', rfl, rfl, HE.out⟩, by rw [HX1.out.2]; exact HL.out⟩
end Go.Proofs
