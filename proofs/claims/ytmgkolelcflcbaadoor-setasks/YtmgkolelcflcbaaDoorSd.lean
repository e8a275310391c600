/-
  A range over an iterator that ranges over another one itself.
-/
import Derived.RangeFuncNested
import Derived.RangeFuncBound
import Derived.RangeFuncCalls
import Derived.RangeFuncLeaves
import Derived.Shelf.Abstract
import Derived.Shelf.RegionOpen
import Derived.WalkKit
import Derived.WalkSpells
import Derived.WalkLawsBesides
import Derived.OwnWalkIn
import Derived.TacticsInMore
import Derived.LoopNIn
import Derived.LoopIn
import Derived.BigQuiet
import Derived.RegionIn
import Derived.Deep.QuietTactic
import Derived.Deep.RegionWith
import Derived.Lib.OthersKept
import Derived.Maps.AppendAt
import Derived.Lib.SmallJoins
import Derived.Test.YtmgkolelcflcbaaDoorSc
namespace Go.Proofs
open Go.RowKit Go.Shelf

set_option maxRecDepth 100000
attribute [local go_sem] Oper.semAt_some

/-- what a round keeps for an iterator that lays boxes and loops of its own -/
def Kt (M : Nat) (X Y : World) : Prop := KeepsFrom M X Y ∧ KeepsWalks X Y ∧ ∀ (k : Nat) (cs : Array Value) (t : TypeId), t = 67 ∨ t = 38 ∨ t = 29 → X.heap[k]? = some (.cells cs t (0, 0)) → Y.heap[k]? = some (.cells cs t (0, 0))
theorem Kt.trans {M : Nat} {X Y Z : World} (h : Kt M X Y) (k : Kt M Y Z) : Kt M X Z :=
  ⟨⟨Nat.le_trans h.1.size k.1.size, fun j o hj ho hc => k.1.same j o hj (h.1.same j o hj ho hc) hc⟩, h.2.1.trans k.2.1, fun j cs t ht hj => k.2.2 j cs t ht (h.2.2 j cs t ht hj)⟩
theorem Kt.put {M l : Nat} {W : World} {r : Loop} (o' : Obj) (h : W.heap[l]? = some (.loop r)) (hl : l < M) : Kt M W (W.putObj l o') := by
  refine ⟨⟨by simp, fun k o hk ho _ => (World.putObj_heap_other (by omega)).trans ho⟩, walksK_b (w := { W with heap := #[] }) W l _ o' (by simp) h rfl rfl, fun k cs t _ hk => ?_⟩
  by_cases e : k = l
  · subst e; rw [h] at hk; cases hk
  · exact (World.putObj_heap_other e).trans hk
/-- the contract of such an iterator -/
def SeqOver (n g : Nat) (lb : Array Value) (S Sp : List Int → Prop) (N : Nat) (w : World) : Prop :=
  ∀ (l : Nat) (J Jx : List Int → World → Prop) (W : World), Below w.heap.size w W → OwnFrom W.heap.size J → OwnFrom W.heap.size Jx →
    (∀ pre x X, J pre X → pre.length < N → YieldAt Fence.wide (n - 1) Tryd.prog l (encU x) X fun e Y => (e = .returned (.bool true) ∧ J (pre ++ [x]) Y ∧ Kt W.heap.size X Y) ∨ (e = .returned (.bool false) ∧ Jx (pre ++ [x]) Y ∧ KeepsFrom W.heap.size X Y)) →
    J [] W → CallsIn Fence.wide n Tryd.prog g (#[.func (.yield l) #[] #[]] ++ lb) W fun e Y => (∃ v, e = .returned v) ∧ ((∃ xs, S xs ∧ J xs Y) ∨ (∃ pre, Sp pre ∧ Jx pre Y))
theorem wpIn_over {n : Nat} {g : Operand} {ps : Array Tmp} {assign body : Code} {Q : Exit → Act → World → Prop} {a : Act} {w : World} (h1 : 1 ≤ n) {gf : Nat} {lb : Array Value}
    (hg : a.eval g = .func (.func gf) #[] lb) (eg : ∀ args w, (callFunc gf args).run Tryd.prog w = .ok (.enter gf args) w) {S Sp : List Int → Prop} {N : Nat} (hseq : SeqOver (n - 1) gf lb S Sp N w) (hps : ps.size = 1)
    (I : List Int → World → Prop) (Ix : Code → List Int → World → Prop) (hI : OwnFrom w.heap.size I) (hIx : ∀ c, OwnFrom w.heap.size (Ix c)) (h0 : I [] w) (a₁ : Int → Act)
    (hassign : ∀ (l : Nat) (x : Int) (W : World) (K : Act → World → Prop), K (a₁ x) W → assign.wpIn (Fence.wide.inRound l) (n - 1 - 1) Tryd.prog (Exit.then K (fun _ _ _ => False)) { tmps := (ps.zip (encU x)).foldl (fun t (p, v) => t.setIfInBounds p v) a.tmps, defers := [] } W)
    (hbody : ∀ (l : Nat) (pre : List Int) (x : Int) (W : World), I pre W → pre.length < N → body.wpIn (Fence.wide.inRound l) (n - 1 - 1) Tryd.prog (ownPostG w.heap.size (Kt (w.heap.size + 2)) I Ix (pre ++ [x]) W) (a₁ x) W)
    (hdone : ∀ (D : Nat) (xs : List Int) (W : World), w.heap.size ≤ D → S xs → I xs W → W.heap[D]? = some (.deferred (some [])) → Q .normal { a with defers := { target := .collected D, args := #[] } :: a.defers } W)
    (hstop : ∀ (D : Nat) (c : Code) (pre : List Int) (W : World), w.heap.size ≤ D → Sp pre → Ix c pre W → W.heap[D]? = some (.deferred (some [])) → c.wpIn Fence.wide n Tryd.prog Q { a with defers := { target := .collected D, args := #[] } :: a.defers } W) :
    (Code.rangeFunc g ps assign body).wpIn Fence.wide n Tryd.prog Q a w := by
  refine wpIn_rangeFunc ?_
  intro fn hfn
  obtain ⟨h, hh⟩ : ∃ h, h = w.heap.size := ⟨_, rfl⟩
  rw [← hh] at hI hIx hbody hdone hstop
  -- the record, by its state and what is pending
  let rc : LoopState → Option Code → Loop := fun st pe => { state := st, pending := pe, fn, tmps := a.tmps, params := ps, assign, body, defers := h }
  let V : World := (w.alloc (.deferred (some []))).alloc (.loop (rc .ready none))
  have hV : V.heap.size = h + 2 := by simp [V, hh]
  have hV1 : V.heap[h + 1]? = some (.loop (rc .ready none)) := by
    have e := World.alloc_heap_new (w.alloc (.deferred (some []))) (.loop (rc .ready none))
    rw [World.size_alloc, ← hh] at e; exact e
  have hV0 : V.heap[h]? = some (.deferred (some [])) := by
    have e := World.alloc_heap_new w (.deferred (some []))
    rw [← hh] at e
    exact (Below.heap_alloc _ _ _ (by simp [hh])).trans e
  have far : ∀ {X Y : World} {row : Option Nat} {k : Nat} {o : Obj}, X.grownBy Y row → (∀ r, row = some r → V.heap.size ≤ r ∧ ∃ o : Obj, X.heap[r]? = some o ∧ o.isCells = false) → k < h + 2 → X.heap[k]? = some o → Y.heap[k]? = some o :=
    fun {X Y row k o} hgr hr hk ho => (hgr.block k (Array.getElem?_eq_some_iff.1 ho).1 (fun e => by have := (hr k e.symm).1; omega)).trans ho
  have low : ∀ {X : World} {row : Option Nat}, (∀ r, row = some r → V.heap.size ≤ r ∧ ∃ o : Obj, X.heap[r]? = some o ∧ o.isCells = false) → (∀ r, row = some r → h ≤ r ∧ ∃ o : Obj, X.heap[r]? = some o ∧ o.isCells = false) :=
    fun hr r e => ⟨by have := (hr r e).1; omega, (hr r e).2⟩
  refine ⟨h + 1, [{ target := .collected h, args := #[] }], V, { target := .fn (.func gf) lb, args := #[.func (.yield (h + 1)) #[] #[]] }, V, gf, #[.func (.yield (h + 1)) #[] #[]] ++ lb, V, ?_, ?_, ?_, ?_, fun _ => h1, ?_⟩
  · have e := run_enterLoop_outer (P := Tryd.prog) (w := w) fn a.tmps ps assign body
    rw [← hh] at e
    exact e
  · simp only [resolve, hg]
    simp [go_sem]
  · intro f' _; trivial
  · simp [invoke, go_sem, eg]
  · refine (hseq (h + 1) (fun pre W => I pre W ∧ W.heap[h + 1]? = some (.loop (rc .ready none)) ∧ W.heap[h]? = some (.deferred (some [])))
      (fun pre W => ∃ c, Ix c pre W ∧ W.heap[h + 1]? = some (.loop (rc .done (some c))) ∧ W.heap[h]? = some (.deferred (some []))) V
      (((Below.refl _ w).alloc (Nat.le_refl _) _).alloc (by simp) _)
      (fun s X Y row hs hgr hr => ⟨hI s X Y row hs.1 hgr (low hr), far hgr hr (by omega) hs.2.1, far hgr hr (by omega) hs.2.2⟩)
      (fun s X Y row hs hgr hr => by
        obtain ⟨c, hc, e1, e2⟩ := hs
        exact ⟨c, hIx c s X Y row hc hgr (low hr), far hgr hr (by omega) e1, far hgr hr (by omega) e2⟩) ?_ ⟨hI.alloc _ (hI.alloc _ h0), hV1, hV0⟩).mono ?_
    · rintro pre x X ⟨hi, e1, e0⟩ hlen
      have hy := run_yield (P := Tryd.prog) (args := encU x) e1 (by simp [rc, hps])
      refine ⟨fn, _, assign, body, hy, roundIn_of_wpIn hfn (hassign _ x X _ ?_)⟩
      clear hy
      have hlt : h + 1 < X.heap.size := (Array.getElem?_eq_some_iff.1 e1).1
      refine ⟨_, run_beginRound e1 rfl, ?_⟩
      let X2 : World := X.putObj (h + 1) (.loop { rc .ready none with state := .busy })
      have f1 : X2.heap[h + 1]? = some (.loop { rc .ready none with state := .busy }) := World.putObj_heap_same hlt
      have f0 : X2.heap[h]? = some (.deferred (some [])) := (World.putObj_heap_other (by omega)).trans e0
      have fk : Kt (h + 2) X X2 := Kt.put _ e1 (by omega)
      -- how a round ends
      have fin : ∀ (jump : Option Code) (Y : World), KeepsFrom h X2 Y → ∃ Z, (Instr.endRound (h + 1) jump).run Tryd.prog Y = .ok (.bool jump.isNone) Z ∧ Z = Y.putObj (h + 1) (.loop (rc (if jump.isNone then .ready else .done) jump)) ∧
          Y.heap[h + 1]? = some (.loop { rc .ready none with state := .busy }) ∧ Z.heap[h + 1]? = some (.loop (rc (if jump.isNone then .ready else .done) jump)) ∧ Z.heap[h]? = some (.deferred (some [])) := fun jump Y hY => by
        have y1 := hY.same _ _ (by omega) f1 rfl
        have y0 := hY.same _ _ (Nat.le_refl _) f0 rfl
        exact ⟨_, run_endRound jump y1, rfl, y1, World.putObj_heap_same (Array.getElem?_eq_some_iff.1 y1).1, (World.putObj_heap_other (by omega)).trans y0⟩
      have kf : ∀ {Y : World} {o' : Obj}, KeepsFrom h X2 Y → Y.heap[h + 1]? = some (.loop { rc .ready none with state := .busy }) → KeepsFrom V.heap.size X (Y.putObj (h + 1) o') := fun {Y o'} k y1 => by
        rw [hV]
        have q := (Kt.put (M := h + 2) o' y1 (by omega)).1
        exact ⟨Nat.le_trans fk.1.size (Nat.le_trans k.size q.size), fun j o hj ho hc => q.same j o hj (k.same j o (by omega) (fk.1.same j o hj ho hc) hc) hc⟩
      refine wpIn_mono (hbody _ pre x X2 (hI.putObj _ hi (by omega) e1 rfl) hlen) ?_
      rintro e a3 Y hp
      cases e with
      | normal =>
        obtain ⟨k1, k2, k3⟩ := hp
        obtain ⟨Z, hr, rfl, y1, z1, z0⟩ := fin none Y k1
        exact ⟨_, _, hr, .inl ⟨rfl, ⟨hI.putObj _ k3 (by omega) y1 rfl, z1, z0⟩, by rw [hV]; exact (fk.trans k2).trans (Kt.put _ y1 (by omega))⟩⟩
      | ret =>
        obtain ⟨k1, k3⟩ := hp
        obtain ⟨Z, hr, rfl, y1, z1, z0⟩ := fin (some .ret) Y k1
        exact ⟨_, _, hr, .inr ⟨rfl, ⟨.ret, (hIx _).putObj _ k3 (by omega) y1 rfl, z1, z0⟩, kf k1 y1⟩⟩
      | exit id =>
        obtain ⟨k1, k3⟩ := hp
        obtain ⟨Z, hr, rfl, y1, z1, z0⟩ := fin (some (.exit id)) Y k1
        exact ⟨_, _, hr, .inr ⟨rfl, ⟨.exit id, (hIx _).putObj _ k3 (by omega) y1 rfl, z1, z0⟩, kf k1 y1⟩⟩
      | goto t =>
        obtain ⟨k1, k3⟩ := hp
        obtain ⟨Z, hr, rfl, y1, z1, z0⟩ := fin (some (.goto t)) Y k1
        exact ⟨_, _, hr, .inr ⟨rfl, ⟨.goto t, (hIx _).putObj _ k3 (by omega) y1 rfl, z1, z0⟩, kf k1 y1⟩⟩
      | panic ch => exact hp.elim
      | outgrown => exact hp.elim
    · rintro e Y ⟨⟨v, rfl⟩, (⟨xs, hS, hi, e1, e0⟩ | ⟨pre, hSp, c, hi, e1, e0⟩)⟩
      · exact ⟨none, _, run_endLoop e1 (by simp [rc]), hdone _ xs _ (Nat.le_refl _) hS (hI.putObj _ hi (by omega) e1 rfl) ((World.putObj_heap_other (by omega)).trans e0)⟩
      · exact ⟨some c, _, run_endLoop e1 (by simp [rc]), hstop _ c pre _ (Nat.le_refl _) hSp ((hIx c).putObj _ hi (by omega) e1 rfl) ((World.putObj_heap_other (by omega)).trans e0)⟩
theorem yield_wide {m m' l l1 : Nat} {args : Array Value} {W : World} {R : Ending → World → Prop} (h : YieldAt Fence.wide m Tryd.prog l args W R) : YieldAt (Fence.wide.inRound l1) m' Tryd.prog l args W R := by
  obtain ⟨fn, tmps, assign, body, hy, hR⟩ := h
  exact ⟨fn, tmps, assign, body, hy, hR.1, fun c cs _ => hR.2 c cs (room_wide _)⟩
end Go.Proofs
