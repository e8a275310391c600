/-
  Of: the set of some ranges, in any order.
-/
import Derived.RangeFuncNested
import Derived.RangeFuncBound
import Derived.RangeFuncCalls
import Derived.RangeFuncLeaves
import Derived.Shelf.Abstract
import Derived.Shelf.RegionOpen
import Derived.WalkKit
import Derived.WalkSpells
import Derived.WalkLawsBesides
import Derived.OwnWalkIn
import Derived.TacticsInMore
import Derived.LoopNIn
import Derived.LoopIn
import Derived.BigQuiet
import Derived.RegionIn
import Derived.Deep.QuietTactic
import Derived.Deep.RegionWith
import Derived.Lib.OthersKept
import Derived.Maps.AppendAt
import Derived.Lib.SmallJoins
import Derived.Test.YtmgkolelcflcbaaDoorVg
namespace Go.Proofs
open Go.RowKit Go.Shelf

set_option maxRecDepth 100000
attribute [local go_sem] Oper.semAt_some
/-! a function that leaves with several marks -/
def mk (D : Nat) : Deferred := { target := .collected D, args := #[] }
theorem leaves_marks {F : Fence} {n : Nat} {P : Program} {fn : Func} {tmps : Array Value} {R : Ending → World → Prop} (Φ : World → Prop) (base : Nat)
    (hΦ : ∀ W D o o', Φ W → base ≤ D → W.heap[D]? = some o → o.isCells = false → Φ (W.putObj D o')) (hend : ∀ W, Φ W → LeavesIn F n P fn tmps R [] .returning W) :
    ∀ (Ds : List Nat) (W : World), Ds.Nodup → (∀ D ∈ Ds, base ≤ D ∧ W.heap[D]? = some (.deferred (some []))) → Φ W → LeavesInM F n P fn tmps R (Ds.map mk) .returning W := by
  intro Ds
  induction Ds with
  | nil => intro W _ _ h; exact hend W h
  | cons D Ds ih =>
    intro W hnd hm h
    have hD := hm D (by simp)
    rw [List.nodup_cons] at hnd
    refine ⟨by simp, .inl ⟨D, _, rfl, run_takeDeferred hD.2, ih _ hnd.2 (fun E hE => ?_) (hΦ W D _ _ h hD.1 hD.2 rfl)⟩⟩
    have hE2 := hm E (by simp [hE])
    exact ⟨hE2.1, (World.putObj_heap_other (fun e => hnd.1 (by rw [e] at hE; exact hE))).trans hE2.2⟩
/-! what the clipped ranges are -/
def clipAll (l : List (Int × Int)) : List (Int × Int) := l.flatMap fun x => clips x.1 x.2
theorem clipAll_take {l : List (Int × Int)} {k : Nat} (hk : k < l.length) : clipAll (l.take (k + 1)) = clipAll (l.take k) ++ clips (rg l k).1 (rg l k).2 := by
  rw [take_rg hk]; simp [clipAll]
theorem clips_len (a b : Int) : (clips a b).length ≤ 3 := clipsN_len a b 3
theorem clipAll_len (l : List (Int × Int)) : (clipAll l).length ≤ 3 * l.length := by
  induction l with
  | nil => simp [clipAll]
  | cons x l ih =>
    have := clips_len x.1 x.2
    simp only [clipAll, List.flatMap_cons, List.length_append, List.length_cons] at ih ⊢
    omega
def isU (u : Int) : Prop := (0 ≤ u ∧ u ≤ 55295) ∨ (57344 ≤ u ∧ u ≤ 1114111) ∨ (1114240 ≤ u ∧ u ≤ 1114367)
theorem clips_mem {a b : Int} {x : Int × Int} : x ∈ clips a b ↔ ∃ k, k < 3 ∧ x = pc a b k ∧ (pc a b k).1 ≤ (pc a b k).2 := by
  have h : ∀ n, x ∈ clipsN a b n ↔ ∃ k, k < n ∧ x = pc a b k ∧ (pc a b k).1 ≤ (pc a b k).2 := by
    intro n
    induction n with
    | zero => simp [clipsN]
    | succ n ih =>
      rw [clipsN, List.mem_append, ih]
      constructor
      · rintro (⟨k, hk, h⟩ | h)
        · exact ⟨k, by omega, h⟩
        · split at h
          · rename_i hp
            simp at h; exact ⟨n, by omega, h, hp⟩
          · simp at h
      · rintro ⟨k, hk, h, hp⟩
        by_cases e : k = n
        · subst e; right; rw [if_pos hp]; simp [h]
        · exact .inl ⟨k, by omega, h, hp⟩
  exact h 3
theorem clips_whole {a b : Int} {x : Int × Int} (h : x ∈ clips a b) : Whole x := by
  obtain ⟨k, hk, rfl, hp⟩ := clips_mem.1 h
  have h3 : k = 0 ∨ k = 1 ∨ k = 2 := by omega
  rcases h3 with rfl | rfl | rfl <;> simp only [pc, blkLo, blkHi, Whole] at hp ⊢ <;> omega
theorem clips_has (a b u : Int) : hasU (clips a b) u ↔ isU u ∧ a ≤ u ∧ u ≤ b := by
  constructor
  · rintro ⟨x, hx, h1, h2⟩
    obtain ⟨k, hk, rfl, hp⟩ := clips_mem.1 hx
    have h3 : k = 0 ∨ k = 1 ∨ k = 2 := by omega
    rcases h3 with rfl | rfl | rfl <;> simp only [pc, blkLo, blkHi, isU] at * <;> omega
  · rintro ⟨hu | hu | hu, h1, h2⟩
    · exact ⟨pc a b 0, clips_mem.2 ⟨0, by omega, rfl, by simp only [pc, blkLo, blkHi]; omega⟩, by simp only [pc, blkLo, blkHi]; omega, by simp only [pc, blkLo, blkHi]; omega⟩
    · exact ⟨pc a b 1, clips_mem.2 ⟨1, by omega, rfl, by simp only [pc, blkLo, blkHi]; omega⟩, by simp only [pc, blkLo, blkHi]; omega, by simp only [pc, blkLo, blkHi]; omega⟩
    · exact ⟨pc a b 2, clips_mem.2 ⟨2, by omega, rfl, by simp only [pc, blkLo, blkHi]; omega⟩, by simp only [pc, blkLo, blkHi]; omega, by simp only [pc, blkLo, blkHi]; omega⟩
theorem clipAll_has (l : List (Int × Int)) (u : Int) : hasU (clipAll l) u ↔ isU u ∧ hasU l u := by
  constructor
  · rintro ⟨x, hx, h⟩
    simp only [clipAll, List.mem_flatMap] at hx
    obtain ⟨y, hy, hx⟩ := hx
    have := (clips_has y.1 y.2 u).1 ⟨x, hx, h⟩
    exact ⟨this.1, y, hy, this.2⟩
  · rintro ⟨hu, y, hy, h⟩
    obtain ⟨x, hx, h'⟩ := (clips_has y.1 y.2 u).2 ⟨hu, h⟩
    exact ⟨x, by simp only [clipAll, List.mem_flatMap]; exact ⟨y, hy, hx⟩, h'⟩
theorem clipAll_whole {l : List (Int × Int)} {x : Int × Int} (h : x ∈ clipAll l) : Whole x := by
  simp only [clipAll, List.mem_flatMap] at h
  obtain ⟨y, _, hx⟩ := h
  exact clips_whole hx
/-! the sort -/
def encR (x : Int × Int) : List Value := [.int .i64 x.1, .int .i64 x.2]
def cfR (x y : Int × Int) : Int := Lib.compareInt x.1 y.1
theorem ltR (x y : Int × Int) : ltOf cfR x y = decide (x.1 < y.1) := by
  unfold ltOf cfR Lib.compareInt
  by_cases h1 : x.1 < y.1
  · simp [h1]
  · by_cases h2 : y.1 < x.1 <;> simp [h1, h2]
theorem swoR : Go.Sort.SWO (ltOf cfR) := {
  irrefl := fun x => by rw [ltR]; simp
  trans := fun x y z h1 h2 => by rw [ltR] at *; simp at *; omega
  ntrans := fun x y z h1 h2 => by rw [ltR] at *; simp at *; omega }
set_option maxHeartbeats 1000000 in
theorem closure44 (x y : Int × Int) (W : World) : Calls Tryd.prog 44 #[.agg #[.int .i64 x.1, .int .i64 x.2], .agg #[.int .i64 y.1, .int .i64 y.2]] W fun e w' => e = .returned (.int .i64 (cfR x y)) ∧ ∃ q os', w' = Go.Sort.grow (W.drewN q) os' := by
  have hcon := fun W' => Tryd.cmp_Compare_int x.1 y.1 W'
  unfold cfR
  generalize Lib.compareInt x.1 y.1 = r at hcon ⊢
  go_enter Tryd.func44, Tryd.ntmps44
  go_wp2_with (go_at_call 45; refine (hcon _).mono ?_; rintro e w' ⟨rfl, rfl⟩)
  go_ret
  exact ⟨rfl, ((Grown.refl W).alloc _).alloc _⟩
theorem own_holds {w : World} {base g n cap : Nat} {l : List (Int × Int)} (h : OwnR w base (.slice (some ⟨g, 0, none⟩) n cap) l) : Go.Sort.HoldsK encR 2 w g 0 l.toArray := by
  intro t ht
  have ht' : t < l.toArray.size * 2 := by simpa using ht
  rw [Go.Sort.get_flatK _ _ _ t ht']
  have hj : t / 2 < l.length := by simp at ht'; omega
  have hr := OwnR.reads h (t / 2) hj
  have hrg : rg l (t / 2) = l.toArray[t / 2]! := by rw [rg_lt hj]; simp [hj]
  rw [hrg, Nat.zero_add] at hr
  refine ⟨?_, ?_⟩
  · rw [Nat.zero_add]
    have h2 : t % 2 = 0 ∨ t % 2 = 1 := by omega
    rcases h2 with h2 | h2
    · rw [h2]
      have e : t / 2 * 2 = t := by omega
      rw [e] at hr
      exact hr.1
    · rw [h2]
      have e : t / 2 * 2 + 1 = t := by omega
      rw [e] at hr
      exact hr.2
  · rcases h.2 with ⟨h2, _⟩ | ⟨g', cap', cur, hv, hg, hh, _⟩
    · cases h2
    · cases hv
      simp [World.frozen?, hh]
theorem holds_reads {w : World} {g : Nat} {d : Array (Int × Int)} (h : Go.Sort.HoldsK encR 2 w g 0 d) : Reads w g 0 d.toList := fun j hj => by
  have hj' : j < d.size := by simpa using hj
  have h0 := (h.cell (i := j) (c := 0) hj' (by omega)).1
  have h1 := (h.cell (i := j) (c := 1) hj' (by omega)).1
  have hrg : rg d.toList j = d[j]! := by rw [rg_lt hj]; simp [hj']
  rw [hrg]
  exact ⟨h0, h1⟩
theorem grownBy_sortK {w : World} {g n : Nat} {os : Array Obj} (d : Array (Int × Int)) : w.grownBy (sortWorldK encR 2 w g 0 n d os) (some g) := by
  unfold sortWorldK Go.Sort.putRowK
  refine ⟨rfl, rfl, rfl, by simp, fun k hk hne => ?_⟩
  rw [Go.Sort.heap_grow_old _ _ (by simpa using hk)]
  have : g ≠ k := fun e => hne (by rw [e])
  simp [Go.Sort.putRow, Go.Sort.mapBlock, Sort.ahead, Array.getElem?_modify, this]
theorem sort_any (v : Value) (m : List (Int × Int)) (base : Nat) (w : World) (h : OwnR w base v m) (hb : base ≤ w.heap.size) (hn : m.length < 8796093022208) :
    Calls Tryd.prog 43 #[v, .func (.func 44) #[] #[]] w fun e w' => e = .returned (.tuple #[]) ∧ ∃ m', m'.Perm m ∧ Asc m' ∧ Rs w' v m' ∧ w.grownBy w' v.ownBlock := by
  rcases h.2 with ⟨rfl, h0⟩ | ⟨g, cap, cur, rfl, hbg, hh, hc, _⟩
  · have : m = [] := List.eq_nil_of_length_eq_zero h0
    subst this
    refine (AnyF.slices_SortFunc_none Tryd.sortR none 0 _ w).mono ?_
    rintro e w' ⟨rfl, rfl⟩
    exact ⟨rfl, [], List.Perm.refl _, List.Pairwise.nil, ⟨none, 0, rfl, Nat.le_refl _, .inl rfl⟩, rfl, rfl, rfl, Nat.le_refl _, fun _ _ _ => rfl⟩
  · have eg : ∀ args w, (callFunc 44 args).run Tryd.prog w = .ok (.enter 44 args) w := enters_of Tryd.func44 (by kernel_rfl) rfl
    have hg : g < w.heap.size := (Array.getElem?_eq_some_iff.1 hh).1
    have hH := own_holds h
    have hcon := AnyQ.slices_SortFunc Tryd.sortR 2 Tryd.isAgg38 Tryd.sizeOf38 encR (fun _ => rfl) (fun x v hv => by simp [encR] at hv; rcases hv with rfl | rfl <;> rfl) cfR swoR 44 #[] g 0 cap m.toArray w eg (fun _ _ _ _ x y => closure44 x y _) hH hg (by simp; omega)
    change Calls Tryd.prog 43 _ _ _ at hcon
    refine hcon.mono ?_
    rintro e w' ⟨rfl, d', n, os, hp, hs, rfl⟩
    have hsz : d'.size = m.length := by have := hp.1; simpa using this
    refine ⟨rfl, d'.toList, ?_, ?_, ?_, grownBy_sortK d'⟩
    · have h2 := hp.2.2
      have e1 : (d'.extract 0 m.toArray.size).toList = d'.toList := by simp [← hsz]
      have e2 : (m.toArray.extract 0 m.toArray.size).toList = m := by simp
      rw [e1, e2] at h2
      exact h2
    · unfold Asc
      rw [List.pairwise_iff_getElem]
      intro i j hi hj hij
      have := hs i j (Nat.zero_le _) hij (by simp at hj ⊢; omega)
      rw [ltR] at this
      simp at hi hj
      simp [hi, hj] at this
      simpa using this
    · refine ⟨some ⟨g, 0, none⟩, cap, by simp [hsz], by simpa [hsz] using hc, .inr ⟨g, 0, rfl, holds_reads ?_⟩⟩
      exact holdsK_sortWorldK encR 2 w g 0 n m.toArray d' os hg hH (by simpa using hsz)
end Go.Proofs
