/-
  Several texts in one (B3 B0 B4 B5 B6 B7 Q1).
-/
import Derived.RangeFuncNested
import Derived.RangeFuncBound
import Derived.RangeFuncCalls
import Derived.RangeFuncLeaves
import Derived.Shelf.Abstract
import Derived.Shelf.RegionOpen
import Derived.WalkKit
import Derived.WalkSpells
import Derived.WalkLawsBesides
import Derived.OwnWalkIn
import Derived.TacticsInMore
import Derived.LoopNIn
import Derived.LoopIn
import Derived.BigQuiet
import Derived.RegionIn
import Derived.Deep.QuietTactic
import Derived.Deep.RegionWith
import Derived.Lib.OthersKept
import Derived.Maps.AppendAt
import Derived.Lib.SmallJoins
import Derived.Shelf.SlSortCmp.QuietGrown
import Derived.RangeFuncWrites
import Derived.RangeFuncBox
import Derived.Maps.OwnIn
import Derived.Deep.Upon
import Derived.Deep.AppendLies
import Derived.Test.YtknaoahokopplaaGreatDoorMgac
import Derived.Test.YtknaoahokopplaaGreatDoorGic
import Derived.Test.YtknaoahokopplaaGreatDoorGrc
import Derived.Deep.DeepCutAuto
import Derived.Laws.EntriesVeiled
import Derived.ArgAppend
namespace Go.Proofs
open Go.RowKit Go.Shelf

set_option maxRecDepth 100000
attribute [local go_sem] Oper.semAt_some
attribute [local go_sem ↓] Go.wp_at_zero Go.wp_at_succ
/-- what lies where in keep's last region -/
structure KJ (w0 : World) (base hb : Nat) (wv : Value) (n : Nat) (ws : List Value) (lv : Value) (l : List Tok) (p : Nat → Bool) (vs : Nat → Value) (W : World) : Prop where
  v0 : p 0 = true → vs 0 = .pointer (some ⟨hb, 0, none⟩)
  v1 : p 1 = true → vs 1 = .pointer (some ⟨hb, 0, none⟩)
  v2 : p 2 = true → vs 2 = .pointer (some ⟨hb, 0, none⟩)
  v3 : p 3 = true → vs 3 = .pointer (some ⟨hb, 1, none⟩)
  v4 : p 4 = true → vs 4 = wv
  v5 : p 5 = true → vs 5 = lv
  v9 : p 9 = true → vs 9 = .pointer (some ⟨hb, 0, none⟩)
  v10 : p 10 = true → vs 10 = .pointer (some ⟨hb, 1, none⟩)
  x0 : p 6 = false → W = w0.drew
  x1 : p 6 = true → p 7 = false → OwnT W w0.heap.size (vs 6) l ∧ Below w0.heap.size w0 W
  x2 : p 7 = true → p 8 = false → OwnT W w0.heap.size (vs 6) l ∧ Below w0.heap.size w0 W ∧ ∃ b, vs 7 = .slice (some ⟨b, 0, none⟩) 1 1 ∧ W.heap[b]? = some (.cells #[vs 6] 47 (0, 0)) ∧ w0.heap.size ≤ b
  x3 : p 8 = true → ∃ g c W3, vs 8 = .slice (some ⟨g, 0, none⟩) (n + 1) c ∧ OwnT W3 w0.heap.size (vs 6) l ∧ W3.ownsRow base 47 1 (.slice (some ⟨g, 0, none⟩) (n + 1) c) (n + 1) (ws ++ [vs 6]) ∧ w0.grownBy W3 wv.ownBlock ∧ (wv.ownBlock = some g ∨ w0.heap.size ≤ g) ∧ (p 11 = false → W = W3) ∧ (p 11 = true → W = W3.setCell ⟨hb, 1, none⟩ (.slice (some ⟨g, 0, none⟩) (n + 1) c))
  o4 : p 8 = true → p 4 = true
  o6 : p 7 = true → p 6 = true
  o7 : p 8 = true → p 7 = true
  o8 : p 11 = true → p 8 = true
  o11 : p 11 = true → p 10 = true
section
variable {w0 : World} {base hb : Nat} {wv : Value} {n : Nat} {ws : List Value} {lv : Value} {l : List Tok} {p : Nat → Bool} {vs : Nat → Value} {W : World}
theorem KJ.start : KJ w0 base hb wv n ws lv l (fun _ => false) (fun _ => undef) w0.drew :=
  ⟨by simp, by simp, by simp, by simp, by simp, by simp, by simp, by simp, fun _ => rfl, by simp, by simp, by simp, by simp, by simp, by simp, by simp, by simp⟩
theorem bool_not {a b : Bool} (h : a = true → b = true) (hb : b = false) : a = false := by
  cases a with
  | false => rfl
  | true => rw [h rfl] at hb; cases hb
theorem KJ.pre (h : KJ w0 base hb wv n ws lv l p vs W) (h8 : p 8 = false) : Below w0.heap.size w0 W := by
  cases h6 : p 6 with
  | false => rw [h.x0 h6]; exact (Below.refl _ w0).drew
  | true =>
    cases h7 : p 7 with
    | false => exact (h.x1 h6 h7).2
    | true => exact (h.x2 h7 h8).2.1
theorem KJ.put0 (h : KJ w0 base hb wv n ws lv l p vs W) : KJ w0 base hb wv n ws lv l (fun j => p j || j == 0) (fun j => if j = 0 then .pointer (some ⟨hb, 0, none⟩) else vs j) W :=
  ⟨fun _ => rfl, by simpa using h.v1, by simpa using h.v2, by simpa using h.v3, by simpa using h.v4, by simpa using h.v5, by simpa using h.v9, by simpa using h.v10, by simpa using h.x0, by simpa using h.x1, by simpa using h.x2, by simpa using h.x3, by simpa using h.o4, by simpa using h.o6, by simpa using h.o7, by simpa using h.o8, by simpa using h.o11⟩
theorem KJ.put1 (h : KJ w0 base hb wv n ws lv l p vs W) : KJ w0 base hb wv n ws lv l (fun j => p j || j == 1) (fun j => if j = 1 then .pointer (some ⟨hb, 0, none⟩) else vs j) W :=
  ⟨by simpa using h.v0, fun _ => rfl, by simpa using h.v2, by simpa using h.v3, by simpa using h.v4, by simpa using h.v5, by simpa using h.v9, by simpa using h.v10, by simpa using h.x0, by simpa using h.x1, by simpa using h.x2, by simpa using h.x3, by simpa using h.o4, by simpa using h.o6, by simpa using h.o7, by simpa using h.o8, by simpa using h.o11⟩
theorem KJ.put2 (h : KJ w0 base hb wv n ws lv l p vs W) : KJ w0 base hb wv n ws lv l (fun j => p j || j == 2) (fun j => if j = 2 then .pointer (some ⟨hb, 0, none⟩) else vs j) W :=
  ⟨by simpa using h.v0, by simpa using h.v1, fun _ => rfl, by simpa using h.v3, by simpa using h.v4, by simpa using h.v5, by simpa using h.v9, by simpa using h.v10, by simpa using h.x0, by simpa using h.x1, by simpa using h.x2, by simpa using h.x3, by simpa using h.o4, by simpa using h.o6, by simpa using h.o7, by simpa using h.o8, by simpa using h.o11⟩
theorem KJ.put3 (h : KJ w0 base hb wv n ws lv l p vs W) : KJ w0 base hb wv n ws lv l (fun j => p j || j == 3) (fun j => if j = 3 then .pointer (some ⟨hb, 1, none⟩) else vs j) W :=
  ⟨by simpa using h.v0, by simpa using h.v1, by simpa using h.v2, fun _ => rfl, by simpa using h.v4, by simpa using h.v5, by simpa using h.v9, by simpa using h.v10, by simpa using h.x0, by simpa using h.x1, by simpa using h.x2, by simpa using h.x3, by simpa using h.o4, by simpa using h.o6, by simpa using h.o7, by simpa using h.o8, by simpa using h.o11⟩
theorem KJ.put4 (h : KJ w0 base hb wv n ws lv l p vs W) : KJ w0 base hb wv n ws lv l (fun j => p j || j == 4) (fun j => if j = 4 then wv else vs j) W :=
  ⟨by simpa using h.v0, by simpa using h.v1, by simpa using h.v2, by simpa using h.v3, fun _ => rfl, by simpa using h.v5, by simpa using h.v9, by simpa using h.v10, by simpa using h.x0, by simpa using h.x1, by simpa using h.x2, by simpa using h.x3, fun _ => by simp, by simpa using h.o6, by simpa using h.o7, by simpa using h.o8, by simpa using h.o11⟩
theorem KJ.put5 (h : KJ w0 base hb wv n ws lv l p vs W) : KJ w0 base hb wv n ws lv l (fun j => p j || j == 5) (fun j => if j = 5 then lv else vs j) W :=
  ⟨by simpa using h.v0, by simpa using h.v1, by simpa using h.v2, by simpa using h.v3, by simpa using h.v4, fun _ => rfl, by simpa using h.v9, by simpa using h.v10, by simpa using h.x0, by simpa using h.x1, by simpa using h.x2, by simpa using h.x3, by simpa using h.o4, by simpa using h.o6, by simpa using h.o7, by simpa using h.o8, by simpa using h.o11⟩
theorem KJ.put9 (h : KJ w0 base hb wv n ws lv l p vs W) : KJ w0 base hb wv n ws lv l (fun j => p j || j == 9) (fun j => if j = 9 then .pointer (some ⟨hb, 0, none⟩) else vs j) W :=
  ⟨by simpa using h.v0, by simpa using h.v1, by simpa using h.v2, by simpa using h.v3, by simpa using h.v4, by simpa using h.v5, fun _ => rfl, by simpa using h.v10, by simpa using h.x0, by simpa using h.x1, by simpa using h.x2, by simpa using h.x3, by simpa using h.o4, by simpa using h.o6, by simpa using h.o7, by simpa using h.o8, by simpa using h.o11⟩
theorem KJ.put10 (h : KJ w0 base hb wv n ws lv l p vs W) : KJ w0 base hb wv n ws lv l (fun j => p j || j == 10) (fun j => if j = 10 then .pointer (some ⟨hb, 1, none⟩) else vs j) W :=
  ⟨by simpa using h.v0, by simpa using h.v1, by simpa using h.v2, by simpa using h.v3, by simpa using h.v4, by simpa using h.v5, by simpa using h.v9, fun _ => rfl, by simpa using h.x0, by simpa using h.x1, by simpa using h.x2, by simpa using h.x3, by simpa using h.o4, by simpa using h.o6, by simpa using h.o7, by simpa using h.o8, fun _ => by simp⟩
theorem KJ.put6 (h : KJ w0 base hb wv n ws lv l p vs W) (h6 : p 6 = false) {mv : Value} {W' : World} (ho : OwnT W' w0.heap.size mv l) (hb' : Below w0.heap.size w0 W') : KJ w0 base hb wv n ws lv l (fun j => p j || j == 6) (fun j => if j = 6 then mv else vs j) W' :=
  have h7 := bool_not h.o6 h6
  have h8 := bool_not h.o7 h7
  ⟨by simpa using h.v0, by simpa using h.v1, by simpa using h.v2, by simpa using h.v3, by simpa using h.v4, by simpa using h.v5, by simpa using h.v9, by simpa using h.v10, fun a => by simp at a, fun _ _ => ⟨by simpa using ho, hb'⟩, fun a => by simp [h7] at a, fun a => by simp [h8] at a, by simpa using h.o4, fun a => by simp, by simpa using h.o7, by simpa using h.o8, by simpa using h.o11⟩
theorem KJ.put7 (h : KJ w0 base hb wv n ws lv l p vs W) (h6 : p 6 = true) (h7 : p 7 = false) : KJ w0 base hb wv n ws lv l (fun j => p j || j == 7) (fun j => if j = 7 then .slice (some ⟨W.heap.size, 0, none⟩) 1 1 else vs j) (W.alloc (.cells #[vs 6] 47)) :=
  have h8 := bool_not h.o7 h7
  have hx := h.x1 h6 h7
  ⟨by simpa using h.v0, by simpa using h.v1, by simpa using h.v2, by simpa using h.v3, by simpa using h.v4, by simpa using h.v5, by simpa using h.v9, by simpa using h.v10, fun a => by simp [h6] at a, fun _ a => by simp at a, fun _ _ => ⟨by simpa using OwnT.alloc hx.1 _, hx.2.alloc hx.2.size _, W.heap.size, rfl, by simpa using heap_new W (.cells #[vs 6] 47), hx.2.size⟩, fun a => by simp [h8] at a, by simpa using h.o4, fun _ => by simpa using h6, fun _ => by simp, by simpa using h.o8, by simpa using h.o11⟩
theorem KJ.put8 (h : KJ w0 base hb wv n ws lv l p vs W) (h4 : p 4 = true) (h7 : p 7 = true) (h8 : p 8 = false) {g c : Nat} {W' : World} (ho : W'.ownsRow base 47 1 (.slice (some ⟨g, 0, none⟩) (n + 1) c) (n + 1) (ws ++ [vs 6])) (hg : W.grownBy W' wv.ownBlock) (hG : wv.ownBlock = some g ∨ g = W.heap.size) (hlt : ∀ b, wv.ownBlock = some b → b < w0.heap.size) : KJ w0 base hb wv n ws lv l (fun j => p j || j == 8) (fun j => if j = 8 then .slice (some ⟨g, 0, none⟩) (n + 1) c else vs j) W' := by
  have h11 := bool_not h.o8 h8
  obtain ⟨hx1, hx2, _⟩ := h.x2 h7 h8
  have hm : OwnT W' w0.heap.size (vs 6) l := own_stays hx1 fun b cur hb1 hb2 hb3 => (hg.block b (Array.getElem?_eq_some_iff.1 hb3).1 (fun e => by have := hlt b e.symm; omega)).trans hb3
  have hgr : w0.grownBy W' wv.ownBlock := ⟨hg.os.trans hx2.os, hg.tape.trans hx2.tape, hg.output.trans hx2.output, Nat.le_trans hx2.size hg.size, fun k hk hne => (hg.block k (Nat.lt_of_lt_of_le hk hx2.size) hne).trans (hx2.block k hk)⟩
  have hG' : wv.ownBlock = some g ∨ w0.heap.size ≤ g := hG.imp id fun e => by rw [e]; exact hx2.size
  exact ⟨by simpa using h.v0, by simpa using h.v1, by simpa using h.v2, by simpa using h.v3, by simpa using h.v4, by simpa using h.v5, by simpa using h.v9, by simpa using h.v10, fun a => by simp [h.o6 h7] at a, fun _ a => by simp [h7] at a, fun _ a => by simp at a, fun _ => ⟨g, c, W', rfl, by simpa using hm, by simpa using ho, hgr, hG', fun _ => rfl, fun a => by simp [h11] at a⟩, fun _ => by simpa using h4, by simpa using h.o6, fun _ => by simpa using h7, fun a => by simp, by simpa using h.o11⟩
theorem KJ.put11 (h : KJ w0 base hb wv n ws lv l p vs W) (h8 : p 8 = true) (h10 : p 10 = true) (h11 : p 11 = false) : ∃ g c, vs 8 = .slice (some ⟨g, 0, none⟩) (n + 1) c ∧ ∀ v, KJ w0 base hb wv n ws lv l (fun j => p j || j == 11) (fun j => if j = 11 then v else vs j) (W.setCell ⟨hb, 1, none⟩ (.slice (some ⟨g, 0, none⟩) (n + 1) c)) := by
  obtain ⟨g, c, W3, e8, hm, ho, hg, hG, w1, w2⟩ := h.x3 h8
  have h7 := h.o7 h8
  have h6 := h.o6 h7
  obtain rfl := w1 h11
  exact ⟨g, c, e8, fun v => ⟨by simpa using h.v0, by simpa using h.v1, by simpa using h.v2, by simpa using h.v3, by simpa using h.v4, by simpa using h.v5, by simpa using h.v9, by simpa using h.v10, fun a => by simp [h6] at a, fun _ a => by simp [h7] at a, fun _ a => by simp [h8] at a, fun _ => ⟨g, c, W, by simpa using e8, by simpa using hm, by simpa using ho, hg, hG, fun a => by simp at a, fun _ => rfl⟩, by simpa using h.o4, by simpa using h.o6, by simpa using h.o7, fun _ => by simpa using h8, fun _ => by simpa using h10⟩⟩
end
theorem flat_get {s : Nat} (hs : 0 < s) : ∀ (vs : List Value), (∀ v ∈ vs, v.cells.size = s) → ∀ k : Nat, (vs.flatMap (fun v => v.cells.toList))[k]? = (vs[k / s]?).bind (fun v => v.cells[k % s]?)
  | [], _, k => by simp
  | v :: vs, h, k => by
    have hv := h v List.mem_cons_self
    rw [List.flatMap_cons]
    by_cases hk : k < s
    · rw [List.getElem?_append_left (by simpa [hv] using hk), Nat.div_eq_of_lt hk, Nat.mod_eq_of_lt hk]
      simp
    · rw [List.getElem?_append_right (by simp [hv]; omega), Array.length_toList, hv, flat_get hs vs (fun u hu => h u (List.mem_cons_of_mem _ hu)) (k - s)]
      have e1 : k / s = (k - s) / s + 1 := by rw [Nat.div_eq k s, if_pos ⟨hs, by omega⟩]
      have e2 : k % s = (k - s) % s := by rw [Nat.mod_eq_sub_mod (by omega)]
      rw [e1, e2, List.getElem?_cons_succ]
/-- a slice literal -/
theorem step_slice {P : Program} {ops : Array Oper} {o : Oper} {a : Act} {w : World} {K : Act → World → Prop} {Q : Exit → Act → World → Prop} {E : Prop} (hg : o.guard = none) (t e : TypeId) (len : Nat) (parts : Array (Nat × Operand)) (ho : o.op = .buildSlice t len parts) (s : Nat) (hu : P.underlying t = some (.slice e))
    (hsz : (P.info? e).map (·.size) = some s) (hz : ((P.info? e).bind (·.zero)).isSome = true) (hs : 0 < s) (vs : List Value) (hparts : (parts.map fun (i, x) => (i, a.eval x)).toList = (vs.zipIdx 0).map fun x => (x.2, x.1)) (hv : ∀ v ∈ vs, v.cells.size = s) (hl : len = vs.length) (hpos : 0 < len) (hsmall : len * s ≤ 2 ^ 24)
    (h : K (a.put o.dst (.slice (some ⟨w.heap.size, 0, none⟩) len len)) (w.alloc (.cells (vs.flatMap (fun v => v.cells.toList)).toArray e))) : if Region.wanted o (yielded ops a.tmps) = true then Oper.wp P o a w K Q else E := by
  have hw : Region.wanted o (yielded ops a.tmps) = true := by simp [Region.wanted, hg]
  rw [if_pos hw]
  cases hie : P.info? e with
  | none => simp [hie] at hsz
  | some ie =>
    simp only [hie, Option.map_some, Option.some.injEq, Option.bind_some] at hsz hz
    obtain ⟨z, hzz⟩ := Option.isSome_iff_exists.1 hz
    have hp : 0 < len * s := Nat.mul_pos hpos hs
    refine wp_buildSlice t e len parts ho _ ie z hu hie hzz (by rw [hsz]; omega) (by rw [hsz]; omega) ?_ h
    rw [hparts, hsz]
    obtain ⟨r, hr, hrs, hrk⟩ := Great.fill_dense hs vs 0 ((Array.range (len * s)).map (z.cells[· % z.cells.size]!)) hv (by simp [hl])
    rw [hr]
    congr 1
    have hrs' : r.size = len * s := by rw [hrs]; simp
    apply Array.ext_getElem?
    intro k
    have e0 : (vs.flatMap (fun v => v.cells.toList)).toArray[k]? = (vs.flatMap (fun v => v.cells.toList))[k]? := List.getElem?_toArray
    rw [hrk k, e0, flat_get hs vs hv k]
    simp only [Nat.zero_mul, Nat.zero_le, true_and, Nat.zero_add, Nat.sub_zero]
    by_cases hk : k < vs.length * s
    · rw [if_pos hk]
    · rw [if_neg hk]
      have : vs.length ≤ k / s := (Nat.le_div_iff_mul_le hs).2 (by omega)
      rw [List.getElem?_eq_none this]
      simp [hl]
      omega
theorem ownsRow_below {W W' : World} {base n : Nat} {e : TypeId} {size m : Nat} {v : Value} {xs : List Value} (h : W.ownsRow base e size v m xs) (hb : Below n W W') (hn : W.heap.size ≤ n) : W'.ownsRow base e size v m xs := by
  refine ⟨h.1, ?_⟩
  rcases h.2 with h | ⟨g, cap, cur, e1, h1, h2, h3⟩
  · exact .inl h
  · have : g < W.heap.size := (Array.getElem?_eq_some_iff.1 h2).1
    exact .inr ⟨g, cap, cur, e1, h1, (hb.block g (by omega)).trans h2, h3⟩
section
variable {W W' : World} {base hb f u t : Nat} {ov wv : Value} {es : List BE}
theorem row_typ {e : TypeId} {size n : Nat} {v : Value} {xs : List Value} {b : Nat} (h : W.ownsRow base e size v n xs) (hv : v.ownBlock = some b) : base ≤ b ∧ ∃ cur, W.heap[b]? = some (.cells cur e (0, 0)) := by
  rcases h.2 with ⟨e1, _⟩ | ⟨g, cap, cur, e1, h1, h2, _⟩
  · rw [e1] at hv; cases hv
  · rw [e1] at hv
    have : g = b := by simpa [Value.ownBlock] using hv
    subst this
    exact ⟨h1, cur, h2⟩
theorem Bok.no (h : Bok W base hb ov wv es f u t) : ov.ownBlock ≠ some hb := fun e => by
  obtain ⟨_, cur, h2⟩ := row_typ h.out e
  rw [h.bk] at h2
  injection h2 with h2
  injection h2 with _ h2 _
  cases h2
theorem Bok.nw (h : Bok W base hb ov wv es f u t) : wv.ownBlock ≠ some hb := fun e => by
  obtain ⟨_, cur, h2⟩ := row_typ h.want e
  rw [h.bk] at h2
  injection h2 with h2
  injection h2 with _ h2 _
  cases h2
end
theorem cell_new1 (w : World) (u : Value) (t : TypeId) : (w.alloc (.cells #[u] t)).cell? ⟨w.heap.size, 0, none⟩ = some u := by
  have := heap_new w (.cells #[u] t)
  simp only [World.cell?]
  rw [this]
  rfl
/-- what keep touches: the book and its two rows -/
structure Tch (hb : Nat) (ov wv : Value) (W W' : World) : Prop where
  size : W.heap.size ≤ W'.heap.size
  block : ∀ b, b < W.heap.size → b ≠ hb → ov.ownBlock ≠ some b → wv.ownBlock ≠ some b → W'.heap[b]? = W.heap[b]?
/-- a row's block is the one it was, or a new one -/
def Mvd (n : Nat) (v v' : Value) : Prop := v'.ownBlock = v.ownBlock ∨ ∃ g, v'.ownBlock = some g ∧ n ≤ g
/-- after the first of keep's two appends -/
structure K1 (w : World) (base hb : Nat) (ov wv : Value) (es : List BE) (f : Nat) (lv : Value) (l : List Tok) (ov' : Value) (W : World) : Prop where
  bel : Below base w W
  bk : W.heap[hb]? = some (.cells #[ov', wv, .int .i64 f] 26 (0, 0))
  out : W.ownsRow base 47 1 ov' (es.length + 1) (es.map BE.o ++ [lv])
  ob : ov'.ownBlock = ov.ownBlock ∨ ∃ g, ov'.ownBlock = some g ∧ w.heap.size ≤ g
  blk : ∀ b, b < w.heap.size → b ≠ hb → ov.ownBlock ≠ some b → W.heap[b]? = w.heap[b]?
theorem k1_of {w w5 : World} {base hb : Nat} {ov wv : Value} {es : List BE} {f u t : Nat} {lv : Value} {l : List Tok} (h : Bok w base hb ov wv es f u t) {g c : Nat} {ob : Obj} (ho : w5.ownsRow base 47 1 (.slice (some ⟨g, 0, none⟩) (es.length + 1) c) (es.length + 1) (es.map BE.o ++ [lv])) (hg : (w.alloc ob).grownBy w5 ov.ownBlock) (hG : ov.ownBlock = some g ∨ g = (w.alloc ob).heap.size) :
    w5.heap[hb]? = some (.cells #[ov, wv, .int .i64 f] 26 (0, 0)) ∧ K1 w base hb ov wv es f lv l (.slice (some ⟨g, 0, none⟩) (es.length + 1) c) (w5.setCell ⟨hb, 0, none⟩ (.slice (some ⟨g, 0, none⟩) (es.length + 1) c)) := by
  have hlt := (Array.getElem?_eq_some_iff.1 h.bk).1
  have hB : base ≤ w.heap.size := by have := h.hb; omega
  have hal : ∀ b, b < w.heap.size → (w.alloc ob).heap[b]? = w.heap[b]? := fun b hb => Below.heap_alloc w ob b hb
  have hsz : (w.alloc ob).heap.size = w.heap.size + 1 := Array.size_push _
  have h5 : ∀ b, b < w.heap.size → ov.ownBlock ≠ some b → w5.heap[b]? = w.heap[b]? := fun b hb hne => (hg.block b (by omega) (fun e => hne e.symm)).trans (hal b hb)
  have h5b : w5.heap[hb]? = some (.cells #[ov, wv, .int .i64 f] 26 (0, 0)) := (h5 hb hlt h.no).trans h.bk
  refine ⟨h5b, ?_, ?_, ?_, ?_, ?_⟩
  · exact (((Below.refl base w).alloc hB _).grown hg (by omega) (fun k hk => (World.ownsRow.lt h.out k hk).1)).setCell (p := ⟨hb, 0, none⟩) h.hb _
  · have := cells_setS (j := 0) (u := .slice (some ⟨g, 0, none⟩) (es.length + 1) c) h5b
    simpa using this
  · refine own_stays ho fun b cur _ _ h3 => ?_
    rw [turns_set _ hb 0 _ b (fun e => by subst e; rw [h5b] at h3; injection h3 with h3; injection h3 with _ h3 _; cases h3)]
    exact h3
  · rcases hG with hG | hG
    · exact .inl (by rw [hG]; rfl)
    · exact .inr ⟨g, rfl, by rw [hG, hsz]; omega⟩
  · intro b hb1 hb2 hb3
    rw [turns_set _ hb 0 _ b hb2]
    exact h5 b hb1 hb3
theorem mem_bl {v : Value} {b : Nat} : b ∈ blO v ↔ v.ownBlock = some b := by simp [blO]
theorem blks_mem {es : List BE} {b : Nat} : b ∈ blksO es ↔ ∃ e ∈ es, e.o.ownBlock = some b ∨ e.w.ownBlock = some b := by
  simp only [blksO, List.mem_flatMap, List.mem_append, mem_bl]
theorem blks_lt {w : World} {base hb : Nat} {ov wv : Value} {es : List BE} {f u t : Nat} (h : Bok w base hb ov wv es f u t) {b : Nat} (hb' : b ∈ blksO es) : ∃ cur, w.heap[b]? = some (.cells cur 52 (0, 0)) := by
  obtain ⟨e, he, h1 | h1⟩ := blks_mem.1 hb'
  · exact (row_typ (h.ro e he) h1).2
  · exact (row_typ (h.rw e he) h1).2
theorem typ_ne {w : World} {a b : Nat} {c d : Array Value} {t u : TypeId} (h1 : w.heap[a]? = some (.cells c t (0, 0))) (h2 : w.heap[b]? = some (.cells d u (0, 0))) (hne : t ≠ u) : a ≠ b := fun e => by
  subst e
  rw [h1] at h2
  injection h2 with h2
  injection h2 with _ h2 _
  exact hne h2
theorem snoc_at {es : List BE} {e e' : BE} {i : Nat} (h : (es ++ [e])[i]? = some e') : (i < es.length ∧ es[i]? = some e') ∨ (i = es.length ∧ e' = e) := by
  by_cases hi : i < es.length
  · rw [List.getElem?_append_left hi] at h; exact .inl ⟨hi, h⟩
  · rw [List.getElem?_append_right (by omega)] at h
    obtain ⟨h1, h2⟩ := List.getElem?_eq_some_iff.1 h
    simp at h1 h2
    exact .inr ⟨by omega, h2.symm⟩
theorem aw_snoc {es : List BE} {e : BE} (h : AW es) (h1 : ∀ b, e.w.ownBlock = some b → b ∉ blksO es ∧ e.o.ownBlock ≠ some b) (h2 : ∀ b, e.o.ownBlock = some b → ∀ e' ∈ es, e'.w.ownBlock ≠ some b) : AW (es ++ [e]) := by
  intro i j a a' b hi hj hb
  rcases snoc_at hi with ⟨i1, i2⟩ | ⟨i1, i2⟩ <;> rcases snoc_at hj with ⟨j1, j2⟩ | ⟨j1, j2⟩
  · exact h i j a a' b i2 j2 hb
  · subst j2
    have hm := blks_mem.2 ⟨a, List.mem_of_getElem? i2, .inr hb⟩
    exact ⟨fun _ e => (h1 b e).1 hm, fun e => h2 b e a (List.mem_of_getElem? i2) hb⟩
  · subst i2
    have := (h1 b hb).1
    exact ⟨fun _ e => this (blks_mem.2 ⟨a', List.mem_of_getElem? j2, .inr e⟩), fun e => this (blks_mem.2 ⟨a', List.mem_of_getElem? j2, .inl e⟩)⟩
  · subst i2
    subst j2
    exact ⟨fun hne => absurd (i1.trans j1.symm) hne, (h1 b hb).2⟩
theorem ao_snoc {es : List BE} {e : BE} {u t : Nat} (h : AO es u t) (ht : t ≤ es.length) (h1 : ∀ i e' b, u ≤ i → i < t → es[i]? = some e' → e'.o.ownBlock = some b → e.o.ownBlock ≠ some b) : AO (es ++ [e]) u t := by
  intro i j a a' b hu hit hne hi hj hb
  rcases snoc_at hi with ⟨i1, i2⟩ | ⟨i1, i2⟩
  · rcases snoc_at hj with ⟨j1, j2⟩ | ⟨j1, j2⟩
    · exact h i j a a' b hu hit hne i2 j2 hb
    · subst j2; exact h1 i a b hu hit i2 hb
  · omega
theorem ao_keep {es : List BE} {e : BE} {u : Nat} (h : AO es u es.length) (h1 : ∀ b, e.o.ownBlock = some b → ∀ e' ∈ es, e'.o.ownBlock ≠ some b) : AO (es ++ [e]) u (es.length + 1) := by
  intro i j a a' b hu hit hne hi hj hb
  rcases snoc_at hi with ⟨i1, i2⟩ | ⟨i1, i2⟩ <;> rcases snoc_at hj with ⟨j1, j2⟩ | ⟨j1, j2⟩
  · exact h i j a a' b hu i1 hne i2 j2 hb
  · subst j2; exact fun e1 => h1 b e1 a (List.mem_of_getElem? i2) hb
  · subst i2; exact h1 b hb a' (List.mem_of_getElem? j2)
  · omega
theorem k2_of {w w6 W3 : World} {base hb : Nat} {ov wv : Value} {es : List BE} {f u u' t t' : Nat} {lv ov' mv : Value} {l : List Tok} (h : Bok w base hb ov wv es f u t) (hl : OwnT w base lv l) (haw : AW (es ++ [(⟨lv, mv, l⟩ : BE)])) (hao : AO (es ++ [(⟨lv, mv, l⟩ : BE)]) u' t') (hn : l.length ≤ 900000) (hes : es.length ≤ 99) (k : K1 w base hb ov wv es f lv l ov' w6) (hm : OwnT W3 base mv l) {g c : Nat} (ho : W3.ownsRow base 47 1 (.slice (some ⟨g, 0, none⟩) (es.length + 1) c) (es.length + 1) (es.map BE.w ++ [mv])) (hg : w6.grownBy W3 wv.ownBlock) (hG : wv.ownBlock = some g ∨ w6.heap.size ≤ g) :
    Bok (W3.setCell ⟨hb, 1, none⟩ (.slice (some ⟨g, 0, none⟩) (es.length + 1) c)) base hb ov' (.slice (some ⟨g, 0, none⟩) (es.length + 1) c) (es ++ [⟨lv, mv, l⟩]) f u' t' ∧ Tch hb ov wv w (W3.setCell ⟨hb, 1, none⟩ (.slice (some ⟨g, 0, none⟩) (es.length + 1) c)) ∧ Below base w (W3.setCell ⟨hb, 1, none⟩ (.slice (some ⟨g, 0, none⟩) (es.length + 1) c)) ∧ Mvd w.heap.size ov ov' ∧ Mvd w.heap.size wv (.slice (some ⟨g, 0, none⟩) (es.length + 1) c) := by
  have hbl := (Array.getElem?_eq_some_iff.1 h.bk).1
  have hB : base ≤ w.heap.size := by have := h.hb; omega
  have hs6 := k.bel.size
  have h3b : W3.heap[hb]? = some (.cells #[ov', wv, .int .i64 f] 26 (0, 0)) := (hg.block hb (by omega) (fun e => h.nw e.symm)).trans k.bk
  have T := turns_set W3 hb 1 (.slice (some ⟨g, 0, none⟩) (es.length + 1) c)
  have S : ∀ b, b < w.heap.size → b ≠ hb → ov.ownBlock ≠ some b → wv.ownBlock ≠ some b → (W3.setCell ⟨hb, 1, none⟩ (.slice (some ⟨g, 0, none⟩) (es.length + 1) c)).heap[b]? = w.heap[b]? := fun b h1 h2 h3 h4 => by
    rw [T b h2, hg.block b (by omega) (fun e => h4 e.symm)]
    exact k.blk b h1 h2 h3
  have S3 : ∀ (b : Nat) (cur : Array Value), w.heap[b]? = some (Obj.cells cur 52 (0, 0)) → (W3.setCell ⟨hb, 1, none⟩ (.slice (some ⟨g, 0, none⟩) (es.length + 1) c)).heap[b]? = some (Obj.cells cur 52 (0, 0)) := fun b cur hc =>
    (S b (Array.getElem?_eq_some_iff.1 hc).1 (typ_ne hc h.bk (by decide)) (fun e => by obtain ⟨_, d, h2⟩ := row_typ h.out e; exact typ_ne hc h2 (by decide) rfl) (fun e => by obtain ⟨_, d, h2⟩ := row_typ h.want e; exact typ_ne hc h2 (by decide) rfl)).trans hc
  refine ⟨⟨?_, h.hb, ?_, ?_, ?_, ?_, ?_, ?_, ?_, ?_, ?_, ?_⟩, ⟨?_, S⟩, ?_, k.ob, hG.imp (fun e => e.symm) fun e => ⟨g, rfl, by omega⟩⟩
  · have := cells_setS (j := 1) (u := .slice (some ⟨g, 0, none⟩) (es.length + 1) c) h3b
    simpa using this
  · have e1 : (es ++ [(⟨lv, mv, l⟩ : BE)]).length = es.length + 1 := by simp
    rw [e1, List.map_append]
    refine own_stays k.out fun b cur h1 h2 h3 => ?_
    rw [T b (typ_ne h3 k.bk (by decide)), hg.block b (Array.getElem?_eq_some_iff.1 h3).1 (fun e => ?_)]
    · exact h3
    · rcases k.ob with h4 | ⟨g', h4, h5⟩
      · rw [h1] at h4
        rcases h.ow with h6 | h6
        · rw [h6] at h4; cases h4
        · exact h6 (h4.symm.trans e)
      · rw [h1] at h4
        injection h4 with h4
        have := (World.ownsRow.lt h.want b e.symm).2
        omega
  · have e1 : (es ++ [(⟨lv, mv, l⟩ : BE)]).length = es.length + 1 := by simp
    rw [e1, List.map_append]
    refine own_stays ho fun b cur h1 h2 h3 => ?_
    rw [T b (typ_ne h3 h3b (by decide))]
    exact h3
  · intro e he
    rcases List.mem_append.1 he with he | he
    · exact own_stays (h.ro e he) fun b cur _ _ h3 => S3 b cur h3
    · obtain rfl := List.mem_singleton.1 he
      exact own_stays hl fun b cur _ _ h3 => S3 b cur h3
  · intro e he
    rcases List.mem_append.1 he with he | he
    · exact own_stays (h.rw e he) fun b cur _ _ h3 => S3 b cur h3
    · obtain rfl := List.mem_singleton.1 he
      refine own_stays hm fun b cur _ _ h3 => ?_
      rw [T b (typ_ne h3 h3b (by decide))]
      exact h3
  · exact haw
  · exact hao
  · right
    intro e
    have e2 : ov'.ownBlock = some g := e
    rcases hG with hG | hG
    · rcases k.ob with h4 | ⟨g', h4, h5⟩
      · rw [e2] at h4
        rcases h.ow with h6 | h6
        · rw [h6] at h4; cases h4
        · exact h6 (h4.symm.trans hG.symm)
      · rw [e2] at h4
        injection h4 with h4
        have := (World.ownsRow.lt h.want g hG).2
        omega
    · have := (World.ownsRow.lt k.out g e2).2
      omega
  · simp; omega
  · intro e he
    rcases List.mem_append.1 he with he | he
    · exact h.sm e he
    · obtain rfl := List.mem_singleton.1 he
      show l.length ≤ 900000
      omega
  · have := h.fr
    simp
    omega
  · show w.heap.size ≤ (W3.setCell _ _).heap.size
    have h1 : (W3.setCell ⟨hb, 1, none⟩ (.slice (some ⟨g, 0, none⟩) (es.length + 1) c)).heap.size = W3.heap.size := by simp [World.setCell]
    have := hg.size
    omega
  · exact (k.bel.grown hg (by omega) (fun b hb' => (World.ownsRow.lt h.want b hb').1)).setCell (p := ⟨hb, 1, none⟩) h.hb _
set_option maxHeartbeats 4000000 in
theorem keep_any (base hb : Nat) (ov wv : Value) (es : List BE) (f u : Nat) (lv : Value) (l : List Tok) (w : World) (h : Bok w base hb ov wv es f u es.length) (hl : OwnT w base lv l) (hap : ∀ b, lv.ownBlock = some b → b ∉ blksO es) (hn : l.length ≤ 800000) (hes : es.length ≤ 99) :
    Calls Tryz.prog 26 #[.pointer (some ⟨hb, 0, none⟩), lv] w fun e w' => (∃ x, e = .returned x) ∧ ∃ ov' wv' mv, Bok w' base hb ov' wv' (es ++ [⟨lv, mv, l⟩]) f u (es.length + 1) ∧ Tch hb ov wv w w' ∧ Below base w w' ∧ Mvd w.heap.size ov ov' ∧ Mvd w.heap.size wv wv' ∧ (∀ b, mv.ownBlock = some b → w.heap.size ≤ b) := by
  have HB : Hid (Bok w base hb ov wv es f u es.length) := h
  have HL : Hid (OwnT w base lv l) := hl
  have hm := mixed
  obtain ⟨n, hnn⟩ : ∃ n, es.length = n := ⟨_, rfl⟩
  have HN : Hid (es.length = n) := hnn
  obtain ⟨oa, oc, rfl⟩ := row_nil h.out
  obtain ⟨wa, wc, rfl⟩ := row_nil h.want
  obtain ⟨la, ln, lc, rfl⟩ : IsSl lv := by obtain ⟨a, c, e⟩ := OwnT.form hl; exact ⟨_, _, _, e⟩
  have c0 := h.cell.1
  have hbz : base ≤ w.heap.size := by have := h.hb; have := (Array.getElem?_eq_some_iff.1 h.bk).1; omega
  have HO : Hid (∀ ob, (w.alloc ob).ownsRow base 47 1 (.slice oa n oc) n (es.map BE.o) ∧ base ≤ (w.alloc ob).heap.size) := fun ob => by
    have := h.out
    rw [hnn] at this
    exact ⟨World.ownsRow.alloc this ob, by have : (w.alloc ob).heap.size = w.heap.size + 1 := Array.size_push _; omega⟩
  have HK1 : Hid (∀ (g c : Nat) (ob : Obj) (w5 : World), w5.ownsRow base 47 1 (.slice (some ⟨g, 0, none⟩) (n + 1) c) (n + 1) (es.map BE.o ++ [.slice la ln lc]) → (w.alloc ob).grownBy w5 (Value.slice oa n oc).ownBlock → ((Value.slice oa n oc).ownBlock = some g ∨ g = (w.alloc ob).heap.size) → w5.heap[hb]? = some (.cells #[.slice oa n oc, .slice wa n wc, .int .i64 f] 26 (0, 0)) ∧ K1 w base hb (.slice oa n oc) (.slice wa n wc) es f (.slice la ln lc) l (.slice (some ⟨g, 0, none⟩) (n + 1) c) (w5.setCell ⟨hb, 0, none⟩ (.slice (some ⟨g, 0, none⟩) (n + 1) c))) := fun g c ob w5 a b d => by
    have := k1_of (l := l) (lv := .slice la ln lc) h (g := g) (c := c) (ob := ob) (w5 := w5)
    rw [hnn] at this
    exact this a b d
  rw [hnn] at c0
  rw [hnn] at HB hes
  have hnI : n ≤ 2000000 := by omega
  clear h hl hnn
  go_enter Tryz.func26, Tryz.ntmps26
  go_upto_region 1 with (at_builtin; go_must (refine app_L rfl _ _ rfl base (.slice oa n oc) n (es.map BE.o) rfl (HO.out _).1 _ _ (.slice la ln lc) rfl (cell_new1 _ _ _) ⟨_, _, _, rfl⟩ hnI (HO.out _).2 ?_; intro g c w5 ho5 hg5 hG5; have HX := Hid.mk2 (HK1.out g c _ w5 ho5 hg5 hG5); clear ho5 hg5 hG5; have c5 : w5.cell? ⟨hb, 0, none⟩ = some (.slice oa n oc) := (by simp [World.cell?, HX.out.1]); have f5 : w5.frozen? ⟨hb, 0, none⟩ = false := (by simp [World.frozen?, HX.out.1])))
  obtain ⟨w6, hw6⟩ : ∃ w6, w6 = w5.setCell ⟨hb, 0, none⟩ (.slice (some ⟨g, 0, none⟩) (n + 1) c) := ⟨_, rfl⟩
  rw [← hw6]
  have HK := Hid.mk2 HX.out.2
  rw [← hw6] at HK
  clear hw6 c5 f5 HX HK1 HO c0
  have hB0 := HB.out
  have hK0 := HK.out
  have HB6 : Hid (w6.heap[hb]? = some (.cells #[.slice (some ⟨g, 0, none⟩) (n + 1) c, .slice wa n wc, .int .i64 f] 26 (0, 0))) := hK0.bk
  have HW6 : Hid (w6.ownsRow base 47 1 (.slice wa n wc) n (es.map BE.w)) := by
    have := hB0.want
    rw [HN.out] at this
    refine own_stays this fun b cur h1 _ h3 => ?_
    rw [hK0.blk b (Array.getElem?_eq_some_iff.1 h3).1 (typ_ne h3 hB0.bk (by decide)) (fun e => ?_)]
    · exact h3
    · rcases hB0.ow with h6 | h6
      · rw [h6] at e; cases e
      · exact h6 (e.trans h1.symm)
  have HI6 : Hid (RT w6.drew (.slice la ln lc) l) := by
    have : OwnT w6 base (.slice la ln lc) l := own_stays HL.out fun b cur h1 _ h3 => by
      rw [hK0.blk b (Array.getElem?_eq_some_iff.1 h3).1 (typ_ne h3 hB0.bk (by decide)) (fun e => by obtain ⟨_, d, h2⟩ := row_typ hB0.out e; exact typ_ne h3 h2 (by decide) rfl)]
      exact h3
    exact (this.below ((Below.refl w6.heap.size w6).drew) (Nat.le_refl _)).kr
  have HSz : Hid (base ≤ w6.heap.size) := Nat.le_trans hbz hK0.bel.size
  have HNW : Hid ((Value.slice wa n wc).ownBlock ≠ some hb) := hB0.nw
  have HFin : Hid (∀ (W3 : World) (mv : Value) (g c : Nat), OwnT W3 w6.heap.size mv l → W3.ownsRow base 47 1 (.slice (some ⟨g, 0, none⟩) (n + 1) c) (n + 1) (es.map BE.w ++ [mv]) → w6.grownBy W3 (Value.slice wa n wc).ownBlock → ((Value.slice wa n wc).ownBlock = some g ∨ w6.heap.size ≤ g) → ∃ ov' wv' mv, Bok (W3.setCell ⟨hb, 1, none⟩ (.slice (some ⟨g, 0, none⟩) (n + 1) c)) base hb ov' wv' (es ++ [⟨.slice la ln lc, mv, l⟩]) f u (es.length + 1) ∧ Tch hb (.slice oa es.length oc) (.slice wa es.length wc) w (W3.setCell ⟨hb, 1, none⟩ (.slice (some ⟨g, 0, none⟩) (n + 1) c)) ∧ Below base w (W3.setCell ⟨hb, 1, none⟩ (.slice (some ⟨g, 0, none⟩) (n + 1) c)) ∧ Mvd w.heap.size (.slice oa es.length oc) ov' ∧ Mvd w.heap.size (.slice wa es.length wc) wv' ∧ (∀ b, mv.ownBlock = some b → w.heap.size ≤ b)) := fun W3 mv g2 c2 a1 a2 a3 a4 => by
    have hmv : ∀ b, mv.ownBlock = some b → b ∉ blksO es ∧ (Value.slice la ln lc).ownBlock ≠ some b := fun b hb' => by
      have h1 := (row_typ a1 hb').1
      have h2 := hK0.bel.size
      refine ⟨fun h3 => ?_, fun h3 => ?_⟩
      · obtain ⟨_, h4⟩ := blks_lt hB0 h3
        have := (Array.getElem?_eq_some_iff.1 h4).1
        omega
      · have := (World.ownsRow.lt HL.out b h3).2
        omega
    have hao0 := hB0.ao
    rw [← HN.out] at hao0
    have hh := k2_of (g := g2) (c := c2) (mv := mv) (W3 := W3) (u' := u) (t' := es.length + 1) hB0 HL.out (aw_snoc hB0.aw hmv fun b hb' e' he' e1 => hap b hb' (blks_mem.2 ⟨e', he', .inr e1⟩)) (ao_keep hao0 fun b hb' e' he' e1 => hap b hb' (blks_mem.2 ⟨e', he', .inl e1⟩)) (by omega) (by rw [HN.out]; exact hes) hK0 (a1.le HSz.out)
    rw [HN.out] at hh
    have := hh a2 a3 a4
    rw [HN.out]
    exact ⟨_, _, _, this.1, this.2.1, this.2.2.1, this.2.2.2.1, this.2.2.2.2, fun b hb' => by have h1 := (row_typ a1 hb').1; have h2 := hK0.bel.size; omega⟩
  generalize (.slice (some ⟨g, 0, none⟩) (n + 1) c : Value) = ov' at HB6
  clear hB0 hK0 HB HL HK hap
  refine wp_region_inv (by kernel_rfl) (by kernel_rfl) (by kernel_rfl) (by kernel_rfl) (KJ w6 base hb (.slice wa n wc) n (es.map BE.w) (.slice la ln lc) l) KJ.start ⟨?_, ?_, ?_, ?_, ?_, ?_, ?_, ?_, ?_, ?_, ?_, ?_, trivial⟩ ?_
  · as_aux_lemma =>
      intro a wx p vs hJ hdep hpi hval hfr K hK
      have d : a.tmps.getD 0 undef = (.pointer (some ⟨hb, 0, none⟩)) := hfr 0 (by kernel_rfl)
      exact step_value (v := (.pointer (some ⟨hb, 0, none⟩))) (w' := wx) rfl (fun _ _ h => by cases h) (rho [(0, (.pointer (some ⟨hb, 0, none⟩)))]) (rho_of (by intro q hm; simp only [List.mem_cons, List.not_mem_nil, or_false] at hm; rcases hm with rfl; exact d) (by kernel_rfl)) (by kernel_rfl) (hK _ _ hJ.put0)
  · as_aux_lemma =>
      intro a wx p vs hJ hdep hpi hval hfr K hK
      have d : a.tmps.getD 0 undef = (.pointer (some ⟨hb, 0, none⟩)) := hfr 0 (by kernel_rfl)
      exact step_value (v := (.pointer (some ⟨hb, 0, none⟩))) (w' := wx) rfl (fun _ _ h => by cases h) (rho [(0, (.pointer (some ⟨hb, 0, none⟩)))]) (rho_of (by intro q hm; simp only [List.mem_cons, List.not_mem_nil, or_false] at hm; rcases hm with rfl; exact d) (by kernel_rfl)) (by kernel_rfl) (hK _ _ hJ.put1)
  · as_aux_lemma =>
      intro a wx p vs hJ hdep hpi hval hfr K hK
      have h := hdep 1 (by kernel_rfl)
      have d : a.tmps.getD 15 undef = (.pointer (some ⟨hb, 0, none⟩)) := (hval 1 _ 15 h (by rfl) rfl).trans (hJ.v1 h)
      have hJ' := hJ.put2
      clear hval hfr hdep hJ
      simp only [Array.getD_eq_getD_getElem?] at d
      go_simp
      exact hK _ _ hJ'
  · as_aux_lemma =>
      intro a wx p vs hJ hdep hpi hval hfr K hK
      have h := hdep 2 (by kernel_rfl)
      have d : a.tmps.getD 16 undef = (.pointer (some ⟨hb, 0, none⟩)) := (hval 2 _ 16 h (by rfl) rfl).trans (hJ.v2 h)
      have hJ' := hJ.put3
      clear hval hfr hdep hJ
      simp only [Array.getD_eq_getD_getElem?] at d
      go_simp
      exact hK _ _ hJ'
  · as_aux_lemma =>
      intro a wx p vs hJ hdep hpi hval hfr K hK
      have h := hdep 3 (by kernel_rfl)
      have d : a.tmps.getD 17 undef = (.pointer (some ⟨hb, 1, none⟩)) := (hval 3 _ 17 h (by rfl) rfl).trans (hJ.v3 h)
      have h8 : p 8 = false := bool_not hJ.o4 hpi
      have hc : wx.cell? ⟨hb, 1, none⟩ = some (.slice wa n wc) := by
        have := ((hJ.pre h8).block hb (Array.getElem?_eq_some_iff.1 HB6.out).1).trans HB6.out
        simp [World.cell?, this]
      have hJ' := hJ.put4
      clear hval hfr hdep hJ h8
      simp only [Array.getD_eq_getD_getElem?] at d
      go_simp
      exact hK _ _ hJ'
  · as_aux_lemma =>
      intro a wx p vs hJ hdep hpi hval hfr K hK
      have d : a.tmps.getD 1 undef = (.slice la ln lc) := hfr 1 (by kernel_rfl)
      exact step_value (v := (.slice la ln lc)) (w' := wx) rfl (fun _ _ h => by cases h) (rho [(1, (.slice la ln lc))]) (rho_of (by intro q hm; simp only [List.mem_cons, List.not_mem_nil, or_false] at hm; rcases hm with rfl; exact d) (by kernel_rfl)) (by kernel_rfl) (hK _ _ hJ.put5)
  · as_aux_lemma =>
      intro a wx p vs hJ hdep hpi hval hfr K hK
      have h := hdep 5 (by kernel_rfl)
      have d : a.eval (.tmp 19) = .slice la ln lc := (hval 5 _ 19 h (by rfl) rfl).trans (hJ.v5 h)
      have hw := hJ.x0 hpi
      subst hw
      refine step_copyI rfl _ rfl _ l d HI6.out (by omega) ?_
      intro v' w' h1 h2
      exact hK _ _ (hJ.put6 hpi h1 (((Below.refl _ w6).drew).trans h2))
  · as_aux_lemma =>
      intro a wx p vs hJ hdep hpi hval hfr K hK
      have h := hdep 6 (by kernel_rfl)
      have d : a.tmps.getD 20 undef = vs 6 := hval 6 _ 20 h (by rfl) rfl
      have hJ' := hJ.put7 h hpi
      obtain ⟨ma, mc, hm⟩ := OwnT.form (hJ.x1 h hpi).1
      refine step_slice rfl 24 47 1 _ rfl 1 Tryz.underlying24 (by kernel_rfl) (by kernel_rfl) (by decide) [vs 6] ?_ (by intro v hm2; simp only [List.mem_cons, List.not_mem_nil, or_false] at hm2; rw [hm2, hm]; rfl) rfl (by decide) (by decide) ?_
      · rw [Array.toList_map]
        show [(0, a.tmps.getD 20 undef)] = _
        rw [d]
        rfl
      · have e : ([vs 6].flatMap fun v => v.cells.toList).toArray = #[vs 6] := by rw [hm]; rfl
        rw [e]
        exact hK _ _ hJ'
  · as_aux_lemma =>
      intro a wx p vs hJ hdep hpi hval hfr K hK
      have h4 := hdep 4 (by kernel_rfl)
      have h7 := hdep 7 (by kernel_rfl)
      obtain ⟨hx1, hx2, b, e7, hbb, _⟩ := hJ.x2 h7 hpi
      have d4 : a.eval (.tmp 18) = .slice wa n wc := (hval 4 _ 18 h4 (by rfl) rfl).trans (hJ.v4 h4)
      have d7 : a.eval (.tmp 21) = .slice (some ⟨b, 0, none⟩) 1 1 := (hval 7 _ 21 h7 (by rfl) rfl).trans e7
      obtain ⟨ma, mc, hm⟩ := OwnT.form hx1
      have hO := ownsRow_below HW6.out hx2 (Nat.le_refl _)
      refine step_appL rfl _ _ rfl base _ n (es.map BE.w) d4 hO b 1 (vs 6) d7 (by simp [World.cell?, hbb]) ⟨_, _, _, hm⟩ (by omega) (by have := hx2.size; have := HSz.out; omega) ?_
      intro g cap w' ho hg hG
      exact hK _ _ (hJ.put8 h4 h7 hpi ho hg hG (fun b hb => (World.ownsRow.lt HW6.out b hb).2))
  · as_aux_lemma =>
      intro a wx p vs hJ hdep hpi hval hfr K hK
      have h := hdep 0 (by kernel_rfl)
      have d : a.tmps.getD 14 undef = (.pointer (some ⟨hb, 0, none⟩)) := (hval 0 _ 14 h (by rfl) rfl).trans (hJ.v0 h)
      have hJ' := hJ.put9
      clear hval hfr hdep hJ
      simp only [Array.getD_eq_getD_getElem?] at d
      go_simp
      exact hK _ _ hJ'
  · as_aux_lemma =>
      intro a wx p vs hJ hdep hpi hval hfr K hK
      have h := hdep 9 (by kernel_rfl)
      have d : a.tmps.getD 23 undef = (.pointer (some ⟨hb, 0, none⟩)) := (hval 9 _ 23 h (by rfl) rfl).trans (hJ.v9 h)
      have hJ' := hJ.put10
      clear hval hfr hdep hJ
      simp only [Array.getD_eq_getD_getElem?] at d
      go_simp
      exact hK _ _ hJ'
  · as_aux_lemma =>
      intro a wx p vs hJ hdep hpi hval hfr K hK
      have h8 := hdep 8 (by kernel_rfl)
      have h10 := hdep 10 (by kernel_rfl)
      obtain ⟨gg, cc, e8, hJ'⟩ := hJ.put11 h8 h10 hpi
      have d8 : a.tmps.getD 22 undef = .slice (some ⟨gg, 0, none⟩) (n + 1) cc := (hval 8 _ 22 h8 (by rfl) rfl).trans e8
      have d10 : a.tmps.getD 24 undef = (.pointer (some ⟨hb, 1, none⟩)) := (hval 10 _ 24 h10 (by rfl) rfl).trans (hJ.v10 h10)
      obtain ⟨_, _, W3, _, _, _, hg3, _, hw3, _⟩ := hJ.x3 h8
      obtain rfl := hw3 hpi
      have htw : wx.heap[hb]? = some (.cells #[ov', .slice wa n wc, .int .i64 f] 26 (0, 0)) := (hg3.block hb (Array.getElem?_eq_some_iff.1 HB6.out).1 (fun e => HNW.out e.symm)).trans HB6.out
      have hc : wx.cell? ⟨hb, 1, none⟩ = some (.slice wa n wc) := by simp [World.cell?, htw]
      have hf : wx.frozen? ⟨hb, 1, none⟩ = false := by simp [World.frozen?, htw]
      have hJ2 := fun v => hK v _ (hJ' v)
      clear hval hfr hdep hJ e8 hJ' hK htw hg3 hw3
      simp only [Array.getD_eq_getD_getElem?] at d8 d10
      go_simp
      exact hJ2 undef
  · intro vs w' hJ
    obtain ⟨gg, cc, W3, h0, h1, h2, h3, h4, h6, h5⟩ := hJ.x3 (by decide)
    have hw := h5 (by decide)
    have HE := Hid.mk2 (HFin.out W3 (vs 6) gg cc h1 h2 h3 h4)
    rw [← hw] at HE
    clear h0 h1 h2 h3 h4 h5 h6 hw hJ HFin HB6 HW6 HI6 HSz HNW
    rw [putL_eq]
    simp only [putsL, List.set_cons_zero, List.set_cons_succ, Nat.zero_add, Nat.reduceAdd]
    generalize vs 0 = y0
    generalize vs 1 = y1
    generalize vs 2 = y2
    generalize vs 3 = y3
    generalize vs 4 = y4
    generalize vs 5 = y5
    generalize vs 6 = y6
    generalize vs 7 = y7
    generalize vs 8 = y8
    generalize vs 9 = y9
    generalize vs 10 = y10
    generalize vs 11 = y11
    clear vs
    go_wp2
    exact bodyPost_end (results_none rfl _ _ _) rfl ⟨⟨_, rfl⟩, HE.out⟩
/-- the same lists, whatever they hold -/
structure Alike (es es' : List BE) : Prop where
  o : es'.map BE.o = es.map BE.o
  w : es'.map BE.w = es.map BE.w
  l : es'.map (fun e => e.l.length) = es.map fun e => e.l.length
theorem Alike.refl (es : List BE) : Alike es es := ⟨rfl, rfl, rfl⟩
theorem Alike.trans {a b c : List BE} (h : Alike a b) (k : Alike b c) : Alike a c := ⟨k.o.trans h.o, k.w.trans h.w, k.l.trans h.l⟩
theorem Alike.len {a b : List BE} (h : Alike a b) : b.length = a.length := by simpa using congrArg List.length h.o
theorem Alike.at {a b : List BE} (h : Alike a b) {i : Nat} {e : BE} (he : a[i]? = some e) : ∃ e', b[i]? = some e' ∧ e'.o = e.o ∧ e'.w = e.w ∧ e'.l.length = e.l.length := by
  have hi := (List.getElem?_eq_some_iff.1 he).1
  have hi' : i < b.length := by rw [h.len]; exact hi
  have h1 := congrArg (·[i]?) h.o
  have h2 := congrArg (·[i]?) h.w
  have h3 := congrArg (·[i]?) h.l
  simp [hi', he] at h1 h2 h3
  exact ⟨b[i], by simp [hi'], h1, h2, h3⟩
theorem alike_set {es : List BE} {i : Nat} {e : BE} (he : es[i]? = some e) (k : Nat) (x : Tok) : Alike es (es.set i ⟨e.o, e.w, e.l.set k x⟩) := by
  obtain ⟨hi, rfl⟩ := List.getElem?_eq_some_iff.1 he
  refine ⟨?_, ?_, ?_⟩ <;> apply List.ext_getElem <;> simp <;> intro j hj <;> (simp only [List.getElem_set]; split <;> simp_all)
theorem Alike.symm {a b : List BE} (h : Alike a b) : Alike b a := ⟨h.o.symm, h.w.symm, h.l.symm⟩
theorem aw_alike {es es' : List BE} (h : Alike es es') (k : AW es) : AW es' := by
  intro i j e e' b hi hj hb
  obtain ⟨a, ha, h1, h2, _⟩ := h.symm.at hi
  obtain ⟨a', ha', h1', h2', _⟩ := h.symm.at hj
  have := k i j a a' b ha ha' (by rw [h2]; exact hb)
  rw [h1', h2'] at this
  exact this
theorem ao_alike {es es' : List BE} {u t : Nat} (h : Alike es es') (k : AO es u t) : AO es' u t := by
  intro i j e e' b hu ht hne hi hj hb
  obtain ⟨a, ha, h1, h2, _⟩ := h.symm.at hi
  obtain ⟨a', ha', h1', h2', _⟩ := h.symm.at hj
  have := k i j a a' b hu ht hne ha ha' (by rw [h1]; exact hb)
  rw [h1'] at this
  exact this

/-- a token is written over -/
def set4 (W : World) (g o : Nat) (b : Tok) : World := (((((W.setCell ⟨g, o, none⟩ (.int .i64 b.k)).setCell ⟨g, o + 1, none⟩ (.int .i64 b.a)).setCell ⟨g, o + 2, none⟩ (.int .i64 b.l)).setCell ⟨g, o + 3, none⟩ (.int .i64 b.u)).setCell ⟨g, o + 4, none⟩ (.string b.t)).setCell ⟨g, o + 5, none⟩ (.int .i64 b.n)
theorem set4_other (W : World) (g o : Nat) (b : Tok) (k : Nat) (h : k ≠ g) : (set4 W g o b).heap[k]? = W.heap[k]? := by
  unfold set4
  rw [turns_set _ g _ _ k h, turns_set _ g _ _ k h, turns_set _ g _ _ k h, turns_set _ g _ _ k h, turns_set _ g _ _ k h, turns_set _ g _ _ k h]
theorem set4_at {W : World} {g o : Nat} {b : Tok} {cur : Array Value} {t : TypeId} (h : W.heap[g]? = some (.cells cur t (0, 0))) : (set4 W g o b).heap[g]? = some (.cells ((((((cur.setIfInBounds o (.int .i64 b.k)).setIfInBounds (o + 1) (.int .i64 b.a)).setIfInBounds (o + 2) (.int .i64 b.l)).setIfInBounds (o + 3) (.int .i64 b.u)).setIfInBounds (o + 4) (.string b.t)).setIfInBounds (o + 5) (.int .i64 b.n)) t (0, 0)) := cells_setS (cells_setS (cells_setS (cells_setS (cells_setS (cells_setS h)))))
theorem set4_below {W : World} {g o base : Nat} {b : Tok} (h : base ≤ g) : Below base W (set4 W g o b) := ((((((Below.refl base W).setCell (p := ⟨g, o, none⟩) h _).setCell (p := ⟨g, o + 1, none⟩) h _).setCell (p := ⟨g, o + 2, none⟩) h _).setCell (p := ⟨g, o + 3, none⟩) h _).setCell (p := ⟨g, o + 4, none⟩) h _).setCell (p := ⟨g, o + 5, none⟩) h _
theorem ft_set : ∀ (l : List Tok) (k : Nat) (b : Tok), ft (l.set k b) = ((((((ft l).set (k * 6) (.int .i64 b.k)).set (k * 6 + 1) (.int .i64 b.a)).set (k * 6 + 2) (.int .i64 b.l)).set (k * 6 + 3) (.int .i64 b.u)).set (k * 6 + 4) (.string b.t)).set (k * 6 + 5) (.int .i64 b.n)
  | [], k, b => by simp [ft]
  | x :: l, 0, b => rfl
  | x :: l, k + 1, b => by
    have e : ∀ l : List Tok, ft (x :: l) = .int .i64 x.k :: .int .i64 x.a :: .int .i64 x.l :: .int .i64 x.u :: .string x.t :: .int .i64 x.n :: ft l := fun _ => rfl
    rw [List.set_cons_succ, e, e, ft_set l k b, show (k + 1) * 6 = k * 6 + 1 + 1 + 1 + 1 + 1 + 1 by omega]
    rw [show k * 6 + 1 + 1 + 1 + 1 + 1 + 1 + 2 = k * 6 + 2 + 1 + 1 + 1 + 1 + 1 + 1 by omega, show k * 6 + 1 + 1 + 1 + 1 + 1 + 1 + 3 = k * 6 + 3 + 1 + 1 + 1 + 1 + 1 + 1 by omega, show k * 6 + 1 + 1 + 1 + 1 + 1 + 1 + 4 = k * 6 + 4 + 1 + 1 + 1 + 1 + 1 + 1 by omega, show k * 6 + 1 + 1 + 1 + 1 + 1 + 1 + 5 = k * 6 + 5 + 1 + 1 + 1 + 1 + 1 + 1 by omega]
    simp only [List.set_cons_succ]
theorem own_set4 {W : World} {base g n c k : Nat} {l : List Tok} (h : OwnT W base (.slice (some ⟨g, 0, none⟩) n c) l) (x : Tok) : OwnT (set4 W g (k * 6) x) base (.slice (some ⟨g, 0, none⟩) n c) (l.set k x) := by
  obtain ⟨h0, h1⟩ := h
  refine ⟨by rw [ft_length, List.length_set], ?_⟩
  rcases h1 with ⟨e, _⟩ | ⟨g', cap, cur, e, h1, h2, h3, h4, h5, h6⟩
  · cases e
  · injection e with e1 e2 e3
    injection e1 with e1
    injection e1 with e1
    subst e1 e2 e3
    refine .inr ⟨g, c, _, by simp, h1, set4_at h2, by simpa using h3, h4, by simpa using h5, ?_⟩
    rw [Array.toList_setIfInBounds, Array.toList_setIfInBounds, Array.toList_setIfInBounds, Array.toList_setIfInBounds, Array.toList_setIfInBounds, Array.toList_setIfInBounds, List.take_set, List.take_set, List.take_set, List.take_set, List.take_set, List.take_set, List.length_set, h6, ft_set]
attribute [local irreducible] set4
section
variable {W W' : World} {base hb f u t : Nat} {ov wv : Value} {es : List BE}
set_option maxHeartbeats 2000000 in
theorem Bok.mark (h : Bok W base hb ov wv es f u t) {i k : Nat} {e : BE} (he : es[i]? = some e) (hu : u ≤ i) (ht : i < t) (x : Tok) {go no co gw nw cw : Nat} (ho : e.o = .slice (some ⟨go, 0, none⟩) no co) (hw : e.w = .slice (some ⟨gw, 0, none⟩) nw cw) :
    Bok (set4 (set4 W go (k * 6) x) gw (k * 6) x) base hb ov wv (es.set i ⟨e.o, e.w, e.l.set k x⟩) f u t := by
  have hm := List.mem_of_getElem? he
  have hbo : e.o.ownBlock = some go := by rw [ho]; rfl
  have hbw : e.w.ownBlock = some gw := by rw [hw]; rfl
  obtain ⟨_, d1, ht1⟩ := row_typ (h.ro e hm) hbo
  obtain ⟨_, d2, ht2⟩ := row_typ (h.rw e hm) hbw
  have T : ∀ b, b ≠ go → b ≠ gw → (set4 (set4 W go (k * 6) x) gw (k * 6) x).heap[b]? = W.heap[b]? := fun b h1 h2 => by
    rw [set4_other _ gw _ _ b h2, set4_other _ go _ _ b h1]
  have TO : ∀ (b : Nat) (cur : Array Value) (y : TypeId), W.heap[b]? = some (Obj.cells cur y (0, 0)) → y ≠ 52 → (set4 (set4 W go (k * 6) x) gw (k * 6) x).heap[b]? = some (Obj.cells cur y (0, 0)) := fun b cur y hc hy => by
    rw [T b (typ_ne hc ht1 hy) (typ_ne hc ht2 hy)]
    exact hc
  have hA := alike_set he k x
  have hgw : go ≠ gw := fun e1 => (h.aw i i e e gw he he hbw).2 (by rw [hbo, e1])
  have hel : ∀ e' ∈ es.set i ⟨e.o, e.w, e.l.set k x⟩, OwnT (set4 (set4 W go (k * 6) x) gw (k * 6) x) base e'.o e'.l ∧ OwnT (set4 (set4 W go (k * 6) x) gw (k * 6) x) base e'.w e'.l ∧ e'.l.length ≤ 900000 := fun e' he' => by
    obtain ⟨j, hj⟩ := List.mem_iff_getElem?.1 he'
    by_cases hij : i = j
    · subst hij
      have hi := (List.getElem?_eq_some_iff.1 he).1
      rw [List.getElem?_set_self hi] at hj
      injection hj with hj
      subst hj
      refine ⟨?_, ?_, by simpa using h.sm e hm⟩
      · have h1 := h.ro e hm
        show OwnT _ base e.o _
        rw [ho] at h1 ⊢
        refine own_stays (own_set4 (k := k) h1 x) fun b cur h2 _ h4 => ?_
        have : go = b := by simpa [Value.ownBlock] using h2
        subst this
        rw [set4_other _ gw _ _ go hgw]
        exact h4
      · have h1 : OwnT (set4 W go (k * 6) x) base e.w e.l := own_stays (h.rw e hm) fun b cur h2 _ h4 => by
          rw [hbw] at h2
          injection h2 with h2
          subst h2
          rw [set4_other _ go _ _ gw hgw.symm]
          exact h4
        show OwnT _ base e.w _
        rw [hw] at h1 ⊢
        exact own_set4 (k := k) h1 x
    · rw [List.getElem?_set_ne hij] at hj
      have hm' := List.mem_of_getElem? hj
      have a1 := h.ao i j e e' go hu ht hij he hj hbo
      have a2 : e'.w.ownBlock ≠ some go := fun e1 => (h.aw j i e' e go hj he e1).2 hbo
      have a3 := h.aw i j e e' gw he hj hbw
      refine ⟨own_stays (h.ro e' hm') fun b cur h2 _ h4 => ?_, own_stays (h.rw e' hm') fun b cur h2 _ h4 => ?_, h.sm e' hm'⟩
      · rw [T b (fun e1 => a1 (by rw [h2, e1])) (fun e1 => a3.2 (by rw [h2, e1]))]
        exact h4
      · rw [T b (fun e1 => a2 (by rw [h2, e1])) (fun e1 => a3.1 hij (by rw [h2, e1]))]
        exact h4
  refine ⟨TO _ _ _ h.bk (by decide), h.hb, ?_, ?_, fun e' he' => (hel e' he').1, fun e' he' => (hel e' he').2.1, aw_alike hA h.aw, ao_alike hA h.ao, h.ow, by rw [hA.len]; exact h.few, fun e' he' => (hel e' he').2.2, by rw [hA.len]; exact h.fr⟩
  · rw [hA.len, hA.o]
    exact own_stays h.out fun b cur _ _ h4 => TO b cur _ h4 (by decide)
  · rw [hA.len, hA.w]
    exact own_stays h.want fun b cur _ _ h4 => TO b cur _ h4 (by decide)
/-- a row of blocks that is none of the book's grows -/
theorem Bok.row (h : Bok W base hb ov wv es f u t) {x : Option Nat} (hg : W.grownBy W' x) (hx : ∀ b, x = some b → b ∉ blksO es ∧ ∃ cur, W.heap[b]? = some (.cells cur 52 (0, 0))) : Bok W' base hb ov wv es f u t := by
  have K : ∀ (b : Nat) (cur : Array Value) (y : TypeId), W.heap[b]? = some (Obj.cells cur y (0, 0)) → (y ≠ 52 ∨ b ∈ blksO es) → W'.heap[b]? = some (Obj.cells cur y (0, 0)) := fun b cur y hc hy => by
    rw [hg.block b (Array.getElem?_eq_some_iff.1 hc).1 (fun e => ?_)]
    · exact hc
    · obtain ⟨h1, d, h2⟩ := hx b e.symm
      rcases hy with hy | hy
      · exact typ_ne hc h2 hy rfl
      · exact h1 hy
  exact ⟨K _ _ _ h.bk (.inl (by decide)), h.hb, own_stays h.out fun b cur _ _ h2 => K b cur 47 h2 (.inl (by decide)), own_stays h.want fun b cur _ _ h2 => K b cur 47 h2 (.inl (by decide)), fun e he => own_stays (h.ro e he) fun b cur h1 _ h2 => K b cur 52 h2 (.inr (blks_mem.2 ⟨e, he, .inl h1⟩)), fun e he => own_stays (h.rw e he) fun b cur h1 _ h2 => K b cur 52 h2 (.inr (blks_mem.2 ⟨e, he, .inr h1⟩)), h.aw, h.ao, h.ow, h.few, h.sm, h.fr⟩
end
theorem row_nilK {W : World} {base : Nat} {v : Value} {l : List Tok} (h : OwnT W base v l) : ∃ a cap, v = .slice a l.length cap := by
  rcases h.2 with ⟨e1, h0⟩ | ⟨g, cap, cur, e1, h1, h2, h3, h4, h5, h6⟩
  · exact ⟨_, _, by rw [e1, h0]⟩
  · exact ⟨_, _, e1⟩
theorem row_someK {W : World} {base : Nat} {v : Value} {l : List Tok} (h : OwnT W base v l) (hn : l.length ≠ 0) : ∃ g cap, v = .slice (some ⟨g, 0, none⟩) l.length cap ∧ base ≤ g ∧ l.length ≤ cap ∧ ∀ (j : Nat) (u : Value), (ft l)[j]? = some u → W.cell? ⟨g, j, none⟩ = some u := by
  rcases h.2 with ⟨_, h0⟩ | ⟨g, cap, cur, e1, h1, h2, h3, h4, h5, h6⟩
  · exact absurd h0 hn
  · refine ⟨g, cap, e1, h1, h3, fun j u hj => ?_⟩
    rw [← h6] at hj
    simp only [World.cell?, h2]
    have : cur.toList[j]? = some u := by
      rw [List.getElem?_take] at hj
      split at hj
      · exact hj
      · cases hj
    simpa using this
/-- a shorter list in the block of one that grew -/
theorem own_share {W W' : World} {base g m n n' c : Nat} {l lo ext : List Tok} (h : OwnT W base (.slice (some ⟨g, 0, none⟩) m c) l) (h2 : OwnT W base (.slice (some ⟨g, 0, none⟩) n c) lo) (hmn : m ≤ n) (h3 : OwnT W' base (.slice (some ⟨g, 0, none⟩) n' c) (lo ++ ext)) : OwnT W' base (.slice (some ⟨g, 0, none⟩) m c) l := by
  obtain ⟨h0, h1⟩ := h
  obtain ⟨_, h2⟩ := h2
  obtain ⟨_, h3⟩ := h3
  refine ⟨h0, ?_⟩
  rcases h1 with ⟨e, _⟩ | ⟨g1, c1, cur, e, a1, a2, a3, a4, a5, a6⟩
  · cases e
  rcases h2 with ⟨e2, _⟩ | ⟨g2, c2, cur2, e2, b1, b2, b3, b4, b5, b6⟩
  · cases e2
  rcases h3 with ⟨e3, _⟩ | ⟨g3, c3, cur3, e3, d1, d2, d3, d4, d5, d6⟩
  · cases e3
  injection e with x1 x2 x3
  injection x1 with x1
  injection x1 with x1
  injection e2 with y1 y2 y3
  injection y1 with y1
  injection y1 with y1
  injection e3 with z1 z2 z3
  injection z1 with z1
  injection z1 with z1
  subst x1 x3 y1 y3 z1 z3
  rw [a2] at b2
  injection b2 with b2
  injection b2 with b2
  subst b2
  refine .inr ⟨g, c, cur3, by rw [x2], a1, d2, a3, a4, d5, ?_⟩
  rw [← ft_length] at a6 b6 d6 ⊢
  have k1 : (ft l).length ≤ (ft lo).length := by rw [ft_length, ft_length]; omega
  have k2 : (ft lo).length ≤ (ft (lo ++ ext)).length := by rw [ft_append, List.length_append]; omega
  have e1 : (cur3.toList.take (ft (lo ++ ext)).length).take (ft lo).length = ft lo := by rw [d6, ft_append, List.take_left]
  have e2 : (cur3.toList.take (ft lo).length).take (ft l).length = (cur.toList.take (ft lo).length).take (ft l).length := by
    rw [b6]
    rw [List.take_take, Nat.min_eq_left k2] at e1
    rw [e1]
  rw [List.take_take, List.take_take, Nat.min_eq_left k1, a6] at e2
  exact e2
/-- one block behind blocks: in their own row, or, where there is no room, in a new one -/
theorem run_pushK (w : World) (ty : TypeId) (base : Nat) (v : Value) (l : List Tok) (gs c : Nat) (p : Tok) (hc : KAt w gs 0 p) (hl : l.length ≤ 3000000) (hbase : base ≤ w.heap.size) (ho : OwnT w base v l) :
    ∃ v' w', (Builtin.append_ #[47, 47] ty #[v, .slice (some ⟨gs, 0, none⟩) 1 c]).run Tryz.prog w = .ok v' w' ∧ OwnT w' base v' (l ++ [p]) ∧ IsSl v' ∧ ((w.grownBy w' none ∧ ∃ g, v'.ownBlock = some g ∧ w.heap.size ≤ g) ∨ ∃ g n k, v = .slice (some ⟨g, 0, none⟩) n k ∧ v' = .slice (some ⟨g, 0, none⟩) (n + 1) k ∧ w.grownBy w' (some g)) := by
  obtain ⟨i0, hi0, hz0, hz1, hz2⟩ := info_parts info47
  have hc' : ∀ j u, (ft [p])[j]? = some u → w.cell? ((⟨gs, 0, none⟩ : Addr).add j) = some u := fun j u hj => by
    rw [add_at2]
    rw [Nat.zero_add]
    refine reads_ft (l := [p]) (fun j x hj => ?_) hj
    have h0 : j = 0 := by have := (List.getElem?_eq_some_iff.1 hj).1; simpa using this
    subst h0
    obtain rfl : p = x := by simpa using hj
    exact hc
  have one : ∀ v' w', w'.ownsRow base 52 6 v' (l.length + 1) (ft l ++ ft [p]) → OwnT w' base v' (l ++ [p]) := fun v' w' k => by
    unfold OwnT
    rw [ft_append, List.length_append]
    exact k
  rcases ho.2 with ⟨hv, h0⟩ | ⟨g, cap, cur, hv, k1, k2, k3, k4, k5, k6⟩
  · subst hv
    have hl0 : l = [] := List.eq_nil_of_length_eq_zero h0
    subst hl0
    obtain ⟨v', w', h1, h2, h3, h4, h5⟩ := run_append_own_at (P := Tryz.prog) w base 47 ty 52 i0 _ 6 56 Tryz.underlying47 hi0 hz0 hz1 hz2 rfl (by decide) (.slice none 0 0) 0 [] (World.ownsRow_nil w _ 52 6) ⟨gs, 0, none⟩ 1 c (ft [p]) (ft_length [p]) hc' (ft_one _) (by unfold maxLen; omega) (by omega) hbase
    have hO := one v' w' (by simpa [ft] using h2)
    have hx : ∃ g, v'.ownBlock = some g ∧ w.heap.size ≤ g := by
      rcases h5 with h5 | h5
      · rcases h2.2 with ⟨_, e⟩ | ⟨g, cap, cur, e, _⟩
        · cases e
        · rw [e] at h5; cases h5
      · exact ⟨_, h5, Nat.le_refl _⟩
    obtain ⟨a, d, e⟩ := row_nilK hO
    exact ⟨v', w', h1, hO, ⟨_, _, _, e⟩, .inl ⟨h3, hx⟩⟩
  · subst hv
    by_cases hr : cap < l.length + 1
    · have hne : cap = l.length := by omega
      subst hne
      obtain ⟨v', w', h1, h2, h3⟩ := run_append_arg_grows (P := Tryz.prog) w 47 ty 52 i0 _ 6 56 Tryz.underlying47 hi0 hz0 hz1 hz2 rfl (by decide) ⟨g, 0, none⟩ l.length l.length (ft l) (ft_length l) (fun j u hj => by
        rw [add_at2, Nat.zero_add]
        obtain ⟨g2, c2, e2, _, _, hcell⟩ := row_someK ho (fun h0 => by rw [List.eq_nil_of_length_eq_zero h0] at hj; simp [ft] at hj)
        injection e2 with e2 _ _
        injection e2 with e2
        injection e2 with e2
        subst e2
        exact hcell j u hj) ⟨gs, 0, none⟩ 1 c (ft [p]) (ft_length [p]) hc' (by omega) (by unfold maxLen; omega) (by omega)
      have hO := one v' w' (Joins.ownsRow_le h2 hbase)
      have hx : ∃ g, v'.ownBlock = some g ∧ w.heap.size ≤ g := by
        rcases h2.2 with ⟨_, e⟩ | ⟨g2, cap, cur2, e, q1, q2, _⟩
        · cases e
        · exact ⟨g2, by rw [e]; rfl, q1⟩
      obtain ⟨a, d, e⟩ := row_nilK hO
      exact ⟨v', w', h1, hO, ⟨_, _, _, e⟩, .inl ⟨h3, hx⟩⟩
    · obtain ⟨v', w', h1, h2, h3, h4, h5⟩ := run_append_own_at (P := Tryz.prog) w base 47 ty 52 i0 _ 6 56 Tryz.underlying47 hi0 hz0 hz1 hz2 rfl (by decide) (.slice (some ⟨g, 0, none⟩) l.length cap) l.length (ft l) ho ⟨gs, 0, none⟩ 1 c (ft [p]) (ft_length [p]) hc' (ft_one _) (by unfold maxLen; omega) (by omega) hbase
      have hs4 : i0.size = 6 := hz1
      have hx := run_append_room_cells (P := Tryz.prog) w 47 ty 52 i0 Tryz.underlying47 hi0 g 0 l.length cap ⟨gs, 0, none⟩ 1 c (ft [p]) (by rw [hs4]; exact ft_length [p]) hc' (ft_one _) (by omega) (fun j hj => by
        have hj4 : j < 6 := by rw [ft_length] at hj; simpa using hj
        have : l.length * i0.size + j < cur.size := by rw [hs4, k5]; omega
        simp only [World.cell?, k2]
        simp only [Nat.zero_add, Array.getElem?_eq_getElem this]
        rfl) (fun j hj => by simp [World.frozen?, k2])
      rw [h1] at hx
      injection hx with e1 e2
      have hO := one v' w' h2
      obtain ⟨a, d, e⟩ := row_nilK hO
      exact ⟨v', w', h1, hO, ⟨_, _, _, e⟩, .inr ⟨g, l.length, cap, rfl, e1, h3⟩⟩
/-- two lists beside the book: the first one is none of the book's, or lies in the block of the book's list that it grew from -/
structure R30 (W : World) (base hb : Nat) (ov wv : Value) (es : List BE) (f u t i : Nat) (lv : Value) (lo : List Tok) (mv : Value) (lm : List Tok) : Prop where
  bk : Bok W base hb ov wv es f u t
  lo : OwnT W base lv lo
  mo : OwnT W base mv lm
  la : (∀ b, lv.ownBlock = some b → b ∉ blksO es) ∨ ∃ e g m n c, es[i]? = some e ∧ e.o = .slice (some ⟨g, 0, none⟩) m c ∧ lv = .slice (some ⟨g, 0, none⟩) n c ∧ m ≤ n
  ma : ∀ b, mv.ownBlock = some b → b ∉ blksO es ∧ lv.ownBlock ≠ some b
  iu : u ≤ i
  it : i < t
section
variable {W W' : World} {base hb f u t i : Nat} {ov wv : Value} {es : List BE} {lv mv : Value} {lo lm : List Tok}
theorem Bok.bz (h : Bok W base hb ov wv es f u t) : base ≤ W.heap.size := by have := h.hb; have := (Array.getElem?_eq_some_iff.1 h.bk).1; omega
theorem blks_size (h : Bok W base hb ov wv es f u t) {b : Nat} (hb' : W.heap.size ≤ b) : b ∉ blksO es := fun k => by
  obtain ⟨_, h4⟩ := blks_lt h k
  have := (Array.getElem?_eq_some_iff.1 h4).1
  omega
/-- a row that lies in the block of one of the book's lists grows -/
theorem Bok.rowS (h : Bok W base hb ov wv es f u t) {g : Nat} {e : BE} (hg : W.grownBy W' (some g)) (hu : u ≤ i) (ht : i < t) (he : es[i]? = some e) (hb' : e.o.ownBlock = some g) (hk : OwnT W' base e.o e.l) : Bok W' base hb ov wv es f u t := by
  obtain ⟨_, d, ht1⟩ := row_typ (h.ro e (List.mem_of_getElem? he)) hb'
  have T : ∀ (b : Nat) (cur : Array Value) (y : TypeId), W.heap[b]? = some (Obj.cells cur y (0, 0)) → b ≠ g → W'.heap[b]? = some (Obj.cells cur y (0, 0)) := fun b cur y hc hy => by
    rw [hg.block b (Array.getElem?_eq_some_iff.1 hc).1 (fun e => hy (by injection e))]
    exact hc
  refine ⟨T _ _ _ h.bk (typ_ne h.bk ht1 (by decide)), h.hb, own_stays h.out fun b cur _ _ h2 => T b cur 47 h2 (typ_ne h2 ht1 (by decide)), own_stays h.want fun b cur _ _ h2 => T b cur 47 h2 (typ_ne h2 ht1 (by decide)), fun e' he' => ?_, fun e' he' => ?_, h.aw, h.ao, h.ow, h.few, h.sm, h.fr⟩
  · obtain ⟨j, hj⟩ := List.mem_iff_getElem?.1 he'
    by_cases hij : i = j
    · subst hij
      rw [he] at hj
      injection hj with hj
      subst hj
      exact hk
    · exact own_stays (h.ro e' he') fun b cur h1 _ h2 => T b cur 52 h2 (fun e1 => h.ao i j e e' g hu ht hij he hj hb' (by rw [h1, e1]))
  · obtain ⟨j, hj⟩ := List.mem_iff_getElem?.1 he'
    exact own_stays (h.rw e' he') fun b cur h1 _ h2 => T b cur 52 h2 (fun e1 => (h.aw j i e' e b hj he h1).2 (by rw [hb', e1]))
theorem R30.grown (h : R30 W base hb ov wv es f u t i lv lo mv lm) (k : Grown W W') : R30 W' base hb ov wv es f u t i lv lo mv lm :=
  ⟨h.bk.grown k, h.lo.below k.below (Nat.le_refl _), h.mo.below k.below (Nat.le_refl _), h.la, h.ma, h.iu, h.it⟩
/-- the first list grows -/
theorem R30.stepL (h : R30 W base hb ov wv es f u t i lv lo mv lm) {v' : Value} {p : Tok} (h1 : OwnT W' base v' (lo ++ [p])) (hv : (W.grownBy W' none ∧ ∃ g, v'.ownBlock = some g ∧ W.heap.size ≤ g) ∨ ∃ g n k, lv = .slice (some ⟨g, 0, none⟩) n k ∧ v' = .slice (some ⟨g, 0, none⟩) (n + 1) k ∧ W.grownBy W' (some g)) : R30 W' base hb ov wv es f u t i v' (lo ++ [p]) mv lm ∧ Below base W W' := by
  rcases hv with ⟨hg, g, e1, hge⟩ | ⟨g, n, k, e1, e2, hg⟩
  · have hlt : ∀ b, mv.ownBlock = some b → b < W.heap.size := fun b hb' => (World.ownsRow.lt h.mo b hb').2
    refine ⟨⟨h.bk.row hg (fun b hb' => by cases hb'), h1, own_stays h.mo fun b cur h2 _ h3 => ?_, .inl fun b hb' => ?_, fun b hb' => ⟨(h.ma b hb').1, fun e => ?_⟩, h.iu, h.it⟩, (Below.refl _ W).grown hg h.bk.bz (fun b hb' => by cases hb')⟩
    · rw [hg.block b (Array.getElem?_eq_some_iff.1 h3).1 (fun e => by cases e)]
      exact h3
    · rw [e1] at hb'
      injection hb' with hb'
      subst hb'
      exact blks_size h.bk hge
    · rw [e1] at e
      injection e with e
      have := hlt b hb'
      omega
  · have hlb : lv.ownBlock = some g := by rw [e1]; rfl
    have hvb : v'.ownBlock = some g := by rw [e2]; rfl
    have hmo : OwnT W' base mv lm := own_stays h.mo fun b cur h2 _ h3 => by
      rw [hg.block b (Array.getElem?_eq_some_iff.1 h3).1 (fun e => ?_)]
      · exact h3
      · injection e with e
        exact (h.ma b h2).2 (by rw [hlb, e])
    have hma : ∀ b, mv.ownBlock = some b → b ∉ blksO es ∧ v'.ownBlock ≠ some b := fun b hb' => ⟨(h.ma b hb').1, fun e => (h.ma b hb').2 (by rw [hlb, ← hvb]; exact e)⟩
    have hbel : Below base W W' := (Below.refl _ W).grown hg h.bk.bz (fun b hb' => by
      injection hb' with hb'
      exact (row_typ h.lo (by rw [hlb, hb'])).1)
    rcases h.la with hla | ⟨e, g', m, n', c, he, ho, hl, hmn⟩
    · refine ⟨⟨h.bk.row hg fun b hb' => ?_, h1, hmo, .inl fun b hb' => ?_, hma, h.iu, h.it⟩, hbel⟩
      · injection hb' with hb'
        subst hb'
        exact ⟨hla g hlb, (row_typ h.lo hlb).2⟩
      · exact hla b (by rw [hlb, ← hvb]; exact hb')
    · rw [e1] at hl
      injection hl with l1 l2 l3
      injection l1 with l1
      injection l1 with l1
      subst l1 l2 l3
      have hlo := h.lo
      rw [e1] at hlo
      have hro := h.bk.ro e (List.mem_of_getElem? he)
      rw [ho] at hro
      rw [e2] at h1
      have hk : OwnT W' base e.o e.l := by
        rw [ho]
        exact own_share hro hlo hmn h1
      refine ⟨⟨h.bk.rowS hg h.iu h.it he (by rw [ho]; rfl) hk, by rw [e2]; exact h1, hmo, .inr ⟨e, g, m, n + 1, k, he, ho, e2, by omega⟩, hma, h.iu, h.it⟩, hbel⟩
/-- the second list grows -/
theorem R30.stepM (h : R30 W base hb ov wv es f u t i lv lo mv lm) {v' : Value} {p : Tok} (h1 : OwnT W' base v' (lm ++ [p])) (hv : (W.grownBy W' none ∧ ∃ g, v'.ownBlock = some g ∧ W.heap.size ≤ g) ∨ ∃ g n k, mv = .slice (some ⟨g, 0, none⟩) n k ∧ v' = .slice (some ⟨g, 0, none⟩) (n + 1) k ∧ W.grownBy W' (some g)) : R30 W' base hb ov wv es f u t i lv lo v' (lm ++ [p]) ∧ Below base W W' := by
  have hlt : ∀ b, lv.ownBlock = some b → b < W.heap.size := fun b hb' => (World.ownsRow.lt h.lo b hb').2
  rcases hv with ⟨hg, g, e1, hge⟩ | ⟨g, n, k, e1, e2, hg⟩
  · refine ⟨⟨h.bk.row hg (fun b hb' => by cases hb'), own_stays h.lo fun b cur h2 _ h3 => ?_, h1, h.la, fun b hb' => ?_, h.iu, h.it⟩, (Below.refl _ W).grown hg h.bk.bz (fun b hb' => by cases hb')⟩
    · rw [hg.block b (Array.getElem?_eq_some_iff.1 h3).1 (fun e => by cases e)]
      exact h3
    · rw [e1] at hb'
      injection hb' with hb'
      subst hb'
      exact ⟨blks_size h.bk hge, fun e => by have := hlt _ e; omega⟩
  · have hlb : mv.ownBlock = some g := by rw [e1]; rfl
    have hvb : v'.ownBlock = some g := by rw [e2]; rfl
    refine ⟨⟨h.bk.row hg fun b hb' => ?_, own_stays h.lo fun b cur h2 _ h3 => ?_, h1, h.la, fun b hb' => h.ma b (by rw [hlb, ← hvb]; exact hb'), h.iu, h.it⟩, (Below.refl _ W).grown hg h.bk.bz (fun b hb' => by
      injection hb' with hb'
      exact (row_typ h.mo (by rw [hlb, hb'])).1)⟩
    · injection hb' with hb'
      subst hb'
      exact ⟨(h.ma g hlb).1, (row_typ h.mo hlb).2⟩
    · rw [hg.block b (Array.getElem?_eq_some_iff.1 h3).1 (fun e => ?_)]
      · exact h3
      · injection e with e
        exact (h.ma g hlb).2 (by rw [h2, e])
theorem push_L30 {ops : Array Oper} {rest : List Oper} {o : Oper} {a : Act} {Q : Exit → Act → World → Prop} (hgd : o.guard = none) (s x : Operand) (hop : o.op = .call { callee := .builtin .append, args := #[s, x], argTypes := #[47, 47] })
    (hs : a.eval s = lv) (h : R30 W base hb ov wv es f u t i lv lo mv lm) (gs c : Nat) (p : Tok) (hx : a.eval x = .slice (some ⟨gs, 0, none⟩) 1 c) (hc : KAt W gs 0 p) (hl : lo.length ≤ 3000000)
    (hK : ∀ v' w', R30 w' base hb ov wv es f u t i v' (lo ++ [p]) mv lm → Below base W w' → IsSl v' → wpList Tryz.prog ops Q rest (a.put o.dst v') w') : wpList Tryz.prog ops Q (o :: rest) a W := by
  refine wpList_plain hgd fun K hK2 => ?_
  obtain ⟨v', w', hr, h1, h6, h2⟩ := run_pushK W o.type base lv lo gs c p hc hl h.bk.bz h.lo
  unfold Oper.wp execOp
  simp only [hop, resolve, invoke, builtin, Sem.run_bind, Sem.run_pure, Result.andThen_ok, List.map_toArray, List.map_cons, List.map_nil, hs, hx, hr]
  obtain ⟨k1, k2⟩ := h.stepL h1 h2
  exact hK2 _ _ (hK v' w' k1 k2 h6)
theorem push_M30 {ops : Array Oper} {rest : List Oper} {o : Oper} {a : Act} {Q : Exit → Act → World → Prop} (hgd : o.guard = none) (s x : Operand) (hop : o.op = .call { callee := .builtin .append, args := #[s, x], argTypes := #[47, 47] })
    (hs : a.eval s = mv) (h : R30 W base hb ov wv es f u t i lv lo mv lm) (gs c : Nat) (p : Tok) (hx : a.eval x = .slice (some ⟨gs, 0, none⟩) 1 c) (hc : KAt W gs 0 p) (hl : lm.length ≤ 3000000)
    (hK : ∀ v' w', R30 w' base hb ov wv es f u t i lv lo v' (lm ++ [p]) → Below base W w' → IsSl v' → wpList Tryz.prog ops Q rest (a.put o.dst v') w') : wpList Tryz.prog ops Q (o :: rest) a W := by
  refine wpList_plain hgd fun K hK2 => ?_
  obtain ⟨v', w', hr, h1, h6, h2⟩ := run_pushK W o.type base mv lm gs c p hc hl h.bk.bz h.mo
  unfold Oper.wp execOp
  simp only [hop, resolve, invoke, builtin, Sem.run_bind, Sem.run_pure, Result.andThen_ok, List.map_toArray, List.map_cons, List.map_nil, hs, hx, hr]
  obtain ⟨k1, k2⟩ := h.stepM h1 h2
  exact hK2 _ _ (hK v' w' k1 k2 h6)
/-- fresh is set: no list from there on -/
theorem Bok.fresh (h : Bok W base hb ov wv es f u t) : Bok (W.setCell ⟨hb, 2, none⟩ (.int .i64 es.length)) base hb ov wv es es.length es.length es.length := by
  have T := turns_set W hb 2 (.int .i64 es.length)
  have K : ∀ (b : Nat) (cur : Array Value) (y : TypeId), W.heap[b]? = some (Obj.cells cur y (0, 0)) → y ≠ 26 → (W.setCell ⟨hb, 2, none⟩ (.int .i64 es.length)).heap[b]? = some (Obj.cells cur y (0, 0)) := fun b cur y hc hy => by
    rw [T b (typ_ne hc h.bk hy)]
    exact hc
  refine ⟨?_, h.hb, own_stays h.out fun b cur _ _ h2 => K b cur 47 h2 (by decide), own_stays h.want fun b cur _ _ h2 => K b cur 47 h2 (by decide), fun e he => own_stays (h.ro e he) fun b cur h1 _ h2 => K b cur 52 h2 (by decide), fun e he => own_stays (h.rw e he) fun b cur h1 _ h2 => K b cur 52 h2 (by decide), h.aw, fun i j e e' b h1 h2 => by omega, h.ow, h.few, h.sm, Nat.le_refl _⟩
  have := cells_setS (j := 2) (u := .int .i64 es.length) h.bk
  simpa using this
end
/-- what lies where while the book is written into -/
structure W1 (w : World) (base hb : Nat) (ov wv : Value) (es : List BE) (f n : Nat) (W : World) : Prop where
  bk : ∃ es', Bok W base hb ov wv es' f f n ∧ Alike es es'
  bel : Below base w W
theorem W1.grown {w : World} {base hb : Nat} {ov wv : Value} {es : List BE} {f n : Nat} {W W' : World} (h : W1 w base hb ov wv es f n W) (k : Grown W W') : W1 w base hb ov wv es f n W' := by
  obtain ⟨es', h1, h2⟩ := h.bk
  exact ⟨⟨es', h1.grown k, h2⟩, h.bel.trans (k.below.mono (Nat.le_trans h1.bz (Nat.le_refl _)))⟩
theorem own_atK {W : World} {base g n c : Nat} {l : List Tok} (h : OwnT W base (.slice (some ⟨g, 0, none⟩) n c) l) {k : Nat} (hk : k < l.length) : (∃ x, KAt W g (k * 6) x) ∧ ∀ j, W.frozen? ⟨g, j, none⟩ = false := by
  obtain ⟨A, c', e, hr⟩ := h.rt
  refine ⟨⟨l[k], ?_⟩, fun j => ?_⟩
  · obtain ⟨g', e', hd⟩ := hr.resolve_left (fun e => by rw [e] at hk; simp at hk)
    injection e with e1 e2 e3
    rw [e'] at e1
    injection e1 with e1
    injection e1 with e1
    subst e1
    exact hd k _ (List.getElem?_eq_getElem hk)
  · obtain ⟨_, cur, h2⟩ := row_typ h rfl
    simp [World.frozen?, h2]
theorem row_same {W : World} {base n c m : Nat} {a : Option Addr} {e : TypeId} {xs : List Value} (h : W.ownsRow base e 1 (.slice a n c) m xs) (hm : m ≠ 0) : ∃ g, a = some ⟨g, 0, none⟩ ∧ n = m ∧ m ≤ c ∧ ∀ (j : Nat) (u : Value), xs[j]? = some u → W.cell? ⟨g, j, none⟩ = some u := by
  obtain ⟨g, cap, e1, _, h2, h3⟩ := row_some h hm
  injection e1 with e1 e2 e3
  subst e3
  exact ⟨g, e1, e2, h2, h3⟩
theorem row_sameK {W : World} {base n c : Nat} {a : Option Addr} {l : List Tok} (h : OwnT W base (.slice a n c) l) (hm : l.length ≠ 0) : ∃ g, a = some ⟨g, 0, none⟩ ∧ n = l.length ∧ l.length ≤ c := by
  obtain ⟨g, cap, e1, _, h2, _⟩ := row_someK h hm
  injection e1 with e1 e2 e3
  subst e3
  exact ⟨g, e1, e2, h2⟩
theorem W1.mark {w : World} {base hb : Nat} {ov wv : Value} {es es' : List BE} {f n : Nat} {W : World} (h : Bok W base hb ov wv es' f f n) (hA : Alike es es') (hb' : Below base w W) {i k : Nat} {e : BE} (he : es'[i]? = some e) (hf : f ≤ i) (hn : i < n) (x : Tok) {go no co gw nw cw : Nat} (ho : e.o = .slice (some ⟨go, 0, none⟩) no co) (hw : e.w = .slice (some ⟨gw, 0, none⟩) nw cw) : W1 w base hb ov wv es f n (set4 (set4 W go (k * 6) x) gw (k * 6) x) := by
  have hm := List.mem_of_getElem? he
  refine ⟨⟨_, h.mark he hf hn x ho hw, hA.trans (alike_set he k x)⟩, ?_⟩
  exact (hb'.trans (set4_below (row_typ (h.ro e hm) (b := go) (by rw [ho]; rfl)).1)).trans (set4_below (row_typ (h.rw e hm) (b := gw) (by rw [hw]; rfl)).1)
/-- what the second of two marks finds -/
theorem second {base hb : Nat} {ov wv : Value} {es : List BE} {f u n : Nat} {W : World} (h : Bok W base hb ov wv es f u n) {i k : Nat} {e : BE} (he : es[i]? = some e) (x : Tok) {go no co gw nw cw : Nat} (ho : e.o = .slice (some ⟨go, 0, none⟩) no co) (hw : e.w = .slice (some ⟨gw, 0, none⟩) nw cw) (hk : k < e.l.length) :
    (set4 W go (k * 6) x).cell? ⟨hb, 1, none⟩ = some wv ∧ (∀ (g1 : Nat), wv.ownBlock = some g1 → ∀ j, (set4 W go (k * 6) x).cell? ⟨g1, j, none⟩ = W.cell? ⟨g1, j, none⟩) ∧ (∃ y, KAt (set4 W go (k * 6) x) gw (k * 6) y) ∧ ∀ j, (set4 W go (k * 6) x).frozen? ⟨gw, j, none⟩ = false := by
  have hm := List.mem_of_getElem? he
  have hbo : e.o.ownBlock = some go := by rw [ho]; rfl
  have hbw : e.w.ownBlock = some gw := by rw [hw]; rfl
  obtain ⟨_, d1, ht1⟩ := row_typ (h.ro e hm) hbo
  have T : ∀ b, b ≠ go → (set4 W go (k * 6) x).heap[b]? = W.heap[b]? := fun b hb' => set4_other W go _ x b hb'
  have hne : gw ≠ go := fun e1 => (h.aw i i e e gw he he hbw).2 (by rw [hbo, e1])
  have cs : ∀ b j, b ≠ go → (set4 W go (k * 6) x).cell? ⟨b, j, none⟩ = W.cell? ⟨b, j, none⟩ := fun b j hb' => by simp only [World.cell?]; rw [T b hb']
  have h1 := h.rw e hm
  rw [hw] at h1
  obtain ⟨⟨y, y0, y1, y2, y3, y4, y5⟩, hf⟩ := own_atK h1 hk
  refine ⟨(cs hb 1 (typ_ne h.bk ht1 (by decide))).trans h.cell.2.1, fun g1 hg1 j => ?_, ⟨y, (cs gw _ hne).trans y0, (cs gw _ hne).trans y1, (cs gw _ hne).trans y2, (cs gw _ hne).trans y3, (cs gw _ hne).trans y4, (cs gw _ hne).trans y5⟩, fun j => ?_⟩
  · obtain ⟨_, d, h2⟩ := row_typ h.want hg1
    exact cs g1 j (typ_ne h2 ht1 (by decide))
  · have := hf j
    simp only [World.frozen?] at this ⊢
    rw [T gw hne]
    exact this
section
variable {W w6 W3 : World} {base hb f u t i : Nat} {ov wv : Value} {es : List BE} {lv mv ov' : Value} {ll : List Tok}
theorem K1.want (h : Bok W base hb ov wv es f u t) (k : K1 W base hb ov wv es f lv ll ov' w6) : w6.ownsRow base 47 1 wv es.length (es.map BE.w) := by
  refine own_stays h.want fun b cur h1 _ h3 => ?_
  rw [k.blk b (Array.getElem?_eq_some_iff.1 h3).1 (typ_ne h3 h.bk (by decide)) (fun e => ?_)]
  · exact h3
  · rcases h.ow with h6 | h6
    · rw [h6] at e; cases e
    · exact h6 (e.trans h1.symm)
theorem R30.aw (h : R30 W base hb ov wv es f u t i lv ll mv ll) : AW (es ++ [(⟨lv, mv, ll⟩ : BE)]) := by
  refine aw_snoc h.bk.aw h.ma fun b hb' e' he' e1 => ?_
  rcases h.la with hla | ⟨e, g, m, n, c, he, ho, hl, _⟩
  · exact hla b hb' (blks_mem.2 ⟨e', he', .inr e1⟩)
  · obtain ⟨j, hj⟩ := List.mem_iff_getElem?.1 he'
    refine (h.bk.aw j i e' e b hj he e1).2 ?_
    rw [ho]
    have hb2 : lv.ownBlock = some b := hb'
    rw [hl] at hb2
    exact hb2
theorem R30.ao (h : R30 W base hb ov wv es f u t i lv ll mv ll) (ht : t ≤ es.length) : AO (es ++ [(⟨lv, mv, ll⟩ : BE)]) (i + 1) t := by
  have h0 : AO es (i + 1) t := fun a b e e' x h1 => h.bk.ao a b e e' x (by have := h.iu; omega)
  refine ao_snoc h0 ht fun j e' b hj hjt hje hb' e1 => ?_
  rcases h.la with hla | ⟨e, g, m, n, c, he, ho, hl, _⟩
  · exact hla b e1 (blks_mem.2 ⟨e', List.mem_of_getElem? hje, .inl hb'⟩)
  · refine h.bk.ao i j e e' b h.iu h.it (by omega) he hje ?_ hb'
    rw [ho]
    have hb2 : lv.ownBlock = some b := e1
    rw [hl] at hb2
    exact hb2
theorem R30.done (h : R30 W base hb ov wv es f u t i lv ll mv ll) (ht : t ≤ es.length) (hn : ll.length ≤ 900000) (hes : es.length ≤ 99) (k : K1 W base hb ov wv es f lv ll ov' w6) {g c : Nat} {ob : Obj} (ho : W3.ownsRow base 47 1 (.slice (some ⟨g, 0, none⟩) (es.length + 1) c) (es.length + 1) (es.map BE.w ++ [mv])) (hg : (w6.alloc ob).grownBy W3 wv.ownBlock) (hG : wv.ownBlock = some g ∨ g = (w6.alloc ob).heap.size) :
    W3.heap[hb]? = some (.cells #[ov', wv, .int .i64 f] 26 (0, 0)) ∧ Bok (W3.setCell ⟨hb, 1, none⟩ (.slice (some ⟨g, 0, none⟩) (es.length + 1) c)) base hb ov' (.slice (some ⟨g, 0, none⟩) (es.length + 1) c) (es ++ [⟨lv, mv, ll⟩]) f (i + 1) t ∧ Below base W (W3.setCell ⟨hb, 1, none⟩ (.slice (some ⟨g, 0, none⟩) (es.length + 1) c)) := by
  have hb6 := (Array.getElem?_eq_some_iff.1 k.bk).1
  have hsz : (w6.alloc ob).heap.size = w6.heap.size + 1 := Array.size_push _
  have hg' : w6.grownBy W3 wv.ownBlock := ⟨hg.os, hg.tape, hg.output, by have := hg.size; omega, fun b hb' hne => (hg.block b (by omega) hne).trans (Below.heap_alloc w6 ob b hb')⟩
  have h3b : W3.heap[hb]? = some (.cells #[ov', wv, .int .i64 f] 26 (0, 0)) := (hg'.block hb hb6 (fun e => h.bk.nw e.symm)).trans k.bk
  have hm : OwnT W3 base mv ll := own_stays h.mo fun b cur h1 _ h3 => by
    have e1 := k.blk b (Array.getElem?_eq_some_iff.1 h3).1 (typ_ne h3 h.bk.bk (by decide)) (fun e => by obtain ⟨_, d, h2⟩ := row_typ h.bk.out e; exact typ_ne h3 h2 (by decide) rfl)
    have h6 := e1.trans h3
    rw [hg'.block b (Array.getElem?_eq_some_iff.1 h6).1 (fun e => by obtain ⟨_, d, h2⟩ := row_typ h.bk.want e.symm; exact typ_ne h3 h2 (by decide) rfl)]
    exact h6
  have := k2_of h.bk h.lo h.aw (h.ao ht) hn hes k hm ho hg' (hG.imp id fun e => by omega)
  exact ⟨h3b, this.1, this.2.2.1⟩
end
/-- what lies where while the lists of the book grow -/
def W2 (w : World) (base hb f n N i : Nat) (W : World) : Prop :=
  ∃ ov wv es, Bok W base hb ov wv es f i n ∧ es.length = n + (i - f) ∧ (∀ (j : Nat) (e : BE), j < n → es[j]? = some e → e.l.length ≤ N) ∧ (∀ e ∈ es, e.l.length ≤ N + 40) ∧ Below base w W
theorem W1.w2 {w : World} {base hb : Nat} {ov wv : Value} {es : List BE} {f n N : Nat} {W : World} (h : W1 w base hb ov wv es f n W) (hn : es.length = n) (hs : ∀ e ∈ es, e.l.length ≤ N) : W2 w base hb f n N f W := by
  obtain ⟨es', h1, h2⟩ := h.bk
  have hl : ∀ (j : Nat) (e : BE), es'[j]? = some e → e.l.length ≤ N := fun j e he => by
    have hj : j < es.length := by rw [← h2.len]; exact (List.getElem?_eq_some_iff.1 he).1
    obtain ⟨e', h3, _, _, h4⟩ := h2.at (i := j) (e := es[j]) (by simp [hj])
    rw [he] at h3
    injection h3 with h3
    rw [h3, h4]
    exact hs _ (List.getElem_mem hj)
  refine ⟨ov, wv, es', h1, by rw [h2.len]; omega, fun j e _ he => hl j e he, fun e he => ?_, h.bel⟩
  obtain ⟨j, hj⟩ := List.mem_iff_getElem?.1 he
  have := hl j e hj
  omega
/-- the region that takes a list and copies what it must read as -/
def I15 (w0 : World) (hb g0 g1 i : Nat) (ov wv eo ew : Value) (l : List Tok) : Nat → Value → World → Prop
  | 0, v, _ => v = .pointer (some ⟨hb, 0, none⟩)
  | 1, v, _ => v = .pointer (some ⟨hb, 0, none⟩)
  | 2, v, _ => v = .pointer (some ⟨hb, 0, none⟩)
  | 3, v, _ => v = ov
  | 4, v, _ => v = .int .i64 i
  | 5, v, _ => v = .pointer (some ⟨g0, i, none⟩)
  | 6, v, _ => v = eo
  | 7, v, _ => v = .pointer (some ⟨hb, 0, none⟩)
  | 8, v, _ => v = .pointer (some ⟨hb, 0, none⟩)
  | 9, v, _ => v = .pointer (some ⟨hb, 1, none⟩)
  | 10, v, _ => v = wv
  | 11, v, _ => v = .int .i64 i
  | 12, v, _ => v = .pointer (some ⟨g1, i, none⟩)
  | 13, v, _ => v = ew
  | 14, v, w => OwnT w w0.heap.size v l
  | 15, v, _ => v = eo
  | 16, v, w => OwnT w w0.heap.size v l
  | _, _, _ => True
theorem I15.ext {w0 : World} {hb g0 g1 i : Nat} {ov wv eo ew : Value} {l : List Tok} (j : Nat) (v : Value) (w w' : World) (h : I15 w0 hb g0 g1 i ov wv eo ew l j v w) (he : Ext w w') : I15 w0 hb g0 g1 i ov wv eo ew l j v w' := by
  match j, h with
  | 0, h => exact h
  | 1, h => exact h
  | 2, h => exact h
  | 3, h => exact h
  | 4, h => exact h
  | 5, h => exact h
  | 6, h => exact h
  | 7, h => exact h
  | 8, h => exact h
  | 9, h => exact h
  | 10, h => exact h
  | 11, h => exact h
  | 12, h => exact h
  | 13, h => exact h
  | 14, h => exact OwnT.below h he (Nat.le_refl _)
  | 15, h => exact h
  | 16, h => exact OwnT.below h he (Nat.le_refl _)
  | _ + 17, _ => trivial
/-- two lists that grow side by side, so many steps -/
def T30 (w : World) (base hb : Nat) (ov wv : Value) (es : List BE) (f n i L : Nat) (lv mv : Value) (k : Nat) (W : World) : Prop :=
  ∃ ll, R30 W base hb ov wv es f i n i lv ll mv ll ∧ ll.length = L + k ∧ Below base w W
theorem Tch.own {W W' : World} {base base' hb : Nat} {ov wv v : Value} {es : List BE} {f u t : Nat} {l : List Tok} (h : Bok W base hb ov wv es f u t) (k : Tch hb ov wv W W') (ho : OwnT W base' v l) : OwnT W' base' v l :=
  own_stays ho fun b cur _ _ hc => (k.block b (Array.getElem?_eq_some_iff.1 hc).1 (typ_ne hc h.bk (by decide)) (fun e => by obtain ⟨_, d, h2⟩ := row_typ h.out e; exact typ_ne hc h2 (by decide) rfl) (fun e => by obtain ⟨_, d, h2⟩ := row_typ h.want e; exact typ_ne hc h2 (by decide) rfl)).trans hc
theorem Tch.fb {W W' : World} {base hb : Nat} {ov wv : Value} {es : List BE} {f u t B : Nat} {a e : Int} (h : Bok W base hb ov wv es f u t) (k : Tch hb ov wv W W') (ho : FB W B a e) : FB W' B a e :=
  (k.block B ho.lt (typ_ne ho h.bk (by decide)) (fun e => by obtain ⟨_, d, h2⟩ := row_typ h.out e; exact typ_ne ho h2 (by decide) rfl) (fun e => by obtain ⟨_, d, h2⟩ := row_typ h.want e; exact typ_ne ho h2 (by decide) rfl)).trans ho
set_option maxHeartbeats 8000000 in
theorem scanB_any (base hb : Nat) (ov wv : Value) (es : List BE) (f u N : Nat) (s : ByteArray) (L : List Tok) (fa : Nat) (fe : Int) (w : World) (h : Bok w base hb ov wv es f u es.length) (hes : es.length ≤ 99) (hN : 32768 ≤ N) (hsm : ∀ e ∈ es, e.l.length ≤ N) (hS : ScB s L fa fe) :
    Calls Tryz.prog 10 #[.pointer (some ⟨hb, 0, none⟩), .string s] w fun e w' => e = .returned (.bool true) ∧ ∃ ov' wv' es', Bok w' base hb ov' wv' es' f u es'.length ∧ es'.length = es.length + 1 ∧ (∀ e ∈ es', e.l.length ≤ N) ∧ Below base w w' := by
  have HB := Hid.mk2 (And.intro h (And.intro hes hsm))
  have HS := Hid.mk2 hS
  have HN := Hid.mk2 hN
  clear h hes hsm hS hN
  go_enter Tryz.func10, Tryz.ntmps10
  go_wp2_with fail
  refine (HS.out.2.1 w).mono ?_
  rintro e w1 ⟨v1, rfl, hO1, hB1⟩
  have H1 := Hid.mk2 (And.intro hO1 hB1)
  clear hO1 hB1
  go_wp2_with fail
  refine (HS.out.2.2 _).mono ?_
  rintro e w2 ⟨v2, rfl, hO2, hB2⟩
  have hz1 : (w1.alloc (.cells #[.int .i64 fa, .int .i64 fe] 32)).heap.size = w1.heap.size + 1 := World.size_alloc _ _
  have HF1 : Hid (FB w2 w1.heap.size fa fe) := (FB.new w1 fa fe).below hB2 (by omega)
  have H2 : Hid (OwnT w2 w.heap.size v1 L ∧ OwnT w2 w.heap.size v2 L ∧ Below w.heap.size w w2) := ⟨(H1.out.1.alloc _).below hB2 (Nat.le_refl _), hO2.le (by have := H1.out.2.size; omega), (H1.out.2.alloc H1.out.2.size _).trans (hB2.mono (by have := H1.out.2.size; omega))⟩
  clear hO2 hB2 hz1 H1
  obtain ⟨w3, hw3⟩ : ∃ w3, w2.alloc (.cells #[.int .i64 fa, .int .i64 fe] 32) = w3 := ⟨_, rfl⟩
  have hz3 : w3.heap.size = w2.heap.size + 1 := by rw [← hw3]; exact World.size_alloc _ _
  have HF2 : Hid (FB w3 w2.heap.size fa fe ∧ FB w3 w1.heap.size fa fe) := by rw [← hw3]; exact ⟨FB.new w2 fa fe, HF1.out.allocs _⟩
  have H3 : Hid (OwnT w3 w.heap.size v1 L ∧ OwnT w3 w.heap.size v2 L ∧ Below w.heap.size w w3) := by rw [← hw3]; exact ⟨H2.out.1.alloc _, H2.out.2.1.alloc _, H2.out.2.2.alloc H2.out.2.2.size _⟩
  have HB3 : Hid (Bok w3 base hb ov wv es f u es.length) := HB.out.1.below H3.out.2.2 (Nat.le_refl _)
  have HK : Hid (Calls Tryz.prog 26 #[.pointer (some ⟨hb, 0, none⟩), v1] w3 fun e w' => (∃ x, e = .returned x) ∧ ∃ ov' wv' mv, Bok w' base hb ov' wv' (es ++ [⟨v1, mv, L⟩]) f u (es.length + 1) ∧ Tch hb ov wv w3 w' ∧ Below base w3 w') := by
    refine (keep_any base hb ov wv es f u v1 L w3 HB3.out (H3.out.1.le HB.out.1.bz) (fun b hb' => ?_) (by have := HS.out.1; omega) HB.out.2.1).mono ?_
    · exact blks_size HB.out.1 (World.ownsRow.lt H3.out.1 b hb').1
    · rintro e w' ⟨k1, ov', wv', mv, k2, k3, k4, _⟩
      exact ⟨k1, ov', wv', mv, k2, k3, k4⟩
  clear hz3 H2 HF1
  go_wp2_with fail
  clear hw3
  refine HK.out.mono ?_
  rintro e w4 ⟨⟨xr, rfl⟩, ov4, wv4, mv, hB4, hT4, hbl4⟩
  have HB4 : Hid (Bok w4 base hb ov4 wv4 (es ++ [⟨v1, mv, L⟩]) f u (es ++ [(⟨v1, mv, L⟩ : BE)]).length ∧ Below base w w4) := ⟨by rw [show (es ++ [(⟨v1, mv, L⟩ : BE)]).length = es.length + 1 by simp]; exact hB4, (H3.out.2.2.mono HB.out.1.bz).trans hbl4⟩
  have HSm : Hid (Calls Tryz.prog 25 #[v1, v2] w4 fun e w' => e = .returned (.bool true) ∧ Grown w4 w') := same_any v1 v2 L w4 (by have := HS.out.1; omega) (Tch.own HB3.out hT4 H3.out.1).rt (Tch.own HB3.out hT4 H3.out.2.1).rt
  have HF4 : Hid (FB w4 w2.heap.size fa fe ∧ FB w4 w1.heap.size fa fe) := ⟨Tch.fb HB3.out hT4 HF2.out.1, Tch.fb HB3.out hT4 HF2.out.2⟩
  have HE4 : Hid (∀ e ∈ es ++ [(⟨v1, mv, L⟩ : BE)], e.l.length ≤ N) := fun e he => by
    rcases List.mem_append.1 he with he | he
    · exact HB.out.2.2 e he
    · obtain rfl := List.mem_singleton.1 he
      have := HS.out.1
      have := HN.out
      show L.length ≤ N
      omega
  clear hB4 hT4 hbl4 HK H3 HF2 HB3
  go_wp2_with fail
  refine HSm.out.mono ?_
  rintro e w5 ⟨rfl, hg5⟩
  have HB5 : Hid (Bok w5 base hb ov4 wv4 (es ++ [⟨v1, mv, L⟩]) f u (es ++ [(⟨v1, mv, L⟩ : BE)]).length ∧ Below base w w5) := ⟨HB4.out.1.grown hg5, HB4.out.2.trans (hg5.below.mono HB4.out.1.bz)⟩
  have F1 := HF4.out.1.below hg5.below HF4.out.1.lt
  have F2 := HF4.out.2.below hg5.below HF4.out.2.lt
  obtain ⟨c0, c1, _, _⟩ := F1.cells
  obtain ⟨d0, d1, _, _⟩ := F2.cells
  clear hg5 HB4 HF4 HSm F1 F2
  go_wp2_with fail
  refine (holds_any base hb ov4 wv4 _ f u _ w5 HB5.out.1).mono ?_
  rintro e w6 ⟨rfl, hg6⟩
  have HB6 : Hid (Bok w6 base hb ov4 wv4 (es ++ [⟨v1, mv, L⟩]) f u (es ++ [(⟨v1, mv, L⟩ : BE)]).length ∧ Below base w w6) := ⟨HB5.out.1.grown hg6, HB5.out.2.trans (hg6.below.mono HB5.out.1.bz)⟩
  clear hg6 HB5 c0 c1 d0 d1
  go_wp2
  go_ret
  exact ⟨rfl, ov4, wv4, _, HB6.out.1, by simp, HE4.out, HB6.out.2⟩
end Go.Proofs
