/-
  Several texts in one (Oa Ob).
-/
import Derived.RangeFuncNested
import Derived.RangeFuncBound
import Derived.RangeFuncCalls
import Derived.RangeFuncLeaves
import Derived.Shelf.Abstract
import Derived.Shelf.RegionOpen
import Derived.WalkKit
import Derived.WalkSpells
import Derived.WalkLawsBesides
import Derived.OwnWalkIn
import Derived.TacticsInMore
import Derived.LoopNIn
import Derived.LoopIn
import Derived.BigQuiet
import Derived.RegionIn
import Derived.Deep.QuietTactic
import Derived.Deep.RegionWith
import Derived.Lib.OthersKept
import Derived.Maps.AppendAt
import Derived.Lib.SmallJoins
import Derived.Shelf.SlSortCmp.QuietGrown
import Derived.Test.YtkijbaofhodplaaDoorHf
namespace Go.Proofs
open Go.RowKit Go.Shelf

set_option maxRecDepth 100000
attribute [local go_sem] Oper.semAt_some
attribute [local go_sem ↓] Go.wp_at_zero Go.wp_at_succ

/-- blocks outside of B stay as they are -/
structure Fr (w w' : World) (B : Nat → Prop) : Prop where
  os : w'.os = w.os
  tape : w'.tape = w.tape
  output : w'.output = w.output
  size : w.heap.size ≤ w'.heap.size
  block : ∀ k, k < w.heap.size → ¬ B k → w'.heap[k]? = w.heap[k]?
theorem Fr.refl (w : World) (B : Nat → Prop) : Fr w w B := ⟨rfl, rfl, rfl, Nat.le_refl _, fun _ _ _ => rfl⟩
theorem Fr.mono {w w' : World} {B C : Nat → Prop} (h : Fr w w' B) (hc : ∀ k, k < w.heap.size → B k → C k) : Fr w w' C := ⟨h.os, h.tape, h.output, h.size, fun k hk hn => h.block k hk fun hb => hn (hc k hk hb)⟩
theorem Fr.trans {a b c : World} {B C : Nat → Prop} (h : Fr a b B) (k : Fr b c C) (hc : ∀ i, i < a.heap.size → C i → B i) : Fr a c B :=
  ⟨k.os.trans h.os, k.tape.trans h.tape, k.output.trans h.output, Nat.le_trans h.size k.size, fun i hi hn => (k.block i (by have := h.size; omega) fun hi2 => hn (hc i hi hi2)).trans (h.block i hi hn)⟩
theorem Fr.below {w w' : World} {B : Nat → Prop} {base : Nat} (h : Fr w w' B) (hB : ∀ k, B k → base ≤ k) (hb : base ≤ w.heap.size) : Below base w w' := ⟨h.os, h.tape, h.output, h.size, fun k hk => h.block k (by omega) fun hk2 => by have := hB k hk2; omega⟩
theorem fr_by {w w' : World} {row : Option Nat} (h : w.grownBy w' row) : Fr w w' fun k => row = some k := ⟨h.os, h.tape, h.output, h.size, fun k hk hn => h.block k hk fun e => hn e.symm⟩
theorem fr_below {w w' : World} {n : Nat} (h : Below n w w') (hn : w.heap.size ≤ n) (B : Nat → Prop) : Fr w w' B := ⟨h.os, h.tape, h.output, h.size, fun k hk _ => h.block k (by omega)⟩
theorem fr_grown {w w' : World} (h : Grown w w') (B : Nat → Prop) : Fr w w' B := fr_below h.below (Nat.le_refl _) B
theorem fr_set (w : World) (b j : Nat) (u : Value) : Fr w (w.setCell ⟨b, j, none⟩ u) fun k => k = b := ⟨rfl, rfl, rfl, by simp [World.setCell], fun k _ hn => Below.heap_setCell w ⟨b, j, none⟩ u k hn⟩
theorem own_fr {w w' : World} {base : Nat} {e : TypeId} {size : Nat} {v : Value} {n : Nat} {xs : List Value} {B : Nat → Prop} (h : w.ownsRow base e size v n xs) (hf : Fr w w' B) (hB : ∀ b, v.ownBlock = some b → ¬ B b) : w'.ownsRow base e size v n xs := by
  refine ⟨h.1, ?_⟩
  rcases h.2 with hn | ⟨g, cap, cur, rfl, hb, hgg, rest⟩
  · exact .inl hn
  · exact .inr ⟨g, cap, cur, rfl, hb, (hf.block g (blk_lt hgg) (hB g rfl)).trans hgg, rest⟩
/-- rows of two kinds lie in two blocks -/
theorem own_ne {w : World} {base base' : Nat} {e e' : TypeId} {size size' : Nat} {v v' : Value} {n n' : Nat} {xs xs' : List Value} (h : w.ownsRow base e size v n xs) (h' : w.ownsRow base' e' size' v' n' xs') (hne : e ≠ e') {b : Nat} (hb : v.ownBlock = some b) : v'.ownBlock ≠ some b := fun hb' => by
  rcases h.2 with ⟨rfl, _⟩ | ⟨g, cap, cur, rfl, _, hg, _⟩
  · cases hb
  · rcases h'.2 with ⟨rfl, _⟩ | ⟨g', cap', cur', rfl, _, hg', _⟩
    · cases hb'
    · injection hb with hb
      injection hb' with hb'
      simp only at hb hb'
      subst hb hb'
      rw [hg] at hg'
      injection hg' with hg'
      injection hg' with _ h2 _
      exact hne h2
theorem own_at {w : World} {base : Nat} {e : TypeId} {size : Nat} {v : Value} {n : Nat} {xs : List Value} (h : w.ownsRow base e size v n xs) {b : Nat} (hb : v.ownBlock = some b) : ∃ cur, w.heap[b]? = some (.cells cur e (0, 0)) := by
  rcases h.2 with ⟨rfl, _⟩ | ⟨g, cap, cur, rfl, _, hg, _⟩
  · cases hb
  · injection hb with hb
    simp only at hb
    subst hb
    exact ⟨cur, hg⟩
abbrev It := Value × List (Int × Int)
/-- a slice less its last place -/
def cut : Value → Value
  | .slice a n c => .slice a (n - 1) c
  | v => v
/-- a rule that was lent -/
structure LRu where
  bg : Bool
  en : Bool
  cu : Int
  a : Value × List It
  k : Value × List It
  p : Value × List It
  q : Value × List (Pc × Value)
def LRu.rl (r : LRu) : Rl := ⟨r.bg, r.en, r.cu, r.a.2.map Prod.snd, r.k.2.map Prod.snd, r.p.2.map Prod.snd, r.q.2.map Prod.fst⟩
def LRu.cells (r : LRu) : List Value := [.bool r.bg, cut r.a.1, cut r.k.1, cut r.p.1, .bool r.en, cut r.q.1, .int .i64 r.cu]
def pcells (l : List (Pc × Value)) : List Value := l.flatMap fun y => [.int .i64 y.1.k, .int .i64 y.1.u, .int .i64 y.1.y, cut y.2]
def rucells (l : List LRu) : List Value := l.flatMap LRu.cells
theorem pcells_append (l k : List (Pc × Value)) : pcells (l ++ k) = pcells l ++ pcells k := by simp [pcells]
theorem rucells_append (l k : List LRu) : rucells (l ++ k) = rucells l ++ rucells k := by simp [rucells]
def Len1 (v : Value) : Prop := ∃ a c, v = .slice a 1 c
def pend : List Value := [.int .i64 (-77), .int .i64 0, .int .i64 0, .slice none 0 0]
/-- what lend has laid so far -/
structure LX (w : World) (base xb : Nat) (pv rv sv gv cv : Value) (G : List It) (S : List (Value × List It)) (C : List (Value × List (Pc × Value))) (R : List LRu) (re : List Value) (n : Nat) : Prop where
  hb : base ≤ xb
  x : w.heap[xb]? = some (.cells #[pv, rv, sv, gv, cv] 38 (0, 0))
  g : w.ownsRow base 59 1 gv G.length (G.map Prod.fst)
  s : w.ownsRow base 35 1 sv S.length (S.map Prod.fst)
  c : w.ownsRow base 52 1 cv C.length (C.map Prod.fst)
  r : w.ownsRow base 54 7 rv n (rucells R ++ re)
  gi : ∀ x ∈ G, OwnR w base x.1 (x.2 ++ [(-77, -78)])
  si : ∀ x ∈ S, (∃ mv, Len1 mv ∧ w.ownsRow base 59 1 x.1 (x.2.length + 1) (x.2.map (fun y => cut y.1) ++ [mv])) ∧ ∀ y ∈ x.2, y ∈ G
  ci : ∀ x ∈ C, w.ownsRow base 66 4 x.1 (x.2.length + 1) (pcells x.2 ++ pend) ∧ ∀ y ∈ x.2, (y.2, y.1.tl) ∈ G
  ri : ∀ r ∈ R, r.a ∈ S ∧ r.k ∈ S ∧ r.p ∈ S ∧ r.q ∈ C
  ng : (G.map fun x => x.1.ownBlock).Nodup
  ns : (gv.ownBlock :: S.map fun x => x.1.ownBlock).Nodup
  nc : (C.map fun x => x.1.ownBlock).Nodup
/-- the blocks of all that -/
def Bs (xb : Nat) (rv sv gv cv : Value) (G : List It) (S : List (Value × List It)) (C : List (Value × List (Pc × Value))) (b : Nat) : Prop :=
  b = xb ∨ rv.ownBlock = some b ∨ sv.ownBlock = some b ∨ gv.ownBlock = some b ∨ cv.ownBlock = some b ∨ (∃ x ∈ G, x.1.ownBlock = some b) ∨ (∃ x ∈ S, x.1.ownBlock = some b) ∨ ∃ x ∈ C, x.1.ownBlock = some b
section
variable {w : World} {base xb : Nat} {pv rv sv gv cv : Value} {G : List It} {S : List (Value × List It)} {C : List (Value × List (Pc × Value))} {R : List LRu} {re : List Value} {n : Nat}
theorem LX.lt (h : LX w base xb pv rv sv gv cv G S C R re n) {b : Nat} (hb : Bs xb rv sv gv cv G S C b) : base ≤ b ∧ b < w.heap.size := by
  rcases hb with rfl | hb | hb | hb | hb | ⟨x, hx, hb⟩ | ⟨x, hx, hb⟩ | ⟨x, hx, hb⟩
  · exact ⟨h.hb, blk_lt h.x⟩
  · exact World.ownsRow.lt h.r b hb
  · exact World.ownsRow.lt h.s b hb
  · exact World.ownsRow.lt h.g b hb
  · exact World.ownsRow.lt h.c b hb
  · exact World.ownsRow.lt (h.gi x hx) b hb
  · obtain ⟨⟨mv, _, h1⟩, _⟩ := h.si x hx
    exact World.ownsRow.lt h1 b hb
  · exact World.ownsRow.lt (h.ci x hx).1 b hb
/-- what is done elsewhere leaves it -/
theorem LX.fr (h : LX w base xb pv rv sv gv cv G S C R re n) {w' : World} {B : Nat → Prop} (hf : Fr w w' B) (hB : ∀ b, Bs xb rv sv gv cv G S C b → ¬ B b) : LX w' base xb pv rv sv gv cv G S C R re n := by
  refine ⟨h.hb, (hf.block xb (blk_lt h.x) (hB _ (.inl rfl))).trans h.x, own_fr h.g hf fun b e => hB b (by simp [Bs, e]), own_fr h.s hf fun b e => hB b (by simp [Bs, e]), own_fr h.c hf fun b e => hB b (by simp [Bs, e]), own_fr h.r hf fun b e => hB b (by simp [Bs, e]), fun x hx => own_fr (h.gi x hx) hf fun b e => hB b (.inr (.inr (.inr (.inr (.inr (.inl ⟨x, hx, e⟩)))))), fun x hx => ?_, fun x hx => ⟨own_fr (h.ci x hx).1 hf fun b e => hB b (.inr (.inr (.inr (.inr (.inr (.inr (.inr ⟨x, hx, e⟩))))))), (h.ci x hx).2⟩, h.ri, h.ng, h.ns, h.nc⟩
  obtain ⟨⟨mv, h0, h1⟩, h2⟩ := h.si x hx
  exact ⟨⟨mv, h0, own_fr h1 hf fun b e => hB b (.inr (.inr (.inr (.inr (.inr (.inr (.inl ⟨x, hx, e⟩)))))))⟩, h2⟩
theorem LX.grown (h : LX w base xb pv rv sv gv cv G S C R re n) {w' : World} (k : Grown w w') : LX w' base xb pv rv sv gv cv G S C R re n := h.fr (fr_grown k fun _ => False) fun _ _ => id
theorem LX.below (h : LX w base xb pv rv sv gv cv G S C R re n) {w' : World} {m : Nat} (k : Below m w w') (hm : w.heap.size ≤ m) : LX w' base xb pv rv sv gv cv G S C R re n := h.fr (fr_below k hm fun _ => False) fun _ _ => id
theorem fl_slice {w : World} {base : Nat} {e : TypeId} {size : Nat} {v : Value} {m : Nat} {xs : List Value} (h : w.ownsRow base e size v (m + 1) xs) : ∃ g cap, v = .slice (some ⟨g, 0, none⟩) (m + 1) cap ∧ base ≤ g ∧ g < w.heap.size ∧ m + 1 ≤ cap ∧ v.ownBlock = some g := by
  rcases h.2 with ⟨_, h0⟩ | ⟨g, cap, cur, rfl, h1, h2, h3, _⟩
  · omega
  · exact ⟨g, cap, rfl, h1, blk_lt h2, h3, rfl⟩
/-- the lists that were kept are told apart by what they hold -/
theorem LX.x_ne (h : LX w base xb pv rv sv gv cv G S C R re n) {base' : Nat} {e : TypeId} {size : Nat} {v : Value} {m : Nat} {xs : List Value} (ho : w.ownsRow base' e size v m xs) (he : e ≠ 38) : v.ownBlock ≠ some xb := fun hb => by
  obtain ⟨cur, hc⟩ := own_at ho hb
  rw [h.x] at hc
  injection hc with hc
  injection hc with _ h2 _
  exact he h2.symm
/-- one set more is kept -/
theorem LX.pushG (h : LX w base xb pv rv sv gv cv G S C R re n) {v' gv' : Value} {l : List (Int × Int)} {w1 : World} (hv : OwnR w base v' (l ++ [(-77, -78)])) (hvb : ∀ b, v'.ownBlock = some b → ¬ Bs xb rv sv gv cv G S C b) (hf : Fr w w1 fun k => gv.ownBlock = some k) (ho : w1.ownsRow base 59 1 gv' (G.length + 1) (G.map Prod.fst ++ [v'])) (hgb : gv'.ownBlock = gv.ownBlock ∨ ∃ i, gv'.ownBlock = some i ∧ w.heap.size ≤ i) :
    LX (w1.setCell ⟨xb, 3, none⟩ gv') base xb pv rv sv gv' cv (G ++ [(v', l)]) S C R re n ∧ Fr w (w1.setCell ⟨xb, 3, none⟩ gv') (Bs xb rv sv gv cv G S C) ∧ ∀ b, Bs xb rv sv gv' cv (G ++ [(v', l)]) S C b → Bs xb rv sv gv cv G S C b ∨ w.heap.size ≤ b ∨ v'.ownBlock = some b := by
  have hx1 : w1.heap[xb]? = some (.cells #[pv, rv, sv, gv, cv] 38 (0, 0)) := (hf.block xb (blk_lt h.x) (h.x_ne h.g (by decide))).trans h.x
  have hf2 : Fr w (w1.setCell ⟨xb, 3, none⟩ gv') fun k => gv.ownBlock = some k ∨ k = xb := (hf.mono fun k _ e => .inl e).trans (fr_set w1 xb 3 gv') fun i _ e => .inr e
  obtain ⟨g', cap', hgv', _, hlt', _, hob⟩ := fl_slice (m := G.length) ho
  have hgx : gv'.ownBlock ≠ some xb := fun e => by
    obtain ⟨cur, hc⟩ := own_at ho e
    rw [hx1] at hc
    injection hc with hc
    injection hc with _ h2 _
    exact absurd h2 (by decide)
  have other : ∀ {e : TypeId} {size : Nat} {v : Value} {m : Nat} {xs : List Value}, w.ownsRow base e size v m xs → e ≠ 38 → (∀ b, v.ownBlock = some b → gv.ownBlock ≠ some b) → (w1.setCell ⟨xb, 3, none⟩ gv').ownsRow base e size v m xs := fun hr he hd => own_fr hr hf2 fun b hb hc => by
    rcases hc with hc | hc
    · exact hd b hb hc
    · subst hc; exact h.x_ne hr he hb
  have kind : ∀ {e : TypeId} {size : Nat} {v : Value} {m : Nat} {xs : List Value}, w.ownsRow base e size v m xs → e ≠ 59 → ∀ b, v.ownBlock = some b → gv.ownBlock ≠ some b := fun hr he b hb => own_ne hr h.g he hb
  have hlt : ∀ x ∈ S, ∀ b, x.1.ownBlock = some b → b < w.heap.size := fun x hx b hb => (h.lt (.inr (.inr (.inr (.inr (.inr (.inr (.inl ⟨x, hx, hb⟩)))))))).2
  refine ⟨⟨h.hb, ?_, ?_, other h.s (by decide) (kind h.s (by decide)), other h.c (by decide) (kind h.c (by decide)), other h.r (by decide) (kind h.r (by decide)), fun x hx => ?_, fun x hx => ?_, fun x hx => ?_, h.ri, ?_, ?_, h.nc⟩, ?_, ?_⟩
  · rw [set_heap hx1]; rfl
  · have : (w1.setCell ⟨xb, 3, none⟩ gv').ownsRow base 59 1 gv' (G.length + 1) (G.map Prod.fst ++ [v']) := own_fr ho (fr_set w1 xb 3 gv') fun b hb e => by subst e; exact hgx hb
    simpa using this
  · rcases List.mem_append.1 hx with hx | hx
    · exact other (h.gi x hx) (by decide) (kind (h.gi x hx) (by decide))
    · simp at hx; subst hx; exact other hv (by decide) (kind hv (by decide))
  · obtain ⟨⟨mv, h0, h1⟩, h2⟩ := h.si x hx
    refine ⟨⟨mv, h0, other h1 (by decide) fun b hb e => ?_⟩, fun y hy => List.mem_append_left _ (h2 y hy)⟩
    have := (List.nodup_cons.1 h.ns).1
    exact this (List.mem_map.2 ⟨x, hx, hb.trans e.symm⟩)
  · exact ⟨other (h.ci x hx).1 (by decide) (kind (h.ci x hx).1 (by decide)), fun y hy => List.mem_append_left _ ((h.ci x hx).2 y hy)⟩
  · rw [List.map_append, List.nodup_append]
    refine ⟨h.ng, by simp, fun a ha b hb e => ?_⟩
    simp at hb
    subst hb
    obtain ⟨x, hx, rfl⟩ := List.mem_map.1 ha
    obtain ⟨g2, _, hv2, _, _, _, hob2⟩ := fl_slice (w := w) (m := x.2.length) (by have := h.gi x hx; unfold OwnR at this; rw [List.length_append] at this; exact this)
    exact hvb g2 (e ▸ hob2) (.inr (.inr (.inr (.inr (.inr (.inl ⟨x, hx, hob2⟩))))))
  · refine List.nodup_cons.2 ⟨fun hm => ?_, (List.nodup_cons.1 h.ns).2⟩
    rcases hgb with e | ⟨i, e, hi2⟩
    · rw [e] at hm; exact (List.nodup_cons.1 h.ns).1 hm
    · rw [e] at hm
      obtain ⟨x, hx, hb⟩ := List.mem_map.1 hm
      have := hlt x hx _ hb
      omega
  · exact hf2.mono fun k _ e => by
      rcases e with e | e
      · simp [Bs, e]
      · exact .inl e
  · rintro b (hb | hb | hb | hb | hb | ⟨x, hx, hb⟩ | ⟨x, hx, hb⟩ | ⟨x, hx, hb⟩)
    · exact .inl (.inl hb)
    · exact .inl (by simp [Bs, hb])
    · exact .inl (by simp [Bs, hb])
    · rcases hgb with e | ⟨i, e, hi2⟩
      · exact .inl (by rw [e] at hb; simp [Bs, hb])
      · rw [e] at hb; injection hb with hb; exact .inr (.inl (by omega))
    · exact .inl (by simp [Bs, hb])
    · rcases List.mem_append.1 hx with hx | hx
      · exact .inl (.inr (.inr (.inr (.inr (.inr (.inl ⟨x, hx, hb⟩))))))
      · simp at hx; subst hx; exact .inr (.inr hb)
    · exact .inl (.inr (.inr (.inr (.inr (.inr (.inr (.inl ⟨x, hx, hb⟩)))))))
    · exact .inl (.inr (.inr (.inr (.inr (.inr (.inr (.inr ⟨x, hx, hb⟩)))))))
end

section
variable {w : World} {base xb : Nat} {pv rv sv gv cv : Value} {G : List It} {S : List (Value × List It)} {C : List (Value × List (Pc × Value))} {R : List LRu} {re : List Value} {n : Nat}
/-- what a store into the struct behind an append to one of its lists leaves -/
theorem LX.other (h : LX w base xb pv rv sv gv cv G S C R re n) {t : Value} {E : TypeId} {T : Nat} {tl : List Value} {tn : Nat} (ht : w.ownsRow base E T t tn tl) {w1 : World} {j : Nat} {u : Value} (hf : Fr w w1 fun k => t.ownBlock = some k) {e : TypeId} {size : Nat} {v : Value} {m : Nat} {xs : List Value} (hr : w.ownsRow base e size v m xs) (he : e ≠ 38) (hd : e ≠ E ∨ ∀ b, v.ownBlock = some b → t.ownBlock ≠ some b) : (w1.setCell ⟨xb, j, none⟩ u).ownsRow base e size v m xs := by
  have hf2 : Fr w (w1.setCell ⟨xb, j, none⟩ u) fun k => t.ownBlock = some k ∨ k = xb := (hf.mono fun k _ e => .inl e).trans (fr_set w1 xb j u) fun i _ e => .inr e
  refine own_fr hr hf2 fun b hb hc => ?_
  rcases hc with hc | hc
  · rcases hd with hd | hd
    · exact own_ne hr ht hd hb hc
    · exact hd b hb hc
  · subst hc; exact h.x_ne hr he hb
/-- one row more is kept -/
theorem LX.pushS (h : LX w base xb pv rv sv gv cv G S C R re n) {v' sv' mv : Value} {its : List It} {w1 : World} (hv : w.ownsRow base 59 1 v' (its.length + 1) (its.map (fun y => cut y.1) ++ [mv])) (hm : Len1 mv) (hi : ∀ y ∈ its, y ∈ G) (hvb : ∀ b, v'.ownBlock = some b → ¬ Bs xb rv sv gv cv G S C b) (hf : Fr w w1 fun k => sv.ownBlock = some k) (ho : w1.ownsRow base 35 1 sv' (S.length + 1) (S.map Prod.fst ++ [v'])) (hgb : sv'.ownBlock = sv.ownBlock ∨ ∃ i, sv'.ownBlock = some i ∧ w.heap.size ≤ i) :
    LX (w1.setCell ⟨xb, 2, none⟩ sv') base xb pv rv sv' gv cv G (S ++ [(v', its)]) C R re n ∧ Fr w (w1.setCell ⟨xb, 2, none⟩ sv') (Bs xb rv sv gv cv G S C) ∧ ∀ b, Bs xb rv sv' gv cv G (S ++ [(v', its)]) C b → Bs xb rv sv gv cv G S C b ∨ w.heap.size ≤ b ∨ v'.ownBlock = some b := by
  have hx1 : w1.heap[xb]? = some (.cells #[pv, rv, sv, gv, cv] 38 (0, 0)) := (hf.block xb (blk_lt h.x) (h.x_ne h.s (by decide))).trans h.x
  have hf2 : Fr w (w1.setCell ⟨xb, 2, none⟩ sv') fun k => sv.ownBlock = some k ∨ k = xb := (hf.mono fun k _ e => .inl e).trans (fr_set w1 xb 2 sv') fun i _ e => .inr e
  have hgx : sv'.ownBlock ≠ some xb := fun e => by
    obtain ⟨cur, hc⟩ := own_at ho e
    rw [hx1] at hc
    injection hc with hc
    injection hc with _ h2 _
    exact absurd h2 (by decide)
  obtain ⟨g2, _, hv2, _, _, _, hob2⟩ := fl_slice hv
  refine ⟨⟨h.hb, ?_, h.other h.s hf h.g (by decide) (.inl (by decide)), ?_, h.other h.s hf h.c (by decide) (.inl (by decide)), h.other h.s hf h.r (by decide) (.inl (by decide)), fun x hx => h.other h.s hf (h.gi x hx) (by decide) (.inl (by decide)), fun x hx => ?_, fun x hx => ⟨h.other h.s hf (h.ci x hx).1 (by decide) (.inl (by decide)), (h.ci x hx).2⟩, fun r hr => ?_, h.ng, ?_, h.nc⟩, ?_, ?_⟩
  · rw [set_heap hx1]; rfl
  · have : (w1.setCell ⟨xb, 2, none⟩ sv').ownsRow base 35 1 sv' (S.length + 1) (S.map Prod.fst ++ [v']) := own_fr ho (fr_set w1 xb 2 sv') fun b hb e => by subst e; exact hgx hb
    simpa using this
  · rcases List.mem_append.1 hx with hx | hx
    · obtain ⟨⟨mv', h0, h1⟩, h2⟩ := h.si x hx
      exact ⟨⟨mv', h0, h.other h.s hf h1 (by decide) (.inl (by decide))⟩, h2⟩
    · simp at hx; subst hx; exact ⟨⟨mv, hm, h.other h.s hf hv (by decide) (.inl (by decide))⟩, hi⟩
  · obtain ⟨a1, a2, a3, a4⟩ := h.ri r hr
    exact ⟨List.mem_append_left _ a1, List.mem_append_left _ a2, List.mem_append_left _ a3, a4⟩
  · rw [List.map_append, ← List.cons_append, List.nodup_append]
    refine ⟨h.ns, by simp, fun a ha b hb e => ?_⟩
    simp at hb
    subst hb
    subst e
    refine hvb g2 hob2 ?_
    rw [hob2] at ha
    rcases List.mem_cons.1 ha with ha | ha
    · exact .inr (.inr (.inr (.inl ha.symm)))
    · obtain ⟨x, hx, e⟩ := List.mem_map.1 ha
      exact .inr (.inr (.inr (.inr (.inr (.inr (.inl ⟨x, hx, e⟩))))))
  · exact hf2.mono fun k _ e => by
      rcases e with e | e
      · simp [Bs, e]
      · exact .inl e
  · rintro b (hb | hb | hb | hb | hb | ⟨x, hx, hb⟩ | ⟨x, hx, hb⟩ | ⟨x, hx, hb⟩)
    · exact .inl (.inl hb)
    · exact .inl (by simp [Bs, hb])
    · rcases hgb with e | ⟨i, e, hi2⟩
      · exact .inl (by rw [e] at hb; simp [Bs, hb])
      · rw [e] at hb; injection hb with hb; exact .inr (.inl (by omega))
    · exact .inl (by simp [Bs, hb])
    · exact .inl (by simp [Bs, hb])
    · exact .inl (.inr (.inr (.inr (.inr (.inr (.inl ⟨x, hx, hb⟩))))))
    · rcases List.mem_append.1 hx with hx | hx
      · exact .inl (.inr (.inr (.inr (.inr (.inr (.inr (.inl ⟨x, hx, hb⟩)))))))
      · simp at hx; subst hx; exact .inr (.inr hb)
    · exact .inl (.inr (.inr (.inr (.inr (.inr (.inr (.inr ⟨x, hx, hb⟩)))))))
/-- one list of pieces more is kept -/
theorem LX.pushC (h : LX w base xb pv rv sv gv cv G S C R re n) {v' cv' : Value} {its : List (Pc × Value)} {w1 : World} (hv : w.ownsRow base 66 4 v' (its.length + 1) (pcells its ++ pend)) (hi : ∀ y ∈ its, (y.2, y.1.tl) ∈ G) (hvb : ∀ b, v'.ownBlock = some b → ¬ Bs xb rv sv gv cv G S C b) (hf : Fr w w1 fun k => cv.ownBlock = some k) (ho : w1.ownsRow base 52 1 cv' (C.length + 1) (C.map Prod.fst ++ [v'])) (hgb : cv'.ownBlock = cv.ownBlock ∨ ∃ i, cv'.ownBlock = some i ∧ w.heap.size ≤ i) :
    LX (w1.setCell ⟨xb, 4, none⟩ cv') base xb pv rv sv gv cv' G S (C ++ [(v', its)]) R re n ∧ Fr w (w1.setCell ⟨xb, 4, none⟩ cv') (Bs xb rv sv gv cv G S C) ∧ ∀ b, Bs xb rv sv gv cv' G S (C ++ [(v', its)]) b → Bs xb rv sv gv cv G S C b ∨ w.heap.size ≤ b ∨ v'.ownBlock = some b := by
  have hx1 : w1.heap[xb]? = some (.cells #[pv, rv, sv, gv, cv] 38 (0, 0)) := (hf.block xb (blk_lt h.x) (h.x_ne h.c (by decide))).trans h.x
  have hf2 : Fr w (w1.setCell ⟨xb, 4, none⟩ cv') fun k => cv.ownBlock = some k ∨ k = xb := (hf.mono fun k _ e => .inl e).trans (fr_set w1 xb 4 cv') fun i _ e => .inr e
  have hgx : cv'.ownBlock ≠ some xb := fun e => by
    obtain ⟨cur, hc⟩ := own_at ho e
    rw [hx1] at hc
    injection hc with hc
    injection hc with _ h2 _
    exact absurd h2 (by decide)
  obtain ⟨g2, _, hv2, _, _, _, hob2⟩ := fl_slice hv
  refine ⟨⟨h.hb, ?_, h.other h.c hf h.g (by decide) (.inl (by decide)), h.other h.c hf h.s (by decide) (.inl (by decide)), ?_, h.other h.c hf h.r (by decide) (.inl (by decide)), fun x hx => h.other h.c hf (h.gi x hx) (by decide) (.inl (by decide)), fun x hx => ?_, fun x hx => ?_, fun r hr => ?_, h.ng, h.ns, ?_⟩, ?_, ?_⟩
  · rw [set_heap hx1]; rfl
  · have : (w1.setCell ⟨xb, 4, none⟩ cv').ownsRow base 52 1 cv' (C.length + 1) (C.map Prod.fst ++ [v']) := own_fr ho (fr_set w1 xb 4 cv') fun b hb e => by subst e; exact hgx hb
    simpa using this
  · obtain ⟨⟨mv', h0, h1⟩, h2⟩ := h.si x hx
    exact ⟨⟨mv', h0, h.other h.c hf h1 (by decide) (.inl (by decide))⟩, h2⟩
  · rcases List.mem_append.1 hx with hx | hx
    · exact ⟨h.other h.c hf (h.ci x hx).1 (by decide) (.inl (by decide)), (h.ci x hx).2⟩
    · simp at hx; subst hx; exact ⟨h.other h.c hf hv (by decide) (.inl (by decide)), hi⟩
  · obtain ⟨a1, a2, a3, a4⟩ := h.ri r hr
    exact ⟨a1, a2, a3, List.mem_append_left _ a4⟩
  · rw [List.map_append, List.nodup_append]
    refine ⟨h.nc, by simp, fun a ha b hb e => ?_⟩
    simp at hb
    subst hb
    subst e
    refine hvb g2 hob2 ?_
    rw [hob2] at ha
    obtain ⟨x, hx, e⟩ := List.mem_map.1 ha
    exact .inr (.inr (.inr (.inr (.inr (.inr (.inr ⟨x, hx, e⟩))))))
  · exact hf2.mono fun k _ e => by
      rcases e with e | e
      · simp [Bs, e]
      · exact .inl e
  · rintro b (hb | hb | hb | hb | hb | ⟨x, hx, hb⟩ | ⟨x, hx, hb⟩ | ⟨x, hx, hb⟩)
    · exact .inl (.inl hb)
    · exact .inl (by simp [Bs, hb])
    · exact .inl (by simp [Bs, hb])
    · exact .inl (by simp [Bs, hb])
    · rcases hgb with e | ⟨i, e, hi2⟩
      · exact .inl (by rw [e] at hb; simp [Bs, hb])
      · rw [e] at hb; injection hb with hb; exact .inr (.inl (by omega))
    · exact .inl (.inr (.inr (.inr (.inr (.inr (.inl ⟨x, hx, hb⟩))))))
    · exact .inl (.inr (.inr (.inr (.inr (.inr (.inr (.inl ⟨x, hx, hb⟩)))))))
    · rcases List.mem_append.1 hx with hx | hx
      · exact .inl (.inr (.inr (.inr (.inr (.inr (.inr (.inr ⟨x, hx, hb⟩)))))))
      · simp at hx; subst hx; exact .inr (.inr hb)
/-- one rule more is kept; or what stands behind the last -/
theorem LX.pushR (h : LX w base xb pv rv sv gv cv G S C R [] n) {rv' : Value} {R' : List LRu} {re' : List Value} {w1 : World} (hi : ∀ r ∈ R', r.a ∈ S ∧ r.k ∈ S ∧ r.p ∈ S ∧ r.q ∈ C) (hf : Fr w w1 fun k => rv.ownBlock = some k) (ho : w1.ownsRow base 54 7 rv' (n + 1) (rucells R' ++ re')) (hgb : rv'.ownBlock = rv.ownBlock ∨ ∃ i, rv'.ownBlock = some i ∧ w.heap.size ≤ i) :
    LX (w1.setCell ⟨xb, 1, none⟩ rv') base xb pv rv' sv gv cv G S C R' re' (n + 1) ∧ Fr w (w1.setCell ⟨xb, 1, none⟩ rv') (Bs xb rv sv gv cv G S C) ∧ ∀ b, Bs xb rv' sv gv cv G S C b → Bs xb rv sv gv cv G S C b ∨ w.heap.size ≤ b := by
  have hx1 : w1.heap[xb]? = some (.cells #[pv, rv, sv, gv, cv] 38 (0, 0)) := (hf.block xb (blk_lt h.x) (h.x_ne h.r (by decide))).trans h.x
  have hf2 : Fr w (w1.setCell ⟨xb, 1, none⟩ rv') fun k => rv.ownBlock = some k ∨ k = xb := (hf.mono fun k _ e => .inl e).trans (fr_set w1 xb 1 rv') fun i _ e => .inr e
  have hgx : rv'.ownBlock ≠ some xb := fun e => by
    obtain ⟨cur, hc⟩ := own_at ho e
    rw [hx1] at hc
    injection hc with hc
    injection hc with _ h2 _
    exact absurd h2 (by decide)
  refine ⟨⟨h.hb, ?_, h.other h.r hf h.g (by decide) (.inl (by decide)), h.other h.r hf h.s (by decide) (.inl (by decide)), h.other h.r hf h.c (by decide) (.inl (by decide)), ?_, fun x hx => h.other h.r hf (h.gi x hx) (by decide) (.inl (by decide)), fun x hx => ?_, fun x hx => ⟨h.other h.r hf (h.ci x hx).1 (by decide) (.inl (by decide)), (h.ci x hx).2⟩, hi, h.ng, h.ns, h.nc⟩, ?_, ?_⟩
  · rw [set_heap hx1]; rfl
  · exact own_fr ho (fr_set w1 xb 1 rv') fun b hb e => by subst e; exact hgx hb
  · obtain ⟨⟨mv', h0, h1⟩, h2⟩ := h.si x hx
    exact ⟨⟨mv', h0, h.other h.r hf h1 (by decide) (.inl (by decide))⟩, h2⟩
  · exact hf2.mono fun k _ e => by
      rcases e with e | e
      · simp [Bs, e]
      · exact .inl e
  · rintro b (hb | hb | hb | hb | hb | ⟨x, hx, hb⟩ | ⟨x, hx, hb⟩ | ⟨x, hx, hb⟩)
    · exact .inl (.inl hb)
    · rcases hgb with e | ⟨i, e, hi2⟩
      · exact .inl (by rw [e] at hb; simp [Bs, hb])
      · rw [e] at hb; injection hb with hb; exact .inr (by omega)
    · exact .inl (by simp [Bs, hb])
    · exact .inl (by simp [Bs, hb])
    · exact .inl (by simp [Bs, hb])
    · exact .inl (.inr (.inr (.inr (.inr (.inr (.inl ⟨x, hx, hb⟩))))))
    · exact .inl (.inr (.inr (.inr (.inr (.inr (.inr (.inl ⟨x, hx, hb⟩)))))))
    · exact .inl (.inr (.inr (.inr (.inr (.inr (.inr (.inr ⟨x, hx, hb⟩)))))))
/-- the pass's own list is set: its field alone is written -/
theorem LX.setP (h : LX w base xb pv rv sv gv cv G S C R re n) (u : Value) : LX (w.setCell ⟨xb, 0, none⟩ u) base xb u rv sv gv cv G S C R re n := by
  have hf := fr_set w xb 0 u
  have o : ∀ {e : TypeId} {size : Nat} {v : Value} {m : Nat} {xs : List Value}, w.ownsRow base e size v m xs → e ≠ 38 → (w.setCell ⟨xb, 0, none⟩ u).ownsRow base e size v m xs := fun hr he => own_fr hr hf fun b hb e => by subst e; exact h.x_ne hr he hb
  refine ⟨h.hb, by rw [set_heap h.x]; rfl, o h.g (by decide), o h.s (by decide), o h.c (by decide), o h.r (by decide), fun x hx => o (h.gi x hx) (by decide), fun x hx => ?_, fun x hx => ⟨o (h.ci x hx).1 (by decide), (h.ci x hx).2⟩, h.ri, h.ng, h.ns, h.nc⟩
  obtain ⟨⟨mv', h0, h1⟩, h2⟩ := h.si x hx
  exact ⟨⟨mv', h0, o h1 (by decide)⟩, h2⟩
end
end Go.Proofs
