/-
  names: what is kept where blocks of other types turn; what names mean; items that may stand in a row and in a set.
-/
import Derived.Shelf.Abstract
import Derived.Shelf.RegionOpen
import Derived.WalkKit
import Derived.WalkSpells
import Derived.WalkLawsBesides
import Derived.OwnWalk
import Derived.BigQuiet
import Derived.Deep.QuietTactic
import Derived.Deep.RegionWith
import Derived.Lib.OthersKept
import Derived.Maps.AppendAt
import Derived.Maps.OwnSet
import Derived.StringKeys
import Derived.Lib.SmallJoins
import Derived.Test.YtbacejefgpaabaaDoorNb
namespace Go.Proofs
open Go.RowKit Go.Shelf

set_option maxRecDepth 100000
attribute [local go_sem] Oper.semAt_some

/-- blocks of cells of one type are kept -/
def KT (t : TypeId) (W W' : World) : Prop := ∀ (b : Nat) (cs : Array Value) (m : Nat × Nat), W.heap[b]? = some (.cells cs t m) → W'.heap[b]? = some (.cells cs t m)
theorem KT.refl (t : TypeId) (W : World) : KT t W W := fun _ _ _ h => h
theorem KT.trans {t : TypeId} {W W1 W2 : World} (h : KT t W W1) (k : KT t W1 W2) : KT t W W2 := fun b cs m hb => k b cs m (h b cs m hb)
theorem KT.below {t : TypeId} {W W' : World} (h : Below W.heap.size W W') : KT t W W' := fun b _ _ hb => (h.block b (Array.getElem?_eq_some_iff.1 hb).1).trans hb
theorem KT.grown {t : TypeId} {W W' : World} {row : Option Nat} (h : W.grownBy W' row) (hr : ∀ r, row = some r → ∀ cs m, W.heap[r]? ≠ some (.cells cs t m)) : KT t W W' := fun b cs m hb =>
  (h.block b (Array.getElem?_eq_some_iff.1 hb).1 (fun e => hr b e.symm cs m hb)).trans hb
theorem KT.alloc {t : TypeId} (W : World) (o : Obj) : KT t W (W.alloc o) := KT.below ((Below.refl _ W).alloc (Nat.le_refl _) _)
theorem KT.set {t : TypeId} (W : World) (B i : Nat) (v : Value) (h : ∀ cs m, W.heap[B]? ≠ some (.cells cs t m)) : KT t W (W.setCell ⟨B, i, none⟩ v) := fun b cs m hb => by
  have hne : B ≠ b := fun e => h cs m (e ▸ hb)
  show (W.heap.modify B _)[b]? = _
  rw [Array.getElem?_modify, if_neg hne]
  exact hb
/-- a slice value that reads as these ranges, in a block of ranges -/
def RsT (w : World) (v : Value) (l : List (Int × Int)) : Prop :=
  ∃ (a : Option Addr) (cap : Nat), v = .slice a l.length cap ∧ l.length ≤ cap ∧ (a = none ∨ ∃ g o, a = some ⟨g, o, none⟩) ∧ (l = [] ∨ ∃ g o cs m, a = some ⟨g, o, none⟩ ∧ Reads w g o l ∧ w.heap[g]? = some (.cells cs 48 m))
theorem RsT.rs {w : World} {v : Value} {l : List (Int × Int)} (h : RsT w v l) : Rs w v l := by
  obtain ⟨a, cap, e, hc, _, k⟩ := h
  exact ⟨a, cap, e, hc, k.imp id (fun ⟨g, o, _, _, h1, h2, _⟩ => ⟨g, o, h1, h2⟩)⟩
theorem OwnR.rsT {w : World} {base : Nat} {v : Value} {l : List (Int × Int)} (h : OwnR w base v l) : RsT w v l := by
  rcases h.2 with ⟨rfl, h0⟩ | ⟨g, cap, cur, rfl, _, hg, hc, _⟩
  · obtain rfl : l = [] := List.eq_nil_of_length_eq_zero h0
    exact ⟨none, 0, rfl, Nat.le_refl _, .inl rfl, .inl rfl⟩
  · exact ⟨_, cap, rfl, hc, .inr ⟨g, 0, rfl⟩, .inr ⟨g, 0, cur, (0, 0), rfl, OwnR.reads h, hg⟩⟩
theorem RsT.kt {w w' : World} {v : Value} {l : List (Int × Int)} (h : RsT w v l) (k : KT 48 w w') : RsT w' v l := by
  obtain ⟨a, cap, e, hc, ha, h⟩ := h
  refine ⟨a, cap, e, hc, ha, h.imp id ?_⟩
  rintro ⟨g, o, cs, m, e2, hr, hg⟩
  refine ⟨g, o, cs, m, e2, fun j hj => ?_, k g cs m hg⟩
  have e3 : w'.heap[g]? = w.heap[g]? := (k g cs m hg).trans hg.symm
  have := hr j hj
  simp only [World.cell?, e3] at this ⊢
  exact this
theorem OwnR.kt {w w' : World} {base : Nat} {v : Value} {l : List (Int × Int)} (h : OwnR w base v l) (k : KT 48 w w') : OwnR w' base v l := by
  refine ⟨h.1, ?_⟩
  rcases h.2 with h | ⟨g, cap, cur, e, h1, h2, h3⟩
  · exact .inl h
  · exact .inr ⟨g, cap, cur, e, h1, k _ _ _ h2, h3⟩
/-- how a map's element is held -/
def heldR (v : Value) : Option (DataW Value × List MemPlace) := some (.held v, [])
/-- what names mean, in a map -/
def Known (W : World) (m : Nat) (K : ByteArray → Option (List (Int × Int))) : Prop :=
  ∃ (n : Nat) (D : DataW Value), W.ownsMap Tryd.prog 9 heldR m n D ∧ n ≤ 1000000 ∧ ∀ nm : ByteArray, Maps.has D (.string nm.data.toList) = (K nm).isSome ∧ ∀ l, K nm = some l → ∃ v, D.atKey (.string nm.data.toList) (.held (.slice none 0 0)) = .held v ∧ RsT W v l
theorem zero30 (w : World) : (zeroValue 30).run Tryd.prog w = .ok (.slice none 0 0) w := by kernel_rfl
theorem Known.kept {W W' : World} {m : Nat} {K : ByteArray → Option (List (Int × Int))} (h : Known W m K) (hm : ∀ o, W.heap[m]? = some o → W'.heap[m]? = some o) (hk : KT 48 W W') : Known W' m K := by
  obtain ⟨n, D, ⟨es, c, hb, hF⟩, hn, hK⟩ := h
  exact ⟨n, D, ⟨es, c, hm _ hb, hF⟩, hn, fun nm => ⟨(hK nm).1, fun l hl => by
    obtain ⟨v, h1, h2⟩ := (hK nm).2 l hl
    exact ⟨v, h1, h2.kt hk⟩⟩⟩
theorem Known.below {W W' : World} {m : Nat} {K : ByteArray → Option (List (Int × Int))} (h : Known W m K) (hb : Below W.heap.size W W') : Known W' m K := h.kept (fun _ ho => (hb.block m (Array.getElem?_eq_some_iff.1 ho).1).trans ho) (KT.below hb)
/-- an item -/
structure It where
  k : Int
  u : Int
  nm : ByteArray
  lo : Int
  hi : Int
  nt : Bool
  ky : Int
abbrev itv (k u : Int) (nm : ByteArray) (ps : Value) (lo hi : Int) (nt : Bool) (ky : Int) : Value := .agg #[.int .i64 k, .int .i64 u, .string nm, ps, .int .i64 lo, .int .i64 hi, .bool nt, .int .i64 ky]
abbrev It.val (x : It) (ps : Value) : Value := itv x.k x.u x.nm ps x.lo x.hi x.nt x.ky
/-- the set that a name stands for -/
def nameC (o : Option (List (Int × Int))) : Int := match o with | none => 60 | some l => if validB l then 0 else 62
def nameL (o : Option (List (Int × Int))) : List (Int × Int) := o.getD []
noncomputable def plainC (K : ByteArray → Option (List (Int × Int))) (x : It) : Int := if x.k = 1 then spanC x.u x.u else if x.k = 2 then nameC (K x.nm) else 62
noncomputable def plainL (K : ByteArray → Option (List (Int × Int))) (x : It) : List (Int × Int) := if x.k = 1 then clips x.u x.u else if x.k = 2 then nameL (K x.nm) else []
/-- the map that a reader reads by: none, or one that is known -/
def KnownV (W : World) (mv : Value) (K : ByteArray → Option (List (Int × Int))) : Prop := (mv = .map none ∧ ∀ nm, K nm = none) ∨ ∃ m, mv = .map (some m) ∧ Known W m K
theorem KnownV.below {W W' : World} {mv : Value} {K : ByteArray → Option (List (Int × Int))} (h : KnownV W mv K) (hb : Below W.heap.size W W') : KnownV W' mv K := h.imp id (fun ⟨m, e, h⟩ => ⟨m, e, h.below hb⟩)
set_option maxHeartbeats 1000000 in
theorem plain_else (k u : Int) (nm : ByteArray) (ps : Value) (lo hi : Int) (nt : Bool) (ky : Int) (kb : Nat) (w : World) (h1 : k ≠ 1) (h2 : k ≠ 2) (h3 : k ≠ 3) :
    Calls Tryd.prog 47 #[itv k u nm ps lo hi nt ky, .pointer (some ⟨kb, 0, none⟩)] w fun e w' => e = .returned (.tuple #[.slice none 0 0, .int .i64 62]) ∧ Below w.heap.size w w' := by
  have e1 : (k == 1) = false := by simpa using h1
  have e2 : (k == 2) = false := by simpa using h2
  have e3 : (k == 3) = false := by simpa using h3
  go_enter Tryd.func47, Tryd.ntmps47
  go_wp2
  exact bodyPost_ret (v := .tuple #[.slice none 0 0, .int .i64 62]) (by simp [results, Tryd.f47, go_sem]) rfl ⟨rfl, (Below.refl _ _).alloc (Nat.le_refl _) _⟩
set_option maxHeartbeats 1000000 in
theorem plain_unit (u : Int) (nm : ByteArray) (ps : Value) (lo hi : Int) (nt : Bool) (ky : Int) (kb : Nat) (w : World) (hT : Tab w) :
    Calls Tryd.prog 47 #[itv 1 u nm ps lo hi nt ky, .pointer (some ⟨kb, 0, none⟩)] w fun e w' => AnsN w.heap.size (spanC u u) (clips u u) e w' ∧ Below w.heap.size w w' := by
  have HS : Hid (∀ W, Below w.heap.size w W → Calls Tryd.prog 48 #[.int .i64 u, .int .i64 u] W fun e w' => ∃ v, e = .returned (.tuple #[v, .int .i64 (spanC u u)]) ∧ (if spanC u u = 0 then OwnR w' w.heap.size v (clips u u) else v = .slice none 0 0) ∧ Below w.heap.size w w') := fun W hW => (span_any u u W (hT.below hW hT.pos)).mono (by
    rintro e w' ⟨⟨v, rfl, h⟩, hb⟩
    refine ⟨v, rfl, ?_, hW.trans (hb.mono hW.size)⟩
    split at h
    · rename_i h0; rw [if_pos h0]; exact h.le hW.size
    · rename_i h0; rw [if_neg h0]; exact h)
  have HB1 : Hid (∀ o, Below w.heap.size w (w.alloc o)) := fun o => (Below.refl _ _).alloc (Nat.le_refl _) _
  obtain ⟨c, hc⟩ : ∃ c, spanC u u = c := ⟨_, rfl⟩
  rw [hc] at HS ⊢
  clear hc hT
  go_enter Tryd.func47, Tryd.ntmps47
  go_wp2_with fail
  refine (HS.out _ (HB1.out _)).mono ?_
  rintro e w1 ⟨v, rfl, hv, hb⟩
  have HV : Hid (if c = 0 then OwnR w1 w.heap.size v (clips u u) else v = .slice none 0 0) := hv
  clear hv
  go_wp2
  exact bodyPost_ret (v := .tuple #[v, .int .i64 c]) (by simp [results, Tryd.f47, go_sem]) rfl ⟨⟨v, rfl, HV.out⟩, hb⟩
set_option maxHeartbeats 1000000 in
theorem plain_none (u : Int) (nm : ByteArray) (ps : Value) (lo hi : Int) (nt : Bool) (ky : Int) (kb m n : Nat) (D : DataW Value) (w : World) (hkb : w.cell? ⟨kb, 0, none⟩ = some (.map (some m))) (hD : w.ownsMap Tryd.prog 9 heldR m n D) (hs : nm.size ≤ maxLen) (hh : Maps.has D (.string nm.data.toList) = false) :
    Calls Tryd.prog 47 #[itv 2 u nm ps lo hi nt ky, .pointer (some ⟨kb, 0, none⟩)] w fun e w' => e = .returned (.tuple #[.slice none 0 0, .int .i64 60]) ∧ Below w.heap.size w w' := by
  have hk := Maps.string_keyed Tryd.underlying9
  have hkb' : ∀ o, (w.alloc o).cell? ⟨kb, 0, none⟩ = some (.map (some m)) := fun o => cell_up hkb o
  go_enter Tryd.func47, Tryd.ntmps47
  go_wp2_with (at_lookup; go_must (refine wpList_lookup_own_ok _ rfl _ _ 28 rfl 9 30 hk Tryd.underlying28 heldR (zero30 _) (.held (.slice none 0 0)) [] rfl m n D rfl (hD.alloc _) _ (.string nm.data.toList) rfl (WideMaps.keyOf_string_mk Tryd.underlying9 hs) ?_; intro v ps hv; rw [hh]))
  exact bodyPost_ret (v := .tuple #[.slice none 0 0, .int .i64 60]) (by simp [results, Tryd.f47, go_sem]) rfl ⟨rfl, (Below.refl _ _).alloc (Nat.le_refl _) _⟩
end Go.Proofs
