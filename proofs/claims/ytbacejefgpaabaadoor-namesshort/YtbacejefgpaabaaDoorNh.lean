/-
  names: readers are made; Set.
-/
import Derived.Shelf.Abstract
import Derived.Shelf.RegionOpen
import Derived.WalkKit
import Derived.WalkSpells
import Derived.WalkLawsBesides
import Derived.OwnWalk
import Derived.BigQuiet
import Derived.Deep.QuietTactic
import Derived.Deep.LoopGhost
import Derived.Deep.RegionWith
import Derived.Deep.RegionHeld3
import Derived.Deep.DeepCutAuto
import Derived.Laws.EntriesVeiled
import Derived.Lib.OthersKept
import Derived.Maps.AppendAt
import Derived.Lib.SmallJoins
import Derived.Test.YtbacejefgpaabaaDoorNg
namespace Go.Proofs
open Go.RowKit Go.Shelf

set_option maxRecDepth 100000
attribute [local go_sem] Oper.semAt_some

theorem blk_up {W : World} {b : Nat} {o : Obj} (h : W.heap[b]? = some o) (ob : Obj) : (W.alloc ob).heap[b]? = some o := (((Below.refl _ W).alloc (Nat.le_refl _) ob).block b (Array.getElem?_eq_some_iff.1 h).1).trans h
theorem blk_new {W : World} {ob : Obj} {n : Nat} (h : W.heap.size = n) : (W.alloc ob).heap[n]? = some ob := by subst h; exact heap_alloc_new _ _
theorem readPlain_any (om : Option Nat) (w : World) : Calls Tryd.prog 32 #[.map om] w fun e w' => e = .returned (.func (.func 47) #[] #[.pointer (some ⟨w.heap.size, 0, none⟩)]) ∧ w' = w.alloc (.cells #[.map om] 28) := by
  go_enter Tryd.func32, Tryd.ntmps32
  go_wp2
  go_ret
  exact ⟨rfl, rfl⟩
theorem readPart_any (f : Nat) (fv : Value) (hf : fv = .func (.func 47) #[] #[.pointer (some ⟨f, 0, none⟩)]) (w : World) : Calls Tryd.prog 33 #[fv] w fun e w' => e = .returned (.func (.func 52) #[] #[.pointer (some ⟨w.heap.size, 0, none⟩)]) ∧ w' = w.alloc (.cells #[fv] 68) := by
  subst hf
  go_enter Tryd.func33, Tryd.ntmps33
  go_wp2
  go_ret
  exact ⟨rfl, rfl⟩
set_option maxHeartbeats 1000000 in
theorem readItem_any (om : Option Nat) (w : World) : Calls Tryd.prog 21 #[.map om] w fun e w' => ∃ p1 p3, e = .returned (.func (.func 34) #[] #[.pointer (some ⟨p3, 0, none⟩), .pointer (some ⟨p1, 0, none⟩)]) ∧ Reader w' (.func (.func 34) #[] #[.pointer (some ⟨p3, 0, none⟩), .pointer (some ⟨p1, 0, none⟩)]) (.map om) ∧ Below w.heap.size w w' := by
  have H1 : Hid (∀ W : World, Calls Tryd.prog 32 #[.map om] W fun e w' => e = .returned (.func (.func 47) #[] #[.pointer (some ⟨W.heap.size, 0, none⟩)]) ∧ w' = W.alloc (.cells #[.map om] 28)) := fun W => readPlain_any om W
  have H2 : Hid (∀ (W : World) (f : Nat), Calls Tryd.prog 33 #[.func (.func 47) #[] #[.pointer (some ⟨f, 0, none⟩)]] W fun e w' => e = .returned (.func (.func 52) #[] #[.pointer (some ⟨W.heap.size, 0, none⟩)]) ∧ w' = W.alloc (.cells #[.func (.func 47) #[] #[.pointer (some ⟨f, 0, none⟩)]] 68)) := fun W f => readPart_any f _ rfl W
  go_enter Tryd.func21, Tryd.ntmps21
  go_wp2_with fail
  refine (H1.out _).mono ?_
  rintro e w1 ⟨rfl, rfl⟩
  go_wp2_with fail
  refine (H2.out _ _).mono ?_
  rintro e w1 ⟨rfl, rfl⟩
  go_wp2
  go_ret
  refine ⟨_, _, rfl, ⟨w.heap.size, w.heap.size + 1, w.heap.size + 1 + 1, w.heap.size + 1 + 1 + 1, rfl, ?_, ?_, ?_, ?_⟩, ?_⟩
  · exact blk_new (by simp)
  · exact blk_up (blk_up (blk_new (by simp)) _) _
  · exact blk_up (blk_new (by simp)) _
  · exact blk_up (blk_up (blk_up (blk_new rfl) _) _) _
  · exact ((((Below.refl _ w).alloc (Nat.le_refl _) _).alloc (by simp) _).alloc (by simp; omega) _).alloc (by simp; omega) _
set_option maxHeartbeats 2000000 in
theorem set_any (x : It) (psv : Value) (l : List (It × Value)) (om : Option Nat) (K : ByteArray → Option (List (Int × Int))) (w : World) (hT : Tab w) (hx : ItemOk w x psv l) (hK : KnownV w (.map om) K) :
    Calls Tryd.prog 9 #[x.val psv, .map om] w fun e w' => ∃ c r, SetC K x (l.map Prod.fst) c r ∧ AnsN w.heap.size c r e w' ∧ Below w.heap.size w w' := by
  have HB : Hid (∀ o, Below w.heap.size w (w.alloc o)) := fun o => (Below.refl _ _).alloc (Nat.le_refl _) _
  have HR : Hid (∀ W : World, Calls Tryd.prog 21 #[.map om] W fun e w' => ∃ p1 p3, e = .returned (.func (.func 34) #[] #[.pointer (some ⟨p3, 0, none⟩), .pointer (some ⟨p1, 0, none⟩)]) ∧ Reader w' (.func (.func 34) #[] #[.pointer (some ⟨p3, 0, none⟩), .pointer (some ⟨p1, 0, none⟩)]) (.map om) ∧ Below W.heap.size W w') := fun W => readItem_any om W
  have HI : Hid (∀ (W : World) (p1 p3 : Nat), Below w.heap.size w W → Reader W (.func (.func 34) #[] #[.pointer (some ⟨p3, 0, none⟩), .pointer (some ⟨p1, 0, none⟩)]) (.map om) → Calls Tryd.prog 34 #[x.val psv, .pointer (some ⟨p3, 0, none⟩), .pointer (some ⟨p1, 0, none⟩)] W fun e w' => ∃ c r v, SetC K x (l.map Prod.fst) c r ∧ e = .returned (.tuple #[v, .int .i64 c]) ∧ (if c = 0 then OwnR w' w.heap.size v r else v = .slice none 0 0) ∧ Below w.heap.size w w') := fun W p1 p3 hW hR =>
    (item_any x psv l _ (.map om) K W (hT.below hW hT.pos) (hx.below hW) p1 p3 hR rfl (hK.below hW)).mono (by
      rintro e w' ⟨c, r, h1, h2, h3⟩
      obtain ⟨v, h4, h5⟩ := ansN_le h2 hW.size
      exact ⟨c, r, v, h1, h4, h5, hW.trans (h3.mono hW.size)⟩)
  have HBx : Hid (∀ ob W1, Below (w.alloc ob).drew.heap.size (w.alloc ob).drew W1 → Below w.heap.size w W1) := fun ob W1 h => ((Below.refl _ w).alloc (Nat.le_refl _) ob).drew.trans (h.mono (by simp [World.drew]))
  obtain ⟨pa, pn, pcp, rfl⟩ := hx.2.2.1
  clear hT hx hK
  obtain ⟨k, u, nm, lo, hi, nt, ky⟩ := x
  go_enter Tryd.func9, Tryd.ntmps9
  go_wp2
  go_region_with (first | (go_at_call 21; refine (HR.out _).mono ?_; rintro e w1 ⟨p1, p3, rfl, hR, hb⟩; have c0 := hb.cell (p := ⟨w.heap.size, 0, none⟩) (by simp); have c1 := hb.cell (p := ⟨w.heap.size, 1, none⟩) (by simp); have c2 := hb.cell (p := ⟨w.heap.size, 2, none⟩) (by simp); have c3 := hb.cell (p := ⟨w.heap.size, 3, none⟩) (by simp); have c4 := hb.cell (p := ⟨w.heap.size, 4, none⟩) (by simp); have c5 := hb.cell (p := ⟨w.heap.size, 5, none⟩) (by simp); have c6 := hb.cell (p := ⟨w.heap.size, 6, none⟩) (by simp); have c7 := hb.cell (p := ⟨w.heap.size, 7, none⟩) (by simp); simp at c0 c1 c2 c3 c4 c5 c6 c7) | (go_at_call 34; go_must (refine (HI.out _ p1 p3 (HBx.out _ _ hb) hR).mono ?_; rintro e w2 ⟨c, r, v, hS, rfl, hv, hb2⟩; have HV : Hid (SetC K ⟨k, u, nm, lo, hi, nt, ky⟩ (l.map Prod.fst) c r ∧ (if c = 0 then OwnR w2 w.heap.size v r else v = .slice none 0 0)) := ⟨hS, hv⟩; clear hS hv)))
  all_goals (go_wp2; exact bodyPost_ret (v := .tuple #[v, .int .i64 c]) (by simp [results, Tryd.f9, go_sem]) rfl ⟨c, r, HV.out.1, ⟨v, rfl, HV.out.2⟩, hb2⟩)
end Go.Proofs
