/-
  names: a name's set; a plain item; a part of a set.
-/
import Derived.Shelf.Abstract
import Derived.Shelf.RegionOpen
import Derived.WalkKit
import Derived.WalkSpells
import Derived.WalkLawsBesides
import Derived.OwnWalk
import Derived.BigQuiet
import Derived.Deep.QuietTactic
import Derived.Deep.RegionWith
import Derived.Lib.OthersKept
import Derived.Maps.AppendAt
import Derived.Maps.OwnSet
import Derived.StringKeys
import Derived.Lib.SmallJoins
import Derived.Test.YtbacejefgpaabaaDoorNc
namespace Go.Proofs
open Go.RowKit Go.Shelf

set_option maxRecDepth 100000
attribute [local go_sem] Oper.semAt_some

set_option maxHeartbeats 1000000 in
theorem plain_nil (u : Int) (nm : ByteArray) (ps : Value) (lo hi : Int) (nt : Bool) (ky : Int) (kb : Nat) (w : World) (hkb : w.cell? ⟨kb, 0, none⟩ = some (.map none)) (hs : nm.size ≤ maxLen) :
    Calls Tryd.prog 47 #[itv 2 u nm ps lo hi nt ky, .pointer (some ⟨kb, 0, none⟩)] w fun e w' => e = .returned (.tuple #[.slice none 0 0, .int .i64 60]) ∧ Below w.heap.size w w' := by
  have hk := Maps.string_keyed Tryd.underlying9
  have hkb' : ∀ o, (w.alloc o).cell? ⟨kb, 0, none⟩ = some (.map none) := fun o => cell_up hkb o
  have hl : ∀ W : World, (Instr.lookup 28 (.map none) (.string nm) true).run Tryd.prog W = .ok (.tuple #[.slice none 0 0, .bool false]) W := fun W => Maps.look_nil true hk Tryd.underlying28 (zero30 W) (WideMaps.keyOf_string_mk Tryd.underlying9 hs)
  go_enter Tryd.func47, Tryd.ntmps47
  go_wp2
  exact bodyPost_ret (v := .tuple #[.slice none 0 0, .int .i64 60]) (by simp [results, Tryd.f47, go_sem]) rfl ⟨rfl, (Below.refl _ _).alloc (Nat.le_refl _) _⟩
theorem clone_rsT {w : World} {v : Value} {l : List (Int × Int)} (h : RsT w v l) (hl : l.length ≤ 8796093022208) : Calls Tryd.prog 50 #[v] w fun e w' => ∃ v', e = .returned v' ∧ OwnR w' w.heap.size v' l ∧ Below w.heap.size w w' := by
  obtain ⟨a, cap, rfl, hc, ha, hr⟩ := h
  rcases ha with rfl | ⟨g, o, rfl⟩
  · have h0 : l = [] := hr.resolve_right (fun ⟨_, _, _, _, e, _⟩ => by cases e)
    subst h0
    refine (clone_nil w _ _).mono ?_
    rintro e w' ⟨rfl, rfl⟩
    exact ⟨_, rfl, OwnR.nil _ _, Below.refl _ _⟩
  · exact clone_any w g o l.length cap l rfl hl (hr.imp id (fun ⟨_, _, _, _, e, h, _⟩ => by cases e; exact h))
set_option maxHeartbeats 1000000 in
theorem plain_bad (u : Int) (nm : ByteArray) (ps : Value) (lo hi : Int) (nt : Bool) (ky : Int) (kb m n : Nat) (D : DataW Value) (w : World) (hT : Tab w) (hkb : w.cell? ⟨kb, 0, none⟩ = some (.map (some m))) (hD : w.ownsMap Tryd.prog 9 heldR m n D) (hs : nm.size ≤ maxLen) (hh : Maps.has D (.string nm.data.toList) = true) (v : Value) (l : List (Int × Int)) (hv : D.atKey (.string nm.data.toList) (.held (.slice none 0 0)) = .held v) (hR : RsT w v l) (hb : validB l = false) :
    Calls Tryd.prog 47 #[itv 2 u nm ps lo hi nt ky, .pointer (some ⟨kb, 0, none⟩)] w fun e w' => e = .returned (.tuple #[.slice none 0 0, .int .i64 62]) ∧ Below w.heap.size w w' := by
  have hk := Maps.string_keyed Tryd.underlying9
  have hkb' : ∀ o, (w.alloc o).cell? ⟨kb, 0, none⟩ = some (.map (some m)) := fun o => cell_up hkb o
  have HB : Hid (∀ o, Below w.heap.size w (w.alloc o)) := fun o => (Below.refl _ _).alloc (Nat.le_refl _) _
  have HV : Hid (∀ W, Below w.heap.size w W → Calls Tryd.prog 49 #[v] W fun e w' => e = .returned (.bool false) ∧ Below w.heap.size w w') := fun W hW => by
    refine (valid_any v l W (hT.below hW hT.pos) (hR.rs.below hW (Nat.le_refl _))).mono ?_
    rintro e w' ⟨rfl, hg⟩
    exact ⟨by rw [hb], hW.trans (hg.below.mono hW.size)⟩
  have HD : Hid (∀ v', heldR v' = some (D.atKey (.string nm.data.toList) (.held (.slice none 0 0)), []) → v' = v) := fun v' h => by
    rw [hv] at h; simpa [heldR] using h
  clear hR hT hb
  go_enter Tryd.func47, Tryd.ntmps47
  go_wp2_with (first | (at_lookup; go_must (refine wpList_lookup_own_ok _ rfl _ _ 28 rfl 9 30 hk Tryd.underlying28 heldR (zero30 _) (.held (.slice none 0 0)) [] rfl m n D rfl (hD.alloc _) _ (.string nm.data.toList) rfl (WideMaps.keyOf_string_mk Tryd.underlying9 hs) ?_; intro v' ps' hv'; obtain rfl : [] = ps' := (Prod.mk.inj (Option.some.inj hv')).2; obtain rfl := HD.out v' hv'; clear hv'; rw [hh])) | (go_at_call 49; refine (HV.out _ (HB.out _)).mono ?_; rintro e w1 ⟨rfl, hB1⟩))
  exact bodyPost_ret (v := .tuple #[.slice none 0 0, .int .i64 62]) (by simp [results, Tryd.f47, go_sem]) rfl ⟨rfl, hB1⟩
set_option maxHeartbeats 1000000 in
theorem plain_ok (u : Int) (nm : ByteArray) (ps : Value) (lo hi : Int) (nt : Bool) (ky : Int) (kb m n : Nat) (D : DataW Value) (w : World) (hT : Tab w) (hkb : w.cell? ⟨kb, 0, none⟩ = some (.map (some m))) (hD : w.ownsMap Tryd.prog 9 heldR m n D) (hs : nm.size ≤ maxLen) (hh : Maps.has D (.string nm.data.toList) = true) (v : Value) (l : List (Int × Int)) (hv : D.atKey (.string nm.data.toList) (.held (.slice none 0 0)) = .held v) (hR : RsT w v l) (hb : validB l = true) :
    Calls Tryd.prog 47 #[itv 2 u nm ps lo hi nt ky, .pointer (some ⟨kb, 0, none⟩)] w fun e w' => AnsN w.heap.size 0 l e w' ∧ Below w.heap.size w w' := by
  have hk := Maps.string_keyed Tryd.underlying9
  have hkb' : ∀ o, (w.alloc o).cell? ⟨kb, 0, none⟩ = some (.map (some m)) := fun o => cell_up hkb o
  have HB : Hid (∀ o, Below w.heap.size w (w.alloc o)) := fun o => (Below.refl _ _).alloc (Nat.le_refl _) _
  have HV : Hid (∀ W, Below w.heap.size w W → Calls Tryd.prog 49 #[v] W fun e w' => e = .returned (.bool true) ∧ Below w.heap.size w w') := fun W hW => by
    refine (valid_any v l W (hT.below hW hT.pos) (hR.rs.below hW (Nat.le_refl _))).mono ?_
    rintro e w' ⟨rfl, hg⟩
    exact ⟨by rw [hb], hW.trans (hg.below.mono hW.size)⟩
  have HC : Hid (∀ W, Below w.heap.size w W → Calls Tryd.prog 50 #[v] W fun e w' => ∃ v', e = .returned v' ∧ OwnR w' w.heap.size v' l ∧ Below w.heap.size w w') := fun W hW => by
    refine (clone_rsT (hR.kt (KT.below hW)) (by have := ((validB_iff l).1 hb).1; omega)).mono ?_
    rintro e w' ⟨v', rfl, hO, hb⟩
    exact ⟨v', rfl, hO.le hW.size, hW.trans (hb.mono hW.size)⟩
  have HD : Hid (∀ v', heldR v' = some (D.atKey (.string nm.data.toList) (.held (.slice none 0 0)), []) → v' = v) := fun v' h => by
    rw [hv] at h; simpa [heldR] using h
  clear hR hT hb
  go_enter Tryd.func47, Tryd.ntmps47
  go_wp2_with (first | (at_lookup; go_must (refine wpList_lookup_own_ok _ rfl _ _ 28 rfl 9 30 hk Tryd.underlying28 heldR (zero30 _) (.held (.slice none 0 0)) [] rfl m n D rfl (hD.alloc _) _ (.string nm.data.toList) rfl (WideMaps.keyOf_string_mk Tryd.underlying9 hs) ?_; intro v' ps' hv'; obtain rfl : [] = ps' := (Prod.mk.inj (Option.some.inj hv')).2; obtain rfl := HD.out v' hv'; clear hv'; rw [hh])) | (go_at_call 49; refine (HV.out _ (HB.out _)).mono ?_; rintro e w1 ⟨rfl, hB1⟩) | (go_at_call 50; refine (HC.out _ hB1).mono ?_; rintro e w2 ⟨v2, rfl, hO2, hB2⟩))
  exact bodyPost_ret (v := .tuple #[v2, .int .i64 0]) (by simp [results, Tryd.f47, go_sem]) rfl ⟨⟨v2, rfl, hO2⟩, hB2⟩
theorem plain_any (x : It) (ps : Value) (kb : Nat) (mv : Value) (K : ByteArray → Option (List (Int × Int))) (w : World) (hT : Tab w) (h3 : x.k ≠ 3) (hs : x.nm.size ≤ maxLen) (hkb : w.cell? ⟨kb, 0, none⟩ = some mv) (hK : KnownV w mv K) :
    Calls Tryd.prog 47 #[x.val ps, .pointer (some ⟨kb, 0, none⟩)] w fun e w' => AnsN w.heap.size (plainC K x) (plainL K x) e w' ∧ Below w.heap.size w w' := by
  obtain ⟨k, u, nm, lo, hi, nt, ky⟩ := x
  simp only at h3 hs
  by_cases h1 : k = 1
  · subst h1
    exact plain_unit u nm ps lo hi nt ky kb w hT
  by_cases h2 : k = 2
  · subst h2
    show Calls Tryd.prog 47 _ w fun e w' => AnsN w.heap.size (nameC (K nm)) (nameL (K nm)) e w' ∧ _
    rcases hK with ⟨rfl, hn⟩ | ⟨m, rfl, n, D, hD, hn, hK⟩
    · refine (plain_nil u nm ps lo hi nt ky kb w hkb hs).mono ?_
      rintro e w' ⟨rfl, hb⟩
      rw [hn]
      exact ⟨⟨_, rfl, rfl⟩, hb⟩
    · obtain ⟨hh, hl⟩ := hK nm
      cases hk : K nm with
      | none =>
        rw [hk] at hh
        refine (plain_none u nm ps lo hi nt ky kb m n D w hkb hD hs hh).mono ?_
        rintro e w' ⟨rfl, hb⟩
        exact ⟨⟨_, rfl, rfl⟩, hb⟩
      | some l =>
        rw [hk] at hh
        obtain ⟨v, hv, hR⟩ := hl l hk
        cases hb : validB l with
        | false =>
          refine (plain_bad u nm ps lo hi nt ky kb m n D w hT hkb hD hs hh v l hv hR hb).mono ?_
          rintro e w' ⟨rfl, hb2⟩
          have e1 : nameC (some l) = 62 := by simp [nameC, hb]
          rw [e1]
          exact ⟨⟨_, rfl, rfl⟩, hb2⟩
        | true =>
          have e1 : nameC (some l) = 0 := by simp [nameC, hb]
          rw [e1]
          exact plain_ok u nm ps lo hi nt ky kb m n D w hT hkb hD hs hh v l hv hR hb
  · refine (plain_else k u nm ps lo hi nt ky kb w h1 h2 h3).mono ?_
    rintro e w' ⟨rfl, hb⟩
    have e1 : plainC K ⟨k, u, nm, lo, hi, nt, ky⟩ = 62 := by simp [plainC, h1, h2]
    rw [e1]
    exact ⟨⟨_, rfl, rfl⟩, hb⟩
theorem cell_lt {w : World} {p : Addr} {v : Value} (h : w.cell? p = some v) : p.block < w.heap.size := by
  obtain ⟨ob, ho, _⟩ := cells_of_cell h
  exact (Array.getElem?_eq_some_iff.1 ho).1
noncomputable def partC (K : ByteArray → Option (List (Int × Int))) (x : It) : Int := if x.k = 6 then spanC x.lo x.hi else plainC K x
noncomputable def partL (K : ByteArray → Option (List (Int × Int))) (x : It) : List (Int × Int) := if x.k = 6 then clips x.lo x.hi else plainL K x
set_option maxHeartbeats 1000000 in
theorem part_any (x : It) (ps : Value) (pb kb : Nat) (mv : Value) (K : ByteArray → Option (List (Int × Int))) (w : World) (hT : Tab w) (h3 : x.k ≠ 3) (hs : x.nm.size ≤ maxLen) (hpb : w.cell? ⟨pb, 0, none⟩ = some (.func (.func 47) #[] #[.pointer (some ⟨kb, 0, none⟩)])) (hkb : w.cell? ⟨kb, 0, none⟩ = some mv) (hK : KnownV w mv K) :
    Calls Tryd.prog 52 #[x.val ps, .pointer (some ⟨pb, 0, none⟩)] w fun e w' => AnsN w.heap.size (partC K x) (partL K x) e w' ∧ Below w.heap.size w w' := by
  have HB : Hid (∀ o, Below w.heap.size w (w.alloc o)) := fun o => (Below.refl _ _).alloc (Nat.le_refl _) _
  have HP : Hid (∀ W, Below w.heap.size w W → Calls Tryd.prog 47 #[x.val ps, .pointer (some ⟨kb, 0, none⟩)] W fun e w' => AnsN w.heap.size (plainC K x) (plainL K x) e w' ∧ Below w.heap.size w w') := fun W hW => by
    refine (plain_any x ps kb mv K W (hT.below hW hT.pos) h3 hs ((hW.cell (p := ⟨kb, 0, none⟩) (cell_lt hkb)).trans hkb) (hK.below hW)).mono ?_
    rintro e w' ⟨⟨v, rfl, h⟩, hb⟩
    refine ⟨⟨v, rfl, ?_⟩, hW.trans (hb.mono hW.size)⟩
    split at h
    · rename_i h0; rw [if_pos h0]; exact h.le hW.size
    · rename_i h0; rw [if_neg h0]; exact h
  have HS : Hid (∀ W, Below w.heap.size w W → Calls Tryd.prog 48 #[.int .i64 x.lo, .int .i64 x.hi] W fun e w' => AnsN w.heap.size (spanC x.lo x.hi) (clips x.lo x.hi) e w' ∧ Below w.heap.size w w') := fun W hW => by
    refine (span_any x.lo x.hi W (hT.below hW hT.pos)).mono ?_
    rintro e w' ⟨⟨v, rfl, h⟩, hb⟩
    refine ⟨⟨v, rfl, ?_⟩, hW.trans (hb.mono hW.size)⟩
    split at h
    · rename_i h0; rw [if_pos h0]; exact h.le hW.size
    · rename_i h0; rw [if_neg h0]; exact h
  have hpb' : ∀ o, (w.alloc o).cell? ⟨pb, 0, none⟩ = some (.func (.func 47) #[] #[.pointer (some ⟨kb, 0, none⟩)]) := fun o => cell_up hpb o
  obtain ⟨k, u, nm, lo, hi, nt, ky⟩ := x
  by_cases h6 : k = 6
  · subst h6
    show Calls Tryd.prog 52 _ w fun e w' => AnsN w.heap.size (spanC lo hi) (clips lo hi) e w' ∧ _
    simp only at HS
    obtain ⟨c, hc⟩ : ∃ c, spanC lo hi = c := ⟨_, rfl⟩
    rw [hc] at HS ⊢
    clear hc HP hK h3 hs hT
    go_enter Tryd.func52, Tryd.ntmps52
    go_wp2_with fail
    refine (HS.out _ (HB.out _)).mono ?_
    rintro e w1 ⟨⟨v, rfl, hv⟩, hb⟩
    have HV : Hid (if c = 0 then OwnR w1 w.heap.size v (clips lo hi) else v = .slice none 0 0) := hv
    clear hv
    go_wp2
    exact bodyPost_ret (v := .tuple #[v, .int .i64 c]) (by simp [results, Tryd.f52, go_sem]) rfl ⟨⟨v, rfl, HV.out⟩, hb⟩
  · have e6 : (k == 6) = false := by simpa using h6
    have e1 : partC K ⟨k, u, nm, lo, hi, nt, ky⟩ = plainC K ⟨k, u, nm, lo, hi, nt, ky⟩ := by simp [partC, h6]
    have e2 : partL K ⟨k, u, nm, lo, hi, nt, ky⟩ = plainL K ⟨k, u, nm, lo, hi, nt, ky⟩ := by simp [partL, h6]
    rw [e1, e2]
    generalize plainC K ⟨k, u, nm, lo, hi, nt, ky⟩ = c at HP ⊢
    generalize plainL K ⟨k, u, nm, lo, hi, nt, ky⟩ = l at HP ⊢
    clear HS hK h3 hs hT e1 e2
    go_enter Tryd.func52, Tryd.ntmps52
    go_wp2_with fail
    refine (HP.out _ (HB.out _)).mono ?_
    rintro e w1 ⟨⟨v, rfl, hv⟩, hb⟩
    have HV : Hid (if c = 0 then OwnR w1 w.heap.size v l else v = .slice none 0 0) := hv
    clear hv
    go_wp2
    exact bodyPost_ret (v := .tuple #[v, .int .i64 c]) (by simp [results, Tryd.f52, go_sem]) rfl ⟨⟨v, rfl, HV.out⟩, hb⟩
end Go.Proofs
