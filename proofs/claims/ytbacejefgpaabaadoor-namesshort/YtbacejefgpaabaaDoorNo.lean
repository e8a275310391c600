/-
  names: a name is given the set of its item.
-/
import Derived.Shelf.Abstract
import Derived.Shelf.RegionOpen
import Derived.WalkKit
import Derived.WalkSpells
import Derived.WalkLawsBesides
import Derived.OwnWalk
import Derived.BigQuiet
import Derived.Deep.QuietTactic
import Derived.Deep.RegionWith
import Derived.Deep.DeepCutAuto
import Derived.Laws.EntriesVeiled
import Derived.Lib.OthersKept
import Derived.Maps.AppendAt
import Derived.Maps.OwnSet
import Derived.StringKeys
import Derived.WalkMore
import Derived.Lib.SmallJoins
import Derived.Test.YtbacejefgpaabaaDoorNn
namespace Go.Proofs
open Go.RowKit Go.Shelf

set_option maxRecDepth 100000
attribute [local go_sem] Oper.semAt_some

theorem known_look {W : World} {m : Nat} {K : ByteArray → Option (List (Int × Int))} (h : Known W m K) (nm : ByteArray) (hs : nm.size ≤ maxLen) : ∃ v, (Instr.lookup 28 (.map (some m)) (.string nm) true).run Tryd.prog W = .ok (.tuple #[v, .bool (K nm).isSome]) W := by
  obtain ⟨n, D, hD, _, hK⟩ := h
  obtain ⟨v, ps, hrun, _⟩ := hD.look_ok (Maps.string_keyed Tryd.underlying9) Tryd.underlying28 (zero30 W) (zd := .held (.slice none 0 0)) (zp := []) rfl (WideMaps.keyOf_string_mk Tryd.underlying9 hs)
  exact ⟨v, by rw [hrun, (hK nm).1]⟩
/-- what names mean, one more -/
def addK (K : ByteArray → Option (List (Int × Int))) (nm : ByteArray) (r : List (Int × Int)) : ByteArray → Option (List (Int × Int)) := fun x => if x.data.toList = nm.data.toList then some r else K x
/-- what names mean, in a map of at most N names -/
def KnownB (N : Nat) (W : World) (m : Nat) (K : ByteArray → Option (List (Int × Int))) : Prop :=
  ∃ (n : Nat) (D : DataW Value), W.ownsMap Tryd.prog 9 heldR m n D ∧ n ≤ N ∧ ∀ nm : ByteArray, Maps.has D (.string nm.data.toList) = (K nm).isSome ∧ ∀ l, K nm = some l → ∃ v, D.atKey (.string nm.data.toList) (.held (.slice none 0 0)) = .held v ∧ RsT W v l
theorem KnownB.known {N : Nat} {W : World} {m : Nat} {K : ByteArray → Option (List (Int × Int))} (h : KnownB N W m K) (hN : N ≤ 1000000) : Known W m K := by
  obtain ⟨n, D, h1, h2, h3⟩ := h
  exact ⟨n, D, h1, by omega, h3⟩
theorem KnownB.kept {N : Nat} {W W' : World} {m : Nat} {K : ByteArray → Option (List (Int × Int))} (h : KnownB N W m K) (hm : ∀ o, W.heap[m]? = some o → W'.heap[m]? = some o) (hk : KT 48 W W') : KnownB N W' m K := by
  obtain ⟨n, D, ⟨es, c, hb, hF⟩, hn, hK⟩ := h
  exact ⟨n, D, ⟨es, c, hm _ hb, hF⟩, hn, fun nm => ⟨(hK nm).1, fun l hl => by
    obtain ⟨v, h1, h2⟩ := (hK nm).2 l hl
    exact ⟨v, h1, h2.kt hk⟩⟩⟩
theorem KnownB.below {N : Nat} {W W' : World} {m : Nat} {K : ByteArray → Option (List (Int × Int))} (h : KnownB N W m K) (hb : Below W.heap.size W W') : KnownB N W' m K := h.kept (fun _ ho => (hb.block m (Array.getElem?_eq_some_iff.1 ho).1).trans ho) (KT.below hb)
theorem known_store {N : Nat} {W : World} {m : Nat} {K : ByteArray → Option (List (Int × Int))} (h : KnownB N W m K) (hN : N < 1000000) (nm : ByteArray) (hs : nm.size ≤ maxLen) (v : Value) (r : List (Int × Int)) (hv : RsT W v r) :
    ∃ w', (Instr.mapUpdate 28 (.map (some m)) (.string nm) v).run Tryd.prog W = .ok () w' ∧ KnownB (N + 1) w' m (addK K nm r) ∧ W.grownBy w' (some m) ∧ ∃ es c, W.heap[m]? = some (.map es c) := by
  obtain ⟨n, D, hD, hn, hK⟩ := h
  obtain ⟨w', hrun, hD', ht⟩ := hD.store (Maps.string_keyed Tryd.underlying9) Tryd.underlying28 (by unfold maxLen; omega) (WideMaps.keyOf_string_mk Tryd.underlying9 hs) (d := .held v) (ps := []) rfl
  have hmap := hD.isMap
  have hkl : WideAt.IsKeyLit (.string nm.data.toList) := by simp [WideAt.IsKeyLit]
  obtain ⟨es, c, hb, _⟩ := hD
  have hkt : KT 48 W w' := KT.grown ht.grown (fun b e cs mk hc => by
    cases e
    rw [hb] at hc; cases hc)
  refine ⟨w', hrun, ⟨n + 1, _, hD', by omega, fun x => ?_⟩, ht.grown, es, c, hb⟩
  by_cases hx : x.data.toList = nm.data.toList
  · have e1 : addK K nm r x = some r := by simp [addK, hx]
    rw [e1, hx, Maps.has_put_same hmap hkl]
    refine ⟨rfl, fun l hl => ?_⟩
    cases hl
    exact ⟨v, Maps.atKey_put_same hmap hkl _ _, hv.kt hkt⟩
  · have e1 : addK K nm r x = K x := by simp [addK, hx]
    have hne : (Lit.string x.data.toList) ≠ Lit.string nm.data.toList := fun e => hx (Lit.string.inj e)
    rw [e1, Maps.has_put_other hne]
    refine ⟨(hK x).1, fun l hl => ?_⟩
    obtain ⟨v', h1, h2⟩ := (hK x).2 l hl
    exact ⟨v', by rw [Maps.atKey_put_other hne]; exact h1, h2.kt hkt⟩
set_option maxHeartbeats 4000000 in
theorem give_twice (k at' : Int) (nm : ByteArray) (bg en : Bool) (A1 A2 A3 A4 : Option Addr) (n1 n2 n3 n4 c1 c2 c3 c4 : Nat) (cu : Int) (mb m : Nat) (K : ByteArray → Option (List (Int × Int))) (w : World) (hK : Known w m K) (hs : nm.size ≤ maxLen) (hm0 : w.cell? ⟨mb, 0, none⟩ = some (.map (some m))) (hk : (K nm).isSome = true) :
    Calls Tryd.prog 44 #[.pointer (some ⟨mb, 0, none⟩), lnv k at' nm bg en (.slice A1 n1 c1) (.slice A2 n2 c2) (.slice A3 n3 c3) (.slice A4 n4 c4) cu] w fun e w' => e = .returned (.int .i64 61) ∧ Below w.heap.size w w' := by
  have hm0' : ∀ o, (w.alloc o).cell? ⟨mb, 0, none⟩ = some (.map (some m)) := fun o => cell_up hm0 o
  have HB : Hid (∀ o, Below w.heap.size w (w.alloc o).drew) := fun o => ((Below.refl _ _).alloc (Nat.le_refl _) _).drew
  obtain ⟨v, hl⟩ := known_look (W := (w.alloc (.cells #[.int .i64 k, .int .i64 at', .string nm, .bool bg, .bool en, .slice A1 n1 c1, .slice A2 n2 c2, .slice A3 n3 c3, .slice A4 n4 c4, .int .i64 cu] 53)).drew) (hK.below (((Below.refl _ w).alloc (Nat.le_refl _) _).drew)) nm hs
  rw [hk] at hl
  clear hK hm0
  go_enter Tryd.func44, Tryd.ntmps44
  go_wp2
  go_region
  all_goals (go_wp2; exact bodyPost_ret (v := .int .i64 61) (by simp [results, Tryd.f44, go_sem]) rfl ⟨rfl, HB.out _⟩)
set_option maxHeartbeats 8000000 in
theorem give_one (k at' : Int) (nm : ByteArray) (bg en : Bool) (A1 A3 A4 : Option Addr) (n1 n3 n4 c1 c3 c4 g o c2 : Nat) (cu : Int) (q : PIt) (mb m p1 p3 N : Nat) (K : ByteArray → Option (List (Int × Int))) (w : World) (hT : Tab w) (hK : KnownB N w m K) (hN : N < 1000000) (hs : nm.size ≤ maxLen) (hm0 : w.cell? ⟨mb, 0, none⟩ = some (.map (some m))) (hk : (K nm).isSome = false)
    (hm1 : w.cell? ⟨mb, 1, none⟩ = some (.func (.func 34) #[] #[.pointer (some ⟨p3, 0, none⟩), .pointer (some ⟨p1, 0, none⟩)])) (hR : Reader w (.func (.func 34) #[] #[.pointer (some ⟨p3, 0, none⟩), .pointer (some ⟨p1, 0, none⟩)]) (.map (some m))) (hqv : ∃ a n c, q.v = .slice a n c) (hg : g < w.heap.size) (hI : ItAt w g o q.x q.v) (hOk : ItemOk w q.x q.v q.l) :
    Calls Tryd.prog 44 #[.pointer (some ⟨mb, 0, none⟩), lnv k at' nm bg en (.slice A1 n1 c1) (.slice (some ⟨g, o, none⟩) 1 c2) (.slice A3 n3 c3) (.slice A4 n4 c4) cu] w fun e w' => ∃ c r, SetC K q.x (q.l.map Prod.fst) c r ∧ e = .returned (.int .i64 c) ∧ (c ≠ 0 → Below w.heap.size w w') ∧ (c = 0 → KnownB (N + 1) w' m (addK K nm r) ∧ ∃ W, Below w.heap.size w W ∧ W.grownBy w' (some m) ∧ ∃ es cl, W.heap[m]? = some (.map es cl)) := by
  have hKn := hK.known (by omega)
  obtain ⟨W1, hW1⟩ : ∃ W1, (w.alloc (.cells #[.int .i64 k, .int .i64 at', .string nm, .bool bg, .bool en, .slice A1 n1 c1, .slice (some ⟨g, o, none⟩) 1 c2, .slice A3 n3 c3, .slice A4 n4 c4, .int .i64 cu] 53)) = W1 := ⟨_, rfl⟩
  have hB1 : Below w.heap.size w W1 := by rw [← hW1]; exact (Below.refl _ _).alloc (Nat.le_refl _) _
  have hln : W1.heap[w.heap.size]? = some (.cells #[.int .i64 k, .int .i64 at', .string nm, .bool bg, .bool en, .slice A1 n1 c1, .slice (some ⟨g, o, none⟩) 1 c2, .slice A3 n3 c3, .slice A4 n4 c4, .int .i64 cu] 53 (0, 0)) := by rw [← hW1]; exact blk_new rfl
  have hm0' : W1.cell? ⟨mb, 0, none⟩ = some (.map (some m)) := (hB1.cell (p := ⟨mb, 0, none⟩) (cell_lt hm0)).trans hm0
  have hm1' : W1.cell? ⟨mb, 1, none⟩ = some (.func (.func 34) #[] #[.pointer (some ⟨p3, 0, none⟩), .pointer (some ⟨p1, 0, none⟩)]) := (hB1.cell (p := ⟨mb, 1, none⟩) (cell_lt hm1)).trans hm1
  have d2 : W1.cell? ⟨w.heap.size, 2, none⟩ = some (.string nm) := by simp [World.cell?, hln]
  have d6 : W1.cell? ⟨w.heap.size, 6, none⟩ = some (.slice (some ⟨g, o, none⟩) 1 c2) := by simp [World.cell?, hln]
  obtain ⟨v, hl⟩ := known_look (W := W1.drew) (hKn.below hB1.drew) nm hs
  rw [hk] at hl
  have HI : Hid (∀ W, Below w.heap.size w W → Calls Tryd.prog 34 #[q.x.val q.v, .pointer (some ⟨p3, 0, none⟩), .pointer (some ⟨p1, 0, none⟩)] W fun e w' => ∃ c r a n cp, SetC K q.x (q.l.map Prod.fst) c r ∧ e = .returned (.tuple #[.slice a n cp, .int .i64 c]) ∧ (c = 0 → OwnR w' w.heap.size (.slice a n cp) r) ∧ Below W.heap.size W w') := fun W hW =>
    (item_any q.x q.v q.l _ (.map (some m)) K W (hT.below hW hT.pos) (hOk.below hW) p1 p3 (hR.kt (KT.below hW) (KT.below hW)) rfl (.inr ⟨m, rfl, hKn.below hW⟩)).mono (by
      rintro e w' ⟨c, r, h1, ⟨v, h2, h3⟩, h4⟩
      by_cases h0 : c = 0
      · rw [if_pos h0] at h3
        obtain ⟨A, cp, e2, _⟩ := h3.rs
        subst e2
        exact ⟨c, r, A, _, cp, h1, h2, fun _ => h3.le hW.size, h4⟩
      · rw [if_neg h0] at h3
        subst h3
        exact ⟨c, r, none, 0, 0, h1, h2, fun e => absurd e h0, h4⟩)
  have HK : Hid (∀ W, Below w.heap.size w W → KnownB N W m K) := fun W hW => hK.below hW
  have HC : Hid (∀ W, Below W1.heap.size W1 W → W.cell? ⟨mb, 0, none⟩ = some (.map (some m)) ∧ W.cell? ⟨w.heap.size, 2, none⟩ = some (.string nm) ∧ Below w.heap.size w W) := fun W hW => ⟨(hW.cell (p := ⟨mb, 0, none⟩) (cell_lt hm0')).trans hm0', (hW.cell (p := ⟨w.heap.size, 2, none⟩) (cell_lt d2)).trans d2, hB1.trans (hW.mono hB1.size)⟩
  obtain ⟨⟨xk, xu, xnm, xlo, xhi, xnt, xky⟩, qv, ql⟩ := q
  obtain ⟨qa, qn, qc, hqv⟩ := hqv
  simp only at hqv
  subst hqv
  obtain ⟨e0, e1, e2, e3, e4, e5, e6, e7⟩ := hI.below hB1 hg
  simp only at e0 e1 e2 e3 e4 e5 e6 e7
  have HBW : Hid (Below w.heap.size w W1) := hB1
  clear hKn hK hI hOk hR hT hm0 hm1 hln hB1 hg
  go_enter Tryd.func44, Tryd.ntmps44
  go_wp2
  clear hW1
  go_region
  clear hl
  go_wp2_with fail
  have HBd : Hid (Below w.heap.size w W1.drew.drew) := HBW.out.drew.drew
  have HCd : Hid (∀ W, Below W1.drew.drew.heap.size W1.drew.drew W → W.cell? ⟨mb, 0, none⟩ = some (.map (some m)) ∧ W.cell? ⟨w.heap.size, 2, none⟩ = some (.string nm) ∧ Below w.heap.size w W) := fun W h => HC.out W (((Below.refl _ W1).drew.drew).trans h)
  go_cut [7, 8] (fun s7 s8 wx => ∃ c r a n cp, s7 = .slice a n cp ∧ s8 = .int .i64 c ∧ Hid (SetC K ⟨xk, xu, xnm, xlo, xhi, xnt, xky⟩ (ql.map Prod.fst) c r ∧ (c = 0 → OwnR wx w.heap.size (.slice a n cp) r) ∧ wx.cell? ⟨mb, 0, none⟩ = some (.map (some m)) ∧ wx.cell? ⟨w.heap.size, 2, none⟩ = some (.string nm) ∧ Below w.heap.size w wx))
  case first =>
    as_aux_lemma =>
      go_region_with (go_at_call 34; go_must (refine (HI.out _ HBd.out).mono ?_; rintro e w2 ⟨c, r, a, n, cp, hSC, rfl, hO, hb⟩; have HV : Hid (SetC K ⟨xk, xu, xnm, xlo, xhi, xnt, xky⟩ (ql.map Prod.fst) c r ∧ (c = 0 → OwnR w2 w.heap.size (.slice a n cp) r) ∧ w2.cell? ⟨mb, 0, none⟩ = some (.map (some m)) ∧ w2.cell? ⟨w.heap.size, 2, none⟩ = some (.string nm) ∧ Below w.heap.size w w2) := ⟨hSC, hO, HCd.out _ hb⟩; clear hSC hO hb))
      all_goals (go_wp2_with fail; go_meet; exact ⟨c, r, a, n, cp, rfl, rfl, HV.out⟩)
  case rest =>
    obtain ⟨c, r, a, n, cp, rfl, rfl, HV⟩ := hcut
    obtain ⟨hSC, hO, h0', h2', hb⟩ := HV.out
    clear hm0' hm1' d2 d6 e0 e1 e2 e3 e4 e5 e6 e7 HC HCd HBd HBW HI
    by_cases h0 : c = 0
    · subst h0
      obtain ⟨w3, hst, hK3, hg3, hm3⟩ := known_store (HK.out wc.drew hb.drew) hN nm hs (.slice a n cp) r ((hO rfl).rsT)
      have HF : Hid (SetC K ⟨xk, xu, xnm, xlo, xhi, xnt, xky⟩ (ql.map Prod.fst) 0 r ∧ KnownB (N + 1) w3 m (addK K nm r) ∧ ∃ W, Below w.heap.size w W ∧ W.grownBy w3 (some m) ∧ ∃ es cl, W.heap[m]? = some (.map es cl)) := ⟨hSC, hK3, wc.drew, hb.drew, hg3, hm3⟩
      clear hSC hO hb hK3 hg3 hm3 HV
      go_wp2_with fail
      go_region
      all_goals (go_wp2; exact bodyPost_ret (v := .int .i64 0) (by simp [results, Tryd.f44, go_sem]) rfl ⟨0, r, HF.out.1, rfl, fun h => absurd rfl h, fun _ => HF.out.2⟩)
    · have h0b : (c == 0) = false := by simpa using h0
      clear hO h0' h2'
      go_wp2
      exact bodyPost_ret (v := .int .i64 c) (by simp [results, Tryd.f44, go_sem]) rfl ⟨c, r, hSC, rfl, fun _ => hb, fun h => absurd h h0⟩
end Go.Proofs
