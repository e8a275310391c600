/-
  names: a maker takes a line.
-/
import Derived.Shelf.Abstract
import Derived.Shelf.RegionOpen
import Derived.WalkKit
import Derived.WalkSpells
import Derived.WalkLawsBesides
import Derived.OwnWalk
import Derived.BigQuiet
import Derived.Deep.QuietTactic
import Derived.Deep.LoopGhost
import Derived.Deep.RegionWith
import Derived.Deep.AppendLies
import Derived.Deep.DeepCutAuto
import Derived.Laws.EntriesVeiled
import Derived.Lib.OthersKept
import Derived.Maps.AppendAt
import Derived.Maps.OwnSet
import Derived.StringKeys
import Derived.WalkMore
import Derived.Lib.SmallJoins
import Derived.Test.YtbacejefgpaabaaDoorNm
import Derived.Test.YtbacejefgpaabaaDoorNp
namespace Go.Proofs
open Go.RowKit Go.Shelf

set_option maxRecDepth 100000
attribute [local go_sem] Oper.semAt_some

theorem info62 : (Tryd.prog.info? 62).map (fun i => (i.zero, i.size, i.bytes)) = some (some (.agg #[.slice none 0 0]), 1, 24) := by kernel_rfl
set_option maxHeartbeats 4000000 in
theorem take_then (at' : Int) (nm : ByteArray) (bg en : Bool) (A1 A2 A3 A4 : Option Addr) (n1 n2 n3 n4 c1 c2 c3 c4 : Nat) (cu : Int) (mb m p1 p3 N pg pn pcap : Nat) (K : ByteArray → Option (List (Int × Int))) (ps : List (List Rl)) (base : Nat) (w : World) (hM : Mk w base mb m p1 p3 N K pg pn pcap ps) (hN : N < 900000) :
    Calls Tryd.prog 30 #[.pointer (some ⟨mb, 0, none⟩), lnv 3 at' nm bg en (.slice A1 n1 c1) (.slice A2 n2 c2) (.slice A3 n3 c3) (.slice A4 n4 c4) cu] w fun e w' => e = .returned (.int .i64 0) ∧ Below base w w' ∧ ∃ pg' pn' pcap', Mk w' base mb m p1 p3 (N + 1) K pg' pn' pcap' (ps ++ [[]]) := by
  obtain ⟨i0, hi, hz0, hz1, hz2⟩ := info_parts info62
  have HM : Hid (Mk w base mb m p1 p3 N K pg pn pcap ps) := hM
  have hc2 : ∀ o, (w.alloc o).cell? ⟨mb, 2, none⟩ = some (.slice (some ⟨pg, 0, none⟩) pn pcap) := fun o => cell_up hM.cells.2.2.1 o
  have HB : Hid (∀ o o2, Below w.heap.size w ((w.alloc o).alloc o2)) := fun o o2 => ((Below.refl _ _).alloc (Nat.le_refl _) _).alloc (by simp) _
  obtain ⟨vs, v1, v2, v3, v4⟩ := hM.pr
  have HO : Hid (∀ o o2, ((w.alloc o).alloc o2).ownsRow base 62 1 (.slice (some ⟨pg, 0, none⟩) pn pcap) vs.length vs) := fun o o2 => own_kept_t v2 (KT.below (HB.out o o2))
  have HV : Hid (vs.length = ps.length ∧ (∀ o o2, ∀ (j : Nat) (h1 : j < vs.length) (h2 : j < ps.length), RulesRow ((w.alloc o).alloc o2) base vs[j] ps[j]) ∧ ∀ (i j : Nat) (hi : i < vs.length) (hj : j < vs.length), i ≠ j → vs[i].ownBlock = none ∨ vs[i].ownBlock ≠ vs[j].ownBlock) := ⟨v1, fun o o2 j a b => (v3 j a b).kt (KT.below (HB.out o o2)) (KT.below (HB.out o o2)) (KT.below (HB.out o o2)) (KT.below (HB.out o o2)), v4⟩
  have HL : Hid (∀ o o2, base ≤ ((w.alloc o).alloc o2).heap.size) := fun o o2 => Nat.le_trans hM.le (HB.out o o2).size
  have hlen : vs.length ≤ 1000000 := by have := hM.len; omega
  have HF : Hid (∀ o o2 w3, ((w.alloc o).alloc o2).grownBy w3 (Value.slice (some ⟨pg, 0, none⟩) pn pcap).ownBlock → w3.cell? ⟨mb, 2, none⟩ = some (.slice (some ⟨pg, 0, none⟩) pn pcap) ∧ w3.frozen? ⟨mb, 2, none⟩ = false) := fun o o2 w3 hg => by
    have hM2 := hM.below (HB.out o o2)
    obtain ⟨vs, _, ho, _⟩ := hM2.pr
    have hb := own_kt ho hg (t := 80) (by decide) _ _ _ hM2.blk
    simp [World.cell?, World.frozen?, hb]
  clear hM v1 v2 v3 v4
  go_enter Tryd.func30, Tryd.ntmps30
  go_wp2_with (at_builtin; go_must (refine wpList_append_lies _ rfl _ _ _ rfl base 62 i0 _ 1 24 Tryd.underlying49 hi hz0 hz1 hz2 rfl (by decide) (.slice (some ⟨pg, 0, none⟩) pn pcap) vs.length vs rfl (HO.out _ _) ⟨w.heap.size + 1, 0, none⟩ 1 1 [.slice none 0 0] rfl rfl (World.news_of_block (cs := #[.slice none 0 0]) (t := 62) (fr := (0, 0)) (blk_new (by simp))) (by simp [Value.oneCell']) (by decide) (by unfold maxLen; omega) (by omega) (HL.out _ _) (w.heap.size + 1 + 1) (by simp) ?_; intro g' cap' w3 hown hgrow _ _; obtain ⟨hc3, hf3⟩ := HF.out _ _ _ hgrow; have HD : Hid (Mk (w3.setCell ⟨mb, 2, none⟩ (.slice (some ⟨g', 0, none⟩) (vs.length + 1) cap')) base mb m p1 p3 (N + 1) K g' (vs.length + 1) cap' (ps ++ [[]]) ∧ Below base w (w3.setCell ⟨mb, 2, none⟩ (.slice (some ⟨g', 0, none⟩) (vs.length + 1) cap'))) := HM.out.ended (HB.out _ _) HV.out.1 (HO.out _ _) (HV.out.2.1 _ _) HV.out.2.2 hown hgrow; clear hown hgrow))
  exact bodyPost_ret (v := .int .i64 0) (by simp [results, Tryd.f30, go_sem]) rfl ⟨rfl, HD.out.2, g', vs.length + 1, cap', HD.out.1⟩
set_option maxHeartbeats 4000000 in
theorem take_name (at' : Int) (nm : ByteArray) (bg en : Bool) (A1 A3 A4 : Option Addr) (n1 n3 n4 c1 c3 c4 g o c2 : Nat) (cu : Int) (q : PIt) (mb m p1 p3 N pg pn pcap : Nat) (K : ByteArray → Option (List (Int × Int))) (ps : List (List Rl)) (base : Nat) (w : World) (hT : Tab w) (hM : Mk w base mb m p1 p3 N K pg pn pcap ps) (hN : N < 900000)
    (hs : nm.size ≤ maxLen) (hqv : ∃ a n c, q.v = .slice a n c) (hg : g < w.heap.size) (hI : ItAt w g o q.x q.v) (hOk : ItemOk w q.x q.v q.l) :
    Calls Tryd.prog 30 #[.pointer (some ⟨mb, 0, none⟩), lnv 1 at' nm bg en (.slice A1 n1 c1) (.slice (some ⟨g, o, none⟩) 1 c2) (.slice A3 n3 c3) (.slice A4 n4 c4) cu] w fun e w' => ∃ c K', (((K nm).isSome = true ∧ c = 61) ∨ ((K nm).isSome = false ∧ ∃ r, SetC K q.x (q.l.map Prod.fst) c r ∧ K' = addK K nm r)) ∧ e = .returned (.int .i64 c) ∧ Below base w w' ∧ (c = 0 → Mk w' base mb m p1 p3 (N + 1) K' pg pn pcap ps) := by
  have HC : Hid (∀ ob, Calls Tryd.prog 44 #[.pointer (some ⟨mb, 0, none⟩), lnv 1 at' nm bg en (.slice A1 n1 c1) (.slice (some ⟨g, o, none⟩) 1 c2) (.slice A3 n3 c3) (.slice A4 n4 c4) cu] (w.alloc ob) fun e w' => ∃ c K', (((K nm).isSome = true ∧ c = 61) ∨ ((K nm).isSome = false ∧ ∃ r, SetC K q.x (q.l.map Prod.fst) c r ∧ K' = addK K nm r)) ∧ e = .returned (.int .i64 c) ∧ Below base w w' ∧ (c = 0 → Mk w' base mb m p1 p3 (N + 1) K' pg pn pcap ps)) := fun ob => by
    have hb : Below w.heap.size w (w.alloc ob) := (Below.refl _ _).alloc (Nat.le_refl _) _
    have hM1 := hM.below hb
    have hbb : Below base w (w.alloc ob) := hb.mono hM.le
    cases hk : (K nm).isSome with
    | true =>
      refine (give_twice 1 at' nm bg en A1 (some ⟨g, o, none⟩) A3 A4 n1 1 n3 n4 c1 c2 c3 c4 cu mb m K (w.alloc ob) (hM1.kn.known (by omega)) hs hM1.cells.1 hk).mono ?_
      rintro e w' ⟨rfl, h⟩
      exact ⟨61, K, .inl ⟨rfl, rfl⟩, rfl, hbb.trans (h.mono hM1.le), fun h => absurd h (by decide)⟩
    | false =>
      refine (give_one 1 at' nm bg en A1 A3 A4 n1 n3 n4 c1 c3 c4 g o c2 cu q mb m p1 p3 N K (w.alloc ob) (hT.below hb hT.pos) hM1.kn (by omega) hs hM1.cells.1 hk hM1.cells.2.1 hM1.rd hqv (Nat.lt_of_lt_of_le hg hb.size) (hI.below hb hg) (hOk.below hb)).mono ?_
      rintro e w' ⟨c, r, hS, rfl, h1, h2⟩
      by_cases h0 : c = 0
      · obtain ⟨hK', W2, hB2, hg2, hm2⟩ := h2 h0
        obtain ⟨h3, h4⟩ := hM1.give hB2 hg2 hm2 hK'
        exact ⟨c, _, .inr ⟨rfl, r, hS, rfl⟩, rfl, hbb.trans h4, fun _ => h3⟩
      · exact ⟨c, addK K nm r, .inr ⟨rfl, r, hS, rfl⟩, rfl, hbb.trans ((h1 h0).mono hM1.le), fun h => absurd h h0⟩
  clear hT hM hs hqv hg hI hOk
  go_enter Tryd.func30, Tryd.ntmps30
  go_wp2_with fail
  refine (HC.out _).mono ?_
  rintro e w2 ⟨c, K', h1, rfl, h2, h3⟩
  have HV : Hid ((((K nm).isSome = true ∧ c = 61) ∨ ((K nm).isSome = false ∧ ∃ r, SetC K q.x (q.l.map Prod.fst) c r ∧ K' = addK K nm r)) ∧ Below base w w2 ∧ (c = 0 → Mk w2 base mb m p1 p3 (N + 1) K' pg pn pcap ps)) := ⟨h1, h2, h3⟩
  clear h1 h2 h3 HC
  go_wp2
  exact bodyPost_ret (v := .int .i64 c) (by simp [results, Tryd.f30, go_sem]) rfl ⟨c, K', HV.out.1, rfl, HV.out.2⟩
set_option maxHeartbeats 4000000 in
theorem take_rule (at' : Int) (nm : ByteArray) (l : Ln) (A1 A2 A3 A4 : Option Addr) (n1 n2 n3 n4 c1 c2 c3 c4 : Nat) (mb m p1 p3 N pg pn pcap : Nat) (K : ByteArray → Option (List (Int × Int))) (i : List (List Rl)) (q : List Rl) (base : Nat) (w : World) (hT : Tab w) (hM : Mk w base mb m p1 p3 N K pg pn pcap (i ++ [q])) (hN : N < 900000)
    (h1 : IRow w (.slice A1 n1 c1) l.ante) (h2 : IRow w (.slice A2 n2 c2) l.key) (h3 : IRow w (.slice A3 n3 c3) l.post) (h4 : RRow w (.slice A4 n4 c4) l.res) :
    Calls Tryd.prog 30 #[.pointer (some ⟨mb, 0, none⟩), lnv 2 at' nm l.bg l.en (.slice A1 n1 c1) (.slice A2 n2 c2) (.slice A3 n3 c3) (.slice A4 n4 c4) l.cu] w fun e w' => ∃ c r, RuleC K l c r ∧ e = .returned (.int .i64 c) ∧ Below base w w' ∧ (c = 0 → Mk w' base mb m p1 p3 (N + 1) K pg pn pcap (i ++ [q ++ [r]])) := by
  have HC : Hid (∀ ob, Calls Tryd.prog 45 #[.pointer (some ⟨mb, 0, none⟩), lnv 2 at' nm l.bg l.en (.slice A1 n1 c1) (.slice A2 n2 c2) (.slice A3 n3 c3) (.slice A4 n4 c4) l.cu] (w.alloc ob) fun e w' => ∃ c r, RuleC K l c r ∧ e = .returned (.int .i64 c) ∧ Below base w w' ∧ (c = 0 → Mk w' base mb m p1 p3 (N + 1) K pg pn pcap (i ++ [q ++ [r]]))) := fun ob => by
    have hb : Below w.heap.size w (w.alloc ob) := (Below.refl _ _).alloc (Nat.le_refl _) _
    have hM1 := hM.below hb
    have hbb : Below base w (w.alloc ob) := hb.mono hM.le
    have hq : q.length ≤ 1000000 := by have := hM.lens q (by simp); omega
    have hi : i.length ≤ 1000000 := by have := hM.len; simp only [List.length_append, List.length_cons, List.length_nil] at this; omega
    refine (rule_walk 2 at' nm l A1 A2 A3 A4 n1 n2 n3 n4 c1 c2 c3 c4 mb p1 p3 pg pn pcap (.map (some m)) K i q base (w.alloc ob) (hT.below hb hT.pos) (h1.below hb) (h2.below hb) (h3.below hb) (h4.below hb) hM1.cells.2.1 hM1.cells.2.2.1 hM1.rd (.inr ⟨m, rfl, hM1.kn.known (by omega)⟩) hM1.pr hM1.le hq hi).mono ?_
    rintro e w' ⟨c, r, hR, rfl, h5, h6⟩
    by_cases h0 : c = 0
    · obtain ⟨hp, hf⟩ := h6 h0
      exact ⟨c, r, hR, rfl, hbb.trans hf.1, fun _ => hM1.frame hf hp⟩
    · exact ⟨c, r, hR, rfl, hbb.trans ((h5 h0).mono hM1.le), fun h => absurd h h0⟩
  obtain ⟨bg, en, cu, la, lk, lp, lr⟩ := l
  clear hT hM h1 h2 h3 h4
  simp only at HC
  go_enter Tryd.func30, Tryd.ntmps30
  go_wp2_with fail
  refine (HC.out _).mono ?_
  rintro e w2 ⟨c, r, h1, rfl, h2, h3⟩
  have HV : Hid (RuleC K ⟨bg, en, cu, la, lk, lp, lr⟩ c r ∧ Below base w w2 ∧ (c = 0 → Mk w2 base mb m p1 p3 (N + 1) K pg pn pcap (i ++ [q ++ [r]]))) := ⟨h1, h2, h3⟩
  clear h1 h2 h3 HC
  go_wp2
  exact bodyPost_ret (v := .int .i64 c) (by simp [results, Tryd.f30, go_sem]) rfl ⟨c, r, HV.out.1, rfl, HV.out.2⟩
theorem take_any (v : LV) (x : LnK) (mb m p1 p3 N pg pn pcap : Nat) (K : ByteArray → Option (List (Int × Int))) (ps : List (List Rl)) (w0 w : World) (hT : Tab w0) (hw : Below w0.heap.size w0 w) (hL : LineOk w0 v x) (hM : Mk w w0.heap.size mb m p1 p3 N K pg pn pcap ps) (hN : N < 900000) :
    Calls Tryd.prog 30 #[.pointer (some ⟨mb, 0, none⟩), v.val] w fun e w' => ∃ c K' ps', TakeC K ps x c K' ps' ∧ e = .returned (.int .i64 c) ∧ Below w0.heap.size w0 w' ∧ (c = 0 → ∃ pg' pn' pcap', Mk w' w0.heap.size mb m p1 p3 (N + 1) K' pg' pn' pcap' ps') := by
  have hL' := hL.below hw
  have hT' := hT.below hw hT.pos
  obtain ⟨k, at', nm, bg, en, A1, A2, A3, A4, n1, n2, n3, n4, c1, c2, c3, c4, cu⟩ := v
  cases x with
  | nm n q =>
    obtain ⟨h1, h2, h3, h4, h5, g, o, h6, h7, h8, h9⟩ := hL'
    simp only at h1 h2 h6 h7
    subst h1 h2 h6 h7
    refine (take_name at' nm bg en A1 A3 A4 n1 n3 n4 c1 c3 c4 g o c2 cu q mb m p1 p3 N pg pn pcap K ps w0.heap.size w hT' hM hN h3 h4 h8 h9 h5).mono ?_
    rintro e w' ⟨c, K', a1, a2, a3, a4⟩
    refine ⟨c, K', ps, ?_, a2, hw.trans a3, fun h0 => ⟨pg, pn, pcap, a4 h0⟩⟩
    rcases a1 with a1 | ⟨b1, r, b2, b3⟩
    · exact .inl a1
    · exact .inr ⟨b1, r, b2, b3, rfl⟩
  | rl l =>
    obtain ⟨h1, h2, h3, h4, h5, h6, h7, h8⟩ := hL'
    simp only at h1 h2 h3 h4
    subst h1 h2 h3 h4
    obtain ⟨i, q, rfl⟩ : ∃ i q, ps = i ++ [q] := ⟨ps.dropLast, ps.getLast hM.ne, (List.dropLast_concat_getLast hM.ne).symm⟩
    refine (take_rule at' nm l A1 A2 A3 A4 n1 n2 n3 n4 c1 c2 c3 c4 mb m p1 p3 N pg pn pcap K i q w0.heap.size w hT' hM hN h5 h6 h7 h8).mono ?_
    rintro e w' ⟨c, r, a1, a2, a3, a4⟩
    exact ⟨c, K, i ++ [q ++ [r]], ⟨i, q, r, rfl, a1, rfl, rfl⟩, a2, hw.trans a3, fun h0 => ⟨pg, pn, pcap, a4 h0⟩⟩
  | th =>
    have h1 : k = 3 := hL'
    subst h1
    refine (take_then at' nm bg en A1 A2 A3 A4 n1 n2 n3 n4 c1 c2 c3 c4 cu mb m p1 p3 N pg pn pcap K ps w0.heap.size w hM hN).mono ?_
    rintro e w' ⟨rfl, a3, pg', pn', pcap', a4⟩
    exact ⟨0, K, ps ++ [[]], ⟨rfl, rfl, rfl⟩, rfl, hw.trans a3, fun _ => ⟨pg', pn', pcap', a4⟩⟩
end Go.Proofs
