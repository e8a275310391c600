/-
  names: a line becomes a rule of the last pass.
-/
import Derived.Shelf.Abstract
import Derived.Shelf.RegionOpen
import Derived.WalkKit
import Derived.WalkSpells
import Derived.WalkLawsBesides
import Derived.OwnWalk
import Derived.BigQuiet
import Derived.Deep.QuietTactic
import Derived.Deep.LoopGhost
import Derived.Deep.RegionWith
import Derived.Deep.RegionHeld3
import Derived.Deep.RegionLaw
import Derived.Deep.AppendLies
import Derived.Deep.DeepCutAuto
import Derived.Laws.EntriesVeiled
import Derived.Lib.OthersKept
import Derived.Maps.AppendAt
import Derived.WalkMore
import Derived.Lib.SmallJoins
import Derived.Test.YtbacejefgpaabaaDoorNv
namespace Go.Proofs
open Go.RowKit Go.Shelf

set_option maxRecDepth 100000
attribute [local go_sem] Oper.semAt_some

theorem KT.belowD {t : TypeId} {W W' : World} (h : Below W.drew.heap.size W.drew W') : KT t W W' := fun b _ _ hb => (h.block b (Array.getElem?_eq_some_iff.1 hb).1).trans hb
theorem info59 : (Tryd.prog.info? 59).map (fun i => (i.zero, i.size, i.bytes)) = some (some (.agg #[.bool false, .slice none 0 0, .slice none 0 0, .slice none 0 0, .bool false, .slice none 0 0, .int .i64 0]), 7, 120) := by kernel_rfl
set_option maxHeartbeats 8000000 in
theorem rule_walk (k at' : Int) (nm : ByteArray) (l : Ln) (A1 A2 A3 A4 : Option Addr) (n1 n2 n3 n4 c1 c2 c3 c4 : Nat) (mb p1 p3 pg pn pcap : Nat) (mv : Value) (K : ByteArray → Option (List (Int × Int))) (ps : List (List Rl)) (q : List Rl) (base : Nat) (w : World) (hT : Tab w)
    (h1 : IRow w (.slice A1 n1 c1) l.ante) (h2 : IRow w (.slice A2 n2 c2) l.key) (h3 : IRow w (.slice A3 n3 c3) l.post) (h4 : RRow w (.slice A4 n4 c4) l.res)
    (hm1 : w.cell? ⟨mb, 1, none⟩ = some (.func (.func 34) #[] #[.pointer (some ⟨p3, 0, none⟩), .pointer (some ⟨p1, 0, none⟩)])) (hm2 : w.cell? ⟨mb, 2, none⟩ = some (.slice (some ⟨pg, 0, none⟩) pn pcap)) (hR : Reader w (.func (.func 34) #[] #[.pointer (some ⟨p3, 0, none⟩), .pointer (some ⟨p1, 0, none⟩)]) mv) (hK : KnownV w mv K)
    (hP : PassRow w base (.slice (some ⟨pg, 0, none⟩) pn pcap) (ps ++ [q])) (hb : base ≤ w.heap.size) (hq : q.length ≤ 1000000) (hps : ps.length ≤ 1000000) :
    Calls Tryd.prog 45 #[.pointer (some ⟨mb, 0, none⟩), lnv k at' nm l.bg l.en (.slice A1 n1 c1) (.slice A2 n2 c2) (.slice A3 n3 c3) (.slice A4 n4 c4) l.cu] w fun e w' => ∃ c r, RuleC K l c r ∧ e = .returned (.int .i64 c) ∧ (c ≠ 0 → Below w.heap.size w w') ∧ (c = 0 → PassRow w' base (.slice (some ⟨pg, 0, none⟩) pn pcap) (ps ++ [q ++ [r]]) ∧ Frame base w w') := by
  have hmlt := cell_lt hm1
  have HE1 : Hid (∀ W, Below w.heap.size w W → Calls Tryd.prog 58 #[.slice A1 n1 c1, .func (.func 34) #[] #[.pointer (some ⟨p3, 0, none⟩), .pointer (some ⟨p1, 0, none⟩)]] W fun e w' => ∃ c rs a n cp, EachC K l.ante c rs ∧ e = .returned (.tuple #[.slice a n cp, .int .i64 c]) ∧ (c = 0 → SRow w' w.heap.size (.slice a n cp) rs) ∧ Below W.heap.size W w') := fun W hW =>
    (each_any _ l.ante p1 p3 mv K W (hT.below hW hT.pos) (h1.below hW) (hR.kt (KT.below hW) (KT.below hW)) (hK.below hW)).mono (by
      rintro e w' ⟨c, rs, v, e1, e2, e3, e4⟩
      by_cases h0 : c = 0
      · rw [if_pos h0] at e3
        obtain ⟨a, n, cp, rfl⟩ := e3.sl
        exact ⟨c, rs, a, n, cp, e1, e2, fun _ => e3.le hW.size, e4⟩
      · rw [if_neg h0] at e3
        subst e3
        exact ⟨c, rs, none, 0, 0, e1, e2, fun h => absurd h h0, e4⟩)
  have HE2 : Hid (∀ W, Below w.heap.size w W → Calls Tryd.prog 58 #[.slice A2 n2 c2, .func (.func 34) #[] #[.pointer (some ⟨p3, 0, none⟩), .pointer (some ⟨p1, 0, none⟩)]] W fun e w' => ∃ c rs a n cp, EachC K l.key c rs ∧ e = .returned (.tuple #[.slice a n cp, .int .i64 c]) ∧ (c = 0 → SRow w' w.heap.size (.slice a n cp) rs) ∧ Below W.heap.size W w') := fun W hW =>
    (each_any _ l.key p1 p3 mv K W (hT.below hW hT.pos) (h2.below hW) (hR.kt (KT.below hW) (KT.below hW)) (hK.below hW)).mono (by
      rintro e w' ⟨c, rs, v, e1, e2, e3, e4⟩
      by_cases h0 : c = 0
      · rw [if_pos h0] at e3
        obtain ⟨a, n, cp, rfl⟩ := e3.sl
        exact ⟨c, rs, a, n, cp, e1, e2, fun _ => e3.le hW.size, e4⟩
      · rw [if_neg h0] at e3
        subst e3
        exact ⟨c, rs, none, 0, 0, e1, e2, fun h => absurd h h0, e4⟩)
  have HE3 : Hid (∀ W, Below w.heap.size w W → Calls Tryd.prog 58 #[.slice A3 n3 c3, .func (.func 34) #[] #[.pointer (some ⟨p3, 0, none⟩), .pointer (some ⟨p1, 0, none⟩)]] W fun e w' => ∃ c rs a n cp, EachC K l.post c rs ∧ e = .returned (.tuple #[.slice a n cp, .int .i64 c]) ∧ (c = 0 → SRow w' w.heap.size (.slice a n cp) rs) ∧ Below W.heap.size W w') := fun W hW =>
    (each_any _ l.post p1 p3 mv K W (hT.below hW hT.pos) (h3.below hW) (hR.kt (KT.below hW) (KT.below hW)) (hK.below hW)).mono (by
      rintro e w' ⟨c, rs, v, e1, e2, e3, e4⟩
      by_cases h0 : c = 0
      · rw [if_pos h0] at e3
        obtain ⟨a, n, cp, rfl⟩ := e3.sl
        exact ⟨c, rs, a, n, cp, e1, e2, fun _ => e3.le hW.size, e4⟩
      · rw [if_neg h0] at e3
        subst e3
        exact ⟨c, rs, none, 0, 0, e1, e2, fun h => absurd h h0, e4⟩)
  have HE4 : Hid (∀ W, Below w.heap.size w W → Calls Tryd.prog 59 #[.slice A4 n4 c4, .func (.func 60) #[.pointer (some ⟨mb, 0, none⟩)] #[]] W fun e w' => ∃ c rs a n cp, EachP K l.res c rs ∧ e = .returned (.tuple #[.slice a n cp, .int .i64 c]) ∧ (c = 0 → PcRow w' w.heap.size (.slice a n cp) rs) ∧ Below W.heap.size W w') := fun W hW =>
    (pieces_any _ l.res mb p1 p3 mv K W (hT.below hW hT.pos) (h4.below hW) ((hW.cell (p := ⟨mb, 1, none⟩) hmlt).trans hm1) (hR.kt (KT.below hW) (KT.below hW)) (hK.below hW)).mono (by
      rintro e w' ⟨c, rs, v, e1, e2, e3, e4⟩
      by_cases h0 : c = 0
      · rw [if_pos h0] at e3
        obtain ⟨a, n, cp, rfl⟩ := e3.sl
        exact ⟨c, rs, a, n, cp, e1, e2, fun _ => e3.le hW.size, e4⟩
      · rw [if_neg h0] at e3
        subst e3
        exact ⟨c, rs, none, 0, 0, e1, e2, fun h => absurd h h0, e4⟩)
  have HM : Hid (∀ W, Below w.heap.size w W → W.cell? ⟨mb, 1, none⟩ = some (.func (.func 34) #[] #[.pointer (some ⟨p3, 0, none⟩), .pointer (some ⟨p1, 0, none⟩)]) ∧ W.cell? ⟨mb, 2, none⟩ = some (.slice (some ⟨pg, 0, none⟩) pn pcap)) := fun W hW => ⟨(hW.cell (p := ⟨mb, 1, none⟩) hmlt).trans hm1, (hW.cell (p := ⟨mb, 2, none⟩) hmlt).trans hm2⟩
  have HPS : Hid (PassRow w base (.slice (some ⟨pg, 0, none⟩) pn pcap) (ps ++ [q])) := hP
  obtain ⟨bg, en, cu, la, lk, lp, lr⟩ := l
  simp only at HE1 HE2 HE3 HE4
  clear hT h1 h2 h3 h4 hm1 hm2 hR hK hP hmlt
  have HS0 : Hid (∀ x y z, RS w ((w.alloc (.cells #[.int .i64 k, .int .i64 at', .string nm, .bool bg, .bool en, .slice A1 n1 c1, .slice A2 n2 c2, .slice A3 n3 c3, .slice A4 n4 c4, .int .i64 cu] 53)).alloc (.cells #[.bool bg, x, y, z, .bool en, .slice none 0 0, .int .i64 cu] 59)) k at' nm bg en (.slice A1 n1 c1) (.slice A2 n2 c2) (.slice A3 n3 c3) (.slice A4 n4 c4) cu x y z (.slice none 0 0)) := fun x y z => ⟨((Below.refl _ _).alloc (Nat.le_refl _) _).alloc (by simp) _, blk_up (blk_new rfl) _, blk_new (by simp)⟩
  go_enter Tryd.func45, Tryd.ntmps45
  go_wp2
  have hS := HS0.out (.slice none 0 0) (.slice none 0 0) (.slice none 0 0)
  obtain ⟨W0, hW0⟩ : ∃ W0, (w.alloc (.cells #[.int .i64 k, .int .i64 at', .string nm, .bool bg, .bool en, .slice A1 n1 c1, .slice A2 n2 c2, .slice A3 n3 c3, .slice A4 n4 c4, .int .i64 cu] 53)).alloc (.cells #[.bool bg, .slice none 0 0, .slice none 0 0, .slice none 0 0, .bool en, .slice none 0 0, .int .i64 cu] 59) = W0 := ⟨_, rfl⟩
  rw [hW0] at hS ⊢
  clear hW0 HS0
  have HS : Hid (RS w W0 k at' nm bg en (.slice A1 n1 c1) (.slice A2 n2 c2) (.slice A3 n3 c3) (.slice A4 n4 c4) cu (.slice none 0 0) (.slice none 0 0) (.slice none 0 0) (.slice none 0 0)) := hS
  clear hS
  go_cut [6] (fun s6 wx => ∃ ca ra aa an ac, s6 = .int .i64 ca ∧ Hid (EachC K la ca ra ∧ (ca = 0 → SRow wx w.heap.size (.slice aa an ac) ra) ∧ RS w wx k at' nm bg en (.slice A1 n1 c1) (.slice A2 n2 c2) (.slice A3 n3 c3) (.slice A4 n4 c4) cu (.slice aa an ac) (.slice none 0 0) (.slice none 0 0) (.slice none 0 0)))
  case first =>
    as_aux_lemma =>
      obtain ⟨d5, d6, d7, d8⟩ := HS.out.lines
      obtain ⟨m1, m2⟩ := HM.out _ HS.out.bel
      clear d6 d7 d8 m2 HE2 HE3 HE4 HPS
      go_region_with (go_at_call 58; go_must (refine (HE1.out _ HS.out.drew.bel).mono ?_; rintro e w1 ⟨ca, ra, aa, an, ac, hE, rfl, hSR, hb1⟩; obtain ⟨r0, r1, r2, r3, r4, r5, r6⟩ := (HS.out.drew.call hb1).rule; obtain ⟨f1, f2, f3, f5⟩ := (HS.out.drew.call hb1).frozen; have HV : Hid (EachC K la ca ra ∧ (ca = 0 → SRow w1 w.heap.size (.slice aa an ac) ra) ∧ RS w w1 k at' nm bg en (.slice A1 n1 c1) (.slice A2 n2 c2) (.slice A3 n3 c3) (.slice A4 n4 c4) cu (.slice none 0 0) (.slice none 0 0) (.slice none 0 0) (.slice none 0 0)) := ⟨hE, hSR, HS.out.drew.call hb1⟩; clear hE hSR hb1))
      all_goals (go_wp2_with fail; go_meet; exact ⟨ca, ra, aa, an, ac, rfl, HV.out.1, fun h0 => (HV.out.2.1 h0).kt (HV.out.2.2.kt (by decide) _ _) (HV.out.2.2.kt (by decide) _ _), HV.out.2.2.setA _⟩)
  case rest =>
    obtain ⟨ca, ra, aa, an, ac, rfl, HV1⟩ := hcut
    clear HS HE1
    by_cases h0ca : ca = 0
    · subst h0ca
      go_upto_region 6 with fail
      go_cut [6] (fun s6 wx => ∃ ck rk ka kn kc, s6 = .int .i64 ck ∧ Hid (EachC K lk ck rk ∧ (ck = 0 → SRow wx w.heap.size (.slice ka kn kc) rk) ∧ RS w wx k at' nm bg en (.slice A1 n1 c1) (.slice A2 n2 c2) (.slice A3 n3 c3) (.slice A4 n4 c4) cu (.slice aa an ac) (.slice ka kn kc) (.slice none 0 0) (.slice none 0 0) ∧ SRow wx w.heap.size (.slice aa an ac) ra))
      case first =>
        as_aux_lemma =>
          obtain ⟨d5, d6, d7, d8⟩ := HV1.out.2.2.lines
          obtain ⟨m1, m2⟩ := HM.out _ HV1.out.2.2.bel
          clear d5 d7 d8 m2 HE3 HE4 HPS
          go_region_with (go_at_call 58; go_must (refine (HE2.out _ HV1.out.2.2.drew.bel).mono ?_; rintro e w1 ⟨ck, rk, ka, kn, kc, hE, rfl, hSR, hb1⟩; obtain ⟨r0, r1, r2, r3, r4, r5, r6⟩ := (HV1.out.2.2.drew.call hb1).rule; obtain ⟨f1, f2, f3, f5⟩ := (HV1.out.2.2.drew.call hb1).frozen; have HV : Hid (EachC K lk ck rk ∧ (ck = 0 → SRow w1 w.heap.size (.slice ka kn kc) rk) ∧ RS w w1 k at' nm bg en (.slice A1 n1 c1) (.slice A2 n2 c2) (.slice A3 n3 c3) (.slice A4 n4 c4) cu (.slice aa an ac) (.slice none 0 0) (.slice none 0 0) (.slice none 0 0) ∧ SRow w1 w.heap.size (.slice aa an ac) ra) := ⟨hE, hSR, HV1.out.2.2.drew.call hb1, (HV1.out.2.1 rfl).kt (KT.belowD hb1) (KT.belowD hb1)⟩; clear hE hSR hb1))
          all_goals (go_wp2_with fail; go_meet; exact ⟨ck, rk, ka, kn, kc, rfl, HV.out.1, fun h0 => (HV.out.2.1 h0).kt (HV.out.2.2.1.kt (by decide) _ _) (HV.out.2.2.1.kt (by decide) _ _), HV.out.2.2.1.setK _, HV.out.2.2.2.kt (HV.out.2.2.1.kt (by decide) _ _) (HV.out.2.2.1.kt (by decide) _ _)⟩)
      case rest =>
        obtain ⟨ck, rk, ka, kn, kc, rfl, HV2⟩ := hcut
        clear HE2
        by_cases h0ck : ck = 0
        · subst h0ck
          go_upto_region 9 with fail
          go_cut [6] (fun s6 wx => ∃ cp rp pa' pn' pc', s6 = .int .i64 cp ∧ Hid (EachC K lp cp rp ∧ (cp = 0 → SRow wx w.heap.size (.slice pa' pn' pc') rp) ∧ RS w wx k at' nm bg en (.slice A1 n1 c1) (.slice A2 n2 c2) (.slice A3 n3 c3) (.slice A4 n4 c4) cu (.slice aa an ac) (.slice ka kn kc) (.slice pa' pn' pc') (.slice none 0 0) ∧ SRow wx w.heap.size (.slice aa an ac) ra ∧ SRow wx w.heap.size (.slice ka kn kc) rk))
          case first =>
            as_aux_lemma =>
              obtain ⟨d5, d6, d7, d8⟩ := HV2.out.2.2.1.lines
              obtain ⟨m1, m2⟩ := HM.out _ HV2.out.2.2.1.bel
              clear d5 d6 d8 m2 HE4 HPS
              go_region_with (go_at_call 58; go_must (refine (HE3.out _ HV2.out.2.2.1.drew.bel).mono ?_; rintro e w1 ⟨cp, rp, pa', pn', pc', hE, rfl, hSR, hb1⟩; obtain ⟨r0, r1, r2, r3, r4, r5, r6⟩ := (HV2.out.2.2.1.drew.call hb1).rule; obtain ⟨f1, f2, f3, f5⟩ := (HV2.out.2.2.1.drew.call hb1).frozen; have HV : Hid (EachC K lp cp rp ∧ (cp = 0 → SRow w1 w.heap.size (.slice pa' pn' pc') rp) ∧ RS w w1 k at' nm bg en (.slice A1 n1 c1) (.slice A2 n2 c2) (.slice A3 n3 c3) (.slice A4 n4 c4) cu (.slice aa an ac) (.slice ka kn kc) (.slice none 0 0) (.slice none 0 0) ∧ SRow w1 w.heap.size (.slice aa an ac) ra ∧ SRow w1 w.heap.size (.slice ka kn kc) rk) := ⟨hE, hSR, HV2.out.2.2.1.drew.call hb1, HV2.out.2.2.2.kt (KT.belowD hb1) (KT.belowD hb1), (HV2.out.2.1 rfl).kt (KT.belowD hb1) (KT.belowD hb1)⟩; clear hE hSR hb1))
              all_goals (go_wp2_with fail; go_meet; exact ⟨cp, rp, pa', pn', pc', rfl, HV.out.1, fun h0 => (HV.out.2.1 h0).kt (HV.out.2.2.1.kt (by decide) _ _) (HV.out.2.2.1.kt (by decide) _ _), HV.out.2.2.1.setP _, HV.out.2.2.2.1.kt (HV.out.2.2.1.kt (by decide) _ _) (HV.out.2.2.1.kt (by decide) _ _), HV.out.2.2.2.2.kt (HV.out.2.2.1.kt (by decide) _ _) (HV.out.2.2.1.kt (by decide) _ _)⟩)
          case rest =>
            obtain ⟨cp, rp, pa', pn', pc', rfl, HV3⟩ := hcut
            clear HE3
            by_cases h0cp : cp = 0
            · subst h0cp
              go_upto_region 12 with fail
              go_cut [6] (fun s6 wx => ∃ cr rr xa xn xc, s6 = .int .i64 cr ∧ Hid (EachP K lr cr rr ∧ (cr = 0 → PcRow wx w.heap.size (.slice xa xn xc) rr) ∧ RS w wx k at' nm bg en (.slice A1 n1 c1) (.slice A2 n2 c2) (.slice A3 n3 c3) (.slice A4 n4 c4) cu (.slice aa an ac) (.slice ka kn kc) (.slice pa' pn' pc') (.slice xa xn xc) ∧ SRow wx w.heap.size (.slice aa an ac) ra ∧ SRow wx w.heap.size (.slice ka kn kc) rk ∧ SRow wx w.heap.size (.slice pa' pn' pc') rp))
              case first =>
                as_aux_lemma =>
                  obtain ⟨d5, d6, d7, d8⟩ := HV3.out.2.2.1.lines
                  obtain ⟨m1, m2⟩ := HM.out _ HV3.out.2.2.1.bel
                  clear d5 d6 d7 m2 HPS
                  go_wp2_with (go_at_call 59; go_must (refine (HE4.out _ HV3.out.2.2.1.bel).mono ?_; rintro e w1 ⟨cr, rr, xa, xn, xc, hE, rfl, hSR, hb1⟩; obtain ⟨r0, r1, r2, r3, r4, r5, r6⟩ := (HV3.out.2.2.1.call hb1).rule; obtain ⟨f1, f2, f3, f5⟩ := (HV3.out.2.2.1.call hb1).frozen; have HV : Hid (EachP K lr cr rr ∧ (cr = 0 → PcRow w1 w.heap.size (.slice xa xn xc) rr) ∧ RS w w1 k at' nm bg en (.slice A1 n1 c1) (.slice A2 n2 c2) (.slice A3 n3 c3) (.slice A4 n4 c4) cu (.slice aa an ac) (.slice ka kn kc) (.slice pa' pn' pc') (.slice none 0 0) ∧ SRow w1 w.heap.size (.slice aa an ac) ra ∧ SRow w1 w.heap.size (.slice ka kn kc) rk ∧ SRow w1 w.heap.size (.slice pa' pn' pc') rp) := ⟨hE, hSR, HV3.out.2.2.1.call hb1, HV3.out.2.2.2.1.kt (KT.below hb1) (KT.below hb1), HV3.out.2.2.2.2.kt (KT.below hb1) (KT.below hb1), (HV3.out.2.1 rfl).kt (KT.below hb1) (KT.below hb1)⟩; clear hE hSR hb1))
                  go_meet
                  exact ⟨cr, rr, xa, xn, xc, rfl, HV.out.1, fun h0 => (HV.out.2.1 h0).kt (HV.out.2.2.1.kt (by decide) _ _) (HV.out.2.2.1.kt (by decide) _ _), HV.out.2.2.1.setR _, HV.out.2.2.2.1.kt (HV.out.2.2.1.kt (by decide) _ _) (HV.out.2.2.1.kt (by decide) _ _), HV.out.2.2.2.2.1.kt (HV.out.2.2.1.kt (by decide) _ _) (HV.out.2.2.1.kt (by decide) _ _), HV.out.2.2.2.2.2.kt (HV.out.2.2.1.kt (by decide) _ _) (HV.out.2.2.1.kt (by decide) _ _)⟩
              case rest =>
                obtain ⟨cr, rr, xa, xn, xc, rfl, HV4⟩ := hcut
                clear HE4
                by_cases h0cr : cr = 0
                · subst h0cr
                  have HRC : Hid (RuleC K ⟨bg, en, cu, la, lk, lp, lr⟩ 0 ⟨bg, en, cu, ra, rk, rp, rr⟩) := ⟨0, ra, HV1.out.1, .inr ⟨rfl, 0, rk, HV2.out.1, .inr ⟨rfl, 0, rp, HV3.out.1, .inr ⟨rfl, 0, rr, HV4.out.1, .inr ⟨rfl, rfl, rfl⟩⟩⟩⟩⟩
                  clear HV1 HV2 HV3
                  go_upto_region 15 with fail
                  as_aux_lemma =>
                    have hbel := HV4.out.2.2.1.bel
                    have m2 := (HM.out _ hbel).2
                    have HP1 := HPS.out.kt (KT.below hbel) (KT.below hbel) (KT.below hbel) (KT.below hbel) (KT.below hbel)
                    obtain ⟨vs, hv1, hv2, hv3, hv4⟩ := HP1
                    have hvl : vs.length = ps.length + 1 := by rw [hv1]; simp
                    have hpn : pn = ps.length + 1 := by
                      rcases hv2.2 with ⟨e, _⟩ | ⟨g, cap, cur, e, _⟩
                      · cases e
                      · cases e; exact hvl
                    have hfz : wc.frozen? ⟨pg, ps.length, none⟩ = false := by
                      rcases hv2.2 with ⟨e, _⟩ | ⟨g, cap, cur, e, _, hg, _⟩
                      · cases e
                      · cases e; simp [World.frozen?, hg]
                    subst hpn
                    have hlast : ps.length < vs.length := by omega
                    obtain ⟨v0, hv0⟩ : ∃ v0, vs[ps.length] = v0 := ⟨_, rfl⟩
                    have hRR := hv3 ps.length hlast (by simp)
                    have hcl : wc.cell? ⟨pg, ps.length, none⟩ = some v0 := by
                      have := hv2.cells (g := pg) rfl ps.length v0 (by rw [List.getElem?_eq_getElem hlast, hv0])
                      rw [add_zero_at] at this; exact this
                    have e2 : (ps ++ [q])[ps.length]'(by simp) = q := by simp
                    rw [e2, hv0] at hRR
                    obtain ⟨es, he1, he2, he3⟩ := hRR
                    obtain ⟨va, vn, vc, hve⟩ : ∃ a n c, v0 = .slice a n c := by
                      rcases he2.2 with ⟨e, _⟩ | ⟨g, cap, cur, e, _⟩
                      · exact ⟨_, _, _, e⟩
                      · exact ⟨_, _, _, e⟩
                    obtain ⟨r0, r1, r2, r3, r4, r5, r6⟩ := HV4.out.2.2.1.rule
                    have hpsI : (ps.length : Int) ≤ 1000000 := by omega
                    have hps0 : (0 : Int) ≤ (ps.length : Int) := by omega
                    have HX : Hid (vs.length = ps.length + 1 ∧ wc.ownsRow base 62 1 (.slice (some ⟨pg, 0, none⟩) (ps.length + 1) pcap) vs.length vs ∧ (∀ (j : Nat) (h1 : j < vs.length) (h2 : j < (ps ++ [q]).length), RulesRow wc base vs[j] (ps ++ [q])[j]) ∧ (∀ (i j : Nat) (hi : i < vs.length) (hj : j < vs.length), i ≠ j → vs[i].ownBlock = none ∨ vs[i].ownBlock ≠ vs[j].ownBlock)) := ⟨hvl, hv2, hv3, hv4⟩
                    have HY : Hid (vs[ps.length]? = some v0 ∧ es.map RlV.r = q ∧ ∀ e ∈ es, RuleM wc base e) := ⟨by rw [List.getElem?_eq_getElem hlast, hv0], he1, he3⟩
                    have HW : Hid (wc.ownsRow base 59 7 v0 es.length (fr es)) := he2
                    clear hv1 hv2 hv3 hv4 he1 he3 hv0 hlast e2 hvl he2
                    subst hve
                    go_region
                    obtain ⟨i0, hi, hz0, hz1, hz2⟩ := info_parts info59
                    have hesl : es.length ≤ 1000000 := by have := congrArg List.length HY.out.2.1; rw [List.length_map] at this; omega
                    have hbw : base ≤ wc.heap.size := Nat.le_trans hb hbel.size
                    have HPG : Hid (∀ b, (Value.slice va vn vc).ownBlock = some b → b ≠ pg) := fun b e e2 => by
                      subst e2
                      rcases HX.out.2.1.2 with ⟨e3, _⟩ | ⟨g, cap, cur, e3, _, hg, _⟩
                      · cases e3
                      · have e4 : b = g := by simpa [Value.ownBlock] using congrArg Value.ownBlock e3
                        subst e4
                        rcases HW.out.2 with ⟨e5, _⟩ | ⟨g2, cap2, cur2, e5, _, hg2, _⟩
                        · rw [e5] at e; simp [Value.ownBlock] at e
                        · rw [e5] at e
                          simp only [Value.ownBlock, Option.some.injEq] at e
                          subst e
                          rw [hg] at hg2; cases hg2
                    have HCL : Hid (wc.cell? ⟨pg, ps.length, none⟩ = some (.slice va vn vc)) := hcl
                    have HG3 : Hid (∀ (ob : Obj) (w3 : World), (wc.alloc ob).drew.drew.grownBy w3 (Value.slice va vn vc).ownBlock → w3.cell? ⟨pg, ps.length, none⟩ = some (.slice va vn vc) ∧ w3.frozen? ⟨pg, ps.length, none⟩ = false) := fun ob w3 hg => by
                      rcases HX.out.2.1.2 with ⟨e3, _⟩ | ⟨g, cap, cur, e3, _, hgb, _⟩
                      · cases e3
                      · have e4 : pg = g := by simpa [Value.ownBlock] using congrArg Value.ownBlock e3
                        subst e4
                        have h1 := blk_up hgb ob
                        have h2 := hg.block pg (Array.getElem?_eq_some_iff.1 h1).1 (fun e => HPG.out pg e.symm rfl)
                        replace h2 : w3.heap[pg]? = some (.cells cur 62 (0, 0)) := h2.trans h1
                        have h3 : w3.heap[pg]? = wc.heap[pg]? := h2.trans hgb.symm
                        have h5 : w3.cell? ⟨pg, ps.length, none⟩ = wc.cell? ⟨pg, ps.length, none⟩ := by simp only [World.cell?, h3]
                        exact ⟨h5.trans hcl, by simp [World.frozen?, h2]⟩
                    have HRM : Hid (RuleM wc base ⟨⟨bg, en, cu, ra, rk, rp, rr⟩, .slice aa an ac, .slice ka kn kc, .slice pa' pn' pc', .slice xa xn xc⟩) := ⟨HV4.out.2.2.2.1.le hb, HV4.out.2.2.2.2.1.le hb, HV4.out.2.2.2.2.2.le hb, (HV4.out.2.1 rfl).le hb⟩
                    go_wp2_with fail
                    rename_i Kx hx
                    refine wp_region_inv (by kernel_rfl) (by kernel_rfl) (by kernel_rfl) (by kernel_rfl) (JR wc.drew base (.pointer (some ⟨pg, ps.length, none⟩)) (.slice va vn vc) (.agg #[.bool bg, .slice aa an ac, .slice ka kn kc, .slice pa' pn' pc', .bool en, .slice xa xn xc, .int .i64 cu]) (.cells #[.bool bg, .slice aa an ac, .slice ka kn kc, .slice pa' pn' pc', .bool en, .slice xa xn xc, .int .i64 cu] 59) es.length (fr es ++ [.bool bg, .slice aa an ac, .slice ka kn kc, .slice pa' pn' pc', .bool en, .slice xa xn xc, .int .i64 cu]) ⟨pg, ps.length, none⟩) JR.start ⟨?_, ?_, ?_, ?_, ?_, ?_, ?_, ?_, ?_, ?_, ?_, trivial⟩ ?_
                    · as_aux_lemma =>
                        clear hx
                        intro a wx p vs hJ hdep hpi hval hfr K hK
                        have d : a.tmps.getD 7 undef = (.pointer (some ⟨pg, ps.length, none⟩)) := hfr 7 (by kernel_rfl)
                        exact step_value (v := (.pointer (some ⟨pg, ps.length, none⟩))) (w' := wx) rfl (fun _ _ h => by cases h) (rho [(7, (.pointer (some ⟨pg, ps.length, none⟩)))]) (rho_of (by intro q hm; simp only [List.mem_cons, List.not_mem_nil, or_false] at hm; rcases hm with rfl; exact d) (by kernel_rfl)) (by kernel_rfl) (hK _ _ (hJ.addr (by decide)))
                    · as_aux_lemma =>
                        clear hx
                        intro a wx p vs hJ hdep hpi hval hfr K hK
                        have d : a.tmps.getD 7 undef = (.pointer (some ⟨pg, ps.length, none⟩)) := hfr 7 (by kernel_rfl)
                        exact step_value (v := (.pointer (some ⟨pg, ps.length, none⟩))) (w' := wx) rfl (fun _ _ h => by cases h) (rho [(7, (.pointer (some ⟨pg, ps.length, none⟩)))]) (rho_of (by intro q hm; simp only [List.mem_cons, List.not_mem_nil, or_false] at hm; rcases hm with rfl; exact d) (by kernel_rfl)) (by kernel_rfl) (hK _ _ (hJ.addr (by decide)))
                    · as_aux_lemma =>
                        clear hx
                        intro a wx p vs hJ hdep hpi hval hfr K hK
                        have hd := hdep 1 (by kernel_rfl)
                        have d : a.tmps.getD 81 undef = (.pointer (some ⟨pg, ps.length, none⟩)) := (hval 1 _ 81 hd (by rfl) rfl).trans (hJ.ad 1 (by decide) hd)
                        exact step_value (v := (.pointer (some ⟨pg, ps.length, none⟩))) (w' := wx) rfl (fun _ _ h => by cases h) (rho [(81, (.pointer (some ⟨pg, ps.length, none⟩)))]) (rho_of (by intro q hm; simp only [List.mem_cons, List.not_mem_nil, or_false] at hm; rcases hm with rfl; exact d) (by kernel_rfl)) (by kernel_rfl) (hK _ _ (hJ.addr (by decide)))
                    · as_aux_lemma =>
                        clear hx
                        intro a wx p vs hJ hdep hpi hval hfr K hK
                        have hd := hdep 2 (by kernel_rfl)
                        have d : a.tmps.getD 82 undef = (.pointer (some ⟨pg, ps.length, none⟩)) := (hval 2 _ 82 hd (by rfl) rfl).trans (hJ.ad 2 (by decide) hd)
                        exact step_value (v := (.pointer (some ⟨pg, ps.length, none⟩))) (w' := wx) rfl (fun _ _ h => by cases h) (rho [(82, (.pointer (some ⟨pg, ps.length, none⟩)))]) (rho_of (by intro q hm; simp only [List.mem_cons, List.not_mem_nil, or_false] at hm; rcases hm with rfl; exact d) (by kernel_rfl)) (by kernel_rfl) (hK _ _ (hJ.addr (by decide)))
                    · as_aux_lemma =>
                        clear hx
                        intro a wx p vs hJ hdep hpi hval hfr K hK
                        have hd := hdep 3 (by kernel_rfl)
                        have d : a.tmps.getD 83 undef = (.pointer (some ⟨pg, ps.length, none⟩)) := (hval 3 _ 83 hd (by rfl) rfl).trans (hJ.ad 3 (by decide) hd)
                        have hc : wx.cell? ⟨pg, ps.length, none⟩ = some (.slice va vn vc) := by
                          have h7 : p 7 = false := by
                            cases e : p 7 with
                            | false => rfl
                            | true => have := (hJ.o7 e).1; rw [hpi] at this; cases this
                          cases h6 : p 6 with
                          | false => rw [hJ.w0 h6]; exact HCL.out
                          | true => rw [hJ.w1 h6 h7]; exact cell_up (W := wc.drew.drew) HCL.out _
                        have hJ' := hJ.load4
                        clear hval hfr hdep hJ HCL HG3 HPG HX HY HW HRM HRC HM HPS hi hz0 hz1 hz2 hbel hbw hesl
                        simp only [Array.getD_eq_getD_getElem?] at d
                        go_simp
                        exact hK _ _ hJ'
                    · as_aux_lemma =>
                        clear hx
                        intro a wx p vs hJ hdep hpi hval hfr K hK
                        have hd : a.tmps.getD 5 undef = .pointer (some ⟨w.heap.size + 1, 0, none⟩) := hfr 5 (by kernel_rfl)
                        have h6 : p 6 = false := by
                          cases e : p 6 with
                          | false => rfl
                          | true => have := hJ.o6 e; rw [hpi] at this; cases this
                        have hw := hJ.w0 h6
                        have hJ' := hJ.load5
                        rw [hw] at hJ' ⊢
                        have q0 : wc.drew.drew.cell? ⟨w.heap.size + 1, 0, none⟩ = some (.bool bg) := r0
                        have q1 : wc.drew.drew.cell? ⟨w.heap.size + 1, 1, none⟩ = some (.slice aa an ac) := r1
                        have q2 : wc.drew.drew.cell? ⟨w.heap.size + 1, 2, none⟩ = some (.slice ka kn kc) := r2
                        have q3 : wc.drew.drew.cell? ⟨w.heap.size + 1, 3, none⟩ = some (.slice pa' pn' pc') := r3
                        have q4 : wc.drew.drew.cell? ⟨w.heap.size + 1, 4, none⟩ = some (.bool en) := r4
                        have q5 : wc.drew.drew.cell? ⟨w.heap.size + 1, 5, none⟩ = some (.slice xa xn xc) := r5
                        have q6 : wc.drew.drew.cell? ⟨w.heap.size + 1, 6, none⟩ = some (.int .i64 cu) := r6
                        clear hval hfr hdep hJ hw HCL HG3 HPG HX HY HW HRM HRC HM HPS hi hz0 hz1 hz2 hbel hbw hesl r0 r1 r2 r3 r4 r5 r6
                        simp only [Array.getD_eq_getD_getElem?] at hd
                        go_simp
                        exact hK _ _ hJ'
                    · as_aux_lemma =>
                        clear hx
                        intro a wx p vs hJ hdep hpi hval hfr K hK
                        have h5 := hdep 5 (by kernel_rfl)
                        have d : a.tmps.getD 85 undef = (.agg #[.bool bg, .slice aa an ac, .slice ka kn kc, .slice pa' pn' pc', .bool en, .slice xa xn xc, .int .i64 cu]) := (hval 5 _ 85 h5 (by rfl) rfl).trans (hJ.v5 h5)
                        obtain ⟨hw, hJ'⟩ := hJ.build6 h5 hpi
                        subst hw
                        refine step_slice rfl 60 59 1 _ rfl 7 Tryd.underlying60 (by kernel_rfl) (by kernel_rfl) (by decide) [(.agg #[.bool bg, .slice aa an ac, .slice ka kn kc, .slice pa' pn' pc', .bool en, .slice xa xn xc, .int .i64 cu])] ?_ (by intro v hm; simp only [List.mem_cons, List.not_mem_nil, or_false] at hm; rcases hm with rfl; rfl) rfl (by decide) (by decide) (hK _ _ hJ')
                        rw [Array.toList_map]
                        show [(0, a.tmps.getD 85 undef)] = _
                        rw [d]
                        rfl
                    · as_aux_lemma =>
                        clear hx
                        intro a wx p vs hJ hdep hpi hval hfr K hK
                        have h4 := hdep 4 (by kernel_rfl)
                        have h6 := hdep 6 (by kernel_rfl)
                        have d4 : a.eval (.tmp 84) = (.slice va vn vc) := (hval 4 _ 84 h4 (by rfl) rfl).trans (hJ.v4 h4)
                        have d6 : a.eval (.tmp 86) = .slice (some ⟨wc.heap.size, 0, none⟩) 1 1 := (hval 6 _ 86 h6 (by rfl) rfl).trans (hJ.v6 h6)
                        have hw := hJ.w1 h6 hpi
                        subst hw
                        refine step_append_lies _ rfl _ _ _ rfl base 59 i0 _ 7 120 Tryd.underlying60 hi hz0 hz1 hz2 rfl (by omega) (.slice va vn vc) es.length _ d4 (HW.out.drew.drew.alloc _) ⟨wc.heap.size, 0, none⟩ 1 1 [.bool bg, .slice aa an ac, .slice ka kn kc, .slice pa' pn' pc', .bool en, .slice xa xn xc, .int .i64 cu] d6 (by rfl) (World.news_of_block (cs := #[.bool bg, .slice aa an ac, .slice ka kn kc, .slice pa' pn' pc', .bool en, .slice xa xn xc, .int .i64 cu]) (t := 59) (fr := (0, 0)) (heap_alloc_new wc.drew.drew _)) (by simp [Value.oneCell']) (by omega) (by unfold maxLen; omega) (by omega) (by rw [World.size_alloc]; exact Nat.le_succ_of_le hbw) (wc.heap.size + 1) (World.size_alloc _ _) ?_
                        intro gg cap' w3 hown1 hgrow hat _
                        exact hK _ _ (hJ.app7 h4 h6 hpi hown1 hgrow hat)
                    · as_aux_lemma =>
                        clear hx
                        intro a wx p vs hJ hdep hpi hval hfr K hK
                        have hd := hdep 0 (by kernel_rfl)
                        have d : a.tmps.getD 80 undef = (.pointer (some ⟨pg, ps.length, none⟩)) := (hval 0 _ 80 hd (by rfl) rfl).trans (hJ.ad 0 (by decide) hd)
                        exact step_value (v := (.pointer (some ⟨pg, ps.length, none⟩))) (w' := wx) rfl (fun _ _ h => by cases h) (rho [(80, (.pointer (some ⟨pg, ps.length, none⟩)))]) (rho_of (by intro q hm; simp only [List.mem_cons, List.not_mem_nil, or_false] at hm; rcases hm with rfl; exact d) (by kernel_rfl)) (by kernel_rfl) (hK _ _ (hJ.addr (by decide)))
                    · as_aux_lemma =>
                        clear hx
                        intro a wx p vs hJ hdep hpi hval hfr K hK
                        have hd := hdep 8 (by kernel_rfl)
                        have d : a.tmps.getD 88 undef = (.pointer (some ⟨pg, ps.length, none⟩)) := (hval 8 _ 88 hd (by rfl) rfl).trans (hJ.ad 8 (by decide) hd)
                        exact step_value (v := (.pointer (some ⟨pg, ps.length, none⟩))) (w' := wx) rfl (fun _ _ h => by cases h) (rho [(88, (.pointer (some ⟨pg, ps.length, none⟩)))]) (rho_of (by intro q hm; simp only [List.mem_cons, List.not_mem_nil, or_false] at hm; rcases hm with rfl; exact d) (by kernel_rfl)) (by kernel_rfl) (hK _ _ (hJ.addr (by decide)))
                    · as_aux_lemma =>
                        clear hx
                        intro a wx p vs hJ hdep hpi hval hfr K hK
                        have h9 := hdep 9 (by kernel_rfl)
                        have h7 := hdep 7 (by kernel_rfl)
                        have d9 : a.tmps.getD 89 undef = (.pointer (some ⟨pg, ps.length, none⟩)) := (hval 9 _ 89 h9 (by rfl) rfl).trans (hJ.ad 9 (by decide) h9)
                        obtain ⟨gg, cap', e7, hg, hJ'⟩ := hJ.store10 h7 hpi
                        have d7 := (hval 7 _ 87 h7 (by rfl) rfl).trans e7
                        obtain ⟨hc3, hf3⟩ := HG3.out _ _ hg
                        clear hval hfr hdep hJ HCL HG3 HPG HX HY HW HRM HRC HM HPS hi hz0 hz1 hz2 hbel hbw hesl r0 r1 r2 r3 r4 r5 r6 hg e7
                        simp only [Array.getD_eq_getD_getElem?] at d9 d7
                        go_simp
                        exact hK _ _ (hJ' undef)
                    · intro vs w' hJ
                      obtain ⟨gg, cap', w3, e7, hown1, hgrow, hat, _, hw⟩ := hJ.w2 (by decide)
                      obtain rfl := hw (by decide)
                      have HF : Hid (PassRow (w3.setCell ⟨pg, ps.length, none⟩ (.slice (some ⟨gg, 0, none⟩) (es.length + 1) cap')) base (.slice (some ⟨pg, 0, none⟩) (ps.length + 1) pcap) (ps ++ [q ++ [⟨bg, en, cu, ra, rk, rp, rr⟩]]) ∧ Frame base w (w3.setCell ⟨pg, ps.length, none⟩ (.slice (some ⟨gg, 0, none⟩) (es.length + 1) cap'))) := rule_done (e := ⟨⟨bg, en, cu, ra, rk, rp, rr⟩, .slice aa an ac, .slice ka kn kc, .slice pa' pn' pc', .slice xa xn xc⟩) hb hbel HX.out.1 HX.out.2.1 HX.out.2.2.1 HX.out.2.2.2 HY.out.1 HY.out.2.1 HY.out.2.2 HW.out HRM.out hown1 hgrow hat
                      clear hown1 hgrow hat hJ hw e7 HX HY HW HRM HG3 HPG HCL
                      simp only [putL]
                      go_wp2
                      exact bodyPost_ret (v := .int .i64 0) (by simp [results, Tryd.f45, go_sem]) rfl ⟨0, ⟨bg, en, cu, ra, rk, rp, rr⟩, HRC.out, rfl, fun h => absurd rfl h, fun _ => HF.out⟩
                · have hne : (cr != 0) = true := by simpa using h0cr
                  as_aux_lemma =>
                    go_wp2
                    exact bodyPost_ret (v := .int .i64 cr) (by simp [results, Tryd.f45, go_sem]) rfl ⟨cr, ⟨bg, en, cu, [], [], [], []⟩, ⟨0, ra, HV1.out.1, .inr ⟨rfl, 0, rk, HV2.out.1, .inr ⟨rfl, 0, rp, HV3.out.1, .inr ⟨rfl, cr, rr, HV4.out.1, .inl ⟨h0cr, rfl⟩⟩⟩⟩⟩, rfl, fun _ => HV4.out.2.2.1.bel, fun h => absurd h h0cr⟩
            · have hne : (cp != 0) = true := by simpa using h0cp
              as_aux_lemma =>
                go_wp2
                exact bodyPost_ret (v := .int .i64 cp) (by simp [results, Tryd.f45, go_sem]) rfl ⟨cp, ⟨bg, en, cu, [], [], [], []⟩, ⟨0, ra, HV1.out.1, .inr ⟨rfl, 0, rk, HV2.out.1, .inr ⟨rfl, cp, rp, HV3.out.1, .inl ⟨h0cp, rfl⟩⟩⟩⟩, rfl, fun _ => HV3.out.2.2.1.bel, fun h => absurd h h0cp⟩
        · have hne : (ck != 0) = true := by simpa using h0ck
          as_aux_lemma =>
            go_wp2
            exact bodyPost_ret (v := .int .i64 ck) (by simp [results, Tryd.f45, go_sem]) rfl ⟨ck, ⟨bg, en, cu, [], [], [], []⟩, ⟨0, ra, HV1.out.1, .inr ⟨rfl, ck, rk, HV2.out.1, .inl ⟨h0ck, rfl⟩⟩⟩, rfl, fun _ => HV2.out.2.2.1.bel, fun h => absurd h h0ck⟩
    · have hne : (ca != 0) = true := by simpa using h0ca
      as_aux_lemma =>
        go_wp2
        exact bodyPost_ret (v := .int .i64 ca) (by simp [results, Tryd.f45, go_sem]) rfl ⟨ca, ⟨bg, en, cu, [], [], [], []⟩, ⟨ca, ra, HV1.out.1, .inl ⟨h0ca, rfl⟩⟩, rfl, fun _ => HV1.out.2.2.bel, fun h => absurd h h0ca⟩
end Go.Proofs
