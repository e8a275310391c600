/-
  Whether a rule fits, by the document.
-/
import Derived.RangeFuncNested
import Derived.RangeFuncBound
import Derived.RangeFuncCalls
import Derived.RangeFuncLeaves
import Derived.Shelf.Abstract
import Derived.Shelf.RegionOpen
import Derived.WalkKit
import Derived.WalkSpells
import Derived.WalkLawsBesides
import Derived.OwnWalkIn
import Derived.TacticsInMore
import Derived.LoopNIn
import Derived.LoopIn
import Derived.BigQuiet
import Derived.RegionIn
import Derived.Deep.QuietTactic
import Derived.Deep.RegionWith
import Derived.Lib.OthersKept
import Derived.Maps.AppendAt
import Derived.Lib.SmallJoins
import Derived.Shelf.SlSortCmp.QuietGrown
import Derived.Deep.DeepCutAuto
import Derived.Deep.CutBlock
import Derived.Test.YtpppcfppabghhaaDoorJd
import Derived.Test.YtpppcfppabghhaaDoorIr
namespace Go.Proofs
open Go.RowKit Go.Shelf

set_option maxRecDepth 100000
attribute [local go_sem] Oper.semAt_some
attribute [local go_sem ↓] Go.wp_at_zero Go.wp_at_succ

/-- whether a rule fits, by the document -/
def stF (r : Rl) (d l : List Int) : Bool :=
  if l.length < r.key.length + r.post.length ∨ d.length < r.ante.length then false
  else if (r.bg = true ∧ r.ante.length < d.length) ∨ (r.en = true ∧ r.key.length + r.post.length < l.length) then false
  else (stB r.key (l.take r.key.length) && stB r.post ((l.drop r.key.length).take r.post.length)) && stB r.ante (d.drop (d.length - r.ante.length))
theorem stF_key {r : Rl} {d l : List Int} (h : stF r d l = true) : r.key.length ≤ l.length ∧ stB r.key (l.take r.key.length) = true := by
  unfold stF at h
  split at h
  · cases h
  · rename_i h1
    split at h
    · cases h
    · simp only [Bool.and_eq_true] at h
      exact ⟨by omega, h.1.1⟩
theorem ir_mid {w : World} {g o N c k n : Nat} {l : List Int} (h : IR w (.slice (some ⟨g, o, none⟩) N c) l) (hk : k ≤ n) (hn : n ≤ N) : IR w (.slice (some ⟨g, o + k, none⟩) (n - k) (c - k)) ((l.drop k).take (n - k)) := ir_take (ir_drop h (by omega)) (by omega)
theorem ir_zero {w : World} {A : Option Addr} {l : List Int} (h : l = []) : IR w (.slice A 0 0) l := by
  subst h
  exact ⟨A, 0, rfl, Nat.le_refl _, .inl rfl⟩
theorem ir_len {w : World} {a : Option Addr} {n c : Nat} {l : List Int} (h : IR w (.slice a n c) l) : l.length = n ∧ n ≤ c := by
  obtain ⟨a', c', e, h1, _⟩ := h
  injection e with e1 e2 e3
  omega
set_option maxHeartbeats 8000000 in
theorem rstF_any (r : Rl) (av kv pv rv dv lv : Value) (d l : List Int) (w : World) (h : RR w av kv pv rv r) (hd : IR w dv d) (hl : IR w lv l) (hO : Ok r) (hdn : d.length ≤ 1000000000) (hdw : dv = .slice none 0 0 ∨ ∃ ad n c, dv = .slice (some ad) n c) (hln : l.length ≤ 1000000000) :
    Calls Tryd.prog 28 #[.agg #[.bool r.bg, av, kv, pv, .bool r.en, rv, .int .i64 r.cu], dv, lv] w fun e w' => e = .returned (.bool (stF r d l)) ∧ Grown w w' := by
  have HS1 : Hid (∀ V (x : Value), Grown w V → IR w x (l.take r.key.length) → Calls Tryd.prog 42 #[x, kv] V fun e w' => e = .returned (.bool (stB r.key (l.take r.key.length))) ∧ Grown V w') := fun V x hg hx => rstands_any kv x r.key _ V (h.k.grown hg) (hx.grown hg) (by have := hO.k8; omega) hO.kS
  have HS2 : Hid (∀ V (x : Value), Grown w V → IR w x ((l.drop r.key.length).take r.post.length) → Calls Tryd.prog 42 #[x, pv] V fun e w' => e = .returned (.bool (stB r.post ((l.drop r.key.length).take r.post.length))) ∧ Grown V w') := fun V x hg hx => rstands_any pv x r.post _ V (h.p.grown hg) (hx.grown hg) (by have := hO.p8; omega) hO.pS
  have HS3 : Hid (∀ V (x : Value), Grown w V → IR w x (d.drop (d.length - r.ante.length)) → Calls Tryd.prog 42 #[x, av] V fun e w' => e = .returned (.bool (stB r.ante (d.drop (d.length - r.ante.length)))) ∧ Grown V w') := fun V x hg hx => rstands_any av x r.ante _ V (h.a.grown hg) (hx.grown hg) (by have := hO.a8; omega) hO.aS
  have HID : Hid (IR w dv d) := hd
  have HIL : Hid (IR w lv l) := hl
  obtain ⟨da, dc, hdv, hdc, _⟩ := hd
  subst hdv
  have HDW : Hid ((da = none ∧ dc = 0) ∨ ∃ ad, da = some ad) := by
    rcases hdw with h1 | ⟨ad, n, c, h1⟩
    · injection h1 with h1 h2 h3; exact .inl ⟨h1, h3⟩
    · injection h1 with h1; exact .inr ⟨ad, h1⟩
  clear hdw
  obtain ⟨la, lc, hlv, hlc, _⟩ := hl
  subst hlv
  obtain ⟨aa, ac, hav, hx1, hx2⟩ := h.a
  subst hav
  clear hx1 hx2
  obtain ⟨ka, kc, hkv, hx1, hx2⟩ := h.k
  subst hkv
  clear hx1 hx2
  obtain ⟨pa, pc, hpv, hx1, hx2⟩ := h.p
  subst hpv
  clear hx1 hx2
  obtain ⟨ra, rn, rc, rfl⟩ := h.r.sl
  have hk0 := hO.k0
  have hk8 := hO.k8
  have hp8 := hO.p8
  have ha8 := hO.a8
  obtain ⟨B1, hB1⟩ : ∃ B1, stB r.key (l.take r.key.length) = B1 := ⟨_, rfl⟩
  obtain ⟨B2, hB2⟩ : ∃ B2, stB r.post ((l.drop r.key.length).take r.post.length) = B2 := ⟨_, rfl⟩
  obtain ⟨B3, hB3⟩ : ∃ B3, stB r.ante (d.drop (d.length - r.ante.length)) = B3 := ⟨_, rfl⟩
  rw [hB1] at HS1
  rw [hB2] at HS2
  rw [hB3] at HS3
  unfold stF
  rw [hB1, hB2, hB3]
  clear h hO hB1 hB2 hB3
  obtain ⟨kn, hkn⟩ : ∃ kn, r.key.length = kn := ⟨_, rfl⟩
  obtain ⟨pn, hpn⟩ : ∃ pn, r.post.length = pn := ⟨_, rfl⟩
  obtain ⟨an, han⟩ : ∃ an, r.ante.length = an := ⟨_, rfl⟩
  obtain ⟨ln, hln'⟩ : ∃ ln, l.length = ln := ⟨_, rfl⟩
  obtain ⟨dn, hdn'⟩ : ∃ dn, d.length = dn := ⟨_, rfl⟩
  rw [hkn] at HS1 HS2 hk0 hk8 ⊢
  rw [hpn] at HS2 hp8 ⊢
  rw [han] at HS3 ha8 ⊢
  rw [hln'] at HIL hlc hln ⊢
  rw [hdn'] at HID HS3 hdc hdn ⊢
  obtain ⟨xb, hxb⟩ : ∃ xb, r.bg = xb := ⟨_, rfl⟩
  obtain ⟨xe, hxe⟩ : ∃ xe, r.en = xe := ⟨_, rfl⟩
  obtain ⟨xc, hxc⟩ : ∃ xc, r.cu = xc := ⟨_, rfl⟩
  rw [hxb, hxe, hxc]
  have HLN : Hid (l.length = ln ∧ d.length = dn) := ⟨hln', hdn'⟩
  clear hkn hpn han hln' hdn' hxb hxe hxc
  have i1 : (0 : Int) < (kn : Int) := by omega
  have i2 : (kn : Int) ≤ 8 := by omega
  have i3 : (pn : Int) ≤ 8 := by omega
  have i4 : (an : Int) ≤ 8 := by omega
  have i5 : (ln : Int) ≤ 1000000000 := by omega
  have i6 : (dn : Int) ≤ 1000000000 := by omega
  obtain ⟨W0, hW0⟩ : ∃ W0, W0 = w.alloc (.cells #[.bool xb, .slice aa an ac, .slice ka kn kc, .slice pa pn pc, .bool xe, .slice ra rn rc, .int .i64 xc] 28) := ⟨_, rfl⟩
  have HG0 : Hid (Grown w W0) := by show Grown _ _; rw [hW0]; exact (Grown.refl _).alloc _
  have f0 : W0.cell? ⟨w.heap.size, 0, none⟩ = some (.bool xb) := by rw [hW0]; simp
  have f1 : W0.cell? ⟨w.heap.size, 1, none⟩ = some (.slice aa an ac) := by rw [hW0]; simp
  have f2 : W0.cell? ⟨w.heap.size, 2, none⟩ = some (.slice ka kn kc) := by rw [hW0]; simp
  have f3 : W0.cell? ⟨w.heap.size, 3, none⟩ = some (.slice pa pn pc) := by rw [hW0]; simp
  have f4 : W0.cell? ⟨w.heap.size, 4, none⟩ = some (.bool xe) := by rw [hW0]; simp
  by_cases c1 : ln < kn + pn
  · as_aux_lemma =>
      have c1' : (ln : Int) < (kn : Int) + (pn : Int) := by omega
      rw [if_pos (.inl c1)]
      go_enter Tryd.func28, Tryd.ntmps28
      go_wp2
      go_ret
      exact ⟨rfl, (Grown.refl _).alloc _⟩
  have c1' : ¬ (ln : Int) < (kn : Int) + (pn : Int) := by omega
  have c1d : decide ((ln : Int) < (kn : Int) + (pn : Int)) = false := by simp; omega
  by_cases c2 : dn < an
  · as_aux_lemma =>
      have c2' : (dn : Int) < (an : Int) := by omega
      rw [if_pos (.inr c2)]
      go_enter Tryd.func28, Tryd.ntmps28
      go_wp2
      go_ret
      exact ⟨rfl, (Grown.refl _).alloc _⟩
  have c2' : ¬ (dn : Int) < (an : Int) := by omega
  have c2d : decide ((dn : Int) < (an : Int)) = false := by simp; omega
  have c2e : decide (dn < an) = false := by simp; omega
  rw [if_neg (by omega)]
  by_cases c3 : (xb = true ∧ an < dn) ∨ (xe = true ∧ kn + pn < ln)
  · rw [if_pos c3]
    rcases c3 with ⟨h1, h2⟩ | ⟨h1, h2⟩
    · as_aux_lemma =>
        subst h1
        have h2' : (an : Int) < (dn : Int) := by omega
        go_enter Tryd.func28, Tryd.ntmps28
        go_wp2
        go_ret
        exact ⟨rfl, (Grown.refl _).alloc _⟩
    · subst h1
      have h2' : (kn : Int) + (pn : Int) < (ln : Int) := by omega
      cases xb with
      | false =>
        as_aux_lemma =>
          go_enter Tryd.func28, Tryd.ntmps28
          go_wp2
          go_ret
          exact ⟨rfl, (Grown.refl _).alloc _⟩
      | true =>
        by_cases h3 : an < dn
        · as_aux_lemma =>
            have h3' : (an : Int) < (dn : Int) := by omega
            go_enter Tryd.func28, Tryd.ntmps28
            go_wp2
            go_ret
            exact ⟨rfl, (Grown.refl _).alloc _⟩
        · as_aux_lemma =>
            have h3' : ¬ (an : Int) < (dn : Int) := by omega
            have h3d : decide ((an : Int) < (dn : Int)) = false := by simp; omega
            have h3e : decide (an < dn) = false := by simp; omega
            go_enter Tryd.func28, Tryd.ntmps28
            go_wp2
            go_ret
            exact ⟨rfl, (Grown.refl _).alloc _⟩
  rw [if_neg c3]
  have HCut : Hid (∀ (P : Prop), P → P) := fun _ h => h

  have HA : Hid (∀ (V : World), Grown W0 V → Grown w V) := fun V hg => HG0.out.trans hg
  obtain ⟨lg, lo, hla⟩ : ∃ lg lo, la = some ⟨lg, lo, none⟩ := by
    obtain ⟨a', c', e, _, hr⟩ := HIL.out
    obtain ⟨g, o, h1, _⟩ := hr.resolve_left (fun e2 => by have := HLN.out.1; rw [e2] at this; simp at this; omega)
    injection e with e1
    exact ⟨g, o, e1.trans h1⟩
  subst hla
  have j1 : (kn : Int) ≤ (ln : Int) := by omega
  have j2 : (kn : Int) ≤ (kn : Int) + (pn : Int) := by omega
  have j3 : (kn : Int) + (pn : Int) ≤ (lc : Int) := by omega
  have j4 : (kn : Int) ≤ (lc : Int) := by omega
  have j5 : (kn : Int) + (pn : Int) ≤ (ln : Int) := by omega
  have j6 : (ln : Int) ≤ (lc : Int) := by omega
  have HC1 : Hid (∀ m os, Calls Tryd.prog 42 #[.slice (some ⟨lg, lo, none⟩) kn lc, .slice ka kn kc] (Go.Sort.grow (W0.drewN m) os) fun e w' => e = .returned (.bool B1) ∧ Grown (Go.Sort.grow (W0.drewN m) os) w') := fun m os => HS1.out _ _ (HG0.out.quiet m os) (ir_take HIL.out (by omega))
  have g1 := fun m os => ((Grown.refl W0).quiet m os).cellv f1
  have g2 := fun m os => ((Grown.refl W0).quiet m os).cellv f2
  have g3 := fun m os => ((Grown.refl W0).quiet m os).cellv f3
  go_enter Tryd.func28, Tryd.ntmps28
  go_upto_region 6 with fail
  rw [← hW0]
  go_cut [48] (fun s wx => s = .bool false ∧ wx = W0)
  case first =>
    cases xb with
    | false =>
      cases xe with
      | false =>
        go_wp2
        go_meet
        exact ⟨rfl, by first | rfl | exact hW0.symm⟩
      | true =>
        have h5 : ¬ (kn : Int) + (pn : Int) < (ln : Int) := fun h => c3 (.inr ⟨rfl, by omega⟩)
        have h6 : decide ((kn : Int) + (pn : Int) < (ln : Int)) = false := by simpa using h5
        go_wp2
        go_meet
        exact ⟨rfl, by first | rfl | exact hW0.symm⟩
    | true =>
      have h7 : ¬ (an : Int) < (dn : Int) := fun h => c3 (.inl ⟨rfl, by omega⟩)
      have h8 : decide ((an : Int) < (dn : Int)) = false := by simpa using h7
      have h9 : decide (an < dn) = false := by simp; omega
      cases xe with
      | false =>
        go_wp2
        go_meet
        exact ⟨rfl, by first | rfl | exact hW0.symm⟩
      | true =>
        have h5 : ¬ (kn : Int) + (pn : Int) < (ln : Int) := fun h => c3 (.inr ⟨rfl, by omega⟩)
        have h6 : decide ((kn : Int) + (pn : Int) < (ln : Int)) = false := by simpa using h5
        go_wp2
        go_meet
        exact ⟨rfl, by first | rfl | exact hW0.symm⟩
  obtain ⟨hcs, hcw⟩ := hcut
  subst hcs
  have hcw2 := hcw.symm
  clear hcw
  subst hcw2
  clear c3 hW0
  cases B1 with
  | false =>
    clear HS1 HS2 HS3
    go_wp2
    refine wp_region_quiet_grown mixed (by kernel_rfl) ?_
    iterate 6 (go_big_quiet_step ((go_at_call 42; exact grown_of (HC1.out _ _))))
    repeat (go_big_quiet_step (fail))
    refine wpQuiet_nil ?_
    intro _ hw'
    obtain ⟨⟨nq, osq⟩, hw''⟩ := hw'
    subst hw''
    go_wp2
    go_ret
    exact ⟨rfl, HG0.out.quiet _ _⟩
  | true =>
    by_cases hk : kn = lc
    · have hz := i1
      have hpn0 : pn = 0 := by omega
      subst hpn0
      have hkE : kn = lc := hk
      have HC2 : Hid (∀ m os, Calls Tryd.prog 42 #[.slice (some ⟨lg, lo, none⟩) 0 0, .slice pa 0 pc] (Go.Sort.grow (W0.drewN m) os) fun e w' => e = .returned (.bool B2) ∧ Grown (Go.Sort.grow (W0.drewN m) os) w') := fun m os => HS2.out _ _ (HG0.out.quiet m os) (ir_zero (by simp))
      subst hkE
      cases B2 with
      | false =>
        clear HS1 HS2 HS3
        go_wp2
        refine wp_region_quiet_grown mixed (by kernel_rfl) ?_
        iterate 6 (go_big_quiet_step ((go_at_call 42; exact grown_of (HC1.out _ _))))
        iterate 8 (go_big_quiet_step ((go_at_call 42; exact grown_of (HC2.out _ _))))
        repeat (go_big_quiet_step (fail))
        refine wpQuiet_nil ?_
        intro _ hw'
        obtain ⟨⟨nq, osq⟩, hw''⟩ := hw'
        subst hw''
        go_wp2
        go_ret
        exact ⟨rfl, HG0.out.quiet _ _⟩
      | true =>
        have j8 : ((dn - an : Nat) : Int) = (dn : Int) - (an : Int) := by omega
        obtain ⟨e9, he9⟩ : ∃ e9, dn - an = e9 := ⟨_, rfl⟩
        rw [he9] at j8
        have j9 := j8.symm
        have j10 : (e9 : Int) ≤ (dn : Int) := by omega
        have j11 : (e9 : Int) ≤ (dc : Int) := by omega
        have j12 : (0 : Int) ≤ (e9 : Int) := by omega
        have j13 : (dn : Int) ≤ (dc : Int) := by omega
        clear j8
        by_cases hd0 : e9 = dc
        · have HC3 : Hid (∀ m os, Calls Tryd.prog 42 #[.slice da 0 0, .slice aa an ac] (Go.Sort.grow (W0.drewN m) os) fun e w' => e = .returned (.bool B3) ∧ Grown (Go.Sort.grow (W0.drewN m) os) w') := fun m os => HS3.out _ _ (HG0.out.quiet m os) (ir_zero (by rw [he9]; exact List.drop_eq_nil_of_le (by have := HLN.out.2; omega)))
          have han0 : an = 0 := by omega
          have hde : dn = dc := by omega
          clear HS1 HS2 HS3 he9
          subst hd0
          subst han0
          obtain rfl := hde
          go_wp2
          refine wp_region_quiet_grown mixed (by kernel_rfl) ?_
          iterate 6 (go_big_quiet_step ((go_at_call 42; exact grown_of (HC1.out _ _))))
          iterate 8 (go_big_quiet_step ((go_at_call 42; exact grown_of (HC2.out _ _))))
          iterate 11 (go_big_quiet_step ((go_at_call 42; exact grown_of (HC3.out _ _))))
          repeat (go_big_quiet_step (fail))
          refine wpQuiet_nil ?_
          intro _ hw'
          obtain ⟨⟨nq, osq⟩, hw''⟩ := hw'
          subst hw''
          go_wp2
          go_ret
          exact ⟨by simp, HG0.out.quiet _ _⟩
        · by_cases hdz : dn = 0
          · obtain ⟨ad, hda⟩ : ∃ ad, da = some ad := by
              rcases HDW.out with ⟨_, h2⟩ | h2
              · omega
              · exact h2
            have han0 : an = 0 := by omega
            have he0 : e9 = 0 := by omega
            have HC3 : Hid (∀ A C m os, Calls Tryd.prog 42 #[.slice A 0 C, .slice aa 0 ac] (Go.Sort.grow (W0.drewN m) os) fun e w' => e = .returned (.bool B3) ∧ Grown (Go.Sort.grow (W0.drewN m) os) w') := fun A C m os => by
              have := HS3.out (Go.Sort.grow (W0.drewN m) os) (.slice A 0 C) (HG0.out.quiet m os) (by
                have hd0 : d = [] := List.eq_nil_of_length_eq_zero (HLN.out.2.trans hdz)
                rw [hd0, List.drop_nil]
                exact ⟨A, C, rfl, Nat.zero_le _, .inl rfl⟩)
              rwa [han0] at this
            have hdI : ((0 : Int) == (dc : Int)) = false := by simp; omega
            clear HS1 HS2 HS3 he9
            subst hda
            subst hdz
            subst he0
            subst han0
            go_wp2
            refine wp_region_quiet_grown mixed (by kernel_rfl) ?_
            iterate 6 (go_big_quiet_step ((go_at_call 42; exact grown_of (HC1.out _ _))))
            iterate 8 (go_big_quiet_step ((go_at_call 42; exact grown_of (HC2.out _ _))))
            iterate 11 (go_big_quiet_step ((go_at_call 42; exact grown_of (HC3.out _ _ _ _))))
            repeat (go_big_quiet_step (fail))
            refine wpQuiet_nil ?_
            intro _ hw'
            obtain ⟨⟨nq, osq⟩, hw''⟩ := hw'
            subst hw''
            go_wp2
            go_ret
            exact ⟨by simp, HG0.out.quiet _ _⟩
          obtain ⟨dg, dO, hda⟩ : ∃ dg dO, da = some ⟨dg, dO, none⟩ := by
            obtain ⟨a', c', e, _, h⟩ := HID.out
            injection e with e1 e2 e3
            obtain ⟨g, o, h1, _⟩ := h.resolve_left (fun e0 => hdz (by rw [← HLN.out.2, e0]; rfl))
            exact ⟨g, o, e1.trans h1⟩
          subst hda
          have HC3 : Hid (∀ m os, Calls Tryd.prog 42 #[.slice (some ⟨dg, dO + e9, none⟩) an (dc - e9), .slice aa an ac] (Go.Sort.grow (W0.drewN m) os) fun e w' => e = .returned (.bool B3) ∧ Grown (Go.Sort.grow (W0.drewN m) os) w') := fun m os => HS3.out _ _ (HG0.out.quiet m os) (by
            have := ir_drop HID.out (n := e9) (by omega)
            rw [show dn - e9 = an by omega] at this
            rw [he9]
            exact this)
          have hdI : ((e9 : Int) == (dc : Int)) = false := by simp; omega
          have hdJ : dn - e9 = an := by omega
          clear HS1 HS2 HS3 he9
          go_wp2
          refine wp_region_quiet_grown mixed (by kernel_rfl) ?_
          iterate 6 (go_big_quiet_step ((go_at_call 42; exact grown_of (HC1.out _ _))))
          iterate 8 (go_big_quiet_step ((go_at_call 42; exact grown_of (HC2.out _ _))))
          iterate 11 (go_big_quiet_step ((go_at_call 42; exact grown_of (HC3.out _ _))))
          repeat (go_big_quiet_step (fail))
          refine wpQuiet_nil ?_
          intro _ hw'
          obtain ⟨⟨nq, osq⟩, hw''⟩ := hw'
          subst hw''
          go_wp2
          go_ret
          exact ⟨by simp, HG0.out.quiet _ _⟩
    · have hz := i1
      have hkI : ((kn : Int) == (lc : Int)) = false := by simp; omega
      have HC2 : Hid (∀ m os, Calls Tryd.prog 42 #[.slice (some ⟨lg, lo + kn, none⟩) pn (lc - kn), .slice pa pn pc] (Go.Sort.grow (W0.drewN m) os) fun e w' => e = .returned (.bool B2) ∧ Grown (Go.Sort.grow (W0.drewN m) os) w') := fun m os => HS2.out _ _ (HG0.out.quiet m os) (by
        have := ir_mid HIL.out (k := kn) (n := kn + pn) (by omega) (by omega)
        rw [show kn + pn - kn = pn by omega] at this
        exact this)
      cases B2 with
      | false =>
        clear HS1 HS2 HS3
        go_wp2
        refine wp_region_quiet_grown mixed (by kernel_rfl) ?_
        iterate 6 (go_big_quiet_step ((go_at_call 42; exact grown_of (HC1.out _ _))))
        iterate 8 (go_big_quiet_step ((go_at_call 42; exact grown_of (HC2.out _ _))))
        repeat (go_big_quiet_step (fail))
        refine wpQuiet_nil ?_
        intro _ hw'
        obtain ⟨⟨nq, osq⟩, hw''⟩ := hw'
        subst hw''
        go_wp2
        go_ret
        exact ⟨rfl, HG0.out.quiet _ _⟩
      | true =>
        have j8 : ((dn - an : Nat) : Int) = (dn : Int) - (an : Int) := by omega
        obtain ⟨e9, he9⟩ : ∃ e9, dn - an = e9 := ⟨_, rfl⟩
        rw [he9] at j8
        have j9 := j8.symm
        have j10 : (e9 : Int) ≤ (dn : Int) := by omega
        have j11 : (e9 : Int) ≤ (dc : Int) := by omega
        have j12 : (0 : Int) ≤ (e9 : Int) := by omega
        have j13 : (dn : Int) ≤ (dc : Int) := by omega
        clear j8
        by_cases hd0 : e9 = dc
        · have HC3 : Hid (∀ m os, Calls Tryd.prog 42 #[.slice da 0 0, .slice aa an ac] (Go.Sort.grow (W0.drewN m) os) fun e w' => e = .returned (.bool B3) ∧ Grown (Go.Sort.grow (W0.drewN m) os) w') := fun m os => HS3.out _ _ (HG0.out.quiet m os) (ir_zero (by rw [he9]; exact List.drop_eq_nil_of_le (by have := HLN.out.2; omega)))
          have han0 : an = 0 := by omega
          have hde : dn = dc := by omega
          clear HS1 HS2 HS3 he9
          subst hd0
          subst han0
          obtain rfl := hde
          go_wp2
          refine wp_region_quiet_grown mixed (by kernel_rfl) ?_
          iterate 6 (go_big_quiet_step ((go_at_call 42; exact grown_of (HC1.out _ _))))
          iterate 8 (go_big_quiet_step ((go_at_call 42; exact grown_of (HC2.out _ _))))
          iterate 11 (go_big_quiet_step ((go_at_call 42; exact grown_of (HC3.out _ _))))
          repeat (go_big_quiet_step (fail))
          refine wpQuiet_nil ?_
          intro _ hw'
          obtain ⟨⟨nq, osq⟩, hw''⟩ := hw'
          subst hw''
          go_wp2
          go_ret
          exact ⟨by simp, HG0.out.quiet _ _⟩
        · by_cases hdz : dn = 0
          · obtain ⟨ad, hda⟩ : ∃ ad, da = some ad := by
              rcases HDW.out with ⟨_, h2⟩ | h2
              · omega
              · exact h2
            have han0 : an = 0 := by omega
            have he0 : e9 = 0 := by omega
            have HC3 : Hid (∀ A C m os, Calls Tryd.prog 42 #[.slice A 0 C, .slice aa 0 ac] (Go.Sort.grow (W0.drewN m) os) fun e w' => e = .returned (.bool B3) ∧ Grown (Go.Sort.grow (W0.drewN m) os) w') := fun A C m os => by
              have := HS3.out (Go.Sort.grow (W0.drewN m) os) (.slice A 0 C) (HG0.out.quiet m os) (by
                have hd0 : d = [] := List.eq_nil_of_length_eq_zero (HLN.out.2.trans hdz)
                rw [hd0, List.drop_nil]
                exact ⟨A, C, rfl, Nat.zero_le _, .inl rfl⟩)
              rwa [han0] at this
            have hdI : ((0 : Int) == (dc : Int)) = false := by simp; omega
            clear HS1 HS2 HS3 he9
            subst hda
            subst hdz
            subst he0
            subst han0
            go_wp2
            refine wp_region_quiet_grown mixed (by kernel_rfl) ?_
            iterate 6 (go_big_quiet_step ((go_at_call 42; exact grown_of (HC1.out _ _))))
            iterate 8 (go_big_quiet_step ((go_at_call 42; exact grown_of (HC2.out _ _))))
            iterate 11 (go_big_quiet_step ((go_at_call 42; exact grown_of (HC3.out _ _ _ _))))
            repeat (go_big_quiet_step (fail))
            refine wpQuiet_nil ?_
            intro _ hw'
            obtain ⟨⟨nq, osq⟩, hw''⟩ := hw'
            subst hw''
            go_wp2
            go_ret
            exact ⟨by simp, HG0.out.quiet _ _⟩
          obtain ⟨dg, dO, hda⟩ : ∃ dg dO, da = some ⟨dg, dO, none⟩ := by
            obtain ⟨a', c', e, _, h⟩ := HID.out
            injection e with e1 e2 e3
            obtain ⟨g, o, h1, _⟩ := h.resolve_left (fun e0 => hdz (by rw [← HLN.out.2, e0]; rfl))
            exact ⟨g, o, e1.trans h1⟩
          subst hda
          have HC3 : Hid (∀ m os, Calls Tryd.prog 42 #[.slice (some ⟨dg, dO + e9, none⟩) an (dc - e9), .slice aa an ac] (Go.Sort.grow (W0.drewN m) os) fun e w' => e = .returned (.bool B3) ∧ Grown (Go.Sort.grow (W0.drewN m) os) w') := fun m os => HS3.out _ _ (HG0.out.quiet m os) (by
            have := ir_drop HID.out (n := e9) (by omega)
            rw [show dn - e9 = an by omega] at this
            rw [he9]
            exact this)
          have hdI : ((e9 : Int) == (dc : Int)) = false := by simp; omega
          have hdJ : dn - e9 = an := by omega
          clear HS1 HS2 HS3 he9
          go_wp2
          refine wp_region_quiet_grown mixed (by kernel_rfl) ?_
          iterate 6 (go_big_quiet_step ((go_at_call 42; exact grown_of (HC1.out _ _))))
          iterate 8 (go_big_quiet_step ((go_at_call 42; exact grown_of (HC2.out _ _))))
          iterate 11 (go_big_quiet_step ((go_at_call 42; exact grown_of (HC3.out _ _))))
          repeat (go_big_quiet_step (fail))
          refine wpQuiet_nil ?_
          intro _ hw'
          obtain ⟨⟨nq, osq⟩, hw''⟩ := hw'
          subst hw''
          go_wp2
          go_ret
          exact ⟨by simp, HG0.out.quiet _ _⟩
end Go.Proofs
