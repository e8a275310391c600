/-
  The reference's Proper, and UtfJoins, walked.
-/
import Derived.RangeFuncNested
import Derived.RangeFuncBound
import Derived.RangeFuncCalls
import Derived.RangeFuncLeaves
import Derived.Shelf.Abstract
import Derived.Shelf.RegionOpen
import Derived.WalkKit
import Derived.WalkSpells
import Derived.WalkLawsBesides
import Derived.OwnWalkIn
import Derived.TacticsInMore
import Derived.LoopNIn
import Derived.LoopIn
import Derived.BigQuiet
import Derived.RegionIn
import Derived.Deep.QuietTactic
import Derived.Lib.OthersKept
import Derived.Maps.AppendAt
import Derived.Lib.IndexBytes
import Derived.Lib.SmallJoins
import Derived.Deep.RegionWith
import Derived.ArgAppend
import Derived.Laws.CopyOwn
import Derived.Laws.MakeOwn
import Derived.Test.YtahifnjompmcbaaDoorJb
namespace Go.Proofs
open Go.RowKit Go.Shelf

set_option maxRecDepth 100000
attribute [local go_sem] Oper.semAt_some

theorem Ints.form {w : World} {v : Value} {xs : List Int} (h : Ints w v xs) : ∃ A cap, v = .slice A xs.length cap ∧ ∀ j, j < xs.length → ∃ g o, A = some ⟨g, o, none⟩ ∧ w.cell? ⟨g, o + j, none⟩ = some (.int .i64 (xs[j]?.getD 0)) := by
  obtain ⟨a, cap, rfl, hc⟩ := h
  refine ⟨a, cap, rfl, fun j hj => ?_⟩
  obtain ⟨g, o, rfl, h⟩ := hc.resolve_left (fun e => by rw [e] at hj; simp at hj)
  exact ⟨g, o, rfl, h j hj⟩
set_option maxHeartbeats 4000000 in
theorem rproper_any (v : Value) (l : List Int) (w : World) (hv : Ints w v l) (hl : l.length ≤ 1099511627776) :
    Calls Tryd.prog 30 #[v] w fun e w' => e = .returned (.bool (properB l)) ∧ Below w.heap.size w w' := by
  have hj := rjoin_any v l w hv (by omega)
  cases hJ : joinB l with
  | none =>
    rw [hJ] at hj
    have hp : properB l = false := by unfold properB; rw [hJ]
    rw [hp]
    have HJ : Hid (Calls Tryd.prog 29 #[v] w fun e w' => e = .returned (.tuple #[.string ⟨#[]⟩, .int .i64 11]) ∧ Below w.heap.size w w') := hj
    clear hj hJ hp hv
    go_enter Tryd.func30, Tryd.ntmps30
    go_wp2_with fail
    refine HJ.out.mono ?_
    rintro e w1 ⟨rfl, hb1⟩
    have HB : Hid (Below w.heap.size w w1) := hb1
    clear hb1
    go_wp2
    go_ret
    exact ⟨rfl, HB.out⟩
  | some t =>
    rw [hJ] at hj
    have htl := joinB_len l t hJ
    have hp : properB l = (ints (units ⟨t.toArray⟩) == l) := by unfold properB; rw [hJ]
    rw [hp]
    have HJ : Hid (Calls Tryd.prog 29 #[v] w fun e w' => e = .returned (.tuple #[.string ⟨t.toArray⟩, .int .i64 0]) ∧ Below w.heap.size w w') := hj
    have hsz : (⟨t.toArray⟩ : ByteArray).size ≤ 4398046511104 := by rw [size_lit]; omega
    have hul : (ints (units ⟨t.toArray⟩)).length ≤ 4398046511104 := by
      rw [ints_length]
      have := units_len ⟨t.toArray⟩
      omega
    obtain ⟨xs, hxs⟩ : ∃ xs, ints (units ⟨t.toArray⟩) = xs := ⟨_, rfl⟩
    have HXS : Hid (ints (units ⟨t.toArray⟩) = xs) := hxs
    rw [hxs] at hul
    rw [hxs]
    obtain ⟨r, hr⟩ : ∃ r, (xs == l) = r := ⟨_, rfl⟩
    have HR : Hid ((xs == l) = r) := hr
    rw [hr]
    have HV : Hid (Ints w v l) := hv
    obtain ⟨a0, c0, rfl, hcl⟩ := hv.form
    clear hj hJ hp hr hv htl hxs hcl
    generalize (⟨t.toArray⟩ : ByteArray) = s at *
    obtain ⟨n, hn⟩ : ∃ n, l.length = n := ⟨_, rfl⟩
    have HN : Hid (l.length = n) := hn
    rw [hn] at HJ HV hl
    rw [hn]
    clear hn
    go_enter Tryd.func30, Tryd.ntmps30
    go_wp2_with fail
    refine HJ.out.mono ?_
    rintro e w1 ⟨rfl, hb1⟩
    have HB : Hid (Below w.heap.size w w1) := hb1
    clear hb1 HJ
    go_wp2_with fail
    refine (rcut_any s w1 hsz).mono ?_
    rw [HXS.out]
    rintro e w2 ⟨v2, rfl, i2, hb2⟩
    have hB2 : Below w.heap.size w w2 := HB.out.trans (hb2.mono HB.out.size)
    have iv := HV.out.below hB2 (Nat.le_refl _)
    obtain ⟨a1, c1, rfl, hc1⟩ := i2.form
    have HB2 : Hid (Below w.heap.size w w2) := hB2
    have HC1 : Hid (∀ j, j < xs.length → ∃ g o, a1 = some ⟨g, o, none⟩ ∧ w2.cell? ⟨g, o + j, none⟩ = some (.int .i64 (xs[j]?.getD 0))) := hc1
    have HC0 : Hid (∀ j, j < n → ∃ g o, a0 = some ⟨g, o, none⟩ ∧ w2.cell? ⟨g, o + j, none⟩ = some (.int .i64 (l[j]?.getD 0))) := by
      obtain ⟨a', c', e, h⟩ := iv.form
      rw [HN.out] at h e
      injection e with e1 e2 e3
      subst e1
      exact h
    clear hc1 i2 iv hb2 hB2 HB HV HXS
    obtain ⟨m, hm⟩ : ∃ m, xs.length = m := ⟨_, rfl⟩
    have HM : Hid (xs.length = m) := hm
    rw [hm] at hul HC1
    rw [hm]
    clear hm
    by_cases hmn : m = n
    · subst hmn
      go_wp2
      go_loopw [6] (fun i wr => ∃ k q : Nat, i = .int .i64 k ∧ k ≤ m ∧ Hid (xs.take k = l.take k) ∧ wr = w2.drewN q) (fun i _ => m - (intOf i).toNat)
      case atStart => exact ⟨0, 0, rfl, Nat.zero_le _, rfl, rfl⟩
      case round =>
        obtain ⟨k, q, rfl, hk, hT, rfl⟩ := hrel
        by_cases hlt : k < m
        · obtain ⟨g1, o1, rfl, c1⟩ := HC1.out k hlt
          obtain ⟨g2, o2, rfl, c2⟩ := HC0.out k hlt
          have hlt' : (k : Int) < (m : Int) := by omega
          have hpos : (0 : Int) ≤ (k : Int) := by omega
          obtain ⟨a, ha⟩ : ∃ a : Int, xs[k]?.getD 0 = a := ⟨_, rfl⟩
          obtain ⟨b, hb⟩ : ∃ b : Int, l[k]?.getD 0 = b := ⟨_, rfl⟩
          rw [ha] at c1
          rw [hb] at c2
          have HA : Hid (xs[k]?.getD 0 = a) := ha
          have HB : Hid (l[k]?.getD 0 = b) := hb
          clear ha hb HC1 HC0
          by_cases he : a = b
          · as_aux_lemma =>
              have e1 : (a != b) = false := by simp [he]
              have HE : Hid (a = b) := he
              clear he
              go_wp2_with fail
              go_quiet (fail)
              go_wp2
              have hx := HM.out
              have hy := HN.out
              exact ⟨⟨k + 1, q + nq, by go_num, by omega, take_eq_succ (by omega) (by omega) hT.out (by rw [HA.out, HB.out]; exact HE.out), rfl⟩, by simp [intOf]; omega⟩
          · as_aux_lemma =>
              have e1 : (a != b) = true := by simp [he]
              have HE : Hid (a ≠ b) := he
              clear he
              go_wp2_with fail
              go_quiet (fail)
              go_wp2
              go_ret
              have hrf : r = false := by
                rw [← HR.out, beq_eq_false_iff_ne]
                rintro rfl
                exact HE.out (HA.out.symm.trans HB.out)
              refine ⟨by rw [hrf]; rfl, HB2.out.trans ?_⟩
              exact ⟨rfl, rfl, rfl, Nat.le_refl _, fun _ _ => rfl⟩
        · as_aux_lemma =>
            clear HC1 HC0
            go_wp2
            go_ret
            have hrt : r = true := by
              have hx := HM.out
              have hy := HN.out
              have ht := hT.out
              rw [List.take_of_length_le (by omega), List.take_of_length_le (by omega)] at ht
              rw [← HR.out, beq_iff_eq]; exact ht
            refine ⟨by rw [hrt]; rfl, HB2.out.trans ?_⟩
            exact ⟨rfl, rfl, rfl, Nat.le_refl _, fun _ _ => rfl⟩
    · as_aux_lemma =>
        have e1 : ((m : Int) != (n : Int)) = true := by rw [bne_iff_ne]; omega
        clear HC1 HC0
        go_wp2
        go_ret
        have hrf : r = false := by
          rw [← HR.out, beq_eq_false_iff_ne]
          intro e
          have := HM.out
          rw [e, HN.out] at this
          exact hmn this.symm
        exact ⟨by rw [hrf]; rfl, HB2.out⟩
end Go.Proofs
