/-
  Each text begins with a token or is refused: runes; and all of a text.
-/
import Derived.Shelf.Abstract
import Derived.Shelf.RegionOpen
import Derived.WalkKit
import Derived.WalkSpells
import Derived.WalkLawsBesides
import Derived.BigQuiet
import Derived.Deep.QuietTactic
import Derived.Deep.LoopGhost
import Derived.Lib.OthersKept
import Derived.ScopeJumps
import Derived.WalkMore
import Derived.Maps.AppendAt
import Derived.Lib.SmallJoins
import Derived.Test.YthjjkenmlkekbaaDoorPn
namespace Go.Proofs
open Go.RowKit Go.Shelf

set_option maxRecDepth 100000
attribute [local go_sem] Oper.semAt_some


theorem firstU_at (r : ByteArray) (h0 : 0 < r.size) : firstU r = ((uAt r 0 : Int), (uw r 0 : Int)) := by
  have hu : units r = (0, uAt r 0) :: unitsN r (r.size - 1) (0 + uw r 0) := by
    unfold units
    obtain ⟨k, hk⟩ : ∃ k, r.size = k + 1 := ⟨r.size - 1, by omega⟩
    have := unitsN_step r k 0 (by omega)
    rw [hk]
    simpa using this
  unfold firstU
  rw [hu]
  simp only
  rw [wd_uAt]
theorem alone_unit (r : ByteArray) (h0 : 0 < r.size) : firstU (r.extract 0 (uw r 0)) = ((uAt r 0 : Int), (uw r 0 : Int)) ∧ uw r 0 ≤ r.size ∧ 1 ≤ uw r 0 ∧ (r.extract 0 (uw r 0)).size = uw r 0 := by
  have hin := uw_in r 0 h0
  have hpos := uw_pos r 0
  have hle : uw r 0 ≤ r.size := by omega
  have hz := ext0_size r hle
  have hin2 := uw_in (r.extract 0 (uw r 0)) 0 (by omega)
  have := same_at (s := r) (t := r.extract 0 (uw r 0)) (p := 0) (r := 0) (fun k _ h2 => get_ext r 0 (uw r 0) (0 + k) (by omega) hle |>.trans (by rw [Nat.zero_add])) h0 (by omega) (by omega) (by omega)
  refine ⟨?_, hle, hpos, hz⟩
  rw [firstU_at _ (by omega), this.1, this.2]
theorem begins_bare (r : ByteArray) (hs : r.size ≤ maxLen) (h0 : 0 < r.size) (fresh : Bool) (h36 : r[0].toNat ≠ 36) (hi : Lib.indexByte sgnL r[0] = -1) (h64 : r[0].toNat ≠ 64) (h92 : r[0].toNat ≠ 92) : Begins r fresh := by
  have h91 : r[0].toNat ≠ 91 := fun e => by
    have e2 : r[0] = 91 := UInt8.toNat_inj.1 e
    rw [e2] at hi
    revert hi
    decide +kernel
  have hp := noPre r h0 h91
  by_cases hth : fresh = true ∧ endsB r = true
  · obtain ⟨rfl, he⟩ := hth
    have h4 : 4 ≤ r.size := by
      unfold endsB at he
      simp only [Bool.and_eq_true] at he
      have := pre_len he.1
      simpa using this
    exact .inr ⟨2, 4, 0, _, 0, first_then r hs h0 h36 hp hi h64 h92 he, by omega, h4, .inl rfl⟩
  have to25 : ∀ (k a l u : Int) (t : ByteArray) (n e0 : Int), Tells 45 #[.string r] k a l u t n e0 → Tells 25 #[.string r, .bool fresh] k a l u t n e0 := fun k a l u t n e0 hT => by
    cases fresh with
    | false => exact first_bare r false k a l u t n e0 hs h0 h36 hp hi h64 h92 rfl hT
    | true => exact first_bare2 r k a l u t n e0 hs h0 h36 hp hi h64 h92 (by simpa using hth) hT
  have hf := firstU_at r h0
  obtain ⟨hfa, hle, hpos, hz⟩ := alone_unit r h0
  have bad : Tells 45 #[.string r] 0 0 0 0 ⟨#[]⟩ 0 40 → Begins r fresh := fun hT => .inl ⟨40, by decide, to25 0 0 0 0 ⟨#[]⟩ 0 40 hT⟩
  by_cases hlo : uAt r 0 < 32
  · exact bad (fun w => bare_low r (uAt r 0) _ w hs hf rfl hlo)
  by_cases h127 : uAt r 0 = 127
  · rw [h127] at hf
    exact bad (fun w => bare_127 r _ w hs hf rfl)
  by_cases hhi : 1114111 < uAt r 0
  · exact bad (fun w => bare_high r (uAt r 0) _ w hs hf rfl hhi)
  cases hr : rsv (uAt r 0)
  · refine .inr ⟨1, uw r 0, uAt r 0, ⟨#[]⟩, 0, to25 1 0 _ _ ⟨#[]⟩ 0 0 (fun w => bare_ok r (uAt r 0) _ w hs hf (by omega) h127 (by omega) hr), by omega, hle, .inr ?_⟩
    have ha := ext0_at r (i := 0) hle (by omega)
    have hea : endsB (r.extract 0 (uw r 0)) = false := by
      cases hc : endsB (r.extract 0 (uw r 0))
      · rfl
      · exfalso
        unfold endsB at hc
        simp only [Bool.and_eq_true] at hc
        have h4 := pre_len hc.1
        have hz4 : 4 ≤ uw r 0 := by rw [← hz]; simpa using h4
        have h116 : r[0].toNat = 116 := by
          have hd := drop_at (s := r.extract 0 (uw r 0)) (k := 0) (by omega)
          rw [List.drop_zero] at hd
          have hh := hc.1
          rw [hd, ← Lib.hasPrefix_of_take] at hh
          simp only [Bool.and_eq_true, beq_iff_eq] at hh
          have := congrArg List.head? hh.2
          simp at this
          rw [ha] at this
          rw [this]; rfl
        have := uw_many r 0 (by omega)
        rw [get_bang r 0 h0] at this
        omega
    exact first_bare2 (r.extract 0 (uw r 0)) 1 0 _ _ ⟨#[]⟩ 0 0 (by rw [hz]; omega) (by omega) (by rw [ha]; exact h36) (noPre _ (by omega) (by rw [ha]; exact h91)) (by rw [ha]; exact hi) (by rw [ha]; exact h64) (by rw [ha]; exact h92) hea (fun w => bare_ok (r.extract 0 (uw r 0)) (uAt r 0) _ w (by rw [hz]; omega) hfa (by omega) h127 (by omega) hr)
  · exact bad (fun w => bare_rsv r (uAt r 0) _ w hs hf hr (by omega) h127 (by omega))
theorem begins_total (r : ByteArray) (hs : r.size ≤ maxLen) (h0 : 0 < r.size) (fresh : Bool) : Begins r fresh := by
  obtain ⟨m, hm⟩ : ∃ m, spanN isNm (r.extract 1 r.size).data.toList = m := ⟨_, rfl⟩
  by_cases h36 : r[0].toNat = 36
  · by_cases hm0 : 0 < m
    · exact begins_var r hs h0 fresh h36 m hm hm0
    · obtain rfl : m = 0 := by omega
      have e : r[0] = 36 := UInt8.toNat_inj.1 h36
      exact begins_sign r hs h0 fresh 6 (by rw [e]; decide +kernel) (noPre r h0 (by omega)) (fun _ => hm)
  cases hp : Lib.hasPrefix r.data.toList [91, 58]
  · rcases idx_sgn r[0] with hi | ⟨i, hi⟩
    · by_cases h64 : r[0].toNat = 64
      · exact begins_copy r hs h0 fresh h64
      · by_cases h92 : r[0].toNat = 92
        · exact begins_esc r hs h0 fresh h92
        · exact begins_bare r hs h0 fresh h36 hi h64 h92
    · exact begins_sign r hs h0 fresh i hi hp (fun h => absurd h h36)
  · have h91 : r[0].toNat = 91 := by
      apply Classical.byContradiction
      intro h
      rw [noPre r h0 h] at hp
      cases hp
    exact begins_class r hs h0 fresh h91 hp
/-- all of a text: tokens, each of which is the same by itself, with what is let by between -/
inductive RunP (s : ByteArray) : Nat → Bool → List Tok → Nat → Int → Prop
  | fin {p : Nat} {fresh : Bool} (h : p + pastN false (s.data.toList.drop p) = s.size) : RunP s p fresh [] 0 0
  | bad {p : Nat} {fresh : Bool} {q : Nat} {e0 : Int} (hq : q = p + pastN false (s.data.toList.drop p)) (hlt : q < s.size) (hb : Tells 25 #[.string (s.extract q s.size), .bool fresh] 0 0 0 0 ⟨#[]⟩ 0 e0) (he : e0 ≠ 0) : RunP s p fresh [] q e0
  | step {p : Nat} {fresh : Bool} {q : Nat} {k u : Int} {l : Nat} {t : ByteArray} {n : Int} {toks : List Tok} {fa : Nat} {fe : Int} (hq : q = p + pastN false (s.data.toList.drop p)) (hlt : q < s.size) (hb : Tells 25 #[.string (s.extract q s.size), .bool fresh] k 0 l u t n 0) (h0 : 0 < l) (hl : q + l ≤ s.size) (hal : t = ⟨#[116, 104, 101, 110]⟩ ∨ Run (s.extract q (q + l)) 0 true [⟨k, 0, l, u, t, n⟩] 0 0) (hr : RunP s (q + l) (decide (k = 11)) toks fa fe) : RunP s p fresh (⟨k, q, l, u, t, n⟩ :: toks) fa fe
theorem RunP.run {s : ByteArray} {p : Nat} {fresh : Bool} {toks : List Tok} {fa : Nat} {fe : Int} (h : RunP s p fresh toks fa fe) : Run s p fresh toks fa fe := by
  induction h with
  | fin h => exact Run.fin h
  | bad hq hlt hb he => exact Run.bad hq hlt hb he
  | step hq hlt hb h0 hl _ _ ih => exact Run.step hq hlt hb h0 hl ih
theorem run_total (s : ByteArray) (hs : s.size ≤ maxLen) : ∀ (m p : Nat) (fresh : Bool), p ≤ s.size → s.size - p ≤ m → ∃ toks fa fe, RunP s p fresh toks fa fe ∧ fa ≤ s.size := by
  intro m
  induction m with
  | zero =>
    intro p fresh hp hm
    obtain rfl : p = s.size := by omega
    exact ⟨[], 0, 0, .fin (by rw [List.drop_of_length_le (by simp)]; simp [pastN]), by omega⟩
  | succ m ih =>
    intro p fresh hp hm
    obtain ⟨q, hq⟩ : ∃ q, q = p + pastN false (s.data.toList.drop p) := ⟨_, rfl⟩
    have hqle : q ≤ s.size := by
      have := pastN_le false (s.data.toList.drop p)
      simp at this
      omega
    by_cases hqs : q = s.size
    · exact ⟨[], 0, 0, .fin (by omega), by omega⟩
    have hlt : q < s.size := by omega
    have hz : (s.extract q s.size).size = s.size - q := ext_size s q
    rcases begins_total (s.extract q s.size) (by omega) (by omega) fresh with ⟨e0, he, hT⟩ | ⟨k, l, u, t, n, hT, hl0, hl, hal⟩
    · exact ⟨[], q, e0, .bad hq hlt hT he, hqle⟩
    · obtain ⟨toks, fa, fe, hR, hfa⟩ := ih (q + l) (decide (k = 11)) (by omega) (by omega)
      refine ⟨_, fa, fe, .step hq hlt hT hl0 (by omega) (hal.imp id fun hA => ?_) hR, hfa⟩
      have e1 : (s.extract q s.size).extract 0 l = s.extract q (q + l) := by
        apply ByteArray.ext
        apply Array.toList_inj.1
        rw [ext_take, ext_drop]
        simp only [ByteArray.data_extract, Array.toList_extract, List.extract]
        congr 1
        omega
      have hzl : (s.extract q (q + l)).size = l := by rw [ByteArray.size_extract]; omega
      have hpz : pastN false ((s.extract q (q + l)).data.toList.drop 0) = 0 := by
        rw [List.drop_zero, ← e1, ext_take, ext_drop]
        have hd := past_drop false (s.data.toList.drop p)
        rw [List.drop_drop, ← hq] at hd
        rw [drop_at hlt] at hd ⊢
        obtain ⟨l', rfl⟩ : ∃ l', l = l' + 1 := ⟨l - 1, by omega⟩
        rw [List.take_succ_cons]
        simp only [pastN] at hd ⊢
        split at hd
        · omega
        · rename_i h1
          split at hd
          · omega
          · rename_i h2
            rw [if_neg h1, if_neg h2]
      refine Run.step (q := 0) (l := l) (by rw [hpz]) (by omega) ?_ hl0 (by omega) (Run.fin ?_)
      · have e2 : (s.extract q (q + l)).extract 0 (s.extract q (q + l)).size = s.extract q (q + l) := by
          apply ByteArray.ext
          apply Array.toList_inj.1
          rw [ext_drop, List.drop_zero]
        rw [e2, ← e1]
        exact hA
      · rw [List.drop_of_length_le (by rw [Array.length_toList]; have : (s.extract q (q + l)).data.size = (s.extract q (q + l)).size := rfl; omega), hzl]
        simp [pastN]
end Go.Proofs
