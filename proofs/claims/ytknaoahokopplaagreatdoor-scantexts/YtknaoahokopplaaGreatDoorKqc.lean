/-
  Every place of a text, and every text: the program and the document scan the same.
-/
import Derived.Test.YtknaoahokopplaaGreatDoorMhac
import Derived.Test.YtknaoahokopplaaGreatDoorKpc
namespace Go.Proofs
open Go.RowKit Go.Shelf

set_option maxRecDepth 100000

theorem past_not35 (s : ByteArray) (q : Nat) (h : q < s.size) (hp : pastN false (s.data.toList.drop q) = 0) : s[q].toNat ≠ 35 := by
  intro e
  rw [drop_at h] at hp
  simp only [pastN] at hp
  split at hp
  · omega
  · omega
theorem both_total (s : ByteArray) (hs : s.size ≤ 1000000) (q : Nat) (fresh : Bool) (h : q < s.size) (hpast : pastN false (s.data.toList.drop q) = 0) : Both s q fresh := by
  have h35 := past_not35 s q h hpast
  by_cases h36 : s[q].toNat = 36
  · exact both_var s hs q h fresh h36 _ rfl
  cases hp : Lib.hasPrefix (s.data.toList.drop q) [91, 58]
  · rcases idx_sgn s[q] with hi | ⟨i, hi⟩
    · by_cases h64 : s[q].toNat = 64
      · exact both_copy s hs q h fresh h64
      · by_cases h92 : s[q].toNat = 92
        · exact both_esc s hs q h fresh h92
        · exact both_bare s hs q h fresh h36 hi h64 h92 h35 hp
    · exact both_sign s hs q h fresh i hi hp h36
  · have h91 : s[q].toNat = 91 := by
      apply Classical.byContradiction
      intro hne
      have hz : (s.extract q s.size).size = s.size - q := ext_size s q
      have := noPre (s.extract q s.size) (by omega) (by rw [ext_at0 h]; exact hne)
      rw [ext_drop, hp] at this
      cases this
    exact both_class s hs q h fresh h91 hp
theorem scan_both (s : ByteArray) (hs : s.size ≤ 32768) : ∃ toks fa fe, Run s 0 true toks fa fe ∧ RRun s 0 true toks fa fe ∧ fa ≤ s.size :=
  both_runs s (fun q fresh h hp => both_total s (by omega) q fresh h hp) s.size 0 true (by omega) (by omega)
end Go.Proofs
