/-
  Each text begins with a token or is refused: escapes and runes; all of it.
-/
import Derived.Shelf.Abstract
import Derived.Shelf.RegionOpen
import Derived.WalkKit
import Derived.WalkSpells
import Derived.WalkLawsBesides
import Derived.BigQuiet
import Derived.Deep.QuietTactic
import Derived.Deep.LoopGhost
import Derived.Lib.OthersKept
import Derived.ScopeJumps
import Derived.WalkMore
import Derived.Maps.AppendAt
import Derived.Lib.SmallJoins
import Derived.Test.YthjjkenmlkekbaaDoorPm
namespace Go.Proofs
open Go.RowKit Go.Shelf

set_option maxRecDepth 100000
attribute [local go_sem] Oper.semAt_some


theorem braced_total (r : ByteArray) (hs : r.size ≤ maxLen) (h2 : 2 ≤ r.size) (most : Nat) (h6 : most ≤ 6) :
    (∃ e0 : Int, e0 ≠ 0 ∧ BTells r most 0 0 e0) ∨ (∃ n m : Nat, 0 < n ∧ n ≤ most ∧ 3 + n + 1 ≤ r.size ∧ m < 16 ^ n ∧ BTells r most m (3 + n + 1) 0 ∧ BTells (r.extract 0 (3 + n + 1)) most m (3 + n + 1) 0) := by
  by_cases hz2 : r.size = 2
  · exact .inl ⟨44, by decide, fun w => braced_short r most w hz2⟩
  have h3 : 3 ≤ r.size := by omega
  by_cases hc : r[2].toNat = 123
  · obtain ⟨n, hn⟩ : ∃ n, spanN isHx (r.extract 3 r.size).data.toList = n := ⟨_, rfl⟩
    obtain ⟨q, hq⟩ : ∃ q, r.extract (3 + n) r.size = q := ⟨_, rfl⟩
    have hle := span3_le r n h3 hn
    have hqz : q.size = r.size - (3 + n) := by rw [← hq, ext_size]
    by_cases hm : most < n
    · exact .inl ⟨41, by decide, fun w => braced_many r most q n w hs h6 h3 hc hn hq hm⟩
    have hm' : n ≤ most := by omega
    by_cases hqe : q.size = 0
    · exact .inl ⟨44, by decide, fun w => braced_open r most q n w hs h6 h3 hc hn hq hm' ((empty_iff q).2 hqe)⟩
    have hqn := empty_no (r := q) (by omega)
    by_cases hn0 : n = 0
    · subst hn0
      have hq3 : r.extract 3 r.size = q := by simpa using hq
      exact .inl ⟨41, by decide, fun w => braced_zero r most q w hs h3 hc hq3 (by rw [← hq3]; exact hn) hqn⟩
    by_cases hc2 : (q[0]'(by omega)).toNat = 125
    · have hl : 3 + n + 1 ≤ r.size := by omega
      have hz := ext0_size r hl
      have ha2 := ext0_at r (i := 2) hl (by omega)
      have hna : spanN isHx ((r.extract 0 (3 + n + 1)).extract 3 (r.extract 0 (3 + n + 1)).size).data.toList = n := by
        rw [ext0_drop, span_take, ← ext_drop, hn]; omega
      have hqa : (r.extract 0 (3 + n + 1)).extract (3 + n) (r.extract 0 (3 + n + 1)).size = ⟨#[125]⟩ := by
        apply ByteArray.ext
        apply Array.toList_inj.1
        rw [ext0_drop, show 3 + n + 1 - (3 + n) = 1 by omega, ← ext_drop, hq]
        have := drop_at (s := q) (k := 0) (by omega)
        rw [List.drop_zero] at this
        rw [this, List.take_succ_cons, List.take_zero]
        have e : q[0]'(by omega) = 125 := UInt8.toNat_inj.1 hc2
        rw [e]
      have hmid : (r.extract 3 (3 + n)).data.toList.length = n := by
        simp
        omega
      refine .inr ⟨n, valH (r.extract 3 (3 + n)).data.toList, by omega, hm', hl, ?_, ?_, ?_⟩
      · have := valH_lt _ (span_all r n h3 hn)
        rwa [hmid] at this
      · exact fun w => braced_ok r most q n w hs h6 h3 hc hn hq hm' (by omega) hqn (by omega) hc2 _ rfl
      · exact fun w => braced_ok (r.extract 0 (3 + n + 1)) most ⟨#[125]⟩ n w (by rw [hz]; omega) h6 (by omega) (by rw [ha2]; exact hc) hna hqa hm' (by omega) (by decide +kernel) (by decide) (by decide) _ (by rw [ext0_mid r (by omega)])
    · exact .inl ⟨41, by decide, fun w => braced_nc r most q n w hs h6 h3 hc hn hq hm' (by omega) hqn (by omega) hc2⟩
  · exact .inl ⟨41, by decide, fun w => braced_nb r most w h3 hc⟩
theorem begins_esc (r : ByteArray) (hs : r.size ≤ maxLen) (h0 : 0 < r.size) (fresh : Bool) (h92 : r[0].toNat = 92) : Begins r fresh := by
  have bad : ∀ e0 : Int, e0 ≠ 0 → Tells 43 #[.string r] 0 0 0 0 ⟨#[]⟩ 0 e0 → Begins r fresh := fun e0 he hT => .inl ⟨e0, he, first_esc r fresh 0 0 0 0 ⟨#[]⟩ 0 e0 h0 h92 hT⟩
  by_cases h1 : r.size = 1
  · exact bad 44 (by decide) (esc_end r h1)
  have h2 : 2 ≤ r.size := by omega
  by_cases hx : r[1].toNat = 120
  · rcases braced_total r hs h2 6 (by omega) with ⟨e0, he, hB⟩ | ⟨n, m, hn0, hn6, hl, hm, hB, hBa⟩
    · exact bad e0 he (esc_x r 0 0 0 0 ⟨#[]⟩ 0 e0 h2 hx (eRune_err r 0 0 e0 hB he))
    · by_cases hh : 1114111 < m
      · exact bad 41 (by decide) (esc_x r 0 0 0 0 ⟨#[]⟩ 0 41 h2 hx (eRune_high r m _ hB (by omega)))
      · by_cases hw : wd m = 0
        · exact bad 41 (by decide) (esc_x r 0 0 0 0 ⟨#[]⟩ 0 41 h2 hx (eRune_no r m _ hB (by omega) hw))
        · have hz := ext0_size r hl
          have ha0 := ext0_at r (i := 0) hl (by omega)
          have ha1 := ext0_at r (i := 1) hl (by omega)
          refine .inr ⟨1, 3 + n + 1, m, ⟨#[]⟩, 0, ?_, by omega, hl, .inr ?_⟩
          · have := first_esc r fresh 1 0 (3 + n + 1) m ⟨#[]⟩ 0 0 h0 h92 (esc_x r 1 0 (3 + n + 1) m ⟨#[]⟩ 0 0 h2 hx (eRune_ok r m (3 + n + 1) _ hB (by omega) rfl hw))
            simpa using this
          · have := first_esc (r.extract 0 (3 + n + 1)) true 1 0 (3 + n + 1) m ⟨#[]⟩ 0 0 (by omega) (by rw [ha0]; exact h92) (esc_x _ 1 0 (3 + n + 1) m ⟨#[]⟩ 0 0 (by omega) (by rw [ha1]; exact hx) (eRune_ok _ m (3 + n + 1) _ hBa (by omega) rfl hw))
            simpa [Alone] using this
  by_cases hb : r[1].toNat = 98
  · rcases braced_total r hs h2 2 (by omega) with ⟨e0, he, hB⟩ | ⟨n, m, hn0, hn2, hl, hm, hB, hBa⟩
    · exact bad e0 he (esc_b r 0 0 0 0 ⟨#[]⟩ 0 e0 h2 hb (eStray_err r 0 0 e0 hB he))
    · by_cases hh : m < 128
      · exact bad 41 (by decide) (esc_b r 0 0 0 0 ⟨#[]⟩ 0 41 h2 hb (eStray_low r m _ hB (by omega)))
      · have hm2 : m ≤ 255 := by
          have : 16 ^ n ≤ 16 ^ 2 := Nat.pow_le_pow_right (by omega) hn2
          omega
        have hz := ext0_size r hl
        have ha0 := ext0_at r (i := 0) hl (by omega)
        have ha1 := ext0_at r (i := 1) hl (by omega)
        refine .inr ⟨1, 3 + n + 1, 1114112 + m, ⟨#[]⟩, 0, ?_, by omega, hl, .inr ?_⟩
        · have := first_esc r fresh 1 0 (3 + n + 1) (1114112 + m) ⟨#[]⟩ 0 0 h0 h92 (esc_b r 1 0 (3 + n + 1) (1114112 + m) ⟨#[]⟩ 0 0 h2 hb (eStray_ok r m (3 + n + 1) hB (by omega) (by omega)))
          simpa using this
        · have := first_esc (r.extract 0 (3 + n + 1)) true 1 0 (3 + n + 1) (1114112 + m) ⟨#[]⟩ 0 0 (by omega) (by rw [ha0]; exact h92) (esc_b _ 1 0 (3 + n + 1) (1114112 + m) ⟨#[]⟩ 0 0 (by omega) (by rw [ha1]; exact hb) (eStray_ok _ m (3 + n + 1) hBa (by omega) (by omega)))
          simpa [Alone] using this
  by_cases hlo : r[1].toNat < 32
  · exact bad 41 (by decide) (esc_low r h2 hx hb hlo)
  by_cases hhi : 126 < r[1].toNat
  · exact bad 41 (by decide) (esc_high r h2 hx hb hhi)
  cases hlt : isLt r[1]
  · cases hdg : isDg r[1]
    · have hz := ext0_size r h2
      have ha0 := ext0_at r (i := 0) h2 (by omega)
      have ha1 := ext0_at r (i := 1) h2 (by omega)
      refine .inr ⟨1, 2, r[1].toNat, ⟨#[]⟩, 0, first_esc r fresh 1 0 2 _ ⟨#[]⟩ 0 0 h0 h92 (esc_ok r h2 hx hb (by omega) (by omega) hlt hdg), by omega, h2, .inr ?_⟩
      have := esc_ok (r.extract 0 2) (by omega) (by rw [ha1]; exact hx) (by rw [ha1]; exact hb) (by rw [ha1]; omega) (by rw [ha1]; omega) (by rw [ha1]; exact hlt) (by rw [ha1]; exact hdg)
      rw [ha1] at this
      exact first_esc (r.extract 0 2) true 1 0 2 _ ⟨#[]⟩ 0 0 (by omega) (by rw [ha0]; exact h92) this
    · exact bad 41 (by decide) (esc_digit r h2 hx hb (by omega) (by omega) hlt hdg)
  · exact bad 41 (by decide) (esc_letter r h2 hx hb (by omega) (by omega) hlt)
end Go.Proofs
