/-
  A written unit is told, with a gap behind it.
-/
import Derived.Shelf.Abstract
import Derived.Shelf.RegionOpen
import Derived.WalkKit
import Derived.WalkSpells
import Derived.WalkLawsBesides
import Derived.BigQuiet
import Derived.Deep.QuietTactic
import Derived.Deep.LoopGhost
import Derived.Lib.OthersKept
import Derived.ScopeJumps
import Derived.WalkMore
import Derived.Maps.AppendAt
import Derived.Lib.SmallJoins
import Derived.Laws.RangeString
import Derived.Test.YthjjkenmlkekbaaDoorRf
namespace Go.Proofs
open Go.RowKit Go.Shelf

set_option maxRecDepth 100000
attribute [local go_sem] Oper.semAt_some

theorem tells_braces (r : ByteArray) (k : UInt8) (H T : List UInt8) (most : Nat) (hs : r.size ≤ maxLen) (hr : r.data.toList = 92 :: k :: 123 :: (H ++ 125 :: T)) (h6 : most ≤ 6) (h0 : 0 < H.length) (hm : H.length ≤ most) (hx : ∀ x ∈ H, isHx x = true) :
    BTells r most (valH H) (3 + H.length + 1) 0 := fun w => by
  have hz := size_list hr
  simp at hz
  obtain ⟨h2, e2⟩ := get_list hr (i := 2) (b := 123) rfl
  have hsp : spanN isHx (r.extract 3 r.size).data.toList = H.length := by
    rw [ext_drop, hr]
    exact span_app isHx H 125 T hx (by decide)
  have he : (r.extract (3 + H.length) r.size).data.toList = 125 :: T := by
    rw [ext_drop, hr, Nat.add_comm]
    simp
  obtain ⟨h3, e3⟩ := get_list he (i := 0) (b := 125) rfl
  exact braced_ok r most _ H.length w hs h6 (by omega) (by rw [e2]; rfl) hsp rfl hm h0 (empty_no h3) h3 (by rw [e3]; rfl) (valH H) (by rw [ext_list, hr]; simp)
theorem tells_hex (r : ByteArray) (fresh : Bool) (T : List UInt8) (u : Nat) (hs : r.size ≤ maxLen) (hr : r.data.toList = 92 :: 120 :: 123 :: (hexU u ++ 125 :: T)) (hu : u ≤ 1114111) (hwd : wd u ≠ 0) :
    Tells 25 #[.string r, .bool fresh] 1 0 (((hexU u).length + 4 : Nat) : Int) u ⟨#[]⟩ 0 0 := by
  have hl : (hexU u).length ≤ 6 := by have := hexF_len 6 u; simpa [hexU, Lib.toUpperA] using this
  have hz := size_list hr
  simp at hz
  have hB := tells_braces r 120 (hexU u) T 6 hs hr (by omega) (hex_pos u) hl (all_hex 6 u)
  rw [show valH (hexU u) = u from val_hex 5 u (Nat.lt_of_le_of_lt hu (by decide))] at hB
  obtain ⟨h1, e1⟩ := get_list hr (i := 0) (b := 92) rfl
  obtain ⟨h2, e2⟩ := get_list hr (i := 1) (b := 120) rfl
  refine first_esc r fresh _ _ _ _ _ _ _ h1 (by rw [e1]; rfl) (esc_x _ 1 0 _ u ⟨#[]⟩ 0 0 (by omega) (by rw [e2]; rfl) ?_)
  have := eRune_ok r u (3 + (hexU u).length + 1) _ hB (by omega) rfl hwd
  rwa [show ((3 : Int) + ((hexU u).length : Int) + 1) = (((hexU u).length + 4 : Nat) : Int) by omega] at this
theorem tells_stray (r : ByteArray) (fresh : Bool) (T : List UInt8) (b : Nat) (hs : r.size ≤ maxLen) (hr : r.data.toList = 92 :: 98 :: 123 :: (hexU b ++ 125 :: T)) (hb1 : 128 ≤ b) (hb2 : b ≤ 255) :
    Tells 25 #[.string r, .bool fresh] 1 0 (((hexU b).length + 4 : Nat) : Int) ((b : Int) + 1114112) ⟨#[]⟩ 0 0 := by
  have hl := hex_two b (by omega) (by omega)
  have hz := size_list hr
  simp at hz
  have hB := tells_braces r 98 (hexU b) T 2 hs hr (by omega) (by omega) (by omega) (all_hex 6 b)
  rw [show valH (hexU b) = b from val_hex 5 b (Nat.lt_of_le_of_lt hb2 (by decide))] at hB
  obtain ⟨h1, e1⟩ := get_list hr (i := 0) (b := 92) rfl
  obtain ⟨h2, e2⟩ := get_list hr (i := 1) (b := 98) rfl
  refine first_esc r fresh _ _ _ _ _ _ _ h1 (by rw [e1]; rfl) (esc_b _ 1 0 _ _ ⟨#[]⟩ 0 0 (by omega) (by rw [e2]; rfl) ?_)
  have := eStray_ok r b (3 + (hexU b).length + 1) hB (by omega) (by omega)
  rwa [show ((3 : Int) + ((hexU b).length : Int) + 1) = (((hexU b).length + 4 : Nat) : Int) by omega, show (1114112 : Int) + (b : Int) = (b : Int) + 1114112 by omega] at this
theorem tells_esc (r : ByteArray) (fresh : Bool) (T : List UInt8) (u : Nat) (hu : u < 128) (hr : r.data.toList = 92 :: UInt8.ofNat u :: T) (h : u = 32 ∨ rsv u = true) : Tells 25 #[.string r, .bool fresh] 1 0 2 u ⟨#[]⟩ 0 0 := by
  obtain ⟨f1, f2, f3, f4, f5, f6, f7⟩ := two_facts ⟨u, hu⟩ h
  simp only at f1 f2 f3 f4 f5 f6 f7
  obtain ⟨h1, e1⟩ := get_list hr (i := 0) (b := 92) rfl
  obtain ⟨h2, e2⟩ := get_list hr (i := 1) (b := UInt8.ofNat u) rfl
  have hE := esc_ok r h2 (by rw [e2]; omega) (by rw [e2]; omega) (by rw [e2]; omega) (by rw [e2]; omega) (by rw [e2]; exact f2) (by rw [e2]; exact f3)
  rw [e2, f1] at hE
  exact first_esc r fresh 1 0 2 u ⟨#[]⟩ 0 0 h1 (by rw [e1]; rfl) hE
theorem tells_plain (r : ByteArray) (fresh : Bool) (T : List UInt8) (c : UInt8) (u : Nat) (hs : r.size ≤ maxLen) (h : 33 ≤ u ∧ u ≤ 126) (hr : r.data.toList = UInt8.ofNat u :: c :: T) (hc : Gp c) (hrs : rsv u = false) : Tells 25 #[.string r, .bool fresh] 1 0 1 u ⟨#[]⟩ 0 0 := by
  obtain ⟨f1, _, f3, f4, f5, _, _, _⟩ := one_facts ⟨u, by omega⟩ h hrs
  simp only at f1 f3 f4 f5
  obtain ⟨h1, e1⟩ := get_list hr (i := 0) (b := UInt8.ofNat u) rfl
  have hcs := hc.cases
  have en : (UInt8.ofNat u).toNat = u := by simp; omega
  have hp : Lib.hasPrefix r.data.toList [91, 58] = false := by
    cases hh : Lib.hasPrefix r.data.toList [91, 58]
    · rfl
    · have := pre_two hh
      rw [hr] at this
      simp at this
      rw [this.2] at hcs
      revert hcs
      decide
  have he : endsB r = false := by
    unfold endsB
    rw [hr]
    have : Lib.hasPrefix (UInt8.ofNat u :: c :: T) [116, 104, 101, 110] = false := by
      cases hh : Lib.hasPrefix (UInt8.ofNat u :: c :: T) [116, 104, 101, 110]
      · rfl
      · exfalso
        simp [Lib.hasPrefix] at hh
        rw [← hh.2.1] at hcs
        revert hcs
        decide
    rw [this]
    rfl
  have hd : Utf8.decode r 0 = (u, 1) := by
    rw [decode_ascii r 0 h1 (by rw [e1]; omega), e1, en]
  have hf : firstU r = ((u : Int), 1) := by
    rw [firstU_at r h1, uAt_of_rune hd (by omega), show uw r 0 = 1 by unfold uw; rw [hd]]
    rfl
  have hb : Tells 45 #[.string r] 1 0 1 u ⟨#[]⟩ 0 0 := fun w => bare_ok r u 1 w hs hf (by omega) (by omega) (by omega) hrs
  cases fresh
  · exact first_bare r false 1 0 1 u ⟨#[]⟩ 0 0 hs h1 (by rw [e1]; exact f1) hp (by rw [e1]; exact f3) (by rw [e1]; exact f4) (by rw [e1]; exact f5) rfl hb
  · exact first_bare2 r 1 0 1 u ⟨#[]⟩ 0 0 hs h1 (by rw [e1]; exact f1) hp (by rw [e1]; exact f3) (by rw [e1]; exact f4) (by rw [e1]; exact f5) he hb
end Go.Proofs
