/-
  Every thing is written and told.
-/
import Derived.Shelf.Abstract
import Derived.Shelf.RegionOpen
import Derived.WalkKit
import Derived.WalkSpells
import Derived.WalkLawsBesides
import Derived.BigQuiet
import Derived.Deep.QuietTactic
import Derived.Deep.LoopGhost
import Derived.Lib.OthersKept
import Derived.ScopeJumps
import Derived.WalkMore
import Derived.Maps.AppendAt
import Derived.Lib.SmallJoins
import Derived.Test.YthjjkenmlkekbaaDoorRg
namespace Go.Proofs
open Go.RowKit Go.Shelf

set_option maxRecDepth 100000
attribute [local go_sem] Oper.semAt_some

/-- a text that is told as one token if a gap stands behind it -/
def Told (s : ByteArray) (k u : Int) (t : ByteArray) (n : Int) : Prop := 0 < s.size ∧ s.size ≤ 36 ∧ (∀ L, pastN false (s.data.toList ++ L) = 0) ∧
  ∀ (r : ByteArray) (fresh : Bool) (c : UInt8) (T : List UInt8), r.size ≤ maxLen → r.data.toList = s.data.toList ++ c :: T → Gp c → Tells 25 #[.string r, .bool fresh] k 0 (s.size : Int) u t n 0
theorem told_var (L : List UInt8) (hL : ∀ x ∈ L, isNm x = true) (h0 : 0 < L.length) (h32 : L.length ≤ 32) : Told ⟨(36 :: L).toArray⟩ 2 0 ⟨(36 :: L).toArray⟩ 0 := by
  have hz : (⟨(36 :: L).toArray⟩ : ByteArray).size = L.length + 1 := by simp [ByteArray.size]
  refine ⟨by omega, by omega, fun M => by simp [pastN, isWs], fun r fresh c T hs hr hc => ?_⟩
  rw [hz]
  exact tells_var r fresh L T c hs (by rw [hr]; simp) hc hL h0 h32
theorem told_class (L : List UInt8) (hL : ∀ x ∈ L, isNm x = true) (h0 : 0 < L.length) (h32 : L.length ≤ 32) : Told ⟨(91 :: 58 :: L ++ [58, 93]).toArray⟩ 2 0 ⟨(58 :: L ++ [58]).toArray⟩ 0 := by
  have hz : (⟨(91 :: 58 :: L ++ [58, 93]).toArray⟩ : ByteArray).size = L.length + 4 := by simp [ByteArray.size]
  refine ⟨by omega, by omega, fun M => by simp [pastN, isWs], fun r fresh c T hs hr hc => ?_⟩
  rw [hz]
  exact tells_class r fresh L (c :: T) hs (by rw [hr]; simp) hL h0 h32
theorem told_copy (m : Nat) (hm0 : 0 < m) (hm : m < 1000000000) : Told ⟨(64 :: decF 9 m).toArray⟩ 3 0 ⟨#[]⟩ (m : Int) := by
  have hz : (⟨(64 :: decF 9 m).toArray⟩ : ByteArray).size = (decF 9 m).length + 1 := by simp [ByteArray.size]
  have hl := decF_len 9 m
  refine ⟨by omega, by omega, fun M => by simp [pastN, isWs], fun r fresh c T hs hr hc => ?_⟩
  rw [hz]
  exact tells_copy r fresh m T c hs hm0 hm (by rw [hr]; simp) hc
theorem sgn_past : ∀ i : Fin 13, isWs (sgnL.getD i.val 0) = false ∧ (sgnL.getD i.val 0).toNat ≠ 35 := by decide +kernel
theorem told_sign (i : Nat) (h13 : i < 13) : Told (signB (10 + (i : Int))) (10 + i) 0 ⟨#[]⟩ 0 := by
  have e : signB (10 + (i : Int)) = ⟨#[sgnL.getD i 0]⟩ := by
    unfold signB
    rw [if_pos (by omega), show (10 + (i : Int) - 10).toNat = i by omega]
  obtain ⟨p1, p2⟩ := sgn_past ⟨i, h13⟩
  rw [e]
  refine ⟨by show 0 < 1; omega, by show 1 ≤ 36; omega, fun M => pastN_stop p1 p2 M, fun r fresh c T hs hr hc => ?_⟩
  exact tells_sign r fresh i h13 T c hs hr hc
theorem plain_past : ∀ u : Fin 128, 33 ≤ u.val ∧ u.val ≤ 126 → rsv u.val = false → isWs (UInt8.ofNat u.val) = false ∧ (UInt8.ofNat u.val).toNat ≠ 35 := by decide +kernel
theorem told_unit (m : Nat) (hm : m < 1112192) : ∃ (s : ByteArray) (e : Int), Hid (∀ w, Tab w → Calls Tryd.prog 8 #[.int .i64 (unitOf m)] w fun x w' => x = .returned (.tuple #[.string s, .int .i64 e]) ∧ Below w.heap.size w w') ∧ Told s 1 (unitOf m) ⟨#[]⟩ 0 := by
  have hw := unitOf_wd m hm
  obtain ⟨u, hu⟩ : ∃ u : Int, ((unitOf m : Nat) : Int) = u := ⟨_, rfl⟩
  rw [hu] at hw ⊢
  clear hu
  have hur : (1114240 ≤ u ∧ u ≤ 1114367) ∨ (0 ≤ u ∧ u ≤ 1114111) := by
    apply Classical.byContradiction
    intro h
    exact hw (wd_no (by omega) (by omega))
  have bz : ∀ (k : UInt8) (H : List UInt8), (brS k H).data.toList = 92 :: k :: 123 :: (H ++ [125]) := fun k H => rfl
  rcases hur with h | h
  · obtain ⟨b, rfl⟩ : ∃ b : Nat, u = (b : Int) + 1114112 := ⟨(u - 1114112).toNat, by omega⟩
    have hb1 : 128 ≤ b := by omega
    have hb2 : b ≤ 255 := by omega
    have es := brS_eq 92 98 98 123 (hexU b) rfl rfl rfl
    have hl := hex_two b (by omega) (by omega)
    refine ⟨_, 0, fun w hT => write_stray b w hT hb1 hb2, ?_⟩
    rw [show hexB b = ⟨(hexU b).toArray⟩ from rfl, es]
    refine ⟨by rw [brS_size]; omega, by rw [brS_size]; omega, fun M => by rw [bz]; simp [pastN, isWs], fun r fresh c T hs hr hc => ?_⟩
    rw [brS_size]
    exact tells_stray r fresh (c :: T) b hs (by rw [hr, bz]; simp) hb1 hb2
  · obtain ⟨v, rfl⟩ : ∃ v : Nat, u = (v : Int) := ⟨u.toNat, by omega⟩
    have hv : v ≤ 1114111 := by omega
    by_cases hx : v < 32 ∨ 126 < v
    · have es := brS_eq 92 120 120 123 (hexU v) rfl rfl rfl
      have hr : rsv v = false := by
        cases hc : rsv v
        · rfl
        · have := rsv_in hc; omega
      have hl : (hexU v).length ≤ 6 := by have := hexF_len 6 v; simpa [hexU, Lib.toUpperA] using this
      refine ⟨_, 0, fun w hT => write_hex v _ w hT rfl hw hv hr hx, ?_⟩
      rw [show hexB v = ⟨(hexU v).toArray⟩ from rfl, es]
      refine ⟨by rw [brS_size]; omega, by rw [brS_size]; omega, fun M => by rw [bz]; simp [pastN, isWs], fun r fresh c T hs hr hc => ?_⟩
      rw [brS_size]
      exact tells_hex r fresh (c :: T) v hs (by rw [hr, bz]; simp) hv hw
    · by_cases h32 : v = 32
      · subst h32
        refine ⟨_, 0, fun w _ => write_blank w, ?_⟩
        refine ⟨by decide, by decide, fun M => by simp [pastN, isWs], fun r fresh c T hs hr hc => ?_⟩
        exact tells_esc r fresh (c :: T) 32 (by omega) hr (.inl rfl)
      · cases hr : rsv v
        · obtain ⟨p1, p2⟩ := plain_past ⟨v, by omega⟩ (by show 33 ≤ v ∧ v ≤ 126; omega) hr
          refine ⟨_, 0, fun w _ => write_plain v w (by omega) hr, ?_⟩
          refine ⟨by show 0 < 1; omega, by show 1 ≤ 36; omega, fun M => pastN_stop p1 p2 M, fun r fresh c T hs hr' hc => ?_⟩
          exact tells_plain r fresh T c v hs (by omega) hr' hc hr
        · refine ⟨_, 0, fun w _ => write_esc v w (by omega) hr, ?_⟩
          refine ⟨by show 0 < 2; omega, by show 2 ≤ 36; omega, fun M => by show pastN false (92 :: UInt8.ofNat v :: M) = 0; simp [pastN, isWs], fun r fresh c T hs hr' hc => ?_⟩
          exact tells_esc r fresh (c :: T) v (by omega) hr' (.inr hr)
/-- every thing is written and told -/
theorem told_thing (kd nn : Int) (s : ByteArray) (hs : s.size ≤ 9223372036854775807) : ∃ (r : ByteArray) (k u : Int) (t : ByteArray) (n : Int), Writes15 (thing kd nn s) r k u t n ∧ Told r k u t n := by
  have h1 := Int.emod_nonneg kd (show (6 : Int) ≠ 0 by decide)
  have h2 := Int.emod_lt_of_pos kd (show (0 : Int) < 6 by decide)
  obtain ⟨f1, f2, f3⟩ := nameL_facts s.data.toList
  have hcs : (kd % 6 = 0 ∨ kd % 6 = 1) ∨ kd % 6 = 2 ∨ kd % 6 = 3 ∨ kd % 6 = 4 ∨ kd % 6 = 5 := by omega
  rcases hcs with h | h | h | h | h
  · obtain ⟨m, hm, hu⟩ := unitR_any nn
    obtain ⟨r, e, hw, ht⟩ := told_unit m hm
    exact ⟨r, 1, _, _, 0, written_unit kd nn s r _ e h hu hw, ht⟩
  · obtain ⟨i, hi⟩ : ∃ i : Nat, nn % 13 = (i : Int) := ⟨(nn % 13).toNat, by have := Int.emod_nonneg nn (show (13 : Int) ≠ 0 by decide); omega⟩
    have h13 := Int.emod_lt_of_pos nn (show (0 : Int) < 13 by decide)
    have := written_sign kd nn s h
    rw [hi] at this
    exact ⟨_, _, _, _, _, this, told_sign i (by omega)⟩
  · exact ⟨_, _, _, _, _, written_var kd nn s hs h, told_var _ f3 f1 f2⟩
  · exact ⟨_, _, _, _, _, written_class kd nn s hs h, told_class _ f3 f1 f2⟩
  · obtain ⟨i, hi⟩ : ∃ i : Nat, nn % 999999999 = (i : Int) := ⟨(nn % 999999999).toNat, by have := Int.emod_nonneg nn (show (999999999 : Int) ≠ 0 by decide); omega⟩
    have h13 := Int.emod_lt_of_pos nn (show (0 : Int) < 999999999 by decide)
    have := written_copy kd nn s i h hi
    exact ⟨_, _, _, _, _, this, told_copy (i + 1) (by omega) (by omega)⟩
end Go.Proofs
