/-
  Several texts in one (Pob Tab Kab).
-/
import Derived.Shelf.Abstract
import Derived.Shelf.RegionOpen
import Derived.WalkKit
import Derived.WalkSpells
import Derived.WalkLawsBesides
import Derived.BigQuiet
import Derived.Deep.QuietTactic
import Derived.Deep.LoopGhost
import Derived.Lib.OthersKept
import Derived.ScopeJumps
import Derived.WalkMore
import Derived.Maps.AppendAt
import Derived.Lib.SmallJoins
import Derived.Test.YtknaoahokopplaaGreatDoorMghb
import Derived.Barred
namespace Go.Proofs
open Go.RowKit Go.Shelf

set_option maxRecDepth 100000
attribute [local go_sem] Oper.semAt_some


theorem firstU_at (r : ByteArray) (h0 : 0 < r.size) : firstU r = ((uAt r 0 : Int), (uw r 0 : Int)) := by
  have hu : units r = (0, uAt r 0) :: unitsN r (r.size - 1) (0 + uw r 0) := by
    unfold units
    obtain ⟨k, hk⟩ : ∃ k, r.size = k + 1 := ⟨r.size - 1, by omega⟩
    have := unitsN_step r k 0 (by omega)
    rw [hk]
    simpa using this
  unfold firstU
  rw [hu]
  simp only
  rw [wd_uAt]
theorem alone_unit (r : ByteArray) (h0 : 0 < r.size) : firstU (r.extract 0 (uw r 0)) = ((uAt r 0 : Int), (uw r 0 : Int)) ∧ uw r 0 ≤ r.size ∧ 1 ≤ uw r 0 ∧ (r.extract 0 (uw r 0)).size = uw r 0 := by
  have hin := uw_in r 0 h0
  have hpos := uw_pos r 0
  have hle : uw r 0 ≤ r.size := by omega
  have hz := ext0_size r hle
  have hin2 := uw_in (r.extract 0 (uw r 0)) 0 (by omega)
  have := same_at (s := r) (t := r.extract 0 (uw r 0)) (p := 0) (r := 0) (fun k _ h2 => get_ext r 0 (uw r 0) (0 + k) (by omega) hle |>.trans (by rw [Nat.zero_add])) h0 (by omega) (by omega) (by omega)
  refine ⟨?_, hle, hpos, hz⟩
  rw [firstU_at _ (by omega), this.1, this.2]
end Go.Proofs
namespace Go.Proofs
open Go.RowKit Go.Shelf

set_option maxRecDepth 100000

theorem calls_one {P : Program} {f : FuncId} {args : Array Value} {w : World} {u v : Value} {p q : World → Prop} (hi : P.inits.idxOf? f = none)
    (h : Calls P f args w fun e w' => e = .returned u ∧ p w') (k : Calls P f args w fun e w' => e = .returned v ∧ q w') : u = v := by
  obtain ⟨n, a, wa, h1, h2⟩ := Calls.done (R := fun a w' => a = u ∧ p w') (h.mono (fun e w' hh => by obtain ⟨rfl, hp⟩ := hh; exact ⟨rfl, hp⟩)) hi
  obtain ⟨m, b, wb, k1, k2⟩ := Calls.done (R := fun a w' => a = v ∧ q w') (k.mono (fun e w' hh => by obtain ⟨rfl, hp⟩ := hh; exact ⟨rfl, hp⟩)) hi
  have e := runN_same_end h1 k1
  injection e with e
  rw [← h2.1, ← k2.1, e]
theorem init47 : Tryz.prog.inits.idxOf? 47 = none := by kernel_rfl
theorem w0 : Nonempty World := ⟨default⟩
theorem Tells.one {args : Array Value} {k a l u : Int} {t : ByteArray} {n e : Int} {k' a' l' u' : Int} {t' : ByteArray} {n' e' : Int} (h : Tells 47 args k a l u t n e) (h2 : Tells 47 args k' a' l' u' t' n' e') :
    k = k' ∧ a = a' ∧ l = l' ∧ u = u' ∧ t = t' ∧ n = n' ∧ e = e' := by
  obtain ⟨w⟩ := w0
  have e := calls_one init47 (h w) (h2 w)
  simp at e
  obtain ⟨⟨e1, e2, e3, e4, e5, e6⟩, e7⟩ := e
  exact ⟨e1, e2, e3, e4, e5, e6, e7⟩
end Go.Proofs
namespace Go.Proofs
open Go.RowKit Go.Shelf

set_option maxRecDepth 100000
attribute [local go_sem] Oper.semAt_some

set_option maxHeartbeats 1000000 in
theorem rnamed_any (b : UInt8) (w : World) : Calls Tryz.prog 123 #[.int .u8 b.toNat] w fun e w' => e = .returned (.bool (isNm b)) ∧ w' = w := by
  go_enter Tryz.func123, Tryz.ntmps123
  go_wp2
  all_goals (go_ret; refine ⟨?_, rfl⟩; simp [isNm, isLt, isDg]; first | done | omega | (try rw [Bool.eq_iff_iff]; simp; omega))
set_option maxHeartbeats 1000000 in
theorem rname_any (s : ByteArray) (p : Nat) (w : World) (hs : s.size ≤ 1000000) (hp : p ≤ s.size) :
    Calls Tryz.prog 77 #[.string s, .int .i64 p] w fun e w' => e = .returned (.int .i64 (spanN isNm (s.data.toList.drop p))) ∧ w' = w := by
  obtain ⟨n, hn⟩ : ∃ n, s.size = n := ⟨_, rfl⟩
  have hp' : p ≤ n := by omega
  have hm : n ≤ 1000000 := by omega
  obtain ⟨q, hq⟩ : ∃ q, spanN isNm (s.data.toList.drop p) = q := ⟨_, rfl⟩
  rw [hq]
  have HQ : Hid (q = spanN isNm (s.data.toList.drop p)) := hq.symm
  clear hq hs hp
  go_enter Tryz.func77, Tryz.ntmps77
  go_wp2
  go_loopw [5] (fun vi wr => ∃ k : Nat, vi = .int .i64 k ∧ p + k ≤ n ∧ Hid (q = k + spanN isNm (s.data.toList.drop (p + k))) ∧ wr = w) (fun vi _ => n - (intOf vi).toNat)
  case atStart => exact ⟨0, rfl, by omega, by show _ = _; rw [Nat.zero_add]; exact HQ.out, rfl⟩
  case round =>
    obtain ⟨k, rfl, hk, hS, rfl⟩ := hrel
    clear HQ
    have hpI : (p : Int) ≤ 1000000 := by omega
    have hkI : (k : Int) ≤ 1000000 := by omega
    have hp0 : (0 : Int) ≤ (p : Int) := by omega
    have hk0 : (0 : Int) ≤ (k : Int) := by omega
    by_cases hlt : p + k < n
    · have hlt' : (p : Int) + (k : Int) < (n : Int) := by omega
      have hks : p + k < s.size := by omega
      have HD := drop_at hks
      have hS2 := hS.out
      rw [HD, spanN_cons] at hS2
      cases hb : isNm s[p + k]
      · rw [hb] at hS2
        have HS : Hid (q = k) := by show _ = _; simpa using hS2
        clear hS hS2 HD
        go_wp2_with (go_at_call 123; refine (rnamed_any _ _).mono ?_; rintro e w' ⟨rfl, rfl⟩; rw [hb])
        go_ret
        exact ⟨by rw [HS.out]; rfl, rfl⟩
      · rw [hb] at hS2
        have HS : Hid (q = (k + 1) + spanN isNm (s.data.toList.drop (p + (k + 1)))) := by
          show _ = _
          rw [hS2, ← Nat.add_assoc]; simp; omega
        clear hS hS2 HD
        go_wp2_with (go_at_call 123; refine (rnamed_any _ _).mono ?_; rintro e w' ⟨rfl, rfl⟩; rw [hb])
        exact ⟨⟨k + 1, by go_num, by omega, HS, (by first | rfl | trivial)⟩, by simp [intOf]; omega⟩
    · have hkn : p + k = n := by omega
      have HS : Hid (q = k) := by
        have := hS.out
        rw [List.drop_of_length_le (by simp; omega), spanN_nil] at this
        show _ = _
        omega
      clear hS
      go_wp2
      go_ret
      exact ⟨by rw [HS.out]; rfl, rfl⟩
set_option maxHeartbeats 2000000 in
theorem rover_any (s : ByteArray) (p : Nat) (w : World) (hs : s.size ≤ maxLen) (hp : p ≤ s.size) :
    Calls Tryz.prog 44 #[.string s, .int .i64 p] w fun e w' => e = .returned (.int .i64 (p + pastN false (s.data.toList.drop p) : Nat)) ∧ w' = w := by
  obtain ⟨n, hn⟩ : ∃ n, s.size = n := ⟨_, rfl⟩
  have hm : n ≤ 9223372036854775807 := by rw [← hn]; exact hs
  obtain ⟨q, hq⟩ : ∃ q, p + pastN false (s.data.toList.drop p) = q := ⟨_, rfl⟩
  have HQ : Hid (q = p + pastN false (s.data.toList.drop p)) := hq.symm
  rw [hq]
  have hp' : p ≤ n := by omega
  clear hs hq hp
  go_enter Tryz.func44, Tryz.ntmps44
  go_wp2
  go_loopw [1] (fun vi wr => ∃ k : Nat, vi = .int .i64 k ∧ k ≤ n ∧ Hid (q = k + pastN false (s.data.toList.drop k)) ∧ wr = w) (fun vi _ => n - (intOf vi).toNat)
  case atStart => exact ⟨p, rfl, by omega, HQ, rfl⟩
  case round =>
    obtain ⟨k, rfl, hk, hS, rfl⟩ := hrel
    clear HQ
    by_cases hlt : k < n
    · have hlt' : (k : Int) < (n : Int) := by omega
      have hks : k < s.size := by omega
      have HD := drop_at hks
      have hS2 := hS.out
      rw [HD] at hS2
      by_cases hws : isWs s[k] = true
      · rw [pastN_ws hws] at hS2
        have HS : Hid (q = (k + 1) + pastN false (s.data.toList.drop (k + 1))) := by show _ = _; omega
        have hws' : s[k].toNat = 32 ∨ s[k].toNat = 9 ∨ s[k].toNat = 10 ∨ s[k].toNat = 13 := by simpa [isWs, or_assoc] using hws
        clear hS hS2 HD hws
        rcases hws' with e | e | e | e
        all_goals
          go_wp2
          exact ⟨⟨k + 1, by go_num, by omega, HS, (by first | rfl | trivial)⟩, by simp [intOf]; omega⟩
      · have hws0 : isWs s[k] = false := by simpa using hws
        obtain ⟨n32, n9, n10, n13⟩ : s[k].toNat ≠ 32 ∧ s[k].toNat ≠ 9 ∧ s[k].toNat ≠ 10 ∧ s[k].toNat ≠ 13 := by simpa [isWs, and_assoc] using hws0
        by_cases hsh : s[k].toNat = 35
        · rw [pastN_sharp hsh, ← HD] at hS2
          have HS : Hid (q = k + pastN true (s.data.toList.drop k)) := hS2
          have HK : Hid (s[k].toNat = 35) := hsh
          clear hS hS2 HD hws hws0
          go_wp2
          go_loopw [1] (fun vi wx => ∃ m : Nat, vi = .int .i64 m ∧ k ≤ m ∧ m ≤ n ∧ Hid (q = m + pastN true (s.data.toList.drop m)) ∧ wx = wr) (fun vi _ => n - (intOf vi).toNat)
          case atStart => exact ⟨k, rfl, by omega, by omega, HS, rfl⟩
          case round =>
            obtain ⟨m, rfl, hkm, hmn, hS3, rfl⟩ := hrel
            clear HS
            by_cases hlt2 : m < n
            · have hlt2' : (m : Int) < (n : Int) := by omega
              have hms : m < s.size := by omega
              have hS4 := hS3.out
              rw [drop_at hms] at hS4
              by_cases h10 : s[m].toNat = 10
              · rw [pastN_nl h10, ← drop_at hms] at hS4
                have HS : Hid (q = m + pastN false (s.data.toList.drop m)) := hS4
                have hne : k ≠ m := by rintro rfl; have := HK.out; omega
                clear hS3 hS4
                go_wp2
                exact ⟨⟨m, by go_num, by omega, HS, (by first | rfl | trivial)⟩, by simp [intOf]; omega⟩
              · rw [pastN_in h10] at hS4
                have HS : Hid (q = (m + 1) + pastN true (s.data.toList.drop (m + 1))) := by show _ = _; omega
                clear hS3 hS4
                go_wp2
                exact ⟨⟨m + 1, by go_num, by omega, by omega, HS, (by first | rfl | trivial)⟩, by simp [intOf]; omega⟩
            · have hmn' : m = n := by omega
              subst hmn'
              have HS : Hid (q = m + pastN false (s.data.toList.drop m)) := by
                have := hS3.out
                rw [List.drop_of_length_le (by simp; omega)] at this ⊢
                exact this
              clear hS3
              go_wp2
              exact ⟨⟨m, by go_num, by omega, HS, (by first | rfl | trivial)⟩, by simp [intOf]; omega⟩
        · rw [pastN_stop hws0 hsh] at hS2
          have HS : Hid (q = k) := hS2
          clear hS hS2 HD hws hws0
          go_wp2
          try rw [Exit.noGoto_ret]
          go_ret
          exact ⟨by rw [HS.out]; rfl, rfl⟩
    · have HS : Hid (q = k) := by
        have := hS.out
        rw [List.drop_of_length_le (by simp; omega)] at this
        exact this
      clear hS
      go_wp2
      try rw [Exit.noGoto_ret]
      go_ret
      exact ⟨by rw [HS.out]; rfl, rfl⟩
end Go.Proofs
