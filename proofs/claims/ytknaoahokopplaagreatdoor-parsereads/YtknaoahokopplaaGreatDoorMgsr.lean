/-
  Several texts in one (Tcr Tdr Ter Tfr Jkr).
-/
import Derived.Test.YtknaoahokopplaaGreatDoorMgrr
import Derived.Test.YtknaoahokopplaaGreatDoorMgbr
import Derived.Test.YtknaoahokopplaaGreatDoorMger
import Derived.Shelf.Abstract
import Derived.WalkKit
import Derived.WalkSpells
import Derived.WalkLawsBesides
import Derived.BigQuiet
import Derived.Deep.QuietTactic
import Derived.Deep.LoopGhost
import Derived.Defers
import Derived.Recover
import Derived.WalkMore
namespace Go.Proofs
open Go.RowKit Go.Shelf

set_option maxRecDepth 100000

def Beg (r : ByteArray) (fresh : Bool) : Prop := (∃ e0, e0 ≠ 0 ∧ Tells 47 #[.string r, .bool fresh] 0 0 0 0 ⟨#[]⟩ 0 e0) ∨ (∃ k l u t n, TokS r.data.toList fresh k l u t n)
theorem beg_class (r : ByteArray) (hs : r.size ≤ maxLen) (h0 : 0 < r.size) (fresh : Bool) (h91 : r[0].toNat = 91) (hp : Lib.hasPrefix r.data.toList [91, 58] = true) : Beg r fresh := by
  have h2 : 2 ≤ r.size := by have := pre_len hp; simpa using this
  obtain ⟨n, hn⟩ : ∃ n, spanN isNm (r.extract 2 r.size).data.toList = n := ⟨_, rfl⟩
  obtain ⟨q, hq⟩ : ∃ q, r.extract (2 + n) r.size = q := ⟨_, rfl⟩
  have hle := span2_le r n h2 hn
  have hqz : q.size = r.size - (2 + n) := by rw [← hq, ext_size]
  have bad : ∀ e0 : Int, e0 ≠ 0 → Tells 89 #[.string r] 0 0 0 0 ⟨#[]⟩ 0 e0 → Beg r fresh := fun e0 he hT => .inl ⟨e0, he, first_class r fresh 0 0 0 0 ⟨#[]⟩ 0 e0 hs h0 h91 hp hT⟩
  by_cases h32 : 32 < n
  · exact bad 42 (by decide) (fun w => class_many r q n w hs h2 hn hq h32 rfl)
  have h32' : n ≤ 32 := by omega
  by_cases hqe : q.size = 0
  · exact bad 44 (by decide) (fun w => class_open1 r q n w hs h2 hn hq h32' rfl ((empty_iff q).2 hqe))
  have hqn := empty_no (r := q) (by omega)
  by_cases hn0 : n = 0
  · subst hn0
    refine bad 42 (by decide) (fun w => class_bad0 r q w hs h2 (by simpa using hq) ?_ rfl hqn)
    have : r.extract 2 r.size = q := by simpa using hq
    rw [← this]; exact hn
  by_cases hc : (q.toList == [58]) = true
  · exact bad 44 (by decide) (fun w => class_open2 r q n w hs h2 hn hq h32' rfl (by omega) hqn hc)
  have hc' : (q.toList == [58]) = false := by simpa using hc
  by_cases hp2 : Lib.hasPrefix q.data.toList [58, 93] = true
  · obtain ⟨a, b⟩ := (pre2_iff _ _ _).1 hp
    obtain ⟨c, d⟩ := (pre2_iff _ _ _).1 hp2
    rw [← hq, ext_drop, List.getElem?_drop] at c d
    rw [ext_drop] at hn
    exact .inr ⟨_, _, _, _, _, .cls n a b hn (by omega) h32' (by simpa using c) (by rw [show 3 + n = 2 + n + 1 by omega]; exact d)⟩
  · exact bad 42 (by decide) (fun w => class_bad1 r q n w hs h2 hn hq h32' (by simpa using hp2) (by omega) hqn hc')
theorem beg_copy (r : ByteArray) (hs : r.size ≤ maxLen) (h0 : 0 < r.size) (fresh : Bool) (h64 : r[0].toNat = 64) : Beg r fresh := by
  obtain ⟨n, hn⟩ : ∃ n, spanN isDg (r.extract 1 r.size).data.toList = n := ⟨_, rfl⟩
  have bad : Tells 90 #[.string r] 0 0 0 0 ⟨#[]⟩ 0 43 → Beg r fresh := fun hT => .inl ⟨43, by decide, first_copy r fresh 0 0 0 0 ⟨#[]⟩ 0 43 h0 h64 hT⟩
  by_cases hn0 : n = 0
  · subst hn0; exact bad (cop_zero r hs h0 hn)
  by_cases h9 : 9 < n
  · exact bad (cop_many r hs h0 n hn h9)
  have hle : 1 + n ≤ r.size := by
    have := spanN_le isDg (r.extract 1 r.size).data.toList
    rw [hn, ext_drop] at this
    simp at this
    omega
  have h1 : 1 < r.size := by omega
  by_cases hc : r[1].toNat = 48
  · exact bad (cop_nought r hs h0 n hn (by omega) (by omega) h1 hc)
  have hdg : ∀ c ∈ (r.data.toList.drop 1).take n, isDg c = true := by
    intro c hc
    rw [← hn, ext_drop] at hc
    exact take_span isDg _ c hc
  have hlen : ((r.data.toList.drop 1).take n).length = n := by
    rw [List.length_take, List.length_drop]
    simp
    omega
  obtain ⟨v, hv⟩ := int_ok ((r.data.toList.drop 1).take n) (by intro e; rw [e] at hlen; simp at hlen; omega) hdg (by omega)
  rw [ext_drop] at hn
  refine .inr ⟨_, _, _, _, _, .cpy n v (by rw [of_at r 0 h0]; exact congrArg some (UInt8.toNat_inj.1 h64)) hn (by omega) (by omega) ?_ hv⟩
  rw [of_at r 1 h1]
  intro e
  exact hc (by rw [Option.some.inj e]; rfl)
def BB (r : ByteArray) (most : Nat) : Prop := (∃ e0 : Int, e0 ≠ 0 ∧ BTells r most 0 0 e0) ∨ (∃ n m : Nat, 0 < n ∧ n ≤ most ∧ m < 16 ^ n ∧ BTells r most m (3 + n + 1) 0 ∧ r.data.toList[2]? = some 123 ∧ spanN isHx (r.data.toList.drop 3) = n ∧ r.data.toList[3 + n]? = some 125 ∧ valH ((r.data.toList.drop 3).take n) = m)
theorem braced_tot (r : ByteArray) (hs : r.size ≤ maxLen) (h2 : 2 ≤ r.size) (most : Nat) (h6 : most ≤ 6) : BB r most := by
  by_cases hz2 : r.size = 2
  · exact .inl ⟨44, by decide, fun w => braced_short r most w hz2⟩
  have h3 : 3 ≤ r.size := by omega
  by_cases hc : r[2].toNat = 123
  · obtain ⟨n, hn⟩ : ∃ n, spanN isHx (r.extract 3 r.size).data.toList = n := ⟨_, rfl⟩
    obtain ⟨q, hq⟩ : ∃ q, r.extract (3 + n) r.size = q := ⟨_, rfl⟩
    have hle := span3_le r n h3 hn
    have hqz : q.size = r.size - (3 + n) := by rw [← hq, ext_size]
    by_cases hm : most < n
    · exact .inl ⟨41, by decide, fun w => braced_many r most q n w hs h6 h3 hc hn hq hm⟩
    have hm' : n ≤ most := by omega
    by_cases hqe : q.size = 0
    · exact .inl ⟨44, by decide, fun w => braced_open r most q n w hs h6 h3 hc hn hq hm' ((empty_iff q).2 hqe)⟩
    have hqn := empty_no (r := q) (by omega)
    by_cases hn0 : n = 0
    · subst hn0
      have hq3 : r.extract 3 r.size = q := by simpa using hq
      exact .inl ⟨41, by decide, fun w => braced_zero r most q w hs h3 hc hq3 (by rw [← hq3]; exact hn) hqn⟩
    by_cases hc2 : (q[0]'(by omega)).toNat = 125
    · have hmid : (r.extract 3 (3 + n)).data.toList.length = n := by
        simp
        omega
      refine .inr ⟨n, valH (r.extract 3 (3 + n)).data.toList, by omega, hm', ?_, ?_, ?_, ?_, ?_, ?_⟩
      · have := valH_lt _ (span_all r n h3 hn)
        rwa [hmid] at this
      · exact fun w => braced_ok r most q n w hs h6 h3 hc hn hq hm' (by omega) hqn (by omega) hc2 _ rfl
      · rw [of_at r 2 (by omega)]; exact congrArg some (UInt8.toNat_inj.1 hc)
      · rw [ext_drop] at hn; exact hn
      · subst hq
        rw [ext_at0 (by omega)] at hc2
        rw [of_at r (3 + n) (by omega)]; exact congrArg some (UInt8.toNat_inj.1 hc2)
      · rw [ext_any, show 3 + n - 3 = n by omega]
    · exact .inl ⟨41, by decide, fun w => braced_nc r most q n w hs h6 h3 hc hn hq hm' (by omega) hqn (by omega) hc2⟩
  · exact .inl ⟨41, by decide, fun w => braced_nb r most w h3 hc⟩
theorem beg_esc (r : ByteArray) (hs : r.size ≤ maxLen) (h0 : 0 < r.size) (fresh : Bool) (h92 : r[0].toNat = 92) : Beg r fresh := by
  have bad : ∀ e0 : Int, e0 ≠ 0 → Tells 91 #[.string r] 0 0 0 0 ⟨#[]⟩ 0 e0 → Beg r fresh := fun e0 he hT => .inl ⟨e0, he, first_esc r fresh 0 0 0 0 ⟨#[]⟩ 0 e0 h0 h92 hT⟩
  by_cases h1 : r.size = 1
  · exact bad 44 (by decide) (esc_end r h1)
  have h2 : 2 ≤ r.size := by omega
  have a0 : r.data.toList[0]? = some 92 := by rw [of_at r 0 h0]; exact congrArg some (UInt8.toNat_inj.1 h92)
  by_cases hx : r[1].toNat = 120
  · have a1 : r.data.toList[1]? = some 120 := by rw [of_at r 1 h2]; exact congrArg some (UInt8.toNat_inj.1 hx)
    rcases braced_tot r hs h2 6 (by omega) with ⟨e0, he, hB⟩ | ⟨n, m, hn0, hn6, hm, hB, b1, b2, b3, b4⟩
    · exact bad e0 he (esc_x r 0 0 0 0 ⟨#[]⟩ 0 e0 h2 hx (eRune_err r 0 0 e0 hB he))
    · by_cases hh : 1114111 < m
      · exact bad 41 (by decide) (esc_x r 0 0 0 0 ⟨#[]⟩ 0 41 h2 hx (eRune_high r m _ hB (by omega)))
      · by_cases hw : wd m = 0
        · exact bad 41 (by decide) (esc_x r 0 0 0 0 ⟨#[]⟩ 0 41 h2 hx (eRune_no r m _ hB (by omega) hw))
        · exact .inr ⟨_, _, _, _, _, .esx n m a0 a1 b1 b2 hn0 hn6 b3 b4 (by omega) hw⟩
  by_cases hb : r[1].toNat = 98
  · have a1 : r.data.toList[1]? = some 98 := by rw [of_at r 1 h2]; exact congrArg some (UInt8.toNat_inj.1 hb)
    rcases braced_tot r hs h2 2 (by omega) with ⟨e0, he, hB⟩ | ⟨n, m, hn0, hn2, hm, hB, b1, b2, b3, b4⟩
    · exact bad e0 he (esc_b r 0 0 0 0 ⟨#[]⟩ 0 e0 h2 hb (eStray_err r 0 0 e0 hB he))
    · by_cases hh : m < 128
      · exact bad 41 (by decide) (esc_b r 0 0 0 0 ⟨#[]⟩ 0 41 h2 hb (eStray_low r m _ hB (by omega)))
      · have hm2 : m ≤ 255 := by
          have : 16 ^ n ≤ 16 ^ 2 := Nat.pow_le_pow_right (by omega) hn2
          omega
        exact .inr ⟨_, _, _, _, _, .esb n m a0 a1 b1 b2 hn0 hn2 b3 b4 (by omega) hm2⟩
  by_cases hlo : r[1].toNat < 32
  · exact bad 41 (by decide) (esc_low r h2 hx hb hlo)
  by_cases hhi : 126 < r[1].toNat
  · exact bad 41 (by decide) (esc_high r h2 hx hb hhi)
  cases hlt : isLt r[1]
  · cases hdg : isDg r[1]
    · exact .inr ⟨_, _, _, _, _, .esp r[1] a0 (of_at r 1 h2) hx hb (by omega) (by omega) hlt hdg⟩
    · exact bad 41 (by decide) (esc_digit r h2 hx hb (by omega) (by omega) hlt hdg)
  · exact bad 41 (by decide) (esc_letter r h2 hx hb (by omega) (by omega) hlt)
theorem beg_bare (r : ByteArray) (hs : r.size ≤ maxLen) (h0 : 0 < r.size) (fresh : Bool) (h36 : r[0].toNat ≠ 36) (hi : Lib.indexByte sgnL r[0] = -1) (h64 : r[0].toNat ≠ 64) (h92 : r[0].toNat ≠ 92) : Beg r fresh := by
  have h91 : r[0].toNat ≠ 91 := fun e => by
    have e2 : r[0] = 91 := UInt8.toNat_inj.1 e
    rw [e2] at hi
    revert hi
    decide +kernel
  have hp := noPre r h0 h91
  by_cases hth : fresh = true ∧ endsB r = true
  · obtain ⟨rfl, he⟩ := hth
    exact .inr ⟨_, _, _, _, _, .thn rfl (by rw [back_arr]; exact he)⟩
  have to25 : ∀ (k a l u : Int) (t : ByteArray) (n e0 : Int), Tells 93 #[.string r] k a l u t n e0 → Tells 47 #[.string r, .bool fresh] k a l u t n e0 := fun k a l u t n e0 hT => by
    cases fresh with
    | false => exact first_bare r false k a l u t n e0 hs h0 h36 hp hi h64 h92 rfl hT
    | true => exact first_bare2 r k a l u t n e0 hs h0 h36 hp hi h64 h92 (by simpa using hth) hT
  have hf := firstU_at r h0
  have bad : Tells 93 #[.string r] 0 0 0 0 ⟨#[]⟩ 0 40 → Beg r fresh := fun hT => .inl ⟨40, by decide, to25 0 0 0 0 ⟨#[]⟩ 0 40 hT⟩
  by_cases hlo : uAt r 0 < 32
  · exact bad (fun w => bare_low r (uAt r 0) _ w hs hf rfl hlo)
  by_cases h127 : uAt r 0 = 127
  · rw [h127] at hf
    exact bad (fun w => bare_127 r _ w hs hf rfl)
  by_cases hhi : 1114111 < uAt r 0
  · exact bad (fun w => bare_high r (uAt r 0) _ w hs hf rfl hhi)
  cases hr : rsv (uAt r 0)
  · exact .inr ⟨_, _, _, _, _, .bar r[0] (of_at r 0 h0) h36 hi h64 h92 (by rw [back_arr]; intro hf; simpa [hf] using hth) (by rw [back_arr]; omega) (by rw [back_arr]; exact h127) (by rw [back_arr]; omega) (by rw [back_arr]; exact hr)⟩
  · exact bad (fun w => bare_rsv r (uAt r 0) _ w hs hf hr (by omega) h127 (by omega))
theorem beg_total (r : ByteArray) (hs : r.size ≤ maxLen) (h0 : 0 < r.size) (fresh : Bool) : Beg r fresh := by
  obtain ⟨m, hm⟩ : ∃ m, spanN isNm (r.extract 1 r.size).data.toList = m := ⟨_, rfl⟩
  by_cases h36 : r[0].toNat = 36
  · have e : r[0] = 36 := UInt8.toNat_inj.1 h36
    have a0 : r.data.toList[0]? = some 36 := by rw [of_at r 0 h0]; exact congrArg some e
    by_cases hm0 : 0 < m
    · by_cases h32 : m ≤ 32
      · exact .inr ⟨_, _, _, _, _, .var m a0 (by rw [← ext_drop]; exact hm) hm0 h32⟩
      · exact .inl ⟨42, by decide, first_var r fresh 0 0 0 0 ⟨#[]⟩ 0 42 hs h0 m h36 hm hm0 (fun w => variable_bad r m w hs h0 hm (by omega))⟩
    · obtain rfl : m = 0 := by omega
      exact .inr ⟨_, _, _, _, _, .sgn 6 36 a0 (by decide +kernel) (fun h => absurd h (by decide)) (fun _ => by rw [← ext_drop]; exact hm)⟩
  cases hp : Lib.hasPrefix r.data.toList [91, 58]
  · rcases idx_sgn r[0] with hi | ⟨i, hi⟩
    · by_cases h64 : r[0].toNat = 64
      · exact beg_copy r hs h0 fresh h64
      · by_cases h92 : r[0].toNat = 92
        · exact beg_esc r hs h0 fresh h92
        · exact beg_bare r hs h0 fresh h36 hi h64 h92
    · refine .inr ⟨_, _, _, _, _, .sgn i r[0] (of_at r 0 h0) hi (fun h k => ?_) (fun h => absurd (by rw [h]; rfl) h36)⟩
      have := (pre2_iff r.data.toList 91 58).2 ⟨by rw [of_at r 0 h0, h], k⟩
      rw [hp] at this
      cases this
  · have h91 : r[0].toNat = 91 := by
      apply Classical.byContradiction
      intro h
      rw [noPre r h0 h] at hp
      cases hp
    exact beg_class r hs h0 fresh h91 hp
/-- what is told of a text's beginning is said by its bytes -/
theorem Tells.tokS {r : ByteArray} {fresh : Bool} {k : Int} {l : Nat} {u : Int} {t : ByteArray} {n : Int} (hs : r.size ≤ maxLen) (h0 : 0 < r.size) (h : Tells 47 #[.string r, .bool fresh] k 0 l u t n 0) : TokS r.data.toList fresh k l u t.data.toList n := by
  rcases beg_total r hs h0 fresh with ⟨e0, he, hT⟩ | ⟨k', l', u', t', n', hS⟩
  · exact absurd (h.one hT).2.2.2.2.2.2.symm he
  · obtain ⟨e1, _, e3, e4, e5, e6, _⟩ := h.one (hS.tells hs).1
    have e3' := Int.ofNat_inj.1 e3
    subst e1; subst e3'; subst e4; subst e5; subst e6
    simpa using hS
end Go.Proofs
namespace Go.Proofs
open Go.RowKit Go.Shelf

set_option maxRecDepth 100000

end Go.Proofs
namespace Go.Proofs
open Go.RowKit Go.Shelf

set_option maxRecDepth 100000

end Go.Proofs
namespace Go.Proofs
open Go.RowKit Go.Shelf

end Go.Proofs
namespace Go.Proofs
open Go.RowKit Go.Shelf

set_option maxRecDepth 100000
attribute [local go_sem] Oper.semAt_some

set_option maxHeartbeats 1000000 in
theorem catch_idle (p q : Addr) (w : World) :
    CallsD Tryz.prog 52 #[.pointer (some p), .pointer (some q)] .returning w fun e u' w' => e = .returned (.tuple #[]) ∧ u' = .returning ∧ w' = w := by
  refine callsD_of_wpS Tryz.func52 rfl fun c₀ cs hu => ?_
  apply wpS_seq
  apply wpS_region
  simp [wpOpsS, go_sem, recoverD, hu, Tryz.ntmps52, Exit.thenS]
  refine wpS_of_wp ?_
  go_wp2
  cases c₀
  simp_all [bodyPostS, results, Tryz.results52]
set_option maxHeartbeats 1000000 in
theorem catch_thrown (P Q : Nat) (v0 : Value) (a0 e0 a c : Int) (w : World) (hP : w.heap[P]? = some (.cells #[v0] 29 (0, 0))) (hQ : FB w Q a0 e0) (hPQ : P ≠ Q) :
    CallsD Tryz.prog 52 #[.pointer (some ⟨P, 0, none⟩), .pointer (some ⟨Q, 0, none⟩)] (.panicking [{ v := .iface 32 (.agg #[.int .i64 a, .int .i64 c]), recovered := false }]) w fun e u' w' =>
      e = .returned (.tuple #[]) ∧ u' = .panicking [{ v := .iface 32 (.agg #[.int .i64 a, .int .i64 c]), recovered := true }] ∧ w'.heap[P]? = some (.cells #[.slice none 0 0] 29 (0, 0)) ∧ FB w' Q a c ∧ Mv w w' P (some Q) := by
  refine callsD_of_wpS Tryz.func52 rfl fun c₀ cs hu => ?_
  apply wpS_seq
  apply wpS_region
  simp [wpOpsS, go_sem, recoverD, hu, Tryz.ntmps52, Exit.thenS]
  refine wpS_of_wp ?_
  have p0 : w.cell? ⟨P, 0, none⟩ = some v0 := by simp [World.cell?, hP]
  have p1 : w.frozen? ⟨P, 0, none⟩ = false := by simp [World.frozen?, hP]
  obtain ⟨q0, q1, q2, q3⟩ := hQ.cells
  have hta : ∀ (v : Value) (w : World), (Instr.typeAssert (.iface 32 v) 20 32 true).run Tryz.prog w = .ok (.tuple #[v, .bool true]) w := fun _ _ => by kernel_rfl
  have hPl : P < w.heap.size := (Array.getElem?_eq_some_iff.1 hP).1
  have hQl := hQ.lt
  go_wp2
  have hP2 : (w.alloc (.cells #[.int .i64 a, .int .i64 c] 32)).heap[P]? = some (.cells #[v0] 29 (0, 0)) := (Below.heap_alloc _ _ _ hPl).trans hP
  have hQ2 : FB (w.alloc (.cells #[.int .i64 a, .int .i64 c] 32)) Q a0 e0 := hQ.allocs _
  have hN : FB (w.alloc (.cells #[.int .i64 a, .int .i64 c] 32)) w.heap.size a c := FB.new _ _ _
  have hM : Mv w (w.alloc (.cells #[.int .i64 a, .int .i64 c] 32)) P (some Q) := (Mv.refl _ _ _).alloc _
  have hNP : w.heap.size ≠ P := by omega
  have hNQ : w.heap.size ≠ Q := by omega
  have hQP : Q ≠ P := fun e => hPQ e.symm
  have hPN : P ≠ w.heap.size := by omega
  have hQN : Q ≠ w.heap.size := by omega
  generalize w.alloc (.cells #[.int .i64 a, .int .i64 c] 32) = W at *
  generalize w.heap.size = N at *
  have p0 : W.cell? ⟨P, 0, none⟩ = some v0 := by simp [World.cell?, hP2]
  have p1 : W.frozen? ⟨P, 0, none⟩ = false := by simp [World.frozen?, hP2]
  obtain ⟨q0, q1, q2, q3⟩ := hQ2.cells
  obtain ⟨n0, n1, n2, n3⟩ := hN.cells
  have hfin : ((((W.setCell ⟨P, 0, none⟩ (.slice none 0 0)).setCell ⟨Q, 0, none⟩ (.int .i64 a)).setCell ⟨Q, 1, none⟩ (.int .i64 c)).drew).heap[P]? = some (.cells #[.slice none 0 0] 29 (0, 0)) ∧ FB ((((W.setCell ⟨P, 0, none⟩ (.slice none 0 0)).setCell ⟨Q, 0, none⟩ (.int .i64 a)).setCell ⟨Q, 1, none⟩ (.int .i64 c)).drew) Q a c ∧ Mv w ((((W.setCell ⟨P, 0, none⟩ (.slice none 0 0)).setCell ⟨Q, 0, none⟩ (.int .i64 a)).setCell ⟨Q, 1, none⟩ (.int .i64 c)).drew) P (some Q) := by
    have h1 : ((((W.setCell ⟨P, 0, none⟩ (.slice none 0 0)).setCell ⟨Q, 0, none⟩ (.int .i64 a)).setCell ⟨Q, 1, none⟩ (.int .i64 c))).heap[P]? = some (.cells #[.slice none 0 0] 29 (0, 0)) := by
      rw [heap_set_other _ hPQ, heap_set_other _ hPQ]
      exact cells_setS hP2
    have h2 : FB (((W.setCell ⟨P, 0, none⟩ (.slice none 0 0)).setCell ⟨Q, 0, none⟩ (.int .i64 a)).setCell ⟨Q, 1, none⟩ (.int .i64 c)) Q a c := FB.set (show FB (W.setCell ⟨P, 0, none⟩ (.slice none 0 0)) Q a0 e0 from (heap_set_other _ hQP _ _).trans hQ2) a c
    refine ⟨h1, h2, ?_⟩
    refine ⟨hM.os, hM.tape, hM.output, by simpa using hM.size, fun k k1 k2 k3 => ?_⟩
    have k4 : k ≠ Q := fun e => k3 (by rw [e])
    exact (heap_set_other _ k4 _ _).trans ((heap_set_other _ k4 _ _).trans ((heap_set_other _ k2 _ _).trans (hM.block k k1 k2 k3)))
  go_region
  all_goals exact ⟨rfl, _, rfl, .tuple #[], by simp [results, Tryz.f52], rfl, rfl, hfin⟩
end Go.Proofs
