/-
  Several texts in one (Kl Km Kn Ko).
-/
import Derived.Test.YtknaoahokopplaaGreatDoorMhbc
import Derived.Test.YtknaoahokopplaaGreatDoorKkc
import Derived.Test.YtknaoahokopplaaGreatDoorKhc
import Derived.Test.YtknaoahokopplaaGreatDoorKic
import Derived.Test.YtknaoahokopplaaGreatDoorKjc
import Derived.Test.YtknaoahokopplaaGreatDoorR5c
import Derived.Test.YtknaoahokopplaaGreatDoorKbc
import Derived.Test.YtknaoahokopplaaGreatDoorKdc
namespace Go.Proofs
open Go.RowKit Go.Shelf

set_option maxRecDepth 100000

/-- at a place of a text both refuse for the same reason, or both read the same token -/
def Both (s : ByteArray) (q : Nat) (fresh : Bool) : Prop :=
  (∃ e0 : Int, e0 ≠ 0 ∧ Tells 47 #[.string (s.extract q s.size), .bool fresh] 0 0 0 0 ⟨#[]⟩ 0 e0 ∧ Tells 45 #[.string s, .int .i64 q, .bool fresh] 0 0 0 0 ⟨#[]⟩ 0 e0) ∨
  (∃ (k : Int) (l : Nat) (u : Int) (t : ByteArray) (n : Int), Tells 47 #[.string (s.extract q s.size), .bool fresh] k 0 l u t n 0 ∧ Tells 45 #[.string s, .int .i64 q, .bool fresh] k q l u t n 0 ∧ 0 < l ∧ q + l ≤ s.size)
theorem both_runs (s : ByteArray) (hB : ∀ q fresh, q < s.size → pastN false (s.data.toList.drop q) = 0 → Both s q fresh) : ∀ (m p : Nat) (fresh : Bool), p ≤ s.size → s.size - p ≤ m → ∃ toks fa fe, Run s p fresh toks fa fe ∧ RRun s p fresh toks fa fe ∧ fa ≤ s.size := by
  intro m
  induction m with
  | zero =>
    intro p fresh hp hm
    obtain rfl : p = s.size := by omega
    exact ⟨[], 0, 0, .fin (by rw [List.drop_of_length_le (by simp)]; simp [pastN]), .fin (by rw [List.drop_of_length_le (by simp)]; simp [pastN]), by omega⟩
  | succ m ih =>
    intro p fresh hp hm
    obtain ⟨q, hq⟩ : ∃ q, q = p + pastN false (s.data.toList.drop p) := ⟨_, rfl⟩
    have hqle : q ≤ s.size := by
      have := pastN_le false (s.data.toList.drop p)
      simp at this
      omega
    by_cases hqs : q = s.size
    · exact ⟨[], 0, 0, .fin (by omega), .fin (by omega), by omega⟩
    have hlt : q < s.size := by omega
    have hpq := past_drop false (s.data.toList.drop p)
    rw [List.drop_drop, ← hq] at hpq
    rcases hB q fresh hlt hpq with ⟨e0, he, h1, h2⟩ | ⟨k, l, u, t, n, h1, h2, hl0, hl⟩
    · exact ⟨[], q, e0, .bad hq hlt h1 he, .bad hq hlt h2 he, hqle⟩
    · obtain ⟨toks, fa, fe, hR, hR2, hfa⟩ := ih (q + l) (decide (k = 11)) (by omega) (by omega)
      exact ⟨_, fa, fe, .step hq hlt h1 hl0 hl hR, .step hq hlt h2 hl0 hl hR2, hfa⟩
theorem ext_at0 {s : ByteArray} {q : Nat} (h : q < s.size) : (s.extract q s.size)[0]'(by rw [ByteArray.size_extract]; omega) = s[q] := by
  have h1 := drop_at (s := s.extract q s.size) (k := 0) (by rw [ByteArray.size_extract]; omega)
  rw [List.drop_zero, ext_drop, drop_at h] at h1
  exact (List.cons.inj h1).1.symm
theorem ext_tail (s : ByteArray) (q : Nat) : ((s.extract q s.size).extract 1 (s.extract q s.size).size).data.toList = s.data.toList.drop (q + 1) := by
  rw [ext_drop, ext_drop, List.drop_drop]
theorem ext_front (s : ByteArray) (q k : Nat) : (s.extract q s.size).extract 0 k = s.extract q (q + k) := by
  apply ByteArray.ext
  apply Array.toList_inj.1
  rw [ext_take, ext_drop]
  simp only [ByteArray.data_extract, Array.toList_extract, List.extract]
  rw [Nat.add_sub_cancel_left]
theorem both_sign (s : ByteArray) (hs : s.size ≤ 1000000) (q : Nat) (h : q < s.size) (fresh : Bool) (i : Nat) (hi : Lib.indexByte sgnL s[q] = (i : Int)) (hp : Lib.hasPrefix (s.data.toList.drop q) [91, 58] = false) (h36 : s[q].toNat ≠ 36) : Both s q fresh := by
  have hz : (s.extract q s.size).size = s.size - q := ext_size s q
  have hsm : (s.extract q s.size).size ≤ maxLen := by rw [hz]; unfold maxLen; omega
  have hb := (sgn_bound s[q]).1
  refine .inr ⟨10 + i, 1, 0, ⟨#[]⟩, 0, ?_, ?_, by omega, by omega⟩
  · exact first_sign _ fresh i hsm (by omega) (by rw [ext_at0 h]; exact h36) (by rw [ext_drop]; exact hp) (by rw [ext_at0 h]; exact hi)
  · exact rtok_sign s q i fresh hs h h36 hp hi (by omega)
theorem both_var (s : ByteArray) (hs : s.size ≤ 1000000) (q : Nat) (h : q < s.size) (fresh : Bool) (h36 : s[q].toNat = 36) (m : Nat) (hm : spanN isNm (s.data.toList.drop (q + 1)) = m) : Both s q fresh := by
  have hz : (s.extract q s.size).size = s.size - q := ext_size s q
  have hsm : (s.extract q s.size).size ≤ maxLen := by rw [hz]; unfold maxLen; omega
  have hc : (s.extract q s.size)[0]'(by omega) = s[q] := ext_at0 h
  have hm1 : spanN isNm ((s.extract q s.size).extract 1 (s.extract q s.size).size).data.toList = m := by rw [ext_tail]; exact hm
  have hle : q + 1 + m ≤ s.size := by
    have := spanN_le isNm (s.data.toList.drop (q + 1))
    rw [hm] at this
    simp at this
    omega
  by_cases hm0 : m = 0
  · subst hm0
    have e : s[q] = 36 := UInt8.toNat_inj.1 h36
    have hp : Lib.hasPrefix (s.extract q s.size).data.toList [91, 58] = false := noPre _ (by omega) (by rw [hc]; omega)
    have hi : Lib.indexByte sgnL s[q] = 6 := by rw [e]; decide +kernel
    refine .inr ⟨16, 1, 0, ⟨#[]⟩, 0, ?_, ?_, by omega, by omega⟩
    · exact first_sign36 _ fresh 6 hsm (by omega) (by rw [hc]; exact h36) hm1 hp (by rw [hc]; exact hi)
    · exact rtok_sign36 s q fresh hs h h36 hm (by rw [← ext_drop]; exact hp) hi
  · by_cases h32 : m ≤ 32
    · have e1 := ext_front s q (1 + m)
      rw [show q + (1 + m) = q + 1 + m by omega] at e1
      refine .inr ⟨2, 1 + m, 0, s.extract q (q + 1 + m), 0, ?_, ?_, by omega, by omega⟩
      · have := first_var (s.extract q s.size) fresh 2 0 (1 + m) 0 ((s.extract q s.size).extract 0 (1 + m)) 0 0 hsm (by omega) m (by rw [hc]; exact h36) hm1 (by omega) (fun w => variable_ok _ m w hsm (by omega) hm1 h32)
        rw [e1] at this
        rw [show ((1 + m : Nat) : Int) = 1 + (m : Int) by omega]
        exact this
      · have := rtok_var s q m fresh hs h h36 hm (by omega) h32
        rw [show ((1 + m : Nat) : Int) = (m : Int) + 1 by omega]
        exact this
    · exact .inl ⟨42, by decide, first_var _ fresh 0 0 0 0 ⟨#[]⟩ 0 42 hsm (by omega) m (by rw [hc]; exact h36) hm1 (by omega) (fun w => variable_bad _ m w hsm (by omega) hm1 (by omega)), rtok_varbad s q m fresh hs h h36 hm (by omega)⟩

theorem enc_ascii (n : Nat) (h : n < 128) : (Utf8.encode (n : Int)).data.toList = [UInt8.ofNat n] := by
  have hv : Utf8.valid (n : Int) = true := by unfold Utf8.valid; simp; omega
  unfold Utf8.encode
  simp [hv, h]
theorem ascii_at (r : ByteArray) (h0 : 0 < r.size) (h : uAt r 0 < 128) : uAt r 0 = r[0].toNat := by
  have h1 := put_uAt r 0 h0
  rw [put_rune (by omega), enc_ascii _ h, drop_at h0] at h1
  have hw := uw_pos r 0
  obtain ⟨k, hk⟩ : ∃ k, uw r 0 = k + 1 := ⟨uw r 0 - 1, by omega⟩
  rw [hk, List.take_succ_cons] at h1
  have h2 := (List.cons.inj h1).1
  rw [← h2, UInt8.toNat_ofNat']
  omega
theorem four_unit (r : ByteArray) (h0 : 0 < r.size) (l : Nat) (hl : l ≤ r.size) (hm : l = min r.size 4) : firstU (r.extract 0 l) = ((uAt r 0 : Int), (uw r 0 : Int)) := by
  have hin := uw_in r 0 h0
  have hpos := uw_pos r 0
  have h4 := uw_le r 0
  have hz := ext0_size r hl
  have hin2 := uw_in (r.extract 0 l) 0 (by omega)
  have := same_at (s := r) (t := r.extract 0 l) (p := 0) (r := 0) (fun k _ h2 => get_ext r 0 l (0 + k) (by omega) hl |>.trans (by rw [Nat.zero_add])) h0 (by omega) (by omega) (by omega)
  rw [firstU_at _ (by omega), this.1, this.2]
theorem pre_semi (l : List UInt8) : Lib.hasPrefix l [59] = decide (l[0]? = some 59) := by
  rw [← Lib.hasPrefix_of_take]
  cases l with
  | nil => rfl
  | cons c l => simp; rfl
theorem rsv_44 (c : UInt8) (h1 : rsv c.toNat = true) (h2 : Lib.indexByte sgnL c = -1) (h3 : c.toNat ≠ 64) (h4 : c.toNat ≠ 92) (h5 : c.toNat ≠ 35) : c.toNat = 44 := by
  have hall : ∀ n : Fin 256, rsv n.val = true → Lib.indexByte sgnL (UInt8.ofNat n.val) = -1 → n.val ≠ 64 → n.val ≠ 92 → n.val ≠ 35 → n.val = 44 := by decide +kernel
  exact hall ⟨c.toNat, c.toNat_lt⟩ h1 (by rw [UInt8.ofNat_toNat]; exact h2) h3 h4 h5
theorem both_bare (s : ByteArray) (hs : s.size ≤ 1000000) (q : Nat) (h : q < s.size) (fresh : Bool) (h36 : s[q].toNat ≠ 36) (hi : Lib.indexByte sgnL s[q] = -1) (h64 : s[q].toNat ≠ 64) (h92 : s[q].toNat ≠ 92) (h35 : s[q].toNat ≠ 35) (hp : Lib.hasPrefix (s.data.toList.drop q) [91, 58] = false) : Both s q fresh := by
  obtain ⟨r, hr⟩ : ∃ r, s.extract q s.size = r := ⟨_, rfl⟩
  have hz : r.size = s.size - q := by rw [← hr]; exact ext_size s q
  have h0 : 0 < r.size := by omega
  have hsm : r.size ≤ maxLen := by rw [hz]; unfold maxLen; omega
  have hL : r.data.toList = s.data.toList.drop q := by rw [← hr]; exact ext_drop s q
  have hc : r[0] = s[q] := by subst hr; exact ext_at0 h
  have hF : ∀ w, Calls Tryz.prog 83 #[.string (s.extract q (min s.size (q + 4)))] w fun e w' => e = .returned (.tuple #[.int .i64 (uAt r 0), .int .i64 (uw r 0)]) ∧ Below w.heap.size w w' := fun w => by
    have e := ext_front s q (min r.size 4)
    rw [hr, show q + min r.size 4 = min s.size (q + 4) by omega] at e
    have hsz : (s.extract q (min s.size (q + 4))).size ≤ 4398046511104 := by rw [ByteArray.size_extract]; omega
    have := rfirst_any (s.extract q (min s.size (q + 4))) w hsz
    rw [← e, four_unit r h0 _ (by omega) rfl] at this
    rw [← e]
    exact this
  have hf := firstU_at r h0
  have hle : q + uw r 0 ≤ s.size := by have := uw_in r 0 h0; omega
  have hpos := uw_pos r 0
  have hcc : s[q].toNat ≠ 36 ∧ s[q].toNat ≠ 64 ∧ s[q].toNat ≠ 92 := ⟨h36, h64, h92⟩
  have h1 : r[0].toNat ≠ 36 := by rw [hc]; exact h36
  have h2 : Lib.hasPrefix r.data.toList [91, 58] = false := by rw [hL]; exact hp
  have h3 : Lib.indexByte sgnL r[0] = -1 := by rw [hc]; exact hi
  have h4 : r[0].toNat ≠ 64 := by rw [hc]; exact h64
  have h5 : r[0].toNat ≠ 92 := by rw [hc]; exact h92
  unfold Both
  rw [hr]
  obtain ⟨b, hb⟩ : ∃ b, Lib.hasPrefix (s.data.toList.drop q) [116, 104, 101, 110] = b := ⟨_, rfl⟩
  obtain ⟨q2, hq2⟩ : ∃ q2, q + 4 + pastN false (s.data.toList.drop (q + 4)) = q2 := ⟨_, rfl⟩
  obtain ⟨d, hd⟩ : ∃ d, Lib.hasPrefix (s.data.toList.drop q2) [59] = d := ⟨_, rfl⟩
  have hE : endsB r = (b && d) := by
    unfold endsB
    rw [hL, hb, ← hd, pre_semi, List.drop_drop, List.getElem?_drop, List.getElem?_drop, ← hq2, ← Nat.add_assoc]
    simp only [Nat.add_zero]
  have hq4 : b = true → q + 4 ≤ s.size := fun e => by
    rw [e] at hb
    have := pre_len hb
    simp at this
    omega
  by_cases hth : fresh = true ∧ (b && d) = true
  · obtain ⟨rfl, he⟩ := hth
    simp only [Bool.and_eq_true] at he
    obtain ⟨rfl, rfl⟩ := he
    exact .inr ⟨2, 4, 0, _, 0, first_then r hsm h0 h1 h2 h3 h4 h5 (by rw [hE]; rfl), rtok_then s q q2 hs h hcc hp hi hb (hq4 rfl) hq2 hd, by omega, hq4 rfl⟩
  have to39 : ∀ (k a l u : Int) (t : ByteArray) (n e0 : Int), Tells 93 #[.string r] k a l u t n e0 → Tells 47 #[.string r, .bool fresh] k a l u t n e0 := fun k a l u t n e0 hT => by
    cases fresh with
    | false => exact first_bare r false k a l u t n e0 hsm h0 h1 h2 h3 h4 h5 rfl hT
    | true => exact first_bare2 r k a l u t n e0 hsm h0 h1 h2 h3 h4 h5 (by rw [hE]; simpa using hth) hT
  have bad : ((1114112 : Int) ≤ uAt r 0 ∨ (uAt r 0 : Int) < 32 ∨ (uAt r 0 : Int) = 127 ∨ (uAt r 0 : Int) = 44) → Tells 45 #[.string s, .int .i64 q, .bool fresh] 0 0 0 0 ⟨#[]⟩ 0 40 := fun hu => by
    cases fresh with
    | false => exact rtok_bad0 s q _ _ hs h hcc hp hi hF hu
    | true =>
      cases b with
      | false => exact rtok_bad1 s q _ _ hs h hcc hp hi hb hF hu
      | true =>
        obtain rfl : d = false := by simpa using hth
        exact rtok_bad2 s q _ _ hs h hcc hp hi q2 hb (hq4 rfl) hq2 hd hF hu
  by_cases hlo : uAt r 0 < 32
  · exact .inl ⟨40, by decide, to39 0 0 0 0 ⟨#[]⟩ 0 40 (fun w => bare_low r (uAt r 0) _ w hsm hf rfl hlo), bad (by omega)⟩
  by_cases h127 : uAt r 0 = 127
  · refine .inl ⟨40, by decide, ?_, bad (by omega)⟩
    rw [h127] at hf
    exact to39 0 0 0 0 ⟨#[]⟩ 0 40 (fun w => bare_127 r _ w hsm hf rfl)
  by_cases hhi : 1114111 < uAt r 0
  · exact .inl ⟨40, by decide, to39 0 0 0 0 ⟨#[]⟩ 0 40 (fun w => bare_high r (uAt r 0) _ w hsm hf rfl hhi), bad (by omega)⟩
  cases hv : rsv (uAt r 0)
  · have h44 : uAt r 0 ≠ 44 := fun e => by rw [e] at hv; revert hv; decide +kernel
    refine .inr ⟨1, uw r 0, uAt r 0, ⟨#[]⟩, 0, to39 1 0 _ _ ⟨#[]⟩ 0 0 (fun w => bare_ok r (uAt r 0) _ w hsm hf (by omega) h127 (by omega) hv), ?_, by omega, hle⟩
    cases fresh with
    | false => exact rtok_bare0 s q _ _ hs h hcc hp hi hF (by omega) (by omega) (by omega) (by omega)
    | true =>
      cases b with
      | false => exact rtok_bare1 s q _ _ hs h hcc hp hi hb hF (by omega) (by omega) (by omega) (by omega)
      | true =>
        obtain rfl : d = false := by simpa using hth
        exact rtok_bare2 s q _ _ hs h hcc hp hi q2 hb (hq4 rfl) hq2 hd hF (by omega) (by omega) (by omega) (by omega)
  · have h128 : uAt r 0 < 128 := by
      have := hv
      unfold rsv at this
      simp only [Bool.and_eq_true, decide_eq_true_eq] at this
      exact this.1
    have ha := ascii_at r h0 h128
    have h44 : uAt r 0 = 44 := by
      rw [ha]
      rw [ha] at hv
      exact rsv_44 r[0] hv h3 h4 h5 (by rw [hc]; exact h35)
    exact .inl ⟨40, by decide, to39 0 0 0 0 ⟨#[]⟩ 0 40 (fun w => bare_rsv r (uAt r 0) _ w hsm hf hv (by omega) h127 (by omega)), bad (by omega)⟩

theorem both_class (s : ByteArray) (hs : s.size ≤ 1000000) (q : Nat) (h : q < s.size) (fresh : Bool) (h91 : s[q].toNat = 91) (hp : Lib.hasPrefix (s.data.toList.drop q) [91, 58] = true) : Both s q fresh := by
  have h2 : q + 2 ≤ s.size := by have := pre_len hp; simp at this; omega
  obtain ⟨r, hr⟩ : ∃ r, s.extract q s.size = r := ⟨_, rfl⟩
  have hz : r.size = s.size - q := by rw [← hr]; exact ext_size s q
  have h0 : 0 < r.size := by omega
  have h2r : 2 ≤ r.size := by omega
  have hsm : r.size ≤ maxLen := by rw [hz]; unfold maxLen; omega
  have hL : r.data.toList = s.data.toList.drop q := by rw [← hr]; exact ext_drop s q
  have hc0 : r[0].toNat = 91 := by subst hr; rw [ext_at0 h]; exact h91
  have hpr : Lib.hasPrefix r.data.toList [91, 58] = true := by rw [hL]; exact hp
  obtain ⟨n, hn⟩ : ∃ n, spanN isNm (s.data.toList.drop (q + 2)) = n := ⟨_, rfl⟩
  have hnr : spanN isNm (r.extract 2 r.size).data.toList = n := by rw [ext_drop, hL, List.drop_drop]; exact hn
  obtain ⟨x, hx⟩ : ∃ x, r.extract (2 + n) r.size = x := ⟨_, rfl⟩
  have hle := span2_le r n h2r hnr
  have hxz : x.size = r.size - (2 + n) := by rw [← hx, ext_size]
  have hxL : x.data.toList = s.data.toList.drop (q + 2 + n) := by rw [← hx, ext_drop, hL, List.drop_drop, Nat.add_assoc]
  have h36 : s[q].toNat ≠ 36 := by omega
  unfold Both
  rw [hr]
  have to37 : ∀ (k a l u : Int) (t : ByteArray) (n e0 : Int), Tells 79 #[.string s, .int .i64 q] k a l u t n e0 → Tells 45 #[.string s, .int .i64 q, .bool fresh] k a l u t n e0 := fun k a l u t n e0 hT => rtok_class s q fresh hs h h36 hp k a l u t n e0 hT
  have to39 : ∀ (k a l u : Int) (t : ByteArray) (n e0 : Int), Tells 89 #[.string r] k a l u t n e0 → Tells 47 #[.string r, .bool fresh] k a l u t n e0 := fun k a l u t n e0 hT => first_class r fresh k a l u t n e0 hsm h0 hc0 hpr hT
  by_cases h32 : 32 < n
  · exact .inl ⟨42, by decide, to39 0 0 0 0 ⟨#[]⟩ 0 42 (fun w => class_many r x n w hsm h2r hnr hx h32 rfl), to37 0 0 0 0 ⟨#[]⟩ 0 42 (rclass_many s q n hs h2 hn h32)⟩
  have h32' : n ≤ 32 := by omega
  by_cases hxe : x.size = 0
  · exact .inl ⟨44, by decide, to39 0 0 0 0 ⟨#[]⟩ 0 44 (fun w => class_open1 r x n w hsm h2r hnr hx h32' rfl ((empty_iff x).2 hxe)), to37 0 0 0 0 ⟨#[]⟩ 0 44 (rclass_open1 s q n hs h2 hn h32' (by omega))⟩
  have hxn := empty_no (r := x) (by omega)
  by_cases hn0 : n = 0
  · subst hn0
    have hx2 : r.extract 2 r.size = x := by simpa using hx
    exact .inl ⟨42, by decide, to39 0 0 0 0 ⟨#[]⟩ 0 42 (fun w => class_bad0 r x w hsm h2r hx2 (by rw [← hx2]; exact hnr) rfl hxn), to37 0 0 0 0 ⟨#[]⟩ 0 42 (rclass_bad0 s q 0 hs h2 hn rfl (by omega))⟩
  have hcx : (x.toList == [58]) = true ↔ (q + 2 + n + 1 = s.size ∧ ∃ hh : q + 2 + n < s.size, s[q + 2 + n].toNat = 58) := by
    rw [beq_iff_eq, Lib.toList_data, hxL]
    have hh : q + 2 + n < s.size := by omega
    rw [drop_at hh]
    constructor
    · intro e
      obtain ⟨e1, e2⟩ := List.cons.inj e
      have := congrArg List.length e2
      simp at this
      exact ⟨by omega, hh, by rw [e1]; rfl⟩
    · rintro ⟨e1, _, e2⟩
      rw [List.drop_of_length_le (by simp; omega), show s[q + 2 + n] = 58 from UInt8.toNat_inj.1 e2]
  by_cases hc : (x.toList == [58]) = true
  · obtain ⟨e1, _, e2⟩ := hcx.1 hc
    exact .inl ⟨44, by decide, to39 0 0 0 0 ⟨#[]⟩ 0 44 (fun w => class_open2 r x n w hsm h2r hnr hx h32' rfl (by omega) hxn hc), to37 0 0 0 0 ⟨#[]⟩ 0 44 (rclass_open2 s q n hs h2 hn h32' (by omega) e1 e2)⟩
  have hc' : (x.toList == [58]) = false := by simpa using hc
  by_cases hp2 : Lib.hasPrefix x.data.toList [58, 93] = true
  · have hql : 2 ≤ x.size := by have := pre_len hp2; simpa using this
    have hT := rclass_ok s q n hs h2 hn h32' (by omega) (by rw [← hxL]; exact hp2) (by omega)
    have hm : r.extract 1 (2 + n + 1) = s.extract (q + 1) (q + 2 + n + 1) := by
      apply ByteArray.ext
      apply Array.toList_inj.1
      simp only [ByteArray.data_extract, Array.toList_extract, List.extract]
      rw [hL, List.drop_drop, show q + 2 + n + 1 - (q + 1) = 2 + n + 1 - 1 by omega]
    refine .inr ⟨2, 2 + n + 2, 0, s.extract (q + 1) (q + 2 + n + 1), 0, ?_, ?_, by omega, by omega⟩
    · have := to39 2 0 (2 + n + 2) 0 (r.extract 1 (2 + n + 1)) 0 0 (fun w => class_ok r x n w hsm h2r hnr hx h32' hp2 (by omega) hxn hc' (by omega))
      rw [hm] at this
      rw [show ((2 + n + 2 : Nat) : Int) = 2 + (n : Int) + 2 by omega]
      exact this
    · rw [show ((2 + n + 2 : Nat) : Int) = (n : Int) + 4 by omega]
      exact to37 2 q _ 0 _ 0 0 hT
  · exact .inl ⟨42, by decide, to39 0 0 0 0 ⟨#[]⟩ 0 42 (fun w => class_bad1 r x n w hsm h2r hnr hx h32' (by simpa using hp2) (by omega) hxn hc'), to37 0 0 0 0 ⟨#[]⟩ 0 42 (rclass_bad1 s q n hs h2 hn h32' (by omega) (by omega) (fun e e2 => hc (hcx.2 ⟨e, by omega, e2⟩)) (by rw [← hxL]; simpa using hp2))⟩

theorem val10_fits (l : List UInt8) : ∀ (a : Nat), (∀ c ∈ l, isDg c = true) → val10 a l < (a + 1) * 10 ^ l.length := by
  induction l with
  | nil =>
    intro a _
    show a < _
    rw [List.length_nil, Nat.pow_zero]
    omega
  | cons c l ih =>
    intro a h
    have h1 := ih (a * 10 + (c.toNat - 48)) (fun x hx => h x (List.mem_cons_of_mem _ hx))
    have h2 := h c List.mem_cons_self
    simp only [isDg, Bool.and_eq_true, decide_eq_true_eq] at h2
    show val10 (a * 10 + (c.toNat - 48)) l < _
    rw [List.length_cons, Nat.pow_succ]
    refine Nat.lt_of_lt_of_le h1 ?_
    rw [Nat.mul_comm (10 ^ l.length) 10, ← Nat.mul_assoc]
    exact Nat.mul_le_mul_right _ (by omega)
theorem both_copy (s : ByteArray) (hs : s.size ≤ 1000000) (q : Nat) (h : q < s.size) (fresh : Bool) (h64 : s[q].toNat = 64) : Both s q fresh := by
  obtain ⟨r, hr⟩ : ∃ r, s.extract q s.size = r := ⟨_, rfl⟩
  have hz : r.size = s.size - q := by rw [← hr]; exact ext_size s q
  have h0 : 0 < r.size := by omega
  have hsm : r.size ≤ maxLen := by rw [hz]; unfold maxLen; omega
  have hL : r.data.toList = s.data.toList.drop q := by rw [← hr]; exact ext_drop s q
  have hc0 : r[0] = s[q] := by subst hr; exact ext_at0 h
  have e64 : s[q] = 64 := UInt8.toNat_inj.1 h64
  have hi : Lib.indexByte sgnL s[q] = -1 := by rw [e64]; decide +kernel
  have hp : Lib.hasPrefix (s.data.toList.drop q) [91, 58] = false := by rw [← hL]; exact noPre r h0 (by rw [hc0]; omega)
  obtain ⟨n, hn⟩ : ∃ n, spanN isDg (s.data.toList.drop (q + 1)) = n := ⟨_, rfl⟩
  have hnr : spanN isDg (r.extract 1 r.size).data.toList = n := by rw [ext_drop, hL, List.drop_drop]; exact hn
  have hle : q + 1 + n ≤ s.size := by
    have := spanN_le isDg (s.data.toList.drop (q + 1))
    rw [hn] at this
    simp at this
    omega
  have h1c : ∀ h1 : q + 1 < s.size, r[1]'(by omega) = s[q + 1] := fun h1 => by
    have e1 := drop_at (s := r) (k := 1) (by omega)
    rw [hL, List.drop_drop, drop_at h1] at e1
    exact (List.cons.inj e1).1.symm
  unfold Both
  rw [hr]
  have to39 : ∀ (k a l u : Int) (t : ByteArray) (n e0 : Int), Tells 90 #[.string r] k a l u t n e0 → Tells 47 #[.string r, .bool fresh] k a l u t n e0 := fun k a l u t n e0 hT => first_copy r fresh k a l u t n e0 h0 (by rw [hc0]; exact h64) hT
  have to37 : ∀ (k a l u : Int) (t : ByteArray) (n e0 : Int), Tells 81 #[.string s, .int .i64 q] k a l u t n e0 → Tells 45 #[.string s, .int .i64 q, .bool fresh] k a l u t n e0 := fun k a l u t n e0 hT => rtok_copy s q fresh hs h h64 hp hi k a l u t n e0 hT
  have bad : (n = 0 ∨ 9 < n ∨ ∃ h : q + 1 < s.size, s[q + 1].toNat = 48) → Tells 81 #[.string s, .int .i64 q] 0 0 0 0 ⟨#[]⟩ 0 43 := fun hb w =>
    rcopied_walk s q n hs (by omega) hn w _ (fun _ w' hw => ⟨rfl, hw⟩) (fun g1 g2 g3 => by
      rcases hb with hb | hb | ⟨hb, hb2⟩
      · omega
      · omega
      · exact absurd hb2 (g3 hb))
  by_cases hn0 : n = 0
  · subst hn0
    exact .inl ⟨43, by decide, to39 0 0 0 0 ⟨#[]⟩ 0 43 (cop_zero r hsm h0 hnr), to37 0 0 0 0 ⟨#[]⟩ 0 43 (bad (.inl rfl))⟩
  by_cases h9 : 9 < n
  · exact .inl ⟨43, by decide, to39 0 0 0 0 ⟨#[]⟩ 0 43 (cop_many r hsm h0 n hnr h9), to37 0 0 0 0 ⟨#[]⟩ 0 43 (bad (.inr (.inl h9)))⟩
  have h1 : q + 1 < s.size := by omega
  by_cases hc : s[q + 1].toNat = 48
  · exact .inl ⟨43, by decide, to39 0 0 0 0 ⟨#[]⟩ 0 43 (cop_nought r hsm h0 n hnr (by omega) (by omega) (by omega) (by rw [h1c h1]; exact hc)), to37 0 0 0 0 ⟨#[]⟩ 0 43 (bad (.inr (.inr ⟨h1, hc⟩)))⟩
  have e : (r.extract 1 (1 + n)).data.toList = (s.data.toList.drop (q + 1)).take n := by
    simp only [ByteArray.data_extract, Array.toList_extract, List.extract]
    rw [hL, List.drop_drop, Nat.add_sub_cancel_left]
  have hdg : ∀ c ∈ (r.extract 1 (1 + n)).data.toList, isDg c = true := by
    intro c hc
    rw [e, ← hn] at hc
    exact take_span isDg _ c hc
  have hlen : (r.extract 1 (1 + n)).data.toList.length = n := by
    rw [e, List.length_take, List.length_drop]
    simp
    omega
  have hv : Lib.parseIntB 64 (r.extract 1 (1 + n)).data.toList = .ok (val10 0 ((s.data.toList.drop (q + 1)).take n)) := by
    rw [← e]
    exact int_val _ (by intro e; rw [e] at hlen; simp at hlen; omega) hdg (by omega) (by
      have h1 := val10_fits _ 0 hdg
      rw [hlen] at h1
      have h2 : 10 ^ n ≤ 10 ^ 9 := Nat.pow_le_pow_right (by decide) (by omega)
      have h3 : 10 ^ 9 = 1000000000 := by decide
      omega)
  refine .inr ⟨3, 1 + n, 0, ⟨#[]⟩, val10 0 ((s.data.toList.drop (q + 1)).take n), ?_, ?_, by omega, by omega⟩
  · have := to39 3 0 (1 + n) 0 ⟨#[]⟩ _ 0 (cop_ok r hsm h0 n hnr (by omega) (by omega) (by omega) (by rw [h1c h1]; exact hc) _ hv)
    rw [show ((1 + n : Nat) : Int) = 1 + (n : Int) by omega]
    exact this
  · rw [show ((1 + n : Nat) : Int) = (n : Int) + 1 by omega]
    refine to37 3 q _ 0 ⟨#[]⟩ _ 0 (fun w => rcopied_walk s q n hs (by omega) hn w _ (fun hb => ?_) (fun _ _ _ w' hw => ⟨rfl, hw⟩))
    rcases hb with hb | hb | ⟨hb, hb2⟩
    · omega
    · omega
    · exact absurd hb2 hc
end Go.Proofs
