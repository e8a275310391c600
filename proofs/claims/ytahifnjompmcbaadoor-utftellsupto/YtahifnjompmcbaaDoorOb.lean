/-
  What may yet come behind a text, plainly: where it is open, and that nothing that comes moves what stands ahead.
-/
import Derived.Test.YtahifnjompmcbaaDoorOa
namespace Go.Proofs
open Go.RowKit Go.Shelf
set_option maxRecDepth 100000

theorem prev_bord (s : ByteArray) (e : Nat) (he : bord s e) (h0 : 0 < e) : ∃ q, q < e ∧ bord s q ∧ q + uw s q = e := by
  have key : ∀ k p, bord s p → p < e → e ≤ p + k → ∃ q, q < e ∧ bord s q ∧ q + uw s q = e := by
    intro k
    induction k with
    | zero => intro p _ h1 h2; omega
    | succ k ih =>
      intro p hb h1 h2
      have h3 := he p h1
      have h4 := uw_pos s p
      by_cases h5 : p + uw s p = e
      · exact ⟨p, h1, hb, h5⟩
      · exact ih (p + uw s p) (bord_next hb) (by omega) (by omega)
  exact key e 0 (bord_zero s) h0 (by omega)
theorem last_of (t : ByteArray) (x : Nat × Nat) : ∀ k p, t.size ≤ p + k → x ∈ unitsN t k p → x.1 + uw t x.1 = t.size → (unitsN t k p).getLast? = some x
  | 0, p, _, h, _ => by simp [unitsN] at h
  | k + 1, p, hk, h, he => by
    by_cases hp : p < t.size
    · have hu := uw_pos t p
      rw [unitsN_step t k p hp] at h ⊢
      rcases List.mem_cons.1 h with rfl | h
      · rw [unitsN_end t k _ (by simp only at he; omega)]; rfl
      · have ih := last_of t x k _ (by omega) h he
        have hne : unitsN t k (p + uw t p) ≠ [] := List.ne_nil_of_mem h
        rw [List.getLast?_cons, ih]
        rfl
    · rw [unitsN_end t _ p hp] at h; cases h
theorem stepB_bord (s : ByteArray) (e : Nat) (he : bord s e) (h0 : 0 < e) (h1 : e ≤ s.size) : ∃ q, q < e ∧ bord s q ∧ q + uw s q = e ∧ stepB s e = (q, uAt s q) := by
  obtain ⟨q, hq, hbq, hqe⟩ := prev_bord s e he h0
  refine ⟨q, hq, hbq, hqe, ?_⟩
  have hw := uw_le s q
  have hz : (s.extract 0 e).size = e := by simp [ByteArray.size_extract]; omega
  have ht := size_tail (s.extract 0 e)
  rw [hz] at ht
  obtain ⟨t, htt⟩ : ∃ t, tailOf (s.extract 0 e) = t := ⟨_, rfl⟩
  have hg : ∀ r, r < t.size → t.get! r = s.get! (e - t.size + r) := by
    intro r hr
    rw [← htt] at hr ⊢
    rw [ht] at hr ⊢
    unfold tailOf
    rw [hz, get_ext _ _ _ _ (by omega) (by rw [hz]; omega), get_ext _ _ _ _ (by omega) h1]
    rw [show 0 + (e - 4 + r) = e - min 4 e + r by omega]
  rw [htt] at ht
  have hsm := same_at (s := s) (t := t) (p := q) (r := q - (e - t.size)) (fun k _ hk => by rw [hg _ hk, show e - t.size + (q - (e - t.size) + k) = q + k by omega]) (by omega) (by omega) (by omega) (by have := uw_in t (q - (e - t.size)) (by omega); omega)
  have hbt : bord t (q - (e - t.size)) := by
    intro r' hr'
    by_cases h2 : 1 < uw t r'
    · obtain ⟨c, F⟩ := form_of t r' h2
      have hF := F.1
      have F2 := F.move (t := s) (r := e - t.size + r') (by omega) (fun k hk => by rw [hg (r' + k) (by omega), Nat.add_assoc])
      have := hbq (e - t.size + r') (by omega)
      rw [F2.uw] at this
      omega
    · omega
  obtain ⟨x, hx, hxp⟩ := (places_iff t (q - (e - t.size)) (by omega) t.size 0 (by omega) (bord_zero t) (Nat.zero_le _)).2 hbt
  have hm := mem_unitsN t x _ _ hx
  have hl := last_of t x _ _ (by omega) hx (by rw [hxp, hsm.1]; omega)
  unfold stepB
  rw [htt]
  have hl' : (units t).getLast? = some x := hl
  rw [hl']
  simp only [Prod.mk.injEq]
  exact ⟨by omega, by rw [hm.2.2, hxp, hsm.2]⟩
/-- a place from which on the text begins a rune that it does not end -/
def Opn (s : ByteArray) (q : Nat) : Prop := q < s.size ∧ s.size - q ≤ 3 ∧ ∃ r, Pre (s.extract q s.size) r
theorem ext_size (s : ByteArray) (q : Nat) (_ : q ≤ s.size) : (s.extract q s.size).size = s.size - q := by simp [ByteArray.size_extract]
theorem bt_ext (s : ByteArray) (q k : Nat) (h : q + k < s.size) : bt (s.extract q s.size) k = bt s (q + k) := by unfold bt; rw [get_ext s q s.size k h (Nat.le_refl _)]
theorem pre_ext {s : ByteArray} {q : Nat} {r : Int} (hq : q < s.size) (h : Pre (s.extract q s.size) r) :
    (128 ≤ r ∧ r ≤ 2047 ∧ s.size - q < 2 ∧ bt s q = 192 + r / 64) ∨
    (2048 ≤ r ∧ r ≤ 65535 ∧ (r ≤ 55295 ∨ 57344 ≤ r) ∧ s.size - q < 3 ∧ bt s q = 224 + r / 4096 ∧ (s.size - q = 2 → bt s (q + 1) = 128 + r / 64 % 64)) ∨
    (65536 ≤ r ∧ r ≤ 1114111 ∧ s.size - q < 4 ∧ bt s q = 240 + r / 262144 ∧ (2 ≤ s.size - q → bt s (q + 1) = 128 + r / 4096 % 64) ∧ (3 ≤ s.size - q → bt s (q + 2) = 128 + r / 64 % 64)) := by
  have hz := ext_size s q (by omega)
  have b0 := bt_ext s q 0 (by omega)
  rw [Nat.add_zero] at b0
  rcases h with h | h | h | h
  · obtain ⟨h1, h2, h3, h4⟩ := h
    rw [hz] at h3; rw [b0] at h4
    exact .inl ⟨h1, h2, h3, h4⟩
  · obtain ⟨h1, h2, h3, h4, h5⟩ := h
    rw [hz] at h3 h5; rw [b0] at h4
    exact .inr (.inl ⟨h1, by omega, .inl h2, h3, h4, fun e => by rw [← bt_ext s q 1 (by omega)]; exact h5 e⟩)
  · obtain ⟨h1, h2, h3, h4, h5⟩ := h
    rw [hz] at h3 h5; rw [b0] at h4
    exact .inr (.inl ⟨by omega, h2, .inr h1, h3, h4, fun e => by rw [← bt_ext s q 1 (by omega)]; exact h5 e⟩)
  · obtain ⟨h1, h2, h3, h4, h5, h6⟩ := h
    rw [hz] at h3 h5 h6; rw [b0] at h4
    exact .inr (.inr ⟨h1, h2, h3, h4, fun e => by rw [← bt_ext s q 1 (by omega)]; exact h5 e, fun e => by rw [← bt_ext s q 2 (by omega)]; exact h6 e⟩)
theorem opn_bytes {s : ByteArray} {q : Nat} (h : Opn s q) : (s.get! q).toNat / 64 = 3 ∧ ∀ k, q < k → k < s.size → (s.get! k).toNat / 64 = 2 := by
  obtain ⟨hq, h3, r, hr⟩ := h
  have := pre_ext hq hr
  unfold bt at this
  refine ⟨by omega, fun k hk hks => ?_⟩
  rcases (show k = q + 1 ∨ k = q + 2 by omega) with rfl | rfl <;> omega
theorem opn_one {s : ByteArray} {q : Nat} (h : Opn s q) : uw s q = 1 := by
  by_cases h1 : 1 < uw s q
  · exfalso
    obtain ⟨c, F⟩ := form_of s q h1
    obtain ⟨hq, h3, r, hr⟩ := h
    have := pre_ext hq hr
    have f1 := F.1
    have f2 := F.2.2
    unfold bt at this
    omega
  · have := uw_pos s q; omega
theorem stray_of {s : ByteArray} {q : Nat} (h1 : uw s q = 1) (hb : 128 ≤ (s.get! q).toNat) : 1114240 ≤ uAt s q ∧ uAt s q ≤ 1114367 := by
  have hlt := (s.get! q).toNat_lt
  rcases one_wide s q h1 with ⟨a, _⟩ | ⟨_, b⟩
  · omega
  · rw [uAt_stray ((stray_iff s q).2 b)]; omega
theorem one_of_cont {s : ByteArray} {q : Nat} (h : (s.get! q).toNat / 64 = 2) : uw s q = 1 := by
  by_cases h1 : 1 < uw s q
  · have := (uw_many s q h1).2.1; omega
  · have := uw_pos s q; omega
/-- what Open tells -/
def OpenIs (s : ByteArray) (x : Int × Int × Int) : Prop :=
  (x = (0, 0, 0) ∧ ∀ q, ¬ Opn s q) ∨ ∃ q lo hi, x = (((s.size - q : Nat) : Int), lo, hi) ∧ Opn s q ∧ bord s q ∧ hitW (s.extract q s.size) spell = some (lo, hi)
theorem openL_spec (s : ByteArray) : ∀ k e, e ≤ k → e ≤ s.size → bord s e → (∀ q, Opn s q → q < e) → OpenIs s (openL s (backN s k e)) := by
  intro k
  induction k with
  | zero =>
    intro e h1 _ _ h4
    exact .inl ⟨rfl, fun q hq => by have := h4 q hq; omega⟩
  | succ k ih =>
    intro e h1 h2 h3 h4
    by_cases h0 : e = 0
    · subst h0
      refine .inl ⟨by simp [backN, openL], fun q hq => by have := h4 q hq; omega⟩
    · obtain ⟨q, hq, hbq, hqe, hst⟩ := stepB_bord s e h3 (by omega) h2
      rw [backN_step s k e (by omega), hst]
      have hin : ∀ q', Opn s q' → q' ≤ q := fun q' ho => by
        have hlt := h4 q' ho
        by_cases hc : q < q'
        · have hm := (uw_many s q (by omega)).2.2 (q' - q) (by omega) (by omega)
          rw [show q + (q' - q) = q' by omega] at hm
          have := (opn_bytes ho).1
          omega
        · omega
      by_cases hc : (1114240 ≤ uAt s q ∧ uAt s q ≤ 1114367) ∧ s.size - q ≤ 3
      · have hz := ext_size s q (by omega)
        cases hh : hitW (s.extract q s.size) spell with
        | some x =>
          obtain ⟨a, b⟩ := x
          have hs := hit_some _ (by rw [hz]; omega) hh
          exact .inr ⟨q, a, b, openL_hit hc hh _, ⟨by omega, hc.2, a, (hs.2 a).1 ⟨Int.le_refl _, hs.1⟩⟩, hbq, hh⟩
        | none =>
          rw [openL_miss hc hh]
          refine ih q (by omega) (by omega) hbq (fun q' ho => ?_)
          have := hin q' ho
          by_cases he : q' = q
          · subst he
            obtain ⟨_, _, r, hr⟩ := ho
            exact absurd hr (hit_none _ (by rw [hz]; omega) hh r)
          · omega
      · rw [openL_out hc]
        refine .inl ⟨rfl, fun q' ho => hc ?_⟩
        have hle := hin q' ho
        have hb := opn_bytes ho
        by_cases he : q' = q
        · subst he
          exact ⟨stray_of (opn_one ho) (by omega), ho.2.1⟩
        · have hcq := hb.2 q (by omega) (by omega)
          exact ⟨stray_of (one_of_cont hcq) (by omega), by have := ho.2.1; omega⟩
theorem open_is (s : ByteArray) : OpenIs s (openU s) := openL_spec s s.size s.size (Nat.le_refl _) (Nat.le_refl _) (bord_size s) (fun _ h => h.1)
theorem opn_unique {s : ByteArray} {q q' : Nat} (h : Opn s q) (h' : Opn s q') : q = q' := by
  have b := opn_bytes h
  have b' := opn_bytes h'
  rcases Nat.lt_trichotomy q q' with c | c | c
  · have := b.2 q' c h'.1; omega
  · exact c
  · have := b'.2 q c h.1; omega
/-- a rune that begins in the text and ends behind it: the text is open there -/
theorem cross {s more : ByteArray} {q : Nat} (hq : q < s.size) (h : s.size < q + uw (s ++ more) q) : Opn s q := by
  have h4 := uw_le (s ++ more) q
  obtain ⟨c, F⟩ := form_of (s ++ more) q (by omega)
  have hz := ext_size s q (by omega)
  have g : ∀ k, q + k < s.size → bt (s.extract q s.size) k = (((s ++ more).get! (q + k)).toNat : Int) := fun k hk => by rw [bt_ext s q k hk]; unfold bt; rw [get_left s more (q + k) hk]
  have g0 := g 0 (by omega)
  rw [Nat.add_zero] at g0
  refine ⟨hq, by omega, (c : Int), ?_⟩
  rcases F.2.2 with ⟨e, a, b, b0, b1⟩ | ⟨e, a, b, v, b0, b1, b2⟩ | ⟨e, a, b, b0, b1, b2, b3⟩
  · exact .inl ⟨by omega, by omega, by rw [hz]; omega, by rw [g0, b0]; omega⟩
  · have hP : (s.extract q s.size).size < 3 ∧ bt (s.extract q s.size) 0 = 224 + (c : Int) / 4096 ∧ ((s.extract q s.size).size = 2 → bt (s.extract q s.size) 1 = 128 + (c : Int) / 64 % 64) :=
      ⟨by rw [hz]; omega, by rw [g0, b0]; omega, fun h2 => by rw [g 1 (by omega), b1]; omega⟩
    rcases v with v | v
    · exact .inr (.inl ⟨by omega, by omega, hP⟩)
    · exact .inr (.inr (.inl ⟨by omega, by omega, hP⟩))
  · exact .inr (.inr (.inr ⟨by omega, by omega, by rw [hz]; omega, by rw [g0, b0]; omega, fun h2 => by rw [g 1 (by omega), b1]; omega, fun h2 => by rw [g 2 (by omega), b2]; omega⟩))
/-- nothing that comes behind moves a border that no open place stands ahead of -/
theorem bord_more (s more : ByteArray) (p : Nat) (hp : p ≤ s.size) (hb : bord s p) (ho : ∀ q, Opn s q → p ≤ q) : bord (s ++ more) p := by
  intro q hq
  by_cases h : q + uw (s ++ more) q ≤ s.size
  · rw [← (at_left (a := s) (b := more) (by omega) h).1]
    exact hb q hq
  · have := ho q (cross (more := more) (by omega) (by omega))
    omega
theorem bya_ext_get {a b : ByteArray} (hs : a.size = b.size) (h : ∀ k, k < a.size → a.get! k = b.get! k) : a = b := by
  apply ByteArray.ext
  apply Array.ext hs
  intro i h1 h2
  have := h i h1
  rw [get_bang a i h1, get_bang b i h2] at this
  exact this
/-- a unit's bytes, where they are several -/
theorem put_bytes (r : Int) : ((put r).size ≤ 1 ∧ (r < 128 ∨ (55296 ≤ r ∧ r ≤ 57343) ∨ 1114111 < r)) ∨
    (128 ≤ r ∧ r ≤ 2047 ∧ (put r).size = 2 ∧ bt (put r) 0 = 192 + r / 64 ∧ bt (put r) 1 = 128 + r % 64) ∨
    (2048 ≤ r ∧ r ≤ 65535 ∧ (r ≤ 55295 ∨ 57344 ≤ r) ∧ (put r).size = 3 ∧ bt (put r) 0 = 224 + r / 4096 ∧ bt (put r) 1 = 128 + r / 64 % 64 ∧ bt (put r) 2 = 128 + r % 64) ∨
    (65536 ≤ r ∧ r ≤ 1114111 ∧ (put r).size = 4 ∧ bt (put r) 0 = 240 + r / 262144 ∧ bt (put r) 1 = 128 + r / 4096 % 64 ∧ bt (put r) 2 = 128 + r / 64 % 64 ∧ bt (put r) 3 = 128 + r % 64) := by
  by_cases a : 1114240 ≤ r ∧ r ≤ 1114367
  · rw [put_stray a]; exact .inl ⟨Nat.le_refl _, by omega⟩
  · by_cases b : (0 ≤ r ∧ r < 55296) ∨ (57343 < r ∧ r ≤ 1114111)
    · rw [put_rune b]
      obtain ⟨c, rfl⟩ : ∃ c : Nat, r = c := ⟨r.toNat, by omega⟩
      by_cases h1 : c < 128
      · rw [enc1 c h1, size_lit]; exact .inl ⟨by simp, by omega⟩
      · by_cases h2 : c < 2048
        · rw [enc2 c (by omega) h2, size_lit]
          refine .inr (.inl ⟨by omega, by omega, rfl, ?_, ?_⟩)
          · show (((UInt8.ofNat (192 + c / 64)).toNat : Nat) : Int) = _; rw [b8 _ (by omega)]; omega
          · show (((UInt8.ofNat (128 + c % 64)).toNat : Nat) : Int) = _; rw [b8 _ (by omega)]; omega
        · by_cases h3 : c < 65536
          · rw [enc3 c (by omega) h3 (by omega), size_lit]
            refine .inr (.inr (.inl ⟨by omega, by omega, by omega, rfl, ?_, ?_, ?_⟩))
            · show (((UInt8.ofNat (224 + c / 4096)).toNat : Nat) : Int) = _; rw [b8 _ (by omega)]; omega
            · show (((UInt8.ofNat (128 + c / 64 % 64)).toNat : Nat) : Int) = _; rw [b8 _ (by omega)]; omega
            · show (((UInt8.ofNat (128 + c % 64)).toNat : Nat) : Int) = _; rw [b8 _ (by omega)]; omega
          · rw [enc4 c (by omega) (by omega), size_lit]
            refine .inr (.inr (.inr ⟨by omega, by omega, rfl, ?_, ?_, ?_, ?_⟩))
            · show (((UInt8.ofNat (240 + c / 262144)).toNat : Nat) : Int) = _; rw [b8 _ (by omega)]; omega
            · show (((UInt8.ofNat (128 + c / 4096 % 64)).toNat : Nat) : Int) = _; rw [b8 _ (by omega)]; omega
            · show (((UInt8.ofNat (128 + c / 64 % 64)).toNat : Nat) : Int) = _; rw [b8 _ (by omega)]; omega
            · show (((UInt8.ofNat (128 + c % 64)).toNat : Nat) : Int) = _; rw [b8 _ (by omega)]; omega
    · rw [put_no (by omega) (by omega)]; exact .inl ⟨Nat.zero_le _, by omega⟩
theorem bt_inj {a b : ByteArray} {i j : Nat} (h : bt a i = bt b j) : a.get! i = b.get! j := UInt8.toNat_inj.1 (by unfold bt at h; omega)
/-- which runes the bytes begin, by the runes' bytes -/
theorem pre_put (h : ByteArray) (hn : 1 ≤ h.size ∧ h.size ≤ 3) (r : Int) : Pre h r ↔ h.size < (put r).size ∧ (put r).extract 0 h.size = h := by
  have hz : ∀ n, n ≤ (put r).size → ((put r).extract 0 n).size = n := fun n hn => by simp [ByteArray.size_extract]; omega
  constructor
  · intro hp
    have pb := put_bytes r
    have hlt : h.size < (put r).size := by
      rcases hp with e | e | e | e <;> simp only [P1, P2, P3, P4] at e <;> omega
    refine ⟨hlt, bya_ext_get (hz _ (by omega)) (fun k hk => ?_)⟩
    rw [hz _ (by omega)] at hk
    rw [get_ext _ 0 h.size k (by omega) (by omega), Nat.zero_add]
    apply bt_inj
    rcases (show k = 0 ∨ k = 1 ∨ k = 2 by omega) with rfl | rfl | rfl
    all_goals (rcases hp with e | e | e | e <;> simp only [P1, P2, P3, P4] at e <;> omega)
  · rintro ⟨hlt, he⟩
    have pb := put_bytes r
    have g : ∀ k, k < h.size → bt h k = bt (put r) k := fun k hk => by
      unfold bt
      rw [← he] at hk
      rw [hz _ (by omega)] at hk
      have : h.get! k = (put r).get! k := by
        rw [← he, get_ext _ 0 h.size k (by omega) (by omega), Nat.zero_add]
      rw [this]
    have g0 := g 0 (by omega)
    have g1 := g 1
    have g2 := g 2
    unfold Pre P1 P2 P3 P4
    omega
/-- a rune's bytes, wherever they stand -/
theorem put_form (a : ByteArray) (r : Int) (h : 2 ≤ (put r).size) : Form (a ++ put r) a.size r.toNat (put r).size := by
  have pb := put_bytes r
  have g : ∀ k, k < (put r).size → (((a ++ put r).get! (a.size + k)).toNat : Int) = bt (put r) k := fun k hk => by rw [get_right a (put r) k hk]; rfl
  have hz : (a ++ put r).size = a.size + (put r).size := by simp
  have g0 := g 0 (by omega)
  rw [Nat.add_zero] at g0
  have g1 := g 1 (by omega)
  rcases pb with pb | ⟨a1, a2, a3, b0, b1⟩ | ⟨a1, a2, a4, a3, b0, b1, b2⟩ | ⟨a1, a2, a3, b0, b1, b2, b3⟩
  · omega
  · have e0 : ((a ++ put r).get! a.size).toNat = 192 + r.toNat / 64 := by omega
    have e1 : ((a ++ put r).get! (a.size + 1)).toNat = 128 + r.toNat % 64 := by omega
    rw [a3]
    exact ⟨by omega, dec2 _ _ _ (by omega) (by omega) (by omega) e0 e1, .inl ⟨rfl, by omega, by omega, e0, e1⟩⟩
  · have g2 := g 2 (by omega)
    have e0 : ((a ++ put r).get! a.size).toNat = 224 + r.toNat / 4096 := by omega
    have e1 : ((a ++ put r).get! (a.size + 1)).toNat = 128 + r.toNat / 64 % 64 := by omega
    have e2 : ((a ++ put r).get! (a.size + 2)).toNat = 128 + r.toNat % 64 := by omega
    rw [a3]
    exact ⟨by omega, dec3 _ _ _ (by omega) (by omega) (by omega) (by omega) e0 e1 e2, .inr (.inl ⟨rfl, by omega, by omega, by omega, e0, e1, e2⟩)⟩
  · have g2 := g 2 (by omega)
    have g3 := g 3 (by omega)
    have e0 : ((a ++ put r).get! a.size).toNat = 240 + r.toNat / 262144 := by omega
    have e1 : ((a ++ put r).get! (a.size + 1)).toNat = 128 + r.toNat / 4096 % 64 := by omega
    have e2 : ((a ++ put r).get! (a.size + 2)).toNat = 128 + r.toNat / 64 % 64 := by omega
    have e3 : ((a ++ put r).get! (a.size + 3)).toNat = 128 + r.toNat % 64 := by omega
    rw [a3]
    exact ⟨by omega, dec4 _ _ _ (by omega) (by omega) (by omega) e0 e1 e2 e3, .inr (.inr ⟨rfl, by omega, by omega, e0, e1, e2, e3⟩)⟩
theorem in_put (a : ByteArray) (r : Int) (n : Nat) (h : 2 ≤ (put r).size) (h0 : 0 < n) (hn : n < (put r).size) : ¬ bord (a ++ put r) (a.size + n) := fun hb => by
  have := hb a.size (by omega)
  rw [(put_form a r h).uw] at this
  omega
theorem last_put (a : ByteArray) (r : Int) (h : 2 ≤ (put r).size) : lastU (a ++ put r) = (r, ((put r).size : Int)) := by
  have F := put_form a r h
  have hz : (a ++ put r).size = a.size + (put r).size := by simp
  have huw := F.uw
  obtain ⟨q, hq, hbq, hqe, hst⟩ := stepB_bord (a ++ put r) (a ++ put r).size (bord_size _) (by omega) (Nat.le_refl _)
  have hqa : q = a.size := by
    rcases Nat.lt_trichotomy q a.size with c | c | c
    · have hm := (uw_many (a ++ put r) q (by omega)).2.2 (a.size - q) (by omega) (by omega)
      rw [show q + (a.size - q) = a.size by omega] at hm
      have := (uw_many (a ++ put r) a.size (by omega)).2.1
      omega
    · exact c
    · have := hbq a.size c
      omega
  subst hqa
  have hf := (stepB_facts (a ++ put r) (a ++ put r).size (by omega) (Nat.le_refl _)).2.2
  have he : (a ++ put r).extract 0 (a ++ put r).size = a ++ put r := by
    refine bya_ext_get (by simp [ByteArray.size_extract]) (fun k hk => ?_)
    have hk' : k < (a ++ put r).size := by simpa [ByteArray.size_extract] using hk
    rw [get_ext _ 0 _ k (by omega) (Nat.le_refl _), Nat.zero_add]
  rw [he, hst] at hf
  rw [hf]
  have hns : strayAt (a ++ put r) a.size = false := by
    cases hs : strayAt (a ++ put r) a.size with
    | false => rfl
    | true => have := (stray_iff _ _).1 hs; rw [F.2.1] at this; simp at this; omega
  have hu : uAt (a ++ put r) a.size = r.toNat := by rw [uAt_rune hns, F.2.1]
  have pb := put_bytes r
  rw [Prod.mk.injEq]
  simp only [hu]
  exact ⟨by omega, by omega⟩
end Go.Proofs
