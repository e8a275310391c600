/-
  UtfOpens, walked.
-/
import Derived.RangeFuncNested
import Derived.RangeFuncBound
import Derived.RangeFuncCalls
import Derived.RangeFuncLeaves
import Derived.Shelf.Abstract
import Derived.Shelf.RegionOpen
import Derived.WalkKit
import Derived.WalkSpells
import Derived.WalkLawsBesides
import Derived.OwnWalkIn
import Derived.TacticsInMore
import Derived.LoopNIn
import Derived.LoopIn
import Derived.BigQuiet
import Derived.RegionIn
import Derived.Deep.QuietTactic
import Derived.Lib.OthersKept
import Derived.Maps.AppendAt
import Derived.Lib.SmallJoins
import Derived.Lib.IndexBytes
import Derived.Sort.BigQuietIn
import Derived.Test.YtahifnjompmcbabDoorOb
import Derived.Test.YtahifnjompmcbabDoorUh
import Derived.Test.YtahifnjompmcbabDoorPi
namespace Go.Proofs
open Go.RowKit Go.Shelf

set_option maxRecDepth 100000
attribute [local go_sem] Oper.semAt_some

theorem wide_fn (f : FuncId) : Fence.wide.fn f = True := rfl
attribute [local go_sem] wide_fn
theorem mixed : Tryd.prog.follows .mixedOrders = true := by kernel_rfl
/-- a world behind w in which nothing that lay has turned -/
structure BelowOf (w : World) where
  world : World
  below : Below w.heap.size w world
instance (w : World) : Inhabited (BelowOf w) := ⟨⟨w, Below.refl _ w⟩⟩
theorem below_drew (w : World) (n : Nat) : Below w.heap.size w (w.drewN n) := ⟨rfl, rfl, rfl, Nat.le_refl _, fun _ _ => rfl⟩
theorem wpIn_region_belowOf {F : Fence} {n : Nat} {P : Program} {id : Nat} {Q : Exit → Act → World → Prop} {a : Act} {w : World} {l : List Oper} (hro : F.round = none) (hm : P.follows .mixedOrders = true) (hB : Region.lexB .any l.toArray = true)
    (h : wpQuietIn F n P l.toArray (fun w' => ∃ p : BelowOf w, w' = p.world) (fun a' => ∀ w', (∃ p : BelowOf w, w' = p.world) → Q .normal a' w') l a) : (Code.region id l.toArray true).wpIn F n P Q a w :=
  wpIn_region_quiet (C := fun w' => ∃ p : BelowOf w, w' = p.world) hro hm hB ⟨⟨w.drewN 1, below_drew w 1⟩, rfl⟩ (by simpa using h)
theorem belowIn_of {F : Fence} {r : Nat} {P : Program} {f : FuncId} {args : Array Value} {w : World} {p : BelowOf w} {v : Value}
    (h : CallsIn F r P f args p.world fun e w' => e = .returned v ∧ Below p.world.heap.size p.world w') : CallsIn F r P f args p.world fun e w'' => e = .returned v ∧ ∃ q : BelowOf w, w'' = q.world :=
  h.mono fun _ w' ⟨he, hb⟩ => ⟨he, ⟨w', p.below.trans (hb.mono p.below.size)⟩, rfl⟩
/-- what the law keeps in memory: the texts, its answer, how many bytes are open -/
def OS (s m : ByteArray) (A N : Nat) (n : Int) (W : World) : Prop := Boxed W A 9 (.string s) ∧ Boxed W (A + 1) 9 (.string m) ∧ Boxed W (A + 1 + 1) 4 (.bool false) ∧ Boxed W N 3 (.int .i64 n)
theorem OS.below {s m : ByteArray} {A N : Nat} {n : Int} {W W' : World} (h : OS s m A N n W) (hb : Below W.heap.size W W') : OS s m A N n W' := ⟨boxed_below h.1 hb h.1.lt, boxed_below h.2.1 hb h.2.1.lt, boxed_below h.2.2.1 hb h.2.2.1.lt, boxed_below h.2.2.2 hb h.2.2.2.lt⟩
theorem OS.own (s m : ByteArray) (A N : Nat) (n : Int) {α : Type} : Own (fun (_ : List α) W => OS s m A N n W) := fun _ _ _ _ h hg hr => ⟨boxed_kept h.1 hg hr, boxed_kept h.2.1 hg hr, boxed_kept h.2.2.1 hg hr, boxed_kept h.2.2.2 hg hr⟩

theorem rejoin {s b : ByteArray} {q n : Nat} (hq : q + n = s.size) (hn : n ≤ b.size) (h : b.extract 0 n = s.extract q s.size) : s ++ b.extract n b.size = s.extract 0 q ++ b := by
  have hz1 : (s ++ b.extract n b.size).size = s.size + (b.size - n) := by simp [ByteArray.size_extract]
  have hz2 : (s.extract 0 q ++ b).size = q + b.size := by simp [ByteArray.size_extract]; omega
  have hz3 : (s.extract 0 q).size = q := by simp [ByteArray.size_extract]; omega
  refine bya_ext_get (by omega) (fun k hk => ?_)
  by_cases h1 : k < q
  · rw [get_left s _ k (by omega), get_left (s.extract 0 q) b k (by omega), get_ext s 0 q k (by omega) (by omega), Nat.zero_add]
  · have e : (s.extract 0 q ++ b).get! k = b.get! (k - q) := by
      have := get_right (s.extract 0 q) b (k - q) (by omega)
      rw [hz3, show q + (k - q) = k by omega] at this
      exact this
    rw [e]
    by_cases h2 : k < s.size
    · rw [get_left s _ k h2]
      have e1 := get_ext b 0 n (k - q) (by omega) hn
      have e2 := get_ext s q s.size (k - q) (by omega) (Nat.le_refl _)
      rw [h, e2, Nat.zero_add, show q + (k - q) = k by omega] at e1
      exact e1
    · have := get_right s (b.extract n b.size) (k - s.size) (by simp [ByteArray.size_extract]; omega)
      rw [show s.size + (k - s.size) = k by omega, get_ext b n b.size (k - s.size) (by omega) (Nat.le_refl _)] at this
      rw [this, show n + (k - s.size) = k - q by omega]
theorem bstr_ne {a b : ByteArray} (h : a ≠ b) : (a.toList == b.toList) = false := by
  rw [ByteArray.toList_eq, ByteArray.toList_eq]
  by_cases e : a.data.toList = b.data.toList
  · exact absurd (Go.WideShapes.bytes_inj e) h
  · simpa using e
theorem put_size4 (r : Int) : (put r).size ≤ 4 := by have := put_bytes r; omega
theorem kept_cell {W : World} {B : Nat} {t : TypeId} {v : Value} (h : Boxed W B t v) (p : BelowOf W) : p.world.cell? ⟨B, 0, none⟩ = some v := (boxed_below h p.below h.lt).cell

set_option maxHeartbeats 8000000 in
theorem opensLaw_any (s m : ByteArray) (k : Int) (w : World) (hs : s.size ≤ 1099511627776) (hm : m.size ≤ 1099511627776) (hk1 : -9223372036854775808 ≤ k) (hk2 : k ≤ 9223372036854775807) (hT : Tab w) :
    Calls Tryd.prog 4 #[.string s, .string m, .int .i64 k] w fun e w' => e = .returned (.bool true) ∧ Below w.heap.size w w' := by
  have hzz := ByteArray.size_append (a := s) (b := m)
  obtain ⟨n, lo, hi, hop, hn3, hns, h0, hpos, hbs, hmore⟩ : ∃ (n : Nat) (lo hi : Int), openU s = ((n : Int), lo, hi) ∧ n ≤ 3 ∧ n ≤ s.size ∧ (n = 0 → lo = 0 ∧ hi = 0) ∧ (n ≠ 0 → 128 ≤ lo ∧ lo ≤ hi ∧ hi ≤ 1114111 ∧ ∀ r, (lo ≤ r ∧ r ≤ hi) ↔ n < (put r).size ∧ (put r).extract 0 n = s.extract (s.size - n) s.size) ∧ bord s (s.size - n) ∧ ∀ p, p ≤ s.size - n → bord s p → bord (s ++ m) p := by
    rcases open_is s with ⟨he, hno⟩ | ⟨q, lo, hi, he, ho, hb, hh⟩
    · exact ⟨0, 0, 0, he, by omega, by omega, fun _ => ⟨rfl, rfl⟩, fun h => absurd rfl h, bord_size s, fun p hp hb => bord_more s m p hp hb (fun q hq => absurd hq (hno q))⟩
    · have hz := ext_size s q (by have := ho.1; omega)
      have h1 := ho.1
      have h2 := ho.2.1
      have hsz : 1 ≤ (s.extract q s.size).size ∧ (s.extract q s.size).size ≤ 3 := by rw [hz]; omega
      obtain ⟨hle, hiff⟩ := hit_some _ hsz hh
      have hlo := (hiff lo).1 ⟨Int.le_refl _, hle⟩
      have hhi := (hiff hi).1 ⟨hle, Int.le_refl _⟩
      refine ⟨s.size - q, lo, hi, he, h2, by omega, fun h => by omega, fun _ => ⟨?_, hle, ?_, fun r => ?_⟩, by rw [show s.size - (s.size - q) = q by omega]; exact hb, fun p hp hbp => bord_more s m p (by omega) hbp (fun q' hq' => by rw [opn_unique hq' ho]; omega)⟩
      · unfold Pre P1 P2 P3 P4 at hlo; omega
      · unfold Pre P1 P2 P3 P4 at hhi; omega
      · rw [hiff r, pre_put _ hsz, hz, show s.size - (s.size - q) = q by omega]
  obtain ⟨ni, hni⟩ : ∃ ni : Int, (n : Int) = ni := ⟨_, rfl⟩
  rw [hni] at hop
  have HOP : Hid (∀ W : World, Tab W → Calls Tryd.prog 10 #[.string s] W fun e w' => e = .returned (.tuple #[.int .i64 ni, .int .i64 lo, .int .i64 hi]) ∧ Below W.heap.size W w') := fun W hW => by have := open_any s W (by unfold maxLen; omega) hW; rw [hop] at this; exact this
  have HBR : Hid (∀ p, p ≤ s.size → ∀ W : World, Calls Tryd.prog 7 #[.string (s ++ m), .int .i64 p] W fun e w' => e = .returned (.bool (borderU (s ++ m) p)) ∧ Below W.heap.size W w') := fun p hp W => border_in (s ++ m) p W (by omega) (by omega)
  obtain ⟨q, hq⟩ : ∃ q, s.size - n = q := ⟨_, rfl⟩
  rw [hq] at hbs hmore hpos
  have hqi : (s.size : Int) - ni = (q : Int) := by omega
  have hnt : ni.toNat = n := by omega
  have hni0 : 0 ≤ ni := by omega
  have hni3 : ni ≤ 3 := by omega
  have hnis : ni ≤ s.size := by omega
  have hqs : q ≤ s.size := by omega
  have HMO : Hid (∀ p, p ≤ q → bord s p → borderU (s ++ m) p = true) := fun p hp hb => (border_iff (s ++ m) p (by omega)).2 (hmore p hp hb)
  have HB0 : Hid (borderU (s ++ m) q = true) := HMO.out q (Nat.le_refl _) hbs
  have HP : Hid (n ≠ 0 → 128 ≤ lo ∧ lo ≤ hi ∧ hi ≤ 1114111 ∧ ∀ r, (lo ≤ r ∧ r ≤ hi) ↔ n < (put r).size ∧ (put r).extract 0 n = s.extract q s.size) := hpos
  have H0 : Hid (n = 0 → lo = 0 ∧ hi = 0) := h0
  obtain ⟨b, hb1, hb2, hbn⟩ : ∃ b, (ni == 0) = b ∧ (hi == 0) = b ∧ (b = true ↔ n = 0) := by
    by_cases e : n = 0
    · obtain ⟨_, e2⟩ := h0 e
      exact ⟨true, by rw [beq_iff_eq]; omega, by rw [e2]; rfl, by simp [e]⟩
    · have := hpos e
      exact ⟨false, by rw [beq_eq_false_iff_ne]; omega, by rw [beq_eq_false_iff_ne]; omega, by simp [e]⟩
  have HBN : Hid (b = true ↔ n = 0) := hbn
  have HNI : Hid ((n : Int) = ni) := hni
  have hnd : decide ((s.size : Int) < ni) = false := by rw [decide_eq_false_iff_not]; omega
  have hnd3 : decide ((3 : Int) < ni) = false := by rw [decide_eq_false_iff_not]; omega
  have hnd0 : decide (ni < 0) = false := by rw [decide_eq_false_iff_not]; omega
  clear hbn hni hn3 hns
  clear hop h0 hpos hbs hmore hzz
  refine (callsIn_wide (n := 9)).1 ?_
  refine callsIn_of_wp_marks Tryd.func4 rfl trivial ?_ rfl
  simp only [Tryd.ntmps4, List.size_toArray, List.length_cons, List.length_nil, Nat.reduceAdd, Nat.reduceSub, Array.replicate_succ, Array.replicate_zero, List.push_toArray, List.append_toArray, List.nil_append, List.cons_append]
  have b0 : Boxed (w.alloc (.cells #[.string s] 9)) w.heap.size 9 (.string s) := Boxed.new _ _ _
  have b1 : Boxed ((w.alloc (.cells #[.string s] 9)).alloc (.cells #[.string m] 9)) (w.heap.size + 1) 9 (.string m) := by have := Boxed.new (w.alloc (.cells #[.string s] 9)) 9 (.string m); rwa [World.size_alloc] at this
  have b2 : Boxed (((w.alloc (.cells #[.string s] 9)).alloc (.cells #[.string m] 9)).alloc (.cells #[.bool false] 4)) (w.heap.size + 1 + 1) 4 (.bool false) := by have := Boxed.new ((w.alloc (.cells #[.string s] 9)).alloc (.cells #[.string m] 9)) 4 (.bool false); rwa [World.size_alloc, World.size_alloc] at this
  have hB0 : Below w.heap.size w (((w.alloc (.cells #[.string s] 9)).alloc (.cells #[.string m] 9)).alloc (.cells #[.bool false] 4)) := (((Below.refl _ w).alloc (Nat.le_refl _) _).alloc (by simp) _).alloc (by simp; omega) _
  have HT : Hid (Tab (((w.alloc (.cells #[.string s] 9)).alloc (.cells #[.string m] 9)).alloc (.cells #[.bool false] 4))) := hT.below hB0 hT.pos
  have HT0 : Hid (Tab w) := hT
  have k0 : Hid (Boxed (((w.alloc (.cells #[.string s] 9)).alloc (.cells #[.string m] 9)).alloc (.cells #[.bool false] 4)) w.heap.size 9 (.string s)) := (b0.alloc _).alloc _
  have k1 : Hid (Boxed (((w.alloc (.cells #[.string s] 9)).alloc (.cells #[.string m] 9)).alloc (.cells #[.bool false] 4)) (w.heap.size + 1) 9 (.string m)) := b1.alloc _
  have k2 : Hid (Boxed (((w.alloc (.cells #[.string s] 9)).alloc (.cells #[.string m] 9)).alloc (.cells #[.bool false] 4)) (w.heap.size + 1 + 1) 4 (.bool false)) := b2
  have HB : Hid (Below w.heap.size w (((w.alloc (.cells #[.string s] 9)).alloc (.cells #[.string m] 9)).alloc (.cells #[.bool false] 4))) := hB0
  clear b0 b1 b2 hB0 hT
  gi_wp2_with fail
  skip
  refine (callsIn_wide.2 (shown_any _ HT.out)).mono ?_
  rintro e w1 ⟨rfl, hb1⟩
  replace k0 : Hid (Boxed w1 w.heap.size 9 (.string s)) := boxed_below k0.out hb1 k0.out.lt
  replace k1 : Hid (Boxed w1 (w.heap.size + 1) 9 (.string m)) := boxed_below k1.out hb1 k1.out.lt
  replace k2 : Hid (Boxed w1 (w.heap.size + 1 + 1) 4 (.bool false)) := boxed_below k2.out hb1 k2.out.lt
  replace HB : Hid (Below w.heap.size w w1) := HB.out.trans (hb1.mono HB.out.size)
  clear hb1 HT
  have c0 := k0.out.cell
  gi_wp2_with fail
  skip
  refine (callsIn_wide.2 (HOP.out _ (HT0.out.below HB.out HT0.out.pos))).mono ?_
  rintro e w2 ⟨rfl, hb2⟩
  replace k0 : Hid (Boxed w2 w.heap.size 9 (.string s)) := boxed_below k0.out hb2 k0.out.lt
  replace k1 : Hid (Boxed w2 (w.heap.size + 1) 9 (.string m)) := boxed_below k1.out hb2 k1.out.lt
  replace k2 : Hid (Boxed w2 (w.heap.size + 1 + 1) 4 (.bool false)) := boxed_below k2.out hb2 k2.out.lt
  replace HB : Hid (Below w.heap.size w w2) := HB.out.trans (hb2.mono HB.out.size)
  clear hb2 HOP c0
  have l0 := k0.out.lt
  have l1 := k1.out.lt
  have l2 := k2.out.lt
  have c0 := k0.out.cell
  have c1 := k1.out.cell
  gi_wp2_with fail
  skip
  refine (callsIn_wide.2 (HBR.out q hqs _)).mono ?_
  rw [HB0.out]
  rintro e w3 ⟨rfl, hb3⟩
  have hO3 : OS s m w.heap.size w2.heap.size ni w3 := OS.below ⟨k0.out.alloc _, k1.out.alloc _, k2.out.alloc _, Boxed.new _ _ _⟩ hb3
  have HB3 : Hid (Below w.heap.size w w3) := (HB.out.alloc HB.out.size _).trans (hb3.mono (by simp; have := HB.out.size; omega))
  have HO3 : Hid (OS s m w.heap.size w2.heap.size ni w3) := hO3
  have hN3 : w2.heap.size < w3.heap.size := hO3.2.2.2.lt
  obtain ⟨N, hN⟩ : ∃ N, w2.heap.size = N := ⟨_, rfl⟩
  have HL2 : Hid (w.heap.size + 1 + 1 < N) := by rw [← hN]; exact l2
  rw [hN] at HO3 hN3
  rw [hN]
  clear hb3 hO3 HB0 c0 c1 l0 l1 l2 k0 k1 k2 HB hnd hnd3 hnd0 hb2 hN
  have c0 := HO3.out.1.cell
  gi_wp2_with (gi_at_call 11; refine (callsIn_wide.2 (all_any _ _)).mono ?_; rintro e w' ⟨rfl, rfl⟩)
  have hB3 : Below w.heap.size w (w3.alloc (.cells #[.string s] 9)) := HB3.out.alloc HB3.out.size _
  refine wpIn_rangeFunc_ownF rfl (by omega) (gf := 20) (lb := #[.pointer (some ⟨w3.heap.size, 0, none⟩)]) rfl trivial (enters_of Tryd.func20 (by kernel_rfl) rfl)
    (all_stops 8 (by omega) w3.heap.size s (by unfold maxLen; omega) _ (by simp) (Boxed.new w3 9 (.string s)).cell) kpA_t kpA_b (Below.refl _ _) (fun _ => rfl)
    (fun _ W => OS s m w.heap.size N ni W ∧ Below w.heap.size w W)
    (fun _ pre _ => ∃ x ∈ vals pre, x.1 ≤ q ∧ borderU (s ++ m) x.1 = false)
    (OwnFrom.and (Own.from (OS.own s m w.heap.size N ni) _) (ownFrom_below (Nat.le_refl _) (by have := HB3.out.size; simp; omega)))
    (fun _ => Own.from (fun _ _ _ _ h _ _ => h) _)
    ⟨⟨HO3.out.1.alloc _, HO3.out.2.1.alloc _, HO3.out.2.2.1.alloc _, HO3.out.2.2.2.alloc _⟩, hB3⟩
    (fun x => { tmps := #[.string s, .string m, .int .i64 k, .pointer (some ⟨w.heap.size, 0, none⟩), .pointer (some ⟨w.heap.size + 1, 0, none⟩), undef, .pointer (some ⟨w.heap.size + 1 + 1, 0, none⟩), .bool true, .pointer (some ⟨N, 0, none⟩), .int .i64 lo, .int .i64 hi, .int .i64 x.1.1, undef, undef, undef, undef, undef, undef, undef, .bool true, .bool true, .bool false, .tuple #[.int .i64 ni, .int .i64 lo, .int .i64 hi], .string s, .tuple #[.int .i64 ni, .int .i64 lo, .int .i64 hi], .int .i64 ni, .int .i64 lo, .int .i64 hi, .int .i64 ni, .bool false, .bool false, .int .i64 ni, .bool false, .bool false, .bool false, .int .i64 ni, .string s, .int .i64 ↑s.size, .bool false, .bool false, .bool false, .int .i64 ni, .bool b, .int .i64 hi, .bool b, .bool false, .bool false, .string s, .string m, .string (s ++ m), .string s, .int .i64 ↑s.size, .int .i64 ni, .int .i64 ↑q, .bool true, .bool false, .string s, .func (.func 20) #[] #[.pointer (some ⟨w3.heap.size, 0, none⟩)], .int .i64 x.1.1, .int .i64 x.1.2, undef, undef, undef, undef, undef, undef, undef, undef, undef, undef, undef, undef, undef, undef, undef, undef, undef, undef, undef, undef, undef, undef, undef, undef, undef, undef, undef, undef, undef, undef, undef, undef, undef, undef, undef, undef, undef, undef, undef, undef, undef, undef, undef, undef, undef, undef, undef, undef, undef, undef, undef, undef, undef, undef, undef, undef, undef, undef, undef, undef, undef, undef, undef, undef, undef, undef, undef, undef, undef, undef, undef, undef, undef, undef, undef, undef, undef, undef, undef, undef, undef, undef, undef, undef, undef, undef, undef, undef, undef, undef, undef, undef, undef, undef, undef, undef, undef, undef, undef, undef, undef, undef, undef, undef, undef, undef, undef, undef, undef, undef, undef, undef, undef, undef, undef, undef, undef, undef, undef, undef, undef, undef, undef, undef, undef], defers := [] }) ?assign ?body ?done ?stop
  case assign =>
    intro l x W K hK
    gi_wp2
    exact hK
  case body =>
    as_aux_lemma =>
      rintro l pre x W ⟨hO, hB⟩ _
      have HO : Hid (OS s m w.heap.size N ni W) := hO
      have HBW : Hid (Below w.heap.size w W) := hB
      have hx := x.2.1
      clear hO hB c0 hB3
      have c0 := HO.out.1.cell
      have c1 := HO.out.2.1.cell
      have cN := HO.out.2.2.2.cell
      by_cases hle : x.1.1 ≤ q
      · have hd : decide ((x.1.1 : Int) ≤ (q : Int)) = true := by rw [decide_eq_true_iff]; omega
        have hd' : decide (x.1.1 ≤ q) = true := by rw [decide_eq_true_iff]; exact hle
        have HC := HBR.out x.1.1 (by omega)
        cases hbb : borderU (s ++ m) x.1.1 with
        | true =>
          rw [hbb] at HC
          have HC' : Hid (∀ W : World, Calls Tryd.prog 7 #[.string (s ++ m), .int .i64 x.1.1] W fun e w' => e = .returned (.bool true) ∧ Below W.heap.size W w') := HC
          clear HC hbb
          gi_wp2_with (gi_at_call 7; refine (CallsIn.inRound l (callsIn_wide.2 (HC'.out _))).mono ?_; rintro e w' ⟨rfl, hb⟩)
          exact ⟨keeps_below hb, kpA_of (keeps_below hb) (fun v hv => cell_kept hv (grown_below hb) (fun r e => by cases e)), HO.out.below hb, HBW.out.trans (hb.mono HBW.out.size)⟩
        | false =>
          rw [hbb] at HC
          have HC' : Hid (∀ W : World, Calls Tryd.prog 7 #[.string (s ++ m), .int .i64 x.1.1] W fun e w' => e = .returned (.bool false) ∧ Below W.heap.size W w') := HC
          have HX : Hid (x.1.1 ≤ q ∧ borderU (s ++ m) x.1.1 = false) := ⟨hle, hbb⟩
          clear HC hbb
          gi_wp2_with (gi_at_call 7; refine (CallsIn.inRound l (callsIn_wide.2 (HC'.out _))).mono ?_; rintro e w' ⟨rfl, hb⟩; have hO' := HO.out.below hb; have c2 := hO'.2.2.1.cell; have f2 := hO'.2.2.1.frozen)
          exact ⟨(keeps_below hb).trans (KeepsOthers.setCell _ _ _), x.1, by rw [vals_snoc]; simp, HX.out⟩
      · have hd : decide ((x.1.1 : Int) ≤ (q : Int)) = false := by rw [decide_eq_false_iff_not]; omega
        have hd' : decide (x.1.1 ≤ q) = false := by rw [decide_eq_false_iff_not]; exact hle
        gi_wp2
        skip
        gi_wp2
        exact ⟨KeepsOthers.refl _, ⟨KeepsWalks.refl _, fun v hv => hv⟩, HO.out, HBW.out⟩
  case stop =>
    as_aux_lemma =>
      rintro D c pre W _ hpre ⟨x, hx, hxq, hxb⟩ _
      exfalso
      have hxu : x ∈ units s := hpre.1.subset hx
      have hm := mem_unitsN s x _ _ hxu
      have hbx := (places_iff s x.1 hm.1 s.size 0 (by omega) (bord_zero s) (Nat.zero_le _)).1 ⟨x, hxu, rfl⟩
      have := HMO.out x.1 hxq hbx
      rw [hxb] at this
      cases this
  case done =>
    rintro D ys W hD _ ⟨hO, hB⟩ hK
    have HO : Hid (OS s m w.heap.size N ni W) := hO
    have HBW : Hid (Below w.heap.size w W) := hB
    have HK : Hid (W.heap[D]? = some (.deferred (some []))) := hK
    have HD : Hid (w.heap.size ≤ D) := by have := HB3.out.size; simp at hD; show w.heap.size ≤ D; omega
    clear hO hB hK hD c0 hB3 HO3 HB3 HBR HMO hN3
    have cN := HO.out.2.2.2.cell
    have c2 := HO.out.2.2.1.cell
    have f2 := HO.out.2.2.1.frozen
    cases b with
    | true =>
      as_aux_lemma =>
        obtain ⟨rfl, -⟩ := H0.out (HBN.out.1 rfl)
        clear HP H0 HBN
        gi_wp2
        have hK' := (KeepsOthers.setCell W ⟨w.heap.size + 1 + 1, 0, none⟩ (.bool true)).same D _ HK.out rfl
        refine ⟨by simp, .inl ⟨_, _, rfl, run_takeDeferred hK', ?_⟩⟩
        have g1 := (boxed_putObj (HO.out.2.2.1.set (.bool true)) (.deferred none) hK' rfl).cell
        refine ⟨.bool true, ?_, rfl, (HBW.out.setCell (p := ⟨w.heap.size + 1 + 1, 0, none⟩) (by simp; omega) _).trans (belowK_b (w := w) (Nat.le_refl _) _ D _ _ HD.out hK' rfl rfl)⟩
        simp [results, Tryd.f4, go_sem, g1]
    | false =>
      have hn0 : n ≠ 0 := fun e => by have := HBN.out.2 e; cases this
      obtain ⟨hlo, hlh, hhi, hiff⟩ := HP.out hn0
      have HIF : Hid (∀ r, (lo ≤ r ∧ r ≤ hi) ↔ n < (put r).size ∧ (put r).extract 0 n = s.extract q s.size) := hiff
      have hqn : q + n = s.size := by omega
      have hzq : (s.extract 0 q).size = q := by simp [ByteArray.size_extract]; omega
      have hbad : ∀ r, lo ≤ r → r ≤ hi → ∀ W : World, Calls Tryd.prog 7 #[.string (s ++ (put r).extract n (put r).size), .int .i64 s.size] W fun e w' => e = .returned (.bool false) ∧ Below W.heap.size W w' := fun r h1 h2 W => by
        obtain ⟨g1, g2⟩ := (hiff r).1 ⟨h1, h2⟩
        have h4 := put_size4 r
        rw [rejoin hqn (by omega) g2]
        have hz : (s.extract 0 q ++ put r).size = q + (put r).size := by rw [ByteArray.size_append, hzq]
        have := border_in (s.extract 0 q ++ put r) s.size W (by omega) (by omega)
        have hf : borderU (s.extract 0 q ++ put r) s.size = false := by
          rw [Bool.eq_false_iff]
          intro hc
          have hb := (border_iff _ _ (by omega)).1 hc
          rw [show s.size = (s.extract 0 q).size + n by omega] at hb
          exact in_put _ r n (by omega) (by omega) g1 hb
        rw [hf] at this
        exact this
      have hlast : ∀ r, lo ≤ r → r ≤ hi → ∀ W : World, Calls Tryd.prog 13 #[.string (s ++ (put r).extract n (put r).size)] W fun e w' => e = .returned (.tuple #[.int .i64 r, .int .i64 ((put r).size : Int)]) ∧ Below W.heap.size W w' := fun r h1 h2 W => by
        obtain ⟨g1, g2⟩ := (hiff r).1 ⟨h1, h2⟩
        have h4 := put_size4 r
        rw [rejoin hqn (by omega) g2]
        have hz : (s.extract 0 q ++ put r).size = q + (put r).size := by rw [ByteArray.size_append, hzq]
        have := last_any (s.extract 0 q ++ put r) W (by unfold maxLen; omega)
        rw [last_put _ r (by omega)] at this
        exact this
      have HLA : Hid (∀ r, lo ≤ r → r ≤ hi → ∀ W : World, Calls Tryd.prog 13 #[.string (s ++ (put r).extract n (put r).size)] W fun e w' => e = .returned (.tuple #[.int .i64 r, .int .i64 ((put r).size : Int)]) ∧ Below W.heap.size W w') := hlast
      obtain ⟨Bl, hBl⟩ : ∃ Bl, put lo = Bl := ⟨_, rfl⟩
      have hlz := ((hiff lo).1 ⟨Int.le_refl _, hlh⟩).1
      have cB : Hid (∀ W : World, Calls Tryd.prog 7 #[.string (s ++ Bl.extract n Bl.size), .int .i64 s.size] W fun e w' => e = .returned (.bool false) ∧ Below W.heap.size W w') := fun W => by have := hbad lo (Int.le_refl _) hlh W; rw [hBl] at this; exact this
      have cP : Hid (∀ W : World, Calls Tryd.prog 12 #[.int .i64 lo] W fun e w' => e = .returned (.string Bl) ∧ Below W.heap.size W w') := fun W => by have := put_any lo W; rw [hBl] at this; exact this
      have hl4 := put_size4 lo
      rw [hBl] at hlz hl4
      have hnb : ni ≤ (Bl.size : Int) := by have := HNI.out; omega
      have hdl : decide (hi < lo) = false := by rw [decide_eq_false_iff_not]; omega
      clear HP H0 hbad hlast hiff hBl hlz
      have q0 := kept_cell HO.out.1
      have qN := kept_cell HO.out.2.2.2
      have c0 := HO.out.1.cell
      gi_wp2_with fail
      refine wpIn_region_belowOf rfl mixed (by kernel_rfl) ?_
      repeat (gi_big_quiet_step ((first | (gi_at_call 12; exact belowIn_of (callsIn_wide.2 (cP.out _))) | (gi_at_call 7; exact belowIn_of (callsIn_wide.2 (cB.out _))))))
      refine wpQuietIn_nil ?_
      intro W1 hw'
      have hb1 : Below W.heap.size W W1 := by obtain ⟨⟨W', h⟩, e⟩ := hw'; rw [e]; exact h
      clear hw'
      have HO1 : Hid (OS s m w.heap.size N ni W1) := HO.out.below hb1
      have HB1 : Hid (Below w.heap.size w W1) := HBW.out.trans (hb1.mono HBW.out.size)
      have HK1 : Hid (W1.heap[D]? = some (.deferred (some []))) := (hb1.block D (Array.getElem?_eq_some_iff.1 HK.out).1).trans HK.out
      clear hb1 q0 qN c0 c2 f2 cN HO HBW HK cB cP
      obtain ⟨d, hd⟩ : ∃ d, hi - lo + 1 = d := ⟨_, rfl⟩
      have hd1 : 1 ≤ d := by omega
      have hd2 : d ≤ 1114112 := by omega
      have fin : ∀ (t r : Int), 0 ≤ t → t < d → lo + t = r → lo ≤ r ∧ r ≤ hi := fun t r h1 h2 h3 => by omega
      have FIN : Hid (∀ (t r : Int), 0 ≤ t → t < d → lo + t = r → lo ≤ r ∧ r ≤ hi) := fin
      clear fin
      by_cases hk : k < 0
      obtain ⟨t, ht⟩ : ∃ t, -(k + 1).tmod d = t := ⟨_, rfl⟩
      have hte : t = (-(k + 1)) % d := by rw [← ht, ← Int.neg_tmod, Int.tmod_eq_emod_of_nonneg (by omega)]
      have ht0 : 0 ≤ t := by rw [hte]; exact Int.emod_nonneg _ (by omega)
      have htd : t < d := by rw [hte]; exact Int.emod_lt_of_pos _ (by omega)
      clear hte
      obtain ⟨r, hr⟩ : ∃ r, lo + t = r := ⟨_, rfl⟩
      have HR := FIN.out t r ht0 htd hr
      gi_wp2_with fail
      clear ht ht0 htd hr hk hd
      rotate_left
      obtain ⟨t, ht⟩ : ∃ t, k.tmod d = t := ⟨_, rfl⟩
      have hte : t = k % d := by rw [← ht, Int.tmod_eq_emod_of_nonneg (by omega)]
      have ht0 : 0 ≤ t := by rw [hte]; exact Int.emod_nonneg _ (by omega)
      have htd : t < d := by rw [hte]; exact Int.emod_lt_of_pos _ (by omega)
      have ht2 : k % d = t := hte.symm
      clear hte
      obtain ⟨r, hr⟩ : ∃ r, lo + t = r := ⟨_, rfl⟩
      have HR := FIN.out t r ht0 htd hr
      gi_wp2_with fail
      first | rw [show wrap64 (lo + k % d) = r by rw [ht2, hr]; exact IntWalk.wrap64_in _ (by omega)] | skip
      clear ht ht0 htd ht2 hr hk hd
      all_goals
        obtain ⟨g1, g2⟩ := (HIF.out r).1 HR
        have h4 := put_size4 r
        have cL := HLA.out r HR.1 HR.2
        have cR := put_any r W1
        obtain ⟨Bb, hBb⟩ : ∃ Bb, put r = Bb := ⟨_, rfl⟩
        rw [hBb] at g1 g2 h4 cL cR
        have CL : Hid (∀ W : World, Calls Tryd.prog 13 #[.string (s ++ Bb.extract n Bb.size)] W fun e w' => e = .returned (.tuple #[.int .i64 r, .int .i64 (Bb.size : Int)]) ∧ Below W.heap.size W w') := cL
        clear cL hBb HLA
        refine (callsIn_wide.2 cR).mono ?_
        rintro e W2 ⟨rfl, hb2⟩
        have HO2 : Hid (OS s m w.heap.size N ni W2) := HO1.out.below hb2
        have HB2 : Hid (Below w.heap.size w W2) := HB1.out.trans (hb2.mono HB1.out.size)
        have HK2 : Hid (W2.heap[D]? = some (.deferred (some []))) := (hb2.block D (Array.getElem?_eq_some_iff.1 HK1.out).1).trans HK1.out
        clear cR hb2 HO1 HB1 HK1
        have hbd : decide ((Bb.size : Int) ≤ ni) = false := by have := HNI.out; rw [decide_eq_false_iff_not]; omega
        have hnb2 : ni ≤ (Bb.size : Int) := by have := HNI.out; omega
        have c0 := HO2.out.1.cell
        have cN := HO2.out.2.2.2.cell
        gi_wp2_with fail
        gi_big_quiet_th (fail)
        have HO3 : Hid (OS s m w.heap.size N ni (W2.drewN nq)) := HO2.out.below (below_drew W2 nq)
        have HB3 : Hid (Below w.heap.size w (W2.drewN nq)) := HB2.out.trans ((below_drew W2 nq).mono HB2.out.size)
        have HK3 : Hid ((W2.drewN nq).heap[D]? = some (.deferred (some []))) := HK2.out
        clear c0 cN HO2 HB2 HK2
        generalize W2.drewN nq = W3 at *
        have q0 := kept_cell HO3.out.1
        have qN := kept_cell HO3.out.2.2.2
        gi_wp2_with fail
        refine wpIn_region_belowOf rfl mixed (by kernel_rfl) ?_
        repeat (gi_big_quiet_step ((gi_at_call 13; exact belowIn_of (callsIn_wide.2 (CL.out _)))))
        refine wpQuietIn_nil ?_
        intro W4 hw'
        have hb4 : Below W3.heap.size W3 W4 := by obtain ⟨⟨W', h⟩, e⟩ := hw'; rw [e]; exact h
        clear hw'
        have HO4 : Hid (OS s m w.heap.size N ni W4) := HO3.out.below hb4
        have HB4 : Hid (Below w.heap.size w W4) := HB3.out.trans (hb4.mono HB3.out.size)
        have HK4 : Hid (W4.heap[D]? = some (.deferred (some []))) := (hb4.block D (Array.getElem?_eq_some_iff.1 HK3.out).1).trans HK3.out
        clear hb4 q0 qN CL HO3 HB3 HK3
        gi_wp2_with fail
        have cW := put_any (lo - 1) W4
        have hw := HIF.out (lo - 1)
        obtain ⟨Bw, hBw⟩ : ∃ Bw, put (lo - 1) = Bw := ⟨_, rfl⟩
        rw [hBw] at cW hw
        have HW : Hid (¬ (n < Bw.size ∧ Bw.extract 0 n = s.extract q s.size)) := fun h => by have := hw.2 h; omega
        clear hw hBw
        refine (callsIn_wide.2 cW).mono ?_
        rintro e W5 ⟨rfl, hb5⟩
        have HO5 : Hid (OS s m w.heap.size N ni W5) := HO4.out.below hb5
        have HB5 : Hid (Below w.heap.size w W5) := HB4.out.trans (hb5.mono HB4.out.size)
        have HK5 : Hid (W5.heap[D]? = some (.deferred (some []))) := (hb5.block D (Array.getElem?_eq_some_iff.1 HK4.out).1).trans HK4.out
        clear hb5 cW HO4 HB4 HK4
        gi_wp2_with fail
        have cA := put_any (hi + 1) W5
        have ha := HIF.out (hi + 1)
        obtain ⟨Ba, hBa⟩ : ∃ Ba, put (hi + 1) = Ba := ⟨_, rfl⟩
        rw [hBa] at cA ha
        have HA : Hid (¬ (n < Ba.size ∧ Ba.extract 0 n = s.extract q s.size)) := fun h => by have := ha.2 h; omega
        clear ha hBa
        refine (callsIn_wide.2 cA).mono ?_
        rintro e W6 ⟨rfl, hb6⟩
        have HO6 : Hid (OS s m w.heap.size N ni W6) := HO5.out.below hb6
        have HB6 : Hid (Below w.heap.size w W6) := HB5.out.trans (hb6.mono HB5.out.size)
        have HK6 : Hid (W6.heap[D]? = some (.deferred (some []))) := (hb6.block D (Array.getElem?_eq_some_iff.1 HK5.out).1).trans HK5.out
        clear hb6 cA HO5 HB5 HK5 HIF hlo hlh hhi HR FIN hdl
        have cN := HO6.out.2.2.2.cell
        have c2 := HO6.out.2.2.1.cell
        have f2 := HO6.out.2.2.1.frozen
        have hni := HNI.out
        rcases (show (n < Bw.size ∨ ¬ n < Bw.size) ∧ (n < Ba.size ∨ ¬ n < Ba.size) by omega) with ⟨z1 | z1, z2 | z2⟩
        all_goals
          first
            | (have hne1 := bstr_ne (fun h => HW.out ⟨z1, h⟩); have zd1 : decide (ni < (Bw.size : Int)) = true := by rw [decide_eq_true_iff]; omega); (have zl1 : ni ≤ (Bw.size : Int) := by omega)
            | (have zd1 : decide (ni < (Bw.size : Int)) = false := by rw [decide_eq_false_iff_not]; omega)
          first
            | (have hne2 := bstr_ne (fun h => HA.out ⟨z2, h⟩); have zd2 : decide (ni < (Ba.size : Int)) = true := by rw [decide_eq_true_iff]; omega); (have zl2 : ni ≤ (Ba.size : Int) := by omega)
            | (have zd2 : decide (ni < (Ba.size : Int)) = false := by rw [decide_eq_false_iff_not]; omega)
          clear HW HA z1 z2 hni
          gi_wp2_with fail
          gi_big_quiet_th (fail)
          gi_wp2
          have hO7 := HO6.out.below (below_drew W6 nq)
          have hB7 : Below w.heap.size w (W6.drewN nq) := HB6.out.trans ((below_drew W6 nq).mono HB6.out.size)
          have hK7 : (W6.drewN nq).heap[D]? = some (.deferred (some [])) := HK6.out
          have hK' := (KeepsOthers.setCell (W6.drewN nq) ⟨w.heap.size + 1 + 1, 0, none⟩ (.bool true)).same D _ hK7 rfl
          refine ⟨by simp, .inl ⟨_, _, rfl, run_takeDeferred hK', ?_⟩⟩
          have g1 := (boxed_putObj (hO7.2.2.1.set (.bool true)) (.deferred none) hK' rfl).cell
          refine ⟨.bool true, ?_, rfl, (hB7.setCell (p := ⟨w.heap.size + 1 + 1, 0, none⟩) (by simp; omega) _).trans (belowK_b (w := w) (Nat.le_refl _) _ D _ _ HD.out hK' rfl rfl)⟩
          simp [results, Tryd.f4, go_sem, g1]
end Go.Proofs
