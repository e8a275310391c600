/-
  what RoundSure wants besides.
-/
import Derived.RangeFuncNested
import Derived.RangeFuncBound
import Derived.RangeFuncCalls
import Derived.RangeFuncLeaves
import Derived.Shelf.Abstract
import Derived.Shelf.RegionOpen
import Derived.WalkKit
import Derived.WalkSpells
import Derived.WalkLawsBesides
import Derived.OwnWalkIn
import Derived.TacticsInMore
import Derived.LoopNIn
import Derived.LoopIn
import Derived.BigQuiet
import Derived.RegionIn
import Derived.Deep.QuietTactic
import Derived.Deep.RegionWith
import Derived.Lib.OthersKept
import Derived.Maps.AppendAt
import Derived.Lib.SmallJoins
import Derived.Shelf.SlSortCmp.QuietGrown
import Derived.ArgAppend
import Derived.Below
import Derived.Deep.LoopGhost
import Derived.Laws.CopyOwn
import Derived.Laws.MakeOwn
import Derived.Lib.AppendStr
import Derived.Lib.ConvBytes
import Derived.Lib.IndexBytes
import Derived.Lib.ParseIntB
import Derived.RangeFuncBox
import Derived.WalkMore
import Derived.Shelf.Small.Utf8
import Derived.Deep.SlicePairs
import Derived.SizedLaws
import Derived.Test.YtcfcjljapamcoabGreatDoorMpar
import Derived.Test.YtcfcjljapamcoabGreatDoorMpbr
import Derived.Test.YtcfcjljapamcoabGreatDoorVbr
import Derived.Test.YtcfcjljapamcoabGreatDoorVcr
import Derived.Test.YtcfcjljapamcoabGreatDoorMpcr
import Derived.Test.YtcfcjljapamcoabGreatDoorWar
import Derived.Test.YtcfcjljapamcoabGreatDoorWbr
import Derived.Test.YtcfcjljapamcoabGreatDoorWcr
import Derived.Test.YtcfcjljapamcoabGreatDoorMpdr
import Derived.Test.YtcfcjljapamcoabGreatDoorMgar
import Derived.Test.YtcfcjljapamcoabGreatDoorMgbr
import Derived.Test.YtcfcjljapamcoabGreatDoorMper
import Derived.Test.YtcfcjljapamcoabGreatDoorTer
import Derived.Test.YtcfcjljapamcoabGreatDoorMgdr
import Derived.Test.YtcfcjljapamcoabGreatDoorMger
import Derived.Test.YtcfcjljapamcoabGreatDoorMpfr
import Derived.Test.YtcfcjljapamcoabGreatDoorMggr
import Derived.Test.YtcfcjljapamcoabGreatDoorMpgr
import Derived.Test.YtcfcjljapamcoabGreatDoorMghr
import Derived.Test.YtcfcjljapamcoabGreatDoorZ0r
import Derived.Test.YtcfcjljapamcoabGreatDoorYbr
import Derived.Test.YtcfcjljapamcoabGreatDoorMphr
import Derived.Test.YtcfcjljapamcoabGreatDoorMpir
import Derived.Test.YtcfcjljapamcoabGreatDoorMpjr
import Derived.Test.YtcfcjljapamcoabGreatDoorMpkr
import Derived.Test.YtcfcjljapamcoabGreatDoorYer
import Derived.Test.YtcfcjljapamcoabGreatDoorYfr
import Derived.Test.YtcfcjljapamcoabGreatDoorMplr
import Derived.Test.YtcfcjljapamcoabGreatDoorMpmr
import Derived.Test.YtcfcjljapamcoabGreatDoorYkr
import Derived.Test.YtcfcjljapamcoabGreatDoorMgir
import Derived.Test.YtcfcjljapamcoabGreatDoorMpnr
import Derived.Test.YtcfcjljapamcoabGreatDoorYnr
import Derived.Test.YtcfcjljapamcoabGreatDoorZ1r
import Derived.Test.YtcfcjljapamcoabGreatDoorMpor
import Derived.Test.YtcfcjljapamcoabGreatDoorZ3r
import Derived.Test.YtcfcjljapamcoabGreatDoorYqr
import Derived.Test.YtcfcjljapamcoabGreatDoorZ4r
import Derived.Test.YtcfcjljapamcoabGreatDoorZ5r
import Derived.Test.YtcfcjljapamcoabGreatDoorMppr
import Derived.Test.YtcfcjljapamcoabGreatDoorMgjr
import Derived.Test.YtcfcjljapamcoabGreatDoorZ6r
import Derived.Test.YtcfcjljapamcoabGreatDoorZ7r
import Derived.Test.YtcfcjljapamcoabGreatDoorMpqr
import Derived.Test.YtcfcjljapamcoabGreatDoorVxr
import Derived.Test.YtcfcjljapamcoabGreatDoorWxr
import Derived.Test.YtcfcjljapamcoabGreatDoorWfr
import Derived.Test.YtcfcjljapamcoabGreatDoorMgkr
import Derived.Test.YtcfcjljapamcoabGreatDoorMglr
import Derived.Test.YtcfcjljapamcoabGreatDoorMprr
import Derived.Test.YtcfcjljapamcoabGreatDoorR1r
import Derived.Test.YtcfcjljapamcoabGreatDoorMpsr
import Derived.Test.YtcfcjljapamcoabGreatDoorCards
import Derived.Test.YtcfcjljapamcoabGreatDoorTie
namespace Go.Proofs
open Go.RowKit Go.Shelf
set_option maxRecDepth 100000
attribute [local go_sem] Oper.semAt_some
attribute [local go_sem ↓] Go.wp_at_zero Go.wp_at_succ
def flat (l : List (Nat × Nat)) : List Value := l.flatMap fun x => [Value.int .i64 (x.1 : Int), Value.int .i64 (x.2 : Int)]
theorem Ints.below {w w' : World} {n : Nat} {v : Value} {xs : List Int} (h : Ints w v xs) (hb : Below n w w') (hn : w.heap.size ≤ n) : Ints w' v xs := by
  obtain ⟨a, cap, rfl, h | ⟨g, o, rfl, hc⟩⟩ := h
  · exact ⟨a, cap, rfl, .inl h⟩
  · refine ⟨_, cap, rfl, .inr ⟨g, o, rfl, fun j hj => ?_⟩⟩
    obtain ⟨ob, ho, _⟩ := cells_of_cell (hc j hj)
    have : g < w.heap.size := (Array.getElem?_eq_some_iff.1 ho).1
    exact (hb.cell (p := ⟨g, o + j, none⟩) (show g < n by omega)).trans (hc j hj)
end Go.Proofs
namespace Go.Proofs
open Go.RowKit Go.Shelf
set_option maxRecDepth 100000
attribute [local go_sem] Oper.semAt_some
attribute [local go_sem ↓] Go.wp_at_zero Go.wp_at_succ
/-- a row of places and units of the call's own -/
def OwnU (w : World) (base : Nat) (v : Value) (l : List (Nat × Nat)) : Prop := w.ownsRow base 50 2 v l.length (flat l)
theorem OwnU.alloc {w : World} {base : Nat} {v : Value} {l : List (Nat × Nat)} (h : OwnU w base v l) (o : Obj) : OwnU (w.alloc o) base v l := World.ownsRow.alloc h o
theorem OwnU.below {w w' : World} {base n : Nat} {v : Value} {l : List (Nat × Nat)} (h : OwnU w base v l) (hb : Below n w w') (hn : w.heap.size ≤ n) : OwnU w' base v l := by
  refine ⟨h.1, ?_⟩
  rcases h.2 with h | ⟨g, cap, cur, rfl, h1, h2, h3⟩
  · exact .inl h
  · have : g < w.heap.size := (Array.getElem?_eq_some_iff.1 h2).1
    exact .inr ⟨g, cap, cur, rfl, h1, (hb.block g (by omega)).trans h2, h3⟩
end Go.Proofs
namespace Go.Proofs
open Go.RowKit Go.Shelf
set_option maxRecDepth 100000
attribute [local go_sem] Oper.semAt_some
attribute [local go_sem ↓] Go.wp_at_zero Go.wp_at_succ
/-- a row of numbers of the call's own -/
def OwnI1 (w : World) (base : Nat) (v : Value) (l : List Int) : Prop := w.ownsRow base 3 1 v l.length (l.map (Value.int .i64))
theorem OwnI1.alloc {w : World} {base : Nat} {v : Value} {l : List Int} (h : OwnI1 w base v l) (o : Obj) : OwnI1 (w.alloc o) base v l := World.ownsRow.alloc h o
/-- such a row, or one with no room that nobody has grown yet -/
def OwnI0 (w : World) (base : Nat) (v : Value) (l : List Int) : Prop := (∃ A, v = .slice A 0 0 ∧ l = []) ∨ OwnI1 w base v l
theorem OwnI0.alloc {w : World} {base : Nat} {v : Value} {l : List Int} (h : OwnI0 w base v l) (o : Obj) : OwnI0 (w.alloc o) base v l := h.imp id fun h => h.alloc o
theorem OwnI0.ir {w : World} {base : Nat} {v : Value} {l : List Int} (h : OwnI0 w base v l) : IR w v l := by
  rcases h with ⟨A, rfl, rfl⟩ | h
  · exact ⟨A, 0, rfl, Nat.le_refl _, .inl rfl⟩
  · exact OwnI.ir h
end Go.Proofs
namespace Go.Proofs.YtcfcjljapamcoabGreatDoor
open Go.ChangeShapes Go.WideShapes Go.ChangeAt Go.RowKit Go.WideMaps Go.WideElems Go.Deep
set_option maxRecDepth 100000
section
variable {H : Type} {enc : TypeId × Value → H} {W : World}
/-- how great a rule is -/
structure Small (r : Rl) (n : Nat) : Prop where
  na : r.ante.length ≤ n
  sa : ∀ l ∈ r.ante, l.length ≤ n
  nk : r.key.length ≤ n
  sk : ∀ l ∈ r.key, l.length ≤ n
  np : r.post.length ≤ n
  sp : ∀ l ∈ r.post, l.length ≤ n
  nr : r.res.length ≤ n
  sr : ∀ p ∈ r.res, p.tl.length ≤ n
theorem Small.mono {r : Rl} {n m : Nat} (h : Small r n) (hm : n ≤ m) : Small r m :=
  ⟨Nat.le_trans h.na hm, fun l hl => Nat.le_trans (h.sa l hl) hm, Nat.le_trans h.nk hm, fun l hl => Nat.le_trans (h.sk l hl) hm, Nat.le_trans h.np hm, fun l hl => Nat.le_trans (h.sp l hl) hm, Nat.le_trans h.nr hm, fun l hl => Nat.le_trans (h.sr l hl) hm⟩
end
end Go.Proofs.YtcfcjljapamcoabGreatDoor
namespace Go.Proofs
open Go.RowKit Go.Shelf
set_option maxRecDepth 100000
attribute [local go_sem] Oper.semAt_some
set_option maxHeartbeats 1000000 in
theorem rwidth_any (u : Int) (w : World) : Calls Tryz.prog 19 #[.int .i64 u] w fun e w' => e = .returned (.int .i64 (wd u)) ∧ w' = w := by
  go_enter Tryz.func19, Tryz.ntmps19
  go_wp2
  all_goals (go_ret; refine ⟨?_, rfl⟩; first | (rw [wd_1 (by omega)]; rfl) | (rw [wd_2 (by omega)]; rfl) | (rw [wd_3 (by omega)]; rfl) | (rw [wd_4 (by omega)]; rfl) | (rw [wd_no (by omega) (by omega)]; rfl))
theorem below_drew (w : World) (n : Nat) : Below w.heap.size w (w.drewN n) := ⟨rfl, rfl, rfl, Nat.le_refl _, fun _ _ => rfl⟩
theorem wp_region_quiet_below {P : Program} {id : Nat} {Q : Exit → Act → World → Prop} {a : Act} {w : World} {l : List Oper} (hm : P.follows .mixedOrders = true) (hB : Region.lexB .any l.toArray = true)
    (h : wpQuiet P l.toArray (fun w' => ∃ p : BelowOf w, w' = p.world) (fun a' => ∀ w', (∃ p : BelowOf w, w' = p.world) → Q .normal a' w') l a) : (Code.region id l.toArray true).wp P Q a w :=
  wp_region_quiet (C := fun w' => ∃ p : BelowOf w, w' = p.world) hm hB ⟨⟨w.drewN 1, below_drew w 1⟩, rfl⟩ (by simpa using h)
/-- a callee in such a region -/
theorem below_of {P : Program} {f : FuncId} {args : Array Value} {w : World} {p : BelowOf w} {v : Value}
    (h : Calls P f args p.world fun e w' => e = .returned v ∧ Below p.world.heap.size p.world w') : Calls P f args p.world fun e w'' => e = .returned v ∧ ∃ q : BelowOf w, w'' = q.world :=
  h.mono fun _ w' ⟨he, hb⟩ => ⟨he, ⟨w', p.below.trans (hb.mono p.below.size)⟩, rfl⟩
theorem below_same {P : Program} {f : FuncId} {args : Array Value} {w : World} {p : BelowOf w} {v : Value}
    (h : Calls P f args p.world fun e w' => e = .returned v ∧ w' = p.world) : Calls P f args p.world fun e w'' => e = .returned v ∧ ∃ q : BelowOf w, w'' = q.world :=
  h.mono fun _ _ ⟨he, hb⟩ => ⟨he, p, hb⟩
theorem dec2 (s : ByteArray) (p c : Nat) (h0 : 128 ≤ c) (h1 : c < 2048) (hs : p + 1 < s.size) (b0 : (s.get! p).toNat = 192 + c / 64) (b1 : (s.get! (p + 1)).toNat = 128 + c % 64) : Utf8.decode s p = (c, 2) := by
  unfold Utf8.decode
  simp only [Nat.add_zero, b0, b1]
  rw [if_neg (by omega), if_pos (by simp [hs]; omega), if_pos (by omega)]
  rw [Prod.mk.injEq]; omega
theorem dec4 (s : ByteArray) (p c : Nat) (h0 : 65536 ≤ c) (h1 : c < 1114112) (hs : p + 3 < s.size) (b0 : (s.get! p).toNat = 240 + c / 262144) (b1 : (s.get! (p + 1)).toNat = 128 + c / 4096 % 64) (b2 : (s.get! (p + 2)).toNat = 128 + c / 64 % 64) (b3 : (s.get! (p + 3)).toNat = 128 + c % 64) : Utf8.decode s p = (c, 4) := by
  have hs1 : p + 1 < s.size := by omega
  have hs2 : p + 2 < s.size := by omega
  unfold Utf8.decode
  simp only [Nat.add_zero, b0, b1, b2, b3]
  rw [if_neg (by omega), if_neg (by simp; omega), if_neg (by simp; omega), if_pos (by simp [hs, hs1, hs2]; omega)]
  have e : (240 + c / 262144) % 8 * 262144 + (128 + c / 4096 % 64) % 64 * 4096 + (128 + c / 64 % 64) % 64 * 64 + (128 + c % 64) % 64 = c := by omega
  rw [e, if_pos (by simp [Utf8.valid]; omega)]
/-- a border: nothing that begins ahead reaches beyond -/
def bord (s : ByteArray) (p : Nat) : Prop := ∀ q, q < p → q + uw s q ≤ p
theorem bord_size (s : ByteArray) : bord s s.size := fun q h => by
  by_cases h1 : 1 < uw s q
  · exact (uw_many s q h1).1
  · omega
theorem uw_in (s : ByteArray) (q : Nat) (h : q < s.size) : q + uw s q ≤ s.size := bord_size s q h
theorem w64b (b : UInt8) : wrap64 (b.toNat : Int) = (b.toNat : Int) := by
  have := b.toNat_lt
  rw [← IntWalk.i64_left]; exact IntWalk.i64_in _ (by omega)
theorem info3 : (Tryz.prog.info? 3).map (fun i => (i.zero, i.size, i.bytes)) = some (some (.int .i64 0), 1, 8) := by kernel_rfl
def low (c : Nat) : Nat → List UInt8
  | 0 => []
  | k + 1 => UInt8.ofNat (128 + c / 64 ^ k % 64) :: low c k
theorem low_length (c k : Nat) : (low c k).length = k := by induction k with | zero => rfl | succ k ih => simp [low, ih]
theorem bc_low_succ (c k x : Nat) (h : x = c / 64 ^ k) : [Value.int .u8 (128 + (x : Int) % 64)] ++ bc (low c k) = bc (low c (k + 1)) := by
  have e : low c (k + 1) = UInt8.ofNat (128 + c / 64 ^ k % 64) :: low c k := rfl
  have e2 : bc (low c (k + 1)) = Value.int .u8 (((UInt8.ofNat (128 + c / 64 ^ k % 64)).toNat : Nat) : Int) :: bc (low c k) := by rw [e]; rfl
  rw [e2, b8 _ (by omega), ← h, List.singleton_append]
  congr 1
def bspec (first : Int) (c n : Nat) : List Value := Value.int .u8 (first + ((c / 64 ^ (n - 1) : Nat) : Int)) :: bc (low c (n - 1))
theorem bspec_of {first : Int} {c n k x : Nat} (hk : n - 1 = k) (hx : x = c / 64 ^ k) : [Value.int .u8 (first + (x : Int))] ++ bc (low c k) = bspec first c n := by
  unfold bspec; rw [hk, hx]; rfl
theorem info51 : (Tryz.prog.info? 5).map (fun i => (i.zero, i.size, i.bytes)) = some (some (.int .u8 0), 1, 1) := by kernel_rfl
set_option maxHeartbeats 2000000 in
theorem bytes_many (c n : Nat) (first : Int) (w : World) (hw : wd c = n) (hn : (n = 2 ∧ first = 192) ∨ (n = 3 ∧ first = 224) ∨ (n = 4 ∧ first = 240)) (hc : c < 1114112) (hx : first + ((c / 64 ^ (n - 1) : Nat) : Int) < 256) :
    Calls Tryz.prog 20 #[.int .i64 c] w fun e w' => ∃ v, e = .returned v ∧ w'.ownsRow w.heap.size 5 1 v n (bspec first c n) ∧ Below w.heap.size w w' := by
  obtain ⟨i0, hi, hz0, hz1, hz2⟩ := info_parts info51
  have hwd : ∀ W : World, Calls Tryz.prog 19 #[.int .i64 c] W fun e w' => e = .returned (.int .i64 n) ∧ w' = W := fun W => by have := rwidth_any c W; rw [hw] at this; exact this
  have HC : Hid (∀ W : World, Calls Tryz.prog 19 #[.int .i64 c] W fun e w' => e = .returned (.int .i64 n) ∧ w' = W) := hwd
  have hn2 : 2 ≤ n ∧ n ≤ 4 := by omega
  obtain ⟨hn2, hn4⟩ := hn2
  have e0 : ((n : Int) == 0) = false := by simp; omega
  have e1 : ((n : Int) == 1) = false := by simp; omega
  have e2 : decide (1114112 ≤ (c : Int)) = false := by simp; omega
  clear hwd hw
  go_enter Tryz.func20, Tryz.ntmps20
  go_wp2_with (go_at_call 19; refine (HC.out _).mono ?_; rintro e w' ⟨rfl, rfl⟩)
  go_loopw [0, 4, 5] (fun vu vo vi wr => ∃ (k x g cap : Nat), vu = .int .i64 x ∧ vo = .slice (some ⟨g, 0, none⟩) k cap ∧ vi = .int .i64 ((k : Int) + 1) ∧ k + 1 ≤ n ∧ Hid (x = c / 64 ^ k) ∧ x < 1114112 ∧ wr.ownsRow w'.heap.size 5 1 (.slice (some ⟨g, 0, none⟩) k cap) k (bc (low c k)) ∧ Below w'.heap.size w' wr) (fun _ _ vi _ => n - (intOf vi).toNat)
  case atStart =>
    exact ⟨0, c, _, _, rfl, rfl, rfl, by omega, by simp [Hid], hc, World.ownsRow_lit _ #[] 0 (Nat.le_refl _) (by unfold maxLen; omega) rfl, (Below.refl _ _).alloc (Nat.le_refl _) _⟩
  case round =>
    obtain ⟨k, x, g, cap, rfl, rfl, rfl, hk, hX, hx0, hown, hb⟩ := hrel
    by_cases hlt : k + 1 < n
    · have hz := hb.size
      have hxi : (x : Int) < 1114112 := by omega
      have hlt' : (k : Int) + 1 < (n : Int) := by omega
      have hlow : (bc (low c k)).length = k := by simp [bc, low_length]
      go_wp2_with (at_builtin; go_must (refine wpList_append_own _ rfl _ _ 51 rfl w'.heap.size 5 i0 (.int .u8 0) 1 1 Tryz.underlying51 hi hz0 hz1 hz2 rfl (by decide) _ _ _ rfl (World.ownsRow_lit wr #[.int .u8 (128 + (x : Int) % 64)] 1 hz (by unfold maxLen; omega) rfl) ⟨g, 0, none⟩ k cap (bc (low c k)) rfl (by rw [hlow]; omega) (fun j u hu => (hown.alloc _).cells rfl j u hu) (by intro u hu; simp [bc] at hu; obtain ⟨b, _, rfl⟩ := hu; rfl) (by unfold maxLen; omega) (by omega) (by simp; omega) ?_); intro v' w1 hown' hgrow _)
      rw [show 1 + k = k + 1 by omega, bc_low_succ c k x hX.out] at hown'
      obtain ⟨g', cap', rfl⟩ := ownsRow_succ hown'
      have hdiv : x / 64 = c / 64 ^ (k + 1) := by rw [hX.out, Nat.div_div_eq_div_mul, Nat.pow_succ]
      exact ⟨⟨k + 1, x / 64, g', cap', by go_num, rfl, by go_num, by omega, hdiv, by omega, hown', (hb.alloc hz _).grown hgrow (by simp; omega) (fun j e => by cases e; exact hz)⟩, by simp [intOf]; omega⟩
    · have hkn : k + 1 = n := by omega
      have hz := hb.size
      have hlow : (bc (low c k)).length = k := by simp [bc, low_length]
      have hk1 : n - 1 = k := by omega
      rw [hk1, ← hX.out] at hx
      have HK : Hid (n - 1 = k) := hk1
      clear hk1
      have hge : ¬ ((k : Int) + 1 < (n : Int)) := by omega
      rcases hn with ⟨rfl, rfl⟩ | ⟨rfl, rfl⟩ | ⟨rfl, rfl⟩
      · have hlit := World.ownsRow_lit (base := w'.heap.size) (e := 5) (size := 1) (wr.alloc (.cells #[.int .i64 0, .int .i64 0, .int .i64 192, .int .i64 224, .int .i64 240] 3)) #[.int .u8 (192 + (x : Int))] 1 (by rw [World.size_alloc]; omega) (by unfold maxLen; omega) rfl
        rw [World.size_alloc] at hlit
        go_wp2_with (at_builtin; go_must (refine wpList_append_own _ rfl _ _ 51 rfl w'.heap.size 5 i0 (.int .u8 0) 1 1 Tryz.underlying51 hi hz0 hz1 hz2 rfl (by decide) _ _ _ rfl hlit ⟨g, 0, none⟩ k cap (bc (low c k)) rfl (by rw [hlow]; omega) (fun j u hu => ((hown.alloc _).alloc _).cells rfl j u hu) (by intro u hu; simp [bc] at hu; obtain ⟨b, _, rfl⟩ := hu; rfl) (by unfold maxLen; omega) (by omega) (by rw [World.size_alloc, World.size_alloc]; omega) ?_); intro v' w1 hown' hgrow _)
        go_ret
        rw [show 1 + k = 2 by omega] at hown'
        have hsp := bspec_of (first := 192) HK.out hX.out
        rw [← hsp]
        exact ⟨v', rfl, hown', ((hb.alloc hz _).alloc (by rw [World.size_alloc]; omega) _).grown hgrow (by rw [World.size_alloc, World.size_alloc]; omega) (fun j e => by cases e; show _ ≤ wr.heap.size + 1; omega)⟩
      · have hlit := World.ownsRow_lit (base := w'.heap.size) (e := 5) (size := 1) (wr.alloc (.cells #[.int .i64 0, .int .i64 0, .int .i64 192, .int .i64 224, .int .i64 240] 3)) #[.int .u8 (224 + (x : Int))] 1 (by rw [World.size_alloc]; omega) (by unfold maxLen; omega) rfl
        rw [World.size_alloc] at hlit
        go_wp2_with (at_builtin; go_must (refine wpList_append_own _ rfl _ _ 51 rfl w'.heap.size 5 i0 (.int .u8 0) 1 1 Tryz.underlying51 hi hz0 hz1 hz2 rfl (by decide) _ _ _ rfl hlit ⟨g, 0, none⟩ k cap (bc (low c k)) rfl (by rw [hlow]; omega) (fun j u hu => ((hown.alloc _).alloc _).cells rfl j u hu) (by intro u hu; simp [bc] at hu; obtain ⟨b, _, rfl⟩ := hu; rfl) (by unfold maxLen; omega) (by omega) (by rw [World.size_alloc, World.size_alloc]; omega) ?_); intro v' w1 hown' hgrow _)
        go_ret
        rw [show 1 + k = 3 by omega] at hown'
        have hsp := bspec_of (first := 224) HK.out hX.out
        rw [← hsp]
        exact ⟨v', rfl, hown', ((hb.alloc hz _).alloc (by rw [World.size_alloc]; omega) _).grown hgrow (by rw [World.size_alloc, World.size_alloc]; omega) (fun j e => by cases e; show _ ≤ wr.heap.size + 1; omega)⟩
      · have hlit := World.ownsRow_lit (base := w'.heap.size) (e := 5) (size := 1) (wr.alloc (.cells #[.int .i64 0, .int .i64 0, .int .i64 192, .int .i64 224, .int .i64 240] 3)) #[.int .u8 (240 + (x : Int))] 1 (by rw [World.size_alloc]; omega) (by unfold maxLen; omega) rfl
        rw [World.size_alloc] at hlit
        go_wp2_with (at_builtin; go_must (refine wpList_append_own _ rfl _ _ 51 rfl w'.heap.size 5 i0 (.int .u8 0) 1 1 Tryz.underlying51 hi hz0 hz1 hz2 rfl (by decide) _ _ _ rfl hlit ⟨g, 0, none⟩ k cap (bc (low c k)) rfl (by rw [hlow]; omega) (fun j u hu => ((hown.alloc _).alloc _).cells rfl j u hu) (by intro u hu; simp [bc] at hu; obtain ⟨b, _, rfl⟩ := hu; rfl) (by unfold maxLen; omega) (by omega) (by rw [World.size_alloc, World.size_alloc]; omega) ?_); intro v' w1 hown' hgrow _)
        go_ret
        rw [show 1 + k = 4 by omega] at hown'
        have hsp := bspec_of (first := 240) HK.out hX.out
        rw [← hsp]
        exact ⟨v', rfl, hown', ((hb.alloc hz _).alloc (by rw [World.size_alloc]; omega) _).grown hgrow (by rw [World.size_alloc, World.size_alloc]; omega) (fun j e => by cases e; show _ ≤ wr.heap.size + 1; omega)⟩
set_option maxHeartbeats 1000000 in
theorem bytes_none (u : Int) (w : World) (hw : wd u = 0) : Calls Tryz.prog 20 #[.int .i64 u] w fun e w' => e = .returned (.slice none 0 0) ∧ w' = w := by
  have hwd : ∀ W : World, Calls Tryz.prog 19 #[.int .i64 u] W fun e w' => e = .returned (.int .i64 0) ∧ w' = W := fun W => by have := rwidth_any u W; rw [hw] at this; exact this
  have HC : Hid (∀ W : World, Calls Tryz.prog 19 #[.int .i64 u] W fun e w' => e = .returned (.int .i64 0) ∧ w' = W) := hwd
  clear hwd hw
  go_enter Tryz.func20, Tryz.ntmps20
  go_wp2_with (go_at_call 19; refine (HC.out _).mono ?_; rintro e w' ⟨rfl, rfl⟩)
  go_ret
  exact ⟨rfl, rfl⟩
set_option maxHeartbeats 1000000 in
theorem bytes_stray (u : Int) (w : World) (h0 : 1114240 ≤ u) (h1 : u ≤ 1114367) : Calls Tryz.prog 20 #[.int .i64 u] w fun e w' => e = .returned (.slice (some ⟨w.heap.size, 0, none⟩) 1 1) ∧ w' = w.alloc (.cells #[.int .u8 (u - 1114112)] 5) := by
  have hwd : ∀ W : World, Calls Tryz.prog 19 #[.int .i64 u] W fun e w' => e = .returned (.int .i64 1) ∧ w' = W := fun W => by have := rwidth_any u W; rw [wd_stray ⟨h0, h1⟩] at this; exact this
  have HC : Hid (∀ W : World, Calls Tryz.prog 19 #[.int .i64 u] W fun e w' => e = .returned (.int .i64 1) ∧ w' = W) := hwd
  clear hwd
  go_enter Tryz.func20, Tryz.ntmps20
  go_wp2_with (go_at_call 19; refine (HC.out _).mono ?_; rintro e w' ⟨rfl, rfl⟩)
  go_ret
  exact ⟨rfl, rfl⟩
set_option maxHeartbeats 1000000 in
theorem bytes_ascii (u : Int) (w : World) (h0 : 0 ≤ u) (h1 : u ≤ 127) : Calls Tryz.prog 20 #[.int .i64 u] w fun e w' => e = .returned (.slice (some ⟨w.heap.size, 0, none⟩) 1 1) ∧ w' = w.alloc (.cells #[.int .u8 u] 5) := by
  have hwd : ∀ W : World, Calls Tryz.prog 19 #[.int .i64 u] W fun e w' => e = .returned (.int .i64 1) ∧ w' = W := fun W => by have := rwidth_any u W; rw [show wd u = 1 by unfold wd Lib.runeLen; repeat' split <;> omega] at this; exact this
  have HC : Hid (∀ W : World, Calls Tryz.prog 19 #[.int .i64 u] W fun e w' => e = .returned (.int .i64 1) ∧ w' = W) := hwd
  clear hwd
  go_enter Tryz.func20, Tryz.ntmps20
  go_wp2_with (go_at_call 19; refine (HC.out _).mono ?_; rintro e w' ⟨rfl, rfl⟩)
  go_ret
  exact ⟨rfl, rfl⟩
theorem bc_cons (n : Nat) (l : List UInt8) (h : n < 256) : bc (UInt8.ofNat n :: l) = Value.int .u8 (n : Int) :: bc l := by
  show Value.int .u8 (((UInt8.ofNat n).toNat : Nat) : Int) :: bc l = _
  rw [b8 n h]
/-- the reference's bytes are the unit's -/
theorem bytes_any (u : Int) (w : World) : Calls Tryz.prog 20 #[.int .i64 u] w fun e w' => ∃ v, e = .returned v ∧ w'.ownsRow w.heap.size 5 1 v (put u).size (bc (put u).data.toList) ∧ Below w.heap.size w w' := by
  by_cases a : 1114240 ≤ u ∧ u ≤ 1114367
  · refine (bytes_stray u w a.1 a.2).mono ?_
    rintro e w' ⟨rfl, rfl⟩
    rw [put_stray a]
    have hl := World.ownsRow_lit (base := w.heap.size) (e := 5) (size := 1) w #[.int .u8 (u - 1114112)] 1 (Nat.le_refl _) (by unfold maxLen; omega) rfl
    refine ⟨_, rfl, ?_, (Below.refl _ _).alloc (Nat.le_refl _) _⟩
    rw [show bc (⟨#[UInt8.ofNat (u - 1114112).toNat]⟩ : ByteArray).data.toList = [Value.int .u8 (u - 1114112)] from by
      rw [show (⟨#[UInt8.ofNat (u - 1114112).toNat]⟩ : ByteArray).data.toList = [UInt8.ofNat (u - 1114112).toNat] from rfl, bc_cons _ _ (by omega), show (((u - 1114112).toNat : Nat) : Int) = u - 1114112 by omega]; rfl]
    exact hl
  · by_cases b : (0 ≤ u ∧ u < 55296) ∨ (57343 < u ∧ u ≤ 1114111)
    · rw [put_rune b]
      obtain ⟨c, rfl⟩ : ∃ c : Nat, u = c := ⟨u.toNat, by omega⟩
      have wr := wd_rune b
      by_cases h1 : c < 128
      · refine (bytes_ascii c w (by omega) (by omega)).mono ?_
        rintro e w' ⟨rfl, rfl⟩
        have hl := World.ownsRow_lit (base := w.heap.size) (e := 5) (size := 1) w #[.int .u8 (c : Int)] 1 (Nat.le_refl _) (by unfold maxLen; omega) rfl
        refine ⟨_, rfl, ?_, (Below.refl _ _).alloc (Nat.le_refl _) _⟩
        rw [enc1 c h1, size_lit, show bc (⟨[UInt8.ofNat c].toArray⟩ : ByteArray).data.toList = [Value.int .u8 (c : Int)] from bc_cons c [] (by omega)]
        exact hl
      · by_cases h2 : c < 2048
        · have hw : wd c = (2 : Nat) := by rw [wr]; unfold Lib.runeLen; repeat' split <;> omega
          refine (bytes_many c 2 192 w hw (by omega) (by omega) (by simp; omega)).mono ?_
          rintro e w' ⟨v, rfl, hown, hb⟩
          refine ⟨v, rfl, ?_, hb⟩
          rw [enc2 c (by omega) h2, size_lit, show bc (⟨[UInt8.ofNat (192 + c / 64), UInt8.ofNat (128 + c % 64)].toArray⟩ : ByteArray).data.toList = bspec 192 c 2 from by
            show bc [UInt8.ofNat (192 + c / 64), UInt8.ofNat (128 + c % 64)] = _
            rw [bc_cons _ _ (by omega)]
            unfold bspec
            simp [low]]
          exact hown
        · by_cases h3 : c < 65536
          · have hw : wd c = (3 : Nat) := by rw [wr]; unfold Lib.runeLen; repeat' split <;> omega
            refine (bytes_many c 3 224 w hw (by omega) (by omega) (by simp; omega)).mono ?_
            rintro e w' ⟨v, rfl, hown, hb⟩
            refine ⟨v, rfl, ?_, hb⟩
            rw [enc3 c (by omega) h3 (by omega), size_lit, show bc (⟨[UInt8.ofNat (224 + c / 4096), UInt8.ofNat (128 + c / 64 % 64), UInt8.ofNat (128 + c % 64)].toArray⟩ : ByteArray).data.toList = bspec 224 c 3 from by
              show bc [UInt8.ofNat (224 + c / 4096), UInt8.ofNat (128 + c / 64 % 64), UInt8.ofNat (128 + c % 64)] = _
              rw [bc_cons _ _ (by omega)]
              unfold bspec
              simp [low]]
            exact hown
          · have hw : wd c = (4 : Nat) := by rw [wr]; unfold Lib.runeLen; repeat' split <;> omega
            refine (bytes_many c 4 240 w hw (by omega) (by omega) (by simp; omega)).mono ?_
            rintro e w' ⟨v, rfl, hown, hb⟩
            refine ⟨v, rfl, ?_, hb⟩
            rw [enc4 c (by omega) (by omega), size_lit, show bc (⟨[UInt8.ofNat (240 + c / 262144), UInt8.ofNat (128 + c / 4096 % 64), UInt8.ofNat (128 + c / 64 % 64), UInt8.ofNat (128 + c % 64)].toArray⟩ : ByteArray).data.toList = bspec 240 c 4 from by
              show bc [UInt8.ofNat (240 + c / 262144), UInt8.ofNat (128 + c / 4096 % 64), UInt8.ofNat (128 + c / 64 % 64), UInt8.ofNat (128 + c % 64)] = _
              rw [bc_cons _ _ (by omega)]
              unfold bspec
              simp [low]]
            exact hown
    · have hw : wd u = 0 := wd_no (by omega) (by omega)
      refine (bytes_none u w hw).mono ?_
      rintro e w' ⟨rfl, rfl⟩
      rw [put_no (by omega) (by omega)]
      exact ⟨_, rfl, World.ownsRow_nil _ _ _ _, Below.refl _ _⟩
theorem conv_row (w : World) (base : Nat) (v : Value) (l : List UInt8) (h : w.ownsRow base 5 1 v l.length (bc l)) : (convert 51 9 v).run Tryz.prog w = .ok (.string ⟨l.toArray⟩) w := by
  obtain ⟨hl, h | ⟨g, cap, cur, rfl, hb, hg, hn, hm, hc, ht⟩⟩ := h
  · obtain ⟨rfl, h0⟩ := h
    obtain rfl : l = [] := List.eq_nil_of_length_eq_zero h0
    rw [run_convert_bytes_string w 51 9 5 none 0 0 Tryz.underlying51 Tryz.underlying5 Tryz.underlying9]
    rfl
  · refine run_convert_bytes_back (P := Tryz.prog) w 51 9 5 ⟨g, 0, none⟩ cap l Tryz.underlying51 Tryz.underlying5 Tryz.underlying9 (fun j hj => ?_)
    have hx : (bc l)[j]? = some (.int .u8 (l[j].toNat : Int)) := by simp [bc, hj]
    have hown : w.ownsRow base 5 1 (.slice (some ⟨g, 0, none⟩) l.length cap) l.length (bc l) := ⟨hl, .inr ⟨g, cap, cur, rfl, hb, hg, hn, hm, hc, ht⟩⟩
    exact hown.cells rfl j _ hx
set_option maxHeartbeats 1000000 in
theorem rput_any (u : Int) (w : World) : Calls Tryz.prog 47 #[.int .i64 u] w fun e w' => e = .returned (.string (put u)) ∧ Below w.heap.size w w' := by
  go_enter Tryz.func47, Tryz.ntmps47
  go_wp2_with (go_at_call 20; refine (bytes_any _ _).mono ?_; rintro e w' ⟨v, rfl, hown, hb⟩; have hcv := conv_row w' _ v (put u).data.toList (by rw [← Lib.size_eq]; exact hown))
  go_ret
  exact ⟨by simp, hb⟩
theorem drop_get (s : ByteArray) (p : Nat) (h : p < s.size) : s.data.toList.drop p = s.get! p :: s.data.toList.drop (p + 1) := by
  rw [List.drop_eq_getElem_cons (by rw [← Lib.size_eq]; exact h), get_bang s p h]; rfl
theorem ofNat_get (s : ByteArray) (p n : Nat) (h : (s.get! p).toNat = n) : UInt8.ofNat n = s.get! p := by rw [← h]; simp
theorem put_uAt (s : ByteArray) (p : Nat) (hp : p < s.size) : (put (uAt s p)).data.toList = (s.data.toList.drop p).take (uw s p) := by
  by_cases h : 1 < uw s p
  · obtain ⟨c, F⟩ := form_of s p h
    have hns : strayAt s p = false := by
      cases hs : strayAt s p with
      | false => rfl
      | true => have := (stray_iff s p).1 hs; rw [F.2.1] at this; simp at this; omega
    have hu : uAt s p = c := by rw [uAt_rune hns, F.2.1]
    rw [hu]
    obtain ⟨hz, _, hF⟩ := F
    obtain ⟨n, hn⟩ : ∃ n, uw s p = n := ⟨_, rfl⟩
    rw [hn] at hF hz ⊢
    rcases hF with ⟨rfl, a, b, b0, b1⟩ | ⟨rfl, a, b, v, b0, b1, b2⟩ | ⟨rfl, a, b, b0, b1, b2, b3⟩
    · rw [put_rune (by omega), enc2 c a b, ofNat_get s p _ b0, ofNat_get s (p + 1) _ b1, drop_get s p (by omega), drop_get s (p + 1) (by omega)]
      rfl
    · rw [put_rune (by omega), enc3 c a b v, ofNat_get s p _ b0, ofNat_get s (p + 1) _ b1, ofNat_get s (p + 2) _ b2, drop_get s p (by omega), drop_get s (p + 1) (by omega), drop_get s (p + 1 + 1) (by omega)]
      rfl
    · rw [put_rune (by omega), enc4 c a b, ofNat_get s p _ b0, ofNat_get s (p + 1) _ b1, ofNat_get s (p + 2) _ b2, ofNat_get s (p + 3) _ b3, drop_get s p (by omega), drop_get s (p + 1) (by omega), drop_get s (p + 1 + 1) (by omega), drop_get s (p + 1 + 1 + 1) (by omega)]
      rfl
  · have hpos := uw_pos s p
    have hu : uw s p = 1 := by omega
    rw [hu, drop_get s p hp]
    rcases one_wide s p hu with ⟨a, b⟩ | ⟨a, b⟩
    · have hns : strayAt s p = false := by
        cases hs : strayAt s p with
        | false => rfl
        | true => have := (stray_iff s p).1 hs; rw [b] at this; simp at this; omega
      have hv : uAt s p = (s.get! p).toNat := by rw [uAt_rune hns, b]
      rw [hv, put_rune (by omega), enc1 _ a, ofNat_get s p _ rfl]
      rfl
    · have hlt := (s.get! p).toNat_lt
      have hv := uAt_stray ((stray_iff s p).2 b)
      rw [hv, put_stray (by omega), show (((1114112 + (s.get! p).toNat : Nat) : Int) - 1114112).toNat = (s.get! p).toNat by omega, ofNat_get s p _ rfl]
      rfl
def md (n : Nat) : Nat := if n = 2 then 32 else if n = 3 then 16 else 8
def num (s : ByteArray) (p n : Nat) : Nat := acc s p (if n = 1 then (s.get! p).toNat else (s.get! p).toNat % md n) (n - 1)
def tst (s : ByteArray) (p n : Nat) : Bool := decide (wd (num s p n) = (n : Int) ∧ put (num s p n) = s.extract p (p + n))
def bgs (s : ByteArray) (p : Nat) : Nat → Nat → Int
  | 0, _ => -1
  | k + 1, n => if p + n ≤ s.size then (if tst s p n then (num s p n : Int) else bgs s p k (n + 1)) else -1
def beginsU (s : ByteArray) (p : Nat) : Int := bgs s p 4 1
theorem num1 (s : ByteArray) (p : Nat) : num s p 1 = (s.get! p).toNat := rfl
theorem num2 (s : ByteArray) (p : Nat) : num s p 2 = (s.get! p).toNat % 32 * 64 + (s.get! (p + 1)).toNat % 64 := rfl
theorem num3 (s : ByteArray) (p : Nat) : num s p 3 = ((s.get! p).toNat % 16 * 64 + (s.get! (p + 1)).toNat % 64) * 64 + (s.get! (p + 2)).toNat % 64 := rfl
theorem num4 (s : ByteArray) (p : Nat) : num s p 4 = (((s.get! p).toNat % 8 * 64 + (s.get! (p + 1)).toNat % 64) * 64 + (s.get! (p + 2)).toNat % 64) * 64 + (s.get! (p + 3)).toNat % 64 := rfl
theorem byte_of {s t : ByteArray} {p n : Nat} (h : t = s.extract p (p + n)) (hp : p + n ≤ s.size) (r : Nat) (hr : r < n) : (s.get! (p + r)).toNat = (t.get! r).toNat := by
  rw [h, get_ext s p (p + n) r (by omega) hp]
theorem wd_ge2 (c n : Nat) (hn : 2 ≤ n) (h : wd (c : Int) = (n : Int)) : (c < 55296 ∨ (57344 ≤ c ∧ c ≤ 1114111)) ∧ Lib.runeLen c = (n : Int) := by
  unfold wd at h
  split at h
  · omega
  · split at h
    · exact ⟨by omega, h⟩
    · omega
theorem tst_dec (s : ByteArray) (p n : Nat) (hn : 2 ≤ n) (hp : p + n ≤ s.size) (h : tst s p n = true) : Utf8.decode s p = (num s p n, n) := by
  obtain ⟨h1, h2⟩ : wd (num s p n) = (n : Int) ∧ put (num s p n) = s.extract p (p + n) := of_decide_eq_true h
  generalize num s p n = c at *
  obtain ⟨hr, hl⟩ := wd_ge2 c n hn h1
  rw [put_rune (by omega)] at h2
  unfold Lib.runeLen at hl
  by_cases c1 : c < 128
  · exfalso; repeat' split at hl
    all_goals omega
  by_cases c2 : c < 2048
  · obtain rfl : n = 2 := by repeat' split at hl
                             all_goals omega
    rw [enc2 c (by omega) c2] at h2
    have e0 := byte_of h2 hp 0 (by omega)
    have e1 := byte_of h2 hp 1 (by omega)
    change (s.get! (p + 0)).toNat = (UInt8.ofNat (192 + c / 64)).toNat at e0
    rw [b8 _ (by omega)] at e0
    change (s.get! (p + 1)).toNat = (UInt8.ofNat (128 + c % 64)).toNat at e1
    rw [b8 _ (by omega)] at e1
    exact dec2 s p c (by omega) c2 (by omega) e0 e1
  by_cases c3 : c < 65536
  · obtain rfl : n = 3 := by repeat' split at hl
                             all_goals omega
    rw [enc3 c (by omega) c3 (by omega)] at h2
    have e0 := byte_of h2 hp 0 (by omega)
    have e1 := byte_of h2 hp 1 (by omega)
    have e2 := byte_of h2 hp 2 (by omega)
    change (s.get! (p + 0)).toNat = (UInt8.ofNat (224 + c / 4096)).toNat at e0
    rw [b8 _ (by omega)] at e0
    change (s.get! (p + 1)).toNat = (UInt8.ofNat (128 + c / 64 % 64)).toNat at e1
    rw [b8 _ (by omega)] at e1
    change (s.get! (p + 2)).toNat = (UInt8.ofNat (128 + c % 64)).toNat at e2
    rw [b8 _ (by omega)] at e2
    exact dec3 s p c (by omega) c3 (by omega) (by omega) e0 e1 e2
  · obtain rfl : n = 4 := by repeat' split at hl
                             all_goals omega
    rw [enc4 c (by omega) (by omega)] at h2
    have e0 := byte_of h2 hp 0 (by omega)
    have e1 := byte_of h2 hp 1 (by omega)
    have e2 := byte_of h2 hp 2 (by omega)
    have e3 := byte_of h2 hp 3 (by omega)
    change (s.get! (p + 0)).toNat = (UInt8.ofNat (240 + c / 262144)).toNat at e0
    rw [b8 _ (by omega)] at e0
    change (s.get! (p + 1)).toNat = (UInt8.ofNat (128 + c / 4096 % 64)).toNat at e1
    rw [b8 _ (by omega)] at e1
    change (s.get! (p + 2)).toNat = (UInt8.ofNat (128 + c / 64 % 64)).toNat at e2
    rw [b8 _ (by omega)] at e2
    change (s.get! (p + 3)).toNat = (UInt8.ofNat (128 + c % 64)).toNat at e3
    rw [b8 _ (by omega)] at e3
    exact dec4 s p c (by omega) (by omega) (by omega) e0 e1 e2 e3
theorem tst_no (s : ByteArray) (p n : Nat) (hn : 2 ≤ n) (hp : p + n ≤ s.size) (h : uw s p ≠ n) : tst s p n = false := by
  cases ht : tst s p n with
  | false => rfl
  | true => exact absurd (by unfold uw; rw [tst_dec s p n hn hp ht]) h
theorem tst1_no (s : ByteArray) (p : Nat) (h : 128 ≤ (s.get! p).toNat) : tst s p 1 = false := by
  have := (s.get! p).toNat_lt
  unfold tst
  rw [num1, decide_eq_false_iff_not]
  rintro ⟨h1, _⟩
  rw [wd_rune (by omega)] at h1
  unfold Lib.runeLen at h1
  repeat' split at h1
  all_goals omega
theorem tst_yes (s : ByteArray) (p n : Nat) (hp : p < s.size) (h : uw s p = n) (hn : num s p n = uAt s p) : tst s p n = true := by
  unfold tst
  rw [hn, decide_eq_true_iff]
  refine ⟨by rw [wd_uAt, h], ?_⟩
  have e := put_uAt s p hp
  rw [h] at e
  have hd : (put (uAt s p)).data = (s.extract p (p + n)).data := by
    apply Array.ext'
    rw [e]
    simp [ByteArray.data_extract, List.extract_eq_take_drop]
  generalize put (uAt s p) = a at *
  generalize s.extract p (p + n) = b at *
  cases a; cases b
  simpa using hd
theorem bgs_none (s : ByteArray) (p : Nat) (h : uw s p = 1) : ∀ k n, 2 ≤ n → bgs s p k n = -1
  | 0, _, _ => rfl
  | k + 1, n, hn => by
    rw [bgs]
    split
    · rename_i hp
      rw [tst_no s p n hn hp (by omega), bgs_none s p h k (n + 1) (by omega)]
      rfl
    · rfl
theorem bgs_skip (s : ByteArray) (p k n : Nat) (hn : 2 ≤ n) (hp : p + n ≤ s.size) (h : uw s p ≠ n) : bgs s p (k + 1) n = bgs s p k (n + 1) := by
  rw [bgs, if_pos hp, tst_no s p n hn hp h]; rfl
theorem bgs_hit (s : ByteArray) (p k n : Nat) (hp : p + n ≤ s.size) (h : tst s p n = true) : bgs s p (k + 1) n = num s p n := by
  rw [bgs, if_pos hp, if_pos h]
theorem begins_eq (s : ByteArray) (p : Nat) (hp : p < s.size) : beginsU s p = if strayAt s p then -1 else (uAt s p : Int) := by
  unfold beginsU
  by_cases hw : uw s p = 1
  · rcases one_wide s p hw with ⟨h1, h2⟩ | ⟨h1, h2⟩
    · have hst : strayAt s p = false := by
        cases h : strayAt s p with
        | false => rfl
        | true => have := (stray_iff s p).1 h; rw [h2] at this; injection this with a b; omega
      have hu : uAt s p = (s.get! p).toNat := by rw [uAt_rune hst, h2]
      rw [hst, bgs_hit s p 3 1 (by omega) (tst_yes s p 1 hp hw (by rw [num1, hu])), num1, hu]
      rfl
    · have hst : strayAt s p = true := (stray_iff s p).2 h2
      rw [hst, bgs, if_pos (by omega), tst1_no s p h1, bgs_none s p hw 3 2 (by omega)]
      rfl
  · have h1 : 1 < uw s p := by have := uw_pos s p; omega
    obtain ⟨c, hz, hd, hf⟩ := form_of s p h1
    have hst : strayAt s p = false := by
      cases h : strayAt s p with
      | false => rfl
      | true => have := (stray_iff s p).1 h; rw [hd] at this; injection this with a b; omega
    have hu : uAt s p = c := by rw [uAt_rune hst, hd]
    have hb := (uw_many s p h1).2.1
    have h0 : bgs s p 4 1 = bgs s p 3 2 := by rw [bgs, if_pos (by omega), tst1_no s p (by omega)]; rfl
    rw [hst, h0]
    simp only [Bool.false_eq_true, if_false]
    rw [hu]
    rcases hf with ⟨hn, a, b, b0, b1⟩ | ⟨hn, a, b, _, b0, b1, b2⟩ | ⟨hn, a, b, b0, b1, b2, b3⟩
    · rw [hn] at hz
      have e : num s p 2 = c := by rw [num2, b0, b1]; omega
      rw [bgs_hit s p 2 2 hz (tst_yes s p 2 hp hn (by rw [e, hu])), e]
    · rw [hn] at hz
      have e : num s p 3 = c := by rw [num3, b0, b1, b2]; omega
      rw [bgs_skip s p 2 2 (by omega) (by omega) (by omega), bgs_hit s p 1 3 hz (tst_yes s p 3 hp hn (by rw [e, hu])), e]
    · rw [hn] at hz
      have e : num s p 4 = c := by rw [num4, b0, b1, b2, b3]; omega
      rw [bgs_skip s p 2 2 (by omega) (by omega) (by omega), bgs_skip s p 1 3 (by omega) (by omega) (by omega), bgs_hit s p 0 4 hz (tst_yes s p 4 hp hn (by rw [e, hu])), e]
theorem step_val (x : Nat) (b : UInt8) (h : x < 1048576) : wrap64 ((x : Int) * 64 + (wrap64 (b.toNat : Int)).tmod 64) = ((x * 64 + b.toNat % 64 : Nat) : Int) := by
  rw [w64b, show ((b.toNat : Int)).tmod 64 = ((b.toNat % 64 : Nat) : Int) from rfl]
  have := Nat.mod_lt b.toNat (show 64 > 0 by omega)
  rw [show (x : Int) * 64 + ((b.toNat % 64 : Nat) : Int) = ((x * 64 + b.toNat % 64 : Nat) : Int) by push_cast; rfl]
  exact IntWalk.wrap64_in _ (by omega)
theorem bgs_no (s : ByteArray) (p k n : Nat) (hp : p + n ≤ s.size) (h : tst s p n = false) : bgs s p (k + 1) n = bgs s p k (n + 1) := by
  rw [bgs, if_pos hp, h]; rfl
set_option maxHeartbeats 4000000 in
theorem begins_any (s : ByteArray) (p : Nat) (w : World) (hp : p < s.size) (hs : s.size ≤ 4398046511104) :
    Calls Tryz.prog 29 #[.string s, .int .i64 p] w fun e w' => e = .returned (.int .i64 (beginsU s p)) ∧ Below w.heap.size w w' := by
  have hpi : (p : Int) < (s.size : Int) := by omega
  have hsi : (s.size : Int) ≤ 4398046511104 := by omega
  go_enter Tryz.func29, Tryz.ntmps29
  go_wp2_with fail
  go_loopw [5, 6, 7] (fun vn _ _ wr => ∃ (n : Nat), vn = .int .i64 n ∧ 1 ≤ n ∧ n ≤ 5 ∧ Hid (beginsU s p = bgs s p (5 - n) n) ∧ Below w.heap.size w wr) (fun vn _ _ _ => 5 - (intOf vn).toNat)
  case atStart =>
    exact ⟨1, rfl, by omega, by omega, rfl, Below.refl _ _⟩
  case round =>
    obtain ⟨n, rfl, h1, h5, hB, hb⟩ := hrel
    have HB0 : Hid (Below w.heap.size w wr) := hb
    clear hb
    by_cases h4 : n = 5
    · subst h4
      go_wp2_with fail
      go_ret
      exact ⟨by rw [hB.out]; rfl, HB0.out⟩
    · by_cases hle : p + n ≤ s.size
      · rcases (show n = 1 ∨ n = 2 ∨ n = 3 ∨ n = 4 by omega) with rfl | rfl | rfl | rfl
        ·
          rw [show ((1 : Nat) : Int) = (1 : Int) from rfl]
          go_wp2_with fail
          go_loopw [6, 7] (fun vu vi wq => ∃ (k x : Nat), vu = .int .i64 x ∧ vi = .int .i64 ((k : Int) + 1) ∧ k + 1 ≤ 1 ∧ x < 67108864 ∧ (k ≤ 2 → x < 1048576) ∧ (k ≤ 1 → x < 16384) ∧ (k = 0 → x < 256) ∧ Hid (x = acc s p (s.get! p).toNat k) ∧ Below w.heap.size w wq) (fun _ vi _ => 1 - (intOf vi).toNat)
          case atStart =>
            have hm := (s.get! p).toNat_lt
            have hm2 := Nat.mod_le (s.get! p).toNat (md 1)
            exact ⟨0, (s.get! p).toNat, by rw [w64b, ← get_bang s p hp] <;> rfl, rfl, by omega, by omega, by omega, by omega, by omega, rfl, HB0.out⟩
          case round =>
            clear HB0
            obtain ⟨k, x, rfl, rfl, hk, hx, hx2, hx1, hx0, hX, hb⟩ := hrel
            have HB1 : Hid (Below w.heap.size w wr) := hb
            clear hb
            have hxi : (x : Int) < 67108864 := by omega
            by_cases hlt : k + 1 < 1
            · as_aux_lemma =>
                obtain ⟨q, hq⟩ : ∃ q : Nat, p + (k + 1) = q := ⟨_, rfl⟩
                have hqi : (p : Int) + ((k : Int) + 1) = (q : Int) := by omega
                have hqs : (q : Int) < (s.size : Int) := by omega
                have HQ : Hid (p + (k + 1) = q) := hq
                clear hq
                have hxj : (x : Int) < 1048576 := by omega
                have hlt' : (k : Int) + 1 < 1 := by omega
                omega
            · have hk1 : k = 0 := by omega
              subst hk1
              have HN : Hid (num s p 1 = x) := hX.out.symm
              have hlei : (p : Int) + 1 ≤ (s.size : Int) := by omega
              clear hX hlt hx2 hx1 hx0 hk
              cases hq : tst s p 1 with
              | true =>
                as_aux_lemma =>
                  have hq1 : wd x = 1 ∧ put x = s.extract p (p + 1) := by unfold tst at hq; rw [HN.out] at hq; exact of_decide_eq_true hq
                  have HR : Hid (beginsU s p = x) := by show beginsU s p = x; rw [hB.out, show 5 - 1 = (4 - 1) + 1 by rfl, bgs, if_pos hle, if_pos hq, HN.out]
                  have cW : Hid (∀ W : World, Calls Tryz.prog 19 #[.int .i64 x] W fun e w' => e = .returned (.int .i64 1) ∧ w' = W) := fun W => by have := rwidth_any x W; rw [hq1.1] at this; exact this
                  have cP : Hid (∀ W : World, Calls Tryz.prog 47 #[.int .i64 x] W fun e w' => e = .returned (.string (s.extract p (p + 1))) ∧ Below W.heap.size W w') := fun W => by have := rput_any x W; rw [hq1.2] at this; exact this
                  clear hq hq1 hB HN
                  go_wp2_with fail
                  refine wp_region_quiet_below mixed (by kernel_rfl) ?_
                  repeat (go_big_quiet_step ((first | (go_at_call 19; exact below_same (cW.out _)) | (go_at_call 47; exact below_of (cP.out _)))))
                  refine wpQuiet_nil ?_
                  intro _ hw'
                  obtain ⟨⟨w2, hb2⟩, hw''⟩ := hw'
                  subst hw''
                  go_wp2_with fail
                  go_ret
                  exact ⟨by rw [HR.out]; rfl, HB1.out.trans (hb2.mono HB1.out.size)⟩
              | false =>
                as_aux_lemma =>
                  have HR : Hid (beginsU s p = bgs s p (5 - (1 + 1)) (1 + 1)) := hB.out.trans (bgs_no s p (4 - 1) 1 hle hq)
                  by_cases hw : wd x = 1
                  · have hne : put x ≠ s.extract p (p + 1) := fun h => by unfold tst at hq; rw [HN.out] at hq; exact absurd ⟨hw, h⟩ (of_decide_eq_false hq)
                    have cW : Hid (∀ W : World, Calls Tryz.prog 19 #[.int .i64 x] W fun e w' => e = .returned (.int .i64 1) ∧ w' = W) := fun W => by have := rwidth_any x W; rw [hw] at this; exact this
                    obtain ⟨z, hz⟩ : ∃ z, put x = z := ⟨_, rfl⟩
                    have cP : Hid (∀ W : World, Calls Tryz.prog 47 #[.int .i64 x] W fun e w' => e = .returned (.string z) ∧ Below W.heap.size W w') := fun W => by have := rput_any x W; rw [hz] at this; exact this
                    rw [hz] at hne
                    have hzn := bstr_ne hne
                    clear hq hw hz hne hB HN
                    go_wp2_with fail
                    refine wp_region_quiet_below mixed (by kernel_rfl) ?_
                    repeat (go_big_quiet_step ((first | (go_at_call 19; exact below_same (cW.out _)) | (go_at_call 47; exact below_of (cP.out _)))))
                    refine wpQuiet_nil ?_
                    intro _ hw'
                    obtain ⟨⟨w2, hb2⟩, hw''⟩ := hw'
                    subst hw''
                    go_wp2_with fail
                    exact ⟨⟨1 + 1, rfl, by omega, by omega, HR, HB1.out.trans (hb2.mono HB1.out.size)⟩, by simp [intOf]⟩
                  · obtain ⟨d, hd⟩ : ∃ d, wd x = d := ⟨_, rfl⟩
                    have cW : Hid (∀ W : World, Calls Tryz.prog 19 #[.int .i64 x] W fun e w' => e = .returned (.int .i64 d) ∧ w' = W) := fun W => by have := rwidth_any x W; rw [hd] at this; exact this
                    rw [hd] at hw
                    have hdn : (d == 1) = false := by simpa using hw
                    clear hq hw hd hB HN
                    go_wp2_with fail
                    refine wp_region_quiet_below mixed (by kernel_rfl) ?_
                    repeat (go_big_quiet_step ((go_at_call 19; exact below_same (cW.out _))))
                    refine wpQuiet_nil ?_
                    intro _ hw'
                    obtain ⟨⟨w2, hb2⟩, hw''⟩ := hw'
                    subst hw''
                    go_wp2_with fail
                    exact ⟨⟨1 + 1, rfl, by omega, by omega, HR, HB1.out.trans (hb2.mono HB1.out.size)⟩, by simp [intOf]⟩
        ·
          rw [show ((2 : Nat) : Int) = (2 : Int) from rfl]
          go_wp2_with fail
          go_loopw [6, 7] (fun vu vi wq => ∃ (k x : Nat), vu = .int .i64 x ∧ vi = .int .i64 ((k : Int) + 1) ∧ k + 1 ≤ 2 ∧ x < 67108864 ∧ (k ≤ 2 → x < 1048576) ∧ (k ≤ 1 → x < 16384) ∧ (k = 0 → x < 256) ∧ Hid (x = acc s p ((s.get! p).toNat % md 2) k) ∧ Below w.heap.size w wq) (fun _ vi _ => 2 - (intOf vi).toNat)
          case atStart =>
            have hm := (s.get! p).toNat_lt
            have hm2 := Nat.mod_le (s.get! p).toNat (md 2)
            exact ⟨0, ((s.get! p).toNat % md 2), by rw [w64b, ← get_bang s p hp] <;> rfl, rfl, by omega, by omega, by omega, by omega, by omega, rfl, (HB0.out.alloc HB0.out.size _)⟩
          case round =>
            clear HB0
            obtain ⟨k, x, rfl, rfl, hk, hx, hx2, hx1, hx0, hX, hb⟩ := hrel
            have HB1 : Hid (Below w.heap.size w wr) := hb
            clear hb
            have hxi : (x : Int) < 67108864 := by omega
            by_cases hlt : k + 1 < 2
            · as_aux_lemma =>
                obtain ⟨q, hq⟩ : ∃ q : Nat, p + (k + 1) = q := ⟨_, rfl⟩
                have hqi : (p : Int) + ((k : Int) + 1) = (q : Int) := by omega
                have hqs : (q : Int) < (s.size : Int) := by omega
                have HQ : Hid (p + (k + 1) = q) := hq
                clear hq
                have hxj : (x : Int) < 1048576 := by omega
                have hlt' : (k : Int) + 1 < 2 := by omega
                go_wp2_with fail
                refine ⟨⟨k + 1, x * 64 + s[q].toNat % 64, by rw [step_val x s[q] (by omega)], by rw [show ((k : Int) + 1 + 1) = (((k + 1 : Nat) : Int) + 1) by omega], by omega, by omega, by omega, by omega, by omega, ?_, HB1.out⟩, by simp [intOf]; omega⟩
                show x * 64 + s[q].toNat % 64 = acc s p _ k * 64 + (s.get! (p + (k + 1))).toNat % 64
                rw [← hX.out, HQ.out, get_bang s q (by omega)]
            · have hk1 : k = 1 := by omega
              subst hk1
              have HN : Hid (num s p 2 = x) := hX.out.symm
              have hlei : (p : Int) + 2 ≤ (s.size : Int) := by omega
              clear hX hlt hx2 hx1 hx0 hk
              cases hq : tst s p 2 with
              | true =>
                as_aux_lemma =>
                  have hq1 : wd x = 2 ∧ put x = s.extract p (p + 2) := by unfold tst at hq; rw [HN.out] at hq; exact of_decide_eq_true hq
                  have HR : Hid (beginsU s p = x) := by show beginsU s p = x; rw [hB.out, show 5 - 2 = (4 - 2) + 1 by rfl, bgs, if_pos hle, if_pos hq, HN.out]
                  have cW : Hid (∀ W : World, Calls Tryz.prog 19 #[.int .i64 x] W fun e w' => e = .returned (.int .i64 2) ∧ w' = W) := fun W => by have := rwidth_any x W; rw [hq1.1] at this; exact this
                  have cP : Hid (∀ W : World, Calls Tryz.prog 47 #[.int .i64 x] W fun e w' => e = .returned (.string (s.extract p (p + 2))) ∧ Below W.heap.size W w') := fun W => by have := rput_any x W; rw [hq1.2] at this; exact this
                  clear hq hq1 hB HN
                  go_wp2_with fail
                  refine wp_region_quiet_below mixed (by kernel_rfl) ?_
                  repeat (go_big_quiet_step ((first | (go_at_call 19; exact below_same (cW.out _)) | (go_at_call 47; exact below_of (cP.out _)))))
                  refine wpQuiet_nil ?_
                  intro _ hw'
                  obtain ⟨⟨w2, hb2⟩, hw''⟩ := hw'
                  subst hw''
                  go_wp2_with fail
                  go_ret
                  exact ⟨by rw [HR.out]; rfl, HB1.out.trans (hb2.mono HB1.out.size)⟩
              | false =>
                as_aux_lemma =>
                  have HR : Hid (beginsU s p = bgs s p (5 - (2 + 1)) (2 + 1)) := hB.out.trans (bgs_no s p (4 - 2) 2 hle hq)
                  by_cases hw : wd x = 2
                  · have hne : put x ≠ s.extract p (p + 2) := fun h => by unfold tst at hq; rw [HN.out] at hq; exact absurd ⟨hw, h⟩ (of_decide_eq_false hq)
                    have cW : Hid (∀ W : World, Calls Tryz.prog 19 #[.int .i64 x] W fun e w' => e = .returned (.int .i64 2) ∧ w' = W) := fun W => by have := rwidth_any x W; rw [hw] at this; exact this
                    obtain ⟨z, hz⟩ : ∃ z, put x = z := ⟨_, rfl⟩
                    have cP : Hid (∀ W : World, Calls Tryz.prog 47 #[.int .i64 x] W fun e w' => e = .returned (.string z) ∧ Below W.heap.size W w') := fun W => by have := rput_any x W; rw [hz] at this; exact this
                    rw [hz] at hne
                    have hzn := bstr_ne hne
                    clear hq hw hz hne hB HN
                    go_wp2_with fail
                    refine wp_region_quiet_below mixed (by kernel_rfl) ?_
                    repeat (go_big_quiet_step ((first | (go_at_call 19; exact below_same (cW.out _)) | (go_at_call 47; exact below_of (cP.out _)))))
                    refine wpQuiet_nil ?_
                    intro _ hw'
                    obtain ⟨⟨w2, hb2⟩, hw''⟩ := hw'
                    subst hw''
                    go_wp2_with fail
                    exact ⟨⟨2 + 1, rfl, by omega, by omega, HR, HB1.out.trans (hb2.mono HB1.out.size)⟩, by simp [intOf]⟩
                  · obtain ⟨d, hd⟩ : ∃ d, wd x = d := ⟨_, rfl⟩
                    have cW : Hid (∀ W : World, Calls Tryz.prog 19 #[.int .i64 x] W fun e w' => e = .returned (.int .i64 d) ∧ w' = W) := fun W => by have := rwidth_any x W; rw [hd] at this; exact this
                    rw [hd] at hw
                    have hdn : (d == 2) = false := by simpa using hw
                    clear hq hw hd hB HN
                    go_wp2_with fail
                    refine wp_region_quiet_below mixed (by kernel_rfl) ?_
                    repeat (go_big_quiet_step ((go_at_call 19; exact below_same (cW.out _))))
                    refine wpQuiet_nil ?_
                    intro _ hw'
                    obtain ⟨⟨w2, hb2⟩, hw''⟩ := hw'
                    subst hw''
                    go_wp2_with fail
                    exact ⟨⟨2 + 1, rfl, by omega, by omega, HR, HB1.out.trans (hb2.mono HB1.out.size)⟩, by simp [intOf]⟩
        ·
          rw [show ((3 : Nat) : Int) = (3 : Int) from rfl]
          go_wp2_with fail
          go_loopw [6, 7] (fun vu vi wq => ∃ (k x : Nat), vu = .int .i64 x ∧ vi = .int .i64 ((k : Int) + 1) ∧ k + 1 ≤ 3 ∧ x < 67108864 ∧ (k ≤ 2 → x < 1048576) ∧ (k ≤ 1 → x < 16384) ∧ (k = 0 → x < 256) ∧ Hid (x = acc s p ((s.get! p).toNat % md 3) k) ∧ Below w.heap.size w wq) (fun _ vi _ => 3 - (intOf vi).toNat)
          case atStart =>
            have hm := (s.get! p).toNat_lt
            have hm2 := Nat.mod_le (s.get! p).toNat (md 3)
            exact ⟨0, ((s.get! p).toNat % md 3), by rw [w64b, ← get_bang s p hp] <;> rfl, rfl, by omega, by omega, by omega, by omega, by omega, rfl, (HB0.out.alloc HB0.out.size _)⟩
          case round =>
            clear HB0
            obtain ⟨k, x, rfl, rfl, hk, hx, hx2, hx1, hx0, hX, hb⟩ := hrel
            have HB1 : Hid (Below w.heap.size w wr) := hb
            clear hb
            have hxi : (x : Int) < 67108864 := by omega
            by_cases hlt : k + 1 < 3
            · as_aux_lemma =>
                obtain ⟨q, hq⟩ : ∃ q : Nat, p + (k + 1) = q := ⟨_, rfl⟩
                have hqi : (p : Int) + ((k : Int) + 1) = (q : Int) := by omega
                have hqs : (q : Int) < (s.size : Int) := by omega
                have HQ : Hid (p + (k + 1) = q) := hq
                clear hq
                have hxj : (x : Int) < 1048576 := by omega
                have hlt' : (k : Int) + 1 < 3 := by omega
                go_wp2_with fail
                refine ⟨⟨k + 1, x * 64 + s[q].toNat % 64, by rw [step_val x s[q] (by omega)], by rw [show ((k : Int) + 1 + 1) = (((k + 1 : Nat) : Int) + 1) by omega], by omega, by omega, by omega, by omega, by omega, ?_, HB1.out⟩, by simp [intOf]; omega⟩
                show x * 64 + s[q].toNat % 64 = acc s p _ k * 64 + (s.get! (p + (k + 1))).toNat % 64
                rw [← hX.out, HQ.out, get_bang s q (by omega)]
            · have hk1 : k = 2 := by omega
              subst hk1
              have HN : Hid (num s p 3 = x) := hX.out.symm
              have hlei : (p : Int) + 3 ≤ (s.size : Int) := by omega
              clear hX hlt hx2 hx1 hx0 hk
              cases hq : tst s p 3 with
              | true =>
                as_aux_lemma =>
                  have hq1 : wd x = 3 ∧ put x = s.extract p (p + 3) := by unfold tst at hq; rw [HN.out] at hq; exact of_decide_eq_true hq
                  have HR : Hid (beginsU s p = x) := by show beginsU s p = x; rw [hB.out, show 5 - 3 = (4 - 3) + 1 by rfl, bgs, if_pos hle, if_pos hq, HN.out]
                  have cW : Hid (∀ W : World, Calls Tryz.prog 19 #[.int .i64 x] W fun e w' => e = .returned (.int .i64 3) ∧ w' = W) := fun W => by have := rwidth_any x W; rw [hq1.1] at this; exact this
                  have cP : Hid (∀ W : World, Calls Tryz.prog 47 #[.int .i64 x] W fun e w' => e = .returned (.string (s.extract p (p + 3))) ∧ Below W.heap.size W w') := fun W => by have := rput_any x W; rw [hq1.2] at this; exact this
                  clear hq hq1 hB HN
                  go_wp2_with fail
                  refine wp_region_quiet_below mixed (by kernel_rfl) ?_
                  repeat (go_big_quiet_step ((first | (go_at_call 19; exact below_same (cW.out _)) | (go_at_call 47; exact below_of (cP.out _)))))
                  refine wpQuiet_nil ?_
                  intro _ hw'
                  obtain ⟨⟨w2, hb2⟩, hw''⟩ := hw'
                  subst hw''
                  go_wp2_with fail
                  go_ret
                  exact ⟨by rw [HR.out]; rfl, HB1.out.trans (hb2.mono HB1.out.size)⟩
              | false =>
                as_aux_lemma =>
                  have HR : Hid (beginsU s p = bgs s p (5 - (3 + 1)) (3 + 1)) := hB.out.trans (bgs_no s p (4 - 3) 3 hle hq)
                  by_cases hw : wd x = 3
                  · have hne : put x ≠ s.extract p (p + 3) := fun h => by unfold tst at hq; rw [HN.out] at hq; exact absurd ⟨hw, h⟩ (of_decide_eq_false hq)
                    have cW : Hid (∀ W : World, Calls Tryz.prog 19 #[.int .i64 x] W fun e w' => e = .returned (.int .i64 3) ∧ w' = W) := fun W => by have := rwidth_any x W; rw [hw] at this; exact this
                    obtain ⟨z, hz⟩ : ∃ z, put x = z := ⟨_, rfl⟩
                    have cP : Hid (∀ W : World, Calls Tryz.prog 47 #[.int .i64 x] W fun e w' => e = .returned (.string z) ∧ Below W.heap.size W w') := fun W => by have := rput_any x W; rw [hz] at this; exact this
                    rw [hz] at hne
                    have hzn := bstr_ne hne
                    clear hq hw hz hne hB HN
                    go_wp2_with fail
                    refine wp_region_quiet_below mixed (by kernel_rfl) ?_
                    repeat (go_big_quiet_step ((first | (go_at_call 19; exact below_same (cW.out _)) | (go_at_call 47; exact below_of (cP.out _)))))
                    refine wpQuiet_nil ?_
                    intro _ hw'
                    obtain ⟨⟨w2, hb2⟩, hw''⟩ := hw'
                    subst hw''
                    go_wp2_with fail
                    exact ⟨⟨3 + 1, rfl, by omega, by omega, HR, HB1.out.trans (hb2.mono HB1.out.size)⟩, by simp [intOf]⟩
                  · obtain ⟨d, hd⟩ : ∃ d, wd x = d := ⟨_, rfl⟩
                    have cW : Hid (∀ W : World, Calls Tryz.prog 19 #[.int .i64 x] W fun e w' => e = .returned (.int .i64 d) ∧ w' = W) := fun W => by have := rwidth_any x W; rw [hd] at this; exact this
                    rw [hd] at hw
                    have hdn : (d == 3) = false := by simpa using hw
                    clear hq hw hd hB HN
                    go_wp2_with fail
                    refine wp_region_quiet_below mixed (by kernel_rfl) ?_
                    repeat (go_big_quiet_step ((go_at_call 19; exact below_same (cW.out _))))
                    refine wpQuiet_nil ?_
                    intro _ hw'
                    obtain ⟨⟨w2, hb2⟩, hw''⟩ := hw'
                    subst hw''
                    go_wp2_with fail
                    exact ⟨⟨3 + 1, rfl, by omega, by omega, HR, HB1.out.trans (hb2.mono HB1.out.size)⟩, by simp [intOf]⟩
        ·
          rw [show ((4 : Nat) : Int) = (4 : Int) from rfl]
          go_wp2_with fail
          go_loopw [6, 7] (fun vu vi wq => ∃ (k x : Nat), vu = .int .i64 x ∧ vi = .int .i64 ((k : Int) + 1) ∧ k + 1 ≤ 4 ∧ x < 67108864 ∧ (k ≤ 2 → x < 1048576) ∧ (k ≤ 1 → x < 16384) ∧ (k = 0 → x < 256) ∧ Hid (x = acc s p ((s.get! p).toNat % md 4) k) ∧ Below w.heap.size w wq) (fun _ vi _ => 4 - (intOf vi).toNat)
          case atStart =>
            have hm := (s.get! p).toNat_lt
            have hm2 := Nat.mod_le (s.get! p).toNat (md 4)
            exact ⟨0, ((s.get! p).toNat % md 4), by rw [w64b, ← get_bang s p hp] <;> rfl, rfl, by omega, by omega, by omega, by omega, by omega, rfl, (HB0.out.alloc HB0.out.size _)⟩
          case round =>
            clear HB0
            obtain ⟨k, x, rfl, rfl, hk, hx, hx2, hx1, hx0, hX, hb⟩ := hrel
            have HB1 : Hid (Below w.heap.size w wr) := hb
            clear hb
            have hxi : (x : Int) < 67108864 := by omega
            by_cases hlt : k + 1 < 4
            · as_aux_lemma =>
                obtain ⟨q, hq⟩ : ∃ q : Nat, p + (k + 1) = q := ⟨_, rfl⟩
                have hqi : (p : Int) + ((k : Int) + 1) = (q : Int) := by omega
                have hqs : (q : Int) < (s.size : Int) := by omega
                have HQ : Hid (p + (k + 1) = q) := hq
                clear hq
                have hxj : (x : Int) < 1048576 := by omega
                have hlt' : (k : Int) + 1 < 4 := by omega
                go_wp2_with fail
                refine ⟨⟨k + 1, x * 64 + s[q].toNat % 64, by rw [step_val x s[q] (by omega)], by rw [show ((k : Int) + 1 + 1) = (((k + 1 : Nat) : Int) + 1) by omega], by omega, by omega, by omega, by omega, by omega, ?_, HB1.out⟩, by simp [intOf]; omega⟩
                show x * 64 + s[q].toNat % 64 = acc s p _ k * 64 + (s.get! (p + (k + 1))).toNat % 64
                rw [← hX.out, HQ.out, get_bang s q (by omega)]
            · have hk1 : k = 3 := by omega
              subst hk1
              have HN : Hid (num s p 4 = x) := hX.out.symm
              have hlei : (p : Int) + 4 ≤ (s.size : Int) := by omega
              clear hX hlt hx2 hx1 hx0 hk
              cases hq : tst s p 4 with
              | true =>
                as_aux_lemma =>
                  have hq1 : wd x = 4 ∧ put x = s.extract p (p + 4) := by unfold tst at hq; rw [HN.out] at hq; exact of_decide_eq_true hq
                  have HR : Hid (beginsU s p = x) := by show beginsU s p = x; rw [hB.out, show 5 - 4 = (4 - 4) + 1 by rfl, bgs, if_pos hle, if_pos hq, HN.out]
                  have cW : Hid (∀ W : World, Calls Tryz.prog 19 #[.int .i64 x] W fun e w' => e = .returned (.int .i64 4) ∧ w' = W) := fun W => by have := rwidth_any x W; rw [hq1.1] at this; exact this
                  have cP : Hid (∀ W : World, Calls Tryz.prog 47 #[.int .i64 x] W fun e w' => e = .returned (.string (s.extract p (p + 4))) ∧ Below W.heap.size W w') := fun W => by have := rput_any x W; rw [hq1.2] at this; exact this
                  clear hq hq1 hB HN
                  go_wp2_with fail
                  refine wp_region_quiet_below mixed (by kernel_rfl) ?_
                  repeat (go_big_quiet_step ((first | (go_at_call 19; exact below_same (cW.out _)) | (go_at_call 47; exact below_of (cP.out _)))))
                  refine wpQuiet_nil ?_
                  intro _ hw'
                  obtain ⟨⟨w2, hb2⟩, hw''⟩ := hw'
                  subst hw''
                  go_wp2_with fail
                  go_ret
                  exact ⟨by rw [HR.out]; rfl, HB1.out.trans (hb2.mono HB1.out.size)⟩
              | false =>
                as_aux_lemma =>
                  have HR : Hid (beginsU s p = bgs s p (5 - (4 + 1)) (4 + 1)) := hB.out.trans (bgs_no s p (4 - 4) 4 hle hq)
                  by_cases hw : wd x = 4
                  · have hne : put x ≠ s.extract p (p + 4) := fun h => by unfold tst at hq; rw [HN.out] at hq; exact absurd ⟨hw, h⟩ (of_decide_eq_false hq)
                    have cW : Hid (∀ W : World, Calls Tryz.prog 19 #[.int .i64 x] W fun e w' => e = .returned (.int .i64 4) ∧ w' = W) := fun W => by have := rwidth_any x W; rw [hw] at this; exact this
                    obtain ⟨z, hz⟩ : ∃ z, put x = z := ⟨_, rfl⟩
                    have cP : Hid (∀ W : World, Calls Tryz.prog 47 #[.int .i64 x] W fun e w' => e = .returned (.string z) ∧ Below W.heap.size W w') := fun W => by have := rput_any x W; rw [hz] at this; exact this
                    rw [hz] at hne
                    have hzn := bstr_ne hne
                    clear hq hw hz hne hB HN
                    go_wp2_with fail
                    refine wp_region_quiet_below mixed (by kernel_rfl) ?_
                    repeat (go_big_quiet_step ((first | (go_at_call 19; exact below_same (cW.out _)) | (go_at_call 47; exact below_of (cP.out _)))))
                    refine wpQuiet_nil ?_
                    intro _ hw'
                    obtain ⟨⟨w2, hb2⟩, hw''⟩ := hw'
                    subst hw''
                    go_wp2_with fail
                    exact ⟨⟨4 + 1, rfl, by omega, by omega, HR, HB1.out.trans (hb2.mono HB1.out.size)⟩, by simp [intOf]⟩
                  · obtain ⟨d, hd⟩ : ∃ d, wd x = d := ⟨_, rfl⟩
                    have cW : Hid (∀ W : World, Calls Tryz.prog 19 #[.int .i64 x] W fun e w' => e = .returned (.int .i64 d) ∧ w' = W) := fun W => by have := rwidth_any x W; rw [hd] at this; exact this
                    rw [hd] at hw
                    have hdn : (d == 4) = false := by simpa using hw
                    clear hq hw hd hB HN
                    go_wp2_with fail
                    refine wp_region_quiet_below mixed (by kernel_rfl) ?_
                    repeat (go_big_quiet_step ((go_at_call 19; exact below_same (cW.out _))))
                    refine wpQuiet_nil ?_
                    intro _ hw'
                    obtain ⟨⟨w2, hb2⟩, hw''⟩ := hw'
                    subst hw''
                    go_wp2_with fail
                    exact ⟨⟨4 + 1, rfl, by omega, by omega, HR, HB1.out.trans (hb2.mono HB1.out.size)⟩, by simp [intOf]⟩
      · as_aux_lemma =>
          have hle' : ¬ ((p : Int) + n ≤ (s.size : Int)) := by omega
          go_wp2_with fail
          go_ret
          obtain ⟨j, hj⟩ : ∃ j, 5 - n = j + 1 := ⟨4 - n, by omega⟩
          refine ⟨?_, HB0.out⟩
          rw [hB.out, hj, bgs, if_neg hle]
          rfl
theorem info89 : (Tryz.prog.info? 50).map (fun i => (i.zero, i.size, i.bytes)) = some (some (.agg #[.int .i64 0, .int .i64 0]), 2, 16) := by kernel_rfl
theorem flat_append (l r : List (Nat × Nat)) : flat (l ++ r) = flat l ++ flat r := by simp [flat]
theorem flat_at : ∀ (l : List (Nat × Nat)) {j : Nat} {x : Nat × Nat}, l[j]? = some x → (flat l)[j * 2]? = some (.int .i64 x.1) ∧ (flat l)[j * 2 + 1]? = some (.int .i64 x.2)
  | [], j, x, h => by simp at h
  | y :: l, 0, x, h => by simp at h; subst h; simp [flat]
  | y :: l, j + 1, x, h => by
    have ih := flat_at l (j := j) (x := x) (by simpa using h)
    have e : flat (y :: l) = .int .i64 y.1 :: .int .i64 y.2 :: flat l := by simp [flat]
    rw [e, show (j + 1) * 2 = j * 2 + 1 + 1 by omega]
    simpa using ih
theorem addr_zero (g j : Nat) : (⟨g, 0, none⟩ : Addr).add j = ⟨g, j, none⟩ := by
  unfold Addr.add
  by_cases h : j = 0
  · subst h; rfl
  · simp [h]
theorem OwnU.at {w : World} {base g n cap : Nat} {l : List (Nat × Nat)} (h : OwnU w base (.slice (some ⟨g, 0, none⟩) n cap) l) {j : Nat} {x : Nat × Nat} (hj : l[j]? = some x) : w.cell? ⟨g, j * 2, none⟩ = some (.int .i64 x.1) ∧ w.cell? ⟨g, j * 2 + 1, none⟩ = some (.int .i64 x.2) := by
  have h1 := h.cells rfl
  have := flat_at l hj
  have a1 := h1 _ _ this.1
  have a2 := h1 _ _ this.2
  rw [addr_zero] at a1 a2
  exact ⟨a1, a2⟩
theorem uinfo_parts {P : Program} {e : TypeId} {z : Value} {s b : Nat} (h : (P.info? e).map (fun i => (i.zero, i.size, i.bytes)) = some (some z, s, b)) : ∃ i, P.info? e = some i ∧ i.zero = some z ∧ i.size = s ∧ i.bytes = b := by
  cases hi : P.info? e with
  | none => rw [hi] at h; simp at h
  | some i => rw [hi] at h; simp at h; exact ⟨i, rfl, h.1, h.2.1, h.2.2⟩
/-- one more behind such a row -/
theorem push_U {ops : Array Oper} {rest : List Oper} {o : Oper} {a : Act} {Q : Exit → Act → World → Prop} {w : World} (hgd : o.guard = none) (s x : Operand)
    (ho : o.op = .call { callee := .builtin .append, args := #[s, x], argTypes := #[47, 47] })
    (base : Nat) (v : Value) (l : List (Nat × Nat)) (hs : a.eval s = v) (hown : OwnU w base v l) (g c : Nat) (p q : Nat) (q' : Int) (hqq : q' = (q : Int)) (hx : a.eval x = .slice (some ⟨g, 0, none⟩) 1 c)
    (hp : w.cell? ⟨g, 0, none⟩ = some (.int .i64 p)) (hq : w.cell? ⟨g, 1, none⟩ = some (.int .i64 q')) (hl : l.length + 1 ≤ 8796093022208) (hbase : base ≤ w.heap.size)
    (h : ∀ v' w', OwnU w' base v' (l ++ [(p, q)]) → Below base w w' → wpList Tryz.prog ops Q rest (a.put o.dst v') w') : wpList Tryz.prog ops Q (o :: rest) a w := by
  subst hqq
  obtain ⟨i0, hi, hz0, hz1, hz2⟩ := uinfo_parts info89
  refine wpList_append_own w hgd s x 47 ho base 50 i0 (.agg #[.int .i64 0, .int .i64 0]) 2 16 Tryz.underlying47 hi hz0 hz1 hz2 rfl (by decide) v l.length (flat l) hs hown ⟨g, 0, none⟩ 1 c (flat [(p, q)]) hx rfl ?_ ?_ (by unfold maxLen; omega) (by omega) hbase (fun v' w' h2 h3 _ => h v' w' ?_ ((Below.refl _ w).grown h3 hbase (fun k hk => (World.ownsRow.lt hown k hk).1)))
  · intro j u hj
    match j, hj with
    | 0, hj => simp [flat] at hj; subst hj; exact hp
    | 1, hj => simp [flat] at hj; subst hj; exact hq
  · intro u hu; simp [flat] at hu; rcases hu with rfl | rfl <;> rfl
  · unfold OwnU
    rw [flat_append, List.length_append]
    exact h2
theorem units_next (s : ByteArray) (p : Nat) (hp : p < s.size) : unitsN s s.size p = (p, uAt s p) :: unitsN s s.size (p + uw s p) := by
  obtain ⟨j, hj⟩ : ∃ j, s.size = j + 1 := ⟨s.size - 1, by omega⟩
  have h1 := unitsN_step s j p hp
  have hu := uw_pos s p
  rw [← hj] at h1
  rw [h1, fuel s j s.size (p + uw s p) (by omega) (by omega)]
theorem strayVal (s : ByteArray) (p : Nat) (hp : p < s.size) : wrap64 (1114112 + wrap64 (s[p].toNat : Int)) = ((1114112 + (s.get! p).toNat : Nat) : Int) := by
  have := (s[p]).toNat_lt
  rw [w64b, get_bang s p hp, show (1114112 : Int) + ((s[p].toNat : Nat) : Int) = ((1114112 + s[p].toNat : Nat) : Int) by omega]
  exact IntWalk.wrap64_in _ (by omega)
set_option maxHeartbeats 4000000 in
theorem runits_any (s : ByteArray) (w : World) (hs : s.size ≤ 4398046511104) : Calls Tryz.prog 18 #[.string s] w fun e w' => ∃ v, e = .returned v ∧ OwnU w' w.heap.size v (units s) ∧ Below w.heap.size w w' := by
  have hsi : (s.size : Int) ≤ 4398046511104 := by omega
  go_enter Tryz.func18, Tryz.ntmps18
  go_wp2
  go_loopw [3, 4] (fun vo va wr => ∃ (p : Nat) (l : List (Nat × Nat)), va = .int .i64 p ∧ p ≤ s.size ∧ l.length ≤ p ∧ Hid (l ++ unitsN s s.size p = units s) ∧ OwnU wr w.heap.size vo l ∧ Below w.heap.size w wr) (fun _ va _ => s.size - (intOf va).toNat)
  case atStart => exact ⟨0, [], rfl, by omega, by simp, rfl, World.ownsRow_lit w _ 0 (Nat.le_refl _) (by unfold maxLen; omega) rfl, (Below.refl _ w).alloc (Nat.le_refl _) _⟩
  case round =>
    obtain ⟨p, l, rfl, hp, hl, hU, hO, hB⟩ := hrel
    have HO : Hid (OwnU wr w.heap.size u3 l) := hO
    have HB : Hid (Below w.heap.size w wr) := hB
    clear hO hB
    by_cases hps : p = s.size
    · as_aux_lemma =>
        subst hps
        have e : l = units s := by rw [← hU.out, unitsN_end s _ _ (by omega), List.append_nil]
        subst e
        clear hU
        go_wp2
        go_ret
        exact ⟨_, rfl, HO.out, HB.out⟩
    · have hlt : p < s.size := by omega
      have hpi : (p : Int) < (s.size : Int) := by omega
      have hu := uw_pos s p
      have hin := uw_in s p hlt
      have HN : Hid ((l ++ [(p, uAt s p)]) ++ unitsN s s.size (p + uw s p) = units s) := by
        show _ = _
        rw [← hU.out, units_next s p hlt]; simp
      have hux := uAt_lt s p
      have HW : Hid (wd (uAt s p : Int) = (uw s p : Int)) := wd_uAt s p
      cases hst : strayAt s p with
      | true =>
        as_aux_lemma =>
          have HE : Hid (beginsU s p = -1) := by show _ = _; rw [begins_eq s p hlt, hst]; rfl
          have HA : Hid (1114112 + (s.get! p).toNat = uAt s p) := (uAt_stray hst).symm
          clear hst hU
          generalize uAt s p = x at *
          generalize uw s p = d at *
          go_wp2_with fail
          refine (begins_any s p _ hlt hs).mono ?_
          rw [HE.out]
          rintro e w1 ⟨rfl, hb1⟩
          replace HO : Hid (OwnU w1 w.heap.size u3 l) := HO.out.below hb1 (Nat.le_refl _)
          replace HB : Hid (Below w.heap.size w w1) := HB.out.trans (hb1.mono HB.out.size)
          have hz := HB.out.size
          clear hb1 HE
          go_wp2_with (at_builtin; go_must (refine push_U rfl _ _ rfl w.heap.size _ _ rfl (HO.out.alloc _) _ _ p x _ ((strayVal s p hlt).trans (by rw [HA.out])) rfl (by simp) (by simp) (by omega) (by simp; omega) ?_); intro v' w3 hO1 hb3)
          have HO1 : Hid (OwnU w3 w.heap.size v' (l ++ [(p, x)])) := hO1
          have HB3 : Hid (Below w.heap.size w w3) := (HB.out.alloc hz _).trans hb3
          clear hO1 hb3 HO HB
          go_wp2_with fail
          refine (rwidth_any _ _).mono ?_
          rw [strayVal s p hlt, HA.out, HW.out]
          rintro e w4 ⟨rfl, rfl⟩
          clear HA HW
          go_wp2
          exact ⟨⟨p + d, _, by go_num, by omega, by simp; omega, HN, HO1.out, HB3.out⟩, by simp [intOf]; omega⟩
      | false =>
        as_aux_lemma =>
          have HE : Hid (beginsU s p = (uAt s p : Int)) := by show _ = _; rw [begins_eq s p hlt, hst]; rfl
          clear hst hU
          generalize uAt s p = x at *
          generalize uw s p = d at *
          clear hux
          have hz := HB.out.size
          go_wp2_with fail
          refine (begins_any s p _ hlt hs).mono ?_
          rw [HE.out]
          rintro e w1 ⟨rfl, hb1⟩
          replace HO : Hid (OwnU w1 w.heap.size u3 l) := HO.out.below hb1 (Nat.le_refl _)
          replace HB : Hid (Below w.heap.size w w1) := HB.out.trans (hb1.mono HB.out.size)
          replace hz := HB.out.size
          clear hb1 HE
          go_wp2_with (at_builtin; go_must (refine push_U rfl _ _ rfl w.heap.size _ _ rfl (HO.out.alloc _) _ _ p x _ rfl rfl (by simp) (by simp) (by omega) (by simp; omega) ?_); intro v' w3 hO1 hb3)
          have HO1 : Hid (OwnU w3 w.heap.size v' (l ++ [(p, x)])) := hO1
          have HB3 : Hid (Below w.heap.size w w3) := (HB.out.alloc hz _).trans hb3
          clear hO1 hb3 HO HB
          go_wp2_with fail
          refine (rwidth_any _ _).mono ?_
          rw [HW.out]
          rintro e w4 ⟨rfl, rfl⟩
          clear HW
          go_wp2
          exact ⟨⟨p + d, _, by go_num, by omega, by simp; omega, HN, HO1.out, HB3.out⟩, by simp [intOf]; omega⟩
/-- one number more behind such a row -/
theorem push_I1 {ops : Array Oper} {rest : List Oper} {o : Oper} {a : Act} {Q : Exit → Act → World → Prop} {w : World} (hgd : o.guard = none) (s x : Operand)
    (ho : o.op = .call { callee := .builtin .append, args := #[s, x], argTypes := #[25, 25] })
    (base : Nat) (v : Value) (l : List Int) (hs : a.eval s = v) (hown : OwnI1 w base v l) (g c : Nat) (p : Int) (hx : a.eval x = .slice (some ⟨g, 0, none⟩) 1 c)
    (hp : w.cell? ⟨g, 0, none⟩ = some (.int .i64 p)) (hl : l.length + 1 ≤ 8796093022208) (hbase : base ≤ w.heap.size)
    (h : ∀ v' w', OwnI1 w' base v' (l ++ [p]) → Below base w w' → wpList Tryz.prog ops Q rest (a.put o.dst v') w') : wpList Tryz.prog ops Q (o :: rest) a w := by
  obtain ⟨i0, hi, hz0, hz1, hz2⟩ := uinfo_parts info3
  refine wpList_append_own w hgd s x 25 ho base 3 i0 (.int .i64 0) 1 8 Tryz.underlying25 hi hz0 hz1 hz2 rfl (by decide) v l.length _ hs hown ⟨g, 0, none⟩ 1 c [.int .i64 p] hx rfl ?_ (by simp; rfl) (by unfold maxLen; omega) (by omega) hbase (fun v' w' h2 h3 _ => h v' w' ?_ ((Below.refl _ w).grown h3 hbase (fun k hk => (World.ownsRow.lt hown k hk).1)))
  · intro j u hj
    match j, hj with
    | 0, hj => simp at hj; subst hj; exact hp
  · unfold OwnI1
    rw [List.map_append, List.length_append]
    exact h2
theorem push_I0 {ops : Array Oper} {rest : List Oper} {o : Oper} {a : Act} {Q : Exit → Act → World → Prop} {w : World} (hgd : o.guard = none) (s x : Operand)
    (ho : o.op = .call { callee := .builtin .append, args := #[s, x], argTypes := #[25, 25] })
    (base : Nat) (v : Value) (l : List Int) (hs : a.eval s = v) (hown : OwnI0 w base v l) (g c : Nat) (p : Int) (hx : a.eval x = .slice (some ⟨g, 0, none⟩) 1 c)
    (hp : w.cell? ⟨g, 0, none⟩ = some (.int .i64 p)) (hl : l.length + 1 ≤ 8796093022208) (hbase : base ≤ w.heap.size)
    (h : ∀ v' w', OwnI0 w' base v' (l ++ [p]) → Below base w w' → wpList Tryz.prog ops Q rest (a.put o.dst v') w') : wpList Tryz.prog ops Q (o :: rest) a w := by
  rcases hown with ⟨A, rfl, rfl⟩ | hown
  · obtain ⟨i0, hi, hz0, hz1, hz2⟩ := uinfo_parts info3
    refine wpList_append_grows w hgd s x 25 ho 3 i0 (.int .i64 0) 1 8 Tryz.underlying25 hi hz0 hz1 hz2 rfl (by decide) A 0 0 [] hs (fun _ => ⟨rfl, rfl⟩) rfl (fun b _ j u hj => by simp at hj) ⟨g, 0, none⟩ 1 c [.int .i64 p] hx rfl ?_ (by simp; rfl) (by omega) (by unfold maxLen; omega) (by omega) (fun v' w' h2 h3 => h v' w' (.inr ?_) ((Below.refl _ w).grown h3 hbase (fun k hk => by cases hk)))
    · intro j u hj
      match j, hj with
      | 0, hj => simp at hj; subst hj; exact hp
    · exact Joins.ownsRow_le h2 hbase
  · exact push_I1 hgd s x ho base v l hs hown g c p hx hp hl hbase (fun v' w' h1 h2 => h v' w' (.inr h1) h2)
theorem intsU_at {l : List (Nat × Nat)} {i : Nat} {x : Nat × Nat} (h : l[i]? = some x) : (intsU l).take (i + 1) = (intsU l).take i ++ [(x.2 : Int)] := by
  obtain ⟨hlt, e⟩ := List.getElem?_eq_some_iff.1 h
  rw [List.take_succ_eq_append_getElem (by rw [intsU_length]; exact hlt)]
  simp [intsU, e]
set_option maxHeartbeats 4000000 in
theorem rcut_any (s : ByteArray) (w : World) (hs : s.size ≤ 4398046511104) : Calls Tryz.prog 8 #[.string s] w fun e w' => ∃ v, e = .returned v ∧ IR w' v (intsU (units s)) ∧ Below w.heap.size w w' := by
  have hul := units_len s
  go_enter Tryz.func8, Tryz.ntmps8
  go_wp2_with fail
  refine (runits_any s _ hs).mono ?_
  rintro e w1 ⟨v, rfl, hO, hb⟩
  obtain ⟨A, n, cap, rfl, hn, hcells⟩ : ∃ A n cap, v = .slice A n cap ∧ n = (units s).length ∧ ∀ j x, (units s)[j]? = some x → ∃ g, A = some ⟨g, 0, none⟩ ∧ g < w1.heap.size ∧ w1.cell? ⟨g, j * 2 + 1, none⟩ = some (.int .i64 x.2) ∧ n ≤ cap := by
    rcases hO.2 with ⟨rfl, h0⟩ | ⟨g, cap, cur, rfl, _, hh, hc, _⟩
    · have : units s = [] := List.eq_nil_of_length_eq_zero h0
      exact ⟨none, 0, 0, rfl, by rw [this]; rfl, fun j x h => by rw [this] at h; simp at h⟩
    · exact ⟨_, _, cap, rfl, rfl, fun j x h => ⟨g, rfl, (Array.getElem?_eq_some_iff.1 hh).1, (OwnU.at hO h).2, hc⟩⟩
  have HC : Hid (∀ j x, (units s)[j]? = some x → ∃ g, A = some ⟨g, 0, none⟩ ∧ g < w1.heap.size ∧ w1.cell? ⟨g, j * 2 + 1, none⟩ = some (.int .i64 x.2) ∧ n ≤ cap) := hcells
  have HN : Hid (n = (units s).length) := hn
  have hni : n ≤ 4398046511104 := by omega
  have hb0 : Below w.heap.size w w1 := by
    first | exact hb | exact ((Below.refl _ w).alloc (Nat.le_refl _) _).trans (hb.mono (by simp))
  have HB : Hid (Below w.heap.size w w1) := hb0
  have hz1 : w.heap.size ≤ w1.heap.size := hb0.size
  clear hcells hb hn hO hb0 hul
  go_wp2
  go_loopw [3, 5] (fun vo vi wr => ∃ i : Nat, vi = .int .i64 i ∧ i ≤ n ∧ OwnI0 wr w1.heap.size vo ((intsU (units s)).take i) ∧ Below w1.heap.size w1 wr) (fun _ vi _ => n - (intOf vi).toNat)
  case atStart => exact ⟨0, rfl, by omega, .inl ⟨_, rfl, rfl⟩, Below.refl _ _⟩
  case round =>
    obtain ⟨i, rfl, hi, hO, hW⟩ := hrel
    have hz : w1.heap.size ≤ wr.heap.size := hW.size
    by_cases hin : i = n
    · as_aux_lemma =>
        have hni' := hin.symm
        subst hni'
        have HO : Hid (IR wr u3 (intsU (units s))) := by
          have := hO.ir
          rw [List.take_of_length_le (by rw [intsU_length, HN.out]; exact Nat.le_refl _)] at this
          exact this
        have HW : Hid (Below w1.heap.size w1 wr) := hW
        clear hO hW
        go_wp2
        go_ret
        exact ⟨_, rfl, HO.out, HB.out.trans (HW.out.mono hz1)⟩
    · as_aux_lemma =>
        obtain ⟨x, hx⟩ : ∃ x, (units s)[i]? = some x := ⟨_, List.getElem?_eq_getElem (by rw [← HN.out]; omega)⟩
        obtain ⟨g, rfl, hg, hc, hcap⟩ := HC.out i x hx
        have hc' := (hW.cell (p := ⟨g, i * 2 + 1, none⟩) hg).trans hc
        have HT : Hid ((intsU (units s)).take (i + 1) = (intsU (units s)).take i ++ [(x.2 : Int)]) := intsU_at hx
        have hlen : ((intsU (units s)).take i).length = i := by rw [List.length_take, intsU_length, ← HN.out]; omega
        have HO : Hid (OwnI0 wr w1.heap.size u3 ((intsU (units s)).take i)) := hO
        have HW : Hid (Below w1.heap.size w1 wr) := hW
        have HL : Hid (((intsU (units s)).take i).length = i) := hlen
        clear hx hc hO hW hlen
        go_wp2_with (at_builtin; go_must (refine push_I0 rfl _ _ rfl w1.heap.size _ _ rfl (HO.out.alloc _) _ _ (x.2 : Int) rfl (by simp) (by rw [HL.out]; omega) (by simp; omega) ?_); intro v' w3 hO1 hb3)
        exact ⟨⟨i + 1, by go_num, by omega, by rw [HT.out]; exact hO1, (HW.out.alloc hz _).trans hb3⟩, by simp [intOf]; omega⟩
theorem row_below5 {w w' : World} {base n : Nat} {e : TypeId} {v : Value} {k : Nat} {xs : List Value} (h : w.ownsRow base e 1 v k xs) (hb : Below n w w') (hn : w.heap.size ≤ n) : w'.ownsRow base e 1 v k xs := by
  refine ⟨h.1, ?_⟩
  rcases h.2 with h | ⟨g, cap, cur, rfl, h1, h2, h3⟩
  · exact .inl h
  · have : g < w.heap.size := (Array.getElem?_eq_some_iff.1 h2).1
    exact .inr ⟨g, cap, cur, rfl, h1, (hb.block g (by omega)).trans h2, h3⟩
theorem wd_pos_size (u : Int) (h : wd u ≠ 0) : 0 < (put u).size := by
  by_cases a : 1114240 ≤ u ∧ u ≤ 1114367
  · rw [put_stray a]; exact Nat.one_pos
  · by_cases b : (0 ≤ u ∧ u < 55296) ∨ (57343 < u ∧ u ≤ 1114111)
    · rw [put_rune b]
      obtain ⟨c, rfl⟩ : ∃ c : Nat, u = c := ⟨u.toNat, by omega⟩
      by_cases h1 : c < 128
      · rw [enc1 c h1, size_lit]; simp
      · by_cases h2 : c < 2048
        · rw [enc2 c (by omega) h2, size_lit]; simp
        · by_cases h3 : c < 65536
          · rw [enc3 c (by omega) h3 (by omega), size_lit]; simp
          · rw [enc4 c (by omega) (by omega), size_lit]; simp
    · exact absurd (wd_no (by omega) (by omega)) h
theorem bc_append (a b : List UInt8) : bc (a ++ b) = bc a ++ bc b := by simp [bc]
theorem bc_length (a : List UInt8) : (bc a).length = a.length := by simp [bc]
set_option maxHeartbeats 4000000 in
theorem rjoin_any (v : Value) (l : List Int) (w : World) (hv : Ints w v l) (hl : l.length ≤ 4398046511104) :
    Calls Tryz.prog 10 #[v] w fun e w' => e = .returned (JoinRes (joinB l)) ∧ Below w.heap.size w w' := by
  obtain ⟨i0, hi0, hz0, hz1, hz2⟩ := uinfo_parts info5
  obtain ⟨a, cap, rfl, hc⟩ := hv
  obtain ⟨n, hn⟩ : ∃ n, l.length = n := ⟨_, rfl⟩
  have HN : Hid (l.length = n) := hn
  rw [hn] at hl ⊢
  obtain ⟨R, hR⟩ : ∃ R, joinB l = R := ⟨_, rfl⟩
  rw [hR]
  have HC : Hid (l = [] ∨ ∃ g o, a = some ⟨g, o, none⟩ ∧ ∀ j, j < l.length → w.cell? ⟨g, o + j, none⟩ = some (.int .i64 (l[j]?.getD 0))) := hc
  have HR : Hid (joinB l = R) := hR
  clear hc hR hn
  go_enter Tryz.func10, Tryz.ntmps10
  go_wp2_with fail
  go_loopw [4, 5] (fun vo vi wr => ∃ (k : Nat) (acc : List UInt8), vi = .int .i64 k ∧ k ≤ n ∧ acc.length ≤ 4 * k ∧ wr.ownsRow w.heap.size 5 1 vo acc.length (bc acc) ∧ Hid (R = (joinB (l.drop k)).map (acc ++ ·)) ∧ Below w.heap.size w wr) (fun _ vi _ => n - (intOf vi).toNat)
  case atStart =>
    refine ⟨0, [], rfl, Nat.zero_le _, Nat.zero_le _, World.ownsRow_lit w _ 0 (Nat.le_refl _) (by unfold maxLen; omega) rfl, ?_, (Below.refl _ _).alloc (Nat.le_refl _) _⟩
    show R = (joinB l).map ([] ++ ·)
    rw [HR.out]; cases R <;> rfl
  case round =>
    clear HR
    obtain ⟨k, acc, rfl, hk, hacc, hO, hJ, hb⟩ := hrel
    have HO : Hid (wr.ownsRow w.heap.size 5 1 u4 acc.length (bc acc)) := hO
    have HB : Hid (Below w.heap.size w wr) := hb
    clear hO hb
    by_cases hlt : k < n
    · have hk2 : k < l.length := by rw [HN.out]; exact hlt
      obtain ⟨g, o, rfl, hcell⟩ := HC.out.resolve_left (fun e => by rw [e] at hk2; simp at hk2)
      have hcx := hcell k hk2
      have hgw : g < w.heap.size := by
        obtain ⟨ob, ho, _⟩ := cells_of_cell hcx
        exact (Array.getElem?_eq_some_iff.1 ho).1
      have hc1 := (HB.out.cell (p := ⟨g, o + k, none⟩) hgw).trans hcx
      have hJ1 := hJ.out
      rw [List.drop_eq_getElem_cons hk2] at hJ1
      have hget : l[k]?.getD 0 = l[k] := by simp [hk2]
      rw [hget] at hc1
      generalize l[k] = u at hc1 hJ1
      clear hcell hcx hget hJ HC
      have hlt' : (k : Int) < (n : Int) := by omega
      by_cases hw : wd u = 0
      · as_aux_lemma =>
          have HRN : Hid (R = none) := by show R = none; rw [hJ1]; simp [joinB, hw]
          have cW : Hid (∀ W : World, Calls Tryz.prog 19 #[.int .i64 u] W fun e w' => e = .returned (.int .i64 0) ∧ w' = W) := fun W => by have := rwidth_any u W; rw [hw] at this; exact this
          clear hJ1 hw
          go_wp2_with (go_at_call 19; refine (cW.out _).mono ?_; rintro e w' ⟨rfl, rfl⟩)
          go_ret2
          exact ⟨by rw [HRN.out]; rfl, HB.out⟩
      · as_aux_lemma =>
          have HJ2 : Hid (R = (joinB (l.drop (k + 1))).map ((acc ++ (put u).data.toList) ++ ·)) := by
            show R = _
            rw [hJ1, joinB_step hw, Option.map_map]
            congr 1
            funext t
            simp
          have hps := put_size_le u
          have hp0 := wd_pos_size u hw
          have hw0 : (wd u == 0) = false := beq_eq_false_iff_ne.2 hw
          have cW : Hid (∀ W : World, Calls Tryz.prog 19 #[.int .i64 u] W fun e w' => e = .returned (.int .i64 (wd u)) ∧ w' = W) := fun W => rwidth_any u W
          generalize wd u = d at *
          clear hJ1 hw
          go_wp2_with (go_at_call 19; refine (cW.out _).mono ?_; rintro e w' ⟨rfl, rfl⟩)
          refine (bytes_any _ _).mono ?_
          rintro e w2 ⟨v2, rfl, ho2, hb2⟩
          obtain ⟨m, hm⟩ : ∃ m, (put u).size = m := ⟨_, rfl⟩
          rw [hm] at ho2 hps hp0
          obtain ⟨g2, c2, rfl⟩ := Joins.ownsRow_form ho2 hp0
          have hO2 : w2.ownsRow w.heap.size 5 1 u4 acc.length (bc acc) := row_below5 HO.out hb2 (Nat.le_refl _)
          have hB2 : Below w.heap.size w w2 := HB.out.trans (hb2.mono HB.out.size)
          have HM : Hid ((put u).data.toList.length = m) := by show _ = _; rw [← Lib.size_eq, hm]
          have hz := hB2.size
          clear hb2 cW HO
          go_wp2_with (at_builtin; go_must (refine wpList_append_own _ rfl _ _ 51 rfl w.heap.size 5 i0 (.int .u8 0) 1 1 Tryz.underlying51 hi0 hz0 hz1 hz2 rfl (by decide) _ _ _ rfl hO2 ⟨g2, 0, none⟩ m c2 (bc (put u).data.toList) rfl (by rw [bc_length, HM.out]; omega) (fun j x hx => ho2.cells rfl j x hx) (by intro x hx; simp [bc] at hx; obtain ⟨b, _, rfl⟩ := hx; rfl) (by unfold maxLen; omega) (by omega) (by omega) ?_); intro v' w3 hown' hgrow _)
          have hB3 : Below w.heap.size w w3 := hB2.trans ((Below.refl _ w2).grown hgrow hz (fun j e => (World.ownsRow.lt hO2 j e).1))
          exact ⟨⟨k + 1, acc ++ (put u).data.toList, by go_num, by omega, by rw [List.length_append, HM.out]; omega, by rw [bc_append, List.length_append, HM.out]; exact hown', HJ2, hB3⟩, by simp [intOf]; omega⟩
    · as_aux_lemma =>
        have hkn : k = n := by omega
        have hRR : R = some acc := by
          have := hJ.out
          rw [List.drop_of_length_le (by rw [HN.out, hkn]; exact Nat.le_refl _)] at this
          rw [this]; simp [joinB]
        subst hRR
        have hcv := conv_row wr _ u4 acc HO.out
        clear hJ HC
        go_wp2
        go_ret2
        exact ⟨rfl, HB.out⟩
end Go.Proofs
namespace Go.Proofs
open Go.RowKit Go.Shelf
set_option maxRecDepth 100000
attribute [local go_sem] Oper.semAt_some
/-- what the statement's own sum of what is put back is -/
theorem good_cons {x : Int × Int} {l : List (Int × Int)} : Good (x :: l) ↔ Whole x ∧ Good l ∧ ∀ y ∈ l, x.2 + 2 ≤ y.1 := by
  unfold Good
  rw [List.pairwise_cons]
  constructor
  · rintro ⟨h1, h2, h3⟩
    exact ⟨h1 x (by simp), ⟨fun y hy => h1 y (by simp [hy]), h3⟩, h2⟩
  · rintro ⟨h1, ⟨h2, h3⟩, h4⟩
    refine ⟨fun y hy => ?_, h4, h3⟩
    rw [List.mem_cons] at hy
    rcases hy with rfl | hy
    · exact h1
    · exact h2 y hy
theorem has_above {x : Int × Int} {l : List (Int × Int)} (h : Good (x :: l)) {u : Int} (hu : hasU l u) : x.2 + 2 ≤ u := by
  obtain ⟨y, hy, h1, _⟩ := hu
  have := (good_cons.1 h).2.2 y hy
  omega
/-- the piece that restores, by cases -/
theorem rest_alt {r : Rl} (ho : Ok r) (ht : telB r r.key.length = true) {k : Nat} (hk : k < r.key.length) :
    (lenU (r.key.getD k []) = 1 ∧ restP r (r.key.getD k []) k = ⟨1, (rg (r.key.getD k []) 0).1, 0, []⟩) ∨
    (¬ lenU (r.key.getD k []) = 1 ∧ ∃ (j : Nat) (q : Pc), spk r k r.res.length = [(j : Int)] ∧ r.res[j]? = some q ∧ ((q.k = 2 ∧ restP r (r.key.getD k []) k = ⟨2, 0, j, []⟩) ∨ (q.k = 3 ∧ restP r (r.key.getD k []) k = ⟨3, 0, j, r.key.getD k []⟩))) := by
  have hS : r.key[k]? = some (r.key.getD k []) := by rw [List.getD_eq_getElem?_getD, List.getElem?_eq_getElem hk]; rfl
  have hplc := telB_at ht hk hS
  obtain ⟨S, hSe⟩ : ∃ S, r.key.getD k [] = S := ⟨_, rfl⟩
  rw [hSe] at hplc hS ⊢
  by_cases h1 : lenU S = 1
  · exact .inl ⟨h1, by rw [restP, if_pos h1]⟩
  · refine .inr ⟨h1, ?_⟩
    have hone : (spk r k r.res.length).length = 1 := by
      unfold plcB at hplc
      simpa [h1] using hplc
    obtain ⟨n, hn⟩ := List.length_eq_one_iff.1 hone
    obtain ⟨j, q, rfl, hj, hq, hk1, hqy⟩ := spk_one (r := r) (p := k) (n := n) (by rw [hn]; simp)
    refine ⟨j, q, hn, hq, ?_⟩
    have he : restP r S k = if q.k = 3 then ⟨3, 0, j, S⟩ else ⟨2, 0, j, []⟩ := by
      rw [restP, if_neg h1, hn]
      simp only [List.head?_cons, Int.toNat_natCast, hq]
    rcases pc_ok (ho.pc q (List.mem_of_getElem? hq)) with ⟨e, _⟩ | ⟨e, _⟩ | ⟨e, _⟩
    · exact absurd e hk1
    · exact .inl ⟨e, by rw [he, if_neg (by omega)]⟩
    · exact .inr ⟨e, by rw [he, if_pos e]⟩
theorem ChkR.det {rs : List Rl} {core : List (Int × Int)} {n c n' c' : Int} (h : ChkR rs core n c) (h' : ChkR rs core n' c') : n = n' ∧ c = c' := by
  have eqr : ∀ {k : Nat} {r r' : Rl}, rs[k]? = some r → rs[k]? = some r' → r = r' := fun h1 h2 => by
    have := h1.symm.trans h2
    injection this
  cases h with
  | wrong k r h1 h2 h3 =>
    cases h' with
    | wrong k' r' g1 g2 g3 =>
      have : k = k' := by
        rcases Nat.lt_trichotomy k k' with h | h | h
        · exact absurd (g2 k r h h1) h3
        · exact h
        · exact absurd (h2 k' r' h g1) g3
      subst this
      obtain rfl := eqr h1 g1
      exact ⟨rfl, rfl⟩
    | clash k' i r' x g1 g2 g3 g4 g5 g6 g7 => exact absurd (g1 r (List.mem_of_getElem? h1)) h3
    | fine g1 g2 => exact absurd (g1 r (List.mem_of_getElem? h1)) h3
  | clash k i r x h1 h2 h3 h4 h5 h6 h7 =>
    cases h' with
    | wrong k' r' g1 g2 g3 => exact absurd (h1 r' (List.mem_of_getElem? g1)) g3
    | clash k' i' r' x' g1 g2 g3 g4 g5 g6 g7 =>
      have : k = k' := by
        rcases Nat.lt_trichotomy k k' with h | h | h
        · exact absurd (g5 k r h h2 i x h4 h3) h7
        · exact h
        · exact absurd (h5 k' r' h g2 i' x' g4 g3) g7
      subst this
      obtain rfl := eqr h2 g2
      have : i = i' := by
        rcases Nat.lt_trichotomy i i' with h | h | h
        · exact absurd (g6 i x h h3) h7
        · exact h
        · exact absurd (h6 i' x' h g3) g7
      subst this
      obtain rfl := eqr h3 g3
      exact ⟨rfl, rfl⟩
    | fine g1 g2 =>
      have hk := (List.getElem?_eq_some_iff.1 h2).1
      exact absurd (g2 k r hk h2 i x h4 h3) h7
  | fine h1 h2 =>
    cases h' with
    | wrong k' r' g1 g2 g3 => exact absurd (h1 r' (List.mem_of_getElem? g1)) g3
    | clash k' i' r' x' g1 g2 g3 g4 g5 g6 g7 =>
      have hk := (List.getElem?_eq_some_iff.1 g2).1
      exact absurd (h2 k' r' hk g2 i' x' g4 g3) g7
    | fine g1 g2 => exact ⟨rfl, rfl⟩
theorem trn_det {rs : List Rl} {n c n' c' : Int} (h : TrnP rs n c) (h' : TrnP rs n' c') : n = n' ∧ c = c' := by
  rcases h with ⟨h1, h2, h3⟩ | ⟨h1, core, h2, h3, h4⟩
  · rcases h' with ⟨_, g2, g3⟩ | ⟨g1, _⟩
    · exact ⟨h2.trans g2.symm, h3.trans g3.symm⟩
    · exact absurd g1 h1
  · rcases h' with ⟨g1, _⟩ | ⟨g1, core', g2, g3, g4⟩
    · exact absurd h1 g1
    · have : core = core' := up_unique _ _ h2 g2 fun u => (h3 u).trans (g3 u).symm
      subst this
      exact h4.det g4
theorem metB_iff {a b : List (Int × Int)} (ha : ∀ x ∈ a, x.1 ≤ x.2) (hb : ∀ x ∈ b, x.1 ≤ x.2) : metB a b = true ↔ ∃ u, inL a u = true ∧ inL b u = true := by
  unfold metB inL
  simp only [List.any_eq_true, Bool.and_eq_true, decide_eq_true_eq, inR_iff]
  constructor
  · rintro ⟨y, hy, x, hx, h1, h2⟩
    have := ha x hx
    have := hb y hy
    by_cases h3 : x.1 ≤ y.1
    · exact ⟨y.1, ⟨x, hx, h3, h2⟩, y, hy, by omega, by omega⟩
    · exact ⟨x.1, ⟨x, hx, by omega, by omega⟩, y, hy, by omega, h1⟩
  · rintro ⟨u, ⟨x, hx, h1, h2⟩, y, hy, h3, h4⟩
    exact ⟨y, hy, x, hx, by omega, by omega⟩
theorem ov_det {rs : List Rl} {l l' : List (Int × Int)} {n c n' c' : Int} (h : OvR rs l n c) (h' : OvR rs l' n' c') : l = l' ∧ n = n' ∧ c = c' := by
  rcases h with ⟨h1, h2, h3⟩ | ⟨h1, t, h2, h3, h4⟩
  · rcases h' with ⟨g1, g2, g3⟩ | ⟨g1, t', g2, g3, g4⟩
    · exact ⟨h3.trans g3.symm, trn_det h2 g2⟩
    · exact absurd (trn_det h2 g1).2 h1
  · rcases h' with ⟨g1, g2, g3⟩ | ⟨g1, t', g2, g3, g4⟩
    · exact absurd (trn_det g2 h1).2 g1
    · obtain rfl := up_unique t t' h2 g2 fun u => (h3 u).trans (g3 u).symm
      rcases h4 with ⟨a1, a2, a3, a4⟩ | ⟨a1, a2, a3, a4⟩
      · rcases g4 with ⟨b1, b2, b3, b4⟩ | ⟨b1, b2, b3, b4⟩
        · exact ⟨a2.trans b2.symm, a3.trans b3.symm, a4.trans b4.symm⟩
        · omega
      · rcases g4 with ⟨b1, b2, b3, b4⟩ | ⟨b1, b2, b3, b4⟩
        · omega
        · exact ⟨a2.trans b2.symm, a3.trans b3.symm, a4.trans b4.symm⟩
theorem allB_ints (l : List (Int × Int)) (us : List (Nat × Nat)) : allB l us = (intsU us).all (hasB l) := by
  unfold allB intsU
  rw [List.all_map]
  rfl
/-- a set of one unit -/
theorem set_one_u {S : List (Int × Int)} (h : okS S = true) (h1 : lenU S = 1) : ∃ u, S = [(u, u)] := by
  have hv := (validB_iff S).1 (okS_valid h)
  have hl : tot S = 1 := by
    unfold lenU at h1
    rwa [if_pos (okS_valid h)] at h1
  match S, h, hv, hl with
  | [], h, _, _ => simp [okS] at h
  | [x], _, _, hl =>
    simp [tot] at hl
    exact ⟨x.1, by rw [show x = (x.1, x.2) from rfl, show x.2 = x.1 by omega]⟩
  | x :: y :: l, _, hv, hl =>
    exfalso
    have hw : ∀ z ∈ x :: y :: l, z.1 ≤ z.2 := fun z hz => (hv.2.1 z hz).1
    have hp : ∀ l : List (Int × Int), (∀ z ∈ l, z.1 ≤ z.2) → 0 ≤ tot l := by
      intro l
      induction l with
      | nil => intro _; exact Int.le_refl _
      | cons z l ih =>
        intro h
        rw [tot_cons]
        have h1 := h z (by simp)
        have h2 := ih fun z hz => h z (List.mem_cons_of_mem _ hz)
        omega
    rw [tot_cons, tot_cons] at hl
    have h1 := hw x (by simp)
    have h2 := hw y (by simp)
    have h3 := hp l fun z hz => hw z (List.mem_cons_of_mem _ (List.mem_cons_of_mem _ hz))
    omega
theorem hasB_one {u v : Int} (h : hasB [(u, u)] v = true) : v = u := by
  unfold hasB at h
  simp [hasU] at h
  omega
/-- the piece that restores, by cases, with its place -/
theorem rest_alt2 {r : Rl} (ho : Ok r) (ht : telB r r.key.length = true) {k : Nat} (hk : k < r.key.length) :
    (lenU (r.key.getD k []) = 1 ∧ restP r (r.key.getD k []) k = ⟨1, (rg (r.key.getD k []) 0).1, 0, []⟩) ∨
    (¬ lenU (r.key.getD k []) = 1 ∧ ∃ (j : Nat) (q : Pc), r.res[j]? = some q ∧ q.y = k ∧ ((q.k = 2 ∧ restP r (r.key.getD k []) k = ⟨2, 0, j, []⟩) ∨ (q.k = 3 ∧ restP r (r.key.getD k []) k = ⟨3, 0, j, r.key.getD k []⟩))) := by
  rcases rest_alt ho ht hk with h | ⟨h1, j, q, h2, h3, h4⟩
  · exact .inl h
  · obtain ⟨i, q', e, _, hq', _, hy⟩ := spk_one (r := r) (p := k) (n := (j : Int)) (by rw [h2]; simp)
    obtain rfl : j = i := by omega
    rw [h3] at hq'
    injection hq' with hq'
    subst hq'
    exact .inr ⟨h1, j, q, h3, hy, h4⟩
theorem key_ok {r : Rl} (ho : Ok r) {k : Nat} (hk : k < r.key.length) : okS (r.key.getD k []) = true := by
  rw [List.getD_eq_getElem?_getD, List.getElem?_eq_getElem hk]
  exact List.all_eq_true.1 ho.kS _ (List.getElem_mem hk)
theorem img_at {r : Rl} {j : Nat} {q : Pc} (h : r.res[j]? = some q) : keyAt (img r) j = imgP r.key q := by
  unfold keyAt img
  simp [h]
theorem stB_at {ls : List (List (Int × Int))} {us : List Int} (h : stB ls us = true) {k : Nat} (hk : k < ls.length) : hasB (keyAt ls k) (unitAt us k) = true := by
  have hl := st_len h
  simp only [stB, Bool.and_eq_true, List.all_eq_true] at h
  have h2 := h.2 (ls[k], us[k]'(by omega)) (by
    have : (ls.zip us)[k]'(by simp; omega) = (ls[k], us[k]'(by omega)) := by simp
    rw [← this]
    exact List.getElem_mem _)
  have e1 : keyAt ls k = ls[k] := by unfold keyAt; simp [hk]
  have e2 : unitAt us k = us[k]'(by omega) := by unfold unitAt; simp [show k < us.length by omega]
  rw [e1, e2]
  exact h2
theorem nth_has : ∀ (l : List (Int × Int)) (n v : Int), 0 ≤ n → nthL l n = some v → hasU l v
  | [], n, v, _, h => by simp [nthL] at h
  | x :: r, n, v, h0, h => by
    unfold nthL at h
    by_cases hn : n < x.2 - x.1 + 1
    · rw [if_pos hn] at h
      cases h
      exact (hasU_cons _ _ _).2 (.inl ⟨by omega, by omega⟩)
    · rw [if_neg hn] at h
      by_cases h1 : 0 ≤ n - (x.2 - x.1 + 1)
      · exact (hasU_cons _ _ _).2 (.inr (nth_has r _ v h1 h))
      · omega
theorem nth_mono : ∀ (l : List (Int × Int)), Good l → ∀ (n m u v : Int), 0 ≤ n → n < m → nthL l n = some u → nthL l m = some v → u < v
  | [], _, n, m, u, v, _, _, h, _ => by simp [nthL] at h
  | x :: r, hG, n, m, u, v, h0, hnm, hu, hv => by
    unfold nthL at hu hv
    by_cases h1 : n < x.2 - x.1 + 1
    · rw [if_pos h1] at hu
      cases hu
      by_cases h2 : m < x.2 - x.1 + 1
      · rw [if_pos h2] at hv
        cases hv
        omega
      · rw [if_neg h2] at hv
        have := has_above hG (nth_has r _ v (by omega) hv)
        omega
    · rw [if_neg h1] at hu
      rw [if_neg (by omega)] at hv
      exact nth_mono r (good_cons.1 hG).2.1 (n - (x.2 - x.1 + 1)) (m - (x.2 - x.1 + 1)) u v (by omega) (by omega) hu hv
theorem place_nth {l : List (Int × Int)} (h : Good l) {n v : Int} (h0 : 0 ≤ n) (hv : nthL l n = some v) : placeU l v = n := by
  obtain ⟨h1, h2⟩ := nth_place h (nth_has l n v h0 hv)
  rcases Int.lt_trichotomy (placeU l v) n with h3 | h3 | h3
  · have := nth_mono l h _ _ _ _ h2 h3 h1 hv; omega
  · exact h3
  · have := nth_mono l h _ _ _ _ h0 h3 hv h1; omega
theorem Paired.symm {f t : List (Int × Int)} (h : Paired f t) : Paired t f := ⟨h.vt, h.vf, by have := h.p; have := h.e; omega, h.e.symm⟩
theorem part_back {f t : List (Int × Int)} (h : Paired f t) {u : Int} (hu : hasU f u) : partU t f (partU f t u) = u := by
  have hf := (validB_iff f).1 h.vf
  have ht := (validB_iff t).1 h.vt
  obtain ⟨h1, h2⟩ := part_some h hu
  obtain ⟨a1, a2⟩ := nth_place hf.2 hu
  have h3 := place_nth ht.2 a2 h1
  obtain ⟨b1, _⟩ := part_some h.symm h2
  rw [h3, a1] at b1
  exact (Option.some.inj b1).symm
/-- a unit of the core -/
def InC (rs : List Rl) (u : Int) : Prop := ∃ l ∈ rs.flatMap waS, inL l u = true
/-- a pass that can be turned -/
structure Bck (rs : List Rl) : Prop where
  ok : ∀ r ∈ rs, Ok r ∧ Bk r
  an : ∀ r ∈ rs, ∀ A ∈ r.ante, ∀ u, inL A u = true → ¬ InC rs u
  po : ∀ r ∈ rs, ∀ A ∈ r.post, ∀ u, inL A u = true → ¬ InC rs u
  nc : ∀ x ∈ rs, ∀ y ∈ rs, mtB (img x) (img y) (min (img x).length (img y).length) = true → x.key = y.key ∧ x.res = y.res
theorem metB_swap (a b : List (Int × Int)) : metB a b = metB b a := by
  rw [Bool.eq_iff_iff]
  unfold metB
  simp only [List.any_eq_true, Bool.and_eq_true, decide_eq_true_eq]
  constructor
  · rintro ⟨y, hy, x, hx, h1, h2⟩
    exact ⟨x, hx, y, hy, h2, h1⟩
  · rintro ⟨y, hy, x, hx, h1, h2⟩
    exact ⟨x, hx, y, hy, h2, h1⟩
theorem mtB_swap (a b : List (List (Int × Int))) (k : Nat) : mtB a b k = mtB b a k := by
  unfold mtB
  congr 1
  funext i
  cases a[i]? <;> cases b[i]? <;> simp [metB_swap]
theorem cls_two {x y : Rl} (h : clsE x y = 0) (hm : mtB (img x) (img y) (min (img x).length (img y).length) = true) : x.key = y.key ∧ x.res = y.res := by
  unfold clsE at h
  rw [if_neg (by rw [hm]; simp)] at h
  by_cases h1 : (img x).length ≠ (img y).length
  · rw [if_pos h1] at h; cases h
  · rw [if_neg h1] at h
    by_cases h2 : decide (x.key = y.key ∧ x.res = y.res) = false
    · rw [if_pos h2] at h; cases h
    · simpa using h2
theorem okS_rises {A : List (Int × Int)} (h : okS A = true) : ∀ x ∈ A, x.1 ≤ x.2 := fun x hx => (((validB_iff A).1 (okS_valid h)).2.1 x hx).1
theorem TrnP.bck {rs : List Rl} {n : Int} (h : TrnP rs n 0) : Bck rs := by
  have hbk := h.bk
  rcases h with ⟨h1, _, h2⟩ | ⟨h1, core, hU, hcore, h2⟩
  · exact absurd h2.symm h1
  · obtain ⟨hw, hnc⟩ := h2.fine0
    have hno : ∀ (r : Rl) (L : List (List (Int × Int))), L.all okS = true → L.any (metB core) = false → ∀ A ∈ L, ∀ u, inL A u = true → ¬ InC rs u := fun r L hok hm A hA u hu hc => by
      have h3 : metB core A = true := (metB_iff hU.2 (okS_rises (List.all_eq_true.1 hok A hA))).2 ⟨u, (hcore u).2 hc, hu⟩
      have : L.any (metB core) = true := List.any_eq_true.2 ⟨A, hA, h3⟩
      rw [hm] at this
      cases this
    refine ⟨hbk.2.2.1, fun r hr => hno r _ (hbk.2.2.1 r hr).1.aS (wroE_bk (hw r hr)).2.1, fun r hr => hno r _ (hbk.2.2.1 r hr).1.pS (wroE_bk (hw r hr)).2.2, fun x hx y hy hm => ?_⟩
    obtain ⟨i, hi, rfl⟩ := List.mem_iff_getElem.1 hx
    obtain ⟨j, hj, rfl⟩ := List.mem_iff_getElem.1 hy
    rcases Nat.lt_trichotomy i j with e | e | e
    · exact cls_two (hnc j _ hj (List.getElem?_eq_getElem hj) i _ e (List.getElem?_eq_getElem hi)) hm
    · subst e
      exact ⟨rfl, rfl⟩
    · have := cls_two (hnc i _ hi (List.getElem?_eq_getElem hi) j _ e (List.getElem?_eq_getElem hj)) (by rw [mtB_swap, Nat.min_comm]; exact hm)
      exact ⟨this.1.symm, this.2.symm⟩
theorem hasB_inL {S : List (Int × Int)} {u : Int} (h : hasB S u = true) : inL S u = true := by
  unfold hasB at h
  simp only [Bool.and_eq_true, decide_eq_true_eq] at h
  obtain ⟨x, hx, h1, h2⟩ := h.2
  exact List.any_eq_true.2 ⟨x, hx, (inR_iff x u).2 ⟨h1, h2⟩⟩
theorem inL_hasB {S : List (Int × Int)} {u : Int} (hS : okS S = true) (h : inL S u = true) : hasB S u = true := by
  obtain ⟨x, hx, h1⟩ := List.any_eq_true.1 h
  have := (inR_iff x u).1 h1
  unfold hasB
  rw [okS_valid hS]
  simp only [Bool.true_and, decide_eq_true_eq]
  exact ⟨x, hx, this.1, this.2⟩
/-- rows that stand at the same units meet -/
theorem fits_mt {a b : List (List (Int × Int))} {l : List Int} (ha : stB a (l.take a.length) = true) (hb : stB b (l.take b.length) = true) : mtB a b (min a.length b.length) = true := by
  unfold mtB
  rw [List.all_eq_true]
  intro i hi
  have hi := List.mem_range.1 hi
  have hia : i < a.length := by omega
  have hib : i < b.length := by omega
  rw [List.getElem?_eq_getElem hia, List.getElem?_eq_getElem hib]
  have h1 := stB_at ha hia
  have h2 := stB_at hb hib
  have e1 : unitAt (l.take a.length) (i : Nat) = l[i]?.getD 0 := by unfold unitAt; simp [List.getElem?_take_of_lt hia]
  have e2 : unitAt (l.take b.length) (i : Nat) = l[i]?.getD 0 := by unfold unitAt; simp [List.getElem?_take_of_lt hib]
  have k1 : keyAt a (i : Nat) = a[i] := by unfold keyAt; simp [hia]
  have k2 : keyAt b (i : Nat) = b[i] := by unfold keyAt; simp [hib]
  rw [e1, k1] at h1
  rw [e2, k2] at h2
  unfold hasB at h1 h2
  simp only [Bool.and_eq_true, decide_eq_true_eq] at h1 h2
  obtain ⟨x, hx, x1, x2⟩ := h1.2
  obtain ⟨y, hy, y1, y2⟩ := h2.2
  show metB a[i] b[i] = true
  unfold metB
  simp only [List.any_eq_true, Bool.and_eq_true, decide_eq_true_eq]
  exact ⟨y, hy, x, hx, by omega, by omega⟩
theorem paired_pc {r : Rl} (ho : Ok r) {q : Pc} (hq : q ∈ r.res) (hk : q.k = 3) : ∃ y : Nat, q.y = y ∧ y < r.key.length ∧ Paired (keyAt r.key y) q.tl := by
  rcases pc_ok (ho.pc q hq) with ⟨e, _⟩ | ⟨e, _⟩ | ⟨e, _, e3, e4, e5⟩
  · omega
  · omega
  · obtain ⟨y, hy⟩ : ∃ y : Nat, q.y = y := ⟨q.y.toNat, by omega⟩
    have hyl : y < r.key.length := by omega
    have hkey : okS (keyAt r.key y) = true := by
      have := key_ok ho hyl
      unfold keyAt
      rwa [List.getD_eq_getElem?_getD] at this
    rw [hy] at e5
    simp only [matB, Bool.and_eq_true, decide_eq_true_eq] at e5
    exact ⟨y, hy, hyl, okS_valid hkey, e5.1, lenU_ok hkey, e5.2⟩
theorem hasB_hasU {S : List (Int × Int)} {u : Int} (h : hasB S u = true) : hasU S u := by
  unfold hasB at h
  simp only [Bool.and_eq_true, decide_eq_true_eq] at h
  exact h.2
/-- what a piece writes is of its image -/
theorem wrt_in {r : Rl} (ho : Ok r) {K : List Int} (hK : stB r.key K = true) {q : Pc} (hq : q ∈ r.res) : hasB (imgP r.key q) (wrt r.key K q) = true := by
  have hok : okS (imgP r.key q) = true := img_ok ho _ (List.mem_map.2 ⟨q, hq, rfl⟩)
  rcases pc_ok (ho.pc q hq) with ⟨e, _⟩ | ⟨e, _, _, e3, e4⟩ | ⟨e, _⟩
  · have e1 : imgP r.key q = [(q.u, q.u)] := by unfold imgP; rw [if_pos e]
    have e2 : wrt r.key K q = q.u := by unfold wrt; rw [if_neg (by omega), if_neg (by omega)]
    refine inL_hasB hok ?_
    rw [e1, e2]
    simp [inL, inR]
  · have e1 : imgP r.key q = keyAt r.key q.y := by unfold imgP; rw [if_neg (by omega), if_pos e]
    have e2 : wrt r.key K q = unitAt K q.y := by unfold wrt; rw [if_neg (by omega), if_pos e]
    obtain ⟨y, hy⟩ : ∃ y : Nat, q.y = y := ⟨q.y.toNat, by omega⟩
    rw [e1, e2, hy]
    exact stB_at hK (by omega)
  · obtain ⟨y, hy, hyl, hp⟩ := paired_pc ho hq e
    have e1 : imgP r.key q = q.tl := by unfold imgP; rw [if_neg (by omega), if_neg (by omega)]
    have e2 : wrt r.key K q = partU (keyAt r.key y) q.tl (unitAt K y) := by unfold wrt; rw [if_pos e, hy]
    have h1 := (part_some hp (hasB_hasU (stB_at hK hyl))).2
    rw [e1] at hok ⊢
    rw [e2]
    unfold hasB
    rw [okS_valid hok]
    simpa using h1
theorem outs_len (r : Rl) (K : List Int) : (outs r K).length = r.res.length := by simp [outs]
theorem outs_img {r : Rl} (ho : Ok r) {K : List Int} (hK : stB r.key K = true) : stB (img r) (outs r K) = true := by
  unfold stB
  rw [Bool.and_eq_true, decide_eq_true_eq]
  refine ⟨by rw [img_len, outs_len], ?_⟩
  rw [List.all_eq_true]
  rintro ⟨a, b⟩ h
  obtain ⟨n, hn, he⟩ := List.mem_iff_getElem.1 h
  have hn' : n < r.res.length := by simp [img, outs] at hn; exact hn
  simp only [img, outs, List.getElem_zip, List.getElem_map, Prod.mk.injEq] at he
  obtain ⟨rfl, rfl⟩ := he
  exact wrt_in ho hK (List.getElem_mem hn')
/-- what was written gives back what stood there -/
theorem outs_back {r : Rl} (ho : Ok r) (hb : Bk r) {K : List Int} (hK : stB r.key K = true) : outs (turnR r) (outs r K) = K := by
  have hl := st_len hK
  refine List.ext_getElem (by rw [outs_len]; show (resT r r.key.length).length = _; rw [resT_len]; exact hl) fun p h1 h2 => ?_
  have hp : p < r.key.length := by omega
  have e : (outs (turnR r) (outs r K))[p] = wrt (img r) (outs r K) (restP r (r.key.getD p []) p) := by
    simp [outs, turnR, resT]
  rw [e]
  have hu : K[p] = unitAt K p := by unfold unitAt; simp [h2]
  have hkp : r.key.getD p [] = keyAt r.key p := by unfold keyAt; rw [List.getD_eq_getElem?_getD]; rfl
  have hst := stB_at hK hp
  have hok := key_ok ho hp
  have ou : ∀ (j : Nat) (q : Pc), r.res[j]? = some q → unitAt (outs r K) j = wrt r.key K q := fun j q hq => by
    unfold unitAt outs
    simp [hq]
  rcases rest_alt2 ho hb.tl hp with ⟨h3, h4⟩ | ⟨h3, j, q, h4, h5, ⟨h6, h7⟩ | ⟨h6, h7⟩⟩
  · rw [h4, hu]
    rw [hkp] at hok h3 ⊢
    obtain ⟨u, hS⟩ := set_one_u hok h3
    rw [hS] at hst ⊢
    exact (hasB_one hst).symm
  · rw [h7, hu]
    show unitAt (outs r K) (j : Nat) = _
    rw [ou j q h4]
    unfold wrt
    rw [if_neg (by omega), if_pos h6, h5]
  · rw [h7, hu]
    obtain ⟨y, hy, _, hpr⟩ := paired_pc ho (List.mem_of_getElem? h4) h6
    obtain rfl : y = p := by omega
    have e1 : keyAt (img r) (j : Nat) = q.tl := by rw [img_at h4]; unfold imgP; rw [if_neg (by omega), if_neg (by omega)]
    have e2 : unitAt (outs r K) (j : Nat) = partU (keyAt r.key y) q.tl (unitAt K y) := by
      rw [ou j q h4]
      unfold wrt
      rw [if_pos h6, hy]
    show partU (keyAt (img r) (j : Nat)) (r.key.getD y []) (unitAt (outs r K) (j : Nat)) = _
    rw [e1, e2, hkp]
    exact part_back hpr (hasB_hasU hst)
/-- a run, from its end -/
inductive Rn (rs : List Rl) : List Int → List Int → List Int → Prop
  | nil (d : List Int) : Rn rs d [] d
  | step (d l D : List Int) : l ≠ [] → Rn rs (d ++ layd rs d l) (lefd rs d l) D → Rn rs d l D
theorem rn_of_go {rs : List Rl} {l0 : List Int} : ∀ m k, (go3 rs l0 (k + m)).2.2 = [] → Rn rs (go3 rs l0 k).2.1 (go3 rs l0 k).2.2 (go3 rs l0 (k + m)).2.1
  | 0, k, h => by
    rw [Nat.add_zero] at h ⊢
    rw [h]
    exact .nil _
  | m + 1, k, h => by
    by_cases e : (go3 rs l0 k).2.2 = []
    · rw [go3_stay e, e]
      exact .nil _
    · have ih := rn_of_go m (k + 1) (by rw [show k + 1 + m = k + (m + 1) by omega]; exact h)
      rw [show k + 1 + m = k + (m + 1) by omega] at ih
      have e1 : go3 rs l0 (k + 1) = ((go3 rs l0 k).1 ++ [stp rs (go3 rs l0 k).2.1 (go3 rs l0 k).2.2], (go3 rs l0 k).2.1 ++ layd rs (go3 rs l0 k).2.1 (go3 rs l0 k).2.2, lefd rs (go3 rs l0 k).2.1 (go3 rs l0 k).2.2) := by rw [go3, if_neg e]
      rw [e1] at ih
      exact .step _ _ _ e ih
theorem G3.rn {rs : List Rl} {l0 : List Int} {xs : List Stp} {d : List Int} (h : G3 rs l0 xs d []) : Rn rs [] l0 d := by
  unfold G3 at h
  have := rn_of_go (rs := rs) (l0 := l0) xs.length 0 (by rw [Nat.zero_add, h])
  rw [Nat.zero_add, h] at this
  exact this
theorem Rn.one {rs : List Rl} {d l D D' : List Int} (h : Rn rs d l D) (h' : Rn rs d l D') : D = D' := by
  induction h with
  | nil d =>
    cases h' with
    | nil => rfl
    | step _ _ _ hl _ => exact absurd rfl hl
  | step d l D hl _ ih =>
    cases h' with
    | nil => exact absurd rfl hl
    | step _ _ _ _ h2 => exact ih h2
theorem Rn.pre {rs : List Rl} {d l D : List Int} (h : Rn rs d l D) : ∃ e, D = d ++ e := by
  induction h with
  | nil d => exact ⟨[], by simp⟩
  | step d l D _ _ ih =>
    obtain ⟨e, rfl⟩ := ih
    exact ⟨layd rs d l ++ e, by simp⟩
theorem nxt_some {rs : List Rl} {d l : List Int} {i : Nat} {r : Rl} (hi : rs[i]? = some r) (hf : stF r d l = true) : ∀ k, i < k → 0 ≤ nxtK rs d l k
  | 0, h => by omega
  | k + 1, h => by
    rw [nxtK]
    split
    · omega
    · rename_i hc
      by_cases e : i = k
      · subst e
        rw [hi] at hc
        simp only [Option.map_some, Option.getD_some, hf, true_and] at hc
        omega
      · exact nxt_some hi hf k (by omega)
theorem rule_some {rs : List Rl} {d l : List Int} {r : Rl} (h : ruleN rs d l = some r) : r ∈ rs ∧ stF r d l = true := by
  unfold ruleN at h
  rcases nxtK_is rs d l rs.length (Nat.le_refl _) with e | ⟨i, hi, _, e, hf⟩
  · rw [e] at h
    cases h
  · rw [e, if_neg (by omega)] at h
    have : rs[((i : Nat) : Int).toNat]? = some rs[i] := by simp [hi]
    rw [this] at h
    injection h with h
    subst h
    exact ⟨List.getElem_mem hi, hf⟩
theorem rule_ex {rs : List Rl} {d l : List Int} {r : Rl} (hr : r ∈ rs) (hf : stF r d l = true) : ∃ x, ruleN rs d l = some x := by
  obtain ⟨i, hi, rfl⟩ := List.mem_iff_getElem.1 hr
  have h0 := nxt_some (List.getElem?_eq_getElem hi) hf rs.length hi
  unfold ruleN
  rcases nxtK_is rs d l rs.length (Nat.le_refl _) with e | ⟨j, hj, _, e, _⟩
  · rw [e] at h0
    omega
  · rw [e, if_neg (by omega)]
    exact ⟨rs[j], by simp [hj]⟩
theorem rule_none {rs : List Rl} {d l : List Int} (h : ruleN rs d l = none) {r : Rl} (hr : r ∈ rs) : stF r d l = false := by
  cases hf : stF r d l with
  | false => rfl
  | true =>
    obtain ⟨x, hx⟩ := rule_ex hr hf
    rw [h] at hx
    cases hx
theorem over_none {rs : List Rl} {d l : List Int} (h : ruleN rs d l = none) : layd rs d l = l.take 1 ∧ lefd rs d l = l.drop 1 := by
  unfold layd lefd
  rw [h]
  exact ⟨rfl, rfl⟩
theorem done_some {rs : List Rl} {d l : List Int} {r : Rl} (h : ruleN rs d l = some r) (hc : r.cu = r.res.length) : layd rs d l = outs r (l.take r.key.length) ∧ lefd rs d l = l.drop r.key.length := by
  unfold layd lefd
  rw [h]
  have h1 := outs_len r (l.take r.key.length)
  constructor
  · show (outs r (l.take r.key.length)).take r.cu.toNat = _
    rw [List.take_of_length_le (by omega)]
  · show (outs r (l.take r.key.length)).drop r.cu.toNat ++ _ = _
    rw [List.drop_eq_nil_of_le (by omega), List.nil_append]
theorem cu_all {r : Rl} (ho : Ok r) (hb : Bk r) : r.cu = r.res.length := by
  have h1 := hb.cu
  rw [img_len] at h1
  have := ho.c1
  omega
theorem core_key {rs : List Rl} {r : Rl} (hr : r ∈ rs) {i : Nat} {u : Int} (hi : i < r.key.length) (h : hasB (keyAt r.key i) u = true) : InC rs u := by
  refine ⟨keyAt r.key i, List.mem_flatMap.2 ⟨r, hr, List.mem_append.2 (.inl ?_)⟩, hasB_inL h⟩
  unfold keyAt
  simp [hi]
theorem core_img {rs : List Rl} {r : Rl} (hr : r ∈ rs) {K : List Int} (ho : Ok r) (hK : stB r.key K = true) {u : Int} (hu : u ∈ outs r K) : InC rs u := by
  obtain ⟨q, hq, rfl⟩ := List.mem_map.1 hu
  exact ⟨imgP r.key q, List.mem_flatMap.2 ⟨r, hr, List.mem_append.2 (.inr (List.mem_map.2 ⟨q, hq, rfl⟩))⟩, hasB_inL (wrt_in ho hK hq)⟩
/-- where a unit is not of the core no rule is done -/
theorem core_over {rs : List Rl} (hB : Bck rs) {d l : List Int} {u : Int} (hu : ¬ InC rs u) : ruleN rs d (u :: l) = none := by
  cases h : ruleN rs d (u :: l) with
  | none => rfl
  | some r =>
    obtain ⟨hr, hf⟩ := rule_some h
    have h1 := stF_key hf
    have h0 := (hB.ok r hr).1.k0
    have h2 := stB_at h1.2 h0
    have e : unitAt ((u :: l).take r.key.length) ((0 : Nat) : Int) = u := by
      unfold unitAt
      obtain ⟨m, hm⟩ : ∃ m, r.key.length = m + 1 := ⟨r.key.length - 1, by omega⟩
      rw [hm]
      rfl
    rw [e] at h2
    exact absurd (core_key hr h0 h2) hu
/-- what no rule touches goes over -/
theorem post_units {rs : List Rl} (hB : Bck rs) {d l D : List Int} (h : Rn rs d l D) : ∀ e, D = d ++ e → ∀ j, j ≤ l.length → (∀ u ∈ l.take j, ¬ InC rs u) → j ≤ e.length ∧ e.take j = l.take j ∧ (l.length = j → e.length = j) := by
  induction h with
  | nil d =>
    intro e he j hj _
    obtain rfl : e = [] := by simpa using he
    obtain rfl : j = 0 := by simpa using hj
    exact ⟨Nat.le_refl _, rfl, fun _ => rfl⟩
  | step d l D hl hR ih =>
    intro e he j hj hc
    match j, l, hl, hj with
    | 0, l, hl, _ => exact ⟨Nat.zero_le _, by simp, fun h => absurd (List.eq_nil_of_length_eq_zero h) hl⟩
    | j + 1, [], hl, _ => exact absurd rfl hl
    | j + 1, u :: l, _, hj =>
      have hu : ¬ InC rs u := hc u (by simp)
      obtain ⟨e1, e2⟩ := over_none (core_over hB (d := d) (l := l) hu)
      obtain ⟨e', he'⟩ := hR.pre
      rw [e1] at he'
      have hee : e = u :: e' := by
        rw [he'] at he
        simpa using he.symm
      have h3 := ih e' (by rw [e1]; exact he') j (by rw [e2]; simpa using hj) (by
        rw [e2]
        intro x hx
        exact hc x (by simp at hx ⊢; exact .inr hx))
      rw [e2] at h3
      subst hee
      simp only [List.drop_one, List.tail_cons] at h3
      refine ⟨by simp only [List.length_cons]; omega, by simp [h3.2.1], fun h => ?_⟩
      simp only [List.length_cons] at h ⊢
      have := h3.2.2 (by omega)
      omega
/-- what is made stands, as far as no rule touched it, as in the source -/
def Tl (rs : List Rl) (c d : List Int) : Prop := ∀ j, j ≤ d.length → (∀ u ∈ d.drop (d.length - j), ¬ InC rs u) → j ≤ c.length ∧ c.drop (c.length - j) = d.drop (d.length - j) ∧ (j = d.length → j = c.length)
theorem Tl.nil (rs : List Rl) : Tl rs [] [] := fun j hj _ => by
  obtain rfl : j = 0 := by simpa using hj
  exact ⟨Nat.le_refl _, rfl, fun _ => rfl⟩
theorem Tl.over {rs : List Rl} {c d : List Int} (h : Tl rs c d) (u : Int) : Tl rs (c ++ [u]) (d ++ [u]) := fun j hj hc => by
  match j, hj with
  | 0, _ => exact ⟨Nat.zero_le _, by simp, fun h => by simp at h⟩
  | j + 1, hj =>
    have hj' : j ≤ d.length := by simpa using hj
    have e : ∀ x : List Int, j ≤ x.length → (x ++ [u]).drop ((x ++ [u]).length - (j + 1)) = x.drop (x.length - j) ++ [u] := fun x hx => by
      rw [show (x ++ [u]).length - (j + 1) = x.length - j by simp]
      rw [List.drop_append_of_le_length (by omega)]
    rw [e d hj'] at hc ⊢
    obtain ⟨h1, h2, h3⟩ := h j hj' fun x hx => hc x (List.mem_append.2 (.inl hx))
    rw [e c h1, h2]
    refine ⟨by simpa using h1, rfl, fun h => ?_⟩
    simp only [List.length_append, List.length_singleton] at h ⊢
    have := h3 (by omega)
    omega
theorem Tl.done {rs : List Rl} {c d O : List Int} (K : List Int) (h0 : O ≠ []) (hO : ∀ u ∈ O, InC rs u) : Tl rs (c ++ K) (d ++ O) := fun j hj hc => by
  match j, hj with
  | 0, _ =>
    refine ⟨Nat.zero_le _, by simp, fun h => ?_⟩
    have := List.length_pos_iff.2 h0
    simp only [List.length_append] at h
    omega
  | j + 1, hj =>
    exfalso
    have hl := List.length_pos_iff.2 h0
    have hx : O[O.length - 1]'(by omega) ∈ (d ++ O).drop ((d ++ O).length - (j + 1)) := by
      rw [List.mem_iff_getElem]
      refine ⟨j, by simp only [List.length_drop, List.length_append] at hj ⊢; omega, ?_⟩
      rw [List.getElem_drop, List.getElem_append_right (by simp only [List.length_append] at hj ⊢; omega)]
      congr 1
      simp only [List.length_append] at hj ⊢
      omega
    exact hc _ hx (hO _ (List.getElem_mem _))
theorem stF_iff (r : Rl) (d l : List Int) : stF r d l = true ↔ r.key.length + r.post.length ≤ l.length ∧ r.ante.length ≤ d.length ∧ (r.bg = true → d.length = r.ante.length) ∧ (r.en = true → l.length = r.key.length + r.post.length) ∧ stB r.key (l.take r.key.length) = true ∧ stB r.post ((l.drop r.key.length).take r.post.length) = true ∧ stB r.ante (d.drop (d.length - r.ante.length)) = true := by
  unfold stF
  by_cases h1 : l.length < r.key.length + r.post.length ∨ d.length < r.ante.length
  · rw [if_pos h1]
    constructor
    · intro h; cases h
    · rintro ⟨a, b, _⟩
      omega
  · rw [if_neg h1]
    by_cases h2 : (r.bg = true ∧ r.ante.length < d.length) ∨ (r.en = true ∧ r.key.length + r.post.length < l.length)
    · rw [if_pos h2]
      constructor
      · intro h; cases h
      · rintro ⟨_, _, a, b, _⟩
        rcases h2 with ⟨h2, h3⟩ | ⟨h2, h3⟩
        · have := a h2; omega
        · have := b h2; omega
    · rw [if_neg h2]
      simp only [Bool.and_eq_true]
      constructor
      · rintro ⟨⟨a, b⟩, c⟩
        refine ⟨by omega, by omega, fun h => ?_, fun h => ?_, a, b, c⟩
        · by_cases e : r.ante.length < d.length
          · exact absurd (.inl ⟨h, e⟩) h2
          · omega
        · by_cases e : r.key.length + r.post.length < l.length
          · exact absurd (.inr ⟨h, e⟩) h2
          · omega
      · rintro ⟨_, _, _, _, a, b, c⟩
        exact ⟨⟨a, b⟩, c⟩
theorem stB_mem {ls : List (List (Int × Int))} {us : List Int} (h : stB ls us = true) {u : Int} (hu : u ∈ us) : ∃ A ∈ ls, hasB A u = true := by
  have hl := st_len h
  obtain ⟨i, hi, rfl⟩ := List.mem_iff_getElem.1 hu
  have hi' : i < ls.length := by omega
  have h1 := stB_at h hi'
  have e1 : keyAt ls (i : Nat) = ls[i] := by unfold keyAt; simp [hi']
  have e2 : unitAt us (i : Nat) = us[i] := by unfold unitAt; simp [hi]
  rw [e1, e2] at h1
  exact ⟨_, List.getElem_mem hi', h1⟩
/-- the turned rule fits where its rule was done -/
theorem turn_fits {rs : List Rl} (hB : Bck rs) {r : Rl} (hr : r ∈ rs) {d l c e1 : List Int} (hf : stF r d l = true) (hT : Tl rs c d)
    (hP : r.post.length ≤ e1.length ∧ e1.take r.post.length = (l.drop r.key.length).take r.post.length ∧ ((l.drop r.key.length).length = r.post.length → e1.length = r.post.length)) :
    stF (turnR r) c (outs r (l.take r.key.length) ++ e1) = true := by
  obtain ⟨h1, h2, h3, h4, h5, h6, h7⟩ := (stF_iff r d l).1 hf
  have ho := (hB.ok r hr).1
  have hOl := outs_len r (l.take r.key.length)
  have hkl : (turnR r).key.length = r.res.length := img_len r
  obtain ⟨t1, t2, t3⟩ := hT r.ante.length h2 fun u hu => by
    obtain ⟨A, hA, hb⟩ := stB_mem h7 hu
    exact hB.an r hr A hA u (hasB_inL hb)
  rw [stF_iff, hkl]
  refine ⟨?_, t1, fun h => ?_, fun h => ?_, ?_, ?_, ?_⟩
  · show r.res.length + r.post.length ≤ _
    rw [List.length_append, hOl]
    omega
  · exact (t3 (h3 h).symm).symm
  · have h8 := h4 h
    have := hP.2.2 (by rw [List.length_drop]; omega)
    show (outs r (l.take r.key.length) ++ e1).length = r.res.length + r.post.length
    rw [List.length_append, hOl, this]
  · rw [List.take_append_of_le_length (by omega), List.take_of_length_le (by omega)]
    exact outs_img ho h5
  · rw [← hOl, List.drop_left]
    show stB r.post (e1.take r.post.length) = true
    rw [hP.2.1]
    exact h6
  · show stB r.ante (c.drop (c.length - r.ante.length)) = true
    rw [t2]
    exact h7
/-- where a unit went over that may, none of the turned rules fits -/
theorem turned_none {rs : List Rl} (hB : Bck rs) {d l c e : List Int} {u : Int} (h : ruleN rs d (u :: l) = none) (hu : ovU rs u) : ruleN (rs.map turnR) c (u :: e) = none := by
  cases hq : ruleN (rs.map turnR) c (u :: e) with
  | none => rfl
  | some x' =>
    exfalso
    obtain ⟨hxm, hf⟩ := rule_some hq
    obtain ⟨x, hx, rfl⟩ := List.mem_map.1 hxm
    have h1 := stF_key hf
    have h0 : 0 < (turnR x).key.length := (hB.ok x hx).2.i0
    have h2 := stB_at h1.2 h0
    have e0 : unitAt ((u :: e).take (turnR x).key.length) ((0 : Nat) : Int) = u := by
      unfold unitAt
      obtain ⟨m, hm⟩ : ∃ m, (turnR x).key.length = m + 1 := ⟨(turnR x).key.length - 1, by omega⟩
      rw [hm]
      rfl
    rw [e0] at h2
    have h3 : ∃ l ∈ lsB rs, inL l u = true := ⟨imgF x, List.mem_map.2 ⟨x, hx, rfl⟩, by
      have h4 := hasB_inL h2
      have e1 : keyAt (turnR x).key ((0 : Nat) : Int) = imgF x := by
        unfold keyAt imgF
        show ((img x)[0]?).getD [] = _
        first | rfl | (cases img x <;> rfl)
      rw [← e1]
      exact h4⟩
    have h5 : ∃ l ∈ lsG rs, inL l u = true := Classical.byContradiction fun hn => hu.2 ⟨h3, hn⟩
    obtain ⟨L, hL, hLu⟩ := h5
    obtain ⟨y, hy, rfl⟩ := List.mem_map.1 hL
    obtain ⟨hyr, hyf⟩ := List.mem_filter.1 hy
    unfold freeB at hyf
    simp only [Bool.and_eq_true, decide_eq_true_eq, Bool.not_eq_true'] at hyf
    obtain ⟨⟨⟨⟨k1, k2⟩, k3⟩, k4⟩, k5⟩ := hyf
    have hkey : ∃ S, y.key = [S] := List.length_eq_one_iff.1 k1
    obtain ⟨S, hS⟩ := hkey
    have hSu : hasB S u = true := by
      have hok : okS S = true := List.all_eq_true.1 (hB.ok y hyr).1.kS S (by rw [hS]; simp)
      refine inL_hasB hok ?_
      have : keyF y = S := by
        unfold keyF
        first | (rw [hS]; rfl) | simp [hS]
      rw [← this]
      exact hLu
    have hfy : stF y d (u :: l) = true := by
      rw [stF_iff]
      have a0 : y.ante = [] := List.eq_nil_of_length_eq_zero k2
      have p0 : y.post = [] := List.eq_nil_of_length_eq_zero k3
      rw [hS, a0, p0]
      refine ⟨by simp, by simp, fun h => ?_, fun h => ?_, ?_, ?_, ?_⟩
      · rw [k4] at h; cases h
      · rw [k5] at h; cases h
      · simp [stB, hSu]
      · simp [stB]
      · simp [stB]
    rw [rule_none h hyr] at hfy
    cases hfy
theorem turn_alike {x y : Rl} (h1 : x.key = y.key) (h2 : x.res = y.res) : (turnR x).key = (turnR y).key ∧ (turnR x).res = (turnR y).res := by
  have hs : ∀ p n, spk x p n = spk y p n := fun p n => by unfold spk; rw [h2]
  constructor
  · show img x = img y
    unfold img
    rw [h1, h2]
  · show resT x x.key.length = resT y y.key.length
    unfold resT restP
    simp only [h1, h2, hs]
/-- THERE AND BACK, UNIT BY UNIT -/
theorem back_units_run {rs : List Rl} (hB : Bck rs) {d l D : List Int} (h : Rn rs d l D) : ∀ c e, D = d ++ e → Tl rs c d → (∀ u ∈ l, ovU rs u) → Rn (rs.map turnR) c e (c ++ l) := by
  induction h with
  | nil d =>
    intro c e he _ _
    obtain rfl : e = [] := by simpa using he
    rw [List.append_nil]
    exact .nil c
  | step d l D hl hR ih =>
    intro c e he hT hO
    obtain ⟨e1, he1⟩ := hR.pre
    have hee : e = layd rs d l ++ e1 := by
      rw [he, List.append_assoc] at he1
      exact List.append_cancel_left he1
    cases hq : ruleN rs d l with
    | none =>
      obtain ⟨l1, l2⟩ := over_none hq
      obtain ⟨u, l', rfl⟩ : ∃ u l', l = u :: l' := by
        cases l with
        | nil => exact absurd rfl hl
        | cons u l' => exact ⟨u, l', rfl⟩
      rw [l1] at hee he1 ih
      rw [l2] at ih
      simp only [List.take_succ_cons, List.take_zero, List.drop_succ_cons, List.drop_zero, List.singleton_append] at hee he1 ih
      subst hee
      have hn := turned_none (c := c) (e := e1) hB hq (hO u (by simp))
      obtain ⟨m1, m2⟩ := over_none hn
      refine .step _ _ _ (by simp) ?_
      rw [m1, m2]
      have := ih (c ++ [u]) e1 (by simpa using he1) (hT.over u) fun x hx => hO x (List.mem_cons_of_mem _ hx)
      simpa using this
    | some r =>
      obtain ⟨hr, hf⟩ := rule_some hq
      have ho := (hB.ok r hr).1
      have hb := (hB.ok r hr).2
      obtain ⟨l1, l2⟩ := done_some hq (cu_all ho hb)
      rw [l1] at hee he1 ih hR
      rw [l2] at ih hR
      obtain ⟨f1, f2, f3, f4, f5, f6, f7⟩ := (stF_iff r d l).1 hf
      have hP := post_units hB hR e1 he1 r.post.length (by rw [List.length_drop]; omega) fun u hu => by
        obtain ⟨A, hA, hbu⟩ := stB_mem f6 hu
        exact hB.po r hr A hA u (hasB_inL hbu)
      have hfit := turn_fits hB hr hf hT hP
      obtain ⟨x', hx'⟩ := rule_ex (List.mem_map.2 ⟨r, hr, rfl⟩) hfit
      obtain ⟨hxm, hxf⟩ := rule_some hx'
      obtain ⟨x, hx, rfl⟩ := List.mem_map.1 hxm
      have hm := fits_mt (stF_key hxf).2 (stF_key hfit).2
      obtain ⟨k1, k2⟩ := hB.nc x hx r hr hm
      obtain ⟨a1, a2⟩ := turn_alike k1 k2
      have hcu : (turnR x).cu = (turnR x).res.length := by
        show (x.key.length : Int) = ((resT x x.key.length).length : Int)
        rw [resT_len]
      have hkl : (turnR r).key.length = r.res.length := img_len r
      have hOl := outs_len r (l.take r.key.length)
      have htk : (outs r (l.take r.key.length) ++ e1).take (turnR x).key.length = outs r (l.take r.key.length) := by
        rw [a1, hkl, ← hOl, List.take_left]
      have hdr : (outs r (l.take r.key.length) ++ e1).drop (turnR x).key.length = e1 := by
        rw [a1, hkl, ← hOl, List.drop_left]
      obtain ⟨m1, m2⟩ := done_some hx' hcu
      have hou : outs (turnR x) (outs r (l.take r.key.length)) = l.take r.key.length := by
        have : outs (turnR x) (outs r (l.take r.key.length)) = outs (turnR r) (outs r (l.take r.key.length)) := by
          unfold outs
          rw [a1, a2]
        rw [this]
        exact outs_back ho hb f5
      have hO0 : outs r (l.take r.key.length) ≠ [] := by
        intro e0
        have h1 := hb.i0
        rw [img_len] at h1
        rw [e0] at hOl
        simp at hOl
        omega
      subst hee
      refine .step _ _ _ (by simp [hO0]) ?_
      rw [m1, m2, htk, hdr, hou]
      have := ih (c ++ l.take r.key.length) e1 he1 (Tl.done _ hO0 fun u hu => core_img hr ho f5 hu) fun x hx => hO x (List.mem_of_mem_drop hx)
      rw [List.append_assoc, List.take_append_drop] at this
      exact this
/-- the bytes of units -/
def bts (l : List Int) : List UInt8 := l.flatMap fun u => (put u).data.toList
theorem bts_cons (u : Int) (l : List Int) : bts (u :: l) = (put u).data.toList ++ bts l := rfl
theorem bts_append (l k : List Int) : bts (l ++ k) = bts l ++ bts k := by simp [bts]
theorem joinB_bts : ∀ l : List Int, AllU l → joinB l = some (bts l)
  | [], _ => rfl
  | u :: l, h => by
    rw [joinB_step (h u (by simp)), joinB_bts l fun x hx => h x (List.mem_cons_of_mem _ hx)]
    rfl
theorem joinS_bts {l : List Int} (h : AllU l) : joinS l = ⟨(bts l).toArray⟩ := by
  unfold joinS
  rw [joinB_bts l h]
theorem bts_units (s : ByteArray) : ∀ k p, s.size ≤ p + k → bts (intsU (unitsN s k p)) = s.data.toList.drop p
  | 0, p, h => by
    rw [unitsN_end s 0 p (by omega), List.drop_eq_nil_of_le (by rw [← Lib.size_eq]; omega)]
    rfl
  | k + 1, p, h => by
    by_cases hp : p < s.size
    · have hw := uw_pos s p
      rw [unitsN_step s k p hp]
      show (put (uAt s p : Nat)).data.toList ++ bts (intsU (unitsN s k (p + uw s p))) = _
      rw [bts_units s k (p + uw s p) (by omega), put_uAt s p hp, ← List.drop_drop, List.take_append_drop]
    · rw [unitsN_end s _ p hp, List.drop_eq_nil_of_le (by rw [← Lib.size_eq]; omega)]
      rfl
theorem join_units (s : ByteArray) : joinS (intsU (units s)) = s := by
  rw [joinS_bts (units_all s)]
  unfold units
  rw [bts_units s s.size 0 (by omega)]
  simp
theorem drop_cons {t : ByteArray} {q : Nat} {b : UInt8} {r : List UInt8} (h : t.data.toList.drop q = b :: r) : q < t.size ∧ t.get! q = b ∧ t.data.toList.drop (q + 1) = r := by
  have hq : q < t.size := by
    rw [Lib.size_eq]
    by_cases e : q < t.data.toList.length
    · exact e
    · rw [List.drop_eq_nil_of_le (by omega)] at h
      cases h
  rw [drop_get t q hq] at h
  injection h with h1 h2
  exact ⟨hq, h1, h2⟩
theorem not_stray {t : ByteArray} {q c n : Nat} (h : Utf8.decode t q = (c, n)) (hc : c ≠ 65533 ∨ n ≠ 1) : uAt t q = c ∧ uw t q = n := by
  have hs : strayAt t q = false := by
    cases hs : strayAt t q with
    | false => rfl
    | true =>
      have := (stray_iff t q).1 hs
      rw [h] at this
      injection this with h1 h2
      rcases hc with hc | hc
      · exact absurd h1 hc
      · exact absurd h2 hc
  refine ⟨?_, ?_⟩
  · rw [uAt_rune hs, h]
  · unfold uw
    rw [h]
/-- a rune's bytes are that rune -/
theorem rune_at {t : ByteArray} {q : Nat} {u : Int} {rest : List UInt8} (hu : (0 ≤ u ∧ u < 55296) ∨ (57343 < u ∧ u ≤ 1114111)) (h : t.data.toList.drop q = (put u).data.toList ++ rest) : q < t.size ∧ (uAt t q : Int) = u ∧ uw t q = (put u).data.toList.length := by
  rw [put_rune hu] at h ⊢
  obtain ⟨c, rfl⟩ : ∃ c : Nat, u = c := ⟨u.toNat, by omega⟩
  by_cases h1 : c < 128
  · rw [enc1 c h1] at h ⊢
    obtain ⟨a1, a2, _⟩ := drop_cons h
    have hb := b8 c (by omega)
    obtain ⟨e1, e2⟩ := not_stray (dec1 t q (by rw [a2, hb]; exact h1)) (.inl (by rw [a2, hb]; omega))
    refine ⟨a1, by rw [e1, a2, hb], by rw [e2]; rfl⟩
  · by_cases h2 : c < 2048
    · rw [enc2 c (by omega) h2] at h ⊢
      obtain ⟨a1, a2, h⟩ := drop_cons h
      obtain ⟨b1, b2, _⟩ := drop_cons h
      obtain ⟨e1, e2⟩ := not_stray (dec2 t q c (by omega) h2 b1 (by rw [a2]; exact b8 _ (by omega)) (by rw [b2]; exact b8 _ (by omega))) (.inr (by omega))
      exact ⟨a1, by rw [e1], by rw [e2]; rfl⟩
    · by_cases h3 : c < 65536
      · rw [enc3 c (by omega) h3 (by omega)] at h ⊢
        obtain ⟨a1, a2, h⟩ := drop_cons h
        obtain ⟨b1, b2, h⟩ := drop_cons h
        obtain ⟨c1, c2, _⟩ := drop_cons h
        obtain ⟨e1, e2⟩ := not_stray (dec3 t q c (by omega) h3 (by omega) c1 (by rw [a2]; exact b8 _ (by omega)) (by rw [b2]; exact b8 _ (by omega)) (by rw [c2]; exact b8 _ (by omega))) (.inr (by omega))
        exact ⟨a1, by rw [e1], by rw [e2]; rfl⟩
      · rw [enc4 c (by omega) (by omega)] at h ⊢
        obtain ⟨a1, a2, h⟩ := drop_cons h
        obtain ⟨b1, b2, h⟩ := drop_cons h
        obtain ⟨c1, c2, h⟩ := drop_cons h
        obtain ⟨d1, d2, _⟩ := drop_cons h
        obtain ⟨e1, e2⟩ := not_stray (dec4 t q c (by omega) (by omega) d1 (by rw [a2]; exact b8 _ (by omega)) (by rw [b2]; exact b8 _ (by omega)) (by rw [c2]; exact b8 _ (by omega)) (by rw [d2]; exact b8 _ (by omega))) (.inr (by omega))
        exact ⟨a1, by rw [e1], by rw [e2]; rfl⟩
/-- a stray stays one, where no more bytes that go on stand behind it -/
theorem stray_stays {s t : ByteArray} {p q : Nat} (hs : strayAt s p = true) (_hp : p < s.size) (_hq : q < t.size) (hb : t.get! q = s.get! p)
    (hk : ∀ k, 1 ≤ k → (∀ i, 1 ≤ i → i ≤ k → q + i < t.size ∧ (t.get! (q + i)).toNat / 64 = 2) → p + k < s.size ∧ s.get! (p + k) = t.get! (q + k)) : uAt t q = uAt s p ∧ uw t q = 1 := by
  have hd := (stray_iff s p).1 hs
  have hw : uw t q = 1 := by
    by_cases h1 : 1 < uw t q
    · exfalso
      obtain ⟨m1, m2, m3⟩ := uw_many t q h1
      obtain ⟨c, F⟩ := form_of t q h1
      obtain ⟨f1, f2, f3⟩ := F
      have hall : ∀ k, 1 ≤ k → k < uw t q → p + k < s.size ∧ s.get! (p + k) = t.get! (q + k) := fun k h2 h3 => hk k h2 fun i h4 h5 => ⟨by omega, m3 i h4 (by omega)⟩
      have hdd : Utf8.decode s p = (c, uw t q) := by
        rcases f3 with ⟨n2, c1, c2, b0, b1⟩ | ⟨n3, c1, c2, c3, b0, b1, b2⟩ | ⟨n4, c1, c2, b0, b1, b2, b3⟩
        · have a1 := hall 1 (by omega) (by omega)
          rw [n2]
          exact dec2 s p c c1 c2 a1.1 (by rw [← hb]; exact b0) (by rw [a1.2]; exact b1)
        · have a1 := hall 1 (by omega) (by omega)
          have a2 := hall 2 (by omega) (by omega)
          rw [n3]
          exact dec3 s p c c1 c2 c3 a2.1 (by rw [← hb]; exact b0) (by rw [a1.2]; exact b1) (by rw [a2.2]; exact b2)
        · have a1 := hall 1 (by omega) (by omega)
          have a2 := hall 2 (by omega) (by omega)
          have a3 := hall 3 (by omega) (by omega)
          rw [n4]
          exact dec4 s p c c1 c2 a3.1 (by rw [← hb]; exact b0) (by rw [a1.2]; exact b1) (by rw [a2.2]; exact b2) (by rw [a3.2]; exact b3)
      rw [hd] at hdd
      injection hdd with _ h2
      omega
    · have := uw_pos t q
      omega
  have hst : strayAt t q = true := by
    rcases one_wide t q hw with ⟨a, _⟩ | ⟨_, b⟩
    · exfalso
      rw [hb] at a
      have := dec1 s p a
      rw [hd] at this
      injection this with h1 _
      omega
    · exact (stray_iff t q).2 b
  exact ⟨by rw [uAt_stray hst, uAt_stray hs, hb], hw⟩
theorem isStray_of {u : Int} (h : wd u ≠ 0) : (1114240 ≤ u ∧ u ≤ 1114367) ∨ ((0 ≤ u ∧ u < 55296) ∨ (57343 < u ∧ u ≤ 1114111)) := by
  by_cases a : 1114240 ≤ u ∧ u ≤ 1114367
  · exact .inl a
  · by_cases b : (0 ≤ u ∧ u < 55296) ∨ (57343 < u ∧ u ≤ 1114111)
    · exact .inr b
    · exact absurd (wd_no (by omega) (by omega)) h
/-- no rune begins with a byte that goes on -/
theorem rune_first {u : Int} (hu : (0 ≤ u ∧ u < 55296) ∨ (57343 < u ∧ u ≤ 1114111)) : ∃ b r, (put u).data.toList = b :: r ∧ b.toNat / 64 ≠ 2 := by
  rw [put_rune hu]
  obtain ⟨c, rfl⟩ : ∃ c : Nat, u = c := ⟨u.toNat, by omega⟩
  by_cases h1 : c < 128
  · rw [enc1 c h1]
    exact ⟨_, _, rfl, by rw [b8 _ (by omega)]; omega⟩
  · by_cases h2 : c < 2048
    · rw [enc2 c (by omega) h2]
      exact ⟨_, _, rfl, by rw [b8 _ (by omega)]; omega⟩
    · by_cases h3 : c < 65536
      · rw [enc3 c (by omega) h3 (by omega)]
        exact ⟨_, _, rfl, by rw [b8 _ (by omega)]; omega⟩
      · rw [enc4 c (by omega) (by omega)]
        exact ⟨_, _, rfl, by rw [b8 _ (by omega)]; omega⟩
def Stray (u : Int) : Prop := 1114240 ≤ u ∧ u ≤ 1114367
/-- bytes that go on are strays -/
theorem cont_strays : ∀ (e : List Int) (k : Nat), AllU e → k ≤ (bts e).length → (∀ i (h : i < (bts e).length), i < k → ((bts e)[i]).toNat / 64 = 2) → k ≤ e.length ∧ (∀ u ∈ e.take k, Stray u)
  | _, 0, _, _, _ => ⟨Nat.zero_le _, by simp⟩
  | [], k + 1, _, h, _ => by simp [bts] at h
  | v :: e, k + 1, hu, h, hc => by
    rcases isStray_of (hu v (by simp)) with hs | hr
    · have hp : (put v).data.toList = [UInt8.ofNat (v - 1114112).toNat] := by rw [put_stray hs]
      have hb : bts (v :: e) = UInt8.ofNat (v - 1114112).toNat :: bts e := by rw [bts_cons, hp]; rfl
      have ih := cont_strays e k (fun x hx => hu x (List.mem_cons_of_mem _ hx)) (by rw [hb] at h; simpa using h) fun i hi hik => by
        have := hc (i + 1) (by rw [hb]; simpa using hi) (by omega)
        simpa [hb] using this
      refine ⟨by simpa using ih.1, fun u hu' => ?_⟩
      rw [List.take_succ_cons] at hu'
      rcases List.mem_cons.1 hu' with rfl | hu'
      · exact hs
      · exact ih.2 u hu'
    · exfalso
      obtain ⟨b, r, hbr, hn⟩ := rune_first hr
      have hb : bts (v :: e) = b :: (r ++ bts e) := by rw [bts_cons, hbr]; rfl
      have := hc 0 (by rw [hb]; simp) (by omega)
      simp [hb] at this
      exact hn this
theorem bts_strays : ∀ l : List Int, (∀ u ∈ l, Stray u) → (bts l).length = l.length
  | [], _ => rfl
  | u :: l, h => by
    rw [bts_cons, put_stray (h u (by simp)), List.length_append, bts_strays l fun x hx => h x (List.mem_cons_of_mem _ hx)]
    simp
    omega
/-- strays that stand side by side in what is made stood side by side in the source -/
theorem stray_pre {rs : List Rl} (hB : Bck rs) {d l D : List Int} (h : Rn rs d l D) : ∀ e, D = d ++ e → ∀ j, j ≤ e.length → (∀ u ∈ e.take j, Stray u) → j ≤ l.length ∧ l.take j = e.take j := by
  induction h with
  | nil d =>
    intro e he j hj _
    obtain rfl : e = [] := by simpa using he
    obtain rfl : j = 0 := by simpa using hj
    exact ⟨Nat.le_refl _, rfl⟩
  | step d l D hl hR ih =>
    intro e he j hj hs
    match j with
    | 0 => exact ⟨Nat.zero_le _, by simp⟩
    | j + 1 =>
      obtain ⟨e1, he1⟩ := hR.pre
      have hee : e = layd rs d l ++ e1 := by
        rw [he, List.append_assoc] at he1
        exact List.append_cancel_left he1
      cases hq : ruleN rs d l with
      | none =>
        obtain ⟨l1, l2⟩ := over_none hq
        obtain ⟨u, l', rfl⟩ : ∃ u l', l = u :: l' := by
          cases l with
          | nil => exact absurd rfl hl
          | cons u l' => exact ⟨u, l', rfl⟩
        rw [l1] at hee he1 ih
        rw [l2] at ih
        simp only [List.take_succ_cons, List.take_zero, List.drop_succ_cons, List.drop_zero, List.singleton_append] at hee he1 ih
        subst hee
        have := ih e1 (by simpa using he1) j (by simpa using hj) fun x hx => hs x (by simp [hx])
        exact ⟨by simpa using this.1, by simp [this.2]⟩
      | some r =>
        exfalso
        obtain ⟨hr, hf⟩ := rule_some hq
        have ho := (hB.ok r hr).1
        have hb := (hB.ok r hr).2
        obtain ⟨l1, _⟩ := done_some hq (cu_all ho hb)
        have hK := (stF_key hf).2
        have hOl := outs_len r (l.take r.key.length)
        have h0 := hb.i0
        rw [img_len] at h0
        rw [l1] at hee
        have hx : (outs r (l.take r.key.length))[0]'(by omega) ∈ e.take (j + 1) := by
          subst hee
          rw [List.mem_iff_getElem]
          refine ⟨0, by simp; omega, ?_⟩
          rw [List.getElem_take, List.getElem_append_left (by omega)]
        have hst := hs _ hx
        obtain ⟨q, hq', he'⟩ := List.mem_map.1 (List.getElem_mem (show 0 < (outs r (l.take r.key.length)).length by omega))
        have hin := hasB_inL (wrt_in ho hK hq')
        rw [he'] at hin
        have hmet : metB straysL (imgP r.key q) = true := (metB_iff (by simp [straysL]) (okS_rises (img_ok ho _ (List.mem_map.2 ⟨q, hq', rfl⟩)))).2 ⟨_, by
          unfold Stray at hst
          simp [inL, inR, straysL]
          omega, hin⟩
        have : (img r).any (metB straysL) = true := List.any_eq_true.2 ⟨_, List.mem_map.2 ⟨q, hq', rfl⟩, hmet⟩
        rw [hb.st] at this
        cases this
theorem units_skip {s : ByteArray} : ∀ (K l1 : List Int) (k p : Nat), intsU (unitsN s k p) = K ++ l1 → s.size ≤ p + k → ∃ k0 p', intsU (unitsN s k0 p') = l1 ∧ s.size ≤ p' + k0
  | [], l1, k, p, h, hk => ⟨k, p, h, hk⟩
  | u :: K, l1, k, p, h, hk => by
    have hp : p < s.size := by
      by_cases hp : p < s.size
      · exact hp
      · rw [unitsN_end s k p hp] at h
        cases h
    obtain ⟨k0, rfl⟩ : ∃ k0, k = k0 + 1 := ⟨k - 1, by omega⟩
    rw [unitsN_step s k0 p hp] at h
    have hw := uw_pos s p
    refine units_skip K l1 k0 (p + uw s p) ?_ (by omega)
    have : intsU ((p, uAt s p) :: unitsN s k0 (p + uw s p)) = (uAt s p : Int) :: intsU (unitsN s k0 (p + uw s p)) := rfl
    rw [this] at h
    injection h
theorem runes_pre {t : ByteArray} : ∀ (O rest : List Int) (k q : Nat), (∀ u ∈ O, (0 ≤ u ∧ u < 55296) ∨ (57343 < u ∧ u ≤ 1114111)) → t.data.toList.drop q = bts O ++ bts rest → t.size ≤ q + k → ∃ k' q', intsU (unitsN t k q) = O ++ intsU (unitsN t k' q') ∧ t.data.toList.drop q' = bts rest ∧ t.size ≤ q' + k'
  | [], rest, k, q, _, h, hk => ⟨k, q, rfl, h, hk⟩
  | u :: O, rest, k, q, hO, h, hk => by
    rw [bts_cons, List.append_assoc] at h
    obtain ⟨h1, h2, h3⟩ := rune_at (hO u (by simp)) h
    obtain ⟨k0, rfl⟩ : ∃ k0, k = k0 + 1 := ⟨k - 1, by omega⟩
    have hw := uw_pos t q
    have hd : t.data.toList.drop (q + uw t q) = bts O ++ bts rest := by
      rw [← List.drop_drop, h, h3, List.drop_left]
    obtain ⟨k', q', a1, a2, a3⟩ := runes_pre O rest k0 (q + uw t q) (fun x hx => hO x (List.mem_cons_of_mem _ hx)) hd (by omega)
    refine ⟨k', q', ?_, a2, a3⟩
    rw [unitsN_step t k0 q h1]
    show (uAt t q : Int) :: intsU (unitsN t k0 (q + uw t q)) = _
    rw [a1, h2]
    rfl
theorem runes_of {rs : List Rl} (hB : Bck rs) {r : Rl} (hr : r ∈ rs) {K : List Int} (hK : stB r.key K = true) : ∀ u ∈ outs r K, wd u ≠ 0 → (0 ≤ u ∧ u < 55296) ∨ (57343 < u ∧ u ≤ 1114111) := fun u hu hw => by
  have ho := (hB.ok r hr).1
  have hb := (hB.ok r hr).2
  rcases isStray_of hw with hs | hr'
  · exfalso
    obtain ⟨q, hq', rfl⟩ := List.mem_map.1 hu
    have hin := hasB_inL (wrt_in ho hK hq')
    have hmet : metB straysL (imgP r.key q) = true := (metB_iff (by simp [straysL]) (okS_rises (img_ok ho _ (List.mem_map.2 ⟨q, hq', rfl⟩)))).2 ⟨_, by
      simp [inL, inR, straysL]
      omega, hin⟩
    have : (img r).any (metB straysL) = true := List.any_eq_true.2 ⟨_, List.mem_map.2 ⟨q, hq', rfl⟩, hmet⟩
    rw [hb.st] at this
    cases this
  · exact hr'
theorem drop_at {l m : List UInt8} {q i : Nat} (h : l.drop q = m) (hi : i < m.length) : ∃ h' : q + i < l.length, l[q + i] = m[i] := by
  subst h
  rw [List.length_drop] at hi
  exact ⟨by omega, by rw [List.getElem_drop]⟩
theorem get_at {t : ByteArray} {q i : Nat} {m : List UInt8} (h : t.data.toList.drop q = m) (hi : i < m.length) : q + i < t.size ∧ t.get! (q + i) = m[i] := by
  obtain ⟨h1, h2⟩ := drop_at h hi
  have h3 : q + i < t.size := by rw [Lib.size_eq]; exact h1
  refine ⟨h3, ?_⟩
  have := drop_get t (q + i) h3
  rw [List.drop_eq_getElem_cons h1] at this
  injection this with h4 _
  rw [← h4, h2]
/-- WHAT IS MADE HAS THE UNITS THAT IT WAS MADE OF -/
theorem units_made {rs : List Rl} (hB : Bck rs) (s t : ByteArray) {d l D : List Int} (h : Rn rs d l D) : ∀ e k p k' q, D = d ++ e → AllU e → intsU (unitsN s k p) = l → s.size ≤ p + k → t.data.toList.drop q = bts e → t.size ≤ q + k' → intsU (unitsN t k' q) = e := by
  induction h with
  | nil d =>
    intro e k p k' q he _ _ _ ht hk'
    obtain rfl : e = [] := by simpa using he
    have : ¬ q < t.size := fun hq => by
      rw [drop_get t q hq] at ht
      cases ht
    rw [unitsN_end t k' q this]
    rfl
  | step d l D hl hR ih =>
    intro e k p k' q he hU hs hk ht hk'
    obtain ⟨e1, he1⟩ := hR.pre
    have hee : e = layd rs d l ++ e1 := by
      rw [he, List.append_assoc] at he1
      exact List.append_cancel_left he1
    cases hq : ruleN rs d l with
    | none =>
      obtain ⟨l1, l2⟩ := over_none hq
      obtain ⟨u, l', rfl⟩ : ∃ u l', l = u :: l' := by
        cases l with
        | nil => exact absurd rfl hl
        | cons u l' => exact ⟨u, l', rfl⟩
      rw [l1] at hee he1 ih hR
      rw [l2] at ih hR
      simp only [List.take_succ_cons, List.take_zero, List.drop_succ_cons, List.drop_zero, List.singleton_append] at hee he1 ih hR
      subst hee
      have hp : p < s.size := by
        by_cases hp : p < s.size
        · exact hp
        · rw [unitsN_end s k p hp] at hs
          cases hs
      obtain ⟨k0, rfl⟩ : ∃ k0, k = k0 + 1 := ⟨k - 1, by omega⟩
      rw [unitsN_step s k0 p hp] at hs
      have hs0 : (uAt s p : Int) :: intsU (unitsN s k0 (p + uw s p)) = u :: l' := hs
      injection hs0 with hu hl'
      have hwp := uw_pos s p
      rw [bts_cons] at ht
      have key : q < t.size ∧ (uAt t q : Int) = u ∧ uw t q = (put u).data.toList.length := by
        rcases isStray_of (hU u (by simp)) with hst | hr
        · have hput : (put u).data.toList = [UInt8.ofNat (u - 1114112).toNat] := by rw [put_stray hst]
          rw [hput] at ht
          obtain ⟨a1, a2, a3⟩ := drop_cons (r := bts e1) (by rw [ht]; rfl)
          have hsp : strayAt s p = true := by
            cases hx : strayAt s p with
            | true => rfl
            | false =>
              have h1 := uAt_rune hx
              have h2 := dec_lt s p
              omega
          have hsb := uAt_stray hsp
          have hw1 : uw s p = 1 := by
            unfold uw
            rw [(stray_iff s p).1 hsp]
          have hbs : s.data.toList.drop (p + 1) = bts l' := by
            rw [← hl', hw1, bts_units s k0 (p + 1) (by omega)]
          have hbyte : t.get! q = s.get! p := by
            rw [a2]
            have h3 := (s.get! p).toNat_lt
            exact ofNat_get s p _ (by omega)
          obtain ⟨b1, b2⟩ := stray_stays hsp hp a1 hbyte fun j hj hc => by
            have hjl : j ≤ (bts e1).length := by
              have h1 := (hc j hj (Nat.le_refl _)).1
              have h2 := congrArg List.length a3
              rw [List.length_drop, ← Lib.size_eq] at h2
              omega
            obtain ⟨c1, c2⟩ := cont_strays e1 j (fun x hx => hU x (List.mem_cons_of_mem _ hx)) hjl fun i hi hij => by
              have h1 := (get_at a3 hi).2
              have h2 := (hc (i + 1) (by omega) (by omega)).2
              rw [← h1, show q + 1 + i = q + (i + 1) by omega]
              exact h2
            obtain ⟨d1, d2⟩ := stray_pre hB hR e1 (by simpa using he1) j c1 c2
            have hbj : bts l' = bts (e1.take j) ++ bts (l'.drop j) := by
              rw [← d2, ← bts_append, List.take_append_drop]
            have hbe : bts e1 = bts (e1.take j) ++ bts (e1.drop j) := by
              rw [← bts_append, List.take_append_drop]
            have hlen : (bts (e1.take j)).length = j := by
              rw [bts_strays _ c2, List.length_take]
              omega
            have hi1 : j - 1 < (bts l').length := by rw [hbj, List.length_append]; omega
            have hi2 : j - 1 < (bts e1).length := by omega
            have g1 := get_at hbs hi1
            have g2 := get_at a3 hi2
            rw [show p + 1 + (j - 1) = p + j by omega] at g1
            rw [show q + 1 + (j - 1) = q + j by omega] at g2
            refine ⟨g1.1, ?_⟩
            rw [g1.2, g2.2]
            simp only [hbj, hbe]
            rw [List.getElem_append_left (by omega), List.getElem_append_left (by omega)]
          exact ⟨a1, by rw [b1, hu], by rw [b2, hput]; rfl⟩
        · exact rune_at hr ht
      obtain ⟨k1, rfl⟩ : ∃ k1, k' = k1 + 1 := ⟨k' - 1, by omega⟩
      have hwq := uw_pos t q
      have hd : t.data.toList.drop (q + uw t q) = bts e1 := by
        rw [← List.drop_drop, ht, key.2.2, List.drop_left]
      have := ih e1 k0 (p + uw s p) k1 (q + uw t q) (by simpa using he1) (fun x hx => hU x (List.mem_cons_of_mem _ hx)) hl' (by omega) hd (by omega)
      rw [unitsN_step t k1 q key.1]
      show (uAt t q : Int) :: intsU (unitsN t k1 (q + uw t q)) = _
      rw [this, key.2.1]
    | some r =>
      obtain ⟨hr, hf⟩ := rule_some hq
      have ho := (hB.ok r hr).1
      have hb := (hB.ok r hr).2
      obtain ⟨l1, l2⟩ := done_some hq (cu_all ho hb)
      rw [l1] at hee he1 ih
      rw [l2] at ih
      subst hee
      have hru := runes_of hB hr (stF_key hf).2
      rw [bts_append] at ht
      obtain ⟨k1, q1, a1, a2, a3⟩ := runes_pre _ e1 k' q (fun u hu => hru u hu (hU u (List.mem_append.2 (.inl hu)))) ht hk'
      obtain ⟨k0, p0, b1, b2⟩ := units_skip (l.take r.key.length) (l.drop r.key.length) k p (by rw [List.take_append_drop]; exact hs) hk
      have := ih e1 k0 p0 k1 q1 he1 (fun x hx => hU x (List.mem_append.2 (.inr hx))) b1 b2 a2 a3
      rw [a1, this]
theorem end_allU {rs : List Rl} {s : ByteArray} (h : mayE rs s = 0) : AllU (endOf rs s).2 := by
  obtain ⟨st, hw, _, hF, _, hc, _⟩ := may_ok h
  unfold endOf
  rw [hw]
  exact ((go3_ok hc (intsU (units s)) _).un (units_all s)).2
/-- THERE AND BACK -/
theorem back_text {rs : List Rl} (hB : Bck rs) {s : ByteArray} (h1 : mayE rs s = 0) (h2 : mayE (rs.map turnR) (runT rs s) = 0) (hO : ∀ u ∈ intsU (units s), ovU rs u) : runT (rs.map turnR) (runT rs s) = s := by
  obtain ⟨_, _, _, _, _, _, g1⟩ := may_ok h1
  obtain ⟨_, _, _, _, _, _, g2⟩ := may_ok h2
  have hU := end_allU h1
  have ht : runT rs s = ⟨(bts (endOf rs s).2).toArray⟩ := by
    unfold runT
    rw [if_pos h1, joinS_bts hU]
  obtain ⟨t, htt⟩ : ∃ t, runT rs s = t := ⟨_, rfl⟩
  rw [htt] at ht g2 h2 ⊢
  have hun : intsU (units t) = (endOf rs s).2 := by
    refine units_made hB s t g1.rn (endOf rs s).2 s.size 0 t.size 0 (by simp) hU rfl (by omega) ?_ (by omega)
    rw [ht]
    simp
  have r1 := back_units_run hB g1.rn [] (endOf rs s).2 (by simp) (Tl.nil rs) hO
  rw [List.nil_append] at r1
  rw [hun] at g2
  have := g2.rn.one r1
  unfold runT
  rw [if_pos h2, this, join_units]
theorem allU_seg {x : Int × Int} (h1 : x.1 ≤ x.2) (h : ∀ u, x.1 ≤ u → u ≤ x.2 → inL allU u = true) : Whole x := by
  have seg : ∀ u, inL allU u = true → (0 ≤ u ∧ u ≤ 55295) ∨ (57344 ≤ u ∧ u ≤ 1114111) ∨ (1114240 ≤ u ∧ u ≤ 1114367) := fun u hu => by
    simp [inL, allU, inR] at hu
    omega
  have a := seg _ (h x.1 (Int.le_refl _) h1)
  have b := seg _ (h x.2 h1 (Int.le_refl _))
  have g1 : ¬ (x.1 ≤ 55296 ∧ 55296 ≤ x.2) := fun ⟨e1, e2⟩ => by
    have := seg _ (h 55296 e1 e2)
    omega
  have g2 : ¬ (x.1 ≤ 1114112 ∧ 1114112 ≤ x.2) := fun ⟨e1, e2⟩ => by
    have := seg _ (h 1114112 e1 e2)
    omega
  unfold Whole
  omega
/-- what Over tells is a set -/
theorem over_valid {rs : List Rl} {l : List (Int × Int)} {n : Int} (h : OvR rs l n 0) : validB l = true ∧ (∀ u, inL l u = true ↔ ovU rs u) := by
  rcases h with ⟨h1, _⟩ | ⟨_, t, h1, h2, ⟨_, _, _, h3⟩ | ⟨h3, rfl, _⟩⟩
  · exact absurd rfl h1
  · cases h3
  · refine ⟨(validB_iff l).2 ⟨h3, fun x hx => ?_, ?_⟩, h2⟩
    · refine allU_seg (h1.2 x hx) fun u e1 e2 => ?_
      exact ((h2 u).1 (List.any_eq_true.2 ⟨x, hx, (inR_iff x u).2 ⟨e1, e2⟩⟩)).1
    · exact h1.1.imp fun h => by omega
theorem com_true {rs : List Rl} {s : ByteArray} {b : Bool} {n c : Int} (h : ComR rs s b n c) (hb : b = true) : n = 0 ∧ c = 0 := by
  obtain ⟨t, c0, _, ⟨_, h1, _⟩ | ⟨_, h1, ⟨_, _, h2⟩ | ⟨_, h2, _⟩⟩⟩ := h
  · rw [hb] at h1
    cases h1
  · exact ⟨h2, h1⟩
  · rw [hb] at h2
    cases h2
theorem tb_back {rs : List Rl} {s t : ByteArray} (h : TbR rs s t 0) (hO : ∀ u ∈ intsU (units s), ovU rs u) : t = s := by
  rcases h with ⟨n, _, h, _⟩ | ⟨hT, ⟨h1, _, h2⟩ | ⟨h1, rfl, h2⟩⟩
  · exact absurd rfl h
  · exact absurd h2.symm h1
  · exact back_text hT.bck h1 h2.symm hO
theorem com_back {rs : List Rl} {s : ByteArray} {b : Bool} {n : Int} (h : ComR rs s b n 0) (hO : ∀ u ∈ intsU (units s), ovU rs u) : b = true ∧ n = 0 := by
  obtain ⟨t, c0, ht, ⟨h1, _, _, h2⟩ | ⟨h1, _, ⟨_, h2, h3⟩ | ⟨h2, _⟩⟩⟩ := h
  · exact absurd h2.symm h1
  · exact ⟨h2, h3⟩
  · subst h1
    exact absurd (tb_back ht hO) h2
theorem sure_over {rs : List Rl} {s : ByteArray} {c : Int} (h : SureR rs s true c) : c = 0 ∧ ∀ u ∈ intsU (units s), ovU rs u := by
  obtain ⟨l, n, c0, ho, ⟨_, h1, _⟩ | ⟨_, _, h1, _⟩ | ⟨h0, _, h1, h2⟩⟩ := h
  · cases h1
  · cases h1
  · subst h0
    refine ⟨h2, fun u hu => ((over_valid ho).2 u).1 (hasB_inL ?_)⟩
    rw [allB_ints] at h1
    exact List.all_eq_true.1 h1.symm u hu
/-- what is sure comes back -/
theorem sure_comes {rs : List Rl} {s : ByteArray} {c n c' : Int} {b : Bool} (h : SureR rs s true c) (h' : ComR rs s b n c') : c = 0 ∧ (c' = 0 → b = true ∧ n = 0) := by
  obtain ⟨h1, h2⟩ := sure_over h
  refine ⟨h1, fun e => ?_⟩
  subst e
  exact com_back h' h2
theorem units_nil : units ⟨#[]⟩ = [] := rfl
theorem comes_nil {rs : List Rl} {n : Int} {b : Bool} (h : ComR rs ⟨#[]⟩ b n 0) : b = true ∧ n = 0 :=
  com_back h fun u hu => by
    rw [units_nil] at hu
    simp [intsU] at hu
theorem sure_nil {rs : List Rl} {b : Bool} (h : SureR rs ⟨#[]⟩ b 0) : b = true := by
  obtain ⟨l, n, c0, _, ⟨h1, _, h2⟩ | ⟨_, h1, _⟩ | ⟨_, _, h1, _⟩⟩ := h
  · exact absurd h2.symm h1
  · exact absurd h1 (by decide)
  · rw [h1, units_nil]
    rfl
theorem bts_perm {l k : List Int} (h : List.Perm l k) : (bts l).length = (bts k).length := by
  induction h with
  | nil => rfl
  | cons x _ ih => simp only [bts_cons, List.length_append, ih]
  | swap x y l =>
    simp only [bts_cons, List.length_append]
    omega
  | trans _ _ h1 h2 => exact h1.trans h2
theorem size_bts (s : ByteArray) : s.size = (bts (intsU (units s))).length := by
  have h := congrArg (fun x : ByteArray => x.data.toList.length) (join_units s)
  rw [joinS_bts (units_all s)] at h
  simpa using h.symm
/-- the order of the units doesn't matter -/
theorem sure_perm {rs : List Rl} {s t : ByteArray} {b b' : Bool} {c' : Int} (h : SureR rs s b 0) (h' : SureR rs t b' c') (hp : List.Perm (intsU (units s)) (intsU (units t))) : b' = b ∧ c' = 0 := by
  have hz : s.size = t.size := by rw [size_bts s, size_bts t, bts_perm hp]
  obtain ⟨l, n, c0, ho, ⟨h1, _, h2⟩ | ⟨_, _, _, h1⟩ | ⟨h0, h1, h2, _⟩⟩ := h
  · exact absurd h2.symm h1
  · cases h1
  · subst h0
    obtain ⟨l', n', c0', ho', h3⟩ := h'
    obtain ⟨rfl, rfl, rfl⟩ := ov_det ho ho'
    rcases h3 with ⟨h3, _⟩ | ⟨_, h3, _⟩ | ⟨_, _, h3, h4⟩
    · exact absurd rfl h3
    · omega
    · refine ⟨?_, h4⟩
      rw [h2, h3, allB_ints, allB_ints, Bool.eq_iff_iff, List.all_eq_true, List.all_eq_true]
      exact ⟨fun h u hu => h u (hp.mem_iff.1 hu), fun h u hu => h u (hp.mem_iff.2 hu)⟩
end Go.Proofs
namespace Go.Proofs
open Go.RowKit Go.Shelf
set_option maxRecDepth 100000
attribute [local go_sem] Oper.semAt_some
theorem joinB_len : ∀ (l : List Int) (t : List UInt8), joinB l = some t → t.length ≤ 4 * l.length
  | [], t, h => by simp [joinB] at h; subst h; simp
  | u :: l, t, h => by
    by_cases hw : wd u = 0
    · simp [joinB, hw] at h
    · rw [joinB_step hw, Option.map_eq_some_iff] at h
      obtain ⟨t', ht', rfl⟩ := h
      have := joinB_len l t' ht'
      have hp := put_size_le u
      rw [Lib.size_eq] at hp
      rw [List.length_append, List.length_cons]
      omega
theorem take_eq_succ {xs ys : List Int} {k : Nat} (hx : k < xs.length) (hy : k < ys.length) (h : xs.take k = ys.take k) (he : xs[k]?.getD 0 = ys[k]?.getD 0) : xs.take (k + 1) = ys.take (k + 1) := by
  rw [List.take_succ_eq_append_getElem hx, List.take_succ_eq_append_getElem hy, h]
  simp [hx, hy] at he
  rw [he]
/-- what the document calls proper -/
def properB (l : List Int) : Bool := match joinB l with
  | none => false
  | some t => intsU (units ⟨t.toArray⟩) == l
set_option maxHeartbeats 4000000 in
theorem rcutO_any (s : ByteArray) (w : World) (hs : s.size ≤ 4398046511104) : Calls Tryz.prog 8 #[.string s] w fun e w' => ∃ v B, e = .returned v ∧ OwnI0 w' B v (intsU (units s)) ∧ w.heap.size ≤ B ∧ Below w.heap.size w w' := by
  have hul := units_len s
  go_enter Tryz.func8, Tryz.ntmps8
  go_wp2_with fail
  refine (runits_any s _ hs).mono ?_
  rintro e w1 ⟨v, rfl, hO, hb⟩
  obtain ⟨A, n, cap, rfl, hn, hcells⟩ : ∃ A n cap, v = .slice A n cap ∧ n = (units s).length ∧ ∀ j x, (units s)[j]? = some x → ∃ g, A = some ⟨g, 0, none⟩ ∧ g < w1.heap.size ∧ w1.cell? ⟨g, j * 2 + 1, none⟩ = some (.int .i64 x.2) ∧ n ≤ cap := by
    rcases hO.2 with ⟨rfl, h0⟩ | ⟨g, cap, cur, rfl, _, hh, hc, _⟩
    · have : units s = [] := List.eq_nil_of_length_eq_zero h0
      exact ⟨none, 0, 0, rfl, by rw [this]; rfl, fun j x h => by rw [this] at h; simp at h⟩
    · exact ⟨_, _, cap, rfl, rfl, fun j x h => ⟨g, rfl, (Array.getElem?_eq_some_iff.1 hh).1, (OwnU.at hO h).2, hc⟩⟩
  have HC : Hid (∀ j x, (units s)[j]? = some x → ∃ g, A = some ⟨g, 0, none⟩ ∧ g < w1.heap.size ∧ w1.cell? ⟨g, j * 2 + 1, none⟩ = some (.int .i64 x.2) ∧ n ≤ cap) := hcells
  have HN : Hid (n = (units s).length) := hn
  have hni : n ≤ 4398046511104 := by omega
  have hb0 : Below w.heap.size w w1 := by
    first | exact hb | exact ((Below.refl _ w).alloc (Nat.le_refl _) _).trans (hb.mono (by simp))
  have HB : Hid (Below w.heap.size w w1) := hb0
  have hz1 : w.heap.size ≤ w1.heap.size := hb0.size
  clear hcells hb hn hO hb0 hul
  go_wp2
  go_loopw [3, 5] (fun vo vi wr => ∃ i : Nat, vi = .int .i64 i ∧ i ≤ n ∧ OwnI0 wr w1.heap.size vo ((intsU (units s)).take i) ∧ Below w1.heap.size w1 wr) (fun _ vi _ => n - (intOf vi).toNat)
  case atStart => exact ⟨0, rfl, by omega, .inl ⟨_, rfl, rfl⟩, Below.refl _ _⟩
  case round =>
    obtain ⟨i, rfl, hi, hO, hW⟩ := hrel
    have hz : w1.heap.size ≤ wr.heap.size := hW.size
    by_cases hin : i = n
    · as_aux_lemma =>
        have hni' := hin.symm
        subst hni'
        have HO : Hid (OwnI0 wr w1.heap.size u3 (intsU (units s))) := by
          have := hO
          rw [List.take_of_length_le (by rw [intsU_length, HN.out]; exact Nat.le_refl _)] at this
          exact this
        have HW : Hid (Below w1.heap.size w1 wr) := hW
        clear hO hW
        go_wp2
        go_ret
        exact ⟨_, rfl, _, HO.out, hz1, HB.out.trans (HW.out.mono hz1)⟩
    · as_aux_lemma =>
        obtain ⟨x, hx⟩ : ∃ x, (units s)[i]? = some x := ⟨_, List.getElem?_eq_getElem (by rw [← HN.out]; omega)⟩
        obtain ⟨g, rfl, hg, hc, hcap⟩ := HC.out i x hx
        have hc' := (hW.cell (p := ⟨g, i * 2 + 1, none⟩) hg).trans hc
        have HT : Hid ((intsU (units s)).take (i + 1) = (intsU (units s)).take i ++ [(x.2 : Int)]) := intsU_at hx
        have hlen : ((intsU (units s)).take i).length = i := by rw [List.length_take, intsU_length, ← HN.out]; omega
        have HO : Hid (OwnI0 wr w1.heap.size u3 ((intsU (units s)).take i)) := hO
        have HW : Hid (Below w1.heap.size w1 wr) := hW
        have HL : Hid (((intsU (units s)).take i).length = i) := hlen
        clear hx hc hO hW hlen
        go_wp2_with (at_builtin; go_must (refine push_I0 rfl _ _ rfl w1.heap.size _ _ rfl (HO.out.alloc _) _ _ (x.2 : Int) rfl (by simp) (by rw [HL.out]; omega) (by simp; omega) ?_); intro v' w3 hO1 hb3)
        exact ⟨⟨i + 1, by go_num, by omega, by rw [HT.out]; exact hO1, (HW.out.alloc hz _).trans hb3⟩, by simp [intOf]; omega⟩
theorem Ints.form {w : World} {v : Value} {xs : List Int} (h : Ints w v xs) : ∃ A cap, v = .slice A xs.length cap ∧ ∀ j, j < xs.length → ∃ g o, A = some ⟨g, o, none⟩ ∧ w.cell? ⟨g, o + j, none⟩ = some (.int .i64 (xs[j]?.getD 0)) := by
  obtain ⟨a, cap, rfl, hc⟩ := h
  refine ⟨a, cap, rfl, fun j hj => ?_⟩
  obtain ⟨g, o, rfl, h⟩ := hc.resolve_left (fun e => by rw [e] at hj; simp at hj)
  exact ⟨g, o, rfl, h j hj⟩
set_option maxHeartbeats 4000000 in
theorem rproper_any (v : Value) (l : List Int) (w : World) (hv : Ints w v l) (hl : l.length ≤ 1099511627776) :
    Calls Tryz.prog 9 #[v] w fun e w' => e = .returned (.bool (properB l)) ∧ Below w.heap.size w w' := by
  have hj := rjoin_any v l w hv (by omega)
  cases hJ : joinB l with
  | none =>
    rw [hJ] at hj
    have hp : properB l = false := by unfold properB; rw [hJ]
    rw [hp]
    have HJ : Hid (Calls Tryz.prog 10 #[v] w fun e w' => e = .returned (.tuple #[.string ⟨#[]⟩, .int .i64 11]) ∧ Below w.heap.size w w') := hj
    clear hj hJ hp hv
    go_enter Tryz.func9, Tryz.ntmps9
    go_wp2_with fail
    refine HJ.out.mono ?_
    rintro e w1 ⟨rfl, hb1⟩
    have HB : Hid (Below w.heap.size w w1) := hb1
    clear hb1
    go_wp2
    go_ret
    exact ⟨rfl, HB.out⟩
  | some t =>
    rw [hJ] at hj
    have htl := joinB_len l t hJ
    have hp : properB l = (intsU (units ⟨t.toArray⟩) == l) := by unfold properB; rw [hJ]
    rw [hp]
    have HJ : Hid (Calls Tryz.prog 10 #[v] w fun e w' => e = .returned (.tuple #[.string ⟨t.toArray⟩, .int .i64 0]) ∧ Below w.heap.size w w') := hj
    have hsz : (⟨t.toArray⟩ : ByteArray).size ≤ 4398046511104 := by rw [size_lit]; omega
    have hul : (intsU (units ⟨t.toArray⟩)).length ≤ 4398046511104 := by
      rw [intsU_length]
      have := units_len ⟨t.toArray⟩
      omega
    obtain ⟨xs, hxs⟩ : ∃ xs, intsU (units ⟨t.toArray⟩) = xs := ⟨_, rfl⟩
    have HXS : Hid (intsU (units ⟨t.toArray⟩) = xs) := hxs
    rw [hxs] at hul
    rw [hxs]
    obtain ⟨r, hr⟩ : ∃ r, (xs == l) = r := ⟨_, rfl⟩
    have HR : Hid ((xs == l) = r) := hr
    rw [hr]
    have HV : Hid (Ints w v l) := hv
    obtain ⟨a0, c0, rfl, hcl⟩ := hv.form
    clear hj hJ hp hr hv htl hxs hcl
    generalize (⟨t.toArray⟩ : ByteArray) = s at *
    obtain ⟨n, hn⟩ : ∃ n, l.length = n := ⟨_, rfl⟩
    have HN : Hid (l.length = n) := hn
    rw [hn] at HJ HV hl
    rw [hn]
    clear hn
    go_enter Tryz.func9, Tryz.ntmps9
    go_wp2_with fail
    refine HJ.out.mono ?_
    rintro e w1 ⟨rfl, hb1⟩
    have HB : Hid (Below w.heap.size w w1) := hb1
    clear hb1 HJ
    go_wp2_with fail
    refine (rcut_any s w1 hsz).mono ?_
    rw [HXS.out]
    rintro e w2 ⟨v2, rfl, i2', hb2⟩
    have i2 := i2'.ints
    have hB2 : Below w.heap.size w w2 := HB.out.trans (hb2.mono HB.out.size)
    have iv := HV.out.below hB2 (Nat.le_refl _)
    obtain ⟨a1, c1, rfl, hc1⟩ := i2.form
    have HB2 : Hid (Below w.heap.size w w2) := hB2
    have HC1 : Hid (∀ j, j < xs.length → ∃ g o, a1 = some ⟨g, o, none⟩ ∧ w2.cell? ⟨g, o + j, none⟩ = some (.int .i64 (xs[j]?.getD 0))) := hc1
    have HC0 : Hid (∀ j, j < n → ∃ g o, a0 = some ⟨g, o, none⟩ ∧ w2.cell? ⟨g, o + j, none⟩ = some (.int .i64 (l[j]?.getD 0))) := by
      obtain ⟨a', c', e, h⟩ := iv.form
      rw [HN.out] at h e
      injection e with e1 e2 e3
      subst e1
      exact h
    clear hc1 i2 iv hb2 hB2 HB HV HXS
    obtain ⟨m, hm⟩ : ∃ m, xs.length = m := ⟨_, rfl⟩
    have HM : Hid (xs.length = m) := hm
    rw [hm] at hul HC1
    rw [hm]
    clear hm
    by_cases hmn : m = n
    · subst hmn
      go_wp2
      go_loopw [6] (fun i wr => ∃ k q : Nat, i = .int .i64 k ∧ k ≤ m ∧ Hid (xs.take k = l.take k) ∧ wr = w2.drewN q) (fun i _ => m - (intOf i).toNat)
      case atStart => exact ⟨0, 0, rfl, Nat.zero_le _, rfl, rfl⟩
      case round =>
        obtain ⟨k, q, rfl, hk, hT, rfl⟩ := hrel
        by_cases hlt : k < m
        · obtain ⟨g1, o1, rfl, c1⟩ := HC1.out k hlt
          obtain ⟨g2, o2, rfl, c2⟩ := HC0.out k hlt
          have hlt' : (k : Int) < (m : Int) := by omega
          have hpos : (0 : Int) ≤ (k : Int) := by omega
          obtain ⟨a, ha⟩ : ∃ a : Int, xs[k]?.getD 0 = a := ⟨_, rfl⟩
          obtain ⟨b, hb⟩ : ∃ b : Int, l[k]?.getD 0 = b := ⟨_, rfl⟩
          rw [ha] at c1
          rw [hb] at c2
          have HA : Hid (xs[k]?.getD 0 = a) := ha
          have HB : Hid (l[k]?.getD 0 = b) := hb
          clear ha hb HC1 HC0
          by_cases he : a = b
          · as_aux_lemma =>
              have e1 : (a != b) = false := by simp [he]
              have HE : Hid (a = b) := he
              clear he
              go_wp2_with fail
              go_quiet (fail)
              go_wp2
              have hx := HM.out
              have hy := HN.out
              exact ⟨⟨k + 1, q + nq, by go_num, by omega, take_eq_succ (by omega) (by omega) hT.out (by rw [HA.out, HB.out]; exact HE.out), rfl⟩, by simp [intOf]; omega⟩
          · as_aux_lemma =>
              have e1 : (a != b) = true := by simp [he]
              have HE : Hid (a ≠ b) := he
              clear he
              go_wp2_with fail
              go_quiet (fail)
              go_wp2
              go_ret
              have hrf : r = false := by
                rw [← HR.out, beq_eq_false_iff_ne]
                rintro rfl
                exact HE.out (HA.out.symm.trans HB.out)
              refine ⟨by rw [hrf]; rfl, HB2.out.trans ?_⟩
              exact ⟨rfl, rfl, rfl, Nat.le_refl _, fun _ _ => rfl⟩
        · as_aux_lemma =>
            clear HC1 HC0
            go_wp2
            go_ret
            have hrt : r = true := by
              have hx := HM.out
              have hy := HN.out
              have ht := hT.out
              rw [List.take_of_length_le (by omega), List.take_of_length_le (by omega)] at ht
              rw [← HR.out, beq_iff_eq]; exact ht
            refine ⟨by rw [hrt]; rfl, HB2.out.trans ?_⟩
            exact ⟨rfl, rfl, rfl, Nat.le_refl _, fun _ _ => rfl⟩
    · as_aux_lemma =>
        have e1 : ((m : Int) != (n : Int)) = true := by rw [bne_iff_ne]; omega
        clear HC1 HC0
        go_wp2
        go_ret
        have hrf : r = false := by
          rw [← HR.out, beq_eq_false_iff_ne]
          intro e
          have := HM.out
          rw [e, HN.out] at this
          exact hmn this.symm
        exact ⟨by rw [hrf]; rfl, HB2.out⟩
end Go.Proofs
namespace Go.Proofs
open Go.RowKit Go.Shelf
set_option maxRecDepth 100000
attribute [local go_sem] Oper.semAt_some
theorem OwnI0.open {w : World} {B : Nat} {A : Option Addr} {n c : Nat} {d : List Int} (h : OwnI0 w B (.slice A n c) d) (hn : 0 < n) : ∃ g, A = some ⟨g, 0, none⟩ ∧ B ≤ g ∧ d.length = n ∧ w.ownsRow B 3 1 (.slice (some ⟨g, 0, none⟩) n c) n (d.map (Value.int .i64)) := by
  rcases h with ⟨A', h, _⟩ | h
  · injection h with _ h2
    omega
  · have h' := h
    unfold OwnI1 at h'
    rcases h'.2 with ⟨h1, _⟩ | ⟨g, cap, cur, h1, h2, _⟩
    · injection h1 with _ h3
      omega
    · injection h1 with e1 e2 e3
      subst e1 e3
      rw [← e2] at h'
      exact ⟨g, rfl, h2, e2.symm, h'⟩
theorem row_swap {w : World} {B g n c : Nat} {d : List Int} (h : w.ownsRow B 3 1 (.slice (some ⟨g, 0, none⟩) n c) n (d.map (Value.int .i64))) (hl : d.length = n) {i j : Nat} (hi : i < n) (hj : j < n) :
    w.cell? ⟨g, i, none⟩ = some (.int .i64 (d[i]?.getD 0)) ∧ w.cell? ⟨g, j, none⟩ = some (.int .i64 (d[j]?.getD 0)) ∧ w.frozen? ⟨g, i, none⟩ = false ∧ (∀ u, (w.setCell ⟨g, i, none⟩ u).frozen? ⟨g, j, none⟩ = false) ∧
    ∃ d', List.Perm d d' ∧ OwnI0 ((w.setCell ⟨g, i, none⟩ (.int .i64 (d[j]?.getD 0))).setCell ⟨g, j, none⟩ (.int .i64 (d[i]?.getD 0))) B (.slice (some ⟨g, 0, none⟩) n c) d' := by
  subst hl
  have ei : d[i]?.getD 0 = d[i]'(by omega) := by simp [show i < d.length by omega]
  have ej : d[j]?.getD 0 = d[j]'(by omega) := by simp [show j < d.length by omega]
  rw [ei, ej]
  refine ⟨?_, ?_, World.ownsRow.frozenAt h i, fun u => World.ownsRow.frozenAt (World.ownsRow.stored h i u).1 j, _, (List.set_set_perm (show i < d.length by omega) (show j < d.length by omega)).symm, .inr ?_⟩
  · rw [World.ownsRow.cellAt h i (by omega)]
    simp [show i < d.length by omega]
  · rw [World.ownsRow.cellAt h j (by omega)]
    simp [show j < d.length by omega]
  · have h1 := (World.ownsRow.stored (World.ownsRow.stored h i (.int .i64 (d[j]'(by omega)))).1 j (.int .i64 (d[i]'(by omega)))).1
    unfold OwnI1
    rw [List.map_set, List.map_set, List.length_set, List.length_set]
    exact h1
theorem row_put {w : World} {B g n c : Nat} {d : List Int} (h : w.ownsRow B 3 1 (.slice (some ⟨g, 0, none⟩) n c) n (d.map (Value.int .i64))) (hl : d.length = n) {i j : Nat} (_hi : i < n) (hj : j < n) (u : Value) :
    ∃ y, (w.setCell ⟨g, i, none⟩ u).cell? ⟨g, j, none⟩ = some y := by
  rw [World.ownsRow.cellAt (World.ownsRow.stored h i u).1 j (by omega)]
  exact ⟨_, List.getElem?_eq_getElem (by rw [List.length_set, List.length_map, hl]; exact hj)⟩
theorem proper_some {d : List Int} (h : properB d = true) : ∃ t, joinB d = some t ∧ intsU (units ⟨t.toArray⟩) = d := by
  unfold properB at h
  split at h
  · cases h
  · rename_i t ht
    exact ⟨t, ht, by simpa using h⟩
set_option maxHeartbeats 16000000 in
theorem law3_any (v ov : Value) (rs : List Rl) (s : ByteArray) (os : List Int) (w : World) (hT : Tab w) (h : PsR w v rs) (ho : Ints w ov os) (hI : ∀ k ∈ os, -9223372036854775808 ≤ k ∧ k ≤ 9223372036854775807) (hol : os.length ≤ 9223372036854775807) : Calls Tryz.prog 3 #[.agg #[v], .string s, ov] w fun e w' => e = .returned (.bool true) ∧ Below w.heap.size w w' := by
  have hz : 0 < w.heap.size := cell_lt (hT 0 _ rfl)
  obtain ⟨va, vn, vc, rfl⟩ : IsSl v := by
    obtain ⟨a, c, e, _⟩ := h
    exact ⟨a, _, c, e⟩
  obtain ⟨oa, oc, rfl, hoc⟩ := ho.form
  obtain ⟨on, hon⟩ : ∃ on, os.length = on := ⟨_, rfl⟩
  have HO : Hid (Ints w (.slice oa on oc) os ∧ os.length = on ∧ (∀ k ∈ os, -9223372036854775808 ≤ k ∧ k ≤ 9223372036854775807)) := ⟨by rw [← hon]; exact ho, hon, hI⟩
  rw [hon] at hol ⊢
  obtain ⟨W1, hW1⟩ : ∃ W1, w.alloc (.cells #[.slice va vn vc] 24) = W1 := ⟨_, rfl⟩
  have hb1 : Below w.heap.size w W1 := by rw [← hW1]; exact (Below.refl _ w).alloc (Nat.le_refl _) _
  have hk1 : W1.heap[w.heap.size]? = some (.cells #[.slice va vn vc] 24 (0, 0)) := by rw [← hW1]; exact World.alloc_heap_new _ _
  have x0 : W1.cell? ⟨w.heap.size, 0, none⟩ = some (.slice va vn vc) := by rw [cell_of hk1]; rfl
  have H : Hid (Below w.heap.size w W1 ∧ (∀ W, Below w.heap.size w W → PsR W (.slice va vn vc) rs ∧ Tab W ∧ 0 < W.heap.size) ∧ (∀ W, Below W1.heap.size W1 W → W.cell? ⟨w.heap.size, 0, none⟩ = some (.slice va vn vc) ∧ Below w.heap.size w W)) :=
    ⟨hb1, fun W hb => ⟨h.below hb (Nat.le_refl _), fun j v hv => cell_below (hT j v hv) hb (Nat.le_refl _), Nat.lt_of_lt_of_le hz hb.size⟩, fun W hb => ⟨cell_below x0 hb (Nat.le_refl _), hb1.trans (hb.mono hb1.size)⟩⟩
  clear h hT hz hb1 hk1 x0 ho hoc hI hon
  go_enter Tryz.func3, Tryz.ntmps3
  go_wp2_with fail
  refine (shown27_any W1 (H.out.2.1 W1 H.out.1).2.1 (H.out.2.1 W1 H.out.1).2.2).mono ?_
  rintro e w2 ⟨rfl, hb2⟩
  have HB2 : Hid (Below W1.heap.size W1 w2) := hb2
  have h2 := H.out.2.2 w2 hb2
  have p2 := H.out.2.1 w2 h2.2
  have x2 := h2.1
  have HC : Hid (Calls Tryz.prog 6 #[.agg #[.slice va vn vc], .string s] w2 (SureQ w2 rs s)) := sure_any _ rs s w2 p2.2.1 p2.1
  clear hb2 h2 p2 hW1
  go_wp2_with fail
  refine HC.out.mono ?_
  rintro e w3 ⟨b1, e1, rfl, hs1, hb3⟩
  have HS1 : Hid (SureR rs s b1 e1) := hs1
  have HB3 : Hid (Below W1.heap.size W1 w3) := HB2.out.trans (hb3.mono HB2.out.size)
  have h3 := H.out.2.2 w3 HB3.out
  have x3 := h3.1
  have p3 := H.out.2.1 w3 h3.2
  have HR : Hid (Calls Tryz.prog 7 #[.agg #[.slice va vn vc], .string s] w3 (ComQ w3 rs s)) := comes_any _ rs s w3 p3.2.1 p3.2.2 p3.1
  clear hs1 hb3 h3 p3 HC x2
  go_wp2_with fail
  refine HR.out.mono ?_
  rintro e w4 ⟨b2, n2, e2, rfl, hc2, hb4⟩
  have HC2 : Hid (ComR rs s b2 n2 e2) := hc2
  have HB4 : Hid (Below W1.heap.size W1 w4) := HB3.out.trans (hb4.mono HB3.out.size)
  have h4 := H.out.2.2 w4 HB4.out
  have x4 := h4.1
  have p4 := H.out.2.1 w4 h4.2
  have HS : Hid (Calls Tryz.prog 7 #[.agg #[.slice va vn vc], .string ⟨#[]⟩] w4 (ComQ w4 rs ⟨#[]⟩)) := comes_any _ rs _ w4 p4.2.1 p4.2.2 p4.1
  clear hc2 hb4 h4 p4 HR x3
  go_wp2_with fail
  refine HS.out.mono ?_
  rintro e w5 ⟨b3, n3, e3, rfl, hc3, hb5⟩
  have HC3 : Hid (ComR rs ⟨#[]⟩ b3 n3 e3) := hc3
  have HB5 : Hid (Below W1.heap.size W1 w5) := HB4.out.trans (hb5.mono HB4.out.size)
  have h5 := H.out.2.2 w5 HB5.out
  have x5 := h5.1
  have p5 := H.out.2.1 w5 h5.2
  have HS2 : Hid (Calls Tryz.prog 6 #[.agg #[.slice va vn vc], .string ⟨#[]⟩] w5 (SureQ w5 rs ⟨#[]⟩)) := sure_any _ rs _ w5 p5.2.1 p5.1
  clear hc3 hb5 h5 p5 HS x4
  go_wp2_with fail
  refine HS2.out.mono ?_
  rintro e w6 ⟨b4, e4, rfl, hs4, hb6⟩
  have HS4 : Hid (SureR rs ⟨#[]⟩ b4 e4) := hs4
  have HB6 : Hid (Below W1.heap.size W1 w6) := HB5.out.trans (hb6.mono HB5.out.size)
  clear hs4 hb6 HS2 x5
  go_upto_region 8 with fail
  go_cut [70] (fun c wx => c = .bool false ∧ Hid (Below W1.heap.size W1 wx))
  case first =>
    by_cases e3z : e3 = 0
    · subst e3z
      obtain ⟨rfl, rfl⟩ := comes_nil HC3.out
      by_cases e4z : e4 = 0
      · subst e4z
        have hb4 := sure_nil HS4.out
        subst hb4
        go_wp2
        go_meet
        exact ⟨rfl, HB6.out⟩
      · have d4 : (e4 == 0) = false := beq_eq_false_iff_ne.2 e4z
        go_wp2
        go_meet
        exact ⟨rfl, HB6.out⟩
    · have d3 : (e3 == 0) = false := beq_eq_false_iff_ne.2 e3z
      by_cases e4z : e4 = 0
      · subst e4z
        have hb4 := sure_nil HS4.out
        subst hb4
        go_wp2
        go_meet
        exact ⟨rfl, HB6.out⟩
      · have d4 : (e4 == 0) = false := beq_eq_false_iff_ne.2 e4z
        go_wp2
        go_meet
        exact ⟨rfl, HB6.out⟩
  case rest =>
    obtain ⟨hcs, hcw⟩ := hcut
    subst hcs
    clear HS4 HC3
    go_upto_region 10 with fail
    go_cut [94] (fun c wx => c = .bool false ∧ Hid (Below W1.heap.size W1 wx))
    case first =>
      have HCW : Hid (Below W1.heap.size W1 wc) := hcw
      cases b1 with
      | true =>
        obtain ⟨rfl, hsc⟩ := sure_comes HS1.out HC2.out
        by_cases e2z : e2 = 0
        · subst e2z
          obtain ⟨rfl, rfl⟩ := hsc rfl
          go_wp2
          go_meet
          exact ⟨rfl, HCW.out⟩
        · have d2 : (e2 == 0) = false := beq_eq_false_iff_ne.2 e2z
          cases b2 with
          | true => exact absurd (com_true HC2.out rfl).2 e2z
          | false =>
            clear hsc
            go_wp2
            go_meet
            exact ⟨rfl, HCW.out⟩
      | false =>
        cases b2 with
        | true =>
          obtain ⟨rfl, rfl⟩ := com_true HC2.out rfl
          go_wp2
          go_meet
          exact ⟨rfl, HCW.out⟩
        | false =>
          go_wp2
          go_meet
          exact ⟨rfl, HCW.out⟩
    case rest =>
      obtain ⟨hcs, hcw2⟩ := hcut
      subst hcs
      have HBC : Hid (Below W1.heap.size W1 wc) := hcw2
      clear hcw2 hcw HB2 HB3 HB4 HB5 HB6 HC2
      by_cases e1z : e1 = 0
      · subst e1z
        by_cases hs2 : s.size ≤ 2000
        · have hsI : ¬ (2000 : Int) < (s.size : Int) := by omega
          go_wp2_with fail
          refine (rcutO_any s _ (by omega)).mono ?_
          rintro e w7 ⟨uv, B, rfl, hO7, hB7, hb7⟩
          obtain ⟨ua, uc, rfl, hucp, -⟩ := hO7.ir
          obtain ⟨un, hun⟩ : ∃ un, (intsU (units s)).length = un := ⟨_, rfl⟩
          have HB7 : Hid (W1.heap.size ≤ B ∧ Below W1.heap.size W1 w7) := ⟨Nat.le_trans HBC.out.size hB7, HBC.out.trans (hb7.mono HBC.out.size)⟩
          have HO7 : Hid (∃ d, List.Perm (intsU (units s)) d ∧ OwnI0 w7 B (.slice ua un uc) d) := ⟨_, List.Perm.refl _, by rw [← hun]; exact hO7⟩
          have hun9 : un ≤ 2000 := by
            have h1 := units_len s
            rw [intsU_length] at hun
            omega
          have HS2 : Hid (s.size ≤ 2000 ∧ (intsU (units s)).length = un) := ⟨hs2, hun⟩
          rw [hun] at hucp ⊢
          clear hun hO7 hB7 hb7 hs2 HBC
          go_wp2
          go_loopw [19] (fun vi wr => ∃ k : Nat, vi = .int .i64 k ∧ k ≤ on ∧ k ≤ un ∧ Hid (Below W1.heap.size W1 wr ∧ ∃ d, List.Perm (intsU (units s)) d ∧ OwnI0 wr B (.slice ua un uc) d)) (fun vi _ => on - (intOf vi).toNat)
          case atStart => exact ⟨0, rfl, by omega, by omega, HB7.out.2, HO7.out⟩
          case round =>
            obtain ⟨k, rfl, hk1, hk2, HB⟩ := hrel
            obtain ⟨wo, hwo⟩ : ∃ x, x = wr := ⟨_, rfl⟩
            subst hwo
            have hpos : (0 : Int) ≤ (k : Int) := by omega
            by_cases c1 : k < on
            · have c1' : (k : Int) < (on : Int) := by omega
              by_cases c2 : k < un
              · have c2' : (k : Int) < (un : Int) := by omega
                obtain ⟨d, hp, hOw⟩ := HB.out.2
                obtain ⟨g, rfl, hBg, hdl, hrow⟩ := hOw.open (by omega)
                obtain ⟨g2, o2, rfl, hcq⟩ : ∃ g2 o2, oa = some ⟨g2, o2, none⟩ ∧ wo.cell? ⟨g2, o2 + k, none⟩ = some (.int .i64 (os[k]?.getD 0)) := by
                  obtain ⟨a', c', e, h⟩ := (HO.out.1.below (H.out.2.2 wo HB.out.1).2 (Nat.le_refl _)).form
                  injection e with i1 i2 i3
                  subst i1
                  exact h k (by rw [HO.out.2.1]; exact c1)
                have hqr := HO.out.2.2 (os[k]?.getD 0) (by
                  have h1 : k < os.length := by rw [HO.out.2.1]; exact c1
                  simp [h1])
                obtain ⟨q, hqe⟩ : ∃ q, os[k]?.getD 0 = q := ⟨_, rfl⟩
                rw [hqe] at hcq hqr
                clear hqe
                by_cases hq0 : q < 0
                · obtain ⟨r, hr⟩ : ∃ r : Nat, -(q + 1) = (r : Int) := ⟨(-(q + 1)).toNat, by omega⟩
                  have hr9 : (r : Int) ≤ 9223372036854775807 := by omega
                  have hm : r % un < un := Nat.mod_lt _ (by omega)
                  obtain ⟨hck, hcm, hfk, hfm, d', hp', hO'⟩ := row_swap hrow hdl c2 hm
                  obtain ⟨y, hcy⟩ := row_put hrow hdl c2 hm (.int .i64 (d[r % un]?.getD 0))
                  obtain ⟨m, hme⟩ : ∃ m, r % un = m := ⟨_, rfl⟩
                  have e3 : (-(q + 1)).tmod (un : Int) = (m : Int) := by rw [hr, ← hme]; exact Int.ofNat_tmod r un
                  rw [hme] at hm hcm hfm hO' hcy
                  have hm' : (m : Int) < (un : Int) := by omega
                  have HF : Hid (Below W1.heap.size W1 ((wo.setCell ⟨g, k, none⟩ (.int .i64 (d[m]?.getD 0))).setCell ⟨g, m, none⟩ (.int .i64 (d[k]?.getD 0))) ∧ ∃ d', List.Perm (intsU (units s)) d' ∧ OwnI0 ((wo.setCell ⟨g, k, none⟩ (.int .i64 (d[m]?.getD 0))).setCell ⟨g, m, none⟩ (.int .i64 (d[k]?.getD 0))) B (.slice (some ⟨g, 0, none⟩) un uc) d') := by
                    have hg := Nat.le_trans HB7.out.1 hBg
                    exact ⟨(HB.out.1.setCell hg _).setCell hg _, d', hp.trans hp', hO'⟩
                  generalize d[m]?.getD 0 = xm at *
                  generalize d[k]?.getD 0 = xk at *
                  clear hp' hO' hme hp hOw hrow HB hBg hdl hr
                  go_wp2
                  exact ⟨⟨k + 1, by go_num, by omega, by omega, HF⟩, by simp [intOf]; omega⟩
                · obtain ⟨r, hr⟩ : ∃ r : Nat, q = (r : Int) := ⟨q.toNat, by omega⟩
                  have hr9 : (r : Int) ≤ 9223372036854775807 := by omega
                  have hm : r % un < un := Nat.mod_lt _ (by omega)
                  obtain ⟨hck, hcm, hfk, hfm, d', hp', hO'⟩ := row_swap hrow hdl c2 hm
                  obtain ⟨y, hcy⟩ := row_put hrow hdl c2 hm (.int .i64 (d[r % un]?.getD 0))
                  obtain ⟨m, hme⟩ : ∃ m, r % un = m := ⟨_, rfl⟩
                  have e3 : q.tmod (un : Int) = (m : Int) := by rw [hr, ← hme]; exact Int.ofNat_tmod r un
                  rw [hme] at hm hcm hfm hO' hcy
                  have hm' : (m : Int) < (un : Int) := by omega
                  have HF : Hid (Below W1.heap.size W1 ((wo.setCell ⟨g, k, none⟩ (.int .i64 (d[m]?.getD 0))).setCell ⟨g, m, none⟩ (.int .i64 (d[k]?.getD 0))) ∧ ∃ d', List.Perm (intsU (units s)) d' ∧ OwnI0 ((wo.setCell ⟨g, k, none⟩ (.int .i64 (d[m]?.getD 0))).setCell ⟨g, m, none⟩ (.int .i64 (d[k]?.getD 0))) B (.slice (some ⟨g, 0, none⟩) un uc) d') := by
                    have hg := Nat.le_trans HB7.out.1 hBg
                    exact ⟨(HB.out.1.setCell hg _).setCell hg _, d', hp.trans hp', hO'⟩
                  generalize d[m]?.getD 0 = xm at *
                  generalize d[k]?.getD 0 = xk at *
                  clear hp' hO' hme hp hOw hrow HB hBg hdl hr
                  go_wp2
                  exact ⟨⟨k + 1, by go_num, by omega, by omega, HF⟩, by simp [intOf]; omega⟩
              · have c2' : ¬ (k : Int) < (un : Int) := by omega
                obtain ⟨d, hp, hOw⟩ := HB.out.2
                have hdl : d.length = un := by rw [← HS2.out.2]; exact hp.length_eq.symm
                have hIw : Ints wo (.slice ua un uc) d := hOw.ir.ints
                have HJ : Hid (∀ W, Below wo.heap.size wo W → Calls Tryz.prog 10 #[.slice ua un uc] W fun e w' => e = .returned (JoinRes (joinB d)) ∧ Below W.heap.size W w') := fun W hb => rjoin_any _ d W (hIw.below hb (Nat.le_refl _)) (by omega)
                have HP : Hid (Calls Tryz.prog 9 #[.slice ua un uc] wo fun e w' => e = .returned (.bool (properB d)) ∧ Below wo.heap.size wo w') := by
                  have := rproper_any _ d wo hIw (by omega)
                  exact this
                obtain ⟨P, hP⟩ : ∃ P, properB d = P := ⟨_, rfl⟩
                have HPP : Hid (properB d = P ∧ List.Perm (intsU (units s)) d) := ⟨hP, hp⟩
                rw [hP] at HP
                clear hP hIw hdl hOw hp
                go_wp2_with fail
                refine HP.out.mono ?_
                rintro e w9 ⟨rfl, hb9⟩
                have HB9 : Hid (Below W1.heap.size W1 w9) := HB.out.1.trans (hb9.mono HB.out.1.size)
                have h9 := H.out.2.2 w9 HB9.out
                have x9 := h9.1
                have HF : Hid (Below w.heap.size w w9) := h9.2
                cases P with
                | false =>
                  clear hb9 h9 HP HJ HB
                  go_wp2
                  go_ret
                  exact ⟨rfl, HF.out⟩
                | true =>
                  obtain ⟨t, ht1, ht2⟩ := proper_some HPP.out.1
                  have hj9 := HJ.out w9 hb9
                  rw [ht1] at hj9
                  have HJ9 : Hid (Calls Tryz.prog 10 #[.slice ua un uc] w9 fun e w' => e = .returned (.tuple #[.string ⟨t.toArray⟩, .int .i64 0]) ∧ Below w9.heap.size w9 w') := hj9
                  have HT : Hid (List.Perm (intsU (units s)) (intsU (units ⟨t.toArray⟩))) := by rw [ht2]; exact HPP.out.2
                  clear hb9 h9 HP HJ HB hj9 ht1 ht2
                  generalize (⟨t.toArray⟩ : ByteArray) = T at *
                  go_wp2_with fail
                  refine HJ9.out.mono ?_
                  rintro e w10 ⟨rfl, hb10⟩
                  have HB10 : Hid (Below W1.heap.size W1 w10) := HB9.out.trans (hb10.mono HB9.out.size)
                  have h10 := H.out.2.2 w10 HB10.out
                  have x10 := h10.1
                  have p10 := H.out.2.1 w10 h10.2
                  have HC : Hid (Calls Tryz.prog 6 #[.agg #[.slice va vn vc], .string T] w10 (SureQ w10 rs T)) := sure_any _ rs T w10 p10.2.1 p10.1
                  clear hb10 h10 p10 HJ9 x9
                  go_wp2_with fail
                  refine HC.out.mono ?_
                  rintro e w11 ⟨b', c', rfl, hs, hb11⟩
                  obtain ⟨rfl, rfl⟩ := sure_perm HS1.out hs HT.out
                  have HF2 : Hid (Below w.heap.size w w11) := (H.out.2.2 w11 (HB10.out.trans (hb11.mono HB10.out.size))).2
                  clear hs hb11 HC x10 HS1
                  go_wp2
                  go_ret
                  exact ⟨rfl, HF2.out⟩
            · have c1' : ¬ (k : Int) < (on : Int) := by omega
              obtain ⟨d, hp, hOw⟩ := HB.out.2
              have hdl : d.length = un := by rw [← HS2.out.2]; exact hp.length_eq.symm
              have hIw : Ints wo (.slice ua un uc) d := hOw.ir.ints
              have HJ : Hid (∀ W, Below wo.heap.size wo W → Calls Tryz.prog 10 #[.slice ua un uc] W fun e w' => e = .returned (JoinRes (joinB d)) ∧ Below W.heap.size W w') := fun W hb => rjoin_any _ d W (hIw.below hb (Nat.le_refl _)) (by omega)
              have HP : Hid (Calls Tryz.prog 9 #[.slice ua un uc] wo fun e w' => e = .returned (.bool (properB d)) ∧ Below wo.heap.size wo w') := by
                have := rproper_any _ d wo hIw (by omega)
                exact this
              obtain ⟨P, hP⟩ : ∃ P, properB d = P := ⟨_, rfl⟩
              have HPP : Hid (properB d = P ∧ List.Perm (intsU (units s)) d) := ⟨hP, hp⟩
              rw [hP] at HP
              clear hP hIw hdl hOw hp
              go_wp2_with fail
              refine HP.out.mono ?_
              rintro e w9 ⟨rfl, hb9⟩
              have HB9 : Hid (Below W1.heap.size W1 w9) := HB.out.1.trans (hb9.mono HB.out.1.size)
              have h9 := H.out.2.2 w9 HB9.out
              have x9 := h9.1
              have HF : Hid (Below w.heap.size w w9) := h9.2
              cases P with
              | false =>
                clear hb9 h9 HP HJ HB
                go_wp2
                go_ret
                exact ⟨rfl, HF.out⟩
              | true =>
                obtain ⟨t, ht1, ht2⟩ := proper_some HPP.out.1
                have hj9 := HJ.out w9 hb9
                rw [ht1] at hj9
                have HJ9 : Hid (Calls Tryz.prog 10 #[.slice ua un uc] w9 fun e w' => e = .returned (.tuple #[.string ⟨t.toArray⟩, .int .i64 0]) ∧ Below w9.heap.size w9 w') := hj9
                have HT : Hid (List.Perm (intsU (units s)) (intsU (units ⟨t.toArray⟩))) := by rw [ht2]; exact HPP.out.2
                clear hb9 h9 HP HJ HB hj9 ht1 ht2
                generalize (⟨t.toArray⟩ : ByteArray) = T at *
                go_wp2_with fail
                refine HJ9.out.mono ?_
                rintro e w10 ⟨rfl, hb10⟩
                have HB10 : Hid (Below W1.heap.size W1 w10) := HB9.out.trans (hb10.mono HB9.out.size)
                have h10 := H.out.2.2 w10 HB10.out
                have x10 := h10.1
                have p10 := H.out.2.1 w10 h10.2
                have HC : Hid (Calls Tryz.prog 6 #[.agg #[.slice va vn vc], .string T] w10 (SureQ w10 rs T)) := sure_any _ rs T w10 p10.2.1 p10.1
                clear hb10 h10 p10 HJ9 x9
                go_wp2_with fail
                refine HC.out.mono ?_
                rintro e w11 ⟨b', c', rfl, hs, hb11⟩
                obtain ⟨rfl, rfl⟩ := sure_perm HS1.out hs HT.out
                have HF2 : Hid (Below w.heap.size w w11) := (H.out.2.2 w11 (HB10.out.trans (hb11.mono HB10.out.size))).2
                clear hs hb11 HC x10 HS1
                go_wp2
                go_ret
                exact ⟨rfl, HF2.out⟩
        · have hsI : (2000 : Int) < (s.size : Int) := by omega
          have HF : Hid (Below w.heap.size w wc) := (H.out.2.2 wc HBC.out).2
          go_wp2
          go_ret
          exact ⟨rfl, HF.out⟩
      · have d1 : (e1 != 0) = true := by simpa using e1z
        have HF : Hid (Below w.heap.size w wc) := (H.out.2.2 wc HBC.out).2
        go_wp2
        go_ret
        exact ⟨rfl, HF.out⟩
end Go.Proofs
namespace Go.Proofs.YtcfcjljapamcoabGreatDoor
open Go.ChangeShapes Go.WideShapes Go.ChangeAt Go.RowKit Go.WideMaps Go.WideElems Go.Deep
set_option maxRecDepth 100000
variable {H : Type} {enc : TypeId × Value → H} {W : World}
theorem cells39 : Tryz.prog.cellsOf 39 = 1 := by kernel_rfl
theorem cells58 : Tryz.prog.cellsOf 58 = 4 := by kernel_rfl
theorem cells56 : Tryz.prog.cellsOf 56 = 1 := by kernel_rfl
theorem cells59 : Tryz.prog.cellsOf 59 = 1 := by kernel_rfl
theorem cells61 : Tryz.prog.cellsOf 61 = 7 := by kernel_rfl
theorem cells22 : Tryz.prog.cellsOf 22 = 1 := by kernel_rfl
theorem cells24 : Tryz.prog.cellsOf 24 = 1 := by kernel_rfl
theorem cells4 : Tryz.prog.cellsOf 4 = 1 := by kernel_rfl
theorem bulk_pos {H : Type} (d : DataW H) : 1 ≤ Rows.uptoBulk d := by
  cases d with
  | lit l => cases l <;> simp [Rows.uptoBulk]
  | _ => simp [Rows.uptoBulk]
theorem bulk_len {H : Type} : ∀ l : List (DataW H), l.length ≤ Rows.uptoBulkAll l
  | [] => by simp [Rows.uptoBulkAll]
  | d :: r => by
    have h1 := bulk_pos d
    have h2 := bulk_len r
    simp only [List.length_cons, Rows.uptoBulkAll]
    omega
theorem bulk_mem {H : Type} : ∀ (l : List (DataW H)) (d : DataW H), d ∈ l → Rows.uptoBulk d ≤ Rows.uptoBulkAll l
  | [], d, h => by cases h
  | e :: r, d, h => by
    simp only [Rows.uptoBulkAll]
    rcases List.mem_cons.1 h with rfl | h
    · omega
    · have := bulk_mem r d h
      omega
/-- a slice, element by element -/
theorem slice_read {α : Type} [Inhabited α] {t e : TypeId} {s : Nat} (ht : Tryz.prog.underlying t = some (.slice e)) (hs : Tryz.prog.cellsOf e = s) (hpos : 0 < s) (R : List Value → DataW H → α → Prop)
    (hR : ∀ n cs x, DataW.trod enc Tryz.prog W 0 (fun _ => true) true n e cs = some x → ∃ y, R cs x.1 y) {fuel : Nat} {cs : List Value} {x : DataW H × List MemPlace} (hf : DataW.trod enc Tryz.prog W 0 (fun _ => true) true fuel t cs = some x) :
    ∃ (a : Option Addr) (cap : Nat) (l : List α), cs = [.slice a l.length cap] ∧ l.length ≤ cap ∧ l.length ≤ maxLen ∧ l.length ≤ Rows.uptoBulk x.1 ∧ (l = [] ∨ ∃ g o, a = some ⟨g, o, none⟩ ∧ ∀ (j : Nat) (hj : j < l.length), ∃ cs' d, cs'.length = s ∧ R cs' d l[j] ∧ Rows.uptoBulk d ≤ Rows.uptoBulk x.1 ∧ ∀ i v, cs'[i]? = some v → W.cell? ⟨g, o + j * s + i, none⟩ = some v) := by
  rcases open_slice ht hf with ⟨hcs, hx⟩ | ⟨a, len, cap, m, n, D, Pl, hcs, _, hl, hml, hm, hx, hcell⟩
  · exact ⟨none, 0, [], by rw [hcs]; rfl, Nat.le_refl _, by simp, by simp, .inl rfl⟩
  · simp only [if_true] at hm
    subst hm
    rw [hs] at hcell
    have each : ∀ i, i < len → ∃ y : α, ∃ cs', cs'.length = s ∧ R cs' (D i) y ∧ ∀ k v, cs'[k]? = some v → W.cell? (a.add (i * s + k)) = some v := by
      intro i hi
      obtain ⟨cs', h1, h2⟩ := hcell i (by omega)
      obtain ⟨_, hlen, hc⟩ := World.cells?_some h1
      obtain ⟨y, hy⟩ := hR _ _ _ h2
      refine ⟨y, cs', hlen, hy, fun k v hv => ?_⟩
      have hk := (List.getElem?_eq_some_iff.1 hv).1
      have := hc k (by omega)
      rw [add_add] at this
      rw [this]
      exact hv
    obtain ⟨q, hq⟩ := choose_lt each
    have hlen : ((List.range len).map q).length = len := by simp
    have hbulk : ∀ i, i < len → Rows.uptoBulk (D i) ≤ Rows.uptoBulk x.1 := fun i hi => by
      rw [hx]
      simp only [Rows.uptoBulk]
      have := bulk_mem ((List.range len).map D) (D i) (List.mem_map.2 ⟨i, by simpa using hi, rfl⟩)
      omega
    have hbl : len ≤ Rows.uptoBulk x.1 := by
      rw [hx]
      simp only [Rows.uptoBulk]
      have := bulk_len ((List.range len).map D)
      simp only [List.length_map, List.length_range] at this
      omega
    refine ⟨some a, m, (List.range len).map q, by rw [hlen, hcs], by rw [hlen]; exact hl, by rw [hlen]; exact Nat.le_trans hl hml, by rw [hlen]; exact hbl, ?_⟩
    by_cases h0 : len = 0
    · exact .inl (by rw [h0]; rfl)
    · obtain ⟨b, off, spot⟩ := a
      have hspot : spot = none := by
        obtain ⟨cs', h1, h2, h3⟩ := hq 0 (by omega)
        have hlt : 0 < cs'.length := by omega
        have := h3 0 cs'[0] (List.getElem?_eq_getElem hlt)
        simpa [Addr.add] using World.cell?_spot this
      subst hspot
      refine .inr ⟨b, off, rfl, fun j hj => ?_⟩
      rw [hlen] at hj
      obtain ⟨cs', h1, h2, h3⟩ := hq j hj
      refine ⟨cs', D j, h1, by simpa using h2, hbulk j hj, fun i v hv => ?_⟩
      have := h3 i v hv
      rw [Addr.add_lit] at this
      rw [Nat.add_assoc]
      exact this
/-- a set that came in -/
theorem set_read {fuel : Nat} {cs : List Value} {x : DataW H × List MemPlace} (hf : DataW.trod enc Tryz.prog W 0 (fun _ => true) true fuel 39 cs = some x) : ∃ v l, cs = [v] ∧ Rs W v l ∧ l.length ≤ Rows.uptoBulk x.1 := by
  obtain ⟨a, cap, l, hcs, h1, _, hb, h2⟩ := slice_read Tryz.underlying39 cells55 (by decide) (fun cs _ (p : Int × Int) => cs = [.int .i64 p.1, .int .i64 p.2]) (fun n cs x h => by
    obtain ⟨xs, k, hk, hxy, hcl, hxl, hff⟩ := DataW.trod_struct Tryz.underlying55 h
    rw [cells55] at hcl
    match xs, hxl, cs, hcl with
    | [y0, y1], _, [v0, v1], _ =>
      have g0 := hff 0 _ rfl
      have g1 := hff 1 _ rfl
      simp [cells3] at g0 g1
      obtain ⟨n0, e0, _, _⟩ := DataW.trod_int Tryz.underlying3 g0
      obtain ⟨n1, e1, _, _⟩ := DataW.trod_int Tryz.underlying3 g1
      simp only [List.cons.injEq, and_true] at e0 e1
      subst e0 e1
      exact ⟨(n0, n1), rfl⟩) hf
  refine ⟨_, l, hcs, ⟨a, cap, rfl, h1, h2.imp id ?_⟩, hb⟩
  rintro ⟨g, o, rfl, h⟩
  refine ⟨g, o, rfl, fun j hj => ?_⟩
  obtain ⟨cs', _, _, rfl, _, h3⟩ := h j hj
  rw [rg_lt hj]
  exact ⟨h3 0 _ rfl, h3 1 _ rfl⟩
/-- a row of sets that came in -/
theorem row_read {fuel : Nat} {cs : List Value} {x : DataW H × List MemPlace} (hf : DataW.trod enc Tryz.prog W 0 (fun _ => true) true fuel 56 cs = some x) : ∃ v ls, cs = [v] ∧ SR W v ls ∧ ls.length ≤ Rows.uptoBulk x.1 ∧ ∀ l ∈ ls, l.length ≤ Rows.uptoBulk x.1 := by
  obtain ⟨a, cap, l, hcs, h1, _, hb, h2⟩ := slice_read Tryz.underlying56 cells39 (by decide) (fun cs d (l : List (Int × Int)) => ∃ v, cs = [v] ∧ Rs W v l ∧ l.length ≤ Rows.uptoBulk d) (fun n cs x h => by
    obtain ⟨v, l, e, h1, h2⟩ := set_read h
    exact ⟨l, v, e, h1, h2⟩) hf
  refine ⟨_, l, hcs, ⟨a, cap, rfl, h1, h2.imp id ?_⟩, hb, ?_⟩
  · rintro ⟨g, o, rfl, h⟩
    refine ⟨g, o, rfl, fun j hj => ?_⟩
    obtain ⟨cs', _, _, ⟨v, rfl, hv, _⟩, _, h3⟩ := h j hj
    have := h3 0 v rfl
    rw [Nat.mul_one] at this
    exact ⟨v, this, hv⟩
  · intro y hy
    rcases h2 with rfl | ⟨g, o, _, h⟩
    · cases hy
    · obtain ⟨j, hj, rfl⟩ := List.getElem_of_mem hy
      obtain ⟨cs', d, _, ⟨v, _, _, h4⟩, h5, _⟩ := h j hj
      omega
/-- a row of pieces that came in -/
theorem pieces_read {fuel : Nat} {cs : List Value} {x : DataW H × List MemPlace} (hf : DataW.trod enc Tryz.prog W 0 (fun _ => true) true fuel 59 cs = some x) : ∃ v ps, cs = [v] ∧ PR W v ps ∧ ps.length ≤ Rows.uptoBulk x.1 ∧ ∀ p ∈ ps, p.tl.length ≤ Rows.uptoBulk x.1 := by
  obtain ⟨a, cap, l, hcs, h1, _, hb, h2⟩ := slice_read Tryz.underlying59 cells58 (by decide) (fun cs d (p : Pc) => ∃ v, cs = [.int .i64 p.k, .int .i64 p.u, .int .i64 p.y, v] ∧ Rs W v p.tl ∧ p.tl.length ≤ Rows.uptoBulk d) (fun n cs x h => by
    obtain ⟨xs, k, hk, hxy, hcl, hxl, hff⟩ := DataW.trod_struct Tryz.underlying58 h
    rw [cells58] at hcl
    match xs, hxl, cs, hcl with
    | [y0, y1, y2, y3], _, [v0, v1, v2, v3], _ =>
      have g0 := hff 0 _ rfl
      have g1 := hff 1 _ rfl
      have g2 := hff 2 _ rfl
      have g3 := hff 3 _ rfl
      simp [cells3, cells39] at g0 g1 g2 g3
      obtain ⟨n0, e0, _, _⟩ := DataW.trod_int Tryz.underlying3 g0
      obtain ⟨n1, e1, _, _⟩ := DataW.trod_int Tryz.underlying3 g1
      obtain ⟨n2, e2, _, _⟩ := DataW.trod_int Tryz.underlying3 g2
      obtain ⟨v, l, e3, h3, h4⟩ := set_read g3
      simp only [List.cons.injEq, and_true] at e0 e1 e2 e3
      subst e0 e1 e2 e3
      refine ⟨⟨n0, n1, n2, l⟩, v3, rfl, h3, Nat.le_trans h4 ?_⟩
      rw [hxy]
      simp only [List.map_cons, List.map_nil, Rows.uptoBulk, Rows.uptoBulkAll]
      omega) hf
  refine ⟨_, l, hcs, ⟨a, cap, rfl, h1, h2.imp id ?_⟩, hb, ?_⟩
  · rintro ⟨g, o, rfl, h⟩
    refine ⟨g, o, rfl, fun j hj => ?_⟩
    obtain ⟨cs', _, _, ⟨v, rfl, hv, _⟩, _, h3⟩ := h j hj
    exact ⟨v, h3 0 _ rfl, h3 1 _ rfl, h3 2 _ rfl, h3 3 _ rfl, hv⟩
  · intro y hy
    rcases h2 with rfl | ⟨g, o, _, h⟩
    · cases hy
    · obtain ⟨j, hj, rfl⟩ := List.getElem_of_mem hy
      obtain ⟨cs', d, _, ⟨v, _, _, h4⟩, h5, _⟩ := h j hj
      omega
/-- a rule that came in -/
theorem rule_read {fuel : Nat} {cs : List Value} {x : DataW H × List MemPlace} (hf : DataW.trod enc Tryz.prog W 0 (fun _ => true) true fuel 61 cs = some x) : ∃ av kv pv rv r, cs = [.bool r.bg, av, kv, pv, .bool r.en, rv, .int .i64 r.cu] ∧ RR W av kv pv rv r ∧ Small r (Rows.uptoBulk x.1) := by
  obtain ⟨xs, k, hk, hxy, hcl, hxl, hff⟩ := DataW.trod_struct Tryz.underlying61 hf
  rw [cells61] at hcl
  match xs, hxl, cs, hcl with
  | [y0, y1, y2, y3, y4, y5, y6], _, [v0, v1, v2, v3, v4, v5, v6], _ =>
    have g0 := hff 0 _ rfl
    have g1 := hff 1 _ rfl
    have g2 := hff 2 _ rfl
    have g3 := hff 3 _ rfl
    have g4 := hff 4 _ rfl
    have g5 := hff 5 _ rfl
    have g6 := hff 6 _ rfl
    simp [cells3, cells4, cells56, cells59] at g0 g1 g2 g3 g4 g5 g6
    obtain ⟨b0, e0, _⟩ := DataW.trod_bool Tryz.underlying4 g0
    obtain ⟨w1, l1, e1, k1, m1, n1⟩ := row_read g1
    obtain ⟨w2, l2, e2, k2, m2, n2⟩ := row_read g2
    obtain ⟨w3, l3, e3, k3, m3, n3⟩ := row_read g3
    obtain ⟨b4, e4, _⟩ := DataW.trod_bool Tryz.underlying4 g4
    obtain ⟨w5, l5, e5, k5, m5, n5⟩ := pieces_read g5
    obtain ⟨c6, e6, _, _⟩ := DataW.trod_int Tryz.underlying3 g6
    simp only [List.cons.injEq, and_true] at e0 e1 e2 e3 e4 e5 e6
    subst e0 e1 e2 e3 e4 e5 e6
    have q : Rows.uptoBulk y1.1 + Rows.uptoBulk y2.1 + Rows.uptoBulk y3.1 + Rows.uptoBulk y5.1 ≤ Rows.uptoBulk x.1 := by
      rw [hxy]
      simp only [List.map_cons, List.map_nil, Rows.uptoBulk, Rows.uptoBulkAll]
      omega
    refine ⟨v1, v2, v3, v5, ⟨b0, b4, c6, l1, l2, l3, l5⟩, rfl, ⟨k1, k2, k3, k5⟩, ⟨by show l1.length ≤ _; omega, fun l hl => ?_, by show l2.length ≤ _; omega, fun l hl => ?_, by show l3.length ≤ _; omega, fun l hl => ?_, by show l5.length ≤ _; omega, fun l hl => ?_⟩⟩
    · have := n1 l hl; omega
    · have := n2 l hl; omega
    · have := n3 l hl; omega
    · have := n5 l hl; omega
noncomputable instance : Inhabited Rl := ⟨⟨false, false, 0, [], [], [], []⟩⟩
/-- a pass that came in -/
theorem pass_read {fuel : Nat} {cs : List Value} {x : DataW H × List MemPlace} (hf : DataW.trod enc Tryz.prog W 0 (fun _ => true) true fuel 24 cs = some x) : ∃ v rs, cs = [v] ∧ PsR W v rs ∧ rs.length ≤ Rows.uptoBulk x.1 ∧ ∀ r ∈ rs, Small r (Rows.uptoBulk x.1) := by
  obtain ⟨xs, k, hk, hxy, hcl, hxl, hff⟩ := DataW.trod_struct Tryz.underlying24 hf
  rw [cells24] at hcl
  match xs, hxl, cs, hcl with
  | [y0], _, [v0], _ =>
    have g0 := hff 0 _ rfl
    simp [cells22] at g0
    obtain ⟨a, cap, l, hcs, h1, hm, hb, h2⟩ := slice_read Tryz.underlying22 cells61 (by decide) (fun cs d (r : Rl) => ∃ av kv pv rv, cs = [.bool r.bg, av, kv, pv, .bool r.en, rv, .int .i64 r.cu] ∧ RR W av kv pv rv r ∧ Small r (Rows.uptoBulk d)) (fun n cs x h => by
      obtain ⟨av, kv, pv, rv, r, e, h1, h2⟩ := rule_read h
      exact ⟨r, av, kv, pv, rv, e, h1, h2⟩) g0
    have hbk : Rows.uptoBulk y0.1 ≤ Rows.uptoBulk x.1 := by
      rw [hxy]
      simp only [List.map_cons, List.map_nil, Rows.uptoBulk, Rows.uptoBulkAll]
      omega
    have each : ∀ r ∈ l, Small r (Rows.uptoBulk x.1) := fun r hr => by
      rcases h2 with rfl | ⟨g, o, _, h⟩
      · cases hr
      · obtain ⟨j, hj, rfl⟩ := List.getElem_of_mem hr
        obtain ⟨cs', d, _, ⟨_, _, _, _, _, _, hs⟩, h5, _⟩ := h j hj
        exact hs.mono (Nat.le_trans h5 hbk)
    simp only [List.cons.injEq, and_true] at hcs
    subst hcs
    refine ⟨_, l, rfl, ⟨a, cap, rfl, h1, h2.imp id ?_⟩, Nat.le_trans hb hbk, each⟩
    rintro ⟨g, o, rfl, h⟩
    refine ⟨g, o, rfl, fun j hj => ?_⟩
    obtain ⟨cs', _, _, ⟨av, kv, pv, rv, rfl, hR, _⟩, _, h3⟩ := h j hj
    exact ⟨av, kv, pv, rv, h3 0 _ rfl, h3 1 _ rfl, h3 2 _ rfl, h3 3 _ rfl, h3 4 _ rfl, h3 5 _ rfl, h3 6 _ rfl, hR⟩
/-- numbers that came in, and how great they are -/
theorem ints_read2 {fuel : Nat} {cs : List Value} {x : DataW H × List MemPlace} (hf : DataW.trod enc Tryz.prog W 0 (fun _ => true) true fuel 25 cs = some x) : ∃ v l, cs = [v] ∧ IR W v l ∧ l.length ≤ maxLen ∧ ∀ k ∈ l, -9223372036854775808 ≤ k ∧ k ≤ 9223372036854775807 := by
  obtain ⟨a, cap, l, hcs, h1, hm, _, h2⟩ := slice_read Tryz.underlying25 cells3 (by decide) (fun cs _ (n : Int) => cs = [.int .i64 n] ∧ (Lit.int .i64 n).wf = true) (fun n cs x h => by
    obtain ⟨n0, e0, _, hw⟩ := DataW.trod_int Tryz.underlying3 h
    exact ⟨n0, e0, hw⟩) hf
  refine ⟨_, l, hcs, ⟨a, cap, rfl, h1, h2.imp id ?_⟩, hm, fun k hk => ?_⟩
  · rintro ⟨g, o, rfl, h⟩
    refine ⟨g, o, rfl, fun j hj => ?_⟩
    obtain ⟨cs', _, _, ⟨rfl, _⟩, _, h3⟩ := h j hj
    have := h3 0 _ rfl
    rwa [Nat.mul_one] at this
  · rcases h2 with rfl | ⟨g, o, _, h⟩
    · cases hk
    · obtain ⟨j, hj, rfl⟩ := List.getElem_of_mem hk
      obtain ⟨cs', _, _, ⟨_, hw⟩, _⟩ := h j hj
      simp only [Lit.wf, IntKind.min, IntKind.max, IntKind.signed, IntKind.bits, Bool.and_eq_true, decide_eq_true_eq, if_true] at hw
      omega
theorem laidOut : laidOutB Tryz.prog = true := by kernel_rfl
end Go.Proofs.YtcfcjljapamcoabGreatDoor
