/-
  UtfPieces answers true for every two texts of together at most 2 to the 42 bytes.
-/
import Derived.RangeFuncNested
import Derived.RangeFuncBound
import Derived.RangeFuncCalls
import Derived.RangeFuncLeaves
import Derived.Shelf.Abstract
import Derived.Shelf.RegionOpen
import Derived.WalkKit
import Derived.WalkSpells
import Derived.WalkLawsBesides
import Derived.OwnWalkIn
import Derived.TacticsInMore
import Derived.LoopNIn
import Derived.LoopIn
import Derived.BigQuiet
import Derived.RegionIn
import Derived.Deep.QuietTactic
import Derived.Lib.OthersKept
import Derived.Maps.AppendAt
import Derived.Lib.SmallJoins
import Derived.Lib.IndexBytes
import Derived.Test.YtahifnjompmcbabDoorSa
import Derived.Test.YtahifnjompmcbabDoorMd
import Derived.Laws.AppendOwnNone
import Derived.Test.YtahifnjompmcbabDoorUh
namespace Go.Proofs
open Go.RowKit Go.Shelf

set_option maxRecDepth 100000
attribute [local go_sem] Oper.semAt_some
/-! UtfPieces -/
theorem row_below {W W' : World} {base : Nat} {e : TypeId} {v : Value} {k : Nat} {xs : List Value} (h : W.ownsRow base e 1 v k xs) (hb : Below W.heap.size W W') : W'.ownsRow base e 1 v k xs :=
  h.kept (grown_below hb) (by cases hv : v.ownBlock with | none => exact .inl rfl | some g => exact .inr (by simp))
theorem wpList_append_rows {ops : Array Oper} {rest : List Oper} {o : Oper} {a : Act} {Q : Exit → Act → World → Prop} {w : World} (hgd : o.guard = none) (s x : Operand) (t : TypeId)
    (ho : o.op = .call { callee := .builtin .append, args := #[s, x], argTypes := #[t, t] }) (ht : Tryd.prog.underlying t = some (.slice 3))
    (base base2 : Nat) (v v2 : Value) (n m : Nat) (xs ys : List Value) (hs : a.eval s = v) (hown : w.ownsRow base 3 1 v n xs) (hx : a.eval x = v2) (hsrc : w.ownsRow base2 3 1 v2 m ys) (h1 : ∀ u ∈ ys, u.oneCell' = true)
    (h63 : n + m ≤ maxLen) (hbytes : (n + m) * 8 ≤ 140737488355328) (hbase : base ≤ w.heap.size)
    (h : ∀ v' w', w'.ownsRow base 3 1 v' (n + m) (xs ++ ys) → w.grownBy w' v.ownBlock → wpList Tryd.prog ops Q rest (a.put o.dst v') w') : wpList Tryd.prog ops Q (o :: rest) a w := by
  obtain ⟨i0, hi, hz0, hz1, hz2⟩ := info_parts info3
  rcases Joins.ownsRow_forms hsrc with ⟨rfl, hm⟩ | ⟨g, cap, rfl⟩
  · subst hm
    obtain rfl : ys = [] := List.eq_nil_of_length_eq_zero (by simpa using hsrc.1)
    refine wpList_append_own_none hgd s x t ho base 3 i0 1 ht hi v n xs hs hown hx (h v w (by simpa using hown) ⟨rfl, rfl, rfl, Nat.le_refl _, fun _ _ _ => rfl⟩)
  · exact wpList_append_own w hgd s x t ho base 3 i0 (.int .i64 0) 1 8 ht hi hz0 hz1 hz2 rfl (by decide) v n xs hs hown ⟨g, 0, none⟩ m cap ys hx (by simpa using hsrc.1) (fun j u hj => hsrc.cells rfl j u hj) h1 h63 hbytes hbase (fun v' w' a1 a2 _ => h v' w' a1 a2)
theorem bya_ext {x y : ByteArray} (h : x.data.toList = y.data.toList) : x = y := by
  cases x; cases y; congr 1; exact Array.toList_inj.1 h
def xOf (a : ByteArray) : ByteArray := if 3 < a.size then a.extract (a.size - 3) a.size else a
def yOf (b : ByteArray) : ByteArray := if 3 < b.size then b.extract 0 3 else b
theorem xOf_list (a : ByteArray) : (xOf a).data.toList = a.data.toList.drop (a.size - 3) := by
  unfold xOf; split
  · rw [Lib.extract_to_end]
  · rw [show a.size - 3 = 0 by omega]; rfl
theorem yOf_list (b : ByteArray) : (yOf b).data.toList = b.data.toList.take 3 := by
  unfold yOf; split
  · rw [Lib.extract_data]; rfl
  · rw [List.take_of_length_le (by rw [← Lib.size_eq]; omega)]
theorem xy_eq (a b : ByteArray) : xOf a ++ yOf b = (a ++ b).extract (a.size - 3) (min (a ++ b).size (a.size + 3)) := by
  have hz := ByteArray.size_append (a := a) (b := b)
  have la := Lib.size_eq a
  have lb := Lib.size_eq b
  refine bya_ext ?_
  rw [Lib.extract_data, ByteArray.toList_data_append, ByteArray.toList_data_append, xOf_list, yOf_list, List.drop_append_of_le_length (by omega), List.take_append]
  congr 1
  · rw [List.take_of_length_le (by rw [List.length_drop]; omega)]
  · rw [List.length_drop]
    by_cases h : b.size ≤ 3
    · rw [List.take_of_length_le (by omega), List.take_of_length_le (by omega)]
    · congr 1; omega
theorem xOf_size (a : ByteArray) : (xOf a).size = a.size - (a.size - 3) := by rw [Lib.size_eq, xOf_list, List.length_drop, ← Lib.size_eq]
theorem pieces_border (a b : ByteArray) : borderU (xOf a ++ yOf b) (xOf a).size = borderU (a ++ b) a.size := by
  have hz := ByteArray.size_append (a := a) (b := b)
  rw [Bool.eq_iff_iff, border_iff _ _ (by rw [ByteArray.size_append]; omega), border_iff _ _ (by omega), xy_eq, xOf_size]
  exact bord_local (a ++ b) a.size (by omega)
def ints (l : List (Nat × Nat)) : List Int := l.map fun x => (x.2 : Int)
theorem us_ints (l : List (Nat × Nat)) : us l = (ints l).map (Value.int .i64) := by simp [us, ints]
theorem pieces_same (a b : ByteArray) : (ints (units a) ++ ints (units b) == ints (units (a ++ b))) = borderU (a ++ b) a.size := by
  have hz := ByteArray.size_append (a := a) (b := b)
  rw [Bool.eq_iff_iff, beq_iff_eq, border_iff _ _ (by omega), pieces_iff]
  have e : ∀ l : List (Nat × Nat), ints l = (nums l).map Int.ofNat := fun l => by simp [ints, nums]
  rw [e, e, e, ← List.map_append]
  exact List.map_inj_right (fun x y h => Int.ofNat.inj h)
theorem units_len_N (s : ByteArray) : ∀ k p, (unitsN s k p).length ≤ k
  | 0, _ => by simp [unitsN]
  | k + 1, p => by
    by_cases hp : p < s.size
    · rw [unitsN_step s k p hp, List.length_cons]; have := units_len_N s k (p + uw s p); omega
    · rw [unitsN_end s _ p hp]; simp
theorem oneCells (l : List (Nat × Nat)) : ∀ u ∈ us l, u.oneCell' = true := by
  intro u hu
  simp only [us, List.mem_map] at hu
  obtain ⟨x, _, rfl⟩ := hu
  rfl
theorem units_len (s : ByteArray) : (units s).length ≤ s.size := units_len_N s s.size 0
set_option maxHeartbeats 2000000 in
theorem pieces_any (a b : ByteArray) (w : World) (hs : a.size + b.size ≤ 4398046511104) (hT : Tab w) : Calls Tryd.prog 3 #[.string a, .string b] w fun e w' => e = .returned (.bool true) ∧ Below w.heap.size w w' := by
  have hz := ByteArray.size_append (a := a) (b := b)
  have la := units_len a
  have lb := units_len b
  have ls := units_len (a ++ b)
  obtain ⟨r, hr⟩ : ∃ r : Bool, borderU (a ++ b) a.size = r := ⟨_, rfl⟩
  have HS : Hid ((ints (units a) ++ ints (units b) == ints (units (a ++ b))) = r) := (pieces_same a b).trans hr
  have cB : Hid (∀ W : World, Calls Tryd.prog 7 #[.string (a ++ b), .int .i64 a.size] W fun e w' => e = .returned (.bool r) ∧ Below W.heap.size W w') := fun W => by have := border_in (a ++ b) a.size W (by omega) (by omega); rw [hr] at this; exact this
  have hxz : (xOf a).size ≤ a.size := by rw [xOf_size]; omega
  have hyz : (yOf b).size ≤ b.size := by rw [Lib.size_eq, yOf_list, List.length_take, ← Lib.size_eq]; omega
  have cX : Hid (∀ W : World, Calls Tryd.prog 7 #[.string (xOf a ++ yOf b), .int .i64 (xOf a).size] W fun e w' => e = .returned (.bool r) ∧ Below W.heap.size W w') := fun W => by have := border_in (xOf a ++ yOf b) (xOf a).size W (by rw [ByteArray.size_append]; omega) (by rw [ByteArray.size_append]; omega); rw [pieces_border, hr] at this; exact this
  clear hr hxz hyz
  go_enter Tryd.func3, Tryd.ntmps3
  go_wp2_with fail
  refine (shown_any _ hT).mono ?_
  rintro e w1 ⟨rfl, hB1⟩
  go_wp2_with fail
  refine (cB.out _).mono ?_
  rintro e w2 ⟨rfl, hb2⟩
  have hB2 : Below w.heap.size w w2 := hB1.trans (hb2.mono hB1.size)
  clear hb2 hB1
  go_wp2_with fail
  refine (cut_any a _ (by omega)).mono ?_
  rintro e w3 ⟨v1, rfl, o1, hb3⟩
  have hB3 : Below w.heap.size w w3 := hB2.trans (hb3.mono hB2.size)
  clear hb3
  go_wp2_with fail
  refine (cut_any b _ (by omega)).mono ?_
  rintro e w4 ⟨v2, rfl, o2, hb4⟩
  have o1' := row_below o1 hb4
  have hB4 : Below w.heap.size w w4 := hB3.trans (hb4.mono hB3.size)
  clear hb4 o1
  have r0 := World.ownsRow_lit (base := w4.heap.size) (e := 3) (size := 1) w4 #[] 0 (Nat.le_refl _) (by unfold maxLen; omega) rfl
  have ho2 : ∀ w5 : World, (w4.alloc (.cells #[] 3)).grownBy w5 (some w4.heap.size) → w5.ownsRow w3.heap.size 3 1 v2 (units b).length (us (units b)) := fun w5 hg => by
    refine (o2.alloc _).kept hg ?_
    cases hv : v2.ownBlock with
    | none => exact .inl rfl
    | some g =>
      have := (o2.lt g hv).2
      refine .inr (fun e => ?_)
      cases e
      omega
  have HO : Hid (∀ w5 : World, (w4.alloc (.cells #[] 3)).grownBy w5 (some w4.heap.size) → w5.ownsRow w3.heap.size 3 1 v2 (units b).length (us (units b))) := ho2
  clear ho2
  go_wp2_with (first | (at_builtin; refine wpList_append_rows rfl _ _ 24 rfl Tryd.underlying24 w4.heap.size w2.heap.size _ v1 _ _ _ _ rfl r0 rfl (o1'.alloc _) (oneCells _) (by unfold maxLen; omega) (by omega) (by rw [World.size_alloc]; omega) ?_; intro v3 w5 hv3 hg5; clear r0; have o2' := HO.out w5 hg5; have hB5 : Below w.heap.size w w5 := (hB4.alloc hB4.size _).grown hg5 (by rw [World.size_alloc]; have := hB4.size; omega) (fun j e => by cases e; exact hB4.size)) | (at_builtin; refine wpList_append_rows rfl _ _ 24 rfl Tryd.underlying24 w4.heap.size w3.heap.size _ v2 _ _ _ _ rfl hv3 rfl o2' (oneCells _) (by unfold maxLen; omega) (by omega) (by have := hg5.size; rw [World.size_alloc] at this; omega) ?_; intro v4 w6 hv4 hg6; have hB6 : Below w.heap.size w w6 := hB5.grown hg6 hB5.size (fun j e => Nat.le_trans hB4.size (hv3.lt j e).1); clear hv3 o2' hg6))
  clear o1' hg5 hB5
  refine (cut_any (a ++ b) _ (by omega)).mono ?_
  rintro e w7 ⟨v5, rfl, o5, hb7⟩
  have o4 := row_below hv4 hb7
  have hB7 : Below w.heap.size w w7 := hB6.trans (hb7.mono hB6.size)
  clear hb7 hv4
  have i4 : Ints w7 v4 (ints (units a) ++ ints (units b)) := Ints.of_row (base := w4.heap.size) (by
    rw [List.nil_append, Nat.zero_add, us_ints, us_ints, ← List.map_append] at o4
    rw [List.length_append, show (ints (units a)).length = (units a).length by simp [ints], show (ints (units b)).length = (units b).length by simp [ints]]
    exact o4)
  have i5 : Ints w7 v5 (ints (units (a ++ b))) := Ints.of_row (base := w6.heap.size) (by
    rw [us_ints] at o5
    rw [show (ints (units (a ++ b))).length = (units (a ++ b)).length by simp [ints]]
    exact o5)
  have hl : (ints (units a) ++ ints (units b)).length ≤ 1152921504606846976 := by simp [ints]; omega
  have cS : Hid (Calls Tryd.prog 9 #[v4, v5] w7 fun e w' => e = .returned (.bool r) ∧ ∃ q, w' = w7.drewN q) := by have := same_any v4 v5 _ _ w7 i4 i5 hl; rw [HS.out] at this; exact this
  clear i4 i5 hl o4 o5
  go_wp2_with fail
  refine cS.out.mono ?_
  rintro e w8 ⟨rfl, q8, rfl⟩
  have hB8 : Below w.heap.size w (w7.drewN q8) := below_drewN hB7 q8
  obtain ⟨w8, hw8⟩ : ∃ w8, w7.drewN q8 = w8 := ⟨_, rfl⟩
  rw [hw8] at hB8 ⊢
  clear hw8 cS
  unfold xOf yOf at cX
  by_cases ha : 3 < a.size <;> by_cases hb : 3 < b.size
  · have ha' : (3 : Int) < (a.size : Int) := by omega
    have hb' : (3 : Int) < (b.size : Int) := by omega
    rw [if_pos ha, if_pos hb] at cX
    rw [show (a.extract (a.size - 3) a.size).size = a.size - (a.size - 3) by rw [ByteArray.size_extract]; omega] at cX
    go_wp2_with fail
    refine (cX.out _).mono ?_
    rintro e w9 ⟨rfl, hb9⟩
    have hB9 : Below w.heap.size w w9 := hB8.trans (hb9.mono hB8.size)
    clear hb9 cX cB HS
    cases r <;> (go_wp2; go_ret; exact ⟨rfl, hB9⟩)
  · have ha' : (3 : Int) < (a.size : Int) := by omega
    have hb' : ¬ ((3 : Int) < (b.size : Int)) := by omega
    rw [if_pos ha, if_neg hb] at cX
    rw [show (a.extract (a.size - 3) a.size).size = a.size - (a.size - 3) by rw [ByteArray.size_extract]; omega] at cX
    go_wp2_with fail
    refine (cX.out _).mono ?_
    rintro e w9 ⟨rfl, hb9⟩
    have hB9 : Below w.heap.size w w9 := hB8.trans (hb9.mono hB8.size)
    clear hb9 cX cB HS
    cases r <;> (go_wp2; go_ret; exact ⟨rfl, hB9⟩)
  · have ha' : ¬ ((3 : Int) < (a.size : Int)) := by omega
    have hb' : (3 : Int) < (b.size : Int) := by omega
    rw [if_neg ha, if_pos hb] at cX
    go_wp2_with fail
    refine (cX.out _).mono ?_
    rintro e w9 ⟨rfl, hb9⟩
    have hB9 : Below w.heap.size w w9 := hB8.trans (hb9.mono hB8.size)
    clear hb9 cX cB HS
    cases r <;> (go_wp2; go_ret; exact ⟨rfl, hB9⟩)
  · have ha' : ¬ ((3 : Int) < (a.size : Int)) := by omega
    have hb' : ¬ ((3 : Int) < (b.size : Int)) := by omega
    rw [if_neg ha, if_neg hb] at cX
    go_wp2_with fail
    refine (cX.out _).mono ?_
    rintro e w9 ⟨rfl, hb9⟩
    have hB9 : Below w.heap.size w w9 := hB8.trans (hb9.mono hB8.size)
    clear hb9 cX cB HS
    cases r <;> (go_wp2; go_ret; exact ⟨rfl, hB9⟩)
end Go.Proofs
