/-
  Join makes the text of units, or tells that a number is none.
-/
import Derived.RangeFuncNested
import Derived.RangeFuncBound
import Derived.RangeFuncCalls
import Derived.RangeFuncLeaves
import Derived.Shelf.Abstract
import Derived.Shelf.RegionOpen
import Derived.WalkKit
import Derived.WalkSpells
import Derived.WalkLawsBesides
import Derived.OwnWalkIn
import Derived.TacticsInMore
import Derived.LoopNIn
import Derived.LoopIn
import Derived.BigQuiet
import Derived.RegionIn
import Derived.Deep.QuietTactic
import Derived.Lib.OthersKept
import Derived.Maps.AppendAt
import Derived.Lib.SmallJoins
import Derived.Lib.IndexBytes
import Derived.Test.YtahifnjompmcbaaDoorSa
import Derived.Test.YtahifnjompmcbaaDoorUs
import Derived.Lib.AppendStr
import Derived.Shelf.Strings.Builder1
import Derived.Test.YtahifnjompmcbaaDoorUh
namespace Go.Proofs
open Go.RowKit Go.Shelf

set_option maxRecDepth 100000
attribute [local go_sem] Oper.semAt_some
/-! the builder, and Join -/
theorem sizeB : (Tryd.prog.info? 61).map (·.size) = some 2 := by kernel_rfl
theorem liesB : liesAt Tryd.prog Tryd.prog.depth 61 (2 / Tryd.prog.cellsOf 61) 0 61 1 = true := by kernel_rfl
set_option maxHeartbeats 1000000 in
theorem check_used (b : Nat) (w : World) (h0 : w.cell? ⟨b, 0, none⟩ = some (.pointer (some ⟨b, 0, none⟩))) :
    Calls Tryd.prog 50 #[.pointer (some ⟨b, 0, none⟩)] w fun e w' => e = .returned (.tuple #[]) ∧ w' = w := by
  obtain ⟨j, hj, _⟩ := Option.map_eq_some_iff.1 sizeB
  have hne := fun W : World => Lib.run_neq_ptr_same (P := Tryd.prog) W ⟨b, 0, none⟩ Tryd.underlying59 hj
  go_enter Tryd.func50, Tryd.ntmps50
  go_wp2
  go_end0
  exact ⟨rfl, rfl⟩
set_option maxHeartbeats 1000000 in
theorem check_fresh (b : Nat) (w : World) (h0 : w.cell? ⟨b, 0, none⟩ = some (.pointer none)) (hsh : w.shape? b = some (61, 2)) (hfz : w.frozen? ⟨b, 0, none⟩ = false) :
    Calls Tryd.prog 50 #[.pointer (some ⟨b, 0, none⟩)] w fun e w' => e = .returned (.tuple #[]) ∧ w' = w.setCell ⟨b, 0, none⟩ (.pointer (some ⟨b, 0, none⟩)) := by
  obtain ⟨j, hj, hjs⟩ := Option.map_eq_some_iff.1 sizeB
  have hne := fun W : World => Lib.run_neq_ptr_same (P := Tryd.prog) W ⟨b, 0, none⟩ Tryd.underlying59 hj
  have hto := Lib.run_to_unsafe (P := Tryd.prog) w ⟨b, 0, none⟩ Tryd.underlying59 Tryd.underlying74 hj (by rw [hjs]; decide) hsh (Nat.zero_lt_succ 1)
  have hfr := Lib.run_from_unsafe (P := Tryd.prog) w ⟨b, 0, none⟩ Tryd.underlying74 Tryd.underlying59 hj hsh liesB
  have hno : (callFunc 52 #[.pointer (some ⟨b, 0, none⟩)]).run Tryd.prog w = .ok (.value (.pointer (some ⟨b, 0, none⟩))) w := by
    rw [run_callFunc_extern Tryd.func52 (by kernel_rfl) (by kernel_rfl) (by kernel_rfl) (e := Extern.AbiNoEscape.same) (by kernel_rfl), Lib.run_noEscape]
    rfl
  go_enter Tryd.func50, Tryd.ntmps50
  go_wp2
  go_end0
  exact ⟨rfl, rfl⟩
theorem check_any (B b : Nat) (bs : List Value) (w : World) (h : Lib.IsBuilder 61 5 B b bs w) :
    Calls Tryd.prog 50 #[.pointer (some ⟨b, 0, none⟩)] w fun e w' => e = .returned (.tuple #[]) ∧ (Lib.BuilderAt 61 5 B b (.pointer (some ⟨b, 0, none⟩)) bs w' ∧ Below B w w') := by
  rcases h with h | h
  · refine (check_fresh b w h.cell0 h.shape h.frozen0).mono ?_
    rintro e w' ⟨rfl, rfl⟩
    exact ⟨rfl, h.used _, (Below.refl B w).setCell (p := ⟨b, 0, none⟩) h.1 _⟩
  · refine (check_used b w h.cell0).mono ?_
    rintro e w' ⟨rfl, rfl⟩
    exact ⟨rfl, h, Below.refl B _⟩
set_option maxHeartbeats 2000000 in
theorem write_any (B b : Nat) (bs : List Value) (s : ByteArray) (w : World) (h : Lib.IsBuilder 61 5 B b bs w) (hlen : bs.length + s.size ≤ 140737488355328) (hBw : B ≤ w.heap.size) :
    Calls Tryd.prog 42 #[.pointer (some ⟨b, 0, none⟩), .string s] w fun e w' => e = .returned (.tuple #[.int .i64 s.size, .nilIface]) ∧ (Lib.BuilderAt 61 5 B b (.pointer (some ⟨b, 0, none⟩)) (bs ++ Lib.strCells s) w' ∧ Below B w w') := by
  obtain ⟨i0, hi, hz0, hz1, hz2⟩ := info_parts info5
  go_enter Tryd.func42, Tryd.ntmps42
  go_wp2_with (go_at_call 50; refine (check_any B b bs _ h).mono ?_)
  rintro e w1 ⟨rfl, h1, hb1⟩
  obtain ⟨hB, v, hbk, hown, hne⟩ := h1
  have hz := hb1.size
  have c0 : w1.cell? ⟨b, 0, none⟩ = some (.pointer (some ⟨b, 0, none⟩)) := by rw [Lib.cell_of_heap hbk]; rfl
  have c1 : w1.cell? ⟨b, 1, none⟩ = some v := by rw [Lib.cell_of_heap hbk]; rfl
  go_wp2_with (at_builtin; refine Lib.wpList_append_own_string _ rfl _ _ 56 9 rfl B 5 i0 Tryd.underlying56 Tryd.underlying9 hi hz0 hz1 hz2 _ _ _ rfl hown s rfl ?c3 ?c4 ?c5 ?_)
  case c3 => unfold maxLen; omega
  case c4 => omega
  case c5 => omega
  intro v' w2 hown' hgrow _
  have hlt : b < w1.heap.size := (Array.getElem?_eq_some_iff.1 hbk).1
  have hb2 : w2.heap[b]? = some (.cells #[.pointer (some ⟨b, 0, none⟩), v] 61 (0, 0)) := by
    rw [hgrow.block b hlt (fun e => hne e.symm)]
    exact hbk
  have d0 : w2.cell? ⟨b, 0, none⟩ = some (.pointer (some ⟨b, 0, none⟩)) := by rw [Lib.cell_of_heap hb2]; rfl
  have d1 : w2.cell? ⟨b, 1, none⟩ = some v := by rw [Lib.cell_of_heap hb2]; rfl
  have f1 : w2.frozen? ⟨b, 1, none⟩ = false := Lib.frozen_of_heap hb2 1
  obtain ⟨ao, n', cap, rfl⟩ : ∃ ao n' cap, v' = .slice ao n' cap := by
    rcases hown'.2 with ⟨hv, _⟩ | ⟨g, cap, cur, hv, _⟩
    · exact ⟨_, _, _, hv⟩
    · exact ⟨_, _, _, hv⟩
  go_wp2
  go_ret2
  refine ⟨rfl, ?_, ?_⟩
  · exact Lib.BuilderAt.put (T := 61) (e := 5) hB hb2 (bs' := bs ++ Lib.strCells s) (by simpa [Lib.strCells_length] using hown') (by decide)
  · exact (hb1.grown hgrow (by omega) (fun k hk => (hown.lt k hk).1)).setCell (p := ⟨b, 1, none⟩) hB _
def joinB : List Int → Option (List UInt8)
  | [] => some []
  | u :: l => if wd u = 0 then none else (joinB l).map ((put u).data.toList ++ ·)
theorem joinB_step {u : Int} {l : List Int} (h : wd u ≠ 0) : joinB (u :: l) = (joinB l).map ((put u).data.toList ++ ·) := by simp [joinB, h]
theorem put_size_le (u : Int) : (put u).size ≤ 4 := by
  by_cases h : isUnit u
  · have := (put_unit u h).1
    have : wd u ≤ 4 := by unfold wd Lib.runeLen; repeat' split <;> omega
    omega
  · have : put u = ByteArray.empty := put_no (by unfold isUnit at h; omega) (by unfold isUnit at h; omega)
    rw [this]; exact Nat.zero_le _
theorem strCells_bytes (s : ByteArray) : Lib.strCells s = Lib.byteCells s.data.toList := by
  simp [Lib.strCells, Lib.byteCells]
theorem row_below {W W' : World} {base : Nat} {e : TypeId} {v : Value} {k : Nat} {xs : List Value} (h : W.ownsRow base e 1 v k xs) (hb : Below W.heap.size W W') : W'.ownsRow base e 1 v k xs :=
  h.kept (grown_below hb) (by cases hv : v.ownBlock with | none => exact .inl rfl | some g => exact .inr (by simp))
theorem builder_below {T e : TypeId} {B b : Nat} {bs : List Value} {W W' : World} (h : Lib.IsBuilder T e B b bs W) (hb : Below W.heap.size W W') : Lib.IsBuilder T e B b bs W' := by
  rcases h with ⟨hB, v, h1, h2, h3⟩ | ⟨hB, v, h1, h2, h3⟩
  · exact .inl ⟨hB, v, (hb.block b (Array.getElem?_eq_some_iff.1 h1).1).trans h1, row_below h2 hb, h3⟩
  · exact .inr ⟨hB, v, (hb.block b (Array.getElem?_eq_some_iff.1 h1).1).trans h1, row_below h2 hb, h3⟩
/-- the text that is made, or nothing -/
def JoinRes (o : Option (List UInt8)) : Value := match o with
  | some t => .tuple #[.string ⟨t.toArray⟩, .int .i64 0]
  | none => .tuple #[.string ⟨#[]⟩, .int .i64 11]
set_option maxHeartbeats 2000000 in
theorem join_any (v : Value) (l : List Int) (w : World) (hv : Ints w v l) (hl : l.length ≤ 4398046511104) :
    Calls Tryd.prog 27 #[v] w fun e w' => e = .returned (JoinRes (joinB l)) ∧ Below w.heap.size w w' := by
  obtain ⟨a, cap, rfl, hc⟩ := hv
  obtain ⟨n, hn⟩ : ∃ n, l.length = n := ⟨_, rfl⟩
  have HN : Hid (l.length = n) := hn
  rw [hn] at hl ⊢
  obtain ⟨R, hR⟩ : ∃ R, joinB l = R := ⟨_, rfl⟩
  rw [hR]
  go_enter Tryd.func27, Tryd.ntmps27
  go_wp2_with fail
  go_loopw [6, 9] (fun _ vi wr => ∃ (k : Nat) (acc : List UInt8), vi = .int .i64 k ∧ k ≤ n ∧ acc.length ≤ 4 * k ∧ Lib.IsBuilder 61 5 w.heap.size w.heap.size (Lib.byteCells acc) wr ∧ Hid (R = (joinB (l.drop k)).map (acc ++ ·)) ∧ Below w.heap.size w wr) (fun _ vi _ => n - (intOf vi).toNat)
  case atStart =>
    refine ⟨0, [], rfl, Nat.zero_le _, Nat.zero_le _, .inl ⟨Nat.le_refl _, .slice none 0 0, World.alloc_heap_new w _, World.ownsRow_nil _ _ _ _, by simp [Value.ownBlock]⟩, ?_, (Below.refl _ _).alloc (Nat.le_refl _) _⟩
    show R = (joinB l).map ([] ++ ·)
    rw [hR]; cases R <;> rfl
  case round =>
    obtain ⟨k, acc, rfl, hk, hacc, hB, hJ, hb⟩ := hrel
    by_cases hlt : k < n
    · have hk2 : k < l.length := by rw [hn]; exact hlt
      obtain ⟨g, o, rfl, hcell⟩ := hc.resolve_left (fun e => by rw [e] at hk2; simp at hk2)
      have hcx := hcell k hk2
      have hgw : g < w.heap.size := by
        obtain ⟨ob, ho, _⟩ := cells_of_cell hcx
        exact (Array.getElem?_eq_some_iff.1 ho).1
      have hc1 := (hb.cell (p := ⟨g, o + k, none⟩) hgw).trans hcx
      have hJ1 := hJ.out
      rw [List.drop_eq_getElem_cons hk2] at hJ1
      have hget : l[k]?.getD 0 = l[k] := by simp [hk2]
      rw [hget] at hc1
      generalize l[k] = u at hc1 hJ1
      clear hcell hcx hget hJ hc
      have hlt' : (k : Int) < (n : Int) := by omega
      by_cases hw : wd u = 0
      · have HRN : Hid (R = none) := by show R = none; rw [hJ1]; simp [joinB, hw]
        have cW : Hid (∀ W : World, Calls Tryd.prog 24 #[.int .i64 u] W fun e w' => e = .returned (.int .i64 0) ∧ w' = W) := fun W => by have := width_any u W; rw [hw] at this; exact this
        clear hJ1 hw hR hn
        go_wp2_with (go_at_call 24; refine (cW.out _).mono ?_; rintro e w' ⟨rfl, rfl⟩)
        go_ret2
        exact ⟨by rw [HRN.out]; rfl, hb⟩
      · have HJ2 : Hid (R = (joinB (l.drop (k + 1))).map ((acc ++ (put u).data.toList) ++ ·)) := by
          show R = _
          rw [hJ1, joinB_step hw, Option.map_map]
          congr 1
          funext t
          simp
        have hps := put_size_le u
        have hbl : (Lib.byteCells acc).length = acc.length := Lib.byteCells_length acc
        have HB2 : Hid (Lib.byteCells acc ++ Lib.strCells (put u) = Lib.byteCells (acc ++ (put u).data.toList)) := by
          show Lib.byteCells acc ++ Lib.strCells (put u) = Lib.byteCells (acc ++ (put u).data.toList)
          rw [strCells_bytes]; simp [Lib.byteCells]
        have hw0 : (wd u == 0) = false := beq_eq_false_iff_ne.2 hw
        clear hJ1 hw hR hn
        go_wp2_with (first | (go_at_call 24; refine (width_any _ _).mono ?_; rintro e w' ⟨rfl, rfl⟩) | (go_at_call 23; refine (put_any _ _).mono ?_; rintro e w2 ⟨rfl, hb2⟩))
        have hB2 := builder_below hB hb2
        have hbw2 := hb.trans (hb2.mono hb.size)
        refine (write_any w.heap.size w.heap.size (Lib.byteCells acc) (put u) w2 hB2 (by rw [hbl]; omega) hbw2.size).mono ?_
        rintro e w3 ⟨rfl, hB3, hb3⟩
        have hB3' : Lib.IsBuilder 61 5 w.heap.size w.heap.size (Lib.byteCells (acc ++ (put u).data.toList)) w3 := by rw [← HB2.out]; exact .inr hB3
        have hbw3 := hbw2.trans hb3
        have hal : (acc ++ (put u).data.toList).length ≤ 4 * (k + 1) := by rw [List.length_append, ← Lib.size_eq]; omega
        clear hB hB2 hB3 hb2 hb3 hbw2 hb hc1
        go_wp2
        exact ⟨⟨k + 1, _, by go_num, by omega, hal, hB3', HJ2, hbw3⟩, by simp [intOf]; omega⟩
    · clear hc
      go_wp2_with (go_at_call 43; refine (Tryd.Builder_String_any w.heap.size w.heap.size acc _ hB hb.size).mono ?_; rintro e w' ⟨rfl, hb2⟩)
      go_ret2
      have hkn : k = n := by omega
      have hRR : R = some acc := by
        have := hJ.out
        rw [List.drop_of_length_le (by rw [hn, hkn]; exact Nat.le_refl _)] at this
        rw [this]; simp [joinB]
      exact ⟨by rw [hRR]; rfl, hb.trans hb2⟩
end Go.Proofs
