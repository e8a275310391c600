/-
  Several texts in one (Ywr Jpr).
-/
import Derived.Test.YtknaoahokopplaaGreatDoorYur
import Derived.Test.YtknaoahokopplaaGreatDoorMhfr
import Derived.Shelf.Abstract
import Derived.WalkKit
import Derived.WalkSpells
import Derived.WalkLawsBesides
import Derived.Lib.OthersKept
import Derived.Maps.AppendAt
import Derived.Lib.SmallJoins
import Derived.Lib.IndexBytes
import Derived.Lib.AppendStr
import Derived.Shelf.Strings.Builder1
import Derived.WalkMore
import Derived.Test.YtknaoahokopplaaGreatDoorMgfr
import Derived.Test.YtknaoahokopplaaGreatDoorMgar
namespace Go.Proofs
open Go.RowKit Go.Shelf

theorem RowI.ta {w : World} {b : Nat} {x : Option Nat} {A : Option Addr} {n c : Nat} {ms : List MI} {d : Nat} (h : RowI w b x A n c ms) (hl : ms.length ≤ 1000) (hp : ∀ m ∈ ms, Ta b w.heap.size d w (.slice m.A m.n m.c)) : Ta b w.heap.size (d + 1) w (.slice A n c) := by
  obtain ⟨hn, h⟩ := h
  rcases h with ⟨rfl, rfl, rfl⟩ | ⟨g, cur, rfl, k1, k2, k3, k4, k5, k6, k7⟩
  · exact .inl rfl
  · refine .inr ⟨g, cur, n, c, rfl, k1, (Array.getElem?_eq_some_iff.1 k3).1, k3, k4, by omega, k6, fun j hj => ?_⟩
    obtain ⟨m, hm⟩ : ∃ m, ms[j]? = some m := ⟨ms[j]'(by omega), List.getElem?_eq_getElem _⟩
    have hc := fi_at ms hm 3 (.slice m.A m.n m.c) rfl
    rw [← k7, List.getElem?_take] at hc
    split at hc
    · exact ⟨_, by simpa using hc, hp m (List.mem_of_getElem? hm)⟩
    · cases hc
theorem DR.ta {w : World} {b : Nat} {x : Option Nat} : ∀ {d : Nat} {m : MI} {i : It}, DR d w b x m i → SmI d i → Ta b w.heap.size d w (.slice m.A m.n m.c)
  | 0, m, i, h, _ => by
    obtain ⟨-, -, h1, h2, h3⟩ := h
    show _ = _
    rw [h1, h2, h3]
  | d + 1, m, i, h, hs => by
    obtain ⟨-, ms, h1, h2⟩ := h
    have hlen := h2.length
    refine h1.ta (by have := hs.1; omega) (fun m' hm' => ?_)
    obtain ⟨j, hj, e⟩ := List.getElem_of_mem hm'
    have e1 : ms[j]? = some m' := by rw [List.getElem?_eq_getElem hj, e]
    have e2 : i.ps[j]? = some (i.ps[j]'(by omega)) := List.getElem?_eq_getElem _
    exact DR.ta (h2.get e1 e2) (hs.2 _ (List.mem_of_getElem? e2))
theorem RowsS.ta {w : World} {b : Nat} {x : Option Nat} {d : Nat} {s : SL} {l : List It} (h : RowsS d w b x s l) (hs : SmR d l) : Ta b w.heap.size (d + 1) w (.slice s.A s.n s.c) := by
  obtain ⟨ms, h1, h2⟩ := h
  have hlen := h2.length
  refine h1.ta (by have := hs.1; omega) (fun m' hm' => ?_)
  obtain ⟨j, hj, e⟩ := List.getElem_of_mem hm'
  have e1 : ms[j]? = some m' := by rw [List.getElem?_eq_getElem hj, e]
  have e2 : l[j]? = some (l[j]'(by omega)) := List.getElem?_eq_getElem _
  exact DR.ta (h2.get e1 e2) (hs.2 _ (List.mem_of_getElem? e2))
theorem RowsL.lt {w : World} {b : Nat} {v : Value} {ls : List Ln} (h : RowsL w b v ls) (hs : ∀ l ∈ ls, SmLn 3 l) (hl : ls.length ≤ 32768) : v = .slice none 0 0 ∨ ∃ g n c, v = .slice (some ⟨g, 0, none⟩) n c ∧ LT b w.heap.size w g n c := by
  obtain ⟨A, c, ms, rfl, h1, h2⟩ := h
  have hlen := h1.length
  rcases h2 with ⟨rfl, rfl, rfl⟩ | ⟨g, cur, rfl, k1, k2, k3, k4, k5⟩
  · exact .inl rfl
  · refine .inr ⟨g, ls.length, c, rfl, k1, (Array.getElem?_eq_some_iff.1 k2).1, k4, by omega, cur, k2, k5, fun j hj f h5 h8 => ?_⟩
    obtain ⟨m, hm⟩ : ∃ m, ms[j]? = some m := ⟨ms[j]'(by omega), List.getElem?_eq_getElem _⟩
    have e2 : ls[j]? = some (ls[j]'(by omega)) := List.getElem?_eq_getElem _
    have hL := h1.get hm e2
    have hS := hs _ (List.mem_of_getElem? e2)
    have hc : ∀ p, (ml1 m)[f]? = some p → cur[j * 10 + f]? = some p := fun p hp => by
      have hc := fl10_at ms hm f p hp
      rw [← k3, List.getElem?_take] at hc
      split at hc
      · simpa using hc
      · cases hc
    obtain rfl | rfl | rfl | rfl : f = 5 ∨ f = 6 ∨ f = 7 ∨ f = 8 := by omega
    · exact ⟨_, hc _ rfl, hL.2.1.ta hS.1⟩
    · exact ⟨_, hc _ rfl, hL.2.2.1.ta hS.2.1⟩
    · exact ⟨_, hc _ rfl, hL.2.2.2.1.ta hS.2.2.1⟩
    · exact ⟨_, hc _ rfl, hL.2.2.2.2.ta hS.2.2.2⟩
/-- lines that were told between b and b1 are written over -/
theorem over_any {w : World} {b : Nat} {v : Value} {ls : List Ln} (h : RowsL w b v ls) (hs : ∀ l ∈ ls, SmLn 3 l) (hl : ls.length ≤ 32768) {W : World} (hW : ∀ k, k < w.heap.size → b ≤ k → W.heap[k]? = w.heap[k]?) (N : Int) (hN : 0 ≤ N ∧ N ≤ 1000) :
    Calls Tryz.prog 16 #[v, .int .i64 N] W fun x w' => x = .returned (.tuple #[]) ∧ Fr b w.heap.size W w' := by
  rcases h.lt hs hl with rfl | ⟨g, n, c, rfl, hT⟩
  · exact over_nil b w.heap.size N W
  · exact over_row b w.heap.size N W g n c (hT.same fun k h1 h2 _ => hW k h1 h2) hN
end Go.Proofs
namespace Go.Proofs
open Go.RowKit Go.Shelf

set_option maxRecDepth 100000
attribute [local go_sem] Oper.semAt_some
theorem info5 : (Tryz.prog.info? 5).map (fun i => (i.zero, i.size, i.bytes)) = some (some (.int .u8 0), 1, 1) := by kernel_rfl
/-! the builder, and Join -/
theorem sizeB : (Tryz.prog.info? 71).map (·.size) = some 2 := by kernel_rfl
theorem liesB : liesAt Tryz.prog Tryz.prog.depth 71 (2 / Tryz.prog.cellsOf 71) 0 71 1 = true := by kernel_rfl
set_option maxHeartbeats 1000000 in
theorem check_used (b : Nat) (w : World) (h0 : w.cell? ⟨b, 0, none⟩ = some (.pointer (some ⟨b, 0, none⟩))) :
    Calls Tryz.prog 66 #[.pointer (some ⟨b, 0, none⟩)] w fun e w' => e = .returned (.tuple #[]) ∧ w' = w := by
  obtain ⟨j, hj, _⟩ := Option.map_eq_some_iff.1 sizeB
  have hne := fun W : World => Lib.run_neq_ptr_same (P := Tryz.prog) W ⟨b, 0, none⟩ Tryz.underlying69 hj
  go_enter Tryz.func66, Tryz.ntmps66
  go_wp2
  go_end0
  exact ⟨rfl, rfl⟩
set_option maxHeartbeats 1000000 in
theorem check_fresh (b : Nat) (w : World) (h0 : w.cell? ⟨b, 0, none⟩ = some (.pointer none)) (hsh : w.shape? b = some (71, 2)) (hfz : w.frozen? ⟨b, 0, none⟩ = false) :
    Calls Tryz.prog 66 #[.pointer (some ⟨b, 0, none⟩)] w fun e w' => e = .returned (.tuple #[]) ∧ w' = w.setCell ⟨b, 0, none⟩ (.pointer (some ⟨b, 0, none⟩)) := by
  obtain ⟨j, hj, hjs⟩ := Option.map_eq_some_iff.1 sizeB
  have hne := fun W : World => Lib.run_neq_ptr_same (P := Tryz.prog) W ⟨b, 0, none⟩ Tryz.underlying69 hj
  have hto := Lib.run_to_unsafe (P := Tryz.prog) w ⟨b, 0, none⟩ Tryz.underlying69 Tryz.underlying129 hj (by rw [hjs]; decide) hsh (Nat.zero_lt_succ 1)
  have hfr := Lib.run_from_unsafe (P := Tryz.prog) w ⟨b, 0, none⟩ Tryz.underlying129 Tryz.underlying69 hj hsh liesB
  have hno : (callFunc 114 #[.pointer (some ⟨b, 0, none⟩)]).run Tryz.prog w = .ok (.value (.pointer (some ⟨b, 0, none⟩))) w := by
    rw [run_callFunc_extern Tryz.func114 (by kernel_rfl) (by kernel_rfl) (by kernel_rfl) (e := Extern.AbiNoEscape.same) (by kernel_rfl), Lib.run_noEscape]
    rfl
  go_enter Tryz.func66, Tryz.ntmps66
  go_wp2
  go_end0
  exact ⟨rfl, rfl⟩
theorem check_any (B b : Nat) (bs : List Value) (w : World) (h : Lib.IsBuilder 71 5 B b bs w) :
    Calls Tryz.prog 66 #[.pointer (some ⟨b, 0, none⟩)] w fun e w' => e = .returned (.tuple #[]) ∧ (Lib.BuilderAt 71 5 B b (.pointer (some ⟨b, 0, none⟩)) bs w' ∧ Below B w w') := by
  rcases h with h | h
  · refine (check_fresh b w h.cell0 h.shape h.frozen0).mono ?_
    rintro e w' ⟨rfl, rfl⟩
    exact ⟨rfl, h.used _, (Below.refl B w).setCell (p := ⟨b, 0, none⟩) h.1 _⟩
  · refine (check_used b w h.cell0).mono ?_
    rintro e w' ⟨rfl, rfl⟩
    exact ⟨rfl, h, Below.refl B _⟩
set_option maxHeartbeats 2000000 in
theorem write_any (B b : Nat) (bs : List Value) (s : ByteArray) (w : World) (h : Lib.IsBuilder 71 5 B b bs w) (hlen : bs.length + s.size ≤ 140737488355328) (hBw : B ≤ w.heap.size) :
    Calls Tryz.prog 36 #[.pointer (some ⟨b, 0, none⟩), .string s] w fun e w' => e = .returned (.tuple #[.int .i64 s.size, .nilIface]) ∧ (Lib.BuilderAt 71 5 B b (.pointer (some ⟨b, 0, none⟩)) (bs ++ Lib.strCells s) w' ∧ Below B w w') := by
  obtain ⟨i0, hi, hz0, hz1, hz2⟩ := info_parts info5
  go_enter Tryz.func36, Tryz.ntmps36
  go_wp2_with (go_at_call 66; refine (check_any B b bs _ h).mono ?_)
  rintro e w1 ⟨rfl, h1, hb1⟩
  obtain ⟨hB, v, hbk, hown, hne⟩ := h1
  have hz := hb1.size
  have c0 : w1.cell? ⟨b, 0, none⟩ = some (.pointer (some ⟨b, 0, none⟩)) := by rw [Lib.cell_of_heap hbk]; rfl
  have c1 : w1.cell? ⟨b, 1, none⟩ = some v := by rw [Lib.cell_of_heap hbk]; rfl
  go_wp2_with (at_builtin; refine Lib.wpList_append_own_string _ rfl _ _ 50 9 rfl B 5 i0 Tryz.underlying50 Tryz.underlying9 hi hz0 hz1 hz2 _ _ _ rfl hown s rfl ?c3 ?c4 ?c5 ?_)
  case c3 => unfold maxLen; omega
  case c4 => omega
  case c5 => omega
  intro v' w2 hown' hgrow _
  have hlt : b < w1.heap.size := (Array.getElem?_eq_some_iff.1 hbk).1
  have hb2 : w2.heap[b]? = some (.cells #[.pointer (some ⟨b, 0, none⟩), v] 71 (0, 0)) := by
    rw [hgrow.block b hlt (fun e => hne e.symm)]
    exact hbk
  have d0 : w2.cell? ⟨b, 0, none⟩ = some (.pointer (some ⟨b, 0, none⟩)) := by rw [Lib.cell_of_heap hb2]; rfl
  have d1 : w2.cell? ⟨b, 1, none⟩ = some v := by rw [Lib.cell_of_heap hb2]; rfl
  have f1 : w2.frozen? ⟨b, 1, none⟩ = false := Lib.frozen_of_heap hb2 1
  obtain ⟨ao, n', cap, rfl⟩ : ∃ ao n' cap, v' = .slice ao n' cap := by
    rcases hown'.2 with ⟨hv, _⟩ | ⟨g, cap, cur, hv, _⟩
    · exact ⟨_, _, _, hv⟩
    · exact ⟨_, _, _, hv⟩
  go_wp2
  go_ret2
  refine ⟨rfl, ?_, ?_⟩
  · exact Lib.BuilderAt.put (T := 71) (e := 5) hB hb2 (bs' := bs ++ Lib.strCells s) (by simpa [Lib.strCells_length] using hown') (by decide)
  · exact (hb1.grown hgrow (by omega) (fun k hk => (hown.lt k hk).1)).setCell (p := ⟨b, 1, none⟩) hB _
set_option maxHeartbeats 2000000 in
theorem byte_any (B b : Nat) (bs : List Value) (c : Int) (w : World) (h : Lib.IsBuilder 71 5 B b bs w) (hlen : bs.length + 1 ≤ 140737488355328) (hBw : B ≤ w.heap.size) :
    Calls Tryz.prog 39 #[.pointer (some ⟨b, 0, none⟩), .int .u8 c] w fun e w' => e = .returned .nilIface ∧ (Lib.BuilderAt 71 5 B b (.pointer (some ⟨b, 0, none⟩)) (bs ++ [.int .u8 c]) w' ∧ Below B w w') := by
  obtain ⟨i0, hi, hz0, hz1, hz2⟩ := info_parts info5
  go_enter Tryz.func39, Tryz.ntmps39
  go_wp2_with (go_at_call 66; refine (check_any B b bs _ h).mono ?_)
  rintro e w1 ⟨rfl, h1, hb1⟩
  obtain ⟨hB, v, hbk, hown, hne⟩ := h1
  have hz := hb1.size
  have hlt : b < w1.heap.size := (Array.getElem?_eq_some_iff.1 hbk).1
  have c0 : w1.cell? ⟨b, 0, none⟩ = some (.pointer (some ⟨b, 0, none⟩)) := by rw [Lib.cell_of_heap hbk]; rfl
  have c1 : w1.cell? ⟨b, 1, none⟩ = some v := by rw [Lib.cell_of_heap hbk]; rfl
  have hown2 : (w1.alloc (.cells #[.int .u8 c] 5)).ownsRow B 5 1 v bs.length bs := World.ownsRow.alloc hown _
  go_wp2_with (at_builtin; refine wpList_append_own _ rfl _ _ 50 rfl B 5 i0 _ 1 1 Tryz.underlying50 hi hz0 hz1 hz2 rfl (by decide) _ _ _ rfl hown2 ⟨w1.heap.size, 0, none⟩ 1 1 [.int .u8 c] rfl rfl ?c1 ?c2 ?c3 ?c4 ?c5 ?_)
  case c1 =>
    intro j u hj
    match j, hj with
    | 0, hj =>
      simp at hj
      subst hj
      have hn := World.alloc_heap_new w1 (.cells #[.int .u8 c] 5)
      show (w1.alloc (.cells #[.int .u8 c] 5)).cell? ⟨w1.heap.size, 0, none⟩ = _
      rw [Lib.cell_of_heap hn]
      rfl
  case c2 => intro u hu; simp at hu; subst hu; rfl
  case c3 => unfold maxLen; omega
  case c4 => omega
  case c5 => simp; omega
  intro v' w2 hown' hgrow _
  have hb2 : w2.heap[b]? = some (.cells #[.pointer (some ⟨b, 0, none⟩), v] 71 (0, 0)) := by
    rw [hgrow.block b (by simp; omega) (fun e => hne e.symm)]
    exact (Below.heap_alloc _ _ _ hlt).trans hbk
  have d0 : w2.cell? ⟨b, 0, none⟩ = some (.pointer (some ⟨b, 0, none⟩)) := by rw [Lib.cell_of_heap hb2]; rfl
  have d1 : w2.cell? ⟨b, 1, none⟩ = some v := by rw [Lib.cell_of_heap hb2]; rfl
  have f1 : w2.frozen? ⟨b, 1, none⟩ = false := Lib.frozen_of_heap hb2 1
  obtain ⟨ao, n', cap, rfl⟩ : ∃ ao n' cap, v' = .slice ao n' cap := by
    rcases hown'.2 with ⟨hv, _⟩ | ⟨g, cap, cur, hv, _⟩
    · exact ⟨_, _, _, hv⟩
    · exact ⟨_, _, _, hv⟩
  go_wp2
  go_ret
  refine ⟨rfl, ?_, ?_⟩
  · exact Lib.BuilderAt.put (T := 71) (e := 5) hB hb2 (bs' := bs ++ [.int .u8 c]) (by simpa using hown') (by decide)
  · exact ((hb1.alloc (by omega) _).grown hgrow (by simp; omega) (fun k hk => (hown.lt k hk).1)).setCell (p := ⟨b, 1, none⟩) hB _
end Go.Proofs
