/-
  The gap of a place; names; digits.
-/
import Derived.Shelf.Abstract
import Derived.Shelf.RegionOpen
import Derived.WalkKit
import Derived.WalkSpells
import Derived.WalkLawsBesides
import Derived.BigQuiet
import Derived.Deep.QuietTactic
import Derived.Deep.LoopGhost
import Derived.Lib.OthersKept
import Derived.ScopeJumps
import Derived.WalkMore
import Derived.Maps.AppendAt
import Derived.Lib.SmallJoins
import Derived.Test.YthjjkenmlkekbaaDoorRa
namespace Go.Proofs
open Go.RowKit Go.Shelf

set_option maxRecDepth 100000
attribute [local go_sem] Oper.semAt_some


/-- a row of numbers -/
def RI (w : World) (v : Value) (l : List Int) : Prop := ∃ (A : Option Addr) (c : Nat), v = .slice A l.length c ∧ (l = [] ∨ ∃ g o, A = some ⟨g, o, none⟩ ∧ ∀ j x, l[j]? = some x → w.cell? ⟨g, o + j, none⟩ = some (.int .i64 x))
theorem RI.below {w w' : World} {n : Nat} {v : Value} {l : List Int} (h : RI w v l) (hb : Below n w w') (hn : w.heap.size ≤ n) : RI w' v l := by
  obtain ⟨A, c, rfl, h⟩ := h
  refine ⟨A, c, rfl, h.imp id ?_⟩
  rintro ⟨g, o, rfl, hr⟩
  refine ⟨g, o, rfl, fun j x hj => ?_⟩
  have hc := hr j x hj
  obtain ⟨ob, ho, _⟩ := cells_of_cell hc
  exact (hb.cell (p := ⟨g, o + j, none⟩) (Nat.lt_of_lt_of_le (Array.getElem?_eq_some_iff.1 ho).1 hn)).trans hc
set_option maxHeartbeats 1000000 in
theorem between_any (l : List Int) (i : Nat) (hl : l.length ≤ 4611686018427387904) (hi : i ≤ 4611686018427387904) : ∃ j : Nat, ∃ hj : j < 6, ∀ (w : World) (v : Value), RI w v l → Calls Tryd.prog 14 #[v, .int .i64 i] w fun e w' => e = .returned (.string (gaps6[j]'hj)) ∧ Below w.heap.size w w' := by
  by_cases h0 : l = []
  · subst h0
    refine ⟨0, by omega, fun w v hv => ?_⟩
    obtain ⟨A, c, rfl, _⟩ := hv
    go_enter Tryd.func14, Tryd.ntmps14
    go_wp2
    go_ret
    exact ⟨rfl, Below.refl _ _⟩
  · have hn : 0 < l.length := List.length_pos_iff.2 h0
    have hk : i % l.length < l.length := Nat.mod_lt _ hn
    obtain ⟨x, hx⟩ : ∃ x, l[i % l.length]? = some x := ⟨_, List.getElem?_eq_getElem hk⟩
    obtain ⟨j, hj, HG⟩ := gap_any x
    refine ⟨j, hj, fun w v hv => ?_⟩
    obtain ⟨A, c, rfl, hr⟩ := hv
    obtain ⟨g, o, rfl, hr2⟩ := hr.resolve_left h0
    have hc := hr2 _ _ hx
    clear hr2
    obtain ⟨n, hnn⟩ : ∃ n, l.length = n := ⟨_, rfl⟩
    rw [hnn] at hn hk hc hl ⊢
    have HG2 : Hid (∀ w : World, Calls Tryd.prog 26 #[.int .i64 x] w fun e w' => e = .returned (.string (gaps6[j]'hj)) ∧ Below w.heap.size w w') := HG
    have ht : Int.tmod (i : Int) (n : Int) = ((i % n : Nat) : Int) := by rw [Int.tmod_eq_emod_of_nonneg (by omega)]; simp
    have hn0 : ((n : Int) == 0) = false := by simp; omega
    have hki : ((i % n : Nat) : Int) < (n : Int) := by omega
    generalize i % n = k at hc ht hki
    clear HG hr hx hnn
    go_enter Tryd.func14, Tryd.ntmps14
    go_wp2_with fail
    refine (HG2.out _).mono ?_
    rintro e w1 ⟨rfl, hb⟩
    go_wp2
    go_ret
    exact ⟨rfl, hb⟩
/-! rows of bytes of the call's own -/
def fb (l : List UInt8) : List Value := l.map fun b => .int .u8 b.toNat
def OwnB (w : World) (base : Nat) (v : Value) (l : List UInt8) : Prop := w.ownsRow base 5 1 v l.length (fb l)
theorem OwnB.nil (w : World) (base : Nat) : OwnB w base (.slice none 0 0) [] := World.ownsRow_nil _ _ _ _
theorem OwnB.alloc {w : World} {base : Nat} {v : Value} {l : List UInt8} (h : OwnB w base v l) (o : Obj) : OwnB (w.alloc o) base v l := World.ownsRow.alloc h o
theorem OwnB.below {w w' : World} {base n : Nat} {v : Value} {l : List UInt8} (h : OwnB w base v l) (hb : Below n w w') (hn : w.heap.size ≤ n) : OwnB w' base v l := by
  refine ⟨h.1, ?_⟩
  rcases h.2 with h | ⟨g, cap, cur, rfl, h1, h2, h3⟩
  · exact .inl h
  · have : g < w.heap.size := (Array.getElem?_eq_some_iff.1 h2).1
    exact .inr ⟨g, cap, cur, rfl, h1, (hb.block g (by omega)).trans h2, h3⟩
theorem formB {w : World} {b : Nat} {v : Value} {l : List UInt8} (h : OwnB w b v l) : ∃ A c, v = .slice A l.length c := by
  rcases h.2 with ⟨e, h0⟩ | ⟨g, cap, cur, e, _⟩
  · subst e; exact ⟨none, 0, by rw [h0]⟩
  · exact ⟨_, _, e⟩
theorem info5 : (Tryd.prog.info? 5).map (fun i => (i.zero, i.size, i.bytes)) = some (some (.int .u8 0), 1, 1) := by kernel_rfl
theorem ownB_below {w w' : World} {base : Nat} {v : Value} {l : List UInt8} (h : OwnB w base v l) (hb : base ≤ w.heap.size) (hg : w.grownBy w' v.ownBlock) : Below base w w' := (Below.refl _ w).grown hg hb (fun k hk => (World.ownsRow.lt h k hk).1)
theorem fb_one (l : List UInt8) : ∀ u ∈ fb l, u.oneCell' = true := by
  intro u hu
  simp only [fb, List.mem_map] at hu
  obtain ⟨b, _, rfl⟩ := hu
  rfl
theorem push_B {ops : Array Oper} {rest : List Oper} {o : Oper} {a : Act} {Q : Exit → Act → World → Prop} {w : World} (hgd : o.guard = none) (s x : Operand) (t : TypeId)
    (ho : o.op = .call { callee := .builtin .append, args := #[s, x], argTypes := #[t, t] }) (ht : Tryd.prog.underlying t = some (.slice 5))
    (base : Nat) (v : Value) (l : List UInt8) (hs : a.eval s = v) (hown : OwnB w base v l) (g c : Nat) (y : UInt8) (hx : a.eval x = .slice (some ⟨g, 0, none⟩) 1 c)
    (hy : w.cell? ⟨g, 0, none⟩ = some (.int .u8 y.toNat)) (hl : l.length + 1 ≤ 2199023255552) (hbase : base ≤ w.heap.size)
    (h : ∀ v' w', OwnB w' base v' (l ++ [y]) → w.grownBy w' v.ownBlock → Below base w w' → wpList Tryd.prog ops Q rest (a.put o.dst v') w') : wpList Tryd.prog ops Q (o :: rest) a w := by
  obtain ⟨i0, hi, hz0, hz1, hz2⟩ := info_parts info5
  refine wpList_append_own w hgd s x t ho base 5 i0 _ 1 1 ht hi hz0 hz1 hz2 rfl (by decide) v l.length (fb l) hs hown ⟨g, 0, none⟩ 1 c (fb [y]) hx rfl ?_ (fb_one _) (by unfold maxLen; omega) (by omega) hbase (fun v' w' h2 h3 _ => h v' w' ?_ h3 (ownB_below hown hbase h3))
  · intro j u hj
    match j, hj with
    | 0, hj => simp [fb] at hj; subst hj; exact hy
  · unfold OwnB
    rw [show fb (l ++ [y]) = fb l ++ fb [y] by simp [fb], List.length_append]
    exact h2
theorem OwnB.conv {w : World} {base g n c : Nat} {l : List UInt8} (h : OwnB w base (.slice (some ⟨g, 0, none⟩) n c) l) (hn : l.length = n) : (convert 38 9 (.slice (some ⟨g, 0, none⟩) n c)).run Tryd.prog w = .ok (.string ⟨l.toArray⟩) w := by
  have := run_convert_bytes_back (P := Tryd.prog) w 38 9 5 ⟨g, 0, none⟩ c l Tryd.underlying38 Tryd.underlying5 Tryd.underlying9 (fun j hj => h.cells rfl j _ (by simp [fb, hj]))
  rwa [hn] at this
/-! a name -/
def nameL (l : List UInt8) : List UInt8 := if (l.filter isNm).take 32 = [] then [118] else (l.filter isNm).take 32
set_option maxHeartbeats 1000000 in
theorem nameR_any (s : ByteArray) (w : World) (hs : s.size ≤ 9223372036854775807) : Calls Tryd.prog 29 #[.string s] w fun e w' => e = .returned (.string ⟨(nameL s.data.toList).toArray⟩) ∧ Below w.heap.size w w' := by
  obtain ⟨r, hr⟩ : ∃ r, nameL s.data.toList = r := ⟨_, rfl⟩
  have HR : Hid (nameL s.data.toList = r) := hr
  rw [hr]
  clear hr
  go_enter Tryd.func29, Tryd.ntmps29
  go_wp2
  go_loopw [3, 4] (fun vb vi wr => ∃ (i : Nat) (acc : List UInt8) (A : Option Addr) (c : Nat), vi = .int .i64 i ∧ vb = .slice A acc.length c ∧ i ≤ s.size ∧ Hid (acc = (s.data.toList.take i).filter isNm) ∧ acc.length ≤ 32 ∧ Hid (OwnB wr w.heap.size (.slice A acc.length c) acc) ∧ Hid (Below w.heap.size w wr)) (fun _ vi _ => s.size - (intOf vi).toNat)
  case atStart => exact ⟨0, [], none, 0, rfl, rfl, by omega, rfl, by simp, OwnB.nil _ _, Below.refl _ _⟩
  case round =>
    obtain ⟨i, acc, A, c, rfl, rfl, hi, hA, ha, HO, HB⟩ := hrel
    by_cases hlt : i < s.size ∧ acc.length < 32
    · obtain ⟨hlt, ha32⟩ := hlt
      have hlti : (i : Int) < (s.size : Int) := by omega
      have ha32i : (acc.length : Int) < 32 := by omega
      have hil : i < s.data.toList.length := by simpa using hlt
      obtain ⟨ch, hch⟩ : ∃ ch, s[i] = ch := ⟨_, rfl⟩
      have htk : (s.data.toList.take (i + 1)).filter isNm = acc ++ (if isNm ch then [ch] else []) := by
        rw [List.take_succ_eq_append_getElem hil, List.filter_append, ← hA.out, show s.data.toList[i] = ch from hch]
        simp [List.filter_cons]
      cases hn : isNm ch
      · rw [hn] at htk
        have HAc : Hid (acc = (s.data.toList.take (i + 1)).filter isNm) := by show _ = _; rw [htk]; simp
        have hcs : ch.toNat < 48 ∨ (58 ≤ ch.toNat ∧ ch.toNat ≤ 64) ∨ (91 ≤ ch.toNat ∧ ch.toNat ≤ 96 ∧ ch.toNat ≠ 95) ∨ 123 ≤ ch.toNat := by
          simp only [isNm, isLt, isDg, Bool.or_eq_false_iff, Bool.and_eq_false_iff, decide_eq_false_iff_not] at hn
          omega
        clear hA htk hn
        rcases hcs with e1 | e1 | e1 | e1
        · have d97 : decide ((97 : Int) ≤ (ch.toNat : Int)) = false := by simp; omega
          have d65 : decide ((65 : Int) ≤ (ch.toNat : Int)) = false := by simp; omega
          have d48 : decide ((48 : Int) ≤ (ch.toNat : Int)) = false := by simp; omega
          have n95 : ((ch.toNat : Int) == 95) = false := by simp; omega
          go_wp2_with fail
          exact ⟨⟨i + 1, acc, A, c, by go_num, rfl, by omega, HAc, ha, HO, HB⟩, by simp [intOf]; omega⟩
        · have d97 : decide ((97 : Int) ≤ (ch.toNat : Int)) = false := by simp; omega
          have d65 : decide ((65 : Int) ≤ (ch.toNat : Int)) = false := by simp; omega
          have t48 : (48 : Int) ≤ (ch.toNat : Int) := by omega
          have d57 : decide ((ch.toNat : Int) ≤ 57) = false := by simp; omega
          have n95 : ((ch.toNat : Int) == 95) = false := by simp; omega
          go_wp2_with fail
          exact ⟨⟨i + 1, acc, A, c, by go_num, rfl, by omega, HAc, ha, HO, HB⟩, by simp [intOf]; omega⟩
        · have d97 : decide ((97 : Int) ≤ (ch.toNat : Int)) = false := by simp; omega
          have t65 : (65 : Int) ≤ (ch.toNat : Int) := by omega
          have d90 : decide ((ch.toNat : Int) ≤ 90) = false := by simp; omega
          have t48 : (48 : Int) ≤ (ch.toNat : Int) := by omega
          have d57 : decide ((ch.toNat : Int) ≤ 57) = false := by simp; omega
          have n95 : ((ch.toNat : Int) == 95) = false := by simp; omega
          go_wp2_with fail
          exact ⟨⟨i + 1, acc, A, c, by go_num, rfl, by omega, HAc, ha, HO, HB⟩, by simp [intOf]; omega⟩
        · have t97 : (97 : Int) ≤ (ch.toNat : Int) := by omega
          have d122 : decide ((ch.toNat : Int) ≤ 122) = false := by simp; omega
          have t65 : (65 : Int) ≤ (ch.toNat : Int) := by omega
          have d90 : decide ((ch.toNat : Int) ≤ 90) = false := by simp; omega
          have t48 : (48 : Int) ≤ (ch.toNat : Int) := by omega
          have d57 : decide ((ch.toNat : Int) ≤ 57) = false := by simp; omega
          have n95 : ((ch.toNat : Int) == 95) = false := by simp; omega
          go_wp2_with fail
          exact ⟨⟨i + 1, acc, A, c, by go_num, rfl, by omega, HAc, ha, HO, HB⟩, by simp [intOf]; omega⟩
      · rw [hn] at htk
        have HAc : Hid (acc ++ [ch] = (s.data.toList.take (i + 1)).filter isNm) := by show _ = _; rw [htk]; simp
        have hcs : (97 ≤ ch.toNat ∧ ch.toNat ≤ 122) ∨ (65 ≤ ch.toNat ∧ ch.toNat ≤ 90) ∨ (48 ≤ ch.toNat ∧ ch.toNat ≤ 57) ∨ ch.toNat = 95 := by
          simp only [isNm, isLt, isDg, Bool.or_eq_true, Bool.and_eq_true, decide_eq_true_eq] at hn
          omega
        clear hA htk hn
        rcases hcs with ⟨e1, e2⟩ | ⟨e1, e2⟩ | ⟨e1, e2⟩ | e1
        · have f1 : (97 : Int) ≤ (ch.toNat : Int) := by omega
          have f2 : (ch.toNat : Int) ≤ 122 := by omega
          go_wp2_with (at_builtin; go_must (refine push_B rfl _ _ 38 rfl Tryd.underlying38 w.heap.size _ acc rfl (HO.out.alloc _) wr.heap.size 1 ch rfl (by simp) (by omega) (by rw [World.size_alloc]; have := HB.out.size; omega) ?_); intro v' w3 hO1 hgr hb1; obtain ⟨A3, c3, rfl⟩ := formB hO1; rw [show (acc ++ [ch]).length = acc.length + 1 by simp] at hO1 ⊢)
          exact ⟨⟨i + 1, acc ++ [ch], A3, c3, by go_num, by rw [List.length_append]; rfl, by omega, HAc, by simp; omega, by rw [List.length_append]; exact hO1, (HB.out.alloc HB.out.size _).trans hb1⟩, by simp [intOf]; omega⟩
        · have f0 : decide ((97 : Int) ≤ (ch.toNat : Int)) = false := by simp; omega
          have f1 : (65 : Int) ≤ (ch.toNat : Int) := by omega
          have f2 : (ch.toNat : Int) ≤ 90 := by omega
          go_wp2_with (at_builtin; go_must (refine push_B rfl _ _ 38 rfl Tryd.underlying38 w.heap.size _ acc rfl (HO.out.alloc _) wr.heap.size 1 ch rfl (by simp) (by omega) (by rw [World.size_alloc]; have := HB.out.size; omega) ?_); intro v' w3 hO1 hgr hb1; obtain ⟨A3, c3, rfl⟩ := formB hO1; rw [show (acc ++ [ch]).length = acc.length + 1 by simp] at hO1 ⊢)
          exact ⟨⟨i + 1, acc ++ [ch], A3, c3, by go_num, by rw [List.length_append]; rfl, by omega, HAc, by simp; omega, by rw [List.length_append]; exact hO1, (HB.out.alloc HB.out.size _).trans hb1⟩, by simp [intOf]; omega⟩
        · have f0 : decide ((97 : Int) ≤ (ch.toNat : Int)) = false := by simp; omega
          have f00 : decide ((65 : Int) ≤ (ch.toNat : Int)) = false := by simp; omega
          have f1 : (48 : Int) ≤ (ch.toNat : Int) := by omega
          have f2 : (ch.toNat : Int) ≤ 57 := by omega
          go_wp2_with (at_builtin; go_must (refine push_B rfl _ _ 38 rfl Tryd.underlying38 w.heap.size _ acc rfl (HO.out.alloc _) wr.heap.size 1 ch rfl (by simp) (by omega) (by rw [World.size_alloc]; have := HB.out.size; omega) ?_); intro v' w3 hO1 hgr hb1; obtain ⟨A3, c3, rfl⟩ := formB hO1; rw [show (acc ++ [ch]).length = acc.length + 1 by simp] at hO1 ⊢)
          exact ⟨⟨i + 1, acc ++ [ch], A3, c3, by go_num, by rw [List.length_append]; rfl, by omega, HAc, by simp; omega, by rw [List.length_append]; exact hO1, (HB.out.alloc HB.out.size _).trans hb1⟩, by simp [intOf]; omega⟩
        · have f3 : (ch.toNat : Int) = 95 := by omega
          go_wp2_with (at_builtin; go_must (refine push_B rfl _ _ 38 rfl Tryd.underlying38 w.heap.size _ acc rfl (HO.out.alloc _) wr.heap.size 1 ch rfl (by simp [e1]) (by omega) (by rw [World.size_alloc]; have := HB.out.size; omega) ?_); intro v' w3 hO1 hgr hb1; obtain ⟨A3, c3, rfl⟩ := formB hO1; rw [show (acc ++ [ch]).length = acc.length + 1 by simp] at hO1 ⊢)
          exact ⟨⟨i + 1, acc ++ [ch], A3, c3, by go_num, by rw [List.length_append]; rfl, by omega, HAc, by simp; omega, by rw [List.length_append]; exact hO1, (HB.out.alloc HB.out.size _).trans hb1⟩, by simp [intOf]; omega⟩
    · have hfin : Hid (nameL s.data.toList = if acc = [] then [118] else acc) := by
        have hpre : (s.data.toList.filter isNm).take 32 = acc := by
          have hsp : s.data.toList.filter isNm = acc ++ (s.data.toList.drop i).filter isNm := by
            rw [hA.out, ← List.filter_append, List.take_append_drop]
          rw [hsp]
          by_cases h32 : acc.length = 32
          · rw [← h32, List.take_left]
          · have hi2 : s.size ≤ i := by omega
            rw [List.drop_of_length_le (by simpa using hi2), List.filter_nil, List.append_nil]
            exact List.take_of_length_le (by omega)
        show nameL _ = _
        unfold nameL
        rw [hpre]
      have HF := hfin
      rw [HR.out] at HF
      clear hfin hA
      by_cases he : acc = []
      · subst he
        rw [if_pos rfl] at HF
        have HF2 : Hid (r = [118]) := HF
        have hd : decide ((i : Int) < (s.size : Int)) = false := by simp at hlt ⊢; omega
        have hge : s.size ≤ i := by simp at hlt; omega
        have hd2 : decide (i < s.size) = false := by simp; omega
        have hgei : (s.size : Int) ≤ (i : Int) := by omega
        clear HF HR hlt ha
        go_wp2_with fail
        go_ret
        refine ⟨?_, HB.out⟩
        rw [HF2.out]; rfl
      · rw [if_neg he] at HF
        have HF2 : Hid (r = acc) := HF
        have hal : 0 < acc.length := List.length_pos_iff.2 he
        have hz : ((acc.length : Int) == 0) = false := by simp; omega
        obtain ⟨g, rfl⟩ : ∃ g, A = some ⟨g, 0, none⟩ := by
          rcases HO.out.2 with ⟨e, _⟩ | ⟨g, cap, cur, e, _⟩
          · injection e with e1 e2 e3; omega
          · injection e with e1 e2 e3; exact ⟨g, e1⟩
        have hcv := HO.out.conv rfl
        clear HF HR
        by_cases hi2 : i < s.size
        · have h1 : (i : Int) < (s.size : Int) := by omega
          have hd : decide ((acc.length : Int) < 32) = false := by simp; omega
          go_wp2
          go_ret
          refine ⟨?_, HB.out⟩
          rw [HF2.out]; rfl
        · have hd : decide ((i : Int) < (s.size : Int)) = false := by simp; omega
          go_wp2
          go_ret
          refine ⟨?_, HB.out⟩
          rw [HF2.out]; rfl
theorem nameL_facts (l : List UInt8) : 0 < (nameL l).length ∧ (nameL l).length ≤ 32 ∧ ∀ c ∈ nameL l, isNm c = true := by
  unfold nameL
  split
  · exact ⟨by simp, by simp, by intro c hc; simp at hc; subst hc; decide⟩
  · rename_i h
    refine ⟨List.length_pos_iff.2 h, by rw [List.length_take]; omega, fun c hc => ?_⟩
    exact (List.mem_filter.1 (List.mem_of_mem_take hc)).2
end Go.Proofs
