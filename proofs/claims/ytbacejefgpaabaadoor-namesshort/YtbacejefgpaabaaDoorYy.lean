/-
  names: the lines of the statement, by thinking.
-/
import Derived.Test.YtbacejefgpaabaaDoorYf
import Derived.Test.YtbacejefgpaabaaDoorYx
import Derived.Test.YtbacejefgpaabaaDoorGx
namespace Go.Proofs
open Go.RowKit Go.Shelf

set_option maxRecDepth 100000

theorem line_any (x : It) (pa : Option Addr) (pn pc : Nat) (l : List (It × Value)) (IA : Option Addr) (ic : Nat) (il : List (It × Value)) (cu : Int) (w : World) (hx : ItemOk w x (.slice pa pn pc) l) (hin : PRow w (.slice IA il.length ic) il) (hok : ∀ p ∈ il, p.1.k ≠ 3 ∧ p.1.nm.size ≤ maxLen ∧ ∃ a n c, p.2 = .slice a n c) (hl : il.length ≤ 1000) :
    Calls Tryd.prog 18 #[x.val (.slice pa pn pc), .slice IA il.length ic, .int .i64 cu] w fun e w' => ∃ (lv : LV) (sv xv : Value), e = .returned lv.val ∧ LineOk w' lv (.rl (lnOf x (.slice pa pn pc) l sv xv il cu)) ∧ Below w.heap.size w w' := by
  obtain ⟨xk, xu, xnm, xlo, xhi, xnt, xky⟩ := x
  refine (line_walk xk xu xnm pa pn pc xlo xhi xnt xky IA il.length ic cu il w rfl hin (fun q hq => (hok q hq).2.2) hl).mono ?_
  rintro e w' ⟨A, c, a, k, p, r, rfl, ⟨s, ⟨ga, rfl, ha⟩, ⟨gk, rfl, hk⟩, ⟨gp, rfl, hp⟩, ⟨gr, rfl, hr⟩, ⟨gs, rfl, hs⟩⟩, hP, hB⟩
  have hx' := hx.below hB
  refine ⟨⟨2, 0, ⟨#[]⟩, false, true, some ⟨ga, 0, none⟩, some ⟨gk, 0, none⟩, some ⟨gp, 0, none⟩, some ⟨gr, 0, none⟩, 2, 2, 1, 3, 2, 2, 1, 3, cu⟩, .slice A (il.length + 1) c, .slice (some ⟨gs, 0, none⟩) 1 1, rfl, ⟨rfl, rfl, rfl, rfl, ?_, ?_, ?_, ?_⟩, hB⟩
  · refine ⟨show 2 ≤ 1000000 by decide, fun q hq => ?_, .inr ⟨ga, 0, 2, rfl, fun _ _ => blk_lt ha, fun j hj => ?_⟩⟩
    · simp only [lnOf, List.mem_cons, List.not_mem_nil, or_false] at hq
      rcases hq with rfl | rfl
      · exact hx'
      · exact item_plain (show (1 : Int) ≠ 3 by decide) (show (1 : Int) ≠ 5 by decide) (show (⟨#[]⟩ : ByteArray).size ≤ 1 by decide)
    · have : j = 0 ∨ j = 1 := by have : j < 2 := hj; omega
      rcases this with rfl | rfl
      · exact itAtB ha 0 _ _ rfl
      · exact itAtB ha 8 (xU 97) nl rfl
  · refine ⟨show 2 ≤ 1000000 by decide, fun q hq => ?_, .inr ⟨gk, 0, 2, rfl, fun _ _ => blk_lt hk, fun j hj => ?_⟩⟩
    · simp only [lnOf, List.mem_cons, List.not_mem_nil, or_false] at hq
      rcases hq with rfl | rfl
      · exact hx'
      · exact hx'
    · have : j = 0 ∨ j = 1 := by have : j < 2 := hj; omega
      rcases this with rfl | rfl
      · exact itAtB hk 0 _ _ rfl
      · exact itAtB hk 8 _ _ rfl
  · obtain ⟨A', c', e, h⟩ := hP
    simp only [Value.slice.injEq] at e
    obtain ⟨rfl, _, rfl⟩ := e
    obtain ⟨g, o, rfl, hg, hI⟩ := h.resolve_left (by simp)
    refine irow_one (blk_lt hp) (itAtB hp 0 xS _ rfl) ⟨show (5 : Int) ≠ 3 by decide, small_nm _ (show (⟨#[]⟩ : ByteArray).size ≤ 1 by decide), ⟨_, _, _, rfl⟩, fun _ => ⟨g, o, _, rfl, by simp; omega, fun q hq => ?_, fun _ _ => hg, hI⟩⟩
    rw [List.mem_cons] at hq
    rcases hq with rfl | hq
    · exact ⟨show (1 : Int) ≠ 3 by decide, small_nm _ (show (⟨#[]⟩ : ByteArray).size ≤ 1 by decide), _, _, _, rfl⟩
    · exact hok q hq
  · refine ⟨show 3 ≤ 1000000 by decide, fun q hq => ?_, .inr ⟨gr, 0, 3, rfl, fun _ _ => blk_lt hr, fun j hj => ?_⟩⟩
    · simp only [lnOf, List.mem_cons, List.not_mem_nil, or_false] at hq
      rcases hq with rfl | rfl | rfl
      · exact ⟨⟨_, _, _, rfl⟩, .inr (.inr ⟨rfl, show (1 : Int) ≤ 1 by decide, show (1 : Int) ≤ 4611686018427387904 by decide, ⟨_, _, _, rfl⟩, gs, 0, 1, rfl, blk_lt hs, itAtB hs 0 _ _ rfl, hx'⟩)⟩
      · exact ⟨⟨_, _, _, rfl⟩, .inr (.inl ⟨rfl, show (1 : Int) ≤ 2 by decide, show (2 : Int) ≤ 4611686018427387904 by decide⟩)⟩
      · exact ⟨⟨_, _, _, rfl⟩, .inl rfl⟩
    · have : j = 0 ∨ j = 1 ∨ j = 2 := by have : j < 3 := hj; omega
      rcases this with rfl | rfl | rfl
      · exact itAtB hr 0 xP _ rfl
      · exact itAtB hr 8 xC nl rfl
      · exact itAtB hr 16 (xU 99) nl rfl
/-- the rule of such a line -/
def ruleOf (r0 rP : List (Int × Int)) (cu : Int) : Rl := ⟨false, true, cu, [r0, clips 97 97], [r0, r0], [rP], [⟨3, 0, 0, r0⟩, ⟨2, 0, 1, []⟩, ⟨1, 99, 0, []⟩]⟩
theorem eachC_all {K : ByteArray → Option (List (Int × Int))} {l : List PIt} {c : Int} {rs : List (List (Int × Int))} {r0 : List (List (Int × Int))} (hl : r0.length = l.length) (hd : ∀ (j : Nat) (hj : j < l.length) (c : Int) (r : List (Int × Int)), SetC K l[j].x (l[j].l.map Prod.fst) c r → c = 0 ∧ r = r0[j]'(by omega)) (h : EachC K l c rs) : c = 0 ∧ rs = r0 := by
  rcases h with ⟨h1, h2, h3⟩ | ⟨hc, k, hk, _, r, hr⟩
  · refine ⟨h1, List.ext_getElem (by omega) (fun j a b => (hd j (by omega) _ _ (h3 j (by omega) a)).2)⟩
  · exact absurd (hd k hk _ _ hr).1 hc
theorem eachP_all {K : ByteArray → Option (List (Int × Int))} {l : List RIt} {c : Int} {rs : List Pc} {r0 : List Pc} (hl : r0.length = l.length) (hd : ∀ (j : Nat) (hj : j < l.length) (c : Int) (r : Pc), PieceC K l[j] c r → c = 0 ∧ r = r0[j]'(by omega)) (h : EachP K l c rs) : c = 0 ∧ rs = r0 := by
  rcases h with ⟨h1, h2, h3⟩ | ⟨hc, k, hk, _, r, hr⟩
  · refine ⟨h1, List.ext_getElem (by omega) (fun j a b => (hd j (by omega) _ _ (h3 j (by omega) a)).2)⟩
  · exact absurd (hd k hk _ _ hr).1 hc
theorem ruleC_line {K : ByteArray → Option (List (Int × Int))} {x : It} {psv sv xv : Value} {l il : List (It × Value)} {cu c cP : Int} {r0 rP : List (Int × Int)} {r : Rl} (hd : ∀ c r, SetC K x (l.map Prod.fst) c r → c = 0 ∧ r = r0) (hp : ∀ c r, SetC K xS (xU 98 :: il.map Prod.fst) c r → c = cP ∧ (cP = 0 → r = rP)) (h : RuleC K (lnOf x psv l sv xv il cu) c r) : c = cP ∧ (cP = 0 → r = ruleOf r0 rP cu) := by
  have u97 : isU 97 := by simp [isU]
  have u99 : isU 99 := by simp [isU]
  obtain ⟨ca, ra, h1, h⟩ := h
  obtain ⟨rfl, rfl⟩ := eachC_all (r0 := [r0, clips 97 97]) rfl (fun j hj c r h => by
    have : j = 0 ∨ j = 1 := by have : j < 2 := hj; omega
    rcases this with rfl | rfl
    · exact hd c r h
    · exact setC_unit (x := xU 97) rfl u97 h) h1
  rcases h with ⟨e, _⟩ | ⟨_, ck, rk, h2, h⟩
  · exact absurd rfl e
  obtain ⟨rfl, rfl⟩ := eachC_all (r0 := [r0, r0]) rfl (fun j hj c r h => by
    have : j = 0 ∨ j = 1 := by have : j < 2 := hj; omega
    rcases this with rfl | rfl
    · exact hd c r h
    · exact hd c r h) h2
  rcases h with ⟨e, _⟩ | ⟨_, cp, rp, h3, h⟩
  · exact absurd rfl e
  have h3' : cp = cP ∧ (cP = 0 → rp = [rP]) := by
    rcases h3 with ⟨g1, g2, g3⟩ | ⟨hc, k, hk, _, r, hr⟩
    · obtain ⟨y, rfl⟩ : ∃ y, rp = [y] := List.length_eq_one_iff.1 g2
      have h4 := hp _ _ (g3 0 (by simp [lnOf]) (by simp))
      exact ⟨g1.trans h4.1, fun e => by rw [show y = rP from h4.2 e]⟩
    · obtain rfl : k = 0 := by have : k < 1 := hk; omega
      have h4 := hp _ _ hr
      exact ⟨h4.1, fun e => absurd (h4.1.trans e) hc⟩
  rcases h with ⟨e, h⟩ | ⟨e, cr, rr, h4, h⟩
  · exact ⟨h.trans h3'.1, fun e0 => absurd (h3'.1.trans e0) e⟩
  have ecP : cP = 0 := h3'.1.symm.trans e
  obtain rfl := h3'.2 ecP
  obtain ⟨rfl, rfl⟩ := eachP_all (r0 := [⟨3, 0, 0, r0⟩, ⟨2, 0, 1, []⟩, ⟨1, 99, 0, []⟩]) rfl (fun j hj c r h => by
    have : j = 0 ∨ j = 1 ∨ j = 2 := by have : j < 3 := hj; omega
    rcases this with rfl | rfl | rfl
    · rcases h with ⟨h, _⟩ | ⟨h, _⟩ | ⟨_, s, h, h'⟩
      · exact absurd h (show (8 : Int) ≠ 1 by decide)
      · exact absurd h (show (8 : Int) ≠ 7 by decide)
      · obtain ⟨e1, e2⟩ := hd c s h
        exact ⟨e1, by rw [h', e2]; rfl⟩
    · rcases h with ⟨h, _⟩ | ⟨_, h, h'⟩ | ⟨h, _⟩
      · exact absurd h (show (7 : Int) ≠ 1 by decide)
      · exact ⟨h, h'⟩
      · exact absurd h (show (7 : Int) ≠ 8 by decide)
    · rcases h with ⟨_, h, h'⟩ | ⟨h, _⟩ | ⟨h, _⟩
      · exact ⟨h.trans (spanC_unit (u := 99) u99), h'⟩
      · exact absurd h (show (1 : Int) ≠ 7 by decide)
      · exact absurd h (show (1 : Int) ≠ 8 by decide)) h4
  rcases h with ⟨e, _⟩ | ⟨_, h5, h6⟩
  · exact absurd rfl e
  · exact ⟨h5.trans ecP.symm, fun _ => h6⟩
end Go.Proofs
namespace Go.Proofs
open Go.RowKit Go.Shelf

set_option maxRecDepth 100000

/-- the items of ranges -/
abbrev xG (r : Int × Int) : It := ⟨6, 0, ⟨#[]⟩, r.1, r.2, false, 0⟩
def rngs (s : List (Int × Int)) : List (It × Value) := s.map (fun r => (xG r, nl))
theorem rngs_fst (s : List (Int × Int)) : (rngs s).map Prod.fst = s.map xG := by simp [rngs]
abbrev xM (nm : ByteArray) : It := ⟨2, 0, nm, 0, 0, false, 0⟩
abbrev xT : It := ⟨5, 0, ⟨#[]⟩, 0, 0, true, 0⟩
theorem whole_units {r : Int × Int} (h : Whole r) {u : Int} (h1 : r.1 ≤ u) (h2 : u ≤ r.2) : isU u := by
  have := h.2
  unfold isU
  omega
theorem clips_self {r : Int × Int} (h : Whole r) : clips r.1 r.2 = [r] := by
  refine good_unique _ _ (clips_good _ _) ⟨fun x hx => ?_, by simp⟩ (fun u => ?_)
  · obtain rfl : x = r := by simpa using hx
    exact h
  · rw [clips_has]
    constructor
    · rintro ⟨_, h1, h2⟩
      exact ⟨r, by simp, h1, h2⟩
    · rintro ⟨x, hx, h1, h2⟩
      obtain rfl : x = r := by simpa using hx
      exact ⟨whole_units h h1 h2, h1, h2⟩
theorem span_whole {r : Int × Int} (h : Whole r) : spanC r.1 r.2 = 0 := by
  unfold spanC
  refine if_pos ⟨h.1, ?_⟩
  have h1 := h.1
  have h2 := h.2
  simp only [hasU, runesL, straysL, List.mem_cons, List.not_mem_nil, or_false, exists_eq_or_imp, exists_eq_left]
  omega
section
variable {K : ByteArray → Option (List (Int × Int))} {s : List (Int × Int)}
theorem part_rng {r : Int × Int} (h : Whole r) : partC K (xG r) = 0 ∧ partL K (xG r) = [r] := by
  unfold partC partL
  rw [if_pos rfl, if_pos rfl]
  exact ⟨span_whole h, clips_self h⟩
theorem parts_rngs (h : Good s) : partsL K (s.map xG) = s := by
  have key : ∀ l : List (Int × Int), (∀ r ∈ l, Whole r) → partsL K (l.map xG) = l := by
    intro l
    induction l with
    | nil => intro _; rfl
    | cons r l ih =>
      intro hl
      show partL K (xG r) ++ partsL K (l.map xG) = r :: l
      rw [(part_rng (hl r (by simp))).2, ih (fun x hx => hl x (by simp [hx]))]
      rfl
  exact key s h.1
theorem canon_good_self (h : Good s) : Canon s s := canon_self h (fun _ hu => good_units h hu)
theorem setC_long (hg : Good s) (hn : s.length ≤ 512) {c : Int} {r : List (Int × Int)} (h : SetC K xS (s.map xG) c r) : c = 0 ∧ r = s :=
  setC_parts rfl rfl (fun y hy => by
    rw [List.mem_map] at hy
    obtain ⟨r, hr, rfl⟩ := hy
    exact (part_rng (hg.1 r hr)).1) (by rw [parts_rngs hg]; exact canon_good_self hg) hn h
theorem setC_not (hg : Good s) (hn : s.length ≤ 512) {c : Int} {r : List (Int × Int)} (h : SetC K xT (s.map xG) c r) : c = 0 ∨ c = 21 := by
  rcases h with ⟨e, _⟩ | ⟨_, h⟩ | ⟨_, e, _⟩
  · exact absurd e (show (5 : Int) ≠ 4 by decide)
  · obtain ⟨c1, s1, h1, h2⟩ := h
    obtain ⟨rfl, rfl⟩ := setC_long (K := K) hg hn (.inr (.inl ⟨rfl, c1, s1, h1, .inl ⟨.inl rfl, rfl, rfl⟩⟩))
    rcases h2 with ⟨e, _⟩ | ⟨_, _, t, _, h3⟩
    · rcases e with e | e
      · cases e
      · exact absurd rfl e
    · rcases h3 with h3 | h3
      · exact .inl h3.2.1
      · exact .inr h3.2.1
  · exact absurd rfl e
theorem setC_short {nm : ByteArray} (hk : K nm = some s) (hv : validB s = true) {c : Int} {r : List (Int × Int)} {l : List It} (h : SetC K (xM nm) l c r) : c = 0 ∧ r = s := by
  obtain ⟨h1, h2⟩ := setC_name (x := xM nm) rfl h
  rw [show (xM nm).nm = nm from rfl, hk] at h1 h2
  exact ⟨h1.trans (by simp [nameC, hv]), h2⟩
end
/-- what the set with one unit more is, or that there is none -/
structure More (s : List (Int × Int)) (cP : Int) (rP : List (Int × Int)) : Prop where
  two : cP = 0 ∨ cP = 21
  len : cP = 0 → rP.length ≤ 512
  can : ∀ t, Canon ((98, 98) :: s) t → (t.length ≤ 512 ∧ cP = 0 ∧ rP = t) ∨ (512 < t.length ∧ cP = 21)
theorem more_ex (s : List (Int × Int)) : ∃ cP rP, More s cP rP := by
  by_cases h : ∃ t, Canon ((98, 98) :: s) t
  · obtain ⟨t, ht⟩ := h
    by_cases hl : t.length ≤ 512
    · exact ⟨0, t, .inl rfl, fun _ => hl, fun u hu => .inl ⟨by rw [canon_unique hu ht]; exact hl, rfl, canon_unique ht hu⟩⟩
    · exact ⟨21, [], .inr rfl, fun e => absurd e (by decide), fun u hu => .inr ⟨by rw [canon_unique hu ht]; omega, rfl⟩⟩
  · exact ⟨0, [], .inl rfl, fun _ => by simp, fun u hu => absurd ⟨u, hu⟩ h⟩
theorem setC_more {K : ByteArray → Option (List (Int × Int))} {s : List (Int × Int)} {cP : Int} {rP : List (Int × Int)} (hM : More s cP rP) {l : List It} (h0 : ∀ y ∈ l, partC K y = 0) (hl : partsL K l = s) {c : Int} {r : List (Int × Int)} (h : SetC K xS (xU 98 :: l) c r) : c = cP ∧ (cP = 0 → r = rP) := by
  have u98 : isU 98 := by simp [isU]
  have hp : partsC K (xU 98 :: l) = 0 := partsC_ok K _ (fun y hy => by
    rw [List.mem_cons] at hy
    rcases hy with rfl | hy
    · exact (unitC (x := xU 98) rfl u98).2.1
    · exact h0 y hy)
  have hL : partsL K (xU 98 :: l) = (98, 98) :: s := by
    show partL K (xU 98) ++ partsL K l = _
    rw [(unitC (x := xU 98) rfl u98).2.2.2, hl]
    rfl
  rcases h with ⟨e, _⟩ | ⟨_, h⟩ | ⟨_, e, _⟩
  · exact absurd e (show (5 : Int) ≠ 4 by decide)
  · obtain ⟨c1, s1, h1, h2⟩ := h
    have e : c = c1 ∧ r = s1 := by
      rcases h2 with h2 | h2
      · exact h2.2
      · exact absurd h2.1 (by decide)
    obtain ⟨rfl, rfl⟩ := e
    rcases h1 with ⟨e, _⟩ | ⟨_, t, ht, h3⟩
    · exact absurd hp e
    · rw [hL] at ht
      rcases hM.can t ht with ⟨g1, g2, g3⟩ | ⟨g1, g2⟩
      · rcases h3 with ⟨_, e1, e2⟩ | ⟨e, _⟩
        · exact ⟨e1.trans g2.symm, fun _ => e2.trans g3.symm⟩
        · omega
      · rcases h3 with ⟨e, _⟩ | ⟨_, e1, _⟩
        · omega
        · exact ⟨e1.trans g2.symm, fun e0 => by rw [g2] at e0; exact absurd e0 (by decide)⟩
  · exact absurd rfl e
/-- the long form -/
theorem long_passes {s : List (Int × Int)} {cP : Int} {rP : List (Int × Int)} (hg : Good s) (hn : s.length ≤ 512) (hM : More s cP rP) {pv v1 x1 v2 x2 : Value} {cu c n : Int} {ps : List (List Rl)}
    (h : PassesC [.rl (lnOf xS pv (rngs s) v1 x1 (rngs s) cu), .th, .rl (lnOf xS pv (rngs s) v2 x2 (rngs s) cu)] (fun _ => none) [[]] 0 c n ps) : (cP = 0 ∧ c = 0 ∧ n = 0 ∧ ps = [[ruleOf s rP cu], [ruleOf s rP cu]]) ∨ (cP ≠ 0 ∧ c = cP ∧ n = 0) := by
  have hr : ∀ {v x : Value} {c r}, RuleC (fun _ => none) (lnOf xS pv (rngs s) v x (rngs s) cu) c r → c = cP ∧ (cP = 0 → r = ruleOf s rP cu) := fun h => ruleC_line (fun c r h => by rw [rngs_fst] at h; exact setC_long hg hn h) (fun c r h => by
    rw [rngs_fst] at h
    exact setC_more hM (fun y hy => by
      rw [List.mem_map] at hy
      obtain ⟨r, hr, rfl⟩ := hy
      exact (part_rng (hg.1 r hr)).1) (parts_rngs hg) h) h
  obtain ⟨c1, K1, ps1, ⟨i, q, r, hi, h1, rfl, rfl⟩, h⟩ := h
  obtain ⟨rfl, rfl⟩ : i = [] ∧ q = [] := by
    cases i with
    | nil => simpa using hi.symm
    | cons y i => simp at hi
  obtain ⟨e1, e2⟩ := hr h1
  rcases h with ⟨g1, g2, g3⟩ | ⟨g1, h⟩
  · exact .inr ⟨fun e => g1 (e1.trans e), g2.trans e1, g3⟩
  have ecP : cP = 0 := e1.symm.trans g1
  obtain rfl := e2 ecP
  obtain ⟨c2, K2, ps2, ⟨rfl, rfl, rfl⟩, h⟩ := h
  rcases h with ⟨g, _⟩ | ⟨_, h⟩
  · exact absurd rfl g
  obtain ⟨c3, K3, ps3, ⟨i, q, r, hi, h3, rfl, rfl⟩, h⟩ := h
  obtain ⟨rfl, rfl⟩ : i = [[ruleOf s rP cu]] ∧ q = [] := by
    have := List.append_inj' hi (by simp)
    exact ⟨by simpa using this.1.symm, by simpa using this.2.symm⟩
  obtain ⟨e3, e4⟩ := hr h3
  obtain rfl := e4 ecP
  rcases h with ⟨g, _⟩ | ⟨_, g2, g3, g4⟩
  · exact absurd (e3.trans ecP) g
  · exact .inl ⟨ecP, g2, g3, by rw [g4]; rfl⟩
/-- the short form -/
theorem short_passes {s : List (Int × Int)} {cP : Int} {rP : List (Int × Int)} (hv : validB s = true) (hM : More s cP rP) {nm un : ByteArray} (hne : nm.data.toList ≠ un.data.toList) {pv v1 x1 v2 x2 : Value} {cu c n : Int} {ps : List (List Rl)}
    (h : PassesC [.nm un ⟨xT, pv, rngs s⟩, .nm nm ⟨xS, pv, rngs s⟩, .rl (lnOf (xM nm) nl [] v1 x1 [(xM nm, nl)] cu), .th, .rl (lnOf (xM nm) nl [] v2 x2 [(xM nm, nl)] cu)] (fun _ => none) [[]] 0 c n ps) :
    (cP = 0 ∧ c = 0 ∧ n = 0 ∧ ps = [[ruleOf s rP cu], [ruleOf s rP cu]]) ∨ (c = 21 ∧ n = 0) ∨ (cP = 21 ∧ c = 21 ∧ n = 2) := by
  obtain ⟨hn, hg⟩ := (validB_iff s).1 hv
  obtain ⟨c1, K1, ps1, h1, h⟩ := h
  rcases h1 with ⟨h1, _⟩ | ⟨_, r1, h1, rfl, rfl⟩
  · cases h1
  rw [rngs_fst] at h1
  rcases h with ⟨g1, g2, g3⟩ | ⟨rfl, h⟩
  · rcases setC_not hg hn h1 with e | e
    · exact absurd e g1
    · exact .inr (.inl ⟨g2.trans e, g3⟩)
  obtain ⟨c2, K2, ps2, h2, h⟩ := h
  have hk1 : addK (fun _ => none) un r1 nm = none := by simp [addK, hne]
  rcases h2 with ⟨h2, _⟩ | ⟨_, r2, h2, rfl, rfl⟩
  · rw [hk1] at h2; cases h2
  rw [rngs_fst] at h2
  obtain ⟨rfl, rfl⟩ := setC_long hg hn h2
  rcases h with ⟨g, _⟩ | ⟨_, h⟩
  · exact absurd rfl g
  have hk2 : addK (addK (fun _ => none) un r1) nm r2 nm = some r2 := by simp [addK]
  generalize addK (addK (fun _ => none) un r1) nm r2 = K at hk2 h
  have hr : ∀ {v x : Value} {c r}, RuleC K (lnOf (xM nm) nl [] v x [(xM nm, nl)] cu) c r → c = cP ∧ (cP = 0 → r = ruleOf r2 rP cu) := fun h => ruleC_line (fun c r h => setC_short hk2 hv h) (fun c r h => setC_more hM (fun y hy => by
      obtain rfl : y = xM nm := by simpa using hy
      simp [partC, plainC, hk2, nameC, hv]) (by
      show partL K (xM nm) ++ [] = r2
      simp [partL, plainL, hk2, nameL]) h) h
  obtain ⟨c3, K3, ps3, ⟨i, q, r, hi, h3, rfl, rfl⟩, h⟩ := h
  obtain ⟨rfl, rfl⟩ : i = [] ∧ q = [] := by
    cases i with
    | nil => simpa using hi.symm
    | cons y i => simp at hi
  obtain ⟨e1, e2⟩ := hr h3
  rcases h with ⟨g1, g2, g3⟩ | ⟨g1, h⟩
  · rcases hM.two with e | e
    · exact absurd (e1.trans e) g1
    · exact .inr (.inr ⟨e, g2.trans (e1.trans e), g3⟩)
  have ecP : cP = 0 := e1.symm.trans g1
  obtain rfl := e2 ecP
  obtain ⟨c4, K4, ps4, ⟨rfl, rfl, rfl⟩, h⟩ := h
  rcases h with ⟨g, _⟩ | ⟨_, h⟩
  · exact absurd rfl g
  obtain ⟨c5, K5, ps5, ⟨i, q, r, hi, h5, rfl, rfl⟩, h⟩ := h
  obtain ⟨rfl, rfl⟩ : i = [[ruleOf r2 rP cu]] ∧ q = [] := by
    have := List.append_inj' hi (by simp)
    exact ⟨by simpa using this.1.symm, by simpa using this.2.symm⟩
  obtain ⟨e3, e4⟩ := hr h5
  obtain rfl := e4 ecP
  rcases h with ⟨g, _⟩ | ⟨_, g2, g3, g4⟩
  · exact absurd (e3.trans ecP) g
  · exact .inl ⟨ecP, g2, g3, by rw [g4]; rfl⟩
theorem rule_small {s rP : List (Int × Int)} {cu : Int} (hs : s.length ≤ 512) (hp : rP.length ≤ 512) : Small (ruleOf s rP cu) := by
  have hc : (clips 97 97).length ≤ 512 := by decide
  refine ⟨⟨by simp [ruleOf], fun l hl => ?_⟩, ⟨by simp [ruleOf], fun l hl => ?_⟩, ⟨by simp [ruleOf], fun l hl => ?_⟩, ⟨by simp [ruleOf], fun p hp => ?_⟩⟩
  · simp only [ruleOf, List.mem_cons, List.not_mem_nil, or_false] at hl
    rcases hl with rfl | rfl
    · exact hs
    · exact hc
  · simp only [ruleOf, List.mem_cons, List.not_mem_nil, or_false] at hl
    rcases hl with rfl | rfl <;> exact hs
  · simp only [ruleOf, List.mem_cons, List.not_mem_nil, or_false] at hl
    rw [hl]; exact hp
  · simp only [ruleOf, List.mem_cons, List.not_mem_nil, or_false] at hp
    rcases hp with rfl | rfl | rfl
    · exact hs
    · simp
    · simp
end Go.Proofs
namespace Go.Proofs
open Go.RowKit Go.Shelf

set_option maxRecDepth 100000

abbrev lvc (v : LV) : List Value := lnc v.k v.at' v.nm v.bg v.en (.slice v.A1 v.n1 v.c1) (.slice v.A2 v.n2 v.c2) (.slice v.A3 v.n3 v.c3) (.slice v.A4 v.n4 v.c4) v.cu
theorem lnAtB {W : World} {g : Nat} {cs : List Value} {t : TypeId} {f : Nat × Nat} (hb : W.heap[g]? = some (.cells cs.toArray t f)) (o : Nat) (v : LV) (h : (cs.drop o).take 10 = lvc v) : LnAt W g o v := by
  have key : ∀ j, j < 10 → W.cell? ⟨g, o + j, none⟩ = (lvc v)[j]? := fun j hj => by
    rw [cellB hb, ← h, List.getElem?_take_of_lt hj, List.getElem?_drop]
  exact ⟨key 0 (by omega), key 1 (by omega), key 2 (by omega), key 3 (by omega), key 4 (by omega), key 5 (by omega), key 6 (by omega), key 7 (by omega), key 8 (by omega), key 9 (by omega)⟩
/-- an item with these ranges as parts -/
theorem item_rngs {W : World} {VA : Option Addr} {kk VC : Nat} {s : List (Int × Int)} {x : It} (hk : x.k = 5) (hn : x.nm.size ≤ 1) (hs : s.length = kk) (hl : kk ≤ 512) (h : PRow W (.slice VA kk VC) (rngs s)) (hA : ∃ g o, VA = some ⟨g, o, none⟩) : ItemOk W x (.slice VA kk VC) (rngs s) := by
  refine ⟨by rw [hk]; decide, small_nm _ hn, ⟨_, _, _, rfl⟩, fun _ => ?_⟩
  have hlen : (rngs s).length = kk := by simp [rngs, hs]
  obtain ⟨a, c, e, h⟩ := h
  simp only [Value.slice.injEq] at e
  obtain ⟨rfl, _, rfl⟩ := e
  obtain ⟨g, o, rfl⟩ := hA
  refine ⟨g, o, VC, by rw [hlen], by omega, fun p hp => ?_, fun j hj => ?_, fun j hj => ?_⟩
  · simp only [rngs, List.mem_map] at hp
    obtain ⟨r, _, rfl⟩ := hp
    exact ⟨show (6 : Int) ≠ 3 by decide, small_nm _ (show (⟨#[]⟩ : ByteArray).size ≤ 1 by decide), _, _, _, rfl⟩
  · rcases h with h | ⟨g', o', e, hg, _⟩
    · rw [h] at hj; simp at hj
    · cases e; exact hg
  · rcases h with h | ⟨g', o', e, _, hI⟩
    · rw [h] at hj; simp at hj
    · cases e; exact hI j hj
/-- a name's line -/
theorem name_ok {W : World} {n : ByteArray} {g : Nat} {q : PIt} (hn : n.size ≤ maxLen) (hb : W.heap[g]? = some (.cells (itc q.x.k q.x.u q.x.nm q.v q.x.lo q.x.hi q.x.nt q.x.ky).toArray 24 (0, 0))) (hv : ∃ a n c, q.v = .slice a n c) (hk : ItemOk W q.x q.v q.l) : LineOk W ⟨1, 0, n, false, false, none, some ⟨g, 0, none⟩, none, none, 0, 1, 0, 0, 0, 1, 0, 0, 0⟩ (.nm n q) :=
  ⟨rfl, rfl, hn, hv, hk, g, 0, rfl, rfl, blk_lt hb, itAtB hb 0 q.x q.v rfl⟩
def F14 (cP : Int) (R : Rl) (c n : Int) (ps : List (List Rl)) : Prop := (cP = 0 ∧ c = 0 ∧ n = 0 ∧ ps = [[R], [R]]) ∨ (c = 21 ∧ n = 0) ∨ (cP = 21 ∧ c = 21 ∧ n = 2)
def F15 (cP : Int) (R : Rl) (c n : Int) (ps : List (List Rl)) : Prop := (cP = 0 ∧ c = 0 ∧ n = 0 ∧ ps = [[R], [R]]) ∨ (cP ≠ 0 ∧ c = cP ∧ n = 0)
/-- an answer of Passes -/
def Answ (F : Int → Int → List (List Rl) → Prop) (v : Value) (w : World) : Prop := ∃ c n ps a m cp, v = .tuple #[.slice a m cp, .int .i64 n, .int .i64 c] ∧ F c n ps ∧ (c = 0 → ∃ base, PassRow w base (.slice a m cp) ps)
theorem Answ.ext {F : Int → Int → List (List Rl) → Prop} {v : Value} {w w' : World} (h : Answ F v w) (k : Ext w w') : Answ F v w' := by
  obtain ⟨c, n, ps, a, m, cp, e, h1, h2⟩ := h
  exact ⟨c, n, ps, a, m, cp, e, h1, fun h0 => by
    obtain ⟨base, hp⟩ := h2 h0
    exact ⟨base, hp.kt (KT.below k) (KT.below k) (KT.below k) (KT.below k) (KT.below k)⟩⟩
/-- a rule's line by the name -/
def LnS (nm : ByteArray) (cu : Int) (lv : LV) (w : World) : Prop := ∃ sv xv, LineOk w lv (.rl (lnOf (xM nm) nl [] sv xv [(xM nm, nl)] cu))
/-- a rule's line by the ranges -/
def LnL (PV : Value) (s : List (Int × Int)) (cu : Int) (lv : LV) (w : World) : Prop := ∃ sv xv, LineOk w lv (.rl (lnOf xS PV (rngs s) sv xv (rngs s) cu))
theorem passes14 {W : World} {s : List (Int × Int)} {VA : Option Addr} {kk VC g : Nat} {nm un : ByteArray} {cu cP : Int} {rP : List (Int × Int)} {sa sb : Value} {lv1 lv2 : LV} (hT : Tab W) (hv : validB s = true) (hne : nm.data.toList ≠ un.data.toList) (hs1 : nm.size ≤ maxLen) (hs2 : un.size ≤ maxLen) (hk : s.length = kk) (hM : More s cP rP) (hP : PRow W (.slice VA kk VC) (rngs s)) (hA : ∃ g o, VA = some ⟨g, o, none⟩)
    (hb : W.heap[g]? = some (.cells (lnc 1 0 un false false nl sa nl nl 0 ++ lnc 1 0 nm false false nl sb nl nl 0 ++ lvc lv1 ++ lnc 3 0 ⟨#[]⟩ false false nl nl nl nl 0 ++ lvc lv2).toArray 53 (0, 0)))
    (h1 : SlB W sa 1 (itc 5 0 ⟨#[]⟩ (.slice VA kk VC) 0 0 true 0) 24) (h2 : SlB W sb 1 (itc 5 0 ⟨#[]⟩ (.slice VA kk VC) 0 0 false 0) 24) (h3 : LnS nm cu lv1 W) (h4 : LnS nm cu lv2 W) :
    Calls Tryd.prog 17 #[.slice (some ⟨g, 0, none⟩) 5 5] W fun e w' => ∃ v, e = .returned v ∧ Answ (F14 cP (ruleOf s rP cu)) v w' ∧ Below W.heap.size W w' := by
  have hl : kk ≤ 512 := by have := ((validB_iff s).1 hv).1; omega
  obtain ⟨ga, rfl, ha⟩ := h1
  obtain ⟨gb, rfl, hgb⟩ := h2
  obtain ⟨v1, x1, h3⟩ := h3
  obtain ⟨v2, x2, h4⟩ := h4
  refine (passes_any g 0 5 [(⟨1, 0, un, false, false, none, some ⟨ga, 0, none⟩, none, none, 0, 1, 0, 0, 0, 1, 0, 0, 0⟩, .nm un ⟨xT, .slice VA kk VC, rngs s⟩), (⟨1, 0, nm, false, false, none, some ⟨gb, 0, none⟩, none, none, 0, 1, 0, 0, 0, 1, 0, 0, 0⟩, .nm nm ⟨xS, .slice VA kk VC, rngs s⟩), (lv1, .rl (lnOf (xM nm) nl [] v1 x1 [(xM nm, nl)] cu)), (⟨3, 0, ⟨#[]⟩, false, false, none, none, none, none, 0, 0, 0, 0, 0, 0, 0, 0, 0⟩, .th), (lv2, .rl (lnOf (xM nm) nl [] v2 x2 [(xM nm, nl)] cu))] W hT (by simp) (blk_lt hb) (fun j hj => ?_) (fun p hp => ?_)).mono ?_
  · have : j = 0 ∨ j = 1 ∨ j = 2 ∨ j = 3 ∨ j = 4 := by have : j < 5 := hj; omega
    rcases this with rfl | rfl | rfl | rfl | rfl
    · exact lnAtB hb 0 _ rfl
    · exact lnAtB hb 10 _ rfl
    · exact lnAtB hb 20 _ rfl
    · exact lnAtB hb 30 _ rfl
    · exact lnAtB hb 40 _ rfl
  · simp only [List.mem_cons, List.not_mem_nil, or_false] at hp
    rcases hp with rfl | rfl | rfl | rfl | rfl
    · exact name_ok hs2 ha ⟨_, _, _, rfl⟩ (item_rngs rfl (show (⟨#[]⟩ : ByteArray).size ≤ 1 by decide) hk hl hP hA)
    · exact name_ok hs1 hgb ⟨_, _, _, rfl⟩ (item_rngs rfl (show (⟨#[]⟩ : ByteArray).size ≤ 1 by decide) hk hl hP hA)
    · exact h3
    · exact rfl
    · exact h4
  · rintro e w' ⟨c, n, ps, a, m, cp, g1, rfl, g3, g4⟩
    exact ⟨_, rfl, ⟨c, n, ps, a, m, cp, rfl, short_passes hv hM hne g1, fun h0 => ⟨_, g3 h0⟩⟩, g4⟩
theorem passes15 {W : World} {s : List (Int × Int)} {PV : Value} {g : Nat} {cu cP : Int} {rP : List (Int × Int)} {lv1 lv2 : LV} (hT : Tab W) (hv : validB s = true) (hM : More s cP rP)
    (hb : W.heap[g]? = some (.cells (lvc lv1 ++ lnc 3 0 ⟨#[]⟩ false false nl nl nl nl 0 ++ lvc lv2).toArray 53 (0, 0))) (h3 : LnL PV s cu lv1 W) (h4 : LnL PV s cu lv2 W) :
    Calls Tryd.prog 17 #[.slice (some ⟨g, 0, none⟩) 3 3] W fun e w' => ∃ v, e = .returned v ∧ Answ (F15 cP (ruleOf s rP cu)) v w' ∧ Below W.heap.size W w' := by
  obtain ⟨hl, hg⟩ := (validB_iff s).1 hv
  obtain ⟨v1, x1, h3⟩ := h3
  obtain ⟨v2, x2, h4⟩ := h4
  refine (passes_any g 0 3 [(lv1, .rl (lnOf xS PV (rngs s) v1 x1 (rngs s) cu)), (⟨3, 0, ⟨#[]⟩, false, false, none, none, none, none, 0, 0, 0, 0, 0, 0, 0, 0, 0⟩, .th), (lv2, .rl (lnOf xS PV (rngs s) v2 x2 (rngs s) cu))] W hT (by simp) (blk_lt hb) (fun j hj => ?_) (fun p hp => ?_)).mono ?_
  · have : j = 0 ∨ j = 1 ∨ j = 2 := by have : j < 3 := hj; omega
    rcases this with rfl | rfl | rfl
    · exact lnAtB hb 0 _ rfl
    · exact lnAtB hb 10 _ rfl
    · exact lnAtB hb 20 _ rfl
  · simp only [List.mem_cons, List.not_mem_nil, or_false] at hp
    rcases hp with rfl | rfl | rfl
    · exact h3
    · exact rfl
    · exact h4
  · rintro e w' ⟨c, n, ps, a, m, cp, g1, rfl, g3, g4⟩
    exact ⟨_, rfl, ⟨c, n, ps, a, m, cp, rfl, long_passes hg hl hM g1, fun h0 => ⟨_, g3 h0⟩⟩, g4⟩
def prj (k : Nat) (v : Value) : Value := match v with
  | .tuple cs => cs.getD k undef
  | _ => undef
/-- what each operation of the first literal leaves -/
def m14 (nm un : ByteArray) (PV : Value) (cu : Int) (F : Int → Int → List (List Rl) → Prop) (i : Nat) (vs : Nat → Value) (w : World) : Prop := match i with
  | 0 => vs 0 = .string un
  | 1 => vs 1 = itv 5 0 ⟨#[]⟩ PV 0 0 true 0
  | 2 => SlB w (vs 2) 1 (itc 5 0 ⟨#[]⟩ PV 0 0 true 0) 24
  | 3 => ∃ s, vs 3 = lnv 1 0 un false false nl s nl nl 0 ∧ SlB w s 1 (itc 5 0 ⟨#[]⟩ PV 0 0 true 0) 24
  | 4 => vs 4 = .string nm
  | 5 => vs 5 = itv 5 0 ⟨#[]⟩ PV 0 0 false 0
  | 6 => SlB w (vs 6) 1 (itc 5 0 ⟨#[]⟩ PV 0 0 false 0) 24
  | 7 => ∃ s, vs 7 = lnv 1 0 nm false false nl s nl nl 0 ∧ SlB w s 1 (itc 5 0 ⟨#[]⟩ PV 0 0 false 0) 24
  | 8 => vs 8 = itv 2 0 nm nl 0 0 false 0
  | 9 => vs 9 = itv 2 0 nm nl 0 0 false 0
  | 10 => SlB w (vs 10) 1 (itc 2 0 nm nl 0 0 false 0) 24
  | 11 => vs 11 = .int .i64 cu
  | 12 => ∃ lv : LV, vs 12 = lv.val ∧ LnS nm cu lv w
  | 13 => vs 13 = lnv 3 0 ⟨#[]⟩ false false nl nl nl nl 0
  | 14 => vs 14 = itv 2 0 nm nl 0 0 false 0
  | 15 => vs 15 = itv 2 0 nm nl 0 0 false 0
  | 16 => SlB w (vs 16) 1 (itc 2 0 nm nl 0 0 false 0) 24
  | 17 => vs 17 = .int .i64 cu
  | 18 => ∃ lv : LV, vs 18 = lv.val ∧ LnS nm cu lv w
  | 19 => ∃ sa sb lv1 lv2, SlB w (vs 19) 5 (lnc 1 0 un false false nl sa nl nl 0 ++ lnc 1 0 nm false false nl sb nl nl 0 ++ lvc lv1 ++ lnc 3 0 ⟨#[]⟩ false false nl nl nl nl 0 ++ lvc lv2) 53 ∧ SlB w sa 1 (itc 5 0 ⟨#[]⟩ PV 0 0 true 0) 24 ∧ SlB w sb 1 (itc 5 0 ⟨#[]⟩ PV 0 0 false 0) 24 ∧ LnS nm cu lv1 w ∧ LnS nm cu lv2 w
  | 20 => Answ F (vs 20) w
  | 21 => vs 21 = vs 20 ∧ ∃ x y z, vs 21 = .tuple #[x, y, z]
  | 22 => vs 22 = prj 0 (vs 21)
  | 23 => vs 23 = prj 1 (vs 21)
  | 24 => vs 24 = prj 2 (vs 21)
  | 25 => vs 25 = vs 22
  | 26 => vs 26 = vs 23
  | 27 => vs 27 = vs 24
  | _ => True
theorem LnS.ext {nm : ByteArray} {cu : Int} {lv : LV} {w w' : World} (h : LnS nm cu lv w) (k : Ext w w') : LnS nm cu lv w' := by
  obtain ⟨a, b, h⟩ := h
  exact ⟨a, b, h.below k⟩
theorem LnL.ext {PV : Value} {s : List (Int × Int)} {cu : Int} {lv : LV} {w w' : World} (h : LnL PV s cu lv w) (k : Ext w w') : LnL PV s cu lv w' := by
  obtain ⟨a, b, h⟩ := h
  exact ⟨a, b, h.below k⟩
theorem m14_ext (nm un : ByteArray) (PV : Value) (cu : Int) (F : Int → Int → List (List Rl) → Prop) (i : Nat) (vs : Nat → Value) (w w' : World) (h : m14 nm un PV cu F i vs w) (k : Ext w w') : m14 nm un PV cu F i vs w' := by
  match i, h with
  | 0, h | 1, h | 4, h | 5, h | 8, h | 9, h | 11, h | 13, h | 14, h | 15, h | 17, h | 21, h | 22, h | 23, h | 24, h | 25, h | 26, h | 27, h => exact h
  | 2, h | 6, h | 10, h | 16, h => exact SlB.ext h k
  | 3, ⟨s, e, h⟩ => exact ⟨s, e, h.ext k⟩
  | 7, ⟨s, e, h⟩ => exact ⟨s, e, h.ext k⟩
  | 12, ⟨lv, e, h⟩ => exact ⟨lv, e, h.ext k⟩
  | 18, ⟨lv, e, h⟩ => exact ⟨lv, e, h.ext k⟩
  | 19, ⟨a, b, c, d, h1, h2, h3, h4, h5⟩ => exact ⟨a, b, c, d, h1.ext k, h2.ext k, h3.ext k, h4.ext k, h5.ext k⟩
  | 20, h => exact Answ.ext h k
  | _ + 28, _ => trivial
/-- what each operation of the second literal leaves -/
def m15 (PV : Value) (s : List (Int × Int)) (cu : Int) (F : Int → Int → List (List Rl) → Prop) (i : Nat) (vs : Nat → Value) (w : World) : Prop := match i with
  | 0 => vs 0 = itv 5 0 ⟨#[]⟩ PV 0 0 false 0
  | 1 => vs 1 = PV
  | 2 => vs 2 = .int .i64 cu
  | 3 => ∃ lv : LV, vs 3 = lv.val ∧ LnL PV s cu lv w
  | 4 => vs 4 = lnv 3 0 ⟨#[]⟩ false false nl nl nl nl 0
  | 5 => vs 5 = itv 5 0 ⟨#[]⟩ PV 0 0 false 0
  | 6 => vs 6 = PV
  | 7 => vs 7 = .int .i64 cu
  | 8 => ∃ lv : LV, vs 8 = lv.val ∧ LnL PV s cu lv w
  | 9 => ∃ lv1 lv2, SlB w (vs 9) 3 (lvc lv1 ++ lnc 3 0 ⟨#[]⟩ false false nl nl nl nl 0 ++ lvc lv2) 53 ∧ LnL PV s cu lv1 w ∧ LnL PV s cu lv2 w
  | 10 => Answ F (vs 10) w
  | 11 => vs 11 = vs 10 ∧ ∃ x y z, vs 11 = .tuple #[x, y, z]
  | 12 => vs 12 = prj 0 (vs 11)
  | 13 => vs 13 = prj 1 (vs 11)
  | 14 => vs 14 = prj 2 (vs 11)
  | 15 => vs 15 = vs 12
  | 16 => vs 16 = vs 13
  | 17 => vs 17 = vs 14
  | _ => True
theorem m15_ext (PV : Value) (s : List (Int × Int)) (cu : Int) (F : Int → Int → List (List Rl) → Prop) (i : Nat) (vs : Nat → Value) (w w' : World) (h : m15 PV s cu F i vs w) (k : Ext w w') : m15 PV s cu F i vs w' := by
  match i, h with
  | 0, h | 1, h | 2, h | 4, h | 5, h | 6, h | 7, h | 11, h | 12, h | 13, h | 14, h | 15, h | 16, h | 17, h => exact h
  | 3, ⟨lv, e, h⟩ => exact ⟨lv, e, h.ext k⟩
  | 8, ⟨lv, e, h⟩ => exact ⟨lv, e, h.ext k⟩
  | 9, ⟨a, b, h1, h2, h3⟩ => exact ⟨a, b, h1.ext k, h2.ext k, h3.ext k⟩
  | 10, h => exact Answ.ext h k
  | _ + 18, _ => trivial
theorem deps_of {all : List Oper} {d : List (Nat × Nat)} (hd : (d.all fun p => match all[p.1]? with | some o => depB o p.2 | none => false) = true) {i : Nat} {o : Oper} (ho : all[i]? = some o) {j : Nat} (hj : (i, j) ∈ d) : depB o j = true := by
  have := List.all_eq_true.1 hd (i, j) hj
  simp only [ho] at this
  exact this
abbrev D14 : List (Nat × Nat) := [(21, 20), (22, 21), (23, 21), (24, 21), (25, 22), (26, 23), (27, 24)]
abbrev D15 : List (Nat × Nat) := [(11, 10), (12, 11), (13, 11), (14, 11), (15, 12), (16, 13), (17, 14)]
theorem m14_V (nm un : ByteArray) (PV : Value) (cu : Int) (F : Int → Int → List (List Rl) → Prop) (i : Nat) (vs us : Nat → Value) (w : World) (h : ∀ j, j = i ∨ (i, j) ∈ D14 → us j = vs j) (hi : m14 nm un PV cu F i vs w) : m14 nm un PV cu F i us w := by
  have e := h i (.inl rfl)
  match i, hi with
  | 0, hi | 1, hi | 4, hi | 5, hi | 8, hi | 9, hi | 11, hi | 13, hi | 14, hi | 15, hi | 17, hi => exact e.trans hi
  | 2, hi | 6, hi | 10, hi | 16, hi => simp only [m14] at hi ⊢; rw [e]; exact hi
  | 3, ⟨s, e1, h1⟩ => exact ⟨s, e.trans e1, h1⟩
  | 7, ⟨s, e1, h1⟩ => exact ⟨s, e.trans e1, h1⟩
  | 12, ⟨s, e1, h1⟩ => exact ⟨s, e.trans e1, h1⟩
  | 18, ⟨s, e1, h1⟩ => exact ⟨s, e.trans e1, h1⟩
  | 19, hi => simp only [m14] at hi ⊢; rw [e]; exact hi
  | 20, hi => simp only [m14] at hi ⊢; rw [e]; exact hi
  | 21, hi => simp only [m14] at hi ⊢; rw [e, h 20 (.inr (by simp))]; exact hi
  | 22, hi => simp only [m14] at hi ⊢; rw [e, h 21 (.inr (by simp))]; exact hi
  | 23, hi => simp only [m14] at hi ⊢; rw [e, h 21 (.inr (by simp))]; exact hi
  | 24, hi => simp only [m14] at hi ⊢; rw [e, h 21 (.inr (by simp))]; exact hi
  | 25, hi => simp only [m14] at hi ⊢; rw [e, h 22 (.inr (by simp))]; exact hi
  | 26, hi => simp only [m14] at hi ⊢; rw [e, h 23 (.inr (by simp))]; exact hi
  | 27, hi => simp only [m14] at hi ⊢; rw [e, h 24 (.inr (by simp))]; exact hi
  | _ + 28, _ => trivial
theorem m15_V (PV : Value) (s : List (Int × Int)) (cu : Int) (F : Int → Int → List (List Rl) → Prop) (i : Nat) (vs us : Nat → Value) (w : World) (h : ∀ j, j = i ∨ (i, j) ∈ D15 → us j = vs j) (hi : m15 PV s cu F i vs w) : m15 PV s cu F i us w := by
  have e := h i (.inl rfl)
  match i, hi with
  | 0, hi | 1, hi | 2, hi | 4, hi | 5, hi | 6, hi | 7, hi => exact e.trans hi
  | 3, ⟨s, e1, h1⟩ => exact ⟨s, e.trans e1, h1⟩
  | 8, ⟨s, e1, h1⟩ => exact ⟨s, e.trans e1, h1⟩
  | 9, hi => simp only [m15] at hi ⊢; rw [e]; exact hi
  | 10, hi => simp only [m15] at hi ⊢; rw [e]; exact hi
  | 11, hi => simp only [m15] at hi ⊢; rw [e, h 10 (.inr (by simp))]; exact hi
  | 12, hi => simp only [m15] at hi ⊢; rw [e, h 11 (.inr (by simp))]; exact hi
  | 13, hi => simp only [m15] at hi ⊢; rw [e, h 11 (.inr (by simp))]; exact hi
  | 14, hi => simp only [m15] at hi ⊢; rw [e, h 11 (.inr (by simp))]; exact hi
  | 15, hi => simp only [m15] at hi ⊢; rw [e, h 12 (.inr (by simp))]; exact hi
  | 16, hi => simp only [m15] at hi ⊢; rw [e, h 13 (.inr (by simp))]; exact hi
  | 17, hi => simp only [m15] at hi ⊢; rw [e, h 14 (.inr (by simp))]; exact hi
  | _ + 18, _ => trivial
end Go.Proofs
