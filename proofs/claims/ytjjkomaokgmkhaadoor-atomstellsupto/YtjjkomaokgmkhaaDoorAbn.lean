/-
  Atoms, by thinking: the table that comes of turns, place by place.
-/
import Derived.Test.YtjjkomaokgmkhaaDoorAan
namespace Go.Proofs

/-- the number at the top -/
def topOf (up : List (List Nat)) : Nat := (up.getLast?.getD []).getD 0 0
/-- a number tells a row: there is a tower over it with this number at the top -/
def Kd (LL : List Nat) (L0 : Nat) (ps : List (Nat × Nat)) (w : Nat) (r : List Nat) : Prop := ∃ up, Chn ps r up ∧ up.map List.length = LL ∧ r.length = L0 ∧ topOf up = w
/-- the shape of towers: the last row has one place -/
def Shp (LL : List Nat) : Prop := LL ≠ [] ∧ LL.getLast?.getD 0 = 1
theorem top_last {LL : List Nat} (hS : Shp LL) {up : List (List Nat)} (h : up.map List.length = LL) : up ≠ [] ∧ up.getLast?.getD [] = [topOf up] := by
  have hne : up ≠ [] := fun e => hS.1 (by rw [← h, e]; rfl)
  refine ⟨hne, ?_⟩
  have h1 : (up.getLast?.getD []).length = 1 := by
    have := hS.2
    rw [← h, List.getLast?_map] at this
    rw [List.getLast?_eq_some_getLast hne] at this ⊢
    simpa using this
  unfold topOf
  obtain ⟨x, hx⟩ := List.length_eq_one_iff.1 h1
  rw [hx]; simp
theorem Kd.grow {LL : List Nat} {L0 : Nat} {ps ps' : List (Nat × Nat)} {w : Nat} {r : List Nat} (h : Kd LL L0 ps w r) (hp : ps <+: ps') : Kd LL L0 ps' w r := by
  obtain ⟨up, h1, h2, h3, h4⟩ := h
  exact ⟨up, h1.grow hp, h2, h3, h4⟩
theorem Kd.row {LL : List Nat} {L0 : Nat} (hS : Shp LL) {ps : List (Nat × Nat)} {w : Nat} {r r' : List Nat} (h : Kd LL L0 ps w r) (k : Kd LL L0 ps w r') : r = r' := by
  obtain ⟨up, h1, h2, h3, h4⟩ := h
  obtain ⟨up', k1, k2, k3, k4⟩ := k
  refine Chn.down (List.prefix_refl _) h1 k1 (h3.trans k3.symm) (h2.trans k2.symm) (.inl ⟨(top_last hS h2).1, ?_⟩)
  rw [(top_last hS h2).2, (top_last hS k2).2, h4, k4]
theorem Kd.num {LL : List Nat} {L0 : Nat} {ps : List (Nat × Nat)} (hn : ps.Nodup) {w w' : Nat} {r : List Nat} (h : Kd LL L0 ps w r) (k : Kd LL L0 ps w' r) : w = w' := by
  obtain ⟨up, h1, h2, h3, h4⟩ := h
  obtain ⟨up', k1, k2, k3, k4⟩ := k
  have := Chn.up (List.prefix_refl _) hn h1 k1 (h2.trans k2.symm)
  rw [← h4, ← k4, this]
/-- the segments of an atom -/
def segs (k : Int) : List Int → List Int → List (Int × Int)
  | a :: b :: st, x :: bg => (if x = k then [(a, b - 1)] else []) ++ segs k (b :: st) bg
  | _, _ => []
theorem segs_snoc (k : Int) (a y : Int) : ∀ (st bg : List Int), st.length = bg.length → segs k (st ++ [a]) (bg ++ [y]) = segs k st bg ++ (match st.getLast?, bg.getLast? with | some a0, some b0 => if b0 = k then [(a0, a - 1)] else [] | _, _ => [])
  | [], [], _ => by simp [segs]
  | [], _ :: _, h => by simp at h
  | _ :: _, [], h => by simp at h
  | [p], [x], _ => by simp [segs]
  | [p], _ :: _ :: _, h => by simp at h
  | _ :: _ :: _, [x], h => by simp at h
  | p :: q :: st, x :: z :: bg, h => by
    have ih := segs_snoc k a y (q :: st) (z :: bg) (by simpa using h)
    simp only [List.cons_append] at ih ⊢
    rw [segs, segs, ih, List.append_assoc]
    simp [List.getLast?_cons]
/-- the table on its way -/
structure FS where
  st : List Int
  bg : List Int
  sp : List (List (Int × Int))
  wh : List Nat
  ps : List (Nat × Nat)
  r0 : List Nat
  up : List (List Nat)
/-- whether a number is known -/
def knw (wh : List Nat) (w : Nat) : Bool := decide (w = 0) || decide (w ∈ wh)
def atm (wh : List Nat) (w : Nat) : Int := if w = 0 then -1 else (wh.idxOf w : Nat)
def addW (wh : List Nat) (w : Nat) : List Nat := if knw wh w then wh else wh ++ [w]
def addS (wh : List Nat) (w : Nat) (sp : List (List (Int × Int))) : List (List (Int × Int)) := if knw wh w then sp else sp ++ [[]]
/-- the atom that stood ahead ends -/
def endA (st bg : List Int) (a : Int) (sp : List (List (Int × Int))) : List (List (Int × Int)) := match st.getLast?, bg.getLast? with
  | some a0, some b0 => if b0 = -1 then sp else sp.modify b0.toNat (· ++ [(a0, a - 1)])
  | _, _ => sp
def flipU (s : FS) (X : List Nat) : List (Nat × Nat) × List (List Nat) := levs s.ps (flips s.r0 X) s.up (X.map (· / 64))
def fstep (s : FS) (a : Int) (X : List Nat) : FS where
  st := s.st ++ [a]
  bg := s.bg ++ [atm s.wh (topOf (flipU s X).2)]
  sp := endA s.st s.bg a (addS s.wh (topOf (flipU s X).2) s.sp)
  wh := addW s.wh (topOf (flipU s X).2)
  ps := (flipU s X).1
  r0 := flips s.r0 X
  up := (flipU s X).2
/-- the turns at one place -/
def grp (a : Int) (l : List (Int × Int)) : List (Int × Int) := l.takeWhile fun x => x.1 == a
def setsN (l : List (Int × Int)) : List Nat := l.map fun x => x.2.toNat
def fillP : Nat → List (Int × Int) → FS → FS
  | 0, _, s => s
  | _ + 1, [], s => s
  | k + 1, x :: l, s => fillP k ((x :: l).drop (grp x.1 (x :: l)).length) (fstep s x.1 (setsN (grp x.1 (x :: l))))
/-- the row of marks behind the turns up to a place -/
def rowD (L0 : Nat) (D : List (Int × Int)) (a : Int) : List Nat := flips (List.replicate L0 0) (setsN (D.filter fun x => decide (x.1 ≤ a)))
/-- what holds on the way: D are the turns that were gone over -/
structure FI (LL : List Nat) (L0 : Nat) (D : List (Int × Int)) (s : FS) : Prop where
  r0 : s.r0 = flips (List.replicate L0 0) (setsN D)
  chn : Chn s.ps s.r0 s.up
  len : s.up.map List.length = LL
  nd : s.ps.Nodup
  p0 : s.ps[0]? = some (0, 0)
  bl : s.bg.length = s.st.length
  inc : s.st.Pairwise (· < ·)
  pl : ∀ x ∈ D, x.1 ∈ s.st
  row : ∀ j (h : j < s.st.length), (s.bg[j]? = some (-1) ∧ Kd LL L0 s.ps 0 (rowD L0 D s.st[j])) ∨ ∃ k w : Nat, s.bg[j]? = some (k : Int) ∧ s.wh[k]? = some w ∧ Kd LL L0 s.ps w (rowD L0 D s.st[j])
  wn : s.wh.Nodup
  w0 : 0 ∉ s.wh
  sl : s.sp.length = s.wh.length
  fst : ∀ k, k < s.wh.length → ∃ j, j < s.st.length ∧ s.bg[j]? = some (k : Int) ∧ ∀ j' b, j' < j → s.bg[j']? = some b → b < k
  seg : ∀ k, k < s.wh.length → s.sp[k]? = some (segs k s.st s.bg)
  adj : ∀ j b b', s.bg[j]? = some b → s.bg[j + 1]? = some b' → b ≠ b'
theorem rowD_len (L0 : Nat) (D : List (Int × Int)) (a : Int) : (rowD L0 D a).length = L0 := by unfold rowD; rw [flips_len]; simp
theorem setsN_append (l k : List (Int × Int)) : setsN (l ++ k) = setsN l ++ setsN k := by simp [setsN]
theorem flips_append (r : List Nat) (X Y : List Nat) : flips r (X ++ Y) = flips (flips r X) Y := by simp [flips]
end Go.Proofs
