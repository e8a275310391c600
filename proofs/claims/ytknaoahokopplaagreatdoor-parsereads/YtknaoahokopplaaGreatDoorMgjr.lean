/-
  Several texts in one (Xhr Shelf2r Par).
-/
import Derived.Shelf.Abstract
import Derived.Shelf.RegionOpen
import Derived.WalkKit
import Derived.WalkSpells
import Derived.WalkLawsBesides
import Derived.BigQuiet
import Derived.Deep.QuietTactic
import Derived.Deep.LoopGhost
import Derived.Lib.OthersKept
import Derived.ScopeJumps
import Derived.WalkMore
import Derived.Maps.AppendAt
import Derived.Lib.SmallJoins
import Derived.Test.YtknaoahokopplaaGreatDoorMghr
import Derived.Shelf.LaysM
import Derived.Shelf.LaysC
import Derived.Shelf.Strconv.Lower
import Derived.Shelf.Strconv.ParseIntPublic10
import Derived.Test.YtknaoahokopplaaGreatDoorProg
import Derived.Lib.IndexBytes
namespace Go.Proofs
open Go.RowKit Go.Shelf

set_option maxRecDepth 100000
attribute [local go_sem] Oper.semAt_some


/-- the text begins with a line that is nothing but the word then -/
def endsB (s : ByteArray) : Bool := Lib.hasPrefix s.data.toList [116, 104, 101, 110] && decide (s.data.toList[4 + pastN false (s.data.toList.drop 4)]? = some 59)
theorem pre_len {l p : List UInt8} (h : Lib.hasPrefix l p = true) : p.length ≤ l.length := by
  rw [← Lib.hasPrefix_of_take] at h
  simp only [Bool.and_eq_true, decide_eq_true_eq] at h
  exact h.1
set_option maxHeartbeats 1000000 in
theorem ends_any (s : ByteArray) (w : World) (hs : s.size ≤ maxLen) : Calls Tryz.prog 92 #[.string s] w fun e w' => e = .returned (.bool (endsB s)) ∧ w' = w := by
  unfold endsB
  cases hp : Lib.hasPrefix s.data.toList [116, 104, 101, 110]
  · rw [Bool.false_and]
    go_enter Tryz.func92, Tryz.ntmps92
    go_wp2_with (go_at_call 88; refine (Tryz.strings_HasPrefix _ _ _).mono ?_; rintro e w' ⟨rfl, rfl⟩; rw [show (⟨#[116, 104, 101, 110]⟩ : ByteArray).data.toList = [116, 104, 101, 110] from rfl, hp])
    go_ret
    exact ⟨rfl, rfl⟩
  · rw [Bool.true_and]
    have h4 : 4 ≤ s.size := by have := pre_len hp; simpa using this
    have HP : Hid (Calls Tryz.prog 46 #[.string s, .int .i64 (4 : Nat)] w fun e w' => e = .returned (.int .i64 (4 + pastN false (s.data.toList.drop 4) : Nat)) ∧ w' = w) := past_any s 4 w hs h4
    have hle : 4 + pastN false (s.data.toList.drop 4) ≤ s.size := by
      have := pastN_le false (s.data.toList.drop 4)
      simp at this
      omega
    generalize 4 + pastN false (s.data.toList.drop 4) = q at HP hle ⊢
    by_cases hq : q < s.size
    · have hqi : (q : Int) < (s.size : Int) := by omega
      have hg : s.data.toList[q]? = some s[q] := by
        rw [List.getElem?_eq_getElem (by simpa using hq)]; rfl
      rw [hg]
      go_enter Tryz.func92, Tryz.ntmps92
      go_wp2_with (first | (go_at_call 88; refine (Tryz.strings_HasPrefix _ _ _).mono ?_; rintro e w' ⟨rfl, rfl⟩; rw [show (⟨#[116, 104, 101, 110]⟩ : ByteArray).data.toList = [116, 104, 101, 110] from rfl, hp]) | (go_at_call 46; refine HP.out.mono ?_; rintro e w' ⟨rfl, rfl⟩))
      go_ret
      refine ⟨?_, rfl⟩
      show Ending.returned (.bool ((s[q].toNat : Int) == 59)) = _
      congr 2
      rw [Bool.eq_iff_iff]
      simp only [beq_iff_eq, decide_eq_true_eq, Option.some.injEq]
      constructor
      · intro h
        apply UInt8.toNat_inj.1
        have : s[q].toNat = 59 := by omega
        rw [this]; rfl
      · intro h; rw [h]; rfl
    · have hqi : decide ((q : Int) < (s.size : Int)) = false := by simp; omega
      have hqn : ¬ (q < s.size) := hq
      have hg : s.data.toList[q]? = none := by
        rw [List.getElem?_eq_none]; simpa using hq
      rw [hg]
      go_enter Tryz.func92, Tryz.ntmps92
      go_wp2_with (first | (go_at_call 88; refine (Tryz.strings_HasPrefix _ _ _).mono ?_; rintro e w' ⟨rfl, rfl⟩; rw [show (⟨#[116, 104, 101, 110]⟩ : ByteArray).data.toList = [116, 104, 101, 110] from rfl, hp]) | (go_at_call 46; refine HP.out.mono ?_; rintro e w' ⟨rfl, rfl⟩))
      go_ret
      exact ⟨rfl, rfl⟩
set_option maxHeartbeats 1000000 in
theorem first_bare2 (s : ByteArray) (k a l u : Int) (t : ByteArray) (n e0 : Int) (hs : s.size ≤ maxLen) (h1 : 0 < s.size) (hc : s[0].toNat ≠ 36) (hp : Lib.hasPrefix s.data.toList [91, 58] = false) (hi : Lib.indexByte sgnL s[0] = -1) (h64 : s[0].toNat ≠ 64) (h92 : s[0].toNat ≠ 92) (he : endsB s = false) (hv : Tells 93 #[.string s] k a l u t n e0) : Tells 47 #[.string s, .bool true] k a l u t n e0 := by
  intro w
  have HV : Hid (Tells 93 #[.string s] k a l u t n e0) := hv
  clear hv
  have h1i : (1 : Int) ≤ (s.size : Int) := by omega
  go_enter Tryz.func47, Tryz.ntmps47
  go_wp2_with (first | (go_at_call 84; refine (Tryz.strings_IndexByte _ _ _).mono ?_; rintro e w' ⟨rfl, rfl⟩; rw [show (⟨#[62, 59, 123, 125, 124, 94, 36, 46, 91, 93, 45, 61, 58]⟩ : ByteArray).data.toList = sgnL from rfl, show (Int.toNat (s[0].toNat : Int)).toUInt8 = s[0] by simp, hi]) | (go_at_call 88; refine (Tryz.strings_HasPrefix _ _ _).mono ?_; rintro e w' ⟨rfl, rfl⟩; rw [show (⟨#[91, 58]⟩ : ByteArray).data.toList = [91, 58] from rfl, hp]) | (go_at_call 92; refine (ends_any _ _ hs).mono ?_; rintro e w' ⟨rfl, rfl⟩; rw [he]))
  refine (HV.out _).mono ?_
  rintro e w2 ⟨rfl, hb2⟩
  have HT2 := (TB.new w 0 0 0 0 ⟨#[]⟩ 0).below hb2 (by simp)
  have HB2 : Below w.heap.size w w2 := ((Below.refl _ w).alloc (Nat.le_refl _) _).trans (hb2.mono (by simp))
  obtain ⟨c0, c1, c2, c3, c4, c5⟩ := HT2.cells
  obtain ⟨f0, f1, f2, f3, f4, f5⟩ := HT2.frozen
  clear hb2
  go_wp2
  exact ret_tk rfl rfl rfl (HT2.set k a l u t n) ⟨rfl, below_set6 HB2 (Nat.le_refl _) _ _ _ _ _ _⟩
set_option maxHeartbeats 1000000 in
theorem first_then (s : ByteArray) (hs : s.size ≤ maxLen) (h1 : 0 < s.size) (hc : s[0].toNat ≠ 36) (hp : Lib.hasPrefix s.data.toList [91, 58] = false) (hi : Lib.indexByte sgnL s[0] = -1) (h64 : s[0].toNat ≠ 64) (h92 : s[0].toNat ≠ 92) (he : endsB s = true) : Tells 47 #[.string s, .bool true] 2 0 4 0 ⟨#[116, 104, 101, 110]⟩ 0 0 := by
  intro w
  have h1i : (1 : Int) ≤ (s.size : Int) := by omega
  go_enter Tryz.func47, Tryz.ntmps47
  go_wp2_with (first | (go_at_call 84; refine (Tryz.strings_IndexByte _ _ _).mono ?_; rintro e w' ⟨rfl, rfl⟩; rw [show (⟨#[62, 59, 123, 125, 124, 94, 36, 46, 91, 93, 45, 61, 58]⟩ : ByteArray).data.toList = sgnL from rfl, show (Int.toNat (s[0].toNat : Int)).toUInt8 = s[0] by simp, hi]) | (go_at_call 88; refine (Tryz.strings_HasPrefix _ _ _).mono ?_; rintro e w' ⟨rfl, rfl⟩; rw [show (⟨#[91, 58]⟩ : ByteArray).data.toList = [91, 58] from rfl, hp]) | (go_at_call 92; refine (ends_any _ _ hs).mono ?_; rintro e w' ⟨rfl, rfl⟩; rw [he]))
  exact bodyPost_ret (v := .tuple #[tk 2 0 4 0 ⟨#[116, 104, 101, 110]⟩ 0, .int .i64 0]) (by simp [results, Tryz.f47, go_sem]) rfl ⟨rfl, (Below.refl _ _).alloc (Nat.le_refl _) _⟩
end Go.Proofs
namespace Go.Proofs
open Go.Shelf
def Tryz.lays321_ren : Go.Shelf.Ren := ⟨fun | 321 => 205 | n => n, fun | 5 => 5 | n => n, fun | n => n⟩
theorem Tryz.lays321 : Go.Proofs.Lays.n321 Tryz.prog Tryz.lays321_ren := {
  mixed := by kernel_rfl
  f321 := Tryz.func205.trans (congrArg some (by kernel_rfl))
  t5 := Tryz.underlying5
  a5 := Tryz.isAgg5
  z5 := Tryz.sizeOf5
  v5 := Tryz.zeroValue5 }
open Go.RowKit in
theorem Tryz.internal_strconv_lower (c : Int) (w : World) :
    Calls Tryz.prog 205 #[.int .u8 c] w fun e w' => e = .returned (.int .u8 (bits .or .u8 c 32)) ∧ w' = w := Any.internal_strconv_lower Tryz.lays321 c w
def Tryz.laysC174_ren : Go.Shelf.Ren := ⟨fun | 174 => 156 | 247 => 176 | 245 => 177 | 287 => 194 | 279 => 195 | 280 => 196 | 281 => 197 | 282 => 198 | 321 => 205 | 322 => 206 | 316 => 207 | 171 => 150 | 205 => 208 | 243 => 173 | 246 => 139 | 283 => 163 | 284 => 164 | 285 => 165 | 286 => 166 | 129 => 185 | 317 => 184 | 318 => 186 | 319 => 187 | 320 => 188 | 337 => 202 | 338 => 203 | n => n, fun | 9 => 9 | 3 => 3 | 2 => 2 | 75 => 73 | 85 => 151 | 4 => 4 | 167 => 182 | 5 => 5 | 53 => 163 | 175 => 183 | 46 => 180 | 168 => 185 | 37 => 50 | 0 => 0 | 210 => 198 | 21 => 21 | 127 => 106 | 145 => 208 | 143 => 206 | 171 => 162 | 173 => 166 | 212 => 177 | 51 => 178 | 20 => 20 | 213 => 179 | 232 => 204 | 233 => 205 | 80 => 81 | n => n, fun | 15 => 5 | 16 => 6 | 17 => 2 | 18 => 7 | 19 => 8 | n => n⟩
theorem Tryz.laysC174 : Go.Proofs.LaysC.n174 Tryz.prog Tryz.laysC174_ren := {
  mixed := by kernel_rfl
  f129 := Tryz.func185.trans (congrArg some (by kernel_rfl))
  f171 := Tryz.func150.trans (congrArg some (by kernel_rfl))
  f174 := Tryz.func156.trans (congrArg some (by kernel_rfl))
  f205 := Tryz.func208.trans (congrArg some (by kernel_rfl))
  f243 := Tryz.func173.trans (congrArg some (by kernel_rfl))
  f245 := Tryz.func177.trans (congrArg some (by kernel_rfl))
  f246 := Tryz.func139.trans (congrArg some (by kernel_rfl))
  f247 := Tryz.func176.trans (congrArg some (by kernel_rfl))
  f279 := Tryz.func195.trans (congrArg some (by kernel_rfl))
  f280 := Tryz.func196.trans (congrArg some (by kernel_rfl))
  f281 := Tryz.func197.trans (congrArg some (by kernel_rfl))
  f282 := Tryz.func198.trans (congrArg some (by kernel_rfl))
  f283 := Tryz.func163.trans (congrArg some (by kernel_rfl))
  f284 := Tryz.func164.trans (congrArg some (by kernel_rfl))
  f285 := Tryz.func165.trans (congrArg some (by kernel_rfl))
  f286 := Tryz.func166.trans (congrArg some (by kernel_rfl))
  f287 := Tryz.func194.trans (congrArg some (by kernel_rfl))
  f316 := Tryz.func207.trans (congrArg some (by kernel_rfl))
  f317 := Tryz.func184.trans (congrArg some (by kernel_rfl))
  f318 := Tryz.func186.trans (congrArg some (by kernel_rfl))
  f319 := Tryz.func187.trans (congrArg some (by kernel_rfl))
  f320 := Tryz.func188.trans (congrArg some (by kernel_rfl))
  f321 := Tryz.func205.trans (congrArg some (by kernel_rfl))
  f322 := Tryz.func206.trans (congrArg some (by kernel_rfl))
  f337 := Tryz.func202.trans (congrArg some (by kernel_rfl))
  f338 := Tryz.func203.trans (congrArg some (by kernel_rfl))
  t0 := Tryz.underlying0
  a0 := Tryz.isAgg0
  z0 := Tryz.sizeOf0
  v0 := Tryz.zeroValue0
  t2 := Tryz.underlying2
  a2 := Tryz.isAgg2
  z2 := Tryz.sizeOf2
  v2 := Tryz.zeroValue2
  t3 := Tryz.underlying3
  a3 := Tryz.isAgg3
  z3 := Tryz.sizeOf3
  v3 := Tryz.zeroValue3
  t4 := Tryz.underlying4
  a4 := Tryz.isAgg4
  z4 := Tryz.sizeOf4
  v4 := Tryz.zeroValue4
  t5 := Tryz.underlying5
  a5 := Tryz.isAgg5
  z5 := Tryz.sizeOf5
  v5 := Tryz.zeroValue5
  t9 := Tryz.underlying9
  a9 := Tryz.isAgg9
  z9 := Tryz.sizeOf9
  v9 := Tryz.zeroValue9
  t20 := Tryz.underlying20
  a20 := Tryz.isAgg20
  z20 := Tryz.sizeOf20
  v20 := Tryz.zeroValue20
  t21 := Tryz.underlying21
  a21 := Tryz.isAgg21
  z21 := Tryz.sizeOf21
  v21 := Tryz.zeroValue21
  t37 := Tryz.underlying50
  a37 := Tryz.isAgg50
  z37 := Tryz.sizeOf50
  v37 := Tryz.zeroValue50
  t46 := Tryz.underlying180
  a46 := Tryz.isAgg180
  z46 := Tryz.sizeOf180
  v46 := Tryz.zeroValue180
  t51 := Tryz.underlying178
  a51 := Tryz.isAgg178
  z51 := Tryz.sizeOf178
  v51 := Tryz.zeroValue178
  t53 := Tryz.underlying163
  a53 := Tryz.isAgg163
  z53 := Tryz.sizeOf163
  v53 := Tryz.zeroValue163
  t75 := Tryz.underlying73
  a75 := Tryz.isAgg73
  z75 := Tryz.sizeOf73
  v75 := Tryz.zeroValue73
  t85 := Tryz.underlying151
  a85 := Tryz.isAgg151
  z85 := Tryz.sizeOf151
  v85 := Tryz.zeroValue151
  t127 := Tryz.underlying106
  a127 := Tryz.isAgg106
  z127 := Tryz.sizeOf106
  v127 := Tryz.zeroValue106
  t143 := Tryz.underlying206
  a143 := Tryz.isAgg206
  z143 := Tryz.sizeOf206
  v143 := Tryz.zeroValue206
  t145 := Tryz.underlying208
  a145 := Tryz.isAgg208
  z145 := Tryz.sizeOf208
  v145 := Tryz.zeroValue208
  t167 := Tryz.underlying182
  a167 := Tryz.isAgg182
  z167 := Tryz.sizeOf182
  v167 := Tryz.zeroValue182
  t168 := Tryz.underlying185
  a168 := Tryz.isAgg185
  z168 := Tryz.sizeOf185
  v168 := Tryz.zeroValue185
  t171 := Tryz.underlying162
  a171 := Tryz.isAgg162
  z171 := Tryz.sizeOf162
  v171 := Tryz.zeroValue162
  t173 := Tryz.underlying166
  a173 := Tryz.isAgg166
  z173 := Tryz.sizeOf166
  v173 := Tryz.zeroValue166
  t175 := Tryz.underlying183
  a175 := Tryz.isAgg183
  z175 := Tryz.sizeOf183
  v175 := Tryz.zeroValue183
  t210 := Tryz.underlying198
  a210 := Tryz.isAgg198
  z210 := Tryz.sizeOf198
  v210 := Tryz.zeroValue198
  t212 := Tryz.underlying177
  a212 := Tryz.isAgg177
  z212 := Tryz.sizeOf177
  v212 := Tryz.zeroValue177
  t213 := Tryz.underlying179
  a213 := Tryz.isAgg179
  z213 := Tryz.sizeOf179
  t232 := Tryz.underlying204
  a232 := Tryz.isAgg204
  z232 := Tryz.sizeOf204
  v232 := Tryz.zeroValue204
  t233 := Tryz.underlying205
  a233 := Tryz.isAgg205
  z233 := Tryz.sizeOf205
  v233 := Tryz.zeroValue205
  g15 := by kernel_rfl
  g16 := by kernel_rfl
  g17 := by kernel_rfl
  g18 := by kernel_rfl
  g19 := by kernel_rfl
  t80 := Tryz.underlying81
  a80 := Tryz.isAgg81
  z80 := Tryz.sizeOf81
  v80 := Tryz.zeroValue81
  i0 := by kernel_rfl
  i2 := by kernel_rfl
  i3 := by kernel_rfl
  i4 := by kernel_rfl
  i5 := by kernel_rfl
  i9 := by kernel_rfl
  i20 := by kernel_rfl
  i21 := by kernel_rfl
  i37 := by kernel_rfl
  i46 := by kernel_rfl
  i51 := by kernel_rfl
  i53 := by kernel_rfl
  i75 := by kernel_rfl
  i80 := by kernel_rfl
  i85 := by kernel_rfl
  i127 := by kernel_rfl
  i143 := by kernel_rfl
  i145 := by kernel_rfl
  i167 := by kernel_rfl
  i168 := by kernel_rfl
  i171 := by kernel_rfl
  i173 := by kernel_rfl
  i175 := by kernel_rfl
  i210 := by kernel_rfl
  i212 := by kernel_rfl
  i232 := by kernel_rfl
  i233 := by kernel_rfl
  m15 := by kernel_rfl
  m16 := by kernel_rfl
  m17 := by kernel_rfl
  m18 := by kernel_rfl
  m19 := by kernel_rfl
  c0 := by kernel_rfl
  c2 := by kernel_rfl
  c3 := by kernel_rfl
  c4 := by kernel_rfl
  c5 := by kernel_rfl
  c9 := by kernel_rfl
  c20 := by kernel_rfl
  c21 := by kernel_rfl
  c37 := by kernel_rfl
  c46 := by kernel_rfl
  c51 := by kernel_rfl
  c53 := by kernel_rfl
  c75 := by kernel_rfl
  c80 := by kernel_rfl
  c85 := by kernel_rfl
  c127 := by kernel_rfl
  c143 := by kernel_rfl
  c145 := by kernel_rfl
  c167 := by kernel_rfl
  c168 := by kernel_rfl
  c171 := by kernel_rfl
  c173 := by kernel_rfl
  c175 := by kernel_rfl
  c210 := by kernel_rfl
  c212 := by kernel_rfl
  c213 := by kernel_rfl
  c232 := by kernel_rfl
  c233 := by kernel_rfl }
open Go.RowKit in
theorem Tryz.strconv_ParseInt_10_at64_ok (s : ByteArray) (hmax : s.size ≤ 9223372036854775806) (v : Int) (h : Lib.parseIntB 64 s.data.toList = .ok v) (w : World) :
    Calls Tryz.prog 156 #[.string s, .int .i64 10, .int .i64 64] w fun e w' => e = .returned (.tuple #[.int .i64 v, .nilIface]) ∧ (w' = w ∨ ∃ t, w' = Lib.bytesWorld w 5 t) := Any.strconv_ParseInt_10_at64_ok Tryz.laysC174 s hmax v h w
end Go.Proofs
namespace Go.Proofs
open Go.RowKit Go.Shelf

set_option maxRecDepth 100000
attribute [local go_sem] Oper.semAt_some


/-- what a digit to the base 16 counts -/
def hdv (c : UInt8) : Nat := if c.toNat ≤ 57 then c.toNat - 48 else if 97 ≤ c.toNat then c.toNat - 87 else c.toNat - 55
def valH (l : List UInt8) : Nat := l.foldl (fun n c => n * 16 + hdv c) 0
theorem valH_snoc (l : List UInt8) (c : UInt8) : valH (l ++ [c]) = valH l * 16 + hdv c := by simp [valH]
theorem hdv_lt {c : UInt8} (h : isHx c = true) : hdv c < 16 := by
  simp [isHx, isDg] at h
  unfold hdv
  split
  · omega
  · split <;> omega
theorem fold_lt : ∀ (l : List UInt8) (n : Nat), (∀ c ∈ l, isHx c = true) → l.foldl (fun n c => n * 16 + hdv c) n < (n + 1) * 16 ^ l.length
  | [], n, _ => by simp
  | c :: l, n, h => by
    have h1 := fold_lt l (n * 16 + hdv c) (fun x hx => h x (by simp [hx]))
    have h2 := hdv_lt (h c (by simp))
    rw [List.foldl_cons, List.length_cons, Nat.pow_succ]
    refine Nat.lt_of_lt_of_le h1 ?_
    have : (n * 16 + hdv c + 1) ≤ (n + 1) * 16 := by omega
    calc (n * 16 + hdv c + 1) * 16 ^ l.length ≤ ((n + 1) * 16) * 16 ^ l.length := Nat.mul_le_mul_right _ this
      _ = (n + 1) * (16 ^ l.length * 16) := by rw [Nat.mul_assoc, Nat.mul_comm 16]
theorem valH_lt (l : List UInt8) (h : ∀ c ∈ l, isHx c = true) : valH l < 16 ^ l.length := by
  have := fold_lt l 0 h
  simpa [valH] using this
theorem lower_dig : ∀ n : Fin 256, ((97 ≤ n.val ∧ n.val ≤ 102) → bits BinOp.or IntKind.u8 (n.val : Int) 32 = (n.val : Int)) ∧ ((65 ≤ n.val ∧ n.val ≤ 70) → bits BinOp.or IntKind.u8 (n.val : Int) 32 = ((n.val + 32 : Nat) : Int)) := by decide +kernel
theorem lower_at (c : UInt8) (hx : isHx c = true) (h9 : 57 < c.toNat) : bits BinOp.or IntKind.u8 (c.toNat : Int) 32 = ((hdv c + 87 : Nat) : Int) ∧ 10 ≤ hdv c := by
  have h := lower_dig ⟨c.toNat, c.toNat_lt⟩
  simp [isHx, isDg] at hx
  have hx' : (97 ≤ c.toNat ∧ c.toNat ≤ 102) ∨ (65 ≤ c.toNat ∧ c.toNat ≤ 70) := by omega
  rcases hx' with hx' | hx'
  · have e : hdv c = c.toNat - 87 := by unfold hdv; rw [if_neg (by omega), if_pos (by omega)]
    rw [e]
    refine ⟨(h.1 hx').trans ?_, by omega⟩
    show ((c.toNat : Nat) : Int) = _
    omega
  · have e : hdv c = c.toNat - 55 := by unfold hdv; rw [if_neg (by omega), if_neg (by omega)]
    rw [e]
    refine ⟨(h.2 hx').trans ?_, by omega⟩
    show ((c.toNat + 32 : Nat) : Int) = _
    omega
set_option maxHeartbeats 1000000 in
theorem puint_any (t : ByteArray) (w : World) (h0 : 0 < t.size) (h6 : t.size ≤ 6) (hx : ∀ c ∈ t.data.toList, isHx c = true) :
    Calls Tryz.prog 194 #[.string t, .int .i64 16, .int .i64 64] w fun e w' => e = .returned (.tuple #[.int .u64 (valH t.data.toList), .nilIface]) ∧ Below w.heap.size w w' := by
  have HX : Hid (∀ c ∈ t.data.toList, isHx c = true) := hx
  have hne : t.toList.isEmpty = false := by
    rw [Lib.toList_data]
    cases hL : t.data.toList with
    | nil =>
      have : t.size = 0 := by
        show t.data.size = 0
        rw [← Array.length_toList, hL]; rfl
      omega
    | cons a l => rfl
  clear hx
  have hcv := fun W => Lib.run_convert_string_bytes (P := Tryz.prog) W 9 50 5 t (u := .string) Tryz.underlying9 Tryz.underlying50 Tryz.underlying5
  obtain ⟨r, hr⟩ : ∃ r, valH t.data.toList = r := ⟨_, rfl⟩
  have HR : Hid (valH t.data.toList = r) := hr
  rw [hr]
  clear hr
  have hmv : IntKind.u64.wrap (IntKind.u64.wrap 18446744073709551616 - 1) = 18446744073709551615 := by decide +kernel
  go_enter Tryz.func194, Tryz.ntmps194
  go_wp2_with fail
  go_loopw [12, 13, 101] (fun vu vn vi wr => vu = .bool false ∧ ∃ k : Nat, vi = .int .i64 k ∧ k ≤ t.size ∧ vn = .int .u64 (valH (t.data.toList.take k)) ∧ Hid (wr = Lib.bytesWorld w 5 t)) (fun _ _ vi _ => t.size - (intOf vi).toNat)
  case atStart => exact ⟨rfl, 0, rfl, by omega, rfl, rfl⟩
  case round =>
    obtain ⟨rfl, k, rfl, hk, rfl, hw⟩ := hrel
    by_cases hkn : k < t.size
    · have hc : wr.cell? ⟨w.heap.size, k, none⟩ = some (.int .u8 (t.data.toList.getD k 0).toNat) := by rw [hw.out]; exact Lib.bytesWorld_cell _ _ _ _ hkn
      have hki : (k : Int) < (t.size : Int) := by omega
      obtain ⟨c, hcc⟩ : ∃ c, t.data.toList.getD k 0 = c := ⟨_, rfl⟩
      have hkl : k < t.data.toList.length := by simpa using hkn
      have hget : t.data.toList[k] = c := by rw [← hcc]; simp [List.getD, List.getElem?_eq_getElem hkl]
      have hx := HX.out c (by rw [← hget]; exact List.getElem_mem hkl)
      have HS : Hid (valH (t.data.toList.take (k + 1)) = valH (t.data.toList.take k) * 16 + hdv c) := by
        show _ = _
        rw [List.take_succ_eq_append_getElem hkl, valH_snoc, hget]
      have hlt : valH (t.data.toList.take k) < 16777216 := by
        have h1 := valH_lt (t.data.toList.take k) (fun x hx => HX.out x (List.mem_of_mem_take hx))
        rw [List.length_take] at h1
        have : 16 ^ (min k t.data.toList.length) ≤ 16 ^ 6 := Nat.pow_le_pow_right (by omega) (by omega)
        omega
      rw [hcc] at hc
      generalize valH (t.data.toList.take k) = m at hlt HS ⊢
      have hd16 := hdv_lt hx
      have hcut : decide ((1152921504606846976 : Int) ≤ (m : Int)) = false := by simp; omega
      have hwm : IntKind.u64.wrap ((m : Int) * 16) = (m : Int) * 16 := by simp [IntKind.wrap, IntKind.signed, IntKind.bits]; omega
      clear hcc hget hkl
      by_cases h9 : c.toNat ≤ 57
      · have h9i : (c.toNat : Int) ≤ 57 := by omega
        have h48 : (48 : Int) ≤ (c.toNat : Int) := by simp [isHx, isDg] at hx; omega
        have hv : hdv c = c.toNat - 48 := by unfold hdv; rw [if_pos h9]
        have hne95 : ((c.toNat : Int) == 95) = false := by simp; omega
        obtain ⟨d, hd⟩ : ∃ d : Nat, (c.toNat : Int) - 48 = d := ⟨c.toNat - 48, by omega⟩
        have hd2 : hdv c = d := by omega
        have hw8 : IntKind.u8.wrap ((c.toNat : Int) - 48) = (d : Int) := by rw [hd]; simp [IntKind.wrap, IntKind.signed, IntKind.bits]; omega
        have hdlt : (d : Int) < 16 := by omega
        have hmx : decide ((18446744073709551615 : Int) < (m : Int) * 16 + (d : Int)) = false := by simp; omega
        go_wp2_with fail
        refine ⟨⟨rfl, k + 1, by go_num, by omega, ?_, hw⟩, by simp [intOf]; omega⟩
        rw [HS.out, hd2]; simp
      · have h9i : (57 : Int) < (c.toNat : Int) := by omega
        have h9d : decide ((c.toNat : Int) ≤ 57) = false := by simp; omega
        have h48 : (48 : Int) ≤ (c.toNat : Int) := by omega
        obtain ⟨hlo, hd10⟩ := lower_at c hx (by omega)
        have hne95 : ((c.toNat : Int) == 95) = false := by simp [isHx, isDg] at hx; simp; omega
        obtain ⟨d, hd⟩ : ∃ d : Nat, hdv c = d := ⟨_, rfl⟩
        rw [hd] at hlo hd16 hd10
        have hlo2 : bits BinOp.or IntKind.u8 (c.toNat : Int) 32 = (d : Int) + 87 := by rw [hlo]; simp
        have hl97 : (97 : Int) ≤ (d : Int) + 87 := by omega
        have hl122 : (d : Int) + 87 ≤ 122 := by omega
        have hw8a : IntKind.u8.wrap ((d : Int) + 87 - 97) = (d : Int) - 10 := by simp [IntKind.wrap, IntKind.signed, IntKind.bits]; omega
        have hw8 : IntKind.u8.wrap ((d : Int) - 10 + 10) = (d : Int) := by simp [IntKind.wrap, IntKind.signed, IntKind.bits]; omega
        have hdlt : (d : Int) < 16 := by omega
        have hmx : decide ((18446744073709551615 : Int) < (m : Int) * 16 + (d : Int)) = false := by simp; omega
        clear hlo
        go_wp2_with (go_at_call 205; refine (Tryz.internal_strconv_lower _ _).mono ?_; rintro e w' ⟨rfl, rfl⟩; rw [hlo2])
        refine ⟨⟨rfl, k + 1, by go_num, by omega, ?_, hw⟩, by simp [intOf]; omega⟩
        rw [HS.out, hd]; simp
    · obtain rfl : k = t.size := by omega
      have HE : Hid (t.data.toList.take t.size = t.data.toList) := List.take_of_length_le (by simp)
      rw [HE.out, HR.out]
      have HB : Hid (Below w.heap.size w wr) := by
        rw [hw.out]
        exact ⟨rfl, rfl, rfl, by rw [Lib.bytesWorld_size]; omega, fun k hk => Lib.bytesWorld_at_old _ _ _ _ hk⟩
      clear hw HE HR
      go_wp2_with fail
      go_ret2
      exact ⟨rfl, HB.out⟩
set_option maxHeartbeats 1000000 in
theorem pintI_any (t : ByteArray) (w : World) (h0 : 0 < t.size) (h6 : t.size ≤ 6) (hx : ∀ c ∈ t.data.toList, isHx c = true) :
    Calls Tryz.prog 176 #[.string t, .int .i64 16, .int .i64 64] w fun e w' => e = .returned (.tuple #[.int .i64 (valH t.data.toList), .nilIface]) ∧ Below w.heap.size w w' := by
  have HC : Hid (∀ W : World, Calls Tryz.prog 194 #[.string t, .int .i64 16, .int .i64 64] W fun e w' => e = .returned (.tuple #[.int .u64 (valH t.data.toList), .nilIface]) ∧ Below W.heap.size W w') := fun W => puint_any t W h0 h6 hx
  have hne : t.toList.isEmpty = false := by
    rw [Lib.toList_data]
    cases hL : t.data.toList with
    | nil =>
      have : t.size = 0 := by
        show t.data.size = 0
        rw [← Array.length_toList, hL]; rfl
      omega
    | cons a l => rfl
  have hfx : isHx t[0] = true := hx _ (by
    have : t[0] = t.data.toList[0]'(by simpa using h0) := rfl
    rw [this]; exact List.getElem_mem _)
  have h43 : ((t[0].toNat : Int) == 43) = false := by simp [isHx, isDg] at hfx; simp; omega
  have h45 : ((t[0].toNat : Int) == 45) = false := by simp [isHx, isDg] at hfx; simp; omega
  have h0i : (0 : Int) < (t.size : Int) := by omega
  have hlt : valH t.data.toList < 16777216 := by
    have h1 := valH_lt t.data.toList hx
    have : 16 ^ t.data.toList.length ≤ 16 ^ 6 := Nat.pow_le_pow_right (by omega) (by simpa using h6)
    omega
  generalize valH t.data.toList = m at HC hlt ⊢
  have hsh : IntKind.u64.wrap 9223372036854775808 = 9223372036854775808 := by decide +kernel
  have hcut : decide ((9223372036854775808 : Int) ≤ (m : Int)) = false := by simp; omega
  have hwm : IntKind.i64.wrap (m : Int) = (m : Int) := by simp [IntKind.wrap, IntKind.signed, IntKind.bits]; omega
  clear hx hfx
  go_enter Tryz.func176, Tryz.ntmps176
  go_wp2_with fail
  refine (HC.out _).mono ?_
  rintro e w1 ⟨rfl, hb⟩
  go_wp2
  go_ret2
  exact ⟨rfl, hb⟩
set_option maxHeartbeats 1000000 in
theorem pint_any (t : ByteArray) (w : World) (h0 : 0 < t.size) (h6 : t.size ≤ 6) (hx : ∀ c ∈ t.data.toList, isHx c = true) :
    Calls Tryz.prog 156 #[.string t, .int .i64 16, .int .i64 64] w fun e w' => e = .returned (.tuple #[.int .i64 (valH t.data.toList), .nilIface]) ∧ Below w.heap.size w w' := by
  have HC : Hid (∀ W : World, Calls Tryz.prog 176 #[.string t, .int .i64 16, .int .i64 64] W fun e w' => e = .returned (.tuple #[.int .i64 (valH t.data.toList), .nilIface]) ∧ Below W.heap.size W w') := fun W => pintI_any t W h0 h6 hx
  generalize valH t.data.toList = m at HC ⊢
  go_enter Tryz.func156, Tryz.ntmps156
  go_wp2_with fail
  refine (HC.out _).mono ?_
  rintro e w1 ⟨rfl, hb⟩
  go_wp2
  go_ret2
  exact ⟨rfl, hb⟩
set_option maxHeartbeats 1000000 in
theorem number16_any (t : ByteArray) (w : World) (h0 : 0 < t.size) (h6 : t.size ≤ 6) (hx : ∀ c ∈ t.data.toList, isHx c = true) :
    Calls Tryz.prog 131 #[.string t, .int .i64 16] w fun e w' => e = .returned (.int .i64 (valH t.data.toList)) ∧ Below w.heap.size w w' := by
  have HC : Hid (∀ W : World, Calls Tryz.prog 156 #[.string t, .int .i64 16, .int .i64 64] W fun e w' => e = .returned (.tuple #[.int .i64 (valH t.data.toList), .nilIface]) ∧ Below W.heap.size W w') := fun W => pint_any t W h0 h6 hx
  generalize valH t.data.toList = m at HC ⊢
  go_enter Tryz.func131, Tryz.ntmps131
  go_wp2_with fail
  refine (HC.out _).mono ?_
  rintro e w1 ⟨rfl, hb⟩
  go_wp2
  go_ret
  exact ⟨rfl, hb⟩
end Go.Proofs
