/-
  The document's scanner: runes that stand for themselves.
-/
import Derived.Shelf.Abstract
import Derived.Shelf.RegionOpen
import Derived.WalkKit
import Derived.WalkSpells
import Derived.WalkLawsBesides
import Derived.BigQuiet
import Derived.Deep.QuietTactic
import Derived.Deep.LoopGhost
import Derived.Lib.OthersKept
import Derived.WalkMore
import Derived.Lib.ParseIntB
import Derived.Test.YtknaoahokopplaaGreatDoorMgjk
namespace Go.Proofs
open Go.RowKit Go.Shelf
set_option maxRecDepth 100000
attribute [local go_sem] Oper.semAt_some
set_option maxHeartbeats 2000000 in
theorem rtok_bad0 (s:ByteArray) (p:Nat) (u m:Int) (hs:s.size≤1000000) (hp:p<s.size) (hc:s[p].toNat≠36∧s[p].toNat≠64∧s[p].toNat≠92) (hb:Lib.hasPrefix (s.data.toList.drop p) [91,58]=false) (hi:Lib.indexByte sgnL s[p] = -1) (hF:∀ w,Calls Tryz.prog 83 #[.string (s.extract p (min s.size (p+4)))] w fun e w'=>e = .returned (.tuple #[.int .i64 u,.int .i64 m])∧Below w.heap.size w w') (hu:1114112≤u∨u<32∨u=127∨u=44):Tells 45 #[.string s,.int .i64 p,.bool false] 0 0 0 0 ⟨#[]⟩ 0 40:=by
 intro w
 obtain ⟨z,hz⟩:∃ z,s.size=z:=⟨_,rfl⟩
 have hpI:(p:Int)≤1000000:=by omega
 have hp0:(0:Int)≤(p:Int):=by omega
 have hlt:(p:Int)<(z:Int):=by omega
 have h36:((s[p].toNat:Int) == 36)=false:=by simp only [beq_eq_false_iff_ne,ne_eq];omega
 have h64:((s[p].toNat:Int) == 64)=false:=by simp only [beq_eq_false_iff_ne,ne_eq];omega
 have h92:((s[p].toNat:Int) == 92)=false:=by simp only [beq_eq_false_iff_ne,ne_eq];omega
 have HB:Hid (∀ w,Calls Tryz.prog 78 #[.string s,.int .i64 p,.string ⟨#[91,58]⟩] w fun e w'=>e = .returned (.bool false)∧w'=w):=fun w=>by
  have:=rbegins_any s ⟨#[91,58]⟩ p w (by omega) (by omega) (by decide)
  simp only [hb] at this
  exact this
 have HI:Hid (∀ w,Calls Tryz.prog 80 #[.int .u8 s[p].toNat,.string ⟨#[62,59,123,125,124,94,36,46,91,93,45,61,58]⟩] w fun e w'=>e = .returned (.int .i64 (-1))∧w'=w):=fun w=>by
  have:=rin_any s[p] ⟨#[62,59,123,125,124,94,36,46,91,93,45,61,58]⟩ w (by decide)
  rw [show (⟨#[62,59,123,125,124,94,36,46,91,93,45,61,58]⟩:ByteArray).data.toList=sgnL from rfl,hi] at this
  exact this
 have HF:Hid (∀ w,Calls Tryz.prog 83 #[.string (s.extract p (min z (p+4)))] w fun e w'=>e = .returned (.tuple #[.int .i64 u,.int .i64 m])∧Below w.heap.size w w'):=by rw [hz] at hF;exact hF
 have hmin:(min (z:Int) ((p:Int)+4)).toNat=min z (p+4):=by omega
 clear hc hi hF
 go_enter Tryz.func45,Tryz.ntmps45
 go_wp2_with fail
 refine (HB.out _).mono ?_
 rintro e w1 ⟨rfl,rfl⟩
 go_wp2_with fail
 refine (HI.out _).mono ?_
 rintro e w2 ⟨rfl,rfl⟩
 go_wp2_with fail
 refine (HF.out _).mono ?_
 rintro e w9 ⟨rfl,hb9⟩
 have HTB:=(TB.new w 0 0 0 0 ⟨#[]⟩ 0).below hb9 (by simp)
 have HB9:Hid (Below w.heap.size w w9):=((Below.refl _ w).alloc (Nat.le_refl _) _).trans (hb9.mono (by simp))
 obtain ⟨c0,c1,c2,c3,c4,c5⟩:=HTB.cells
 obtain ⟨f0,f1,f2,f3,f4,f5⟩:=HTB.frozen
 clear hb9
 rcases hu with hu | hu | rfl | rfl
 all_goals
  go_wp2
  exact ret_tk rfl rfl rfl (HTB.set 0 0 0 0 ⟨#[]⟩ 0) ⟨rfl,below_set6 HB9.out (Nat.le_refl _) _ _ _ _ _ _⟩
set_option maxHeartbeats 2000000 in
theorem rtok_bare0 (s:ByteArray) (p:Nat) (u m:Int) (hs:s.size≤1000000) (hp:p<s.size) (hc:s[p].toNat≠36∧s[p].toNat≠64∧s[p].toNat≠92) (hb:Lib.hasPrefix (s.data.toList.drop p) [91,58]=false) (hi:Lib.indexByte sgnL s[p] = -1) (hF:∀ w,Calls Tryz.prog 83 #[.string (s.extract p (min s.size (p+4)))] w fun e w'=>e = .returned (.tuple #[.int .i64 u,.int .i64 m])∧Below w.heap.size w w') (h1:u<1114112) (h2:32≤u) (h3:u≠127) (h4':u≠44):Tells 45 #[.string s,.int .i64 p,.bool false] 1 p m u ⟨#[]⟩ 0 0:=by
 intro w
 obtain ⟨z,hz⟩:∃ z,s.size=z:=⟨_,rfl⟩
 have hpI:(p:Int)≤1000000:=by omega
 have hp0:(0:Int)≤(p:Int):=by omega
 have hlt:(p:Int)<(z:Int):=by omega
 have h36:((s[p].toNat:Int) == 36)=false:=by simp only [beq_eq_false_iff_ne,ne_eq];omega
 have h64:((s[p].toNat:Int) == 64)=false:=by simp only [beq_eq_false_iff_ne,ne_eq];omega
 have h92:((s[p].toNat:Int) == 92)=false:=by simp only [beq_eq_false_iff_ne,ne_eq];omega
 have HB:Hid (∀ w,Calls Tryz.prog 78 #[.string s,.int .i64 p,.string ⟨#[91,58]⟩] w fun e w'=>e = .returned (.bool false)∧w'=w):=fun w=>by
  have:=rbegins_any s ⟨#[91,58]⟩ p w (by omega) (by omega) (by decide)
  simp only [hb] at this
  exact this
 have HI:Hid (∀ w,Calls Tryz.prog 80 #[.int .u8 s[p].toNat,.string ⟨#[62,59,123,125,124,94,36,46,91,93,45,61,58]⟩] w fun e w'=>e = .returned (.int .i64 (-1))∧w'=w):=fun w=>by
  have:=rin_any s[p] ⟨#[62,59,123,125,124,94,36,46,91,93,45,61,58]⟩ w (by decide)
  rw [show (⟨#[62,59,123,125,124,94,36,46,91,93,45,61,58]⟩:ByteArray).data.toList=sgnL from rfl,hi] at this
  exact this
 have h3':(u == 127)=false:=by simpa using h3
 have h4b:(u == 44)=false:=by simpa using h4'
 have HF:Hid (∀ w,Calls Tryz.prog 83 #[.string (s.extract p (min z (p+4)))] w fun e w'=>e = .returned (.tuple #[.int .i64 u,.int .i64 m])∧Below w.heap.size w w'):=by rw [hz] at hF;exact hF
 have hmin:(min (z:Int) ((p:Int)+4)).toNat=min z (p+4):=by omega
 clear hc hi hF
 go_enter Tryz.func45,Tryz.ntmps45
 go_wp2_with fail
 refine (HB.out _).mono ?_
 rintro e w1 ⟨rfl,rfl⟩
 go_wp2_with fail
 refine (HI.out _).mono ?_
 rintro e w2 ⟨rfl,rfl⟩
 go_wp2_with fail
 refine (HF.out _).mono ?_
 rintro e w9 ⟨rfl,hb9⟩
 have HTB:=(TB.new w 0 0 0 0 ⟨#[]⟩ 0).below hb9 (by simp)
 have HB9:Hid (Below w.heap.size w w9):=((Below.refl _ w).alloc (Nat.le_refl _) _).trans (hb9.mono (by simp))
 obtain ⟨c0,c1,c2,c3,c4,c5⟩:=HTB.cells
 obtain ⟨f0,f1,f2,f3,f4,f5⟩:=HTB.frozen
 clear hb9
 go_wp2
 exact ret_tk rfl rfl rfl (HTB.set 1 p m u ⟨#[]⟩ 0) ⟨rfl,below_set6 HB9.out (Nat.le_refl _) _ _ _ _ _ _⟩
set_option maxHeartbeats 2000000 in
theorem rtok_bad1 (s:ByteArray) (p:Nat) (u m:Int) (hs:s.size≤1000000) (hp:p<s.size) (hc:s[p].toNat≠36∧s[p].toNat≠64∧s[p].toNat≠92) (hb:Lib.hasPrefix (s.data.toList.drop p) [91,58]=false) (hi:Lib.indexByte sgnL s[p] = -1) (ht:Lib.hasPrefix (s.data.toList.drop p) [116,104,101,110]=false) (hF:∀ w,Calls Tryz.prog 83 #[.string (s.extract p (min s.size (p+4)))] w fun e w'=>e = .returned (.tuple #[.int .i64 u,.int .i64 m])∧Below w.heap.size w w') (hu:1114112≤u∨u<32∨u=127∨u=44):Tells 45 #[.string s,.int .i64 p,.bool true] 0 0 0 0 ⟨#[]⟩ 0 40:=by
 intro w
 obtain ⟨z,hz⟩:∃ z,s.size=z:=⟨_,rfl⟩
 have hpI:(p:Int)≤1000000:=by omega
 have hp0:(0:Int)≤(p:Int):=by omega
 have hlt:(p:Int)<(z:Int):=by omega
 have h36:((s[p].toNat:Int) == 36)=false:=by simp only [beq_eq_false_iff_ne,ne_eq];omega
 have h64:((s[p].toNat:Int) == 64)=false:=by simp only [beq_eq_false_iff_ne,ne_eq];omega
 have h92:((s[p].toNat:Int) == 92)=false:=by simp only [beq_eq_false_iff_ne,ne_eq];omega
 have HB:Hid (∀ w,Calls Tryz.prog 78 #[.string s,.int .i64 p,.string ⟨#[91,58]⟩] w fun e w'=>e = .returned (.bool false)∧w'=w):=fun w=>by
  have:=rbegins_any s ⟨#[91,58]⟩ p w (by omega) (by omega) (by decide)
  simp only [hb] at this
  exact this
 have HI:Hid (∀ w,Calls Tryz.prog 80 #[.int .u8 s[p].toNat,.string ⟨#[62,59,123,125,124,94,36,46,91,93,45,61,58]⟩] w fun e w'=>e = .returned (.int .i64 (-1))∧w'=w):=fun w=>by
  have:=rin_any s[p] ⟨#[62,59,123,125,124,94,36,46,91,93,45,61,58]⟩ w (by decide)
  rw [show (⟨#[62,59,123,125,124,94,36,46,91,93,45,61,58]⟩:ByteArray).data.toList=sgnL from rfl,hi] at this
  exact this
 have HT:Hid (∀ w,Calls Tryz.prog 78 #[.string s,.int .i64 p,.string ⟨#[116,104,101,110]⟩] w fun e w'=>e = .returned (.bool false)∧w'=w):=fun w=>by
  have:=rbegins_any s ⟨#[116,104,101,110]⟩ p w (by omega) (by omega) (by decide)
  simp only [ht] at this
  exact this
 have HF:Hid (∀ w,Calls Tryz.prog 83 #[.string (s.extract p (min z (p+4)))] w fun e w'=>e = .returned (.tuple #[.int .i64 u,.int .i64 m])∧Below w.heap.size w w'):=by rw [hz] at hF;exact hF
 have hmin:(min (z:Int) ((p:Int)+4)).toNat=min z (p+4):=by omega
 clear hc hi hF
 go_enter Tryz.func45,Tryz.ntmps45
 go_wp2_with fail
 refine (HB.out _).mono ?_
 rintro e w1 ⟨rfl,rfl⟩
 go_wp2_with fail
 refine (HI.out _).mono ?_
 rintro e w2 ⟨rfl,rfl⟩
 go_wp2_with fail
 refine (HT.out _).mono ?_
 rintro e w3 ⟨rfl,rfl⟩
 go_wp2_with fail
 refine (HF.out _).mono ?_
 rintro e w9 ⟨rfl,hb9⟩
 have HTB:=(TB.new w 0 0 0 0 ⟨#[]⟩ 0).below hb9 (by simp)
 have HB9:Hid (Below w.heap.size w w9):=((Below.refl _ w).alloc (Nat.le_refl _) _).trans (hb9.mono (by simp))
 obtain ⟨c0,c1,c2,c3,c4,c5⟩:=HTB.cells
 obtain ⟨f0,f1,f2,f3,f4,f5⟩:=HTB.frozen
 clear hb9
 rcases hu with hu | hu | rfl | rfl
 all_goals
  go_wp2
  exact ret_tk rfl rfl rfl (HTB.set 0 0 0 0 ⟨#[]⟩ 0) ⟨rfl,below_set6 HB9.out (Nat.le_refl _) _ _ _ _ _ _⟩
set_option maxHeartbeats 2000000 in
theorem rtok_bare1 (s:ByteArray) (p:Nat) (u m:Int) (hs:s.size≤1000000) (hp:p<s.size) (hc:s[p].toNat≠36∧s[p].toNat≠64∧s[p].toNat≠92) (hb:Lib.hasPrefix (s.data.toList.drop p) [91,58]=false) (hi:Lib.indexByte sgnL s[p] = -1) (ht:Lib.hasPrefix (s.data.toList.drop p) [116,104,101,110]=false) (hF:∀ w,Calls Tryz.prog 83 #[.string (s.extract p (min s.size (p+4)))] w fun e w'=>e = .returned (.tuple #[.int .i64 u,.int .i64 m])∧Below w.heap.size w w') (h1:u<1114112) (h2:32≤u) (h3:u≠127) (h4':u≠44):Tells 45 #[.string s,.int .i64 p,.bool true] 1 p m u ⟨#[]⟩ 0 0:=by
 intro w
 obtain ⟨z,hz⟩:∃ z,s.size=z:=⟨_,rfl⟩
 have hpI:(p:Int)≤1000000:=by omega
 have hp0:(0:Int)≤(p:Int):=by omega
 have hlt:(p:Int)<(z:Int):=by omega
 have h36:((s[p].toNat:Int) == 36)=false:=by simp only [beq_eq_false_iff_ne,ne_eq];omega
 have h64:((s[p].toNat:Int) == 64)=false:=by simp only [beq_eq_false_iff_ne,ne_eq];omega
 have h92:((s[p].toNat:Int) == 92)=false:=by simp only [beq_eq_false_iff_ne,ne_eq];omega
 have HB:Hid (∀ w,Calls Tryz.prog 78 #[.string s,.int .i64 p,.string ⟨#[91,58]⟩] w fun e w'=>e = .returned (.bool false)∧w'=w):=fun w=>by
  have:=rbegins_any s ⟨#[91,58]⟩ p w (by omega) (by omega) (by decide)
  simp only [hb] at this
  exact this
 have HI:Hid (∀ w,Calls Tryz.prog 80 #[.int .u8 s[p].toNat,.string ⟨#[62,59,123,125,124,94,36,46,91,93,45,61,58]⟩] w fun e w'=>e = .returned (.int .i64 (-1))∧w'=w):=fun w=>by
  have:=rin_any s[p] ⟨#[62,59,123,125,124,94,36,46,91,93,45,61,58]⟩ w (by decide)
  rw [show (⟨#[62,59,123,125,124,94,36,46,91,93,45,61,58]⟩:ByteArray).data.toList=sgnL from rfl,hi] at this
  exact this
 have HT:Hid (∀ w,Calls Tryz.prog 78 #[.string s,.int .i64 p,.string ⟨#[116,104,101,110]⟩] w fun e w'=>e = .returned (.bool false)∧w'=w):=fun w=>by
  have:=rbegins_any s ⟨#[116,104,101,110]⟩ p w (by omega) (by omega) (by decide)
  simp only [ht] at this
  exact this
 have h3':(u == 127)=false:=by simpa using h3
 have h4b:(u == 44)=false:=by simpa using h4'
 have HF:Hid (∀ w,Calls Tryz.prog 83 #[.string (s.extract p (min z (p+4)))] w fun e w'=>e = .returned (.tuple #[.int .i64 u,.int .i64 m])∧Below w.heap.size w w'):=by rw [hz] at hF;exact hF
 have hmin:(min (z:Int) ((p:Int)+4)).toNat=min z (p+4):=by omega
 clear hc hi hF
 go_enter Tryz.func45,Tryz.ntmps45
 go_wp2_with fail
 refine (HB.out _).mono ?_
 rintro e w1 ⟨rfl,rfl⟩
 go_wp2_with fail
 refine (HI.out _).mono ?_
 rintro e w2 ⟨rfl,rfl⟩
 go_wp2_with fail
 refine (HT.out _).mono ?_
 rintro e w3 ⟨rfl,rfl⟩
 go_wp2_with fail
 refine (HF.out _).mono ?_
 rintro e w9 ⟨rfl,hb9⟩
 have HTB:=(TB.new w 0 0 0 0 ⟨#[]⟩ 0).below hb9 (by simp)
 have HB9:Hid (Below w.heap.size w w9):=((Below.refl _ w).alloc (Nat.le_refl _) _).trans (hb9.mono (by simp))
 obtain ⟨c0,c1,c2,c3,c4,c5⟩:=HTB.cells
 obtain ⟨f0,f1,f2,f3,f4,f5⟩:=HTB.frozen
 clear hb9
 go_wp2
 exact ret_tk rfl rfl rfl (HTB.set 1 p m u ⟨#[]⟩ 0) ⟨rfl,below_set6 HB9.out (Nat.le_refl _) _ _ _ _ _ _⟩
set_option maxHeartbeats 2000000 in
theorem rtok_bad2 (s:ByteArray) (p:Nat) (u m:Int) (hs:s.size≤1000000) (hp:p<s.size) (hc:s[p].toNat≠36∧s[p].toNat≠64∧s[p].toNat≠92) (hb:Lib.hasPrefix (s.data.toList.drop p) [91,58]=false) (hi:Lib.indexByte sgnL s[p] = -1) (q:Nat) (ht:Lib.hasPrefix (s.data.toList.drop p) [116,104,101,110]=true) (h4:p+4≤s.size) (hq:p+4+pastN false (s.data.toList.drop (p+4))=q) (he:Lib.hasPrefix (s.data.toList.drop q) [59]=false) (hF:∀ w,Calls Tryz.prog 83 #[.string (s.extract p (min s.size (p+4)))] w fun e w'=>e = .returned (.tuple #[.int .i64 u,.int .i64 m])∧Below w.heap.size w w') (hu:1114112≤u∨u<32∨u=127∨u=44):Tells 45 #[.string s,.int .i64 p,.bool true] 0 0 0 0 ⟨#[]⟩ 0 40:=by
 intro w
 have hqz:q≤s.size:=by
  have:=pastN_le false (s.data.toList.drop (p+4))
  simp at this
  omega
 obtain ⟨z,hz⟩:∃ z,s.size=z:=⟨_,rfl⟩
 have hpI:(p:Int)≤1000000:=by omega
 have hp0:(0:Int)≤(p:Int):=by omega
 have hlt:(p:Int)<(z:Int):=by omega
 have h36:((s[p].toNat:Int) == 36)=false:=by simp only [beq_eq_false_iff_ne,ne_eq];omega
 have h64:((s[p].toNat:Int) == 64)=false:=by simp only [beq_eq_false_iff_ne,ne_eq];omega
 have h92:((s[p].toNat:Int) == 92)=false:=by simp only [beq_eq_false_iff_ne,ne_eq];omega
 have HB:Hid (∀ w,Calls Tryz.prog 78 #[.string s,.int .i64 p,.string ⟨#[91,58]⟩] w fun e w'=>e = .returned (.bool false)∧w'=w):=fun w=>by
  have:=rbegins_any s ⟨#[91,58]⟩ p w (by omega) (by omega) (by decide)
  simp only [hb] at this
  exact this
 have HI:Hid (∀ w,Calls Tryz.prog 80 #[.int .u8 s[p].toNat,.string ⟨#[62,59,123,125,124,94,36,46,91,93,45,61,58]⟩] w fun e w'=>e = .returned (.int .i64 (-1))∧w'=w):=fun w=>by
  have:=rin_any s[p] ⟨#[62,59,123,125,124,94,36,46,91,93,45,61,58]⟩ w (by decide)
  rw [show (⟨#[62,59,123,125,124,94,36,46,91,93,45,61,58]⟩:ByteArray).data.toList=sgnL from rfl,hi] at this
  exact this
 have HT:Hid (∀ w,Calls Tryz.prog 78 #[.string s,.int .i64 p,.string ⟨#[116,104,101,110]⟩] w fun e w'=>e = .returned (.bool true)∧w'=w):=fun w=>by
  have:=rbegins_any s ⟨#[116,104,101,110]⟩ p w (by omega) (by omega) (by decide)
  simp only [ht] at this
  exact this
 have HO:Hid (∀ w,Calls Tryz.prog 44 #[.string s,.int .i64 ((p:Int)+4)] w fun e w'=>e = .returned (.int .i64 q)∧w'=w):=fun w=>by
  have:=rover_any s (p+4) w (by unfold maxLen;omega) h4
  rw [hq] at this
  simpa using this
 have HE:Hid (∀ w,Calls Tryz.prog 78 #[.string s,.int .i64 q,.string ⟨#[59]⟩] w fun e w'=>e = .returned (.bool false)∧w'=w):=fun w=>by
  have:=rbegins_any s ⟨#[59]⟩ q w (by omega) hqz (by decide)
  simp only [he] at this
  exact this
 have HF:Hid (∀ w,Calls Tryz.prog 83 #[.string (s.extract p (min z (p+4)))] w fun e w'=>e = .returned (.tuple #[.int .i64 u,.int .i64 m])∧Below w.heap.size w w'):=by rw [hz] at hF;exact hF
 have hmin:(min (z:Int) ((p:Int)+4)).toNat=min z (p+4):=by omega
 clear hc hi hF
 go_enter Tryz.func45,Tryz.ntmps45
 go_wp2_with fail
 refine (HB.out _).mono ?_
 rintro e w1 ⟨rfl,rfl⟩
 go_wp2_with fail
 refine (HI.out _).mono ?_
 rintro e w2 ⟨rfl,rfl⟩
 go_wp2_with fail
 refine (HT.out _).mono ?_
 rintro e w3 ⟨rfl,rfl⟩
 go_wp2_with fail
 refine (HO.out _).mono ?_
 rintro e w4 ⟨rfl,rfl⟩
 go_wp2_with fail
 refine (HE.out _).mono ?_
 rintro e w5 ⟨rfl,rfl⟩
 go_wp2_with fail
 refine (HF.out _).mono ?_
 rintro e w9 ⟨rfl,hb9⟩
 have HTB:=(TB.new w 0 0 0 0 ⟨#[]⟩ 0).below hb9 (by simp)
 have HB9:Hid (Below w.heap.size w w9):=((Below.refl _ w).alloc (Nat.le_refl _) _).trans (hb9.mono (by simp))
 obtain ⟨c0,c1,c2,c3,c4,c5⟩:=HTB.cells
 obtain ⟨f0,f1,f2,f3,f4,f5⟩:=HTB.frozen
 clear hb9
 rcases hu with hu | hu | rfl | rfl
 all_goals
  go_wp2
  exact ret_tk rfl rfl rfl (HTB.set 0 0 0 0 ⟨#[]⟩ 0) ⟨rfl,below_set6 HB9.out (Nat.le_refl _) _ _ _ _ _ _⟩
set_option maxHeartbeats 2000000 in
theorem rtok_bare2 (s:ByteArray) (p:Nat) (u m:Int) (hs:s.size≤1000000) (hp:p<s.size) (hc:s[p].toNat≠36∧s[p].toNat≠64∧s[p].toNat≠92) (hb:Lib.hasPrefix (s.data.toList.drop p) [91,58]=false) (hi:Lib.indexByte sgnL s[p] = -1) (q:Nat) (ht:Lib.hasPrefix (s.data.toList.drop p) [116,104,101,110]=true) (h4:p+4≤s.size) (hq:p+4+pastN false (s.data.toList.drop (p+4))=q) (he:Lib.hasPrefix (s.data.toList.drop q) [59]=false) (hF:∀ w,Calls Tryz.prog 83 #[.string (s.extract p (min s.size (p+4)))] w fun e w'=>e = .returned (.tuple #[.int .i64 u,.int .i64 m])∧Below w.heap.size w w') (h1:u<1114112) (h2:32≤u) (h3:u≠127) (h4':u≠44):Tells 45 #[.string s,.int .i64 p,.bool true] 1 p m u ⟨#[]⟩ 0 0:=by
 intro w
 have hqz:q≤s.size:=by
  have:=pastN_le false (s.data.toList.drop (p+4))
  simp at this
  omega
 obtain ⟨z,hz⟩:∃ z,s.size=z:=⟨_,rfl⟩
 have hpI:(p:Int)≤1000000:=by omega
 have hp0:(0:Int)≤(p:Int):=by omega
 have hlt:(p:Int)<(z:Int):=by omega
 have h36:((s[p].toNat:Int) == 36)=false:=by simp only [beq_eq_false_iff_ne,ne_eq];omega
 have h64:((s[p].toNat:Int) == 64)=false:=by simp only [beq_eq_false_iff_ne,ne_eq];omega
 have h92:((s[p].toNat:Int) == 92)=false:=by simp only [beq_eq_false_iff_ne,ne_eq];omega
 have HB:Hid (∀ w,Calls Tryz.prog 78 #[.string s,.int .i64 p,.string ⟨#[91,58]⟩] w fun e w'=>e = .returned (.bool false)∧w'=w):=fun w=>by
  have:=rbegins_any s ⟨#[91,58]⟩ p w (by omega) (by omega) (by decide)
  simp only [hb] at this
  exact this
 have HI:Hid (∀ w,Calls Tryz.prog 80 #[.int .u8 s[p].toNat,.string ⟨#[62,59,123,125,124,94,36,46,91,93,45,61,58]⟩] w fun e w'=>e = .returned (.int .i64 (-1))∧w'=w):=fun w=>by
  have:=rin_any s[p] ⟨#[62,59,123,125,124,94,36,46,91,93,45,61,58]⟩ w (by decide)
  rw [show (⟨#[62,59,123,125,124,94,36,46,91,93,45,61,58]⟩:ByteArray).data.toList=sgnL from rfl,hi] at this
  exact this
 have HT:Hid (∀ w,Calls Tryz.prog 78 #[.string s,.int .i64 p,.string ⟨#[116,104,101,110]⟩] w fun e w'=>e = .returned (.bool true)∧w'=w):=fun w=>by
  have:=rbegins_any s ⟨#[116,104,101,110]⟩ p w (by omega) (by omega) (by decide)
  simp only [ht] at this
  exact this
 have HO:Hid (∀ w,Calls Tryz.prog 44 #[.string s,.int .i64 ((p:Int)+4)] w fun e w'=>e = .returned (.int .i64 q)∧w'=w):=fun w=>by
  have:=rover_any s (p+4) w (by unfold maxLen;omega) h4
  rw [hq] at this
  simpa using this
 have HE:Hid (∀ w,Calls Tryz.prog 78 #[.string s,.int .i64 q,.string ⟨#[59]⟩] w fun e w'=>e = .returned (.bool false)∧w'=w):=fun w=>by
  have:=rbegins_any s ⟨#[59]⟩ q w (by omega) hqz (by decide)
  simp only [he] at this
  exact this
 have h3':(u == 127)=false:=by simpa using h3
 have h4b:(u == 44)=false:=by simpa using h4'
 have HF:Hid (∀ w,Calls Tryz.prog 83 #[.string (s.extract p (min z (p+4)))] w fun e w'=>e = .returned (.tuple #[.int .i64 u,.int .i64 m])∧Below w.heap.size w w'):=by rw [hz] at hF;exact hF
 have hmin:(min (z:Int) ((p:Int)+4)).toNat=min z (p+4):=by omega
 clear hc hi hF
 go_enter Tryz.func45,Tryz.ntmps45
 go_wp2_with fail
 refine (HB.out _).mono ?_
 rintro e w1 ⟨rfl,rfl⟩
 go_wp2_with fail
 refine (HI.out _).mono ?_
 rintro e w2 ⟨rfl,rfl⟩
 go_wp2_with fail
 refine (HT.out _).mono ?_
 rintro e w3 ⟨rfl,rfl⟩
 go_wp2_with fail
 refine (HO.out _).mono ?_
 rintro e w4 ⟨rfl,rfl⟩
 go_wp2_with fail
 refine (HE.out _).mono ?_
 rintro e w5 ⟨rfl,rfl⟩
 go_wp2_with fail
 refine (HF.out _).mono ?_
 rintro e w9 ⟨rfl,hb9⟩
 have HTB:=(TB.new w 0 0 0 0 ⟨#[]⟩ 0).below hb9 (by simp)
 have HB9:Hid (Below w.heap.size w w9):=((Below.refl _ w).alloc (Nat.le_refl _) _).trans (hb9.mono (by simp))
 obtain ⟨c0,c1,c2,c3,c4,c5⟩:=HTB.cells
 obtain ⟨f0,f1,f2,f3,f4,f5⟩:=HTB.frozen
 clear hb9
 go_wp2
 exact ret_tk rfl rfl rfl (HTB.set 1 p m u ⟨#[]⟩ 0) ⟨rfl,below_set6 HB9.out (Nat.le_refl _) _ _ _ _ _ _⟩
end Go.Proofs
