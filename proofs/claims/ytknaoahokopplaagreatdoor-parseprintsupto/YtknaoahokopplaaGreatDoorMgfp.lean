/-
  Several texts in one (Bap Esp Ebp Xfp).
-/
import Derived.Shelf.Abstract
import Derived.Shelf.RegionOpen
import Derived.WalkKit
import Derived.WalkSpells
import Derived.WalkLawsBesides
import Derived.BigQuiet
import Derived.Deep.QuietTactic
import Derived.Deep.LoopGhost
import Derived.Lib.OthersKept
import Derived.ScopeJumps
import Derived.WalkMore
import Derived.Maps.AppendAt
import Derived.Lib.SmallJoins
import Derived.Test.YtknaoahokopplaaGreatDoorMgep
import Derived.Test.YtknaoahokopplaaGreatDoorMgcp
namespace Go.Proofs
open Go.RowKit Go.Shelf
set_option maxRecDepth 100000
attribute [local go_sem] Oper.semAt_some
theorem take_span (f:UInt8→Bool):∀ (l:List UInt8),∀ c∈l.take (spanN f l),f c=true
 | [],c,h=>by simp [spanN] at h
 | b::l,c,h=>by
  rw [spanN_cons] at h
  split at h
  · rename_i hb
    rw [List.take_succ_cons,List.mem_cons] at h
    rcases h with rfl | h
    · exact hb
    · exact take_span f l c h
  · simp at h
theorem span_all (s:ByteArray) (n:Nat) (_h3:3≤s.size) (hn:spanN isHx (s.extract 3 s.size).data.toList=n):∀ c∈(s.extract 3 (3+n)).data.toList,isHx c=true:=by
 have e:(s.extract 3 (3+n)).data.toList=(s.data.toList.drop 3).take n:=by
  simp only [ByteArray.data_extract,Array.toList_extract,List.extract]
  congr 1
  omega
 intro c hc
 rw [e,←hn,ext_drop] at hc
 exact take_span isHx _ c hc
theorem span3_le (s:ByteArray) (n:Nat) (h3:3≤s.size) (hn:spanN isHx (s.extract 3 s.size).data.toList=n):3+(n:Int)≤(s.size:Int):=by
 have:=spanN_le isHx (s.extract 3 s.size).data.toList
 rw [hn,ext_drop] at this
 simp at this
 omega
set_option maxHeartbeats 1000000 in
theorem braced_open (s:ByteArray) (most:Nat) (r:ByteArray) (n:Nat) (w:World) (hs:s.size≤maxLen) (_hm6:most≤6) (h3:3≤s.size) (hc:s[2].toNat=123) (hn:spanN isHx (s.extract 3 s.size).data.toList=n) (hr:s.extract (3+n) s.size=r) (hmost:n≤most) (he:r.toList.isEmpty=true):Calls Tryz.prog 157 #[.string s,.int .i64 most] w fun e w'=>e = .returned (.tuple #[.int .i64 0,.int .i64 0,.int .i64 44])∧Below w.heap.size w w':=by
 have hb:=span3_le s n h3 hn
 have hb0:(0:Int)≤3+(n:Int):=by omega
 have hm:(s.size:Int)≤9223372036854775807:=by unfold maxLen at hs;omega
 have h2:((s.size:Int) == 2)=false:=by simp;omega
 have h3i:(2:Int)<(s.size:Int):=by omega
 have hd:decide ((most:Int)<(n:Int))=false:=by simp;omega
 go_enter Tryz.func157,Tryz.ntmps157
 go_wp2_with (go_at_call 85;refine (span_hex _ _ (by rw [ext_size];omega)).mono ?_;rintro e w' ⟨rfl,rfl⟩;rw [hn])
 exact bodyPost_ret (v := .tuple #[.int .i64 0,.int .i64 0,.int .i64 44]) (by simp [results,Tryz.f157,go_sem]) rfl ⟨rfl,(Below.refl _ _)⟩
set_option maxHeartbeats 1000000 in
theorem braced_ok (s:ByteArray) (most:Nat) (r:ByteArray) (n:Nat) (w:World) (hs:s.size≤maxLen) (hm6:most≤6) (h3:3≤s.size) (hc:s[2].toNat=123) (hn:spanN isHx (s.extract 3 s.size).data.toList=n) (hr:s.extract (3+n) s.size=r) (hmost:n≤most) (h0:0<n) (he:r.toList.isEmpty=false) (hrz:0<r.size) (hc2:r[0].toNat=125) (m:Nat) (hv:valH (s.extract 3 (3+n)).data.toList=m):Calls Tryz.prog 157 #[.string s,.int .i64 most] w fun e w'=>e = .returned (.tuple #[.int .i64 m,.int .i64 (3+n+1),.int .i64 0])∧Below w.heap.size w w':=by
 have hb:=span3_le s n h3 hn
 have hb0:(0:Int)≤3+(n:Int):=by omega
 have hm:(s.size:Int)≤9223372036854775807:=by unfold maxLen at hs;omega
 have h2:((s.size:Int) == 2)=false:=by simp;omega
 have h3i:(2:Int)<(s.size:Int):=by omega
 have hd:decide ((most:Int)<(n:Int))=false:=by simp;omega
 have h0d:((n:Int) == 0)=false:=by simp;omega
 have hrzi:(0:Int)<(r.size:Int):=by omega
 have HNum:Hid (∀ W:World,Calls Tryz.prog 131 #[.string (s.extract 3 (3+n)),.int .i64 16] W fun e w'=>e = .returned (.int .i64 m)∧Below W.heap.size W w'):=fun W=>by
  have hz:(s.extract 3 (3+n)).size=n:=by rw [ByteArray.size_extract];omega
  have:=number16_any (s.extract 3 (3+n)) W (by omega) (by omega) (span_all s n h3 hn)
  rwa [hv] at this
 clear hv
 go_enter Tryz.func157,Tryz.ntmps157
 go_wp2_with (first | (go_at_call 85;refine (span_hex _ _ (by rw [ext_size];omega)).mono ?_;rintro e w' ⟨rfl,rfl⟩;rw [hn]))
 refine (HNum.out _).mono ?_
 rintro e w1 ⟨rfl,hb1⟩
 go_wp2
 exact bodyPost_ret (v := .tuple #[.int .i64 m,.int .i64 (3+n+1),.int .i64 0]) (by simp [results,Tryz.f157,go_sem]) rfl ⟨rfl,hb1⟩
end Go.Proofs
namespace Go.Proofs
open Go.RowKit Go.Shelf
set_option maxRecDepth 100000
attribute [local go_sem] Oper.semAt_some
def BTells (s:ByteArray) (most:Nat) (m n e0:Int):Prop:=∀ w:World,Calls Tryz.prog 157 #[.string s,.int .i64 most] w fun e w'=>e = .returned (.tuple #[.int .i64 m,.int .i64 n,.int .i64 e0])∧Below w.heap.size w w'
set_option maxHeartbeats 1000000 in
theorem eRune_high (s:ByteArray) (m n:Int) (hv:BTells s 6 m n 0) (hm:1114111<m):Tells 132 #[.string s] 0 0 0 0 ⟨#[]⟩ 0 41:=by
 intro w
 have HV:Hid (BTells s 6 m n 0):=hv
 clear hv
 have hd:decide ((1114111:Int)<m)=true:=by simpa using hm
 go_enter Tryz.func132,Tryz.ntmps132
 go_wp2_with fail
 refine (HV.out _).mono ?_
 rintro e w1 ⟨rfl,hb1⟩
 have HT1:TB w1 w.heap.size 0 0 0 0 ⟨#[]⟩ 0:=(TB.new w 0 0 0 0 ⟨#[]⟩ 0).below hb1 (by simp)
 have HB1:Below w.heap.size w w1:=((Below.refl _ w).alloc (Nat.le_refl _) _).trans (hb1.mono (by simp))
 clear hb1
 obtain ⟨c0,c1,c2,c3,c4,c5⟩:=HT1.cells
 obtain ⟨f0,f1,f2,f3,f4,f5⟩:=HT1.frozen
 go_wp2
 exact ret_tk rfl rfl rfl (HT1.set 0 0 0 0 ⟨#[]⟩ 0) ⟨rfl,below_set6 HB1 (Nat.le_refl _) _ _ _ _ _ _⟩
set_option maxHeartbeats 1000000 in
theorem eRune_ok (s:ByteArray) (m n d:Int) (hv:BTells s 6 m n 0) (hm:m≤1114111) (hwd:wd m=d) (h0:d≠0):Tells 132 #[.string s] 1 0 n m ⟨#[]⟩ 0 0:=by
 intro w
 have HV:Hid (BTells s 6 m n 0):=hv
 clear hv
 have hd:decide ((1114111:Int)<m)=false:=by simp;omega
 have hd0:(d == 0)=false:=by simpa using h0
 go_enter Tryz.func132,Tryz.ntmps132
 go_wp2_with fail
 refine (HV.out _).mono ?_
 rintro e w1 ⟨rfl,hb1⟩
 have HT1:TB w1 w.heap.size 0 0 0 0 ⟨#[]⟩ 0:=(TB.new w 0 0 0 0 ⟨#[]⟩ 0).below hb1 (by simp)
 have HB1:Below w.heap.size w w1:=((Below.refl _ w).alloc (Nat.le_refl _) _).trans (hb1.mono (by simp))
 clear hb1
 obtain ⟨c0,c1,c2,c3,c4,c5⟩:=HT1.cells
 obtain ⟨f0,f1,f2,f3,f4,f5⟩:=HT1.frozen
 go_wp2_with (go_at_call 48;refine (width_any _ _).mono ?_;rintro e w' ⟨rfl,rfl⟩;rw [hwd])
 refine (unit_any _ _ _).mono ?_
 rintro e w2 ⟨rfl,hb2⟩
 replace HT1:=HT1.below hb2 HT1.lt
 replace HB1:=HB1.trans (hb2.mono HB1.size)
 clear hb2
 obtain ⟨c0,c1,c2,c3,c4,c5⟩:=HT1.cells
 obtain ⟨f0,f1,f2,f3,f4,f5⟩:=HT1.frozen
 go_wp2
 exact ret_tk rfl rfl rfl (HT1.set 1 0 n m ⟨#[]⟩ 0) ⟨rfl,below_set6 HB1 (Nat.le_refl _) _ _ _ _ _ _⟩
set_option maxHeartbeats 1000000 in
theorem eStray_ok (s:ByteArray) (m n:Int) (hv:BTells s 2 m n 0) (hm:128≤m) (hm2:m≤255):Tells 133 #[.string s] 1 0 n (1114112+m) ⟨#[]⟩ 0 0:=by
 intro w
 have HV:Hid (BTells s 2 m n 0):=hv
 clear hv
 have hd:decide (m<(128:Int))=false:=by simp;omega
 go_enter Tryz.func133,Tryz.ntmps133
 go_wp2_with fail
 refine (HV.out _).mono ?_
 rintro e w1 ⟨rfl,hb1⟩
 have HT1:TB w1 w.heap.size 0 0 0 0 ⟨#[]⟩ 0:=(TB.new w 0 0 0 0 ⟨#[]⟩ 0).below hb1 (by simp)
 have HB1:Below w.heap.size w w1:=((Below.refl _ w).alloc (Nat.le_refl _) _).trans (hb1.mono (by simp))
 clear hb1
 obtain ⟨c0,c1,c2,c3,c4,c5⟩:=HT1.cells
 obtain ⟨f0,f1,f2,f3,f4,f5⟩:=HT1.frozen
 go_wp2_with fail
 refine (unit_any _ _ _).mono ?_
 rintro e w2 ⟨rfl,hb2⟩
 replace HT1:=HT1.below hb2 HT1.lt
 replace HB1:=HB1.trans (hb2.mono HB1.size)
 clear hb2
 obtain ⟨c0,c1,c2,c3,c4,c5⟩:=HT1.cells
 obtain ⟨f0,f1,f2,f3,f4,f5⟩:=HT1.frozen
 go_wp2
 exact ret_tk rfl rfl rfl (HT1.set 1 0 n (1114112+m) ⟨#[]⟩ 0) ⟨rfl,below_set6 HB1 (Nat.le_refl _) _ _ _ _ _ _⟩
end Go.Proofs
namespace Go.Proofs
open Go.RowKit Go.Shelf
set_option maxRecDepth 100000
attribute [local go_sem] Oper.semAt_some
theorem noPre (s:ByteArray) (h1:0<s.size) (h:s[0].toNat≠91):Lib.hasPrefix s.data.toList [91,58]=false:=by
 have hd:s.data.toList=s[0]::s.data.toList.drop 1:=by
  have:=drop_at (s:=s) (k:=0) h1
  rwa [List.drop_zero] at this
 rw [hd]
 have h2:((91:UInt8) == s[0])=false:=by
  rw [beq_eq_false_iff_ne]
  intro e
  exact h (by rw [←e];rfl)
 show List.isPrefixOf ([91,58]:List UInt8) (s[0]::_)=false
 rw [List.isPrefixOf_cons_cons,h2,Bool.false_and]
set_option maxHeartbeats 1000000 in
theorem esc_x (s:ByteArray) (k a l u:Int) (t:ByteArray) (n e0:Int) (h2:2≤s.size) (hc:s[1].toNat=120) (hv:Tells 132 #[.string s] k a l u t n e0):Tells 91 #[.string s] k a l u t n e0:=by
 intro w
 have HV:Hid (Tells 132 #[.string s] k a l u t n e0):=hv
 clear hv
 have h1i:((s.size:Int) == 1)=false:=by simp;omega
 have h2i:(1:Int)<(s.size:Int):=by omega
 go_enter Tryz.func91,Tryz.ntmps91
 go_wp2_with fail
 refine (HV.out _).mono ?_
 rintro e w2 ⟨rfl,hb2⟩
 have HT2:=(TB.new w 0 0 0 0 ⟨#[]⟩ 0).below hb2 (by simp)
 have HB2:Below w.heap.size w w2:=((Below.refl _ w).alloc (Nat.le_refl _) _).trans (hb2.mono (by simp))
 obtain ⟨c0,c1,c2,c3,c4,c5⟩:=HT2.cells
 obtain ⟨f0,f1,f2,f3,f4,f5⟩:=HT2.frozen
 clear hb2
 go_wp2
 exact ret_tk rfl rfl rfl (HT2.set k a l u t n) ⟨rfl,below_set6 HB2 (Nat.le_refl _) _ _ _ _ _ _⟩
set_option maxHeartbeats 1000000 in
theorem esc_b (s:ByteArray) (k a l u:Int) (t:ByteArray) (n e0:Int) (h2:2≤s.size) (hc:s[1].toNat=98) (hv:Tells 133 #[.string s] k a l u t n e0):Tells 91 #[.string s] k a l u t n e0:=by
 intro w
 have HV:Hid (Tells 133 #[.string s] k a l u t n e0):=hv
 clear hv
 have h1i:((s.size:Int) == 1)=false:=by simp;omega
 have h2i:(1:Int)<(s.size:Int):=by omega
 go_enter Tryz.func91,Tryz.ntmps91
 go_wp2_with fail
 refine (HV.out _).mono ?_
 rintro e w2 ⟨rfl,hb2⟩
 have HT2:=(TB.new w 0 0 0 0 ⟨#[]⟩ 0).below hb2 (by simp)
 have HB2:Below w.heap.size w w2:=((Below.refl _ w).alloc (Nat.le_refl _) _).trans (hb2.mono (by simp))
 obtain ⟨c0,c1,c2,c3,c4,c5⟩:=HT2.cells
 obtain ⟨f0,f1,f2,f3,f4,f5⟩:=HT2.frozen
 clear hb2
 go_wp2
 exact ret_tk rfl rfl rfl (HT2.set k a l u t n) ⟨rfl,below_set6 HB2 (Nat.le_refl _) _ _ _ _ _ _⟩
set_option maxHeartbeats 1000000 in
theorem esc_letter (s:ByteArray) (h2:2≤s.size) (hx:s[1].toNat≠120) (hb:s[1].toNat≠98) (h32:32≤s[1].toNat) (h126:s[1].toNat≤126) (hlt:isLt s[1]=true):Tells 91 #[.string s] 0 0 0 0 ⟨#[]⟩ 0 41:=by
 intro w
 have h1i:((s.size:Int) == 1)=false:=by simp;omega
 have h2i:(1:Int)<(s.size:Int):=by omega
 have hl:decide ((s[1].toNat:Int)<32)=false:=by simp;omega
 have hh:decide ((126:Int)<(s[1].toNat:Int))=false:=by simp;omega
 go_enter Tryz.func91,Tryz.ntmps91
 go_wp2_with (first | (go_at_call 128;refine (letter_any _ _).mono ?_;rintro e w' ⟨rfl,rfl⟩;rw [hlt]) | (go_at_call 129;refine (digit_any _ _).mono ?_;rintro e w' ⟨rfl,rfl⟩;rw [hdg]))
 exact bodyPost_ret (v := .tuple #[tk0,.int .i64 41]) (by simp [results,Tryz.f91,go_sem]) rfl ⟨rfl,(Below.refl _ _).alloc (Nat.le_refl _) _⟩
set_option maxHeartbeats 1000000 in
theorem esc_ok (s:ByteArray) (h2:2≤s.size) (hx:s[1].toNat≠120) (hb:s[1].toNat≠98) (h32:32≤s[1].toNat) (h126:s[1].toNat≤126) (hlt:isLt s[1]=false) (hdg:isDg s[1]=false):Tells 91 #[.string s] 1 0 2 s[1].toNat ⟨#[]⟩ 0 0:=by
 intro w
 have h1i:((s.size:Int) == 1)=false:=by simp;omega
 have h2i:(1:Int)<(s.size:Int):=by omega
 have hl:decide ((s[1].toNat:Int)<32)=false:=by simp;omega
 have hh:decide ((126:Int)<(s[1].toNat:Int))=false:=by simp;omega
 go_enter Tryz.func91,Tryz.ntmps91
 go_wp2_with (first | (go_at_call 128;refine (letter_any _ _).mono ?_;rintro e w' ⟨rfl,rfl⟩;rw [hlt]) | (go_at_call 129;refine (digit_any _ _).mono ?_;rintro e w' ⟨rfl,rfl⟩;rw [hdg]))
 refine (unit_any _ _ _).mono ?_
 rintro e w2 ⟨rfl,hb2⟩
 have HT2:=(TB.new w 0 0 0 0 ⟨#[]⟩ 0).below hb2 (by simp)
 have HB2:Below w.heap.size w w2:=((Below.refl _ w).alloc (Nat.le_refl _) _).trans (hb2.mono (by simp))
 obtain ⟨c0,c1,c2,c3,c4,c5⟩:=HT2.cells
 obtain ⟨f0,f1,f2,f3,f4,f5⟩:=HT2.frozen
 clear hb2
 go_wp2
 exact ret_tk rfl rfl rfl (HT2.set 1 0 2 (s[1].toNat:Int) ⟨#[]⟩ 0) ⟨rfl,below_set6 HB2 (Nat.le_refl _) _ _ _ _ _ _⟩
set_option maxHeartbeats 1000000 in
theorem first_copy (s:ByteArray) (fresh:Bool) (k a l u:Int) (t:ByteArray) (n e0:Int) (h1:0<s.size) (hc:s[0].toNat=64) (hv:Tells 90 #[.string s] k a l u t n e0):Tells 47 #[.string s,.bool fresh] k a l u t n e0:=by
 intro w
 have HV:Hid (Tells 90 #[.string s] k a l u t n e0):=hv
 clear hv
 have h1i:(1:Int)≤(s.size:Int):=by omega
 have hi:Lib.indexByte sgnL (Int.toNat (64:Int)).toUInt8 = -1:=by decide +kernel
 have hp:=noPre s h1 (by omega)
 go_enter Tryz.func47,Tryz.ntmps47
 go_wp2_with (first | (go_at_call 84;refine (Tryz.strings_IndexByte _ _ _).mono ?_;rintro e w' ⟨rfl,rfl⟩;rw [show (⟨#[62,59,123,125,124,94,36,46,91,93,45,61,58]⟩:ByteArray).data.toList=sgnL from rfl,hi]) | (go_at_call 88;refine (Tryz.strings_HasPrefix _ _ _).mono ?_;rintro e w' ⟨rfl,rfl⟩;rw [show (⟨#[91,58]⟩:ByteArray).data.toList=[91,58] from rfl,hp]))
 refine (HV.out _).mono ?_
 rintro e w2 ⟨rfl,hb2⟩
 have HT2:=(TB.new w 0 0 0 0 ⟨#[]⟩ 0).below hb2 (by simp)
 have HB2:Below w.heap.size w w2:=((Below.refl _ w).alloc (Nat.le_refl _) _).trans (hb2.mono (by simp))
 obtain ⟨c0,c1,c2,c3,c4,c5⟩:=HT2.cells
 obtain ⟨f0,f1,f2,f3,f4,f5⟩:=HT2.frozen
 clear hb2
 go_wp2
 exact ret_tk rfl rfl rfl (HT2.set k a l u t n) ⟨rfl,below_set6 HB2 (Nat.le_refl _) _ _ _ _ _ _⟩
set_option maxHeartbeats 1000000 in
theorem first_esc (s:ByteArray) (fresh:Bool) (k a l u:Int) (t:ByteArray) (n e0:Int) (h1:0<s.size) (hc:s[0].toNat=92) (hv:Tells 91 #[.string s] k a l u t n e0):Tells 47 #[.string s,.bool fresh] k a l u t n e0:=by
 intro w
 have HV:Hid (Tells 91 #[.string s] k a l u t n e0):=hv
 clear hv
 have h1i:(1:Int)≤(s.size:Int):=by omega
 have hi:Lib.indexByte sgnL (Int.toNat (92:Int)).toUInt8 = -1:=by decide +kernel
 have hp:=noPre s h1 (by omega)
 go_enter Tryz.func47,Tryz.ntmps47
 go_wp2_with (first | (go_at_call 84;refine (Tryz.strings_IndexByte _ _ _).mono ?_;rintro e w' ⟨rfl,rfl⟩;rw [show (⟨#[62,59,123,125,124,94,36,46,91,93,45,61,58]⟩:ByteArray).data.toList=sgnL from rfl,hi]) | (go_at_call 88;refine (Tryz.strings_HasPrefix _ _ _).mono ?_;rintro e w' ⟨rfl,rfl⟩;rw [show (⟨#[91,58]⟩:ByteArray).data.toList=[91,58] from rfl,hp]))
 refine (HV.out _).mono ?_
 rintro e w2 ⟨rfl,hb2⟩
 have HT2:=(TB.new w 0 0 0 0 ⟨#[]⟩ 0).below hb2 (by simp)
 have HB2:Below w.heap.size w w2:=((Below.refl _ w).alloc (Nat.le_refl _) _).trans (hb2.mono (by simp))
 obtain ⟨c0,c1,c2,c3,c4,c5⟩:=HT2.cells
 obtain ⟨f0,f1,f2,f3,f4,f5⟩:=HT2.frozen
 clear hb2
 go_wp2
 exact ret_tk rfl rfl rfl (HT2.set k a l u t n) ⟨rfl,below_set6 HB2 (Nat.le_refl _) _ _ _ _ _ _⟩
end Go.Proofs
namespace Go.Proofs
open Go.RowKit Go.Shelf
set_option maxRecDepth 100000
attribute [local go_sem] Oper.semAt_some
inductive Run (s:ByteArray):Nat→Bool→List Tok→Nat→Int→Prop
 | fin {p:Nat} {fresh:Bool} (h:p+pastN false (s.data.toList.drop p)=s.size):Run s p fresh [] 0 0
 | bad {p:Nat} {fresh:Bool} {q:Nat} {e0:Int} (hq:q=p+pastN false (s.data.toList.drop p)) (hlt:q<s.size) (hb:Tells 47 #[.string (s.extract q s.size),.bool fresh] 0 0 0 0 ⟨#[]⟩ 0 e0) (he:e0≠0):Run s p fresh [] q e0
 | step {p:Nat} {fresh:Bool} {q:Nat} {k u:Int} {l:Nat} {t:ByteArray} {n:Int} {toks:List Tok} {fa:Nat} {fe:Int} (hq:q=p+pastN false (s.data.toList.drop p)) (hlt:q<s.size) (hb:Tells 47 #[.string (s.extract q s.size),.bool fresh] k 0 l u t n 0) (h0:0<l) (hl:q+l≤s.size) (hr:Run s (q+l) (decide (k=11)) toks fa fe):Run s p fresh (⟨k,q,l,u,t,n⟩::toks) fa fe
end Go.Proofs
