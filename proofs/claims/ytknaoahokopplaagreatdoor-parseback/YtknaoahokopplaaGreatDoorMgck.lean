/-
  Several texts in one (Xck Xdk).
-/
import Derived.Shelf.Abstract
import Derived.Shelf.RegionOpen
import Derived.WalkKit
import Derived.WalkSpells
import Derived.WalkLawsBesides
import Derived.BigQuiet
import Derived.Deep.QuietTactic
import Derived.Deep.LoopGhost
import Derived.Lib.OthersKept
import Derived.ScopeJumps
import Derived.WalkMore
import Derived.Test.YtknaoahokopplaaGreatDoorMgak
import Derived.Test.YtknaoahokopplaaGreatDoorMgbk
namespace Go.Proofs
open Go.RowKit Go.Shelf
set_option maxRecDepth 100000
attribute [local go_sem] Oper.semAt_some
theorem ext_drop (s:ByteArray) (p:Nat):(s.extract p s.size).data.toList=s.data.toList.drop p:=by
 simp [ByteArray.data_extract]
 exact List.take_of_length_le (by simp)
theorem ext_take (s:ByteArray) (k:Nat):(s.extract 0 k).data.toList=s.data.toList.take k:=by
 simp [ByteArray.data_extract]
theorem ext_size (s:ByteArray) (p:Nat):(s.extract p s.size).size=s.size - p:=by simp
abbrev tk0:Value:=tk 0 0 0 0 ⟨#[]⟩ 0
set_option maxHeartbeats 1000000 in
theorem variable_ok (s:ByteArray) (n:Nat) (w:World) (hs:s.size≤maxLen) (h1:1≤s.size) (hn:spanN isNm (s.extract 1 s.size).data.toList=n) (h32:n≤32):Calls Tryz.prog 87 #[.string s] w fun e w'=>e = .returned (.tuple #[tk 2 0 (1+n) 0 (s.extract 0 (1+n)) 0,.int .i64 0])∧Below w.heap.size w w':=by
 have hb:(1+(n:Int))≤(s.size:Int):=by
  have:=spanN_le isNm (s.extract 1 s.size).data.toList
  rw [hn,ext_drop] at this
  simp at this
  omega
 have hb0:(0:Int)≤1+(n:Int):=by omega
 have hd:decide (32<(n:Int))=false:=by simp;omega
 go_enter Tryz.func87,Tryz.ntmps87
 go_wp2_with (go_at_call 85;refine (span_name _ _ (by rw [ext_size];omega)).mono ?_;rintro e w' ⟨rfl,rfl⟩;rw [hn])
 exact bodyPost_ret (v := .tuple #[tk 2 0 (1+n) 0 (s.extract 0 (1+n)) 0,.int .i64 0]) (by simp [results,Tryz.f87,go_sem]) rfl ⟨rfl,(Below.refl _ _).alloc (Nat.le_refl _) _⟩
set_option maxHeartbeats 1000000 in
theorem variable_bad (s:ByteArray) (n:Nat) (w:World) (hs:s.size≤maxLen) (h1:1≤s.size) (hn:spanN isNm (s.extract 1 s.size).data.toList=n) (h32:32<n):Calls Tryz.prog 87 #[.string s] w fun e w'=>e = .returned (.tuple #[tk0,.int .i64 42])∧Below w.heap.size w w':=by
 have hd:decide (32<(n:Int))=true:=by simp;omega
 go_enter Tryz.func87,Tryz.ntmps87
 go_wp2_with (go_at_call 85;refine (span_name _ _ (by rw [ext_size];omega)).mono ?_;rintro e w' ⟨rfl,rfl⟩;rw [hn])
 exact bodyPost_ret (v := .tuple #[tk0,.int .i64 42]) (by simp [results,Tryz.f87,go_sem]) rfl ⟨rfl,(Below.refl _ _).alloc (Nat.le_refl _) _⟩
theorem span2_le (s:ByteArray) (n:Nat) (h2:2≤s.size) (hn:spanN isNm (s.extract 2 s.size).data.toList=n):2+(n:Int)≤(s.size:Int):=by
 have:=spanN_le isNm (s.extract 2 s.size).data.toList
 rw [hn,ext_drop] at this
 simp at this
 omega
set_option maxHeartbeats 1000000 in
theorem class_many (s r:ByteArray) (n:Nat) (w:World) (hs:s.size≤maxLen) (h2:2≤s.size) (hn:spanN isNm (s.extract 2 s.size).data.toList=n) (_hr:s.extract (2+n) s.size=r) (h32:32<n) {b:Bool} (_hp:Lib.hasPrefix r.data.toList [58,93]=b):Calls Tryz.prog 89 #[.string s] w fun e w'=>e = .returned (.tuple #[tk0,.int .i64 42])∧Below w.heap.size w w':=by
 have hd:decide (32<(n:Int))=true:=by simp;omega
 have hb:=span2_le s n h2 hn
 have hb0:(0:Int)≤2+(n:Int):=by omega
 have hm:(s.size:Int)≤9223372036854775807:=by unfold maxLen at hs;omega
 go_enter Tryz.func89,Tryz.ntmps89
 go_wp2_with (first | (go_at_call 85;refine (span_name _ _ (by rw [ext_size];omega)).mono ?_;rintro e w' ⟨rfl,rfl⟩;rw [hn]) | (go_at_call 88;refine (Tryz.strings_HasPrefix _ _ _).mono ?_;rintro e w' ⟨rfl,rfl⟩;rw [show (⟨#[58,93]⟩:ByteArray).data.toList=[58,93] from rfl,hp]))
 all_goals exact bodyPost_ret (v:=(.tuple #[tk0,.int .i64 42])) (by simp [results,Tryz.f89,go_sem]) rfl ⟨rfl,(Below.refl _ _).alloc (Nat.le_refl _) _⟩
set_option maxHeartbeats 1000000 in
theorem class_open1 (s r:ByteArray) (n:Nat) (w:World) (hs:s.size≤maxLen) (h2:2≤s.size) (hn:spanN isNm (s.extract 2 s.size).data.toList=n) (hr:s.extract (2+n) s.size=r) (h32:n≤32) {b:Bool} (_hp:Lib.hasPrefix r.data.toList [58,93]=b) (he:r.toList.isEmpty=true):Calls Tryz.prog 89 #[.string s] w fun e w'=>e = .returned (.tuple #[tk0,.int .i64 44])∧Below w.heap.size w w':=by
 have hd:decide (32<(n:Int))=false:=by simp;omega
 have hb:=span2_le s n h2 hn
 have hb0:(0:Int)≤2+(n:Int):=by omega
 have hm:(s.size:Int)≤9223372036854775807:=by unfold maxLen at hs;omega
 go_enter Tryz.func89,Tryz.ntmps89
 go_wp2_with (first | (go_at_call 85;refine (span_name _ _ (by rw [ext_size];omega)).mono ?_;rintro e w' ⟨rfl,rfl⟩;rw [hn]) | (go_at_call 88;refine (Tryz.strings_HasPrefix _ _ _).mono ?_;rintro e w' ⟨rfl,rfl⟩;rw [show (⟨#[58,93]⟩:ByteArray).data.toList=[58,93] from rfl,hp]))
 all_goals exact bodyPost_ret (v:=(.tuple #[tk0,.int .i64 44])) (by simp [results,Tryz.f89,go_sem]) rfl ⟨rfl,(Below.refl _ _).alloc (Nat.le_refl _) _⟩
set_option maxHeartbeats 1000000 in
theorem class_open2 (s r:ByteArray) (n:Nat) (w:World) (hs:s.size≤maxLen) (h2:2≤s.size) (hn:spanN isNm (s.extract 2 s.size).data.toList=n) (hr:s.extract (2+n) s.size=r) (h32:n≤32) {b:Bool} (_hp:Lib.hasPrefix r.data.toList [58,93]=b) (h0:0<n) (he:r.toList.isEmpty=false) (hc:(r.toList == [58])=true):Calls Tryz.prog 89 #[.string s] w fun e w'=>e = .returned (.tuple #[tk0,.int .i64 44])∧Below w.heap.size w w':=by
 have hd:decide (32<(n:Int))=false:=by simp;omega
 have h0i:(0:Int)<(n:Int):=by omega
 have hb:=span2_le s n h2 hn
 have hb0:(0:Int)≤2+(n:Int):=by omega
 have hm:(s.size:Int)≤9223372036854775807:=by unfold maxLen at hs;omega
 go_enter Tryz.func89,Tryz.ntmps89
 go_wp2_with (first | (go_at_call 85;refine (span_name _ _ (by rw [ext_size];omega)).mono ?_;rintro e w' ⟨rfl,rfl⟩;rw [hn]) | (go_at_call 88;refine (Tryz.strings_HasPrefix _ _ _).mono ?_;rintro e w' ⟨rfl,rfl⟩;rw [show (⟨#[58,93]⟩:ByteArray).data.toList=[58,93] from rfl,hp]))
 all_goals exact bodyPost_ret (v:=(.tuple #[tk0,.int .i64 44])) (by simp [results,Tryz.f89,go_sem]) rfl ⟨rfl,(Below.refl _ _).alloc (Nat.le_refl _) _⟩
set_option maxHeartbeats 1000000 in
theorem class_bad0 (s r:ByteArray) (w:World) (hs:s.size≤maxLen) (h2:2≤s.size) (hr:s.extract 2 s.size=r) (hn:spanN isNm r.data.toList=0) {b:Bool} (_hp:Lib.hasPrefix r.data.toList [58,93]=b) (he:r.toList.isEmpty=false):Calls Tryz.prog 89 #[.string s] w fun e w'=>e = .returned (.tuple #[tk0,.int .i64 42])∧Below w.heap.size w w':=by
 have hb:(2:Int)≤(s.size:Int):=by omega
 have hm:(s.size:Int)≤9223372036854775807:=by unfold maxLen at hs;omega
 have hrs:r.size≤maxLen:=by rw [←hr,ext_size];omega
 go_enter Tryz.func89,Tryz.ntmps89
 go_wp2_with (first | (go_at_call 85;refine (span_name _ _ hrs).mono ?_;rintro e w' ⟨rfl,rfl⟩;rw [hn]) | (go_at_call 88;refine (Tryz.strings_HasPrefix _ _ _).mono ?_;rintro e w' ⟨rfl,rfl⟩;rw [show (⟨#[58,93]⟩:ByteArray).data.toList=[58,93] from rfl,hp]))
 all_goals exact bodyPost_ret (v:=(.tuple #[tk0,.int .i64 42])) (by simp [results,Tryz.f89,go_sem]) rfl ⟨rfl,(Below.refl _ _).alloc (Nat.le_refl _) _⟩
set_option maxHeartbeats 1000000 in
theorem class_bad1 (s r:ByteArray) (n:Nat) (w:World) (hs:s.size≤maxLen) (h2:2≤s.size) (hn:spanN isNm (s.extract 2 s.size).data.toList=n) (hr:s.extract (2+n) s.size=r) (h32:n≤32) (hp:Lib.hasPrefix r.data.toList [58,93]=false) (h0:0<n) (he:r.toList.isEmpty=false) (hc:(r.toList == [58])=false):Calls Tryz.prog 89 #[.string s] w fun e w'=>e = .returned (.tuple #[tk0,.int .i64 42])∧Below w.heap.size w w':=by
 have hd:decide (32<(n:Int))=false:=by simp;omega
 have h0i:(0:Int)<(n:Int):=by omega
 have h0d:decide ((n:Int)=0)=false:=by simp;omega
 have hb:=span2_le s n h2 hn
 have hb0:(0:Int)≤2+(n:Int):=by omega
 have hm:(s.size:Int)≤9223372036854775807:=by unfold maxLen at hs;omega
 go_enter Tryz.func89,Tryz.ntmps89
 go_wp2_with (first | (go_at_call 85;refine (span_name _ _ (by rw [ext_size];omega)).mono ?_;rintro e w' ⟨rfl,rfl⟩;rw [hn]) | (go_at_call 88;refine (Tryz.strings_HasPrefix _ _ _).mono ?_;rintro e w' ⟨rfl,rfl⟩;rw [show (⟨#[58,93]⟩:ByteArray).data.toList=[58,93] from rfl,hp]))
 all_goals exact bodyPost_ret (v:=(.tuple #[tk0,.int .i64 42])) (by simp [results,Tryz.f89,go_sem]) rfl ⟨rfl,(Below.refl _ _).alloc (Nat.le_refl _) _⟩
set_option maxHeartbeats 1000000 in
theorem class_ok (s r:ByteArray) (n:Nat) (w:World) (hs:s.size≤maxLen) (h2:2≤s.size) (hn:spanN isNm (s.extract 2 s.size).data.toList=n) (hr:s.extract (2+n) s.size=r) (h32:n≤32) (hp:Lib.hasPrefix r.data.toList [58,93]=true) (h0:0<n) (he:r.toList.isEmpty=false) (hc:(r.toList == [58])=false) (hz:3+(n:Int)≤(s.size:Int)):Calls Tryz.prog 89 #[.string s] w fun e w'=>e = .returned (.tuple #[tk 2 0 (2+n+2) 0 (s.extract 1 (2+n+1)) 0,.int .i64 0])∧Below w.heap.size w w':=by
 have hd:decide (32<(n:Int))=false:=by simp;omega
 have h0i:(0:Int)<(n:Int):=by omega
 have h0d:decide ((n:Int)=0)=false:=by simp;omega
 have hb:=span2_le s n h2 hn
 have hb0:(0:Int)≤2+(n:Int):=by omega
 have hm:(s.size:Int)≤9223372036854775807:=by unfold maxLen at hs;omega
 go_enter Tryz.func89,Tryz.ntmps89
 go_wp2_with (first | (go_at_call 85;refine (span_name _ _ (by rw [ext_size];omega)).mono ?_;rintro e w' ⟨rfl,rfl⟩;rw [hn]) | (go_at_call 88;refine (Tryz.strings_HasPrefix _ _ _).mono ?_;rintro e w' ⟨rfl,rfl⟩;rw [show (⟨#[58,93]⟩:ByteArray).data.toList=[58,93] from rfl,hp]))
 all_goals exact bodyPost_ret (v:=(.tuple #[tk 2 0 (2+n+2) 0 (s.extract 1 (2+n+1)) 0,.int .i64 0])) (by simp [results,Tryz.f89,go_sem]) rfl ⟨rfl,(Below.refl _ _).alloc (Nat.le_refl _) _⟩
end Go.Proofs
namespace Go.Proofs
open Go.RowKit Go.Shelf
set_option maxRecDepth 100000
attribute [local go_sem] Oper.semAt_some
def rsvL:List UInt8:=[62,59,123,125,124,94,36,46,91,93,45,61,58,64,35,92,44]
def sgnL:List UInt8:=[62,59,123,125,124,94,36,46,91,93,45,61,58]
def rsv (u:Nat):Bool:=decide (u<128) && decide (0≤Lib.indexByte rsvL u.toUInt8)
set_option maxHeartbeats 1000000 in
theorem reserved_any (u:Nat) (w:World):Calls Tryz.prog 50 #[.int .i64 u] w fun e w'=>e = .returned (.bool (rsv u))∧w'=w:=by
 by_cases h:u<128
 · have hd:decide ((u:Int)<128)=true:=by simp;omega
   have h0:decide (u<128)=true:=by simp;omega
   obtain ⟨i,hi⟩:∃ i,Lib.indexByte rsvL u.toUInt8=i:=⟨_,rfl⟩
   unfold rsv
   rw [h0,hi,Bool.true_and]
   go_enter Tryz.func50,Tryz.ntmps50
   go_wp2_with (go_at_call 84;refine (Tryz.strings_IndexByte _ _ _).mono ?_;rintro e w' ⟨rfl,rfl⟩)
   go_ret
   exact ⟨by rw [←hi];rfl,rfl⟩
 · have hd:decide ((u:Int)<128)=false:=by simp;omega
   have h0:decide (u<128)=false:=by simp;omega
   unfold rsv
   rw [h0,Bool.false_and]
   go_enter Tryz.func50,Tryz.ntmps50
   go_wp2_with fail
   go_ret
   exact ⟨rfl,rfl⟩
set_option maxHeartbeats 1000000 in
theorem unit_any (u n:Int) (w:World):Calls Tryz.prog 134 #[.int .i64 u,.int .i64 n] w fun e w'=>e = .returned (tk 1 0 n u ⟨#[]⟩ 0)∧Below w.heap.size w w':=by
 go_enter Tryz.func134,Tryz.ntmps134
 go_wp2
 exact bodyPost_ret (v:=tk 1 0 n u ⟨#[]⟩ 0) (by simp [results,Tryz.f134,go_sem]) rfl ⟨rfl,(Below.refl _ _).alloc (Nat.le_refl _) _⟩
set_option maxHeartbeats 1000000 in
theorem bare_ok (s:ByteArray) (u:Nat) (n:Int) (w:World) (hs:s.size≤maxLen) (hu:firstU s=((u:Int),n)) (h1:32≤u) (h2:u≠127) (h3:u≤1114111) (hr:rsv u=false):Calls Tryz.prog 93 #[.string s] w fun e w'=>e = .returned (.tuple #[tk 1 0 n u ⟨#[]⟩ 0,.int .i64 0])∧Below w.heap.size w w':=by
 have d1:decide ((u:Int)<32)=false:=by simp;omega
 have d2:((u:Int) == 127)=false:=by simp;omega
 have d3:decide ((1114111:Int)<(u:Int))=false:=by simp;omega
 go_enter Tryz.func93,Tryz.ntmps93
 go_wp2_with fail
 refine (firstU_any s _ hs).mono ?_
 rintro e w1 ⟨rfl,hb1⟩
 rw [hu]
 have HB:Hid (Below w.heap.size w w1):=((Below.refl _ w).alloc (Nat.le_refl _) _).trans (hb1.mono (by simp))
 have HT:Hid (TB w1 w.heap.size 0 0 0 0 ⟨#[]⟩ 0):=(TB.new w 0 0 0 0 ⟨#[]⟩ 0).below hb1 (by simp)
 clear hb1
 go_wp2_with (first | (go_at_call 50;refine (reserved_any _ _).mono ?_;rintro e w' ⟨rfl,rfl⟩;rw [hr]) | fail)
 refine (unit_any _ _ _).mono ?_
 rintro e w2 ⟨rfl,hb2⟩
 have HT2:=HT.out.below hb2 HT.out.lt
 have HB2:=HB.out.trans (hb2.mono HB.out.size)
 obtain ⟨c0,c1,c2,c3,c4,c5⟩:=HT2.cells
 obtain ⟨f0,f1,f2,f3,f4,f5⟩:=HT2.frozen
 clear hb2 HT HB
 go_wp2
 exact ret_tk rfl rfl rfl (HT2.set 1 0 n u ⟨#[]⟩ 0) ⟨rfl,below_set6 HB2 (Nat.le_refl _) _ _ _ _ _ _⟩
set_option maxHeartbeats 1000000 in
theorem bare_low (s:ByteArray) (u:Nat) (n:Int) (w:World) (hs:s.size≤maxLen) (hu:firstU s=((u:Int),n)) {b:Bool} (_hr:rsv u=b) (h1:u<32):Calls Tryz.prog 93 #[.string s] w fun e w'=>e = .returned (.tuple #[tk0,.int .i64 40])∧Below w.heap.size w w':=by
 have d1:decide ((u:Int)<32)=true:=by simp;omega
 go_enter Tryz.func93,Tryz.ntmps93
 go_wp2_with fail
 refine (firstU_any s _ hs).mono ?_
 rintro e w1 ⟨rfl,hb1⟩
 rw [hu]
 have HB:Hid (Below w.heap.size w w1):=((Below.refl _ w).alloc (Nat.le_refl _) _).trans (hb1.mono (by simp))
 have HT:Hid (TB w1 w.heap.size 0 0 0 0 ⟨#[]⟩ 0):=(TB.new w 0 0 0 0 ⟨#[]⟩ 0).below hb1 (by simp)
 obtain ⟨c0,c1,c2,c3,c4,c5⟩:=HT.out.cells
 obtain ⟨f0,f1,f2,f3,f4,f5⟩:=HT.out.frozen
 clear hb1
 go_wp2_with (first | (go_at_call 50;refine (reserved_any _ _).mono ?_;rintro e w' ⟨rfl,rfl⟩;rw [hr]) | fail)
 exact ret_tk rfl rfl rfl (HT.out.set 0 0 0 0 ⟨#[]⟩ 0) ⟨rfl,below_set6 HB.out (Nat.le_refl _) _ _ _ _ _ _⟩
set_option maxHeartbeats 1000000 in
theorem bare_127 (s:ByteArray) (n:Int) (w:World) (hs:s.size≤maxLen) (hu:firstU s=(127,n)) {b:Bool} (_hr:rsv 127=b):Calls Tryz.prog 93 #[.string s] w fun e w'=>e = .returned (.tuple #[tk0,.int .i64 40])∧Below w.heap.size w w':=by
 go_enter Tryz.func93,Tryz.ntmps93
 go_wp2_with fail
 refine (firstU_any s _ hs).mono ?_
 rintro e w1 ⟨rfl,hb1⟩
 rw [hu]
 have HB:Hid (Below w.heap.size w w1):=((Below.refl _ w).alloc (Nat.le_refl _) _).trans (hb1.mono (by simp))
 have HT:Hid (TB w1 w.heap.size 0 0 0 0 ⟨#[]⟩ 0):=(TB.new w 0 0 0 0 ⟨#[]⟩ 0).below hb1 (by simp)
 obtain ⟨c0,c1,c2,c3,c4,c5⟩:=HT.out.cells
 obtain ⟨f0,f1,f2,f3,f4,f5⟩:=HT.out.frozen
 clear hb1
 go_wp2_with (first | (go_at_call 50;refine (reserved_any _ _).mono ?_;rintro e w' ⟨rfl,rfl⟩;rw [hr]) | fail)
 exact ret_tk rfl rfl rfl (HT.out.set 0 0 0 0 ⟨#[]⟩ 0) ⟨rfl,below_set6 HB.out (Nat.le_refl _) _ _ _ _ _ _⟩
set_option maxHeartbeats 1000000 in
theorem bare_high (s:ByteArray) (u:Nat) (n:Int) (w:World) (hs:s.size≤maxLen) (hu:firstU s=((u:Int),n)) {b:Bool} (_hr:rsv u=b) (h1:1114111<u):Calls Tryz.prog 93 #[.string s] w fun e w'=>e = .returned (.tuple #[tk0,.int .i64 40])∧Below w.heap.size w w':=by
 have d1:decide ((u:Int)<32)=false:=by simp;omega
 have d2:((u:Int) == 127)=false:=by simp;omega
 have d3:decide ((1114111:Int)<(u:Int))=true:=by simp;omega
 go_enter Tryz.func93,Tryz.ntmps93
 go_wp2_with fail
 refine (firstU_any s _ hs).mono ?_
 rintro e w1 ⟨rfl,hb1⟩
 rw [hu]
 have HB:Hid (Below w.heap.size w w1):=((Below.refl _ w).alloc (Nat.le_refl _) _).trans (hb1.mono (by simp))
 have HT:Hid (TB w1 w.heap.size 0 0 0 0 ⟨#[]⟩ 0):=(TB.new w 0 0 0 0 ⟨#[]⟩ 0).below hb1 (by simp)
 obtain ⟨c0,c1,c2,c3,c4,c5⟩:=HT.out.cells
 obtain ⟨f0,f1,f2,f3,f4,f5⟩:=HT.out.frozen
 clear hb1
 go_wp2_with (first | (go_at_call 50;refine (reserved_any _ _).mono ?_;rintro e w' ⟨rfl,rfl⟩;rw [hr]) | fail)
 exact ret_tk rfl rfl rfl (HT.out.set 0 0 0 0 ⟨#[]⟩ 0) ⟨rfl,below_set6 HB.out (Nat.le_refl _) _ _ _ _ _ _⟩
set_option maxHeartbeats 1000000 in
theorem bare_rsv (s:ByteArray) (u:Nat) (n:Int) (w:World) (hs:s.size≤maxLen) (hu:firstU s=((u:Int),n)) (hr:rsv u=true) (h1:32≤u) (h2:u≠127) (h3:u≤1114111):Calls Tryz.prog 93 #[.string s] w fun e w'=>e = .returned (.tuple #[tk0,.int .i64 40])∧Below w.heap.size w w':=by
 have d1:decide ((u:Int)<32)=false:=by simp;omega
 have d2:((u:Int) == 127)=false:=by simp;omega
 have d3:decide ((1114111:Int)<(u:Int))=false:=by simp;omega
 go_enter Tryz.func93,Tryz.ntmps93
 go_wp2_with fail
 refine (firstU_any s _ hs).mono ?_
 rintro e w1 ⟨rfl,hb1⟩
 rw [hu]
 have HB:Hid (Below w.heap.size w w1):=((Below.refl _ w).alloc (Nat.le_refl _) _).trans (hb1.mono (by simp))
 have HT:Hid (TB w1 w.heap.size 0 0 0 0 ⟨#[]⟩ 0):=(TB.new w 0 0 0 0 ⟨#[]⟩ 0).below hb1 (by simp)
 obtain ⟨c0,c1,c2,c3,c4,c5⟩:=HT.out.cells
 obtain ⟨f0,f1,f2,f3,f4,f5⟩:=HT.out.frozen
 clear hb1
 go_wp2_with (first | (go_at_call 50;refine (reserved_any _ _).mono ?_;rintro e w' ⟨rfl,rfl⟩;rw [hr]) | fail)
 exact ret_tk rfl rfl rfl (HT.out.set 0 0 0 0 ⟨#[]⟩ 0) ⟨rfl,below_set6 HB.out (Nat.le_refl _) _ _ _ _ _ _⟩
end Go.Proofs
