/-
  Several texts in one (Xcp Xdp Xep Shelf4p).
-/
import Derived.Shelf.Abstract
import Derived.Shelf.RegionOpen
import Derived.WalkKit
import Derived.WalkSpells
import Derived.WalkLawsBesides
import Derived.BigQuiet
import Derived.Deep.QuietTactic
import Derived.Deep.LoopGhost
import Derived.Lib.OthersKept
import Derived.ScopeJumps
import Derived.WalkMore
import Derived.Test.YtknaoahokopplaaGreatDoorMgap
import Derived.Test.YtknaoahokopplaaGreatDoorMgbp
import Derived.Shelf.Strings.OnBuilder
import Derived.Shelf.Small.Utf8
import Derived.Shelf.Small.Strs
import Derived.Shelf.LaysM
import Derived.Shelf.LaysC
import Derived.Shelf.Strconv.Lower
import Derived.Shelf.Strconv.ParseIntPublic10
import Derived.Shelf.Strings.Prefix
import Derived.Test.YtknaoahokopplaaGreatDoorProg
namespace Go.Proofs
open Go.RowKit Go.Shelf
set_option maxRecDepth 100000
attribute [local go_sem] Oper.semAt_some
theorem ext_drop (s:ByteArray) (p:Nat):(s.extract p s.size).data.toList=s.data.toList.drop p:=by
 simp [ByteArray.data_extract]
 exact List.take_of_length_le (by simp)
theorem ext_size (s:ByteArray) (p:Nat):(s.extract p s.size).size=s.size - p:=by simp
abbrev tk0:Value:=tk 0 0 0 0 ⟨#[]⟩ 0
end Go.Proofs
namespace Go.Proofs
open Go.RowKit Go.Shelf
set_option maxRecDepth 100000
attribute [local go_sem] Oper.semAt_some
def rsvL:List UInt8:=[62,59,123,125,124,94,36,46,91,93,45,61,58,64,35,92,44]
def sgnL:List UInt8:=[62,59,123,125,124,94,36,46,91,93,45,61,58]
def rsv (u:Nat):Bool:=decide (u<128) && decide (0≤Lib.indexByte rsvL u.toUInt8)
set_option maxHeartbeats 1000000 in
theorem reserved_any (u:Nat) (w:World):Calls Tryz.prog 50 #[.int .i64 u] w fun e w'=>e = .returned (.bool (rsv u))∧w'=w:=by
 by_cases h:u<128
 · have hd:decide ((u:Int)<128)=true:=by simp;omega
   have h0:decide (u<128)=true:=by simp;omega
   obtain ⟨i,hi⟩:∃ i,Lib.indexByte rsvL u.toUInt8=i:=⟨_,rfl⟩
   unfold rsv
   rw [h0,hi,Bool.true_and]
   go_enter Tryz.func50,Tryz.ntmps50
   go_wp2_with (go_at_call 84;refine (Tryz.strings_IndexByte _ _ _).mono ?_;rintro e w' ⟨rfl,rfl⟩)
   go_ret
   exact ⟨by rw [←hi];rfl,rfl⟩
 · have hd:decide ((u:Int)<128)=false:=by simp;omega
   have h0:decide (u<128)=false:=by simp;omega
   unfold rsv
   rw [h0,Bool.false_and]
   go_enter Tryz.func50,Tryz.ntmps50
   go_wp2_with fail
   go_ret
   exact ⟨rfl,rfl⟩
set_option maxHeartbeats 1000000 in
theorem unit_any (u n:Int) (w:World):Calls Tryz.prog 134 #[.int .i64 u,.int .i64 n] w fun e w'=>e = .returned (tk 1 0 n u ⟨#[]⟩ 0)∧Below w.heap.size w w':=by
 go_enter Tryz.func134,Tryz.ntmps134
 go_wp2
 exact bodyPost_ret (v:=tk 1 0 n u ⟨#[]⟩ 0) (by simp [results,Tryz.f134,go_sem]) rfl ⟨rfl,(Below.refl _ _).alloc (Nat.le_refl _) _⟩
set_option maxHeartbeats 1000000 in
theorem bare_ok (s:ByteArray) (u:Nat) (n:Int) (w:World) (hs:s.size≤maxLen) (hu:firstU s=((u:Int),n)) (h1:32≤u) (h2:u≠127) (h3:u≤1114111) (hr:rsv u=false):Calls Tryz.prog 93 #[.string s] w fun e w'=>e = .returned (.tuple #[tk 1 0 n u ⟨#[]⟩ 0,.int .i64 0])∧Below w.heap.size w w':=by
 have d1:decide ((u:Int)<32)=false:=by simp;omega
 have d2:((u:Int) == 127)=false:=by simp;omega
 have d3:decide ((1114111:Int)<(u:Int))=false:=by simp;omega
 go_enter Tryz.func93,Tryz.ntmps93
 go_wp2_with fail
 refine (firstU_any s _ hs).mono ?_
 rintro e w1 ⟨rfl,hb1⟩
 rw [hu]
 have HB:Hid (Below w.heap.size w w1):=((Below.refl _ w).alloc (Nat.le_refl _) _).trans (hb1.mono (by simp))
 have HT:Hid (TB w1 w.heap.size 0 0 0 0 ⟨#[]⟩ 0):=(TB.new w 0 0 0 0 ⟨#[]⟩ 0).below hb1 (by simp)
 clear hb1
 go_wp2_with (first | (go_at_call 50;refine (reserved_any _ _).mono ?_;rintro e w' ⟨rfl,rfl⟩;rw [hr]) | fail)
 refine (unit_any _ _ _).mono ?_
 rintro e w2 ⟨rfl,hb2⟩
 have HT2:=HT.out.below hb2 HT.out.lt
 have HB2:=HB.out.trans (hb2.mono HB.out.size)
 obtain ⟨c0,c1,c2,c3,c4,c5⟩:=HT2.cells
 obtain ⟨f0,f1,f2,f3,f4,f5⟩:=HT2.frozen
 clear hb2 HT HB
 go_wp2
 exact ret_tk rfl rfl rfl (HT2.set 1 0 n u ⟨#[]⟩ 0) ⟨rfl,below_set6 HB2 (Nat.le_refl _) _ _ _ _ _ _⟩
end Go.Proofs
namespace Go.Proofs
open Go.RowKit Go.Shelf
set_option maxRecDepth 100000
attribute [local go_sem] Oper.semAt_some
def Tells (f:Nat) (args:Array Value) (k a l u:Int) (t:ByteArray) (n e0:Int):Prop:=∀ w:World,Calls Tryz.prog f args w fun e w'=>e = .returned (.tuple #[tk k a l u t n,.int .i64 e0])∧Below w.heap.size w w'
set_option maxHeartbeats 1000000 in
theorem first_var (s:ByteArray) (fresh:Bool) (k a l u:Int) (t:ByteArray) (n e0:Int) (hs:s.size≤maxLen) (h1:0<s.size) (m:Nat) (hc:s[0].toNat=36) (hm:spanN isNm (s.extract 1 s.size).data.toList=m) (hm0:0<m) (hv:Tells 87 #[.string s] k a l u t n e0):Tells 47 #[.string s,.bool fresh] k a l u t n e0:=by
 intro w
 have HV:Hid (Tells 87 #[.string s] k a l u t n e0):=hv
 clear hv
 have h1i:(1:Int)≤(s.size:Int):=by omega
 have hmi:(0:Int)<(m:Int):=by omega
 go_enter Tryz.func47,Tryz.ntmps47
 go_wp2_with (first | (go_at_call 84;refine (Tryz.strings_IndexByte _ _ _).mono ?_;rintro e w' ⟨rfl,rfl⟩;skip) | (go_at_call 85;refine (span_name _ _ (by rw [ext_size];omega)).mono ?_;rintro e w' ⟨rfl,rfl⟩;rw [hm]))
 refine (HV.out _).mono ?_
 rintro e w2 ⟨rfl,hb2⟩
 have HT2:=(TB.new w 0 0 0 0 ⟨#[]⟩ 0).below hb2 (by simp)
 have HB2:Below w.heap.size w w2:=((Below.refl _ w).alloc (Nat.le_refl _) _).trans (hb2.mono (by simp))
 obtain ⟨c0,c1,c2,c3,c4,c5⟩:=HT2.cells
 obtain ⟨f0,f1,f2,f3,f4,f5⟩:=HT2.frozen
 clear hb2
 go_wp2
 exact ret_tk rfl rfl rfl (HT2.set k a l u t n) ⟨rfl,below_set6 HB2 (Nat.le_refl _) _ _ _ _ _ _⟩
set_option maxHeartbeats 1000000 in
theorem first_class (s:ByteArray) (fresh:Bool) (k a l u:Int) (t:ByteArray) (n e0:Int) (_hs:s.size≤maxLen) (h1:0<s.size) (hc:s[0].toNat=91) (hp:Lib.hasPrefix s.data.toList [91,58]=true) (hv:Tells 89 #[.string s] k a l u t n e0):Tells 47 #[.string s,.bool fresh] k a l u t n e0:=by
 intro w
 have HV:Hid (Tells 89 #[.string s] k a l u t n e0):=hv
 clear hv
 have h1i:(1:Int)≤(s.size:Int):=by omega
 go_enter Tryz.func47,Tryz.ntmps47
 go_wp2_with (first | (go_at_call 84;refine (Tryz.strings_IndexByte _ _ _).mono ?_;rintro e w' ⟨rfl,rfl⟩;skip) | (go_at_call 88;refine (Tryz.strings_HasPrefix _ _ _).mono ?_;rintro e w' ⟨rfl,rfl⟩;rw [show (⟨#[91,58]⟩:ByteArray).data.toList=[91,58] from rfl,hp]))
 refine (HV.out _).mono ?_
 rintro e w2 ⟨rfl,hb2⟩
 have HT2:=(TB.new w 0 0 0 0 ⟨#[]⟩ 0).below hb2 (by simp)
 have HB2:Below w.heap.size w w2:=((Below.refl _ w).alloc (Nat.le_refl _) _).trans (hb2.mono (by simp))
 obtain ⟨c0,c1,c2,c3,c4,c5⟩:=HT2.cells
 obtain ⟨f0,f1,f2,f3,f4,f5⟩:=HT2.frozen
 clear hb2
 go_wp2
 exact ret_tk rfl rfl rfl (HT2.set k a l u t n) ⟨rfl,below_set6 HB2 (Nat.le_refl _) _ _ _ _ _ _⟩
set_option maxHeartbeats 1000000 in
theorem first_bare (s:ByteArray) (fresh:Bool) (k a l u:Int) (t:ByteArray) (n e0:Int) (_hs:s.size≤maxLen) (h1:0<s.size) (hc:s[0].toNat≠36) (hp:Lib.hasPrefix s.data.toList [91,58]=false) (hi:Lib.indexByte sgnL s[0] = -1) (h64:s[0].toNat≠64) (h92:s[0].toNat≠92) (hf:fresh=false) (hv:Tells 93 #[.string s] k a l u t n e0):Tells 47 #[.string s,.bool fresh] k a l u t n e0:=by
 intro w
 have HV:Hid (Tells 93 #[.string s] k a l u t n e0):=hv
 clear hv
 have h1i:(1:Int)≤(s.size:Int):=by omega
 subst hf
 go_enter Tryz.func47,Tryz.ntmps47
 go_wp2_with (first | (go_at_call 84;refine (Tryz.strings_IndexByte _ _ _).mono ?_;rintro e w' ⟨rfl,rfl⟩;rw [show (⟨#[62,59,123,125,124,94,36,46,91,93,45,61,58]⟩:ByteArray).data.toList=sgnL from rfl,show (Int.toNat (s[0].toNat:Int)).toUInt8=s[0] by simp,hi]) | (go_at_call 88;refine (Tryz.strings_HasPrefix _ _ _).mono ?_;rintro e w' ⟨rfl,rfl⟩;rw [show (⟨#[91,58]⟩:ByteArray).data.toList=[91,58] from rfl,hp]))
 refine (HV.out _).mono ?_
 rintro e w2 ⟨rfl,hb2⟩
 have HT2:=(TB.new w 0 0 0 0 ⟨#[]⟩ 0).below hb2 (by simp)
 have HB2:Below w.heap.size w w2:=((Below.refl _ w).alloc (Nat.le_refl _) _).trans (hb2.mono (by simp))
 obtain ⟨c0,c1,c2,c3,c4,c5⟩:=HT2.cells
 obtain ⟨f0,f1,f2,f3,f4,f5⟩:=HT2.frozen
 clear hb2
 go_wp2
 exact ret_tk rfl rfl rfl (HT2.set k a l u t n) ⟨rfl,below_set6 HB2 (Nat.le_refl _) _ _ _ _ _ _⟩
theorem idx_bound:∀ (l:List UInt8) (c:UInt8),-1≤Lib.indexByte l c∧Lib.indexByte l c<l.length
 | [],c=>by simp [Lib.indexByte]
 | b::l,c=>by
  obtain ⟨h1,h2⟩:=idx_bound l c
  unfold Lib.indexByte
  rw [List.length_cons]
  split
  · omega
  · split <;> omega
theorem sgn_bound (c:UInt8):Lib.indexByte sgnL c≤12 ∧ -1≤Lib.indexByte sgnL c:=by
 have:=idx_bound sgnL c
 have e:sgnL.length=13:=rfl
 omega
set_option maxHeartbeats 1000000 in
theorem first_sign (s:ByteArray) (fresh:Bool) (i:Nat) (_hs:s.size≤maxLen) (h1:0<s.size) (hc:s[0].toNat≠36) (hp:Lib.hasPrefix s.data.toList [91,58]=false) (hi:Lib.indexByte sgnL s[0]=(i:Int)):Tells 47 #[.string s,.bool fresh] (10+i) 0 1 0 ⟨#[]⟩ 0 0:=by
 intro w
 have h1i:(1:Int)≤(s.size:Int):=by omega
 have hi12:(i:Int)≤12:=by rw [←hi];exact (sgn_bound _).1
 have hi0:(0:Int)≤(i:Int):=by omega
 go_enter Tryz.func47,Tryz.ntmps47
 go_wp2_with (first | (go_at_call 84;refine (Tryz.strings_IndexByte _ _ _).mono ?_;rintro e w' ⟨rfl,rfl⟩;rw [show (⟨#[62,59,123,125,124,94,36,46,91,93,45,61,58]⟩:ByteArray).data.toList=sgnL from rfl,show (Int.toNat (s[0].toNat:Int)).toUInt8=s[0] by simp,hi]) | (go_at_call 88;refine (Tryz.strings_HasPrefix _ _ _).mono ?_;rintro e w' ⟨rfl,rfl⟩;rw [show (⟨#[91,58]⟩:ByteArray).data.toList=[91,58] from rfl,hp]))
 exact bodyPost_ret (v := .tuple #[tk (10+i) 0 1 0 ⟨#[]⟩ 0,.int .i64 0]) (by simp [results,Tryz.f47,go_sem]) rfl ⟨rfl,(Below.refl _ _).alloc (Nat.le_refl _) _⟩
end Go.Proofs
namespace Go.Proofs
open Go.Shelf
def Tryz.lays158_ren:Go.Shelf.Ren:=⟨fun | 158=>97 | 165=>67 | 166=>36 | 167=>39 | 169=>41 | 230=>137 | 203=>138 | 240=>66 | 241=>115 | 197=>159 | 118=>96 | 168=>160 | 270=>161 | 262=>162 | 276=>114 | 277=>149 | 260=>181 | 242=>182 | 313=>183 | 278=>199 | 274=>200 | 275=>201 | n=>n,fun | 9=>9 | 4=>4 | 3=>3 | 5=>5 | 72=>71 | 0=>0 | 76=>74 | 75=>73 | 107=>139 | 70=>69 | 20=>20 | 37=>50 | 127=>106 | 21=>21 | 105=>158 | 164=>129 | 162=>175 | 203=>173 | 119=>188 | 46=>180 | 139=>191 | 138=>190 | 51=>178 | 160=>192 | 208=>203 | 206=>201 | 80=>81 | n=>n,fun | 13=>1 | 3=>3 | 4=>4 | n=>n⟩
theorem Tryz.lays158:Go.Proofs.Lays.n158 Tryz.prog Tryz.lays158_ren := {
 mixed:=by kernel_rfl
 f118:=Tryz.func96.trans (congrArg some (by kernel_rfl))
 f158:=Tryz.func97.trans (congrArg some (by kernel_rfl))
 f165:=Tryz.func67.trans (congrArg some (by kernel_rfl))
 f166:=Tryz.func36.trans (congrArg some (by kernel_rfl))
 f167:=Tryz.func39.trans (congrArg some (by kernel_rfl))
 f168:=Tryz.func160.trans (congrArg some (by kernel_rfl))
 f169:=Tryz.func41.trans (congrArg some (by kernel_rfl))
 f197:=Tryz.func159.trans (congrArg some (by kernel_rfl))
 f203:=Tryz.func138.trans (congrArg some (by kernel_rfl))
 f230:=Tryz.func137.trans (congrArg some (by kernel_rfl))
 f240:=Tryz.func66.trans (congrArg some (by kernel_rfl))
 f241:=Tryz.func115.trans (congrArg some (by kernel_rfl))
 f242:=Tryz.func182.trans (congrArg some (by kernel_rfl))
 f260:=Tryz.func181.trans (congrArg some (by kernel_rfl))
 f262:=Tryz.func162.trans (congrArg some (by kernel_rfl))
 f270:=Tryz.func161.trans (congrArg some (by kernel_rfl))
 f274:=Tryz.func200.trans (congrArg some (by kernel_rfl))
 f275:=Tryz.func201.trans (congrArg some (by kernel_rfl))
 f276:=Tryz.func114.trans (congrArg some (by kernel_rfl))
 f277:=Tryz.func149.trans (congrArg some (by kernel_rfl))
 f278:=Tryz.func199.trans (congrArg some (by kernel_rfl))
 f313:=Tryz.func183.trans (congrArg some (by kernel_rfl))
 t0:=Tryz.underlying0
 a0:=Tryz.isAgg0
 z0:=Tryz.sizeOf0
 v0:=Tryz.zeroValue0
 t3:=Tryz.underlying3
 a3:=Tryz.isAgg3
 z3:=Tryz.sizeOf3
 v3:=Tryz.zeroValue3
 t4:=Tryz.underlying4
 a4:=Tryz.isAgg4
 z4:=Tryz.sizeOf4
 v4:=Tryz.zeroValue4
 t5:=Tryz.underlying5
 a5:=Tryz.isAgg5
 z5:=Tryz.sizeOf5
 v5:=Tryz.zeroValue5
 t9:=Tryz.underlying9
 a9:=Tryz.isAgg9
 z9:=Tryz.sizeOf9
 v9:=Tryz.zeroValue9
 t20:=Tryz.underlying20
 a20:=Tryz.isAgg20
 z20:=Tryz.sizeOf20
 v20:=Tryz.zeroValue20
 t21:=Tryz.underlying21
 a21:=Tryz.isAgg21
 z21:=Tryz.sizeOf21
 v21:=Tryz.zeroValue21
 t37:=Tryz.underlying50
 a37:=Tryz.isAgg50
 z37:=Tryz.sizeOf50
 v37:=Tryz.zeroValue50
 t46:=Tryz.underlying180
 a46:=Tryz.isAgg180
 z46:=Tryz.sizeOf180
 v46:=Tryz.zeroValue180
 t51:=Tryz.underlying178
 a51:=Tryz.isAgg178
 z51:=Tryz.sizeOf178
 v51:=Tryz.zeroValue178
 t70:=Tryz.underlying69
 a70:=Tryz.isAgg69
 z70:=Tryz.sizeOf69
 v70:=Tryz.zeroValue69
 t72:=Tryz.underlying71
 a72:=Tryz.isAgg71
 z72:=Tryz.sizeOf71
 v72:=Tryz.zeroValue71
 t75:=Tryz.underlying73
 a75:=Tryz.isAgg73
 z75:=Tryz.sizeOf73
 v75:=Tryz.zeroValue73
 t76:=Tryz.underlying74
 a76:=Tryz.isAgg74
 z76:=Tryz.sizeOf74
 v76:=Tryz.zeroValue74
 t105:=Tryz.underlying158
 a105:=Tryz.isAgg158
 z105:=Tryz.sizeOf158
 v105:=Tryz.zeroValue158
 t107:=Tryz.underlying139
 a107:=Tryz.isAgg139
 z107:=Tryz.sizeOf139
 v107:=Tryz.zeroValue139
 t119:=Tryz.underlying188
 a119:=Tryz.isAgg188
 z119:=Tryz.sizeOf188
 t127:=Tryz.underlying106
 a127:=Tryz.isAgg106
 z127:=Tryz.sizeOf106
 v127:=Tryz.zeroValue106
 t138:=Tryz.underlying190
 a138:=Tryz.isAgg190
 z138:=Tryz.sizeOf190
 v138:=Tryz.zeroValue190
 t139:=Tryz.underlying191
 a139:=Tryz.isAgg191
 z139:=Tryz.sizeOf191
 v139:=Tryz.zeroValue191
 t160:=Tryz.underlying192
 a160:=Tryz.isAgg192
 z160:=Tryz.sizeOf192
 v160:=Tryz.zeroValue192
 t162:=Tryz.underlying175
 a162:=Tryz.isAgg175
 z162:=Tryz.sizeOf175
 v162:=Tryz.zeroValue175
 t164:=Tryz.underlying129
 a164:=Tryz.isAgg129
 z164:=Tryz.sizeOf129
 v164:=Tryz.zeroValue129
 t203:=Tryz.underlying173
 a203:=Tryz.isAgg173
 z203:=Tryz.sizeOf173
 v203:=Tryz.zeroValue173
 t206:=Tryz.underlying201
 a206:=Tryz.isAgg201
 z206:=Tryz.sizeOf201
 v206:=Tryz.zeroValue201
 t208:=Tryz.underlying203
 a208:=Tryz.isAgg203
 z208:=Tryz.sizeOf203
 v208:=Tryz.zeroValue203
 g3:=by kernel_rfl
 g4:=by kernel_rfl
 g13:=by kernel_rfl }
theorem Tryz.Builder_Extra_158:Builder.Extra Tryz.prog Tryz.lays158_ren := {
 sizeBuilder:=by kernel_rfl
 liesBuilder:=by kernel_rfl
 t5:=Tryz.underlying5
 a5:=Tryz.isAgg5
 z5:=Tryz.sizeOf5
 v5:=Tryz.zeroValue5
 infoByte:=by kernel_rfl
 cellsByte:=by kernel_rfl
 sizeByte:=by kernel_rfl
 neB5:=by decide }
open Go.RowKit in
theorem Tryz.strings_ToUpper_ascii (s:ByteArray) (w:World) (hs:s.size≤140737488355328) (hascii:∀ (j:Nat) (b:UInt8),s.data.toList[j]? = some b→b.toNat<128) :
 Calls Tryz.prog 97 #[.string s] w fun e w'=>e = .returned (.string ⟨(Lib.toUpperA s.data.toList).toArray⟩)∧Below w.heap.size w w':=Any.strings_ToUpper_ascii Tryz.lays158 Tryz.Builder_Extra_158 s w hs hascii
end Go.Proofs
