/-
  Several texts in one (Xek Shelf4k Hak).
-/
import Derived.Shelf.Abstract
import Derived.Shelf.RegionOpen
import Derived.WalkKit
import Derived.WalkSpells
import Derived.WalkLawsBesides
import Derived.BigQuiet
import Derived.Deep.QuietTactic
import Derived.Deep.LoopGhost
import Derived.Lib.OthersKept
import Derived.ScopeJumps
import Derived.WalkMore
import Derived.Test.YtknaoahokopplaaGreatDoorMgck
import Derived.Shelf.Strings.OnBuilder
import Derived.Shelf.Small.Utf8
import Derived.Shelf.Small.Strs
import Derived.Shelf.LaysM
import Derived.Shelf.LaysC
import Derived.Shelf.Strconv.Lower
import Derived.Shelf.Strconv.ParseIntPublic10
import Derived.Shelf.Strings.Prefix
import Derived.Test.YtknaoahokopplaaGreatDoorProg
import Derived.Maps.AppendAt
import Derived.Laws.BitsAllLaws
import Derived.Lib.SmallJoins
namespace Go.Proofs
open Go.RowKit Go.Shelf
set_option maxRecDepth 100000
attribute [local go_sem] Oper.semAt_some
def Tells (f:Nat) (args:Array Value) (k a l u:Int) (t:ByteArray) (n e0:Int):Prop:=∀ w:World,Calls Tryz.prog f args w fun e w'=>e = .returned (.tuple #[tk k a l u t n,.int .i64 e0])∧Below w.heap.size w w'
set_option maxHeartbeats 1000000 in
theorem first_var (s:ByteArray) (fresh:Bool) (k a l u:Int) (t:ByteArray) (n e0:Int) (hs:s.size≤maxLen) (h1:0<s.size) (m:Nat) (hc:s[0].toNat=36) (hm:spanN isNm (s.extract 1 s.size).data.toList=m) (hm0:0<m) (hv:Tells 87 #[.string s] k a l u t n e0):Tells 47 #[.string s,.bool fresh] k a l u t n e0:=by
 intro w
 have HV:Hid (Tells 87 #[.string s] k a l u t n e0):=hv
 clear hv
 have h1i:(1:Int)≤(s.size:Int):=by omega
 have hmi:(0:Int)<(m:Int):=by omega
 go_enter Tryz.func47,Tryz.ntmps47
 go_wp2_with (first | (go_at_call 84;refine (Tryz.strings_IndexByte _ _ _).mono ?_;rintro e w' ⟨rfl,rfl⟩;skip) | (go_at_call 85;refine (span_name _ _ (by rw [ext_size];omega)).mono ?_;rintro e w' ⟨rfl,rfl⟩;rw [hm]))
 refine (HV.out _).mono ?_
 rintro e w2 ⟨rfl,hb2⟩
 have HT2:=(TB.new w 0 0 0 0 ⟨#[]⟩ 0).below hb2 (by simp)
 have HB2:Below w.heap.size w w2:=((Below.refl _ w).alloc (Nat.le_refl _) _).trans (hb2.mono (by simp))
 obtain ⟨c0,c1,c2,c3,c4,c5⟩:=HT2.cells
 obtain ⟨f0,f1,f2,f3,f4,f5⟩:=HT2.frozen
 clear hb2
 go_wp2
 exact ret_tk rfl rfl rfl (HT2.set k a l u t n) ⟨rfl,below_set6 HB2 (Nat.le_refl _) _ _ _ _ _ _⟩
set_option maxHeartbeats 1000000 in
theorem first_class (s:ByteArray) (fresh:Bool) (k a l u:Int) (t:ByteArray) (n e0:Int) (_hs:s.size≤maxLen) (h1:0<s.size) (hc:s[0].toNat=91) (hp:Lib.hasPrefix s.data.toList [91,58]=true) (hv:Tells 89 #[.string s] k a l u t n e0):Tells 47 #[.string s,.bool fresh] k a l u t n e0:=by
 intro w
 have HV:Hid (Tells 89 #[.string s] k a l u t n e0):=hv
 clear hv
 have h1i:(1:Int)≤(s.size:Int):=by omega
 go_enter Tryz.func47,Tryz.ntmps47
 go_wp2_with (first | (go_at_call 84;refine (Tryz.strings_IndexByte _ _ _).mono ?_;rintro e w' ⟨rfl,rfl⟩;skip) | (go_at_call 88;refine (Tryz.strings_HasPrefix _ _ _).mono ?_;rintro e w' ⟨rfl,rfl⟩;rw [show (⟨#[91,58]⟩:ByteArray).data.toList=[91,58] from rfl,hp]))
 refine (HV.out _).mono ?_
 rintro e w2 ⟨rfl,hb2⟩
 have HT2:=(TB.new w 0 0 0 0 ⟨#[]⟩ 0).below hb2 (by simp)
 have HB2:Below w.heap.size w w2:=((Below.refl _ w).alloc (Nat.le_refl _) _).trans (hb2.mono (by simp))
 obtain ⟨c0,c1,c2,c3,c4,c5⟩:=HT2.cells
 obtain ⟨f0,f1,f2,f3,f4,f5⟩:=HT2.frozen
 clear hb2
 go_wp2
 exact ret_tk rfl rfl rfl (HT2.set k a l u t n) ⟨rfl,below_set6 HB2 (Nat.le_refl _) _ _ _ _ _ _⟩
set_option maxHeartbeats 1000000 in
theorem first_bare (s:ByteArray) (fresh:Bool) (k a l u:Int) (t:ByteArray) (n e0:Int) (_hs:s.size≤maxLen) (h1:0<s.size) (hc:s[0].toNat≠36) (hp:Lib.hasPrefix s.data.toList [91,58]=false) (hi:Lib.indexByte sgnL s[0] = -1) (h64:s[0].toNat≠64) (h92:s[0].toNat≠92) (hf:fresh=false) (hv:Tells 93 #[.string s] k a l u t n e0):Tells 47 #[.string s,.bool fresh] k a l u t n e0:=by
 intro w
 have HV:Hid (Tells 93 #[.string s] k a l u t n e0):=hv
 clear hv
 have h1i:(1:Int)≤(s.size:Int):=by omega
 subst hf
 go_enter Tryz.func47,Tryz.ntmps47
 go_wp2_with (first | (go_at_call 84;refine (Tryz.strings_IndexByte _ _ _).mono ?_;rintro e w' ⟨rfl,rfl⟩;rw [show (⟨#[62,59,123,125,124,94,36,46,91,93,45,61,58]⟩:ByteArray).data.toList=sgnL from rfl,show (Int.toNat (s[0].toNat:Int)).toUInt8=s[0] by simp,hi]) | (go_at_call 88;refine (Tryz.strings_HasPrefix _ _ _).mono ?_;rintro e w' ⟨rfl,rfl⟩;rw [show (⟨#[91,58]⟩:ByteArray).data.toList=[91,58] from rfl,hp]))
 refine (HV.out _).mono ?_
 rintro e w2 ⟨rfl,hb2⟩
 have HT2:=(TB.new w 0 0 0 0 ⟨#[]⟩ 0).below hb2 (by simp)
 have HB2:Below w.heap.size w w2:=((Below.refl _ w).alloc (Nat.le_refl _) _).trans (hb2.mono (by simp))
 obtain ⟨c0,c1,c2,c3,c4,c5⟩:=HT2.cells
 obtain ⟨f0,f1,f2,f3,f4,f5⟩:=HT2.frozen
 clear hb2
 go_wp2
 exact ret_tk rfl rfl rfl (HT2.set k a l u t n) ⟨rfl,below_set6 HB2 (Nat.le_refl _) _ _ _ _ _ _⟩
theorem idx_bound:∀ (l:List UInt8) (c:UInt8),-1≤Lib.indexByte l c∧Lib.indexByte l c<l.length
 | [],c=>by simp [Lib.indexByte]
 | b::l,c=>by
  obtain ⟨h1,h2⟩:=idx_bound l c
  unfold Lib.indexByte
  rw [List.length_cons]
  split
  · omega
  · split <;> omega
theorem sgn_bound (c:UInt8):Lib.indexByte sgnL c≤12 ∧ -1≤Lib.indexByte sgnL c:=by
 have:=idx_bound sgnL c
 have e:sgnL.length=13:=rfl
 omega
set_option maxHeartbeats 1000000 in
theorem first_sign (s:ByteArray) (fresh:Bool) (i:Nat) (_hs:s.size≤maxLen) (h1:0<s.size) (hc:s[0].toNat≠36) (hp:Lib.hasPrefix s.data.toList [91,58]=false) (hi:Lib.indexByte sgnL s[0]=(i:Int)):Tells 47 #[.string s,.bool fresh] (10+i) 0 1 0 ⟨#[]⟩ 0 0:=by
 intro w
 have h1i:(1:Int)≤(s.size:Int):=by omega
 have hi12:(i:Int)≤12:=by rw [←hi];exact (sgn_bound _).1
 have hi0:(0:Int)≤(i:Int):=by omega
 go_enter Tryz.func47,Tryz.ntmps47
 go_wp2_with (first | (go_at_call 84;refine (Tryz.strings_IndexByte _ _ _).mono ?_;rintro e w' ⟨rfl,rfl⟩;rw [show (⟨#[62,59,123,125,124,94,36,46,91,93,45,61,58]⟩:ByteArray).data.toList=sgnL from rfl,show (Int.toNat (s[0].toNat:Int)).toUInt8=s[0] by simp,hi]) | (go_at_call 88;refine (Tryz.strings_HasPrefix _ _ _).mono ?_;rintro e w' ⟨rfl,rfl⟩;rw [show (⟨#[91,58]⟩:ByteArray).data.toList=[91,58] from rfl,hp]))
 exact bodyPost_ret (v := .tuple #[tk (10+i) 0 1 0 ⟨#[]⟩ 0,.int .i64 0]) (by simp [results,Tryz.f47,go_sem]) rfl ⟨rfl,(Below.refl _ _).alloc (Nat.le_refl _) _⟩
set_option maxHeartbeats 1000000 in
theorem first_sign36 (s:ByteArray) (fresh:Bool) (i:Nat) (hs:s.size≤maxLen) (h1:0<s.size) (hc:s[0].toNat=36) (hm:spanN isNm (s.extract 1 s.size).data.toList=0) (hp:Lib.hasPrefix s.data.toList [91,58]=false) (hi:Lib.indexByte sgnL s[0]=(i:Int)):Tells 47 #[.string s,.bool fresh] (10+i) 0 1 0 ⟨#[]⟩ 0 0:=by
 intro w
 have h1i:(1:Int)≤(s.size:Int):=by omega
 have hi12:(i:Int)≤12:=by rw [←hi];exact (sgn_bound _).1
 have hi0:(0:Int)≤(i:Int):=by omega
 go_enter Tryz.func47,Tryz.ntmps47
 go_wp2_with (first | (go_at_call 84;refine (Tryz.strings_IndexByte _ _ _).mono ?_;rintro e w' ⟨rfl,rfl⟩;rw [show (⟨#[62,59,123,125,124,94,36,46,91,93,45,61,58]⟩:ByteArray).data.toList=sgnL from rfl,show (Int.toNat (36:Int)).toUInt8=s[0] by rw [←UInt8.toNat_inj,hc];rfl,hi]) | (go_at_call 85;refine (span_name _ _ (by rw [ext_size];omega)).mono ?_;rintro e w' ⟨rfl,rfl⟩;rw [hm]) | (go_at_call 88;refine (Tryz.strings_HasPrefix _ _ _).mono ?_;rintro e w' ⟨rfl,rfl⟩;rw [show (⟨#[91,58]⟩:ByteArray).data.toList=[91,58] from rfl,hp]))
 exact bodyPost_ret (v := .tuple #[tk (10+i) 0 1 0 ⟨#[]⟩ 0,.int .i64 0]) (by simp [results,Tryz.f47,go_sem]) rfl ⟨rfl,(Below.refl _ _).alloc (Nat.le_refl _) _⟩
end Go.Proofs
namespace Go.Proofs
open Go.Shelf
def Tryz.lays158_ren:Go.Shelf.Ren:=⟨fun | 158=>97 | 165=>67 | 166=>36 | 167=>39 | 169=>41 | 230=>137 | 203=>138 | 240=>66 | 241=>115 | 197=>159 | 118=>96 | 168=>160 | 270=>161 | 262=>162 | 276=>114 | 277=>149 | 260=>181 | 242=>182 | 313=>183 | 278=>199 | 274=>200 | 275=>201 | n=>n,fun | 9=>9 | 4=>4 | 3=>3 | 5=>5 | 72=>71 | 0=>0 | 76=>74 | 75=>73 | 107=>139 | 70=>69 | 20=>20 | 37=>50 | 127=>106 | 21=>21 | 105=>158 | 164=>129 | 162=>175 | 203=>173 | 119=>188 | 46=>180 | 139=>191 | 138=>190 | 51=>178 | 160=>192 | 208=>203 | 206=>201 | 80=>81 | n=>n,fun | 13=>1 | 3=>3 | 4=>4 | n=>n⟩
theorem Tryz.lays158:Go.Proofs.Lays.n158 Tryz.prog Tryz.lays158_ren := {
 mixed:=by kernel_rfl
 f118:=Tryz.func96.trans (congrArg some (by kernel_rfl))
 f158:=Tryz.func97.trans (congrArg some (by kernel_rfl))
 f165:=Tryz.func67.trans (congrArg some (by kernel_rfl))
 f166:=Tryz.func36.trans (congrArg some (by kernel_rfl))
 f167:=Tryz.func39.trans (congrArg some (by kernel_rfl))
 f168:=Tryz.func160.trans (congrArg some (by kernel_rfl))
 f169:=Tryz.func41.trans (congrArg some (by kernel_rfl))
 f197:=Tryz.func159.trans (congrArg some (by kernel_rfl))
 f203:=Tryz.func138.trans (congrArg some (by kernel_rfl))
 f230:=Tryz.func137.trans (congrArg some (by kernel_rfl))
 f240:=Tryz.func66.trans (congrArg some (by kernel_rfl))
 f241:=Tryz.func115.trans (congrArg some (by kernel_rfl))
 f242:=Tryz.func182.trans (congrArg some (by kernel_rfl))
 f260:=Tryz.func181.trans (congrArg some (by kernel_rfl))
 f262:=Tryz.func162.trans (congrArg some (by kernel_rfl))
 f270:=Tryz.func161.trans (congrArg some (by kernel_rfl))
 f274:=Tryz.func200.trans (congrArg some (by kernel_rfl))
 f275:=Tryz.func201.trans (congrArg some (by kernel_rfl))
 f276:=Tryz.func114.trans (congrArg some (by kernel_rfl))
 f277:=Tryz.func149.trans (congrArg some (by kernel_rfl))
 f278:=Tryz.func199.trans (congrArg some (by kernel_rfl))
 f313:=Tryz.func183.trans (congrArg some (by kernel_rfl))
 t0:=Tryz.underlying0
 a0:=Tryz.isAgg0
 z0:=Tryz.sizeOf0
 v0:=Tryz.zeroValue0
 t3:=Tryz.underlying3
 a3:=Tryz.isAgg3
 z3:=Tryz.sizeOf3
 v3:=Tryz.zeroValue3
 t4:=Tryz.underlying4
 a4:=Tryz.isAgg4
 z4:=Tryz.sizeOf4
 v4:=Tryz.zeroValue4
 t5:=Tryz.underlying5
 a5:=Tryz.isAgg5
 z5:=Tryz.sizeOf5
 v5:=Tryz.zeroValue5
 t9:=Tryz.underlying9
 a9:=Tryz.isAgg9
 z9:=Tryz.sizeOf9
 v9:=Tryz.zeroValue9
 t20:=Tryz.underlying20
 a20:=Tryz.isAgg20
 z20:=Tryz.sizeOf20
 v20:=Tryz.zeroValue20
 t21:=Tryz.underlying21
 a21:=Tryz.isAgg21
 z21:=Tryz.sizeOf21
 v21:=Tryz.zeroValue21
 t37:=Tryz.underlying50
 a37:=Tryz.isAgg50
 z37:=Tryz.sizeOf50
 v37:=Tryz.zeroValue50
 t46:=Tryz.underlying180
 a46:=Tryz.isAgg180
 z46:=Tryz.sizeOf180
 v46:=Tryz.zeroValue180
 t51:=Tryz.underlying178
 a51:=Tryz.isAgg178
 z51:=Tryz.sizeOf178
 v51:=Tryz.zeroValue178
 t70:=Tryz.underlying69
 a70:=Tryz.isAgg69
 z70:=Tryz.sizeOf69
 v70:=Tryz.zeroValue69
 t72:=Tryz.underlying71
 a72:=Tryz.isAgg71
 z72:=Tryz.sizeOf71
 v72:=Tryz.zeroValue71
 t75:=Tryz.underlying73
 a75:=Tryz.isAgg73
 z75:=Tryz.sizeOf73
 v75:=Tryz.zeroValue73
 t76:=Tryz.underlying74
 a76:=Tryz.isAgg74
 z76:=Tryz.sizeOf74
 v76:=Tryz.zeroValue74
 t105:=Tryz.underlying158
 a105:=Tryz.isAgg158
 z105:=Tryz.sizeOf158
 v105:=Tryz.zeroValue158
 t107:=Tryz.underlying139
 a107:=Tryz.isAgg139
 z107:=Tryz.sizeOf139
 v107:=Tryz.zeroValue139
 t119:=Tryz.underlying188
 a119:=Tryz.isAgg188
 z119:=Tryz.sizeOf188
 t127:=Tryz.underlying106
 a127:=Tryz.isAgg106
 z127:=Tryz.sizeOf106
 v127:=Tryz.zeroValue106
 t138:=Tryz.underlying190
 a138:=Tryz.isAgg190
 z138:=Tryz.sizeOf190
 v138:=Tryz.zeroValue190
 t139:=Tryz.underlying191
 a139:=Tryz.isAgg191
 z139:=Tryz.sizeOf191
 v139:=Tryz.zeroValue191
 t160:=Tryz.underlying192
 a160:=Tryz.isAgg192
 z160:=Tryz.sizeOf192
 v160:=Tryz.zeroValue192
 t162:=Tryz.underlying175
 a162:=Tryz.isAgg175
 z162:=Tryz.sizeOf175
 v162:=Tryz.zeroValue175
 t164:=Tryz.underlying129
 a164:=Tryz.isAgg129
 z164:=Tryz.sizeOf129
 v164:=Tryz.zeroValue129
 t203:=Tryz.underlying173
 a203:=Tryz.isAgg173
 z203:=Tryz.sizeOf173
 v203:=Tryz.zeroValue173
 t206:=Tryz.underlying201
 a206:=Tryz.isAgg201
 z206:=Tryz.sizeOf201
 v206:=Tryz.zeroValue201
 t208:=Tryz.underlying203
 a208:=Tryz.isAgg203
 z208:=Tryz.sizeOf203
 v208:=Tryz.zeroValue203
 g3:=by kernel_rfl
 g4:=by kernel_rfl
 g13:=by kernel_rfl }
theorem Tryz.Builder_Extra_158:Builder.Extra Tryz.prog Tryz.lays158_ren := {
 sizeBuilder:=by kernel_rfl
 liesBuilder:=by kernel_rfl
 t5:=Tryz.underlying5
 a5:=Tryz.isAgg5
 z5:=Tryz.sizeOf5
 v5:=Tryz.zeroValue5
 infoByte:=by kernel_rfl
 cellsByte:=by kernel_rfl
 sizeByte:=by kernel_rfl
 neB5:=by decide }
open Go.RowKit in
theorem Tryz.strings_ToUpper_ascii (s:ByteArray) (w:World) (hs:s.size≤140737488355328) (hascii:∀ (j:Nat) (b:UInt8),s.data.toList[j]? = some b→b.toNat<128) :
 Calls Tryz.prog 97 #[.string s] w fun e w'=>e = .returned (.string ⟨(Lib.toUpperA s.data.toList).toArray⟩)∧Below w.heap.size w w':=Any.strings_ToUpper_ascii Tryz.lays158 Tryz.Builder_Extra_158 s w hs hascii
end Go.Proofs
namespace Go.Proofs
open Go.RowKit Go.Shelf
set_option maxRecDepth 100000
attribute [local go_sem] Oper.semAt_some
theorem and16_15:bits BinOp.and IntKind.i64 16 15=0:=by decide +kernel
theorem and16_neg:bits BinOp.and IntKind.u64 16 (IntKind.u64.wrap (-16))=16:=by decide +kernel
theorem idx15:IntKind.u64.wrap (16*285870213051353865) / 288230376151711744=15:=by decide +kernel
def TabB (w:World):Prop:=w.cell? ⟨8,15,none⟩=some (.int .u8 4)
set_option maxHeartbeats 1000000 in
theorem pow_any (w:World):Calls Tryz.prog 187 #[.int .i64 16] w fun e w'=>e = .returned (.bool true)∧w'=w:=by
 have h:=and16_15
 go_enter Tryz.func187,Tryz.ntmps187
 go_wp2
 go_ret
 exact ⟨rfl,rfl⟩
set_option maxHeartbeats 1000000 in
theorem tz64_any (w:World) (hT:TabB w):Calls Tryz.prog 203 #[.int .u64 16] w fun e w'=>e = .returned (.int .i64 4)∧w'=w:=by
 have h1:=and16_neg
 have h2:=idx15
 have hc:w.cell? ⟨8,15,none⟩=some (.int .u8 4):=hT
 clear hT
 go_enter Tryz.func203,Tryz.ntmps203
 go_wp2
 go_ret
 exact ⟨rfl,rfl⟩
set_option maxHeartbeats 1000000 in
theorem tz_any (w:World) (hT:TabB w):Calls Tryz.prog 188 #[.int .u64 16] w fun e w'=>e = .returned (.int .i64 4)∧w'=w:=by
 go_enter Tryz.func188,Tryz.ntmps188
 go_wp2_with (go_at_call 203;refine (tz64_any _ hT).mono ?_;rintro e w' ⟨rfl,rfl⟩)
 go_ret
 exact ⟨rfl,rfl⟩
def dgc (d:Nat):UInt8:=if d<10 then UInt8.ofNat (48+d) else UInt8.ofNat (87+d)
def hexF:Nat→Nat→List UInt8
 | 0,_=>[]
 | k+1,n=>if n<16 then [dgc n] else hexF k (n / 16)++[dgc (n % 16)]
def HX (W:World) (B:Nat) (tail:List UInt8):Prop:=∃ cur:Array Value,W.heap[B]? = some (.cells cur 179 (0,0))∧cur.size=65∧cur.toList.drop (65 - tail.length)=tail.map fun b=>Value.int .u8 b.toNat
theorem HX.facts {W:World} {B:Nat} {tail:List UInt8} (h:HX W B tail) {i:Nat} (hi:i<65):(∃ v,W.cell? ⟨B,i,none⟩=some v)∧W.frozen? ⟨B,i,none⟩=false:=by
 obtain ⟨cur,hb,hz,_⟩:=h
 constructor
 · simp [World.cell?,hb,hz,hi]
 · simp [World.frozen?,hb]
theorem HX.put {W:World} {B:Nat} {tail:List UInt8} (h:HX W B tail) (c:UInt8) {i:Nat} (hi:i+1+tail.length=65):HX (W.setCell ⟨B,i,none⟩ (.int .u8 c.toNat)) B (c::tail):=by
 obtain ⟨cur,hb,hz,hd⟩:=h
 refine ⟨cur.setIfInBounds i (.int .u8 c.toNat),cells_setS hb,by simpa using hz,?_⟩
 have e:65 - (c::tail).length=i:=by simp;omega
 rw [e,Array.toList_setIfInBounds]
 have hl:i<cur.toList.length:=by simp;omega
 have hl2:i<(cur.toList.set i (Value.int IntKind.u8 c.toNat)).length:=by simpa using hl
 rw [List.drop_eq_getElem_cons hl2,List.map_cons]
 congr 1
 · simp
 · rw [List.drop_set_of_lt (by omega),←hd]
   congr 1
   omega
theorem HX.reads {W:World} {B:Nat} {l:List UInt8} (h:HX W B l) {i:Nat} (hi:i+l.length=65):∀ j (hj:j<l.length),W.cell? ((⟨B,i,none⟩:Addr).add j)=some (.int .u8 (l[j].toNat:Int)):=by
 obtain ⟨cur,hb,hz,hd⟩:=h
 intro j hj
 have e:(⟨B,i,none⟩:Addr).add j=⟨B,i+j,none⟩:=by
  unfold Addr.add
  by_cases h:j=0
  · subst h;rfl
  · simp [h]
 rw [e]
 have h1:cur.toList[i+j]? = some (Value.int .u8 l[j].toNat):=by
  have:(cur.toList.drop (65 - l.length))[j]? = (l.map fun b=>Value.int .u8 b.toNat)[j]? := by rw [hd]
  rw [List.getElem?_drop,show 65 - l.length=i by omega] at this
  rw [this]
  simp [hj]
 simp only [World.cell?,hb]
 simpa using h1
theorem dig_at:∀ d:Fin 16,(⟨#[48,49,50,51,52,53,54,55,56,57,97,98,99,100,101,102,103,104,105,106,107,108,109,110,111,112,113,114,115,116,117,118,119,120,121,122]⟩:ByteArray).get! d.val=dgc d.val:=by decide +kernel
theorem dig_get (d:Nat) (hd:d<16) (h):(⟨#[48,49,50,51,52,53,54,55,56,57,97,98,99,100,101,102,103,104,105,106,107,108,109,110,111,112,113,114,115,116,117,118,119,120,121,122]⟩:ByteArray)[d]'h=dgc d:=(get_bang _ d h).symm.trans (dig_at ⟨d,hd⟩)
theorem and15 (m:Nat) (hm:m≤16777215):bits BinOp.and IntKind.u64 (m:Int) 15=((m % 16:Nat):Int):=by
 have h:=u64_and_nat m 15 (by omega) (by omega)
 rw [show ((15:Nat):Int)=15 from rfl] at h
 rw [h,show (15:Nat)=2 ^ 4 - 1 from rfl,Nat.and_two_pow_sub_one_eq_mod]
theorem add_zero_at (g j:Nat):(⟨g,0,none⟩:Addr).add j=⟨g,j,none⟩:=by
 unfold Addr.add
 by_cases h:j=0
 · subst h;rfl
 · simp [h]
theorem sl65 (B i:Nat) (hi:i<65):∀ W:World,(Instr.sliceAt 179 (.pointer (some ⟨B,0,none⟩)) (some (.int .i64 i)) none none).run Tryz.prog W = .ok (.slice (some ⟨B,i,none⟩) (65 - i) (65 - i)) W:=by
 intro W
 have hal:Tryz.prog.arrayLen 179=65:=by kernel_rfl
 have h0:(0:Int)≤(i:Int):=by omega
 have h1:(i:Int)≤((65:Nat):Int):=by omega
 have ht:Tryz.prog.underlying 179=some (.array (Tryz.prog.arrayLen 179) (Tryz.prog.elem 179)):=by kernel_rfl
 have hz:(sizeOf (Tryz.prog.elem 179)).run Tryz.prog W = .ok 1 W:=by kernel_rfl
 rw [run_sliceAt_array_l W 179 ⟨B,0,none⟩ ht .i64 i h0 (by rw [hal];exact h1),hz,hal]
 simp only [Result.andThen,slicedAt,Int.toNat_natCast,Nat.mul_one]
 rw [if_neg (by omega),add_zero_at]
theorem hexF_step {k m:Nat} (h:16≤m):hexF (k+1) m=hexF k (m / 16)++[dgc (m % 16)]:=by rw [hexF,if_neg (by omega)]
theorem hexF_last {k m:Nat} (h:m<16):hexF (k+1) m=[dgc m]:=by rw [hexF,if_pos h]
set_option maxHeartbeats 1000000 in
theorem fmtBits_any (u:Nat) (w:World) (hT:TabB w) (hu:u≤1114111):Calls Tryz.prog 166 #[.slice none 0 0,.int .u64 u,.int .i64 16,.bool false,.bool false] w fun e w'=>e = .returned (.tuple #[.slice none 0 0,.string ⟨(hexF 6 u).toArray⟩])∧Below w.heap.size w w':=by
 have hT1:TabB (w.alloc (.cells Tryz.zeroCells179 179)):=cell_up hT _
 obtain ⟨r,hr⟩:∃ r,hexF 6 u=r:=⟨_,rfl⟩
 have HR:Hid (hexF 6 u=r):=hr
 rw [hr]
 clear hr
 go_enter Tryz.func166,Tryz.ntmps166
 go_wp2_with (first | (go_at_call 187;refine (pow_any _).mono ?_;rintro e w' ⟨rfl,rfl⟩) | (go_at_call 188;refine (tz_any _ hT1).mono ?_;rintro e w' ⟨rfl,rfl⟩))
 go_loopw [1,13] (fun vu vi wr=>∃ (m k:Nat) (tail:List UInt8),vu = .int .u64 m∧vi = .int .i64 ((65 - tail.length:Nat):Int)∧k+tail.length=6∧1≤k∧m<16 ^ k∧Hid (r=hexF k m++tail)∧Hid (HX wr w.heap.size tail)∧Hid (Below w.heap.size w wr)) (fun vu _ _=>(intOf vu).toNat)
 case atStart=>exact ⟨u,6,[],rfl,rfl,rfl,by omega,Nat.lt_of_le_of_lt hu (by decide),by show _=_;rw [HR.out,List.append_nil],⟨Tryz.zeroCells179,World.alloc_heap_new _ _,by kernel_rfl,by kernel_rfl⟩,(Below.refl _ _).alloc (Nat.le_refl _) _⟩
 case round=>
  obtain ⟨m,k,tail,rfl,rfl,hk,hk1,hm,HE,HXX,HB⟩:=hrel
  have hm2:m≤16777215:=by
   have:16 ^ k≤16 ^ 6:=Nat.pow_le_pow_right (by omega) (by omega)
   omega
  obtain ⟨i,hi⟩:∃ i,i+1+tail.length=65:=⟨64 - tail.length,by omega⟩
  rw [show 65 - tail.length=i+1 by omega]
  obtain ⟨⟨v0,cv⟩,fv⟩:=HXX.out.facts (i:=i) (by omega)
  by_cases hge:16≤m
  · have hgi:(16:Int)≤(m:Int):=by omega
    have hand:=and15 m hm2
    obtain ⟨k,rfl⟩:∃ j,k=j+1:=⟨k - 1,by omega⟩
    have HE2:Hid (r=hexF k (m / 16)++(dgc (m % 16)::tail)):=by
     show _=_
     rw [HE.out,hexF_step hge,List.append_assoc];rfl
    have HX2:=HXX.out.put (dgc (m % 16)) hi
    have hm3:m / 16<16 ^ k:=by rw [Nat.pow_succ] at hm;omega
    have hk2:1≤k:=by
     cases k with
     | zero=>simp at hm;omega
     | succ k=>omega
    have hdg:=dig_get (m % 16) (by omega) (by show m % 16<36;omega)
    go_wp2
    refine ⟨⟨m / 16,k,dgc (m % 16)::tail,by simp,by simp;omega,by simp;omega,hk2,hm3,HE2,HX2,HB.out.setCell (p:=⟨w.heap.size,i,none⟩) (Nat.le_refl _) _⟩,by simp [intOf];omega⟩
  · have hlt:(m:Int)<16:=by omega
    have hlt':m<16:=by omega
    obtain ⟨k,rfl⟩:∃ j,k=j+1:=⟨k - 1,by omega⟩
    have HE2:Hid (r=dgc m::tail):=by
     show _=_
     rw [HE.out,hexF_last hlt'];rfl
    have HX2:Hid (HX (wr.setCell ⟨w.heap.size,i,none⟩ (.int .u8 (dgc m).toNat)) w.heap.size (dgc m::tail)):=HXX.out.put (dgc m) hi
    have hdg:=dig_get m hlt' (by show m<36;omega)
    have hsl:=sl65 w.heap.size i (by omega)
    have hcv:(convert 50 9 (.slice (some ⟨w.heap.size,i,none⟩) (65 - i) (65 - i))).run Tryz.prog (wr.setCell ⟨w.heap.size,i,none⟩ (.int .u8 (dgc m).toNat)) = .ok (.string ⟨r.toArray⟩) (wr.setCell ⟨w.heap.size,i,none⟩ (.int .u8 (dgc m).toNat)):=by
     have hrl:(dgc m::tail).length=65 - i:=by simp;omega
     have:=run_convert_bytes_back (P:=Tryz.prog) (wr.setCell ⟨w.heap.size,i,none⟩ (.int .u8 (dgc m).toNat)) 50 9 5 ⟨w.heap.size,i,none⟩ (65 - i) (dgc m::tail) Tryz.underlying50 Tryz.underlying5 Tryz.underlying9 (HX2.out.reads (by simp;omega))
     rw [hrl] at this
     rw [HE2.out]
     exact this
    go_wp2_with fail
    go_ret2
    exact ⟨rfl,HB.out.setCell (p:=⟨w.heap.size,i,none⟩) (Nat.le_refl _) _⟩
set_option maxHeartbeats 1000000 in
theorem fmtIntI_any (u:Nat) (w:World) (hT:TabB w) (hu:u≤1114111):Calls Tryz.prog 139 #[.int .i64 u,.int .i64 16] w fun e w'=>e = .returned (.string ⟨(hexF 6 u).toArray⟩)∧Below w.heap.size w w':=by
 have hd:decide ((u:Int)<0)=false:=by simp
 have hwr:IntKind.u64.wrap (u:Int)=(u:Int):=by simp [IntKind.wrap,IntKind.signed,IntKind.bits];omega
 go_enter Tryz.func139,Tryz.ntmps139
 go_wp2_with fail
 refine (fmtBits_any u w hT hu).mono ?_
 rintro e w1 ⟨rfl,hb⟩
 go_wp2
 go_ret
 exact ⟨rfl,hb⟩
set_option maxHeartbeats 1000000 in
theorem fmtInt_any (u:Nat) (w:World) (hT:TabB w) (hu:u≤1114111):Calls Tryz.prog 98 #[.int .i64 u,.int .i64 16] w fun e w'=>e = .returned (.string ⟨(hexF 6 u).toArray⟩)∧Below w.heap.size w w':=by
 go_enter Tryz.func98,Tryz.ntmps98
 go_wp2_with fail
 refine (fmtIntI_any u w hT hu).mono ?_
 rintro e w1 ⟨rfl,hb⟩
 go_wp2
 go_ret
 exact ⟨rfl,hb⟩
theorem dgc_ascii:∀ d:Fin 16,(dgc d.val).toNat<128:=by decide +kernel
theorem hexF_ascii:∀ (k n:Nat),∀ b∈hexF k n,b.toNat<128
 | 0,n=>by simp [hexF]
 | k+1,n=>by
  intro b hb
  rw [hexF] at hb
  split at hb
  · rename_i h
    simp at hb;subst hb;exact dgc_ascii ⟨n,h⟩
  · simp at hb
    rcases hb with hb | rfl
    · exact hexF_ascii k _ b hb
    · exact dgc_ascii ⟨n % 16,by omega⟩
theorem hexF_len:∀ (k n:Nat),(hexF k n).length≤k
 | 0,n=>by simp [hexF]
 | k+1,n=>by
  have:=hexF_len k (n / 16)
  rw [hexF];split <;> simp <;> omega
def hexU (u:Nat):List UInt8:=Lib.toUpperA (hexF 6 u)
set_option maxHeartbeats 1000000 in
theorem capitals_any (u:Nat) (w:World) (hT:TabB w) (hu:u≤1114111):Calls Tryz.prog 49 #[.int .i64 u] w fun e w'=>e = .returned (.string ⟨(hexU u).toArray⟩)∧Below w.heap.size w w':=by
 go_enter Tryz.func49,Tryz.ntmps49
 go_wp2_with fail
 refine (fmtInt_any u w hT hu).mono ?_
 rintro e w1 ⟨rfl,hb⟩
 go_wp2_with fail
 refine (Tryz.strings_ToUpper_ascii _ _ ?_ ?_).mono ?_
 · have:=hexF_len 6 u
   simp [ByteArray.size]
   omega
 · intro j b hj
   exact hexF_ascii 6 u b (List.mem_of_getElem? (by simpa using hj))
 · rintro e w2 ⟨rfl,hb2⟩
   go_wp2
   go_ret
   exact ⟨rfl,hb.trans (hb2.mono hb.size)⟩
end Go.Proofs
