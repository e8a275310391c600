/-
  Several texts in one (Ruk Shelf5k W9k N0k N1k N2k).
-/
import Derived.Shelf.Abstract
import Derived.Shelf.RegionOpen
import Derived.WalkKit
import Derived.WalkSpells
import Derived.WalkLawsBesides
import Derived.BigQuiet
import Derived.Deep.QuietTactic
import Derived.Deep.LoopGhost
import Derived.Lib.OthersKept
import Derived.ScopeJumps
import Derived.WalkMore
import Derived.Maps.AppendAt
import Derived.Lib.SmallJoins
import Derived.Test.YtknaoahokopplaaGreatDoorMhbk
import Derived.Test.YtknaoahokopplaaGreatDoorMggk
import Derived.Test.YtknaoahokopplaaGreatDoorMghk
import Derived.Shelf.LaysM
import Derived.Shelf.Strconv.Itoa4
import Derived.Test.YtknaoahokopplaaGreatDoorProg
import Derived.Lib.ItoaLen
import Derived.Test.YtknaoahokopplaaGreatDoorMgyk
import Derived.Test.YtknaoahokopplaaGreatDoorMhak
namespace Go.Proofs
open Go.RowKit Go.Shelf
set_option maxRecDepth 100000
attribute [local go_sem] Oper.semAt_some
theorem small100 (n:Nat) (h:n≤100):n≤maxLen:=by unfold maxLen;omega
theorem hdv_dgc:∀ d:Fin 16,hdv (Lib.upperB (dgc d.val))=d.val∧isHx (Lib.upperB (dgc d.val))=true:=by decide +kernel
theorem upper_app (a b:List UInt8):Lib.toUpperA (a++b)=Lib.toUpperA a++Lib.toUpperA b:=by simp [Lib.toUpperA]
theorem val_hex:∀ (k n:Nat),n<16 ^ (k+1)→valH (Lib.toUpperA (hexF (k+1) n))=n
 | 0,n,h=>by
  have h16:n<16:=by simpa using h
  rw [hexF_last h16]
  have:=(hdv_dgc ⟨n,h16⟩).1
  simpa [valH,Lib.toUpperA] using this
 | k+1,n,h=>by
  by_cases h16:n<16
  · rw [hexF_last h16]
    have:=(hdv_dgc ⟨n,h16⟩).1
    simpa [valH,Lib.toUpperA] using this
  · have hd:n / 16<16 ^ (k+1):=by rw [Nat.pow_succ] at h;omega
    rw [hexF_step (by omega),upper_app,show Lib.toUpperA [dgc (n % 16)]=[Lib.upperB (dgc (n % 16))] from rfl,valH_snoc,val_hex k (n / 16) hd,(hdv_dgc ⟨n % 16,by omega⟩).1]
    simp only
    omega
theorem all_hex:∀ (k n:Nat),∀ c∈Lib.toUpperA (hexF k n),isHx c=true
 | 0,n,c,h=>by simp [hexF,Lib.toUpperA] at h
 | k+1,n,c,h=>by
  by_cases h16:n<16
  · rw [hexF_last h16] at h
    have e:c=Lib.upperB (dgc n):=by simpa [Lib.toUpperA] using h
    rw [e];exact (hdv_dgc ⟨n,h16⟩).2
  · rw [hexF_step (by omega),upper_app,List.mem_append] at h
    rcases h with h | h
    · exact all_hex k _ c h
    · have e:c=Lib.upperB (dgc (n % 16)):=by simpa [Lib.toUpperA] using h
      rw [e];exact (hdv_dgc ⟨n % 16,by omega⟩).2
theorem hex_pos (u:Nat):0<(hexU u).length:=by
 unfold hexU
 by_cases h16:u<16
 · rw [hexF_last h16];simp [Lib.toUpperA]
 · rw [hexF_step (by omega)];simp [Lib.toUpperA]
theorem hex_two (b:Nat) (h1:16≤b) (h2:b<256):(hexU b).length=2:=by
 unfold hexU
 rw [hexF_step h1,hexF_last (by omega)]
 simp [Lib.toUpperA]
theorem span_app (f:UInt8→Bool):∀ (H:List UInt8) (c:UInt8) (r:List UInt8),(∀ x∈H,f x=true)→f c=false→spanN f (H++c::r)=H.length
 | [],c,r,_,hc=>by rw [List.nil_append,spanN_cons,hc];rfl
 | x::H,c,r,h,hc=>by
  rw [List.cons_append,spanN_cons,h x (by simp),if_pos rfl,span_app f H c r (fun y hy=>h y (by simp [hy])) hc]
  rfl
def brS (c:UInt8) (H:List UInt8):ByteArray:=⟨(92::c::123::(H++[125])).toArray⟩
theorem brS_size (c:UInt8) (H:List UInt8):(brS c H).size=H.length+4:=by
 show (92::c::123::(H++[125])).toArray.size=_
 simp
theorem brS_eq (a b c d:UInt8) (H:List UInt8) (ha:a=92) (hb:b=c) (hd:d=123):(⟨#[a,b,d]⟩:ByteArray)++⟨H.toArray⟩++⟨#[125]⟩=brS c H:=by
 subst ha hb hd
 rw [app_mk,app_mk]
 unfold brS
 congr 1
 apply Array.toList_inj.1
 simp
theorem brS_drop (c:UInt8) (H:List UInt8):((brS c H).extract 3 (brS c H).size).data.toList=H++[125]:=by
 rw [ext_drop];rfl
theorem brS_rest (c:UInt8) (H:List UInt8):(brS c H).extract (3+H.length) (brS c H).size=⟨#[125]⟩:=by
 apply ByteArray.ext
 apply Array.toList_inj.1
 rw [ext_drop]
 show (92::c::123::(H++[125])).drop (3+H.length)=[125]
 rw [Nat.add_comm]
 simp
theorem brS_mid (c:UInt8) (H:List UInt8):((brS c H).extract 3 (3+H.length)).data.toList=H:=by
 have e:((brS c H).extract 3 (3+H.length)).data.toList=((brS c H).data.toList.drop 3).take H.length:=by
  simp only [ByteArray.data_extract,Array.toList_extract,List.extract]
  congr 1
  omega
 rw [e]
 show (H++[125]).take H.length=H
 simp
theorem brS_tells (c:UInt8) (H:List UInt8) (most:Nat) (h6:most≤6) (h0:0<H.length) (hm:H.length≤most) (hx:∀ x∈H,isHx x=true):BTells (brS c H) most (valH H) (3+H.length+1) 0:=fun w=>by
 have hz:=brS_size c H
 exact braced_ok (brS c H) most ⟨#[125]⟩ H.length w (by unfold maxLen;omega) h6 (by omega) rfl (by rw [brS_drop];exact span_app isHx H 125 [] hx (by decide)) (brS_rest c H) hm h0 (by decide +kernel) (by decide) (by decide) (valH H) (by rw [brS_mid])
theorem brS_run (c:UInt8) (H:List UInt8) (u:Nat) (_hc:c.toNat=120∨c.toNat=98) (h6:H.length≤6) (hv:Tells 91 #[.string (brS c H)] 1 0 ((H.length+4:Nat):Int) u ⟨#[]⟩ 0 0):Run (brS c H) 0 true [⟨1,0,(H.length+4:Nat),u,⟨#[]⟩,0⟩] 0 0:=by
 have hz:=brS_size c H
 have h0:pastN false ((brS c H).data.toList.drop 0)=0:=by
  show pastN false (92::c::123::(H++[125]))=0
  simp [pastN,isWs]
 refine Run.step (q:=0) (l:=H.length+4) (by rw [h0]) (by omega) ?_ (by omega) (by omega) (Run.fin ?_)
 · have e:(brS c H).extract 0 (brS c H).size=brS c H:=by
    apply ByteArray.ext
    apply Array.toList_inj.1
    rw [ext_drop];rfl
   rw [e]
   exact first_esc (brS c H) true 1 0 _ u ⟨#[]⟩ 0 0 (by omega) rfl hv
 · rw [List.drop_of_length_le (by show (brS c H).data.toList.length≤_;simp;have:(brS c H).data.size=(brS c H).size:=rfl;omega),hz]
   simp [pastN]
theorem run_hex (u:Nat) (d:Int) (hu:u≤1114111) (hwd:wd u=d) (hd:d≠0):Run (brS 120 (hexU u)) 0 true [⟨1,0,((hexU u).length+4:Nat),u,⟨#[]⟩,0⟩] 0 0:=by
 have hl:(hexU u).length≤6:=by have:=hexF_len 6 u;simpa [hexU,Lib.toUpperA] using this
 have hz:=brS_size 120 (hexU u)
 have hB:=brS_tells 120 (hexU u) 6 (by omega) (hex_pos u) hl (all_hex 6 u)
 rw [show valH (hexU u)=u from val_hex 5 u (Nat.lt_of_le_of_lt hu (by decide))] at hB
 refine brS_run 120 (hexU u) u (.inl rfl) hl (esc_x _ 1 0 _ u ⟨#[]⟩ 0 0 (by omega) rfl ?_)
 have:=eRune_ok (brS 120 (hexU u)) u (3+(hexU u).length+1) d hB (by omega) hwd hd
 rw [show ((3:Int)+((hexU u).length:Int)+1)=(((hexU u).length+4:Nat):Int) by omega] at this
 exact this
theorem run_stray (b:Nat) (h1:128≤b) (h2:b≤255):Run (brS 98 (hexU b)) 0 true [⟨1,0,((hexU b).length+4:Nat),(b+1114112:Nat),⟨#[]⟩,0⟩] 0 0:=by
 have hl:=hex_two b (by omega) (by omega)
 have hz:=brS_size 98 (hexU b)
 have hB:=brS_tells 98 (hexU b) 2 (by omega) (by omega) (by omega) (all_hex 6 b)
 rw [show valH (hexU b)=b from val_hex 5 b (Nat.lt_of_le_of_lt h2 (by decide))] at hB
 refine brS_run 98 (hexU b) (b+1114112) (.inr rfl) (by omega) (esc_b _ 1 0 _ _ ⟨#[]⟩ 0 0 (by omega) rfl ?_)
 have:=eStray_ok (brS 98 (hexU b)) b (3+(hexU b).length+1) hB (by omega) (by omega)
 rw [show ((3:Int)+((hexU b).length:Int)+1)=(((hexU b).length+4:Nat):Int) by omega,show (1114112:Int)+(b:Int)=((b+1114112:Nat):Int) by omega] at this
 exact this
theorem one_facts:∀ u:Fin 128,33≤u.val∧u.val≤126→rsv u.val=false →
 (UInt8.ofNat u.val).toNat≠36∧Lib.hasPrefix [UInt8.ofNat u.val] [91,58]=false∧Lib.indexByte sgnL (UInt8.ofNat u.val) = -1∧(UInt8.ofNat u.val).toNat≠64∧(UInt8.ofNat u.val).toNat≠92∧endsB ⟨#[UInt8.ofNat u.val]⟩=false∧firstU ⟨#[UInt8.ofNat u.val]⟩=((u.val:Int),1)∧pastN false [UInt8.ofNat u.val]=0:=by decide +kernel
theorem run_plain (u:Nat) (h:33≤u∧u≤126) (hr:rsv u=false):Run ⟨#[UInt8.ofNat u]⟩ 0 true [⟨1,0,(1:Nat),u,⟨#[]⟩,0⟩] 0 0:=by
 obtain ⟨f1,f2,f3,f4,f5,f6,f7,f8⟩:=one_facts ⟨u,by omega⟩ h hr
 refine Run.step (q:=0) (l:=1) (by show 0=0+pastN false [UInt8.ofNat u];rw [f8]) (by show 0<1;omega) ?_ (by decide) (by show 0+1≤1;omega) (Run.fin (by rfl))
 exact first_bare2 ⟨#[UInt8.ofNat u]⟩ 1 0 1 u ⟨#[]⟩ 0 0 (small100 _ (by show 1≤100;omega)) (by show 0<1;omega) f1 f2 f3 f4 f5 f6 (fun w=>bare_ok ⟨#[UInt8.ofNat u]⟩ u 1 w (small100 _ (by show 1≤100;omega)) f7 (by omega) (by omega) (by omega) hr)
theorem two_facts:∀ u:Fin 128,(u.val=32∨rsv u.val=true) →
 (UInt8.ofNat u.val).toNat=u.val∧isLt (UInt8.ofNat u.val)=false∧isDg (UInt8.ofNat u.val)=false∧u.val≠120∧u.val≠98∧32≤u.val∧u.val≤126:=by decide +kernel
theorem run_esc (u:Nat) (hu:u<128) (hr:u=32∨rsv u=true):Run ⟨#[92,UInt8.ofNat u]⟩ 0 true [⟨1,0,(2:Nat),u,⟨#[]⟩,0⟩] 0 0:=by
 obtain ⟨f1,f2,f3,f4,f5,f6,f7⟩:=two_facts ⟨u,hu⟩ hr
 simp only at f1 f4 f5 f6 f7
 refine Run.step (q:=0) (l:=2) (by rfl) (by show 0<2;omega) ?_ (by decide) (by show 0+2≤2;omega) (Run.fin (by rfl))
 have h1s:1<(⟨#[92,UInt8.ofNat u]⟩:ByteArray).size:=by show 1<2;omega
 have hE:=esc_ok ⟨#[92,UInt8.ofNat u]⟩ (by show 2≤2;omega) (by show (UInt8.ofNat u).toNat≠120;omega) (by show (UInt8.ofNat u).toNat≠98;omega) (by show 32≤(UInt8.ofNat u).toNat;omega) (by show (UInt8.ofNat u).toNat≤126;omega) f2 f3
 have e:((⟨#[92,UInt8.ofNat u]⟩:ByteArray)[1].toNat:Int)=u:=by show ((UInt8.ofNat u).toNat:Int)=u;omega
 rw [e] at hE
 exact first_esc ⟨#[92,UInt8.ofNat u]⟩ true 1 0 2 u ⟨#[]⟩ 0 0 (by show 0<2;omega) rfl hE
theorem write_both (u:Int):∃ (s:ByteArray) (e:Int),Hid (∀ w,TabB w→Calls Tryz.prog 24 #[.int .i64 u] w fun x w'=>x = .returned (.tuple #[.string s,.int .i64 e])∧Below w.heap.size w w')∧Hid (∀ w:World,Calls Tryz.prog 174 #[.int .i64 u] w fun x w'=>x = .returned (.tuple #[.string s,.int .i64 e])∧Below w.heap.size w w') ∧
 ((wd u=0∧e=1∧s.size=0)∨(wd u≠0∧e=0∧s.size≤100∧Run s 0 true [⟨1,0,s.size,u,⟨#[]⟩,0⟩] 0 0)):=by
 by_cases hw:wd u=0
 · exact ⟨_,_,fun w _=>write_none u w hw,fun w=>rwrite_none u w hw,.inl ⟨hw,rfl,rfl⟩⟩
 have hur:(1114240≤u∧u≤1114367)∨(0≤u∧u≤1114111):=by
  apply Classical.byContradiction
  intro h
  exact hw (wd_no (by omega) (by omega))
 rcases hur with h | h
 · obtain ⟨b,rfl⟩:∃ b:Nat,u=(b:Int)+1114112:=⟨(u - 1114112).toNat,by omega⟩
   have hb1:128≤b:=by omega
   have hb2:b≤255:=by omega
   have es:=brS_eq 92 98 98 123 (hexU b) rfl rfl rfl
   refine ⟨_,0,fun w hT=>write_stray b w hT hb1 hb2,fun w=>rwrite_stray b w hb1 hb2,.inr ⟨hw,rfl,?_,?_⟩⟩
   · rw [show hexB b=⟨(hexU b).toArray⟩ from rfl,es,brS_size];have:=hex_two b (by omega) (by omega);omega
   · rw [show hexB b=⟨(hexU b).toArray⟩ from rfl,es,brS_size]
     have:=run_stray b hb1 hb2
     rw [show ((b+1114112:Nat):Int)=(b:Int)+1114112 by omega] at this
     exact this
 · obtain ⟨v,rfl⟩:∃ v:Nat,u=(v:Int):=⟨u.toNat,by omega⟩
   have hv:v≤1114111:=by omega
   by_cases hx:v<32∨126<v
   · have es:=brS_eq 92 120 120 123 (hexU v) rfl rfl rfl
     have hr:rsv v=false:=by
      cases hc:rsv v
      · rfl
      · have:=rsv_in hc;omega
     refine ⟨_,0,fun w hT=>write_hex v _ w hT rfl hw hv hr hx,fun w=>rwrite_hex v _ w rfl hw hv hx,.inr ⟨hw,rfl,?_,?_⟩⟩
     · rw [show hexB v=⟨(hexU v).toArray⟩ from rfl,es,brS_size]
       have hl:(hexU v).length≤6:=by have:=hexF_len 6 v;simpa [hexU,Lib.toUpperA] using this
       omega
     · rw [show hexB v=⟨(hexU v).toArray⟩ from rfl,es,brS_size]
       exact run_hex v _ hv rfl hw
   · by_cases h32:v=32
     · subst h32
       exact ⟨_,0,fun w _=>write_blank w,fun w=>rwrite_blank w,.inr ⟨hw,rfl,by decide,run_esc 32 (by omega) (.inl rfl)⟩⟩
     · cases hr:rsv v
       · exact ⟨_,0,fun w _=>write_plain v w (by omega) hr,fun w=>rwrite_plain v w (by omega) hr,.inr ⟨hw,rfl,by show 1≤100;omega,run_plain v (by omega) hr⟩⟩
       · exact ⟨_,0,fun w _=>write_esc v w (by omega) hr,fun w=>rwrite_esc v w (by omega) hr,.inr ⟨hw,rfl,by show 2≤100;omega,run_esc v (by omega) (.inr hr)⟩⟩
end Go.Proofs
namespace Go.Proofs
open Go.Shelf
def Tryz.laysM171_ren:Go.Shelf.Ren:=⟨fun | 171=>150 | 243=>173 | 246=>139 | 283=>163 | 284=>164 | 285=>165 | 286=>166 | 129=>185 | 317=>184 | 318=>186 | 319=>187 | 320=>188 | 337=>202 | 338=>203 | n=>n,fun | 3=>3 | 9=>9 | 2=>2 | 4=>4 | 171=>162 | 0=>0 | 53=>163 | 37=>50 | 5=>5 | 173=>166 | 212=>177 | 51=>178 | 20=>20 | 213=>179 | 46=>180 | 232=>204 | 233=>205 | n=>n,fun | 17=>2 | 18=>7 | 19=>8 | n=>n⟩
theorem Tryz.laysM171:Go.Proofs.LaysM.n171 Tryz.prog Tryz.laysM171_ren := {
 mixed:=by kernel_rfl
 f129:=Tryz.func185.trans (congrArg some (by kernel_rfl))
 f171:=Tryz.func150.trans (congrArg some (by kernel_rfl))
 f243:=Tryz.func173.trans (congrArg some (by kernel_rfl))
 f246:=Tryz.func139.trans (congrArg some (by kernel_rfl))
 f283:=Tryz.func163.trans (congrArg some (by kernel_rfl))
 f284:=Tryz.func164.trans (congrArg some (by kernel_rfl))
 f285:=Tryz.func165.trans (congrArg some (by kernel_rfl))
 f286:=Tryz.func166.trans (congrArg some (by kernel_rfl))
 f317:=Tryz.func184.trans (congrArg some (by kernel_rfl))
 f318:=Tryz.func186.trans (congrArg some (by kernel_rfl))
 f319:=Tryz.func187.trans (congrArg some (by kernel_rfl))
 f320:=Tryz.func188.trans (congrArg some (by kernel_rfl))
 f337:=Tryz.func202.trans (congrArg some (by kernel_rfl))
 f338:=Tryz.func203.trans (congrArg some (by kernel_rfl))
 t0:=Tryz.underlying0
 a0:=Tryz.isAgg0
 z0:=Tryz.sizeOf0
 v0:=Tryz.zeroValue0
 t2:=Tryz.underlying2
 a2:=Tryz.isAgg2
 z2:=Tryz.sizeOf2
 v2:=Tryz.zeroValue2
 t3:=Tryz.underlying3
 a3:=Tryz.isAgg3
 z3:=Tryz.sizeOf3
 v3:=Tryz.zeroValue3
 t4:=Tryz.underlying4
 a4:=Tryz.isAgg4
 z4:=Tryz.sizeOf4
 v4:=Tryz.zeroValue4
 t5:=Tryz.underlying5
 a5:=Tryz.isAgg5
 z5:=Tryz.sizeOf5
 v5:=Tryz.zeroValue5
 t9:=Tryz.underlying9
 a9:=Tryz.isAgg9
 z9:=Tryz.sizeOf9
 v9:=Tryz.zeroValue9
 t20:=Tryz.underlying20
 a20:=Tryz.isAgg20
 z20:=Tryz.sizeOf20
 v20:=Tryz.zeroValue20
 t37:=Tryz.underlying50
 a37:=Tryz.isAgg50
 z37:=Tryz.sizeOf50
 v37:=Tryz.zeroValue50
 t46:=Tryz.underlying180
 a46:=Tryz.isAgg180
 z46:=Tryz.sizeOf180
 v46:=Tryz.zeroValue180
 t51:=Tryz.underlying178
 a51:=Tryz.isAgg178
 z51:=Tryz.sizeOf178
 v51:=Tryz.zeroValue178
 t53:=Tryz.underlying163
 a53:=Tryz.isAgg163
 z53:=Tryz.sizeOf163
 v53:=Tryz.zeroValue163
 t171:=Tryz.underlying162
 a171:=Tryz.isAgg162
 z171:=Tryz.sizeOf162
 v171:=Tryz.zeroValue162
 t173:=Tryz.underlying166
 a173:=Tryz.isAgg166
 z173:=Tryz.sizeOf166
 v173:=Tryz.zeroValue166
 t212:=Tryz.underlying177
 a212:=Tryz.isAgg177
 z212:=Tryz.sizeOf177
 v212:=Tryz.zeroValue177
 t213:=Tryz.underlying179
 a213:=Tryz.isAgg179
 z213:=Tryz.sizeOf179
 t232:=Tryz.underlying204
 a232:=Tryz.isAgg204
 z232:=Tryz.sizeOf204
 v232:=Tryz.zeroValue204
 t233:=Tryz.underlying205
 a233:=Tryz.isAgg205
 z233:=Tryz.sizeOf205
 v233:=Tryz.zeroValue205
 g17:=by kernel_rfl
 g18:=by kernel_rfl
 g19:=by kernel_rfl
 i0:=by kernel_rfl
 i2:=by kernel_rfl
 i3:=by kernel_rfl
 i4:=by kernel_rfl
 i5:=by kernel_rfl
 i9:=by kernel_rfl
 i20:=by kernel_rfl
 i37:=by kernel_rfl
 i46:=by kernel_rfl
 i51:=by kernel_rfl
 i53:=by kernel_rfl
 i171:=by kernel_rfl
 i173:=by kernel_rfl
 i212:=by kernel_rfl
 i232:=by kernel_rfl
 i233:=by kernel_rfl
 m17:=by kernel_rfl
 m18:=by kernel_rfl
 m19:=by kernel_rfl }
open Go.RowKit Go.Sort Go.Lib in
theorem Tryz.strconv_Itoa (n : Int) (h0 : -9223372036854775808 ≤ n) (h1 : n ≤ 9223372036854775807) (w : World) (htab : Lib.TabIs Tryz.prog w "internal/strconv.uint64pow10" .u64 Lib.pow10Tab) :
 Calls Tryz.prog 150 #[.int .i64 n] w fun e w'=>e = .returned (.string ⟨(Lib.itoa n).toArray⟩)∧∃ k os,w'=grow (w.drewN k) os:=Any.strconv_Itoa Tryz.laysM171 n h0 h1 w htab
end Go.Proofs
namespace Go.Proofs
open Go.RowKit Go.Shelf
set_option maxRecDepth 100000
attribute [local go_sem] Oper.semAt_some
noncomputable def unitS (u:Int):ByteArray:=Classical.choose (write_both u)
theorem unitS_spec (u:Int):∃ e:Int,Hid (∀ w,TabB w→Calls Tryz.prog 24 #[.int .i64 u] w fun x w'=>x = .returned (.tuple #[.string (unitS u),.int .i64 e])∧Below w.heap.size w w')∧Hid (∀ w:World,Calls Tryz.prog 174 #[.int .i64 u] w fun x w'=>x = .returned (.tuple #[.string (unitS u),.int .i64 e])∧Below w.heap.size w w') ∧
 ((wd u=0∧e=1∧(unitS u).size=0)∨(wd u≠0∧e=0∧(unitS u).size≤100∧Run (unitS u) 0 true [⟨1,0,(unitS u).size,u,⟨#[]⟩,0⟩] 0 0)):=Classical.choose_spec (write_both u)
set_option maxHeartbeats 1000000 in
theorem unitText_any (u:Int) (w:World) (hT:TabB w):Calls Tryz.prog 116 #[.int .i64 u] w fun x w'=>x = .returned (.string (unitS u))∧Below w.heap.size w w':=by
 obtain ⟨e,h1,-,-⟩:=unitS_spec u
 have HT:Hid (TabB w):=hT
 clear hT
 go_enter Tryz.func116,Tryz.ntmps116
 go_wp2_with fail
 refine (h1.out _ HT.out).mono ?_
 rintro x w1 ⟨rfl,hb⟩
 have HB:Hid (Below w.heap.size w w1):=hb
 clear hb
 go_wp2
 go_ret
 exact ⟨rfl,HB.out⟩
def copyS (n:Int):ByteArray:=⟨#[64]⟩++⟨(Lib.itoa n).toArray⟩
abbrev PowT (w : World) : Prop := Lib.TabIs Tryz.prog w "internal/strconv.uint64pow10" .u64 Lib.pow10Tab
set_option maxHeartbeats 1000000 in
theorem copyText_any (m:MI) (h0 : -9223372036854775808≤m.key) (h1:m.key≤9223372036854775807) (w:World) (hT:∀ o,PowT (w.alloc o)):Calls Tryz.prog 118 #[mia m] w fun x w'=>x = .returned (.string (copyS m.key))∧Grown w w':=by
 have HT:Hid (∀ o,PowT (w.alloc o)):=hT
 have H0:Hid (-9223372036854775808≤m.key∧m.key≤9223372036854775807):=⟨h0,h1⟩
 have hl:=Lib.itoa_length_le m.key h0 h1
 have hI:Hid (∀ W,PowT W→Calls Tryz.prog 150 #[.int .i64 m.key] W fun e w'=>e = .returned (.string ⟨(Lib.itoa m.key).toArray⟩)∧∃ k os,w'=Go.Sort.grow (W.drewN k) os):=fun W hW=>Tryz.strconv_Itoa m.key h0 h1 W hW
 clear hT h0 h1
 obtain ⟨y,hy⟩:∃ y:ByteArray,(⟨(Lib.itoa m.key).toArray⟩:ByteArray)=y:=⟨_,rfl⟩
 have hz:y.size≤21:=by
  rw [←hy]
  show (Lib.itoa m.key).toArray.size≤21
  simpa using hl
 have HS:Hid (copyS m.key=⟨#[64]⟩++y):=by
  show _=_
  rw [←hy]
  rfl
 rw [hy] at hI
 have hx1:((⟨#[64]⟩:ByteArray)++y).size=1+y.size:=by rw [ByteArray.size_append];rfl
 clear hy hl
 go_enter Tryz.func118,Tryz.ntmps118
 go_wp2_with fail
 refine (hI.out _ (HT.out _)).mono ?_
 rintro x w1 ⟨rfl,k,os,rfl⟩
 have HG:Hid (Grown w (Go.Sort.grow ((w.alloc (.cells (mi1 m).toArray 58)).drewN k) os)):=((Grown.refl w).alloc _).trans ⟨k,os,rfl⟩
 go_wp2
 go_ret
 exact ⟨by rw [HS.out];rfl,HG.out⟩
end Go.Proofs
namespace Go.Proofs
open Go.RowKit Go.Shelf
theorem span_word (f:UInt8→Bool):∀ (x L:List UInt8),(∀ c∈x,f c=true)→(∀ c,L[0]? = some c→f c=false)→spanN f (x++L)=x.length
 | [],[],_,_=>rfl
 | [],c::L,_,h=>by
  rw [List.nil_append,spanN_cons,h c rfl]
  rfl
 | a::x,L,h1,h2=>by
  rw [List.cons_append,spanN_cons,h1 a (by simp),span_word f x L (fun c hc=>h1 c (by simp [hc])) h2]
  simp
theorem RunL.var (nm:List UInt8) {L:List UInt8} {fresh:Bool} {ts:List TW} (hn:∀ c∈nm,isNm c=true) (h1:1≤nm.length) (h2:nm.length≤32) (hL:∀ c,L[0]? = some c→isNm c=false) (h:RunL L false ts):RunL ((36::nm)++L) fresh (⟨2,0,⟨(36::nm).toArray⟩,0⟩::ts):=by
 have hs:spanN isNm (((36::nm)++L).drop 1)=nm.length:=span_word isNm nm L hn hL
 have hT:TokS ((36::nm)++L) fresh 2 (1+nm.length) 0 (((36::nm)++L).take (1+nm.length)) 0 := .var nm.length rfl hs (by omega) h2
 have e:((36::nm)++L).take (1+nm.length)=36::nm:=by
  rw [show 1+nm.length=(36::nm).length by simp;omega]
  exact List.take_left
 rw [e] at hT
 exact RunL.tok (w:=36::nm) (pastN_stop (by decide) (by decide) _) (by simp) (by rw [show (36::nm).length=1+nm.length by simp;omega];exact hT) h
theorem RunL.cls (nm:List UInt8) {L:List UInt8} {fresh:Bool} {ts:List TW} (hn:∀ c∈nm,isNm c=true) (h1:1≤nm.length) (h2:nm.length≤32) (h:RunL L false ts):RunL ((91::58::nm++[58,93])++L) fresh (⟨2,0,⟨(58::nm++[58]).toArray⟩,0⟩::ts):=by
 have e0:(91::58::nm++[58,93])++L=91::58::(nm++(58::93::L)):=by simp
 have hs:spanN isNm (((91::58::nm++[58,93])++L).drop 2)=nm.length:=by
  rw [e0]
  exact span_word isNm nm _ hn (fun c hc=>by simp at hc;subst hc;decide)
 have hT:TokS ((91::58::nm++[58,93])++L) fresh 2 (2+nm.length+2) 0 ((((91::58::nm++[58,93])++L).drop 1).take (nm.length+2)) 0:=by
  refine .cls nm.length rfl rfl hs (by omega) h2 ?_ ?_
  · rw [e0,show 2+nm.length=nm.length+1+1 by omega,List.getElem?_cons_succ,List.getElem?_cons_succ,List.getElem?_append_right (Nat.le_refl _),Nat.sub_self]
    rfl
  · rw [e0,show 3+nm.length=nm.length+1+1+1 by omega,List.getElem?_cons_succ,List.getElem?_cons_succ,List.getElem?_append_right (by omega),show nm.length+1 - nm.length=1 by omega]
    rfl
 have e:(((91::58::nm++[58,93])++L).drop 1).take (nm.length+2)=58::nm++[58]:=by
  rw [e0,show 91::58::(nm++(58::93::L))=[91]++((58::nm++[58])++(93::L)) by simp]
  show (((58::nm++[58])++(93::L))).take (nm.length+2)=_
  rw [show nm.length+2=(58::nm++[58]).length by simp]
  exact List.take_left
 rw [e] at hT
 have hz:(91::58::nm++[58,93]:List UInt8).length=2+nm.length+2:=by simp;omega
 rw [←hz] at hT
 exact RunL.tok (w:=91::58::nm++[58,93]) (pastN_stop (by decide) (by decide) _) (by simp) hT h
end Go.Proofs
namespace Go.Proofs
open Go.RowKit Go.Shelf
theorem TokS.moveU {x A B:List UInt8} {fresh fresh2:Bool} {k:Int} {l:Nat} {u:Int} {t:List UInt8} {n:Int} (h:TokS (x++A) fresh k l u t n) (hk:k=1) (hl:x.length=l) (hE:fresh2=true→endsB ⟨(x++B).toArray⟩=false):TokS (x++B) fresh2 1 l u [] 0∧n=0:=by
 cases h with
 | var m h0 hm hm0 h32=>omega
 | cls n h0 h1 hn hn0 h32 h2 h3=>omega
 | sgn i c h0 hi hp hd2=>omega
 | cpy m v h0 hm hn0 h9 hc hv=>omega
 | thn hf he=>omega
 | esx a b h0 h1 h2 ha hn0 h6 hc hb hh hw=>
  have e:((x++A).drop 3).take a=((x++B).drop 3).take a:=by
   rw [drop_left A (by omega),drop_left B (by omega),take_left A (by rw [List.length_drop];omega),take_left B (by rw [List.length_drop];omega)]
  refine ⟨.esx a _ ((idx_left (by omega)).trans h0) ((idx_left (by omega)).trans h1) ((idx_left (by omega)).trans h2) ?_ hn0 h6 ((idx_left (by omega)).trans hc) (by rw [←e];exact hb) hh hw,rfl⟩
  rw [drop_left _ (by omega)] at ha ⊢
  exact span_in isHx _ _ _ _ ha (by rw [List.length_drop];omega)
 | esb a b h0 h1 h2 ha hn0 h6 hc hb hlo hh=>
  have e:((x++A).drop 3).take a=((x++B).drop 3).take a:=by
   rw [drop_left A (by omega),drop_left B (by omega),take_left A (by rw [List.length_drop];omega),take_left B (by rw [List.length_drop];omega)]
  refine ⟨.esb a _ ((idx_left (by omega)).trans h0) ((idx_left (by omega)).trans h1) ((idx_left (by omega)).trans h2) ?_ hn0 h6 ((idx_left (by omega)).trans hc) (by rw [←e];exact hb) hlo hh,rfl⟩
  rw [drop_left _ (by omega)] at ha ⊢
  exact span_in isHx _ _ _ _ ha (by rw [List.length_drop];omega)
 | esp c h0 h1 hx hb h32 h126 hlt hdg=>exact ⟨.esp c ((idx_left (by omega)).trans h0) ((idx_left (by omega)).trans h1) hx hb h32 h126 hlt hdg,rfl⟩
 | bar c h0 h36 hi h64 h92 hf h1 h2 h3 hr=>
  obtain ⟨e1,e2⟩:=unit_move (B:=B) hl h3
  have hx:0<x.length:=by have:=uw_pos ⟨(x++A).toArray⟩ 0;omega
  rw [←hl,←e1,←e2]
  rw [←e2] at h1 h2 h3 hr
  exact ⟨.bar c ((idx_left hx).trans h0) h36 hi h64 h92 hE h1 h2 h3 hr,rfl⟩
theorem unit_word (u:Int) (hu:wd u≠0):0<(unitS u).data.toList.length∧TokS ((unitS u).data.toList++[]) true 1 (unitS u).data.toList.length u [] 0∧∀ L,pastN false ((unitS u).data.toList++L)=0:=by
 obtain ⟨e,-,-,h⟩:=unitS_spec u
 have hz:(unitS u).data.toList.length=(unitS u).size:=by rw [Array.length_toList];rfl
 rcases h with ⟨h,_⟩ | ⟨_,_,hs,hr⟩
 · exact absurd h hu
 · cases hr with
   | @step _ _ q k u l t n toks fa fe hq hlt hb h0 hl hr=>
    have hq0:pastN false (unitS u).data.toList=0:=by simpa using hq.symm
    have hx:(unitS u).extract 0 (unitS u).size=unitS u:=by simp
    rw [hx] at hb
    have hT:=hb.tokS (by unfold maxLen;omega) (by omega)
    have hT':TokS ((unitS u).data.toList++[]) true 1 (unitS u).data.toList.length u [] 0:=by
     rw [List.append_nil,hz]
     exact hT
    refine ⟨by omega,hT',fun L => ?_⟩
    cases hd:(unitS u).data.toList with
    | nil=>rw [hd] at hz;simp at hz;omega
    | cons c r=>
     rw [hd] at hq0
     rw [List.cons_append]
     unfold pastN at hq0 ⊢
     by_cases hw:isWs c=true
     · rw [if_pos hw] at hq0;omega
     · rw [if_neg hw] at hq0 ⊢
       by_cases h35:c.toNat=35
       · rw [if_pos h35] at hq0;omega
       · rw [if_neg h35]
theorem RunL.unit (u:Int) (hu:wd u≠0) {L:List UInt8} {fresh:Bool} {ts:List TW} (hE:fresh=true→endsB ⟨((unitS u).data.toList++L).toArray⟩=false) (h:RunL L false ts):RunL ((unitS u).data.toList++L) fresh (⟨1,u,⟨#[]⟩,0⟩::ts):=by
 obtain ⟨h1,h2,h3⟩:=unit_word u hu
 have hT:=(h2.moveU (B:=L) rfl rfl hE).1
 exact RunL.tok (t:=[]) (h3 L) h1 hT h
end Go.Proofs
namespace Go.Proofs
open Go.RowKit Go.Shelf
structure DecOf (u:Nat) (l:List UInt8):Prop where
 dg:∀ c∈l,isDg c=true
 val:val10 0 l=u
 len:∀ k,u<10 ^ (k+1)→l.length≤k+1
 hd:1≤u→l[0]? ≠ some 48
 pos:0<l.length
theorem dg_byte {d:Nat} (h:d<10):(UInt8.ofNat (48+d)).toNat=48+d:=by
 rw [UInt8.toNat_ofNat']
 omega
theorem isDg_byte {d:Nat} (h:d<10):isDg (UInt8.ofNat (48+d))=true:=by
 unfold isDg
 rw [dg_byte h]
 simp only [Bool.and_eq_true,decide_eq_true_eq]
 omega
theorem dec_of:∀ (n u:Nat),u≤n→DecOf u (Lib.decDigits u):=by
 intro n
 induction n with
 | zero=>
  intro u hu
  obtain rfl:u=0:=by omega
  rw [Lib.decDigits_one (by decide)]
  exact ⟨fun c hc=>by rw [List.mem_singleton.1 hc];exact isDg_byte (by decide),rfl,fun k _=>by simp,fun h=>by omega,by simp⟩
 | succ n ih=>
  intro u hu
  by_cases h10:u<10
  · rw [Lib.decDigits_one h10]
    refine ⟨fun c hc=>by rw [List.mem_singleton.1 hc];exact isDg_byte h10,?_,fun k _=>by simp,fun h e => ?_,by simp⟩
    · show 0*10+((UInt8.ofNat (48+u)).toNat - 48)=u
      rw [dg_byte h10]
      omega
    · simp only [List.getElem?_cons_zero,Option.some.injEq] at e
      have:=congrArg UInt8.toNat e
      rw [dg_byte h10] at this
      have h48:(48:UInt8).toNat=48:=rfl
      omega
  · have hI:=ih (u / 10) (by omega)
    rw [Lib.decDigits,dif_neg h10]
    have hm:u % 10<10:=Nat.mod_lt _ (by decide)
    refine ⟨fun c hc => ?_,?_,fun k hk => ?_,fun h => ?_,by simp⟩
    · rcases List.mem_append.1 hc with hc | hc
      · exact hI.dg c hc
      · rw [List.mem_singleton.1 hc]
        exact isDg_byte hm
    · rw [val10_snoc,hI.val,dg_byte hm]
      omega
    · cases k with
      | zero=>omega
      | succ k=>
       have:=hI.len k (by rw [Nat.pow_succ] at hk;omega)
       simp only [List.length_append,List.length_cons,List.length_nil]
       omega
    · rw [List.getElem?_append_left hI.pos]
      exact hI.hd (by omega)
theorem RunL.copy (v:Nat) (h1:1≤v) (h9:v≤999999999) {L:List UInt8} {fresh:Bool} {ts:List TW} (hL:∀ c,L[0]? = some c→isDg c=false) (h:RunL L false ts):RunL ((copyS (v:Int)).data.toList++L) fresh (⟨3,0,⟨#[]⟩,(v:Int)⟩::ts):=by
 have hD:=dec_of v v (Nat.le_refl v)
 have hc:(copyS (v:Int)).data.toList=64::Lib.decDigits v:=by
  unfold copyS
  rw [Lib.itoa_nonneg,ByteArray.data_append]
  simp
 rw [hc]
 generalize hd:Lib.decDigits v=ds at hD
 have hlen:=hD.len 8 (by omega)
 have hpos:=hD.pos
 have hs:spanN isDg (((64::ds)++L).drop 1)=ds.length:=span_word isDg ds L hD.dg hL
 have ht:(((64::ds)++L).drop 1).take ds.length=ds:=by
  show (ds++L).take ds.length=ds
  exact List.take_left
 have hval:=hD.val
 have hv:Lib.parseIntB 64 ds = .ok (v:Int):=by
  rw [int_val ds (fun e=>by rw [e] at hpos;exact absurd hpos (by decide)) hD.dg (by omega) (by omega),hval]
 have hT:TokS ((64::ds)++L) fresh 3 (1+ds.length) 0 [] v := .cpy ds.length v rfl hs hpos (by omega) (by
  rw [List.cons_append,List.getElem?_cons_succ,List.getElem?_append_left hpos]
  exact hD.hd h1) (by rw [ht];exact hv)
 have hz:(64::ds:List UInt8).length=1+ds.length:=by simp;omega
 rw [←hz] at hT
 exact RunL.tok (w:=64::ds) (t:=[]) (pastN_stop (by decide) (by decide) _) (by simp) hT h
end Go.Proofs
