/-
  Several texts in one (Xhp Shelf2p Pap).
-/
import Derived.Shelf.Abstract
import Derived.Shelf.RegionOpen
import Derived.WalkKit
import Derived.WalkSpells
import Derived.WalkLawsBesides
import Derived.BigQuiet
import Derived.Deep.QuietTactic
import Derived.Deep.LoopGhost
import Derived.Lib.OthersKept
import Derived.ScopeJumps
import Derived.WalkMore
import Derived.Maps.AppendAt
import Derived.Lib.SmallJoins
import Derived.Test.YtknaoahokopplaaGreatDoorMgcp
import Derived.Shelf.LaysM
import Derived.Shelf.LaysC
import Derived.Shelf.Strconv.Lower
import Derived.Shelf.Strconv.ParseIntPublic10
import Derived.Test.YtknaoahokopplaaGreatDoorProg
import Derived.Lib.IndexBytes
namespace Go.Proofs
open Go.RowKit Go.Shelf
set_option maxRecDepth 100000
attribute [local go_sem] Oper.semAt_some
def endsB (s:ByteArray):Bool:=Lib.hasPrefix s.data.toList [116,104,101,110] && decide (s.data.toList[4+pastN false (s.data.toList.drop 4)]? = some 59)
theorem pre_len {l p:List UInt8} (h:Lib.hasPrefix l p=true):p.length≤l.length:=by
 rw [←Lib.hasPrefix_of_take] at h
 simp only [Bool.and_eq_true,decide_eq_true_eq] at h
 exact h.1
set_option maxHeartbeats 1000000 in
theorem ends_any (s:ByteArray) (w:World) (hs:s.size≤maxLen):Calls Tryz.prog 92 #[.string s] w fun e w'=>e = .returned (.bool (endsB s))∧w'=w:=by
 unfold endsB
 cases hp:Lib.hasPrefix s.data.toList [116,104,101,110]
 · rw [Bool.false_and]
   go_enter Tryz.func92,Tryz.ntmps92
   go_wp2_with (go_at_call 88;refine (Tryz.strings_HasPrefix _ _ _).mono ?_;rintro e w' ⟨rfl,rfl⟩;rw [show (⟨#[116,104,101,110]⟩:ByteArray).data.toList=[116,104,101,110] from rfl,hp])
   go_ret
   exact ⟨rfl,rfl⟩
 · rw [Bool.true_and]
   have h4:4≤s.size:=by have:=pre_len hp;simpa using this
   have HP:Hid (Calls Tryz.prog 46 #[.string s,.int .i64 (4:Nat)] w fun e w'=>e = .returned (.int .i64 (4+pastN false (s.data.toList.drop 4):Nat))∧w'=w):=past_any s 4 w hs h4
   have hle:4+pastN false (s.data.toList.drop 4)≤s.size:=by
    have:=pastN_le false (s.data.toList.drop 4)
    simp at this
    omega
   generalize 4+pastN false (s.data.toList.drop 4)=q at HP hle ⊢
   by_cases hq:q<s.size
   · have hqi:(q:Int)<(s.size:Int):=by omega
     have hg:s.data.toList[q]? = some s[q]:=by
      rw [List.getElem?_eq_getElem (by simpa using hq)];rfl
     rw [hg]
     go_enter Tryz.func92,Tryz.ntmps92
     go_wp2_with (first | (go_at_call 88;refine (Tryz.strings_HasPrefix _ _ _).mono ?_;rintro e w' ⟨rfl,rfl⟩;rw [show (⟨#[116,104,101,110]⟩:ByteArray).data.toList=[116,104,101,110] from rfl,hp]) | (go_at_call 46;refine HP.out.mono ?_;rintro e w' ⟨rfl,rfl⟩))
     go_ret
     refine ⟨?_,rfl⟩
     show Ending.returned (.bool ((s[q].toNat:Int) == 59))=_
     congr 2
     rw [Bool.eq_iff_iff]
     simp only [beq_iff_eq,decide_eq_true_eq,Option.some.injEq]
     constructor
     · intro h
       apply UInt8.toNat_inj.1
       have:s[q].toNat=59:=by omega
       rw [this];rfl
     · intro h;rw [h];rfl
   · have hqi:decide ((q:Int)<(s.size:Int))=false:=by simp;omega
     have hqn:¬ (q<s.size):=hq
     have hg:s.data.toList[q]? = none:=by
      rw [List.getElem?_eq_none];simpa using hq
     rw [hg]
     go_enter Tryz.func92,Tryz.ntmps92
     go_wp2_with (first | (go_at_call 88;refine (Tryz.strings_HasPrefix _ _ _).mono ?_;rintro e w' ⟨rfl,rfl⟩;rw [show (⟨#[116,104,101,110]⟩:ByteArray).data.toList=[116,104,101,110] from rfl,hp]) | (go_at_call 46;refine HP.out.mono ?_;rintro e w' ⟨rfl,rfl⟩))
     go_ret
     exact ⟨rfl,rfl⟩
set_option maxHeartbeats 1000000 in
theorem first_bare2 (s:ByteArray) (k a l u:Int) (t:ByteArray) (n e0:Int) (hs:s.size≤maxLen) (h1:0<s.size) (hc:s[0].toNat≠36) (hp:Lib.hasPrefix s.data.toList [91,58]=false) (hi:Lib.indexByte sgnL s[0] = -1) (h64:s[0].toNat≠64) (h92:s[0].toNat≠92) (he:endsB s=false) (hv:Tells 93 #[.string s] k a l u t n e0):Tells 47 #[.string s,.bool true] k a l u t n e0:=by
 intro w
 have HV:Hid (Tells 93 #[.string s] k a l u t n e0):=hv
 clear hv
 have h1i:(1:Int)≤(s.size:Int):=by omega
 go_enter Tryz.func47,Tryz.ntmps47
 go_wp2_with (first | (go_at_call 84;refine (Tryz.strings_IndexByte _ _ _).mono ?_;rintro e w' ⟨rfl,rfl⟩;rw [show (⟨#[62,59,123,125,124,94,36,46,91,93,45,61,58]⟩:ByteArray).data.toList=sgnL from rfl,show (Int.toNat (s[0].toNat:Int)).toUInt8=s[0] by simp,hi]) | (go_at_call 88;refine (Tryz.strings_HasPrefix _ _ _).mono ?_;rintro e w' ⟨rfl,rfl⟩;rw [show (⟨#[91,58]⟩:ByteArray).data.toList=[91,58] from rfl,hp]) | (go_at_call 92;refine (ends_any _ _ hs).mono ?_;rintro e w' ⟨rfl,rfl⟩;rw [he]))
 refine (HV.out _).mono ?_
 rintro e w2 ⟨rfl,hb2⟩
 have HT2:=(TB.new w 0 0 0 0 ⟨#[]⟩ 0).below hb2 (by simp)
 have HB2:Below w.heap.size w w2:=((Below.refl _ w).alloc (Nat.le_refl _) _).trans (hb2.mono (by simp))
 obtain ⟨c0,c1,c2,c3,c4,c5⟩:=HT2.cells
 obtain ⟨f0,f1,f2,f3,f4,f5⟩:=HT2.frozen
 clear hb2
 go_wp2
 exact ret_tk rfl rfl rfl (HT2.set k a l u t n) ⟨rfl,below_set6 HB2 (Nat.le_refl _) _ _ _ _ _ _⟩
end Go.Proofs
namespace Go.Proofs
open Go.Shelf
def Tryz.lays321_ren:Go.Shelf.Ren:=⟨fun | 321=>205 | n=>n,fun | 5=>5 | n=>n,fun | n=>n⟩
theorem Tryz.lays321:Go.Proofs.Lays.n321 Tryz.prog Tryz.lays321_ren := {
 mixed:=by kernel_rfl
 f321:=Tryz.func205.trans (congrArg some (by kernel_rfl))
 t5:=Tryz.underlying5
 a5:=Tryz.isAgg5
 z5:=Tryz.sizeOf5
 v5:=Tryz.zeroValue5 }
open Go.RowKit in
theorem Tryz.internal_strconv_lower (c:Int) (w:World) :
 Calls Tryz.prog 205 #[.int .u8 c] w fun e w'=>e = .returned (.int .u8 (bits .or .u8 c 32))∧w'=w:=Any.internal_strconv_lower Tryz.lays321 c w
end Go.Proofs
namespace Go.Proofs
open Go.RowKit Go.Shelf
set_option maxRecDepth 100000
attribute [local go_sem] Oper.semAt_some
def hdv (c:UInt8):Nat:=if c.toNat≤57 then c.toNat - 48 else if 97≤c.toNat then c.toNat - 87 else c.toNat - 55
def valH (l:List UInt8):Nat:=l.foldl (fun n c=>n*16+hdv c) 0
theorem valH_snoc (l:List UInt8) (c:UInt8):valH (l++[c])=valH l*16+hdv c:=by simp [valH]
theorem hdv_lt {c:UInt8} (h:isHx c=true):hdv c<16:=by
 simp [isHx,isDg] at h
 unfold hdv
 split
 · omega
 · split <;> omega
theorem fold_lt:∀ (l:List UInt8) (n:Nat),(∀ c∈l,isHx c=true)→l.foldl (fun n c=>n*16+hdv c) n<(n+1)*16 ^ l.length
 | [],n,_=>by simp
 | c::l,n,h=>by
  have h1:=fold_lt l (n*16+hdv c) (fun x hx=>h x (by simp [hx]))
  have h2:=hdv_lt (h c (by simp))
  rw [List.foldl_cons,List.length_cons,Nat.pow_succ]
  refine Nat.lt_of_lt_of_le h1 ?_
  have:(n*16+hdv c+1)≤(n+1)*16:=by omega
  calc (n*16+hdv c+1)*16 ^ l.length≤((n+1)*16)*16 ^ l.length:=Nat.mul_le_mul_right _ this
   _=(n+1)*(16 ^ l.length*16):=by rw [Nat.mul_assoc,Nat.mul_comm 16]
theorem valH_lt (l:List UInt8) (h:∀ c∈l,isHx c=true):valH l<16 ^ l.length:=by
 have:=fold_lt l 0 h
 simpa [valH] using this
theorem lower_dig:∀ n:Fin 256,((97≤n.val∧n.val≤102)→bits BinOp.or IntKind.u8 (n.val:Int) 32=(n.val:Int))∧((65≤n.val∧n.val≤70)→bits BinOp.or IntKind.u8 (n.val:Int) 32=((n.val+32:Nat):Int)):=by decide +kernel
theorem lower_at (c:UInt8) (hx:isHx c=true) (h9:57<c.toNat):bits BinOp.or IntKind.u8 (c.toNat:Int) 32=((hdv c+87:Nat):Int)∧10≤hdv c:=by
 have h:=lower_dig ⟨c.toNat,c.toNat_lt⟩
 simp [isHx,isDg] at hx
 have hx':(97≤c.toNat∧c.toNat≤102)∨(65≤c.toNat∧c.toNat≤70):=by omega
 rcases hx' with hx' | hx'
 · have e:hdv c=c.toNat - 87:=by unfold hdv;rw [if_neg (by omega),if_pos (by omega)]
   rw [e]
   refine ⟨(h.1 hx').trans ?_,by omega⟩
   show ((c.toNat:Nat):Int)=_
   omega
 · have e:hdv c=c.toNat - 55:=by unfold hdv;rw [if_neg (by omega),if_neg (by omega)]
   rw [e]
   refine ⟨(h.2 hx').trans ?_,by omega⟩
   show ((c.toNat+32:Nat):Int)=_
   omega
set_option maxHeartbeats 1000000 in
theorem puint_any (t:ByteArray) (w:World) (h0:0<t.size) (h6:t.size≤6) (hx:∀ c∈t.data.toList,isHx c=true) :
 Calls Tryz.prog 194 #[.string t,.int .i64 16,.int .i64 64] w fun e w'=>e = .returned (.tuple #[.int .u64 (valH t.data.toList),.nilIface])∧Below w.heap.size w w':=by
 have HX:Hid (∀ c∈t.data.toList,isHx c=true):=hx
 have hne:t.toList.isEmpty=false:=by
  rw [Lib.toList_data]
  cases hL:t.data.toList with
  | nil=>
   have:t.size=0:=by
    show t.data.size=0
    rw [←Array.length_toList,hL];rfl
   omega
  | cons a l=>rfl
 clear hx
 have hcv:=fun W=>Lib.run_convert_string_bytes (P:=Tryz.prog) W 9 50 5 t (u := .string) Tryz.underlying9 Tryz.underlying50 Tryz.underlying5
 obtain ⟨r,hr⟩:∃ r,valH t.data.toList=r:=⟨_,rfl⟩
 have HR:Hid (valH t.data.toList=r):=hr
 rw [hr]
 clear hr
 have hmv:IntKind.u64.wrap (IntKind.u64.wrap 18446744073709551616 - 1)=18446744073709551615:=by decide +kernel
 go_enter Tryz.func194,Tryz.ntmps194
 go_wp2_with fail
 go_loopw [12,13,101] (fun vu vn vi wr=>vu = .bool false∧∃ k:Nat,vi = .int .i64 k∧k≤t.size∧vn = .int .u64 (valH (t.data.toList.take k))∧Hid (wr=Lib.bytesWorld w 5 t)) (fun _ _ vi _=>t.size - (intOf vi).toNat)
 case atStart=>exact ⟨rfl,0,rfl,by omega,rfl,rfl⟩
 case round=>
  obtain ⟨rfl,k,rfl,hk,rfl,hw⟩:=hrel
  by_cases hkn:k<t.size
  · have hc:wr.cell? ⟨w.heap.size,k,none⟩=some (.int .u8 (t.data.toList.getD k 0).toNat):=by rw [hw.out];exact Lib.bytesWorld_cell _ _ _ _ hkn
    have hki:(k:Int)<(t.size:Int):=by omega
    obtain ⟨c,hcc⟩:∃ c,t.data.toList.getD k 0=c:=⟨_,rfl⟩
    have hkl:k<t.data.toList.length:=by simpa using hkn
    have hget:t.data.toList[k]=c:=by rw [←hcc];simp [List.getD,List.getElem?_eq_getElem hkl]
    have hx:=HX.out c (by rw [←hget];exact List.getElem_mem hkl)
    have HS:Hid (valH (t.data.toList.take (k+1))=valH (t.data.toList.take k)*16+hdv c):=by
     show _=_
     rw [List.take_succ_eq_append_getElem hkl,valH_snoc,hget]
    have hlt:valH (t.data.toList.take k)<16777216:=by
     have h1:=valH_lt (t.data.toList.take k) (fun x hx=>HX.out x (List.mem_of_mem_take hx))
     rw [List.length_take] at h1
     have:16 ^ (min k t.data.toList.length)≤16 ^ 6:=Nat.pow_le_pow_right (by omega) (by omega)
     omega
    rw [hcc] at hc
    generalize valH (t.data.toList.take k)=m at hlt HS ⊢
    have hd16:=hdv_lt hx
    have hcut:decide ((1152921504606846976:Int)≤(m:Int))=false:=by simp;omega
    have hwm:IntKind.u64.wrap ((m:Int)*16)=(m:Int)*16:=by simp [IntKind.wrap,IntKind.signed,IntKind.bits];omega
    clear hcc hget hkl
    by_cases h9:c.toNat≤57
    · have h9i:(c.toNat:Int)≤57:=by omega
      have h48:(48:Int)≤(c.toNat:Int):=by simp [isHx,isDg] at hx;omega
      have hv:hdv c=c.toNat - 48:=by unfold hdv;rw [if_pos h9]
      have hne95:((c.toNat:Int) == 95)=false:=by simp;omega
      obtain ⟨d,hd⟩:∃ d:Nat,(c.toNat:Int) - 48=d:=⟨c.toNat - 48,by omega⟩
      have hd2:hdv c=d:=by omega
      have hw8:IntKind.u8.wrap ((c.toNat:Int) - 48)=(d:Int):=by rw [hd];simp [IntKind.wrap,IntKind.signed,IntKind.bits];omega
      have hdlt:(d:Int)<16:=by omega
      have hmx:decide ((18446744073709551615:Int)<(m:Int)*16+(d:Int))=false:=by simp;omega
      go_wp2_with fail
      refine ⟨⟨rfl,k+1,by go_num,by omega,?_,hw⟩,by simp [intOf];omega⟩
      rw [HS.out,hd2];simp
    · have h9i:(57:Int)<(c.toNat:Int):=by omega
      have h9d:decide ((c.toNat:Int)≤57)=false:=by simp;omega
      have h48:(48:Int)≤(c.toNat:Int):=by omega
      obtain ⟨hlo,hd10⟩:=lower_at c hx (by omega)
      have hne95:((c.toNat:Int) == 95)=false:=by simp [isHx,isDg] at hx;simp;omega
      obtain ⟨d,hd⟩:∃ d:Nat,hdv c=d:=⟨_,rfl⟩
      rw [hd] at hlo hd16 hd10
      have hlo2:bits BinOp.or IntKind.u8 (c.toNat:Int) 32=(d:Int)+87:=by rw [hlo];simp
      have hl97:(97:Int)≤(d:Int)+87:=by omega
      have hl122:(d:Int)+87≤122:=by omega
      have hw8a:IntKind.u8.wrap ((d:Int)+87 - 97)=(d:Int) - 10:=by simp [IntKind.wrap,IntKind.signed,IntKind.bits];omega
      have hw8:IntKind.u8.wrap ((d:Int) - 10+10)=(d:Int):=by simp [IntKind.wrap,IntKind.signed,IntKind.bits];omega
      have hdlt:(d:Int)<16:=by omega
      have hmx:decide ((18446744073709551615:Int)<(m:Int)*16+(d:Int))=false:=by simp;omega
      clear hlo
      go_wp2_with (go_at_call 205;refine (Tryz.internal_strconv_lower _ _).mono ?_;rintro e w' ⟨rfl,rfl⟩;rw [hlo2])
      refine ⟨⟨rfl,k+1,by go_num,by omega,?_,hw⟩,by simp [intOf];omega⟩
      rw [HS.out,hd];simp
  · obtain rfl:k=t.size:=by omega
    have HE:Hid (t.data.toList.take t.size=t.data.toList):=List.take_of_length_le (by simp)
    rw [HE.out,HR.out]
    have HB:Hid (Below w.heap.size w wr):=by
     rw [hw.out]
     exact ⟨rfl,rfl,rfl,by rw [Lib.bytesWorld_size];omega,fun k hk=>Lib.bytesWorld_at_old _ _ _ _ hk⟩
    clear hw HE HR
    go_wp2_with fail
    go_ret2
    exact ⟨rfl,HB.out⟩
set_option maxHeartbeats 1000000 in
theorem pintI_any (t:ByteArray) (w:World) (h0:0<t.size) (h6:t.size≤6) (hx:∀ c∈t.data.toList,isHx c=true) :
 Calls Tryz.prog 176 #[.string t,.int .i64 16,.int .i64 64] w fun e w'=>e = .returned (.tuple #[.int .i64 (valH t.data.toList),.nilIface])∧Below w.heap.size w w':=by
 have HC:Hid (∀ W:World,Calls Tryz.prog 194 #[.string t,.int .i64 16,.int .i64 64] W fun e w'=>e = .returned (.tuple #[.int .u64 (valH t.data.toList),.nilIface])∧Below W.heap.size W w'):=fun W=>puint_any t W h0 h6 hx
 have hne:t.toList.isEmpty=false:=by
  rw [Lib.toList_data]
  cases hL:t.data.toList with
  | nil=>
   have:t.size=0:=by
    show t.data.size=0
    rw [←Array.length_toList,hL];rfl
   omega
  | cons a l=>rfl
 have hfx:isHx t[0]=true:=hx _ (by
  have:t[0]=t.data.toList[0]'(by simpa using h0):=rfl
  rw [this];exact List.getElem_mem _)
 have h43:((t[0].toNat:Int) == 43)=false:=by simp [isHx,isDg] at hfx;simp;omega
 have h45:((t[0].toNat:Int) == 45)=false:=by simp [isHx,isDg] at hfx;simp;omega
 have h0i:(0:Int)<(t.size:Int):=by omega
 have hlt:valH t.data.toList<16777216:=by
  have h1:=valH_lt t.data.toList hx
  have:16 ^ t.data.toList.length≤16 ^ 6:=Nat.pow_le_pow_right (by omega) (by simpa using h6)
  omega
 generalize valH t.data.toList=m at HC hlt ⊢
 have hsh:IntKind.u64.wrap 9223372036854775808=9223372036854775808:=by decide +kernel
 have hcut:decide ((9223372036854775808:Int)≤(m:Int))=false:=by simp;omega
 have hwm:IntKind.i64.wrap (m:Int)=(m:Int):=by simp [IntKind.wrap,IntKind.signed,IntKind.bits];omega
 clear hx hfx
 go_enter Tryz.func176,Tryz.ntmps176
 go_wp2_with fail
 refine (HC.out _).mono ?_
 rintro e w1 ⟨rfl,hb⟩
 go_wp2
 go_ret2
 exact ⟨rfl,hb⟩
set_option maxHeartbeats 1000000 in
theorem pint_any (t:ByteArray) (w:World) (h0:0<t.size) (h6:t.size≤6) (hx:∀ c∈t.data.toList,isHx c=true) :
 Calls Tryz.prog 156 #[.string t,.int .i64 16,.int .i64 64] w fun e w'=>e = .returned (.tuple #[.int .i64 (valH t.data.toList),.nilIface])∧Below w.heap.size w w':=by
 have HC:Hid (∀ W:World,Calls Tryz.prog 176 #[.string t,.int .i64 16,.int .i64 64] W fun e w'=>e = .returned (.tuple #[.int .i64 (valH t.data.toList),.nilIface])∧Below W.heap.size W w'):=fun W=>pintI_any t W h0 h6 hx
 generalize valH t.data.toList=m at HC ⊢
 go_enter Tryz.func156,Tryz.ntmps156
 go_wp2_with fail
 refine (HC.out _).mono ?_
 rintro e w1 ⟨rfl,hb⟩
 go_wp2
 go_ret2
 exact ⟨rfl,hb⟩
set_option maxHeartbeats 1000000 in
theorem number16_any (t:ByteArray) (w:World) (h0:0<t.size) (h6:t.size≤6) (hx:∀ c∈t.data.toList,isHx c=true) :
 Calls Tryz.prog 131 #[.string t,.int .i64 16] w fun e w'=>e = .returned (.int .i64 (valH t.data.toList))∧Below w.heap.size w w':=by
 have HC:Hid (∀ W:World,Calls Tryz.prog 156 #[.string t,.int .i64 16,.int .i64 64] W fun e w'=>e = .returned (.tuple #[.int .i64 (valH t.data.toList),.nilIface])∧Below W.heap.size W w'):=fun W=>pint_any t W h0 h6 hx
 generalize valH t.data.toList=m at HC ⊢
 go_enter Tryz.func131,Tryz.ntmps131
 go_wp2_with fail
 refine (HC.out _).mono ?_
 rintro e w1 ⟨rfl,hb⟩
 go_wp2
 go_ret
 exact ⟨rfl,hb⟩
end Go.Proofs
