/-
  Several texts in one (Pak Bak Esk).
-/
import Derived.Shelf.Abstract
import Derived.Shelf.RegionOpen
import Derived.WalkKit
import Derived.WalkSpells
import Derived.WalkLawsBesides
import Derived.BigQuiet
import Derived.Deep.QuietTactic
import Derived.Deep.LoopGhost
import Derived.Lib.OthersKept
import Derived.ScopeJumps
import Derived.WalkMore
import Derived.Maps.AppendAt
import Derived.Lib.SmallJoins
import Derived.Lib.IndexBytes
import Derived.Test.YtknaoahokopplaaGreatDoorMgek
namespace Go.Proofs
open Go.RowKit Go.Shelf
set_option maxRecDepth 100000
attribute [local go_sem] Oper.semAt_some
def hdv (c:UInt8):Nat:=if c.toNat≤57 then c.toNat - 48 else if 97≤c.toNat then c.toNat - 87 else c.toNat - 55
def valH (l:List UInt8):Nat:=l.foldl (fun n c=>n*16+hdv c) 0
theorem valH_snoc (l:List UInt8) (c:UInt8):valH (l++[c])=valH l*16+hdv c:=by simp [valH]
theorem hdv_lt {c:UInt8} (h:isHx c=true):hdv c<16:=by
 simp [isHx,isDg] at h
 unfold hdv
 split
 · omega
 · split <;> omega
theorem fold_lt:∀ (l:List UInt8) (n:Nat),(∀ c∈l,isHx c=true)→l.foldl (fun n c=>n*16+hdv c) n<(n+1)*16 ^ l.length
 | [],n,_=>by simp
 | c::l,n,h=>by
  have h1:=fold_lt l (n*16+hdv c) (fun x hx=>h x (by simp [hx]))
  have h2:=hdv_lt (h c (by simp))
  rw [List.foldl_cons,List.length_cons,Nat.pow_succ]
  refine Nat.lt_of_lt_of_le h1 ?_
  have:(n*16+hdv c+1)≤(n+1)*16:=by omega
  calc (n*16+hdv c+1)*16 ^ l.length≤((n+1)*16)*16 ^ l.length:=Nat.mul_le_mul_right _ this
   _=(n+1)*(16 ^ l.length*16):=by rw [Nat.mul_assoc,Nat.mul_comm 16]
theorem valH_lt (l:List UInt8) (h:∀ c∈l,isHx c=true):valH l<16 ^ l.length:=by
 have:=fold_lt l 0 h
 simpa [valH] using this
theorem lower_dig:∀ n:Fin 256,((97≤n.val∧n.val≤102)→bits BinOp.or IntKind.u8 (n.val:Int) 32=(n.val:Int))∧((65≤n.val∧n.val≤70)→bits BinOp.or IntKind.u8 (n.val:Int) 32=((n.val+32:Nat):Int)):=by decide +kernel
theorem lower_at (c:UInt8) (hx:isHx c=true) (h9:57<c.toNat):bits BinOp.or IntKind.u8 (c.toNat:Int) 32=((hdv c+87:Nat):Int)∧10≤hdv c:=by
 have h:=lower_dig ⟨c.toNat,c.toNat_lt⟩
 simp [isHx,isDg] at hx
 have hx':(97≤c.toNat∧c.toNat≤102)∨(65≤c.toNat∧c.toNat≤70):=by omega
 rcases hx' with hx' | hx'
 · have e:hdv c=c.toNat - 87:=by unfold hdv;rw [if_neg (by omega),if_pos (by omega)]
   rw [e]
   refine ⟨(h.1 hx').trans ?_,by omega⟩
   show ((c.toNat:Nat):Int)=_
   omega
 · have e:hdv c=c.toNat - 55:=by unfold hdv;rw [if_neg (by omega),if_neg (by omega)]
   rw [e]
   refine ⟨(h.2 hx').trans ?_,by omega⟩
   show ((c.toNat+32:Nat):Int)=_
   omega
set_option maxHeartbeats 1000000 in
theorem puint_any (t:ByteArray) (w:World) (h0:0<t.size) (h6:t.size≤6) (hx:∀ c∈t.data.toList,isHx c=true) :
 Calls Tryz.prog 194 #[.string t,.int .i64 16,.int .i64 64] w fun e w'=>e = .returned (.tuple #[.int .u64 (valH t.data.toList),.nilIface])∧Below w.heap.size w w':=by
 have HX:Hid (∀ c∈t.data.toList,isHx c=true):=hx
 have hne:t.toList.isEmpty=false:=by
  rw [Lib.toList_data]
  cases hL:t.data.toList with
  | nil=>
   have:t.size=0:=by
    show t.data.size=0
    rw [←Array.length_toList,hL];rfl
   omega
  | cons a l=>rfl
 clear hx
 have hcv:=fun W=>Lib.run_convert_string_bytes (P:=Tryz.prog) W 9 50 5 t (u := .string) Tryz.underlying9 Tryz.underlying50 Tryz.underlying5
 obtain ⟨r,hr⟩:∃ r,valH t.data.toList=r:=⟨_,rfl⟩
 have HR:Hid (valH t.data.toList=r):=hr
 rw [hr]
 clear hr
 have hmv:IntKind.u64.wrap (IntKind.u64.wrap 18446744073709551616 - 1)=18446744073709551615:=by decide +kernel
 go_enter Tryz.func194,Tryz.ntmps194
 go_wp2_with fail
 go_loopw [12,13,101] (fun vu vn vi wr=>vu = .bool false∧∃ k:Nat,vi = .int .i64 k∧k≤t.size∧vn = .int .u64 (valH (t.data.toList.take k))∧Hid (wr=Lib.bytesWorld w 5 t)) (fun _ _ vi _=>t.size - (intOf vi).toNat)
 case atStart=>exact ⟨rfl,0,rfl,by omega,rfl,rfl⟩
 case round=>
  obtain ⟨rfl,k,rfl,hk,rfl,hw⟩:=hrel
  by_cases hkn:k<t.size
  · have hc:wr.cell? ⟨w.heap.size,k,none⟩=some (.int .u8 (t.data.toList.getD k 0).toNat):=by rw [hw.out];exact Lib.bytesWorld_cell _ _ _ _ hkn
    have hki:(k:Int)<(t.size:Int):=by omega
    obtain ⟨c,hcc⟩:∃ c,t.data.toList.getD k 0=c:=⟨_,rfl⟩
    have hkl:k<t.data.toList.length:=by simpa using hkn
    have hget:t.data.toList[k]=c:=by rw [←hcc];simp [List.getD,List.getElem?_eq_getElem hkl]
    have hx:=HX.out c (by rw [←hget];exact List.getElem_mem hkl)
    have HS:Hid (valH (t.data.toList.take (k+1))=valH (t.data.toList.take k)*16+hdv c):=by
     show _=_
     rw [List.take_succ_eq_append_getElem hkl,valH_snoc,hget]
    have hlt:valH (t.data.toList.take k)<16777216:=by
     have h1:=valH_lt (t.data.toList.take k) (fun x hx=>HX.out x (List.mem_of_mem_take hx))
     rw [List.length_take] at h1
     have:16 ^ (min k t.data.toList.length)≤16 ^ 6:=Nat.pow_le_pow_right (by omega) (by omega)
     omega
    rw [hcc] at hc
    generalize valH (t.data.toList.take k)=m at hlt HS ⊢
    have hd16:=hdv_lt hx
    have hcut:decide ((1152921504606846976:Int)≤(m:Int))=false:=by simp;omega
    have hwm:IntKind.u64.wrap ((m:Int)*16)=(m:Int)*16:=by simp [IntKind.wrap,IntKind.signed,IntKind.bits];omega
    clear hcc hget hkl
    by_cases h9:c.toNat≤57
    · have h9i:(c.toNat:Int)≤57:=by omega
      have h48:(48:Int)≤(c.toNat:Int):=by simp [isHx,isDg] at hx;omega
      have hv:hdv c=c.toNat - 48:=by unfold hdv;rw [if_pos h9]
      have hne95:((c.toNat:Int) == 95)=false:=by simp;omega
      obtain ⟨d,hd⟩:∃ d:Nat,(c.toNat:Int) - 48=d:=⟨c.toNat - 48,by omega⟩
      have hd2:hdv c=d:=by omega
      have hw8:IntKind.u8.wrap ((c.toNat:Int) - 48)=(d:Int):=by rw [hd];simp [IntKind.wrap,IntKind.signed,IntKind.bits];omega
      have hdlt:(d:Int)<16:=by omega
      have hmx:decide ((18446744073709551615:Int)<(m:Int)*16+(d:Int))=false:=by simp;omega
      go_wp2_with fail
      refine ⟨⟨rfl,k+1,by go_num,by omega,?_,hw⟩,by simp [intOf];omega⟩
      rw [HS.out,hd2];simp
    · have h9i:(57:Int)<(c.toNat:Int):=by omega
      have h9d:decide ((c.toNat:Int)≤57)=false:=by simp;omega
      have h48:(48:Int)≤(c.toNat:Int):=by omega
      obtain ⟨hlo,hd10⟩:=lower_at c hx (by omega)
      have hne95:((c.toNat:Int) == 95)=false:=by simp [isHx,isDg] at hx;simp;omega
      obtain ⟨d,hd⟩:∃ d:Nat,hdv c=d:=⟨_,rfl⟩
      rw [hd] at hlo hd16 hd10
      have hlo2:bits BinOp.or IntKind.u8 (c.toNat:Int) 32=(d:Int)+87:=by rw [hlo];simp
      have hl97:(97:Int)≤(d:Int)+87:=by omega
      have hl122:(d:Int)+87≤122:=by omega
      have hw8a:IntKind.u8.wrap ((d:Int)+87 - 97)=(d:Int) - 10:=by simp [IntKind.wrap,IntKind.signed,IntKind.bits];omega
      have hw8:IntKind.u8.wrap ((d:Int) - 10+10)=(d:Int):=by simp [IntKind.wrap,IntKind.signed,IntKind.bits];omega
      have hdlt:(d:Int)<16:=by omega
      have hmx:decide ((18446744073709551615:Int)<(m:Int)*16+(d:Int))=false:=by simp;omega
      clear hlo
      go_wp2_with (go_at_call 205;refine (Tryz.internal_strconv_lower _ _).mono ?_;rintro e w' ⟨rfl,rfl⟩;rw [hlo2])
      refine ⟨⟨rfl,k+1,by go_num,by omega,?_,hw⟩,by simp [intOf];omega⟩
      rw [HS.out,hd];simp
  · obtain rfl:k=t.size:=by omega
    have HE:Hid (t.data.toList.take t.size=t.data.toList):=List.take_of_length_le (by simp)
    rw [HE.out,HR.out]
    have HB:Hid (Below w.heap.size w wr):=by
     rw [hw.out]
     exact ⟨rfl,rfl,rfl,by rw [Lib.bytesWorld_size];omega,fun k hk=>Lib.bytesWorld_at_old _ _ _ _ hk⟩
    clear hw HE HR
    go_wp2_with fail
    go_ret2
    exact ⟨rfl,HB.out⟩
set_option maxHeartbeats 1000000 in
theorem pintI_any (t:ByteArray) (w:World) (h0:0<t.size) (h6:t.size≤6) (hx:∀ c∈t.data.toList,isHx c=true) :
 Calls Tryz.prog 176 #[.string t,.int .i64 16,.int .i64 64] w fun e w'=>e = .returned (.tuple #[.int .i64 (valH t.data.toList),.nilIface])∧Below w.heap.size w w':=by
 have HC:Hid (∀ W:World,Calls Tryz.prog 194 #[.string t,.int .i64 16,.int .i64 64] W fun e w'=>e = .returned (.tuple #[.int .u64 (valH t.data.toList),.nilIface])∧Below W.heap.size W w'):=fun W=>puint_any t W h0 h6 hx
 have hne:t.toList.isEmpty=false:=by
  rw [Lib.toList_data]
  cases hL:t.data.toList with
  | nil=>
   have:t.size=0:=by
    show t.data.size=0
    rw [←Array.length_toList,hL];rfl
   omega
  | cons a l=>rfl
 have hfx:isHx t[0]=true:=hx _ (by
  have:t[0]=t.data.toList[0]'(by simpa using h0):=rfl
  rw [this];exact List.getElem_mem _)
 have h43:((t[0].toNat:Int) == 43)=false:=by simp [isHx,isDg] at hfx;simp;omega
 have h45:((t[0].toNat:Int) == 45)=false:=by simp [isHx,isDg] at hfx;simp;omega
 have h0i:(0:Int)<(t.size:Int):=by omega
 have hlt:valH t.data.toList<16777216:=by
  have h1:=valH_lt t.data.toList hx
  have:16 ^ t.data.toList.length≤16 ^ 6:=Nat.pow_le_pow_right (by omega) (by simpa using h6)
  omega
 generalize valH t.data.toList=m at HC hlt ⊢
 have hsh:IntKind.u64.wrap 9223372036854775808=9223372036854775808:=by decide +kernel
 have hcut:decide ((9223372036854775808:Int)≤(m:Int))=false:=by simp;omega
 have hwm:IntKind.i64.wrap (m:Int)=(m:Int):=by simp [IntKind.wrap,IntKind.signed,IntKind.bits];omega
 clear hx hfx
 go_enter Tryz.func176,Tryz.ntmps176
 go_wp2_with fail
 refine (HC.out _).mono ?_
 rintro e w1 ⟨rfl,hb⟩
 go_wp2
 go_ret2
 exact ⟨rfl,hb⟩
set_option maxHeartbeats 1000000 in
theorem pint_any (t:ByteArray) (w:World) (h0:0<t.size) (h6:t.size≤6) (hx:∀ c∈t.data.toList,isHx c=true) :
 Calls Tryz.prog 156 #[.string t,.int .i64 16,.int .i64 64] w fun e w'=>e = .returned (.tuple #[.int .i64 (valH t.data.toList),.nilIface])∧Below w.heap.size w w':=by
 have HC:Hid (∀ W:World,Calls Tryz.prog 176 #[.string t,.int .i64 16,.int .i64 64] W fun e w'=>e = .returned (.tuple #[.int .i64 (valH t.data.toList),.nilIface])∧Below W.heap.size W w'):=fun W=>pintI_any t W h0 h6 hx
 generalize valH t.data.toList=m at HC ⊢
 go_enter Tryz.func156,Tryz.ntmps156
 go_wp2_with fail
 refine (HC.out _).mono ?_
 rintro e w1 ⟨rfl,hb⟩
 go_wp2
 go_ret2
 exact ⟨rfl,hb⟩
set_option maxHeartbeats 1000000 in
theorem number16_any (t:ByteArray) (w:World) (h0:0<t.size) (h6:t.size≤6) (hx:∀ c∈t.data.toList,isHx c=true) :
 Calls Tryz.prog 131 #[.string t,.int .i64 16] w fun e w'=>e = .returned (.int .i64 (valH t.data.toList))∧Below w.heap.size w w':=by
 have HC:Hid (∀ W:World,Calls Tryz.prog 156 #[.string t,.int .i64 16,.int .i64 64] W fun e w'=>e = .returned (.tuple #[.int .i64 (valH t.data.toList),.nilIface])∧Below W.heap.size W w'):=fun W=>pint_any t W h0 h6 hx
 generalize valH t.data.toList=m at HC ⊢
 go_enter Tryz.func131,Tryz.ntmps131
 go_wp2_with fail
 refine (HC.out _).mono ?_
 rintro e w1 ⟨rfl,hb⟩
 go_wp2
 go_ret
 exact ⟨rfl,hb⟩
end Go.Proofs
namespace Go.Proofs
open Go.RowKit Go.Shelf
set_option maxRecDepth 100000
attribute [local go_sem] Oper.semAt_some
theorem take_span (f:UInt8→Bool):∀ (l:List UInt8),∀ c∈l.take (spanN f l),f c=true
 | [],c,h=>by simp [spanN] at h
 | b::l,c,h=>by
  rw [spanN_cons] at h
  split at h
  · rename_i hb
    rw [List.take_succ_cons,List.mem_cons] at h
    rcases h with rfl | h
    · exact hb
    · exact take_span f l c h
  · simp at h
theorem span_all (s:ByteArray) (n:Nat) (_h3:3≤s.size) (hn:spanN isHx (s.extract 3 s.size).data.toList=n):∀ c∈(s.extract 3 (3+n)).data.toList,isHx c=true:=by
 have e:(s.extract 3 (3+n)).data.toList=(s.data.toList.drop 3).take n:=by
  simp only [ByteArray.data_extract,Array.toList_extract,List.extract]
  congr 1
  omega
 intro c hc
 rw [e,←hn,ext_drop] at hc
 exact take_span isHx _ c hc
theorem span3_le (s:ByteArray) (n:Nat) (h3:3≤s.size) (hn:spanN isHx (s.extract 3 s.size).data.toList=n):3+(n:Int)≤(s.size:Int):=by
 have:=spanN_le isHx (s.extract 3 s.size).data.toList
 rw [hn,ext_drop] at this
 simp at this
 omega
set_option maxHeartbeats 1000000 in
theorem braced_short (s:ByteArray) (most:Nat) (w:World) (h2:s.size=2):Calls Tryz.prog 157 #[.string s,.int .i64 most] w fun e w'=>e = .returned (.tuple #[.int .i64 0,.int .i64 0,.int .i64 44])∧Below w.heap.size w w':=by
 have h2i:((s.size:Int) == 2)=true:=by rw [h2];rfl
 go_enter Tryz.func157,Tryz.ntmps157
 go_wp2_with (fail)
 exact bodyPost_ret (v := .tuple #[.int .i64 0,.int .i64 0,.int .i64 44]) (by simp [results,Tryz.f157,go_sem]) rfl ⟨rfl,(Below.refl _ _)⟩
set_option maxHeartbeats 1000000 in
theorem braced_nb (s:ByteArray) (most:Nat) (w:World) (h3:3≤s.size) (hc:s[2].toNat≠123):Calls Tryz.prog 157 #[.string s,.int .i64 most] w fun e w'=>e = .returned (.tuple #[.int .i64 0,.int .i64 0,.int .i64 41])∧Below w.heap.size w w':=by
 have h2:((s.size:Int) == 2)=false:=by simp;omega
 have h3i:(2:Int)<(s.size:Int):=by omega
 go_enter Tryz.func157,Tryz.ntmps157
 go_wp2_with (fail)
 exact bodyPost_ret (v := .tuple #[.int .i64 0,.int .i64 0,.int .i64 41]) (by simp [results,Tryz.f157,go_sem]) rfl ⟨rfl,(Below.refl _ _)⟩
set_option maxHeartbeats 1000000 in
theorem braced_many (s:ByteArray) (most:Nat) (r:ByteArray) (n:Nat) (w:World) (hs:s.size≤maxLen) (_hm6:most≤6) (h3:3≤s.size) (hc:s[2].toNat=123) (hn:spanN isHx (s.extract 3 s.size).data.toList=n) (_hr:s.extract (3+n) s.size=r) (hmost:most<n):Calls Tryz.prog 157 #[.string s,.int .i64 most] w fun e w'=>e = .returned (.tuple #[.int .i64 0,.int .i64 0,.int .i64 41])∧Below w.heap.size w w':=by
 have hb:=span3_le s n h3 hn
 have hb0:(0:Int)≤3+(n:Int):=by omega
 have hm:(s.size:Int)≤9223372036854775807:=by unfold maxLen at hs;omega
 have h2:((s.size:Int) == 2)=false:=by simp;omega
 have h3i:(2:Int)<(s.size:Int):=by omega
 have hd:decide ((most:Int)<(n:Int))=true:=by simp;omega
 go_enter Tryz.func157,Tryz.ntmps157
 go_wp2_with (go_at_call 85;refine (span_hex _ _ (by rw [ext_size];omega)).mono ?_;rintro e w' ⟨rfl,rfl⟩;rw [hn])
 exact bodyPost_ret (v := .tuple #[.int .i64 0,.int .i64 0,.int .i64 41]) (by simp [results,Tryz.f157,go_sem]) rfl ⟨rfl,(Below.refl _ _)⟩
set_option maxHeartbeats 1000000 in
theorem braced_open (s:ByteArray) (most:Nat) (r:ByteArray) (n:Nat) (w:World) (hs:s.size≤maxLen) (_hm6:most≤6) (h3:3≤s.size) (hc:s[2].toNat=123) (hn:spanN isHx (s.extract 3 s.size).data.toList=n) (hr:s.extract (3+n) s.size=r) (hmost:n≤most) (he:r.toList.isEmpty=true):Calls Tryz.prog 157 #[.string s,.int .i64 most] w fun e w'=>e = .returned (.tuple #[.int .i64 0,.int .i64 0,.int .i64 44])∧Below w.heap.size w w':=by
 have hb:=span3_le s n h3 hn
 have hb0:(0:Int)≤3+(n:Int):=by omega
 have hm:(s.size:Int)≤9223372036854775807:=by unfold maxLen at hs;omega
 have h2:((s.size:Int) == 2)=false:=by simp;omega
 have h3i:(2:Int)<(s.size:Int):=by omega
 have hd:decide ((most:Int)<(n:Int))=false:=by simp;omega
 go_enter Tryz.func157,Tryz.ntmps157
 go_wp2_with (go_at_call 85;refine (span_hex _ _ (by rw [ext_size];omega)).mono ?_;rintro e w' ⟨rfl,rfl⟩;rw [hn])
 exact bodyPost_ret (v := .tuple #[.int .i64 0,.int .i64 0,.int .i64 44]) (by simp [results,Tryz.f157,go_sem]) rfl ⟨rfl,(Below.refl _ _)⟩
set_option maxHeartbeats 1000000 in
theorem braced_zero (s:ByteArray) (most:Nat) (r:ByteArray) (w:World) (hs:s.size≤maxLen) (h3:3≤s.size) (hc:s[2].toNat=123) (hr:s.extract 3 s.size=r) (hn:spanN isHx r.data.toList=0) (he:r.toList.isEmpty=false):Calls Tryz.prog 157 #[.string s,.int .i64 most] w fun e w'=>e = .returned (.tuple #[.int .i64 0,.int .i64 0,.int .i64 41])∧Below w.heap.size w w':=by
 have hb:(3:Int)≤(s.size:Int):=by omega
 have hm:(s.size:Int)≤9223372036854775807:=by unfold maxLen at hs;omega
 have h2:((s.size:Int) == 2)=false:=by simp;omega
 have hrs:r.size≤maxLen:=by rw [←hr,ext_size];omega
 have hd:decide ((most:Int)<0)=false:=by simp
 go_enter Tryz.func157,Tryz.ntmps157
 go_wp2_with (go_at_call 85;refine (span_hex _ _ hrs).mono ?_;rintro e w' ⟨rfl,rfl⟩;rw [hn])
 exact bodyPost_ret (v := .tuple #[.int .i64 0,.int .i64 0,.int .i64 41]) (by simp [results,Tryz.f157,go_sem]) rfl ⟨rfl,(Below.refl _ _)⟩
set_option maxHeartbeats 1000000 in
theorem braced_nc (s:ByteArray) (most:Nat) (r:ByteArray) (n:Nat) (w:World) (hs:s.size≤maxLen) (_hm6:most≤6) (h3:3≤s.size) (hc:s[2].toNat=123) (hn:spanN isHx (s.extract 3 s.size).data.toList=n) (hr:s.extract (3+n) s.size=r) (hmost:n≤most) (h0:0<n) (he:r.toList.isEmpty=false) (hrz:0<r.size) (hc2:r[0].toNat≠125):Calls Tryz.prog 157 #[.string s,.int .i64 most] w fun e w'=>e = .returned (.tuple #[.int .i64 0,.int .i64 0,.int .i64 41])∧Below w.heap.size w w':=by
 have hb:=span3_le s n h3 hn
 have hb0:(0:Int)≤3+(n:Int):=by omega
 have hm:(s.size:Int)≤9223372036854775807:=by unfold maxLen at hs;omega
 have h2:((s.size:Int) == 2)=false:=by simp;omega
 have h3i:(2:Int)<(s.size:Int):=by omega
 have hd:decide ((most:Int)<(n:Int))=false:=by simp;omega
 have h0d:((n:Int) == 0)=false:=by simp;omega
 have hrzi:(0:Int)<(r.size:Int):=by omega
 go_enter Tryz.func157,Tryz.ntmps157
 go_wp2_with (go_at_call 85;refine (span_hex _ _ (by rw [ext_size];omega)).mono ?_;rintro e w' ⟨rfl,rfl⟩;rw [hn])
 exact bodyPost_ret (v := .tuple #[.int .i64 0,.int .i64 0,.int .i64 41]) (by simp [results,Tryz.f157,go_sem]) rfl ⟨rfl,(Below.refl _ _)⟩
set_option maxHeartbeats 1000000 in
theorem braced_ok (s:ByteArray) (most:Nat) (r:ByteArray) (n:Nat) (w:World) (hs:s.size≤maxLen) (hm6:most≤6) (h3:3≤s.size) (hc:s[2].toNat=123) (hn:spanN isHx (s.extract 3 s.size).data.toList=n) (hr:s.extract (3+n) s.size=r) (hmost:n≤most) (h0:0<n) (he:r.toList.isEmpty=false) (hrz:0<r.size) (hc2:r[0].toNat=125) (m:Nat) (hv:valH (s.extract 3 (3+n)).data.toList=m):Calls Tryz.prog 157 #[.string s,.int .i64 most] w fun e w'=>e = .returned (.tuple #[.int .i64 m,.int .i64 (3+n+1),.int .i64 0])∧Below w.heap.size w w':=by
 have hb:=span3_le s n h3 hn
 have hb0:(0:Int)≤3+(n:Int):=by omega
 have hm:(s.size:Int)≤9223372036854775807:=by unfold maxLen at hs;omega
 have h2:((s.size:Int) == 2)=false:=by simp;omega
 have h3i:(2:Int)<(s.size:Int):=by omega
 have hd:decide ((most:Int)<(n:Int))=false:=by simp;omega
 have h0d:((n:Int) == 0)=false:=by simp;omega
 have hrzi:(0:Int)<(r.size:Int):=by omega
 have HNum:Hid (∀ W:World,Calls Tryz.prog 131 #[.string (s.extract 3 (3+n)),.int .i64 16] W fun e w'=>e = .returned (.int .i64 m)∧Below W.heap.size W w'):=fun W=>by
  have hz:(s.extract 3 (3+n)).size=n:=by rw [ByteArray.size_extract];omega
  have:=number16_any (s.extract 3 (3+n)) W (by omega) (by omega) (span_all s n h3 hn)
  rwa [hv] at this
 clear hv
 go_enter Tryz.func157,Tryz.ntmps157
 go_wp2_with (first | (go_at_call 85;refine (span_hex _ _ (by rw [ext_size];omega)).mono ?_;rintro e w' ⟨rfl,rfl⟩;rw [hn]))
 refine (HNum.out _).mono ?_
 rintro e w1 ⟨rfl,hb1⟩
 go_wp2
 exact bodyPost_ret (v := .tuple #[.int .i64 m,.int .i64 (3+n+1),.int .i64 0]) (by simp [results,Tryz.f157,go_sem]) rfl ⟨rfl,hb1⟩
end Go.Proofs
namespace Go.Proofs
open Go.RowKit Go.Shelf
set_option maxRecDepth 100000
attribute [local go_sem] Oper.semAt_some
def BTells (s:ByteArray) (most:Nat) (m n e0:Int):Prop:=∀ w:World,Calls Tryz.prog 157 #[.string s,.int .i64 most] w fun e w'=>e = .returned (.tuple #[.int .i64 m,.int .i64 n,.int .i64 e0])∧Below w.heap.size w w'
set_option maxHeartbeats 1000000 in
theorem eRune_err (s:ByteArray) (m n e0:Int) (hv:BTells s 6 m n e0) (he:e0≠0):Tells 132 #[.string s] 0 0 0 0 ⟨#[]⟩ 0 e0:=by
 intro w
 have HV:Hid (BTells s 6 m n e0):=hv
 clear hv
 have hen:(e0 != 0)=true:=by simpa using he
 have hee:(e0 == 0)=false:=by simpa using he
 go_enter Tryz.func132,Tryz.ntmps132
 go_wp2_with fail
 refine (HV.out _).mono ?_
 rintro e w1 ⟨rfl,hb1⟩
 have HT1:TB w1 w.heap.size 0 0 0 0 ⟨#[]⟩ 0:=(TB.new w 0 0 0 0 ⟨#[]⟩ 0).below hb1 (by simp)
 have HB1:Below w.heap.size w w1:=((Below.refl _ w).alloc (Nat.le_refl _) _).trans (hb1.mono (by simp))
 clear hb1
 obtain ⟨c0,c1,c2,c3,c4,c5⟩:=HT1.cells
 obtain ⟨f0,f1,f2,f3,f4,f5⟩:=HT1.frozen
 go_wp2
 exact ret_tk rfl rfl rfl (HT1.set 0 0 0 0 ⟨#[]⟩ 0) ⟨rfl,below_set6 HB1 (Nat.le_refl _) _ _ _ _ _ _⟩
set_option maxHeartbeats 1000000 in
theorem eRune_high (s:ByteArray) (m n:Int) (hv:BTells s 6 m n 0) (hm:1114111<m):Tells 132 #[.string s] 0 0 0 0 ⟨#[]⟩ 0 41:=by
 intro w
 have HV:Hid (BTells s 6 m n 0):=hv
 clear hv
 have hd:decide ((1114111:Int)<m)=true:=by simpa using hm
 go_enter Tryz.func132,Tryz.ntmps132
 go_wp2_with fail
 refine (HV.out _).mono ?_
 rintro e w1 ⟨rfl,hb1⟩
 have HT1:TB w1 w.heap.size 0 0 0 0 ⟨#[]⟩ 0:=(TB.new w 0 0 0 0 ⟨#[]⟩ 0).below hb1 (by simp)
 have HB1:Below w.heap.size w w1:=((Below.refl _ w).alloc (Nat.le_refl _) _).trans (hb1.mono (by simp))
 clear hb1
 obtain ⟨c0,c1,c2,c3,c4,c5⟩:=HT1.cells
 obtain ⟨f0,f1,f2,f3,f4,f5⟩:=HT1.frozen
 go_wp2
 exact ret_tk rfl rfl rfl (HT1.set 0 0 0 0 ⟨#[]⟩ 0) ⟨rfl,below_set6 HB1 (Nat.le_refl _) _ _ _ _ _ _⟩
set_option maxHeartbeats 1000000 in
theorem eRune_no (s:ByteArray) (m n:Int) (hv:BTells s 6 m n 0) (hm:m≤1114111) (hwd:wd m=0):Tells 132 #[.string s] 0 0 0 0 ⟨#[]⟩ 0 41:=by
 intro w
 have HV:Hid (BTells s 6 m n 0):=hv
 clear hv
 have hd:decide ((1114111:Int)<m)=false:=by simp;omega
 go_enter Tryz.func132,Tryz.ntmps132
 go_wp2_with fail
 refine (HV.out _).mono ?_
 rintro e w1 ⟨rfl,hb1⟩
 have HT1:TB w1 w.heap.size 0 0 0 0 ⟨#[]⟩ 0:=(TB.new w 0 0 0 0 ⟨#[]⟩ 0).below hb1 (by simp)
 have HB1:Below w.heap.size w w1:=((Below.refl _ w).alloc (Nat.le_refl _) _).trans (hb1.mono (by simp))
 clear hb1
 obtain ⟨c0,c1,c2,c3,c4,c5⟩:=HT1.cells
 obtain ⟨f0,f1,f2,f3,f4,f5⟩:=HT1.frozen
 go_wp2_with (go_at_call 48;refine (width_any _ _).mono ?_;rintro e w' ⟨rfl,rfl⟩;rw [hwd])
 exact ret_tk rfl rfl rfl (HT1.set 0 0 0 0 ⟨#[]⟩ 0) ⟨rfl,below_set6 HB1 (Nat.le_refl _) _ _ _ _ _ _⟩
set_option maxHeartbeats 1000000 in
theorem eRune_ok (s:ByteArray) (m n d:Int) (hv:BTells s 6 m n 0) (hm:m≤1114111) (hwd:wd m=d) (h0:d≠0):Tells 132 #[.string s] 1 0 n m ⟨#[]⟩ 0 0:=by
 intro w
 have HV:Hid (BTells s 6 m n 0):=hv
 clear hv
 have hd:decide ((1114111:Int)<m)=false:=by simp;omega
 have hd0:(d == 0)=false:=by simpa using h0
 go_enter Tryz.func132,Tryz.ntmps132
 go_wp2_with fail
 refine (HV.out _).mono ?_
 rintro e w1 ⟨rfl,hb1⟩
 have HT1:TB w1 w.heap.size 0 0 0 0 ⟨#[]⟩ 0:=(TB.new w 0 0 0 0 ⟨#[]⟩ 0).below hb1 (by simp)
 have HB1:Below w.heap.size w w1:=((Below.refl _ w).alloc (Nat.le_refl _) _).trans (hb1.mono (by simp))
 clear hb1
 obtain ⟨c0,c1,c2,c3,c4,c5⟩:=HT1.cells
 obtain ⟨f0,f1,f2,f3,f4,f5⟩:=HT1.frozen
 go_wp2_with (go_at_call 48;refine (width_any _ _).mono ?_;rintro e w' ⟨rfl,rfl⟩;rw [hwd])
 refine (unit_any _ _ _).mono ?_
 rintro e w2 ⟨rfl,hb2⟩
 replace HT1:=HT1.below hb2 HT1.lt
 replace HB1:=HB1.trans (hb2.mono HB1.size)
 clear hb2
 obtain ⟨c0,c1,c2,c3,c4,c5⟩:=HT1.cells
 obtain ⟨f0,f1,f2,f3,f4,f5⟩:=HT1.frozen
 go_wp2
 exact ret_tk rfl rfl rfl (HT1.set 1 0 n m ⟨#[]⟩ 0) ⟨rfl,below_set6 HB1 (Nat.le_refl _) _ _ _ _ _ _⟩
set_option maxHeartbeats 1000000 in
theorem eStray_err (s:ByteArray) (m n e0:Int) (hv:BTells s 2 m n e0) (he:e0≠0):Tells 133 #[.string s] 0 0 0 0 ⟨#[]⟩ 0 e0:=by
 intro w
 have HV:Hid (BTells s 2 m n e0):=hv
 clear hv
 have hen:(e0 != 0)=true:=by simpa using he
 have hee:(e0 == 0)=false:=by simpa using he
 go_enter Tryz.func133,Tryz.ntmps133
 go_wp2_with fail
 refine (HV.out _).mono ?_
 rintro e w1 ⟨rfl,hb1⟩
 have HT1:TB w1 w.heap.size 0 0 0 0 ⟨#[]⟩ 0:=(TB.new w 0 0 0 0 ⟨#[]⟩ 0).below hb1 (by simp)
 have HB1:Below w.heap.size w w1:=((Below.refl _ w).alloc (Nat.le_refl _) _).trans (hb1.mono (by simp))
 clear hb1
 obtain ⟨c0,c1,c2,c3,c4,c5⟩:=HT1.cells
 obtain ⟨f0,f1,f2,f3,f4,f5⟩:=HT1.frozen
 go_wp2
 exact ret_tk rfl rfl rfl (HT1.set 0 0 0 0 ⟨#[]⟩ 0) ⟨rfl,below_set6 HB1 (Nat.le_refl _) _ _ _ _ _ _⟩
set_option maxHeartbeats 1000000 in
theorem eStray_low (s:ByteArray) (m n:Int) (hv:BTells s 2 m n 0) (hm:m<128):Tells 133 #[.string s] 0 0 0 0 ⟨#[]⟩ 0 41:=by
 intro w
 have HV:Hid (BTells s 2 m n 0):=hv
 clear hv
 have hd:decide (m<(128:Int))=true:=by simpa using hm
 go_enter Tryz.func133,Tryz.ntmps133
 go_wp2_with fail
 refine (HV.out _).mono ?_
 rintro e w1 ⟨rfl,hb1⟩
 have HT1:TB w1 w.heap.size 0 0 0 0 ⟨#[]⟩ 0:=(TB.new w 0 0 0 0 ⟨#[]⟩ 0).below hb1 (by simp)
 have HB1:Below w.heap.size w w1:=((Below.refl _ w).alloc (Nat.le_refl _) _).trans (hb1.mono (by simp))
 clear hb1
 obtain ⟨c0,c1,c2,c3,c4,c5⟩:=HT1.cells
 obtain ⟨f0,f1,f2,f3,f4,f5⟩:=HT1.frozen
 go_wp2
 exact ret_tk rfl rfl rfl (HT1.set 0 0 0 0 ⟨#[]⟩ 0) ⟨rfl,below_set6 HB1 (Nat.le_refl _) _ _ _ _ _ _⟩
set_option maxHeartbeats 1000000 in
theorem eStray_ok (s:ByteArray) (m n:Int) (hv:BTells s 2 m n 0) (hm:128≤m) (hm2:m≤255):Tells 133 #[.string s] 1 0 n (1114112+m) ⟨#[]⟩ 0 0:=by
 intro w
 have HV:Hid (BTells s 2 m n 0):=hv
 clear hv
 have hd:decide (m<(128:Int))=false:=by simp;omega
 go_enter Tryz.func133,Tryz.ntmps133
 go_wp2_with fail
 refine (HV.out _).mono ?_
 rintro e w1 ⟨rfl,hb1⟩
 have HT1:TB w1 w.heap.size 0 0 0 0 ⟨#[]⟩ 0:=(TB.new w 0 0 0 0 ⟨#[]⟩ 0).below hb1 (by simp)
 have HB1:Below w.heap.size w w1:=((Below.refl _ w).alloc (Nat.le_refl _) _).trans (hb1.mono (by simp))
 clear hb1
 obtain ⟨c0,c1,c2,c3,c4,c5⟩:=HT1.cells
 obtain ⟨f0,f1,f2,f3,f4,f5⟩:=HT1.frozen
 go_wp2_with fail
 refine (unit_any _ _ _).mono ?_
 rintro e w2 ⟨rfl,hb2⟩
 replace HT1:=HT1.below hb2 HT1.lt
 replace HB1:=HB1.trans (hb2.mono HB1.size)
 clear hb2
 obtain ⟨c0,c1,c2,c3,c4,c5⟩:=HT1.cells
 obtain ⟨f0,f1,f2,f3,f4,f5⟩:=HT1.frozen
 go_wp2
 exact ret_tk rfl rfl rfl (HT1.set 1 0 n (1114112+m) ⟨#[]⟩ 0) ⟨rfl,below_set6 HB1 (Nat.le_refl _) _ _ _ _ _ _⟩
end Go.Proofs
