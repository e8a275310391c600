/-
  Several texts in one (Pok Tak Kak Kkk Kck Kbk).
-/
import Derived.Shelf.Abstract
import Derived.Shelf.RegionOpen
import Derived.WalkKit
import Derived.WalkSpells
import Derived.WalkLawsBesides
import Derived.BigQuiet
import Derived.Deep.QuietTactic
import Derived.Deep.LoopGhost
import Derived.Lib.OthersKept
import Derived.ScopeJumps
import Derived.WalkMore
import Derived.Maps.AppendAt
import Derived.Lib.SmallJoins
import Derived.Test.YtknaoahokopplaaGreatDoorMghk
import Derived.Barred
namespace Go.Proofs
open Go.RowKit Go.Shelf
set_option maxRecDepth 100000
attribute [local go_sem] Oper.semAt_some
theorem firstU_at (r:ByteArray) (h0:0<r.size):firstU r=((uAt r 0:Int),(uw r 0:Int)):=by
 have hu:units r=(0,uAt r 0)::unitsN r (r.size - 1) (0+uw r 0):=by
  unfold units
  obtain ⟨k,hk⟩:∃ k,r.size=k+1:=⟨r.size - 1,by omega⟩
  have:=unitsN_step r k 0 (by omega)
  rw [hk]
  simpa using this
 unfold firstU
 rw [hu]
 simp only
 rw [wd_uAt]
theorem alone_unit (r:ByteArray) (h0:0<r.size):firstU (r.extract 0 (uw r 0))=((uAt r 0:Int),(uw r 0:Int))∧uw r 0≤r.size∧1≤uw r 0∧(r.extract 0 (uw r 0)).size=uw r 0:=by
 have hin:=uw_in r 0 h0
 have hpos:=uw_pos r 0
 have hle:uw r 0≤r.size:=by omega
 have hz:=ext0_size r hle
 have hin2:=uw_in (r.extract 0 (uw r 0)) 0 (by omega)
 have:=same_at (s:=r) (t:=r.extract 0 (uw r 0)) (p:=0) (r:=0) (fun k _ h2=>get_ext r 0 (uw r 0) (0+k) (by omega) hle |>.trans (by rw [Nat.zero_add])) h0 (by omega) (by omega) (by omega)
 refine ⟨?_,hle,hpos,hz⟩
 rw [firstU_at _ (by omega),this.1,this.2]
end Go.Proofs
namespace Go.Proofs
open Go.RowKit Go.Shelf
set_option maxRecDepth 100000
theorem calls_one {P:Program} {f:FuncId} {args:Array Value} {w:World} {u v:Value} {p q:World→Prop} (hi:P.inits.idxOf? f=none)
 (h:Calls P f args w fun e w'=>e = .returned u∧p w') (k:Calls P f args w fun e w'=>e = .returned v∧q w'):u=v:=by
 obtain ⟨n,a,wa,h1,h2⟩:=Calls.done (R:=fun a w'=>a=u∧p w') (h.mono (fun e w' hh=>by obtain ⟨rfl,hp⟩:=hh;exact ⟨rfl,hp⟩)) hi
 obtain ⟨m,b,wb,k1,k2⟩:=Calls.done (R:=fun a w'=>a=v∧q w') (k.mono (fun e w' hh=>by obtain ⟨rfl,hp⟩:=hh;exact ⟨rfl,hp⟩)) hi
 have e:=runN_same_end h1 k1
 injection e with e
 rw [←h2.1,←k2.1,e]
theorem init47:Tryz.prog.inits.idxOf? 47=none:=by kernel_rfl
theorem w0:Nonempty World:=⟨default⟩
theorem Tells.one {args:Array Value} {k a l u:Int} {t:ByteArray} {n e:Int} {k' a' l' u':Int} {t':ByteArray} {n' e':Int} (h:Tells 47 args k a l u t n e) (h2:Tells 47 args k' a' l' u' t' n' e') :
 k=k'∧a=a'∧l=l'∧u=u'∧t=t'∧n=n'∧e=e':=by
 obtain ⟨w⟩:=w0
 have e:=calls_one init47 (h w) (h2 w)
 simp at e
 obtain ⟨⟨e1,e2,e3,e4,e5,e6⟩,e7⟩:=e
 exact ⟨e1,e2,e3,e4,e5,e6,e7⟩
end Go.Proofs
namespace Go.Proofs
open Go.RowKit Go.Shelf
set_option maxRecDepth 100000
attribute [local go_sem] Oper.semAt_some
set_option maxHeartbeats 1000000 in
theorem rnamed_any (b:UInt8) (w:World):Calls Tryz.prog 123 #[.int .u8 b.toNat] w fun e w'=>e = .returned (.bool (isNm b))∧w'=w:=by
 go_enter Tryz.func123,Tryz.ntmps123
 go_wp2
 all_goals (go_ret;refine ⟨?_,rfl⟩;simp [isNm,isLt,isDg];first | done | omega | (try rw [Bool.eq_iff_iff];simp;omega))
set_option maxHeartbeats 1000000 in
theorem rname_any (s:ByteArray) (p:Nat) (w:World) (hs:s.size≤1000000) (hp:p≤s.size) :
 Calls Tryz.prog 77 #[.string s,.int .i64 p] w fun e w'=>e = .returned (.int .i64 (spanN isNm (s.data.toList.drop p)))∧w'=w:=by
 obtain ⟨n,hn⟩:∃ n,s.size=n:=⟨_,rfl⟩
 have hp':p≤n:=by omega
 have hm:n≤1000000:=by omega
 obtain ⟨q,hq⟩:∃ q,spanN isNm (s.data.toList.drop p)=q:=⟨_,rfl⟩
 rw [hq]
 have HQ:Hid (q=spanN isNm (s.data.toList.drop p)):=hq.symm
 clear hq hs hp
 go_enter Tryz.func77,Tryz.ntmps77
 go_wp2
 go_loopw [5] (fun vi wr=>∃ k:Nat,vi = .int .i64 k∧p+k≤n∧Hid (q=k+spanN isNm (s.data.toList.drop (p+k)))∧wr=w) (fun vi _=>n - (intOf vi).toNat)
 case atStart=>exact ⟨0,rfl,by omega,by show _=_;rw [Nat.zero_add];exact HQ.out,rfl⟩
 case round=>
  obtain ⟨k,rfl,hk,hS,rfl⟩:=hrel
  clear HQ
  have hpI:(p:Int)≤1000000:=by omega
  have hkI:(k:Int)≤1000000:=by omega
  have hp0:(0:Int)≤(p:Int):=by omega
  have hk0:(0:Int)≤(k:Int):=by omega
  by_cases hlt:p+k<n
  · have hlt':(p:Int)+(k:Int)<(n:Int):=by omega
    have hks:p+k<s.size:=by omega
    have HD:=drop_at hks
    have hS2:=hS.out
    rw [HD,spanN_cons] at hS2
    cases hb:isNm s[p+k]
    · rw [hb] at hS2
      have HS:Hid (q=k):=by show _=_;simpa using hS2
      clear hS hS2 HD
      go_wp2_with (go_at_call 123;refine (rnamed_any _ _).mono ?_;rintro e w' ⟨rfl,rfl⟩;rw [hb])
      go_ret
      exact ⟨by rw [HS.out];rfl,rfl⟩
    · rw [hb] at hS2
      have HS:Hid (q=(k+1)+spanN isNm (s.data.toList.drop (p+(k+1)))):=by
       show _=_
       rw [hS2,←Nat.add_assoc];simp;omega
      clear hS hS2 HD
      go_wp2_with (go_at_call 123;refine (rnamed_any _ _).mono ?_;rintro e w' ⟨rfl,rfl⟩;rw [hb])
      exact ⟨⟨k+1,by go_num,by omega,HS,(by first | rfl | trivial)⟩,by simp [intOf];omega⟩
  · have hkn:p+k=n:=by omega
    have HS:Hid (q=k):=by
     have:=hS.out
     rw [List.drop_of_length_le (by simp;omega),spanN_nil] at this
     show _=_
     omega
    clear hS
    go_wp2
    go_ret
    exact ⟨by rw [HS.out];rfl,rfl⟩
set_option maxHeartbeats 2000000 in
theorem rover_any (s:ByteArray) (p:Nat) (w:World) (hs:s.size≤maxLen) (hp:p≤s.size) :
 Calls Tryz.prog 44 #[.string s,.int .i64 p] w fun e w'=>e = .returned (.int .i64 (p+pastN false (s.data.toList.drop p):Nat))∧w'=w:=by
 obtain ⟨n,hn⟩:∃ n,s.size=n:=⟨_,rfl⟩
 have hm:n≤9223372036854775807:=by rw [←hn];exact hs
 obtain ⟨q,hq⟩:∃ q,p+pastN false (s.data.toList.drop p)=q:=⟨_,rfl⟩
 have HQ:Hid (q=p+pastN false (s.data.toList.drop p)):=hq.symm
 rw [hq]
 have hp':p≤n:=by omega
 clear hs hq hp
 go_enter Tryz.func44,Tryz.ntmps44
 go_wp2
 go_loopw [1] (fun vi wr=>∃ k:Nat,vi = .int .i64 k∧k≤n∧Hid (q=k+pastN false (s.data.toList.drop k))∧wr=w) (fun vi _=>n - (intOf vi).toNat)
 case atStart=>exact ⟨p,rfl,by omega,HQ,rfl⟩
 case round=>
  obtain ⟨k,rfl,hk,hS,rfl⟩:=hrel
  clear HQ
  by_cases hlt:k<n
  · have hlt':(k:Int)<(n:Int):=by omega
    have hks:k<s.size:=by omega
    have HD:=drop_at hks
    have hS2:=hS.out
    rw [HD] at hS2
    by_cases hws:isWs s[k]=true
    · rw [pastN_ws hws] at hS2
      have HS:Hid (q=(k+1)+pastN false (s.data.toList.drop (k+1))):=by show _=_;omega
      have hws':s[k].toNat=32∨s[k].toNat=9∨s[k].toNat=10∨s[k].toNat=13:=by simpa [isWs,or_assoc] using hws
      clear hS hS2 HD hws
      rcases hws' with e | e | e | e
      all_goals
       go_wp2
       exact ⟨⟨k+1,by go_num,by omega,HS,(by first | rfl | trivial)⟩,by simp [intOf];omega⟩
    · have hws0:isWs s[k]=false:=by simpa using hws
      obtain ⟨n32,n9,n10,n13⟩:s[k].toNat≠32∧s[k].toNat≠9∧s[k].toNat≠10∧s[k].toNat≠13:=by simpa [isWs,and_assoc] using hws0
      by_cases hsh:s[k].toNat=35
      · rw [pastN_sharp hsh,←HD] at hS2
        have HS:Hid (q=k+pastN true (s.data.toList.drop k)):=hS2
        have HK:Hid (s[k].toNat=35):=hsh
        clear hS hS2 HD hws hws0
        go_wp2
        go_loopw [1] (fun vi wx=>∃ m:Nat,vi = .int .i64 m∧k≤m∧m≤n∧Hid (q=m+pastN true (s.data.toList.drop m))∧wx=wr) (fun vi _=>n - (intOf vi).toNat)
        case atStart=>exact ⟨k,rfl,by omega,by omega,HS,rfl⟩
        case round=>
         obtain ⟨m,rfl,hkm,hmn,hS3,rfl⟩:=hrel
         clear HS
         by_cases hlt2:m<n
         · have hlt2':(m:Int)<(n:Int):=by omega
           have hms:m<s.size:=by omega
           have hS4:=hS3.out
           rw [drop_at hms] at hS4
           by_cases h10:s[m].toNat=10
           · rw [pastN_nl h10,←drop_at hms] at hS4
             have HS:Hid (q=m+pastN false (s.data.toList.drop m)):=hS4
             have hne:k≠m:=by rintro rfl;have:=HK.out;omega
             clear hS3 hS4
             go_wp2
             exact ⟨⟨m,by go_num,by omega,HS,(by first | rfl | trivial)⟩,by simp [intOf];omega⟩
           · rw [pastN_in h10] at hS4
             have HS:Hid (q=(m+1)+pastN true (s.data.toList.drop (m+1))):=by show _=_;omega
             clear hS3 hS4
             go_wp2
             exact ⟨⟨m+1,by go_num,by omega,by omega,HS,(by first | rfl | trivial)⟩,by simp [intOf];omega⟩
         · have hmn':m=n:=by omega
           subst hmn'
           have HS:Hid (q=m+pastN false (s.data.toList.drop m)):=by
            have:=hS3.out
            rw [List.drop_of_length_le (by simp;omega)] at this ⊢
            exact this
           clear hS3
           go_wp2
           exact ⟨⟨m,by go_num,by omega,HS,(by first | rfl | trivial)⟩,by simp [intOf];omega⟩
      · rw [pastN_stop hws0 hsh] at hS2
        have HS:Hid (q=k):=hS2
        clear hS hS2 HD hws hws0
        go_wp2
        try rw [Exit.noGoto_ret]
        go_ret
        exact ⟨by rw [HS.out];rfl,rfl⟩
  · have HS:Hid (q=k):=by
     have:=hS.out
     rw [List.drop_of_length_le (by simp;omega)] at this
     exact this
    clear hS
    go_wp2
    try rw [Exit.noGoto_ret]
    go_ret
    exact ⟨by rw [HS.out];rfl,rfl⟩
end Go.Proofs
namespace Go.Proofs
open Go.RowKit Go.Shelf
set_option maxRecDepth 100000
attribute [local go_sem] Oper.semAt_some
inductive RRun (s:ByteArray):Nat→Bool→List Tok→Nat→Int→Prop
 | fin {p:Nat} {fresh:Bool} (h:p+pastN false (s.data.toList.drop p)=s.size):RRun s p fresh [] 0 0
 | bad {p:Nat} {fresh:Bool} {q:Nat} {e0:Int} (hq:q=p+pastN false (s.data.toList.drop p)) (hlt:q<s.size) (hb:Tells 45 #[.string s,.int .i64 q,.bool fresh] 0 0 0 0 ⟨#[]⟩ 0 e0) (he:e0≠0):RRun s p fresh [] q e0
 | step {p:Nat} {fresh:Bool} {q:Nat} {k u:Int} {l:Nat} {t:ByteArray} {n:Int} {toks:List Tok} {fa:Nat} {fe:Int} (hq:q=p+pastN false (s.data.toList.drop p)) (hlt:q<s.size) (hb:Tells 45 #[.string s,.int .i64 q,.bool fresh] k q l u t n 0) (h0:0<l) (hl:q+l≤s.size) (hr:RRun s (q+l) (decide (k=11)) toks fa fe):RRun s p fresh (⟨k,q,l,u,t,n⟩::toks) fa fe
end Go.Proofs
namespace Go.Proofs
open Go.RowKit Go.Shelf
set_option maxRecDepth 100000
attribute [local go_sem] Oper.semAt_some
theorem extract_list (s:ByteArray) (a b:Nat):(s.extract a b).data.toList=(s.data.toList.drop a).take (b - a):=by
 simp only [ByteArray.data_extract,Array.toList_extract,List.extract]
theorem pre_take (l t:List UInt8):Lib.hasPrefix l t=(l.take t.length == t):=by
 unfold Lib.hasPrefix
 induction t generalizing l with
 | nil=>simp
 | cons a t ih=>
  cases l with
  | nil=>simp
  | cons b l=>
   simp only [List.isPrefixOf,List.length_cons,List.take_succ_cons,ih]
   rw [Bool.eq_iff_iff,Bool.and_eq_true,beq_iff_eq,beq_iff_eq,beq_iff_eq,List.cons.injEq]
   exact ⟨fun h=>⟨h.1.symm,h.2⟩,fun h=>⟨h.1.symm,h.2⟩⟩
set_option maxHeartbeats 1000000 in
theorem rbegins_any (s t:ByteArray) (p:Nat) (w:World) (hs:s.size≤1000000) (hp:p≤s.size) (ht:t.size≤100):Calls Tryz.prog 78 #[.string s,.int .i64 p,.string t] w fun e w'=>e = .returned (.bool (Lib.hasPrefix (s.data.toList.drop p) t.data.toList))∧w'=w:=by
 obtain ⟨m,hm⟩:∃ m,t.size=m:=⟨_,rfl⟩
 obtain ⟨n,hn⟩:∃ n,s.size=n:=⟨_,rfl⟩
 have hpI:(p:Int)≤1000000:=by omega
 have hp0:(0:Int)≤(p:Int):=by omega
 have hmI:(m:Int)≤100:=by omega
 have hm0:(0:Int)≤(m:Int):=by omega
 have htl:t.data.toList.length=m:=by simpa using hm
 by_cases hlt:p+m≤n
 · have hlt':(p:Int)+(m:Int)≤(n:Int):=by omega
   have hR:Hid (Lib.hasPrefix (s.data.toList.drop p) t.data.toList=((s.extract p (p+m)).data.toList == t.data.toList)):=by
    show _=_
    rw [pre_take,htl,extract_list]
    simp
   rw [hR.out,←ByteArray.toList_eq,←ByteArray.toList_eq]
   go_enter Tryz.func78,Tryz.ntmps78
   go_wp2
   go_ret
   exact ⟨rfl,rfl⟩
 · have hlt':(n:Int)<(p:Int)+(m:Int):=by omega
   have hR:Lib.hasPrefix (s.data.toList.drop p) t.data.toList=false:=by
    rw [pre_take]
    rw [beq_eq_false_iff_ne]
    intro e
    have:=congrArg List.length e
    simp at this
    omega
   rw [hR]
   go_enter Tryz.func78,Tryz.ntmps78
   go_wp2
   go_ret
   exact ⟨rfl,rfl⟩
theorem idx_none {l:List UInt8} {c:UInt8} : Lib.indexByte l c = -1↔c ∉ l:=by
 induction l with
 | nil=>simp [Lib.indexByte]
 | cons b l ih=>
  simp only [Lib.indexByte,List.mem_cons,not_or]
  have hpos : -1≤Lib.indexByte l c:=by
   clear ih
   induction l with
   | nil=>simp [Lib.indexByte]
   | cons d l ih2=>simp only [Lib.indexByte];split <;> (try split) <;> omega
  split
  · rename_i h
    simp at h
    constructor
    · intro h2;omega
    · intro h2;exact absurd h.symm h2.1
  · rename_i h
    simp at h
    split
    · rename_i h2
      simp at h2
      simp only [true_iff]
      exact ⟨fun e=>h e.symm,ih.1 h2⟩
    · rename_i h2
      simp at h2
      constructor
      · intro h3;omega
      · intro h3;exact absurd (ih.2 h3.2) h2
theorem idx_step (l:List UInt8) (c:UInt8) (k:Nat) (hk:k<l.length) (hn:c ∉ l.take k) (hc:l[k]=c):Lib.indexByte l c=k:=by
 induction l generalizing k with
 | nil=>simp at hk
 | cons b l ih=>
  cases k with
  | zero=>simp at hc;simp [Lib.indexByte,hc]
  | succ k=>
   simp only [List.take_succ_cons,List.mem_cons,not_or] at hn
   have h1:=ih k (by simpa using hk) hn.2 (by simpa using hc)
   have hb:(b == c)=false:=by simpa using fun e=>hn.1 e.symm
   simp only [Lib.indexByte,hb,h1]
   have:((k:Int) == -1)=false:=by simp
   simp [this]
set_option maxHeartbeats 1000000 in
theorem rin_any (c:UInt8) (t:ByteArray) (w:World) (ht:t.size≤100):Calls Tryz.prog 80 #[.int .u8 c.toNat,.string t] w fun e w'=>e = .returned (.int .i64 (Lib.indexByte t.data.toList c))∧w'=w:=by
 obtain ⟨n,hn⟩:∃ n,t.size=n:=⟨_,rfl⟩
 have hnI:(n:Int)≤100:=by omega
 go_enter Tryz.func80,Tryz.ntmps80
 go_wp2
 go_loopw [5] (fun vi wr=>∃ k:Nat,vi = .int .i64 k∧k≤n∧Hid (c ∉ t.data.toList.take k)∧wr=w) (fun vi _=>n - (intOf vi).toNat)
 case atStart=>exact ⟨0,rfl,by omega,by show _;simp [Hid],rfl⟩
 case round=>
  obtain ⟨k,rfl,hk,hS,rfl⟩:=hrel
  by_cases hlt:k<n
  · have hlt':(k:Int)<(n:Int):=by omega
    have hkt:k<t.size:=by omega
    have hkl:k<t.data.toList.length:=by simpa using hkt
    have hge:t.data.toList[k]=t[k]:=by simp [ByteArray.getElem_eq_getElem_data]
    by_cases hc:t[k]=c
    · have hd:((t[k].toNat:Int) == (c.toNat:Int))=true:=by simp [hc]
      have HS:Hid (Lib.indexByte t.data.toList c=k):=idx_step _ _ k hkl hS.out (hge.trans hc)
      clear hS hge
      go_wp2
      go_ret
      exact ⟨by rw [HS.out];rfl,rfl⟩
    · have hd:((t[k].toNat:Int) == (c.toNat:Int))=false:=by
       simp only [beq_eq_false_iff_ne,ne_eq,Int.natCast_inj]
       exact fun e=>hc (UInt8.toNat_inj.1 e)
      have HS:Hid (c ∉ t.data.toList.take (k+1)):=by
       show _ ∉ _
       rw [List.take_succ_eq_append_getElem hkl,List.mem_append,not_or,hge]
       exact ⟨hS.out,by simpa using fun e=>hc e.symm⟩
      clear hS hge
      go_wp2
      exact ⟨⟨k+1,by go_num,by omega,HS,(by first | rfl | trivial)⟩,by simp [intOf];omega⟩
  · have HS:Hid (Lib.indexByte t.data.toList c = -1):=by
     have:=hS.out
     rw [List.take_of_length_le (by simp;omega)] at this
     exact idx_none.2 this
    clear hS
    go_wp2
    go_ret
    exact ⟨by rw [HS.out];rfl,rfl⟩
end Go.Proofs
namespace Go.Proofs
open Go.RowKit Go.Shelf
set_option maxRecDepth 100000
attribute [local go_sem] Oper.semAt_some
set_option maxHeartbeats 1000000 in
theorem rclass_many (s:ByteArray) (p n:Nat) (hs:s.size≤1000000) (hp:p+2≤s.size) (hn:spanN isNm (s.data.toList.drop (p+2))=n) (h:32<n):Tells 79 #[.string s,.int .i64 p] 0 0 0 0 ⟨#[]⟩ 0 42:=by
 intro w
 have hle:p+2+n≤s.size:=by
  have:=spanN_le isNm (s.data.toList.drop (p+2))
  simp at this
  omega
 have HN:Hid (∀ w,Calls Tryz.prog 77 #[.string s,.int .i64 ((p:Int)+2)] w fun e w'=>e = .returned (.int .i64 n)∧w'=w):=fun w=>by
  have:=rname_any s (p+2) w (by omega) hp
  rw [hn] at this
  simpa using this
 obtain ⟨z,hz⟩:∃ z,s.size=z:=⟨_,rfl⟩
 rw [hz] at hle
 have hpI:(p:Int)≤1000000:=by omega
 have hp0:(0:Int)≤(p:Int):=by omega
 have hnI:(n:Int)≤1000000:=by omega
 have hn0:(0:Int)≤(n:Int):=by omega
 have h':(32:Int)<(n:Int):=by omega
 clear hn hs hp
 go_enter Tryz.func79,Tryz.ntmps79
 go_wp2_with (go_at_call 77;refine (HN.out _).mono ?_;rintro e w1 ⟨rfl,rfl⟩)
 exact bodyPost_ret (v := .tuple #[tk0,.int .i64 42]) (by simp [results,Tryz.f79,go_sem]) rfl ⟨rfl,(Below.refl _ _).alloc (Nat.le_refl _) _⟩
set_option maxHeartbeats 1000000 in
theorem rclass_open1 (s:ByteArray) (p n:Nat) (hs:s.size≤1000000) (hp:p+2≤s.size) (hn:spanN isNm (s.data.toList.drop (p+2))=n) (h:n≤32) (h2:p+2+n=s.size):Tells 79 #[.string s,.int .i64 p] 0 0 0 0 ⟨#[]⟩ 0 44:=by
 intro w
 have hle:p+2+n≤s.size:=by
  have:=spanN_le isNm (s.data.toList.drop (p+2))
  simp at this
  omega
 have HN:Hid (∀ w,Calls Tryz.prog 77 #[.string s,.int .i64 ((p:Int)+2)] w fun e w'=>e = .returned (.int .i64 n)∧w'=w):=fun w=>by
  have:=rname_any s (p+2) w (by omega) hp
  rw [hn] at this
  simpa using this
 obtain ⟨z,hz⟩:∃ z,s.size=z:=⟨_,rfl⟩
 rw [hz] at hle
 have hpI:(p:Int)≤1000000:=by omega
 have hp0:(0:Int)≤(p:Int):=by omega
 have hnI:(n:Int)≤1000000:=by omega
 have hn0:(0:Int)≤(n:Int):=by omega
 have h':(n:Int)≤32:=by omega
 have h2':(p:Int)+2+(n:Int)=(z:Int):=by omega
 clear hn hs hp
 go_enter Tryz.func79,Tryz.ntmps79
 go_wp2_with (go_at_call 77;refine (HN.out _).mono ?_;rintro e w1 ⟨rfl,rfl⟩)
 exact bodyPost_ret (v := .tuple #[tk0,.int .i64 44]) (by simp [results,Tryz.f79,go_sem]) rfl ⟨rfl,(Below.refl _ _).alloc (Nat.le_refl _) _⟩
set_option maxHeartbeats 1000000 in
theorem rclass_open2 (s:ByteArray) (p n:Nat) (hs:s.size≤1000000) (hp:p+2≤s.size) (hn:spanN isNm (s.data.toList.drop (p+2))=n) (h:n≤32) (h0:0<n) (h2:p+2+n+1=s.size) (hc:s[p+2+n].toNat=58):Tells 79 #[.string s,.int .i64 p] 0 0 0 0 ⟨#[]⟩ 0 44:=by
 intro w
 have hle:p+2+n≤s.size:=by
  have:=spanN_le isNm (s.data.toList.drop (p+2))
  simp at this
  omega
 have HN:Hid (∀ w,Calls Tryz.prog 77 #[.string s,.int .i64 ((p:Int)+2)] w fun e w'=>e = .returned (.int .i64 n)∧w'=w):=fun w=>by
  have:=rname_any s (p+2) w (by omega) hp
  rw [hn] at this
  simpa using this
 obtain ⟨z,hz⟩:∃ z,s.size=z:=⟨_,rfl⟩
 rw [hz] at hle
 have hpI:(p:Int)≤1000000:=by omega
 have hp0:(0:Int)≤(p:Int):=by omega
 have hnI:(n:Int)≤1000000:=by omega
 have hn0:(0:Int)≤(n:Int):=by omega
 have h':(n:Int)≤32:=by omega
 have h2':(p:Int)+2+(n:Int)+1=(z:Int):=by omega
 have h3':((p:Int)+2+(n:Int) == (z:Int))=false:=by simp;omega
 have h4':(0:Int)<(n:Int):=by omega
 have h5':(p:Int)+2+(n:Int)<(z:Int):=by omega
 clear hn hs hp
 go_enter Tryz.func79,Tryz.ntmps79
 go_wp2_with (go_at_call 77;refine (HN.out _).mono ?_;rintro e w1 ⟨rfl,rfl⟩)
 exact bodyPost_ret (v := .tuple #[tk0,.int .i64 44]) (by simp [results,Tryz.f79,go_sem]) rfl ⟨rfl,(Below.refl _ _).alloc (Nat.le_refl _) _⟩
set_option maxHeartbeats 1000000 in
theorem rclass_bad0 (s:ByteArray) (p n:Nat) (hs:s.size≤1000000) (hp:p+2≤s.size) (hn:spanN isNm (s.data.toList.drop (p+2))=n) (h0:n=0) (h2:p+2<s.size):Tells 79 #[.string s,.int .i64 p] 0 0 0 0 ⟨#[]⟩ 0 42:=by
 intro w
 have hle:p+2+n≤s.size:=by
  have:=spanN_le isNm (s.data.toList.drop (p+2))
  simp at this
  omega
 have HN:Hid (∀ w,Calls Tryz.prog 77 #[.string s,.int .i64 ((p:Int)+2)] w fun e w'=>e = .returned (.int .i64 n)∧w'=w):=fun w=>by
  have:=rname_any s (p+2) w (by omega) hp
  rw [hn] at this
  simpa using this
 obtain ⟨z,hz⟩:∃ z,s.size=z:=⟨_,rfl⟩
 rw [hz] at hle
 have hpI:(p:Int)≤1000000:=by omega
 have hp0:(0:Int)≤(p:Int):=by omega
 have hnI:(n:Int)≤1000000:=by omega
 have hn0:(0:Int)≤(n:Int):=by omega
 subst h0
 have h3':((p:Int)+2 == (z:Int))=false:=by simp;omega
 have h5':(p:Int)+2<(z:Int):=by omega
 clear hn hs hp
 go_enter Tryz.func79,Tryz.ntmps79
 go_wp2_with (go_at_call 77;refine (HN.out _).mono ?_;rintro e w1 ⟨rfl,rfl⟩)
 exact bodyPost_ret (v := .tuple #[tk0,.int .i64 42]) (by simp [results,Tryz.f79,go_sem]) rfl ⟨rfl,(Below.refl _ _).alloc (Nat.le_refl _) _⟩
set_option maxHeartbeats 1000000 in
theorem rclass_bad1 (s:ByteArray) (p n:Nat) (hs:s.size≤1000000) (hp:p+2≤s.size) (hn:spanN isNm (s.data.toList.drop (p+2))=n) (h:n≤32) (h0:0<n) (h2:p+2+n<s.size) (hc:p+2+n+1=s.size→s[p+2+n].toNat≠58) (hb:Lib.hasPrefix (s.data.toList.drop (p+2+n)) [58,93]=false):Tells 79 #[.string s,.int .i64 p] 0 0 0 0 ⟨#[]⟩ 0 42:=by
 intro w
 have hle:p+2+n≤s.size:=by
  have:=spanN_le isNm (s.data.toList.drop (p+2))
  simp at this
  omega
 have HN:Hid (∀ w,Calls Tryz.prog 77 #[.string s,.int .i64 ((p:Int)+2)] w fun e w'=>e = .returned (.int .i64 n)∧w'=w):=fun w=>by
  have:=rname_any s (p+2) w (by omega) hp
  rw [hn] at this
  simpa using this
 obtain ⟨z,hz⟩:∃ z,s.size=z:=⟨_,rfl⟩
 rw [hz] at hle
 have hpI:(p:Int)≤1000000:=by omega
 have hp0:(0:Int)≤(p:Int):=by omega
 have hnI:(n:Int)≤1000000:=by omega
 have hn0:(0:Int)≤(n:Int):=by omega
 have HB:Hid (∀ w,Calls Tryz.prog 78 #[.string s,.int .i64 ((p:Int)+2+(n:Int)),.string ⟨#[58,93]⟩] w fun e w'=>e = .returned (.bool (Lib.hasPrefix (s.data.toList.drop (p+2+n)) [58,93]))∧w'=w):=fun w=>by
  have:=rbegins_any s ⟨#[58,93]⟩ (p+2+n) w (by omega) (by omega) (by decide)
  simpa using this
 have h':(n:Int)≤32:=by omega
 have h3':((p:Int)+2+(n:Int) == (z:Int))=false:=by simp;omega
 have h4':(0:Int)<(n:Int):=by omega
 have h5':(p:Int)+2+(n:Int)<(z:Int):=by omega
 have h6:(n == 0)=false:=by simp;omega
 by_cases he:p+2+n+1=s.size
 · have hc':=hc he
   have he':(p:Int)+2+(n:Int)+1=(z:Int):=by omega
   clear hn hs hp hc he
   go_enter Tryz.func79,Tryz.ntmps79
   go_wp2_with (first | (go_at_call 77;refine (HN.out _).mono ?_;rintro e w1 ⟨rfl,rfl⟩) | (go_at_call 78;refine (HB.out _).mono ?_;rintro e w1 ⟨rfl,rfl⟩;rw [hb]))
   exact bodyPost_ret (v := .tuple #[tk0,.int .i64 42]) (by simp [results,Tryz.f79,go_sem]) rfl ⟨rfl,(Below.refl _ _).alloc (Nat.le_refl _) _⟩
 · have he':((p:Int)+2+(n:Int)+1 == (z:Int))=false:=by simp;omega
   clear hn hs hp hc he
   go_enter Tryz.func79,Tryz.ntmps79
   go_wp2_with (first | (go_at_call 77;refine (HN.out _).mono ?_;rintro e w1 ⟨rfl,rfl⟩) | (go_at_call 78;refine (HB.out _).mono ?_;rintro e w1 ⟨rfl,rfl⟩;rw [hb]))
   exact bodyPost_ret (v := .tuple #[tk0,.int .i64 42]) (by simp [results,Tryz.f79,go_sem]) rfl ⟨rfl,(Below.refl _ _).alloc (Nat.le_refl _) _⟩
set_option maxHeartbeats 1000000 in
theorem rclass_ok (s:ByteArray) (p n:Nat) (hs:s.size≤1000000) (hp:p+2≤s.size) (hn:spanN isNm (s.data.toList.drop (p+2))=n) (h:n≤32) (h0:0<n) (hb:Lib.hasPrefix (s.data.toList.drop (p+2+n)) [58,93]=true) (h2:p+2+n+2≤s.size):Tells 79 #[.string s,.int .i64 p] 2 p (n+4) 0 (s.extract (p+1) (p+2+n+1)) 0 0:=by
 intro w
 have hle:p+2+n≤s.size:=by
  have:=spanN_le isNm (s.data.toList.drop (p+2))
  simp at this
  omega
 have HN:Hid (∀ w,Calls Tryz.prog 77 #[.string s,.int .i64 ((p:Int)+2)] w fun e w'=>e = .returned (.int .i64 n)∧w'=w):=fun w=>by
  have:=rname_any s (p+2) w (by omega) hp
  rw [hn] at this
  simpa using this
 obtain ⟨z,hz⟩:∃ z,s.size=z:=⟨_,rfl⟩
 rw [hz] at hle
 have hpI:(p:Int)≤1000000:=by omega
 have hp0:(0:Int)≤(p:Int):=by omega
 have hnI:(n:Int)≤1000000:=by omega
 have hn0:(0:Int)≤(n:Int):=by omega
 have HB:Hid (∀ w,Calls Tryz.prog 78 #[.string s,.int .i64 ((p:Int)+2+(n:Int)),.string ⟨#[58,93]⟩] w fun e w'=>e = .returned (.bool (Lib.hasPrefix (s.data.toList.drop (p+2+n)) [58,93]))∧w'=w):=fun w=>by
  have:=rbegins_any s ⟨#[58,93]⟩ (p+2+n) w (by omega) (by omega) (by decide)
  simpa using this
 have h':(n:Int)≤32:=by omega
 have h3':((p:Int)+2+(n:Int) == (z:Int))=false:=by simp;omega
 have h4':(0:Int)<(n:Int):=by omega
 have h5':(p:Int)+2+(n:Int)+1<(z:Int):=by omega
 have h6:(n == 0)=false:=by simp;omega
 have he':((p:Int)+2+(n:Int)+1 == (z:Int))=false:=by simp;omega
 clear hn hs hp
 go_enter Tryz.func79,Tryz.ntmps79
 go_wp2_with (first | (go_at_call 77;refine (HN.out _).mono ?_;rintro e w1 ⟨rfl,rfl⟩) | (go_at_call 78;refine (HB.out _).mono ?_;rintro e w1 ⟨rfl,rfl⟩;rw [hb]))
 exact bodyPost_ret (v := .tuple #[tk 2 p (n+4) 0 (s.extract (p+1) (p+2+n+1)) 0,.int .i64 0]) (by simp [results,Tryz.f79,go_sem]) rfl ⟨rfl,(Below.refl _ _).alloc (Nat.le_refl _) _⟩
end Go.Proofs
