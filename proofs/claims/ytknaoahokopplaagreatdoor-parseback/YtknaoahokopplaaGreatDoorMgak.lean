/-
  Several texts in one (Xak Xbk Shelfk).
-/
import Derived.Shelf.Abstract
import Derived.Shelf.RegionOpen
import Derived.WalkKit
import Derived.WalkSpells
import Derived.WalkLawsBesides
import Derived.BigQuiet
import Derived.Deep.QuietTactic
import Derived.Deep.LoopGhost
import Derived.Lib.OthersKept
import Derived.ScopeJumps
import Derived.WalkMore
import Derived.Test.YtknaoahokopplaaGreatDoorProg
import Derived.Shelf.Strings.Builder1
import Derived.Shelf.Strings.Builder2
import Derived.Shelf.Strings.OnBuilder
import Derived.Shelf.Small.Utf8
import Derived.Shelf.Small.Strs
import Derived.Shelf.LaysM
import Derived.Shelf.LaysC
import Derived.Shelf.Strings.Prefix
namespace Go.Proofs
open Go.RowKit Go.Shelf
set_option maxRecDepth 100000
attribute [local go_sem] Oper.semAt_some
def isDg (b:UInt8):Bool:=decide (48≤b.toNat) && decide (b.toNat≤57)
def isLt (b:UInt8):Bool:=(decide (97≤b.toNat) && decide (b.toNat≤122)) || (decide (65≤b.toNat) && decide (b.toNat≤90))
def isHx (b:UInt8):Bool:=isDg b || ((decide (97≤b.toNat) && decide (b.toNat≤102)) || (decide (65≤b.toNat) && decide (b.toNat≤70)))
def isNm (b:UInt8):Bool:=isLt b || isDg b || decide (b.toNat=95)
set_option maxHeartbeats 1000000 in
theorem digit_any (b:UInt8) (w:World):Calls Tryz.prog 129 #[.int .u8 b.toNat] w fun e w'=>e = .returned (.bool (isDg b))∧w'=w:=by
 go_enter Tryz.func129,Tryz.ntmps129
 go_wp2
 all_goals (go_ret;refine ⟨?_,rfl⟩;simp [isDg];first | done | omega | (try rw [Bool.eq_iff_iff];simp;omega))
set_option maxHeartbeats 1000000 in
theorem letter_any (b:UInt8) (w:World):Calls Tryz.prog 128 #[.int .u8 b.toNat] w fun e w'=>e = .returned (.bool (isLt b))∧w'=w:=by
 go_enter Tryz.func128,Tryz.ntmps128
 go_wp2
 all_goals (go_ret;refine ⟨?_,rfl⟩;simp [isLt];first | done | omega | (try rw [Bool.eq_iff_iff];simp;omega))
set_option maxHeartbeats 1000000 in
theorem hex_any (b:UInt8) (w:World):Calls Tryz.prog 178 #[.int .u8 b.toNat] w fun e w'=>e = .returned (.bool (isHx b))∧w'=w:=by
 cases hd:isDg b
 · go_enter Tryz.func178,Tryz.ntmps178
   go_wp2_with (go_at_call 129;refine (digit_any _ _).mono ?_;rintro e w' ⟨rfl,rfl⟩;rw [hd])
   all_goals (go_ret;refine ⟨?_,rfl⟩;simp [isHx,hd];first | done | omega | (try rw [Bool.eq_iff_iff];simp;omega))
 · go_enter Tryz.func178,Tryz.ntmps178
   go_wp2_with (go_at_call 129;refine (digit_any _ _).mono ?_;rintro e w' ⟨rfl,rfl⟩;rw [hd])
   all_goals (go_ret;refine ⟨?_,rfl⟩;simp [isHx,hd])
set_option maxHeartbeats 1000000 in
theorem name_any (b:UInt8) (w:World):Calls Tryz.prog 86 #[.int .u8 b.toNat] w fun e w'=>e = .returned (.bool (isNm b))∧w'=w:=by
 cases hl:isLt b <;> cases hd:isDg b
 all_goals
  go_enter Tryz.func86,Tryz.ntmps86
  go_wp2_with (first | (go_at_call 128;refine (letter_any _ _).mono ?_;rintro e w' ⟨rfl,rfl⟩;rw [hl]) | (go_at_call 129;refine (digit_any _ _).mono ?_;rintro e w' ⟨rfl,rfl⟩;rw [hd]))
  all_goals (go_ret;refine ⟨?_,rfl⟩;simp [isNm,hl,hd];first | done | omega | (try rw [Bool.eq_iff_iff];simp;omega))
def spanN (f:UInt8→Bool) (l:List UInt8):Nat:=(l.takeWhile f).length
theorem spanN_nil (f:UInt8→Bool):spanN f []=0:=rfl
theorem spanN_cons (f:UInt8→Bool) (b:UInt8) (l:List UInt8):spanN f (b::l)=if f b then spanN f l+1 else 0:=by
 unfold spanN;rw [List.takeWhile_cons];split <;> rfl
theorem spanN_le (f:UInt8→Bool) (l:List UInt8):spanN f l≤l.length:=(List.takeWhile_sublist f).length_le
theorem drop_at {s:ByteArray} {k:Nat} (h:k<s.size):s.data.toList.drop k=s[k]::s.data.toList.drop (k+1):=by
 have h':k<s.data.toList.length:=by simpa using h
 rw [List.drop_eq_getElem_cons h'];rfl
set_option maxHeartbeats 1000000 in
theorem span_name (s:ByteArray) (w:World) (hs:s.size≤maxLen) :
 Calls Tryz.prog 85 #[.string s,.func (.func 86) #[] #[]] w fun e w'=>e = .returned (.int .i64 (spanN isNm s.data.toList))∧w'=w:=by
 obtain ⟨n,hn⟩:∃ n,s.size=n:=⟨_,rfl⟩
 have hm:n≤9223372036854775807:=by rw [←hn];exact hs
 clear hs
 go_enter Tryz.func85,Tryz.ntmps85
 go_wp2
 go_loopw [8] (fun vi wr=>∃ k:Nat,vi = .int .i64 k∧k≤n∧Hid (spanN isNm s.data.toList=k+spanN isNm (s.data.toList.drop k))∧wr=w) (fun vi _=>n - (intOf vi).toNat)
 case atStart=>exact ⟨0,rfl,by omega,by show _=_;simp,rfl⟩
 case round=>
  obtain ⟨k,rfl,hk,hS,rfl⟩:=hrel
  by_cases hlt:k<n
  · have hlt':(k:Int)<(n:Int):=by omega
    have hks:k<s.size:=by omega
    have HD:=drop_at hks
    have hS2:=hS.out
    rw [HD,spanN_cons] at hS2
    cases hb:isNm s[k]
    · rw [hb] at hS2
      have HS:Hid (spanN isNm s.data.toList=k):=by show _=_;simpa using hS2
      clear hS hS2 HD
      go_wp2_with (go_at_call 86;refine (name_any _ _).mono ?_;rintro e w' ⟨rfl,rfl⟩;rw [hb])
      go_ret
      exact ⟨by rw [HS.out];rfl,rfl⟩
    · rw [hb] at hS2
      have HS:Hid (spanN isNm s.data.toList=(k+1)+spanN isNm (s.data.toList.drop (k+1))):=by
       show _=_
       rw [hS2];simp;omega
      clear hS hS2 HD
      go_wp2_with (go_at_call 86;refine (name_any _ _).mono ?_;rintro e w' ⟨rfl,rfl⟩;rw [hb])
      exact ⟨⟨k+1,by go_num,by omega,HS,(by first | rfl | trivial)⟩,by simp [intOf];omega⟩
  · have hkn:k=n:=by omega
    have HS:Hid (spanN isNm s.data.toList=n):=by
     have:=hS.out
     rw [List.drop_of_length_le (by simp;omega),spanN_nil] at this
     show _=_
     omega
    clear hS
    go_wp2
    go_ret
    exact ⟨by rw [HS.out];rfl,rfl⟩
set_option maxHeartbeats 1000000 in
theorem span_digit (s:ByteArray) (w:World) (hs:s.size≤maxLen) :
 Calls Tryz.prog 85 #[.string s,.func (.func 129) #[] #[]] w fun e w'=>e = .returned (.int .i64 (spanN isDg s.data.toList))∧w'=w:=by
 obtain ⟨n,hn⟩:∃ n,s.size=n:=⟨_,rfl⟩
 have hm:n≤9223372036854775807:=by rw [←hn];exact hs
 clear hs
 go_enter Tryz.func85,Tryz.ntmps85
 go_wp2
 go_loopw [8] (fun vi wr=>∃ k:Nat,vi = .int .i64 k∧k≤n∧Hid (spanN isDg s.data.toList=k+spanN isDg (s.data.toList.drop k))∧wr=w) (fun vi _=>n - (intOf vi).toNat)
 case atStart=>exact ⟨0,rfl,by omega,by show _=_;simp,rfl⟩
 case round=>
  obtain ⟨k,rfl,hk,hS,rfl⟩:=hrel
  by_cases hlt:k<n
  · have hlt':(k:Int)<(n:Int):=by omega
    have hks:k<s.size:=by omega
    have HD:=drop_at hks
    have hS2:=hS.out
    rw [HD,spanN_cons] at hS2
    cases hb:isDg s[k]
    · rw [hb] at hS2
      have HS:Hid (spanN isDg s.data.toList=k):=by show _=_;simpa using hS2
      clear hS hS2 HD
      go_wp2_with (go_at_call 129;refine (digit_any _ _).mono ?_;rintro e w' ⟨rfl,rfl⟩;rw [hb])
      go_ret
      exact ⟨by rw [HS.out];rfl,rfl⟩
    · rw [hb] at hS2
      have HS:Hid (spanN isDg s.data.toList=(k+1)+spanN isDg (s.data.toList.drop (k+1))):=by
       show _=_
       rw [hS2];simp;omega
      clear hS hS2 HD
      go_wp2_with (go_at_call 129;refine (digit_any _ _).mono ?_;rintro e w' ⟨rfl,rfl⟩;rw [hb])
      exact ⟨⟨k+1,by go_num,by omega,HS,(by first | rfl | trivial)⟩,by simp [intOf];omega⟩
  · have hkn:k=n:=by omega
    have HS:Hid (spanN isDg s.data.toList=n):=by
     have:=hS.out
     rw [List.drop_of_length_le (by simp;omega),spanN_nil] at this
     show _=_
     omega
    clear hS
    go_wp2
    go_ret
    exact ⟨by rw [HS.out];rfl,rfl⟩
set_option maxHeartbeats 1000000 in
theorem span_hex (s:ByteArray) (w:World) (hs:s.size≤maxLen) :
 Calls Tryz.prog 85 #[.string s,.func (.func 178) #[] #[]] w fun e w'=>e = .returned (.int .i64 (spanN isHx s.data.toList))∧w'=w:=by
 obtain ⟨n,hn⟩:∃ n,s.size=n:=⟨_,rfl⟩
 have hm:n≤9223372036854775807:=by rw [←hn];exact hs
 clear hs
 go_enter Tryz.func85,Tryz.ntmps85
 go_wp2
 go_loopw [8] (fun vi wr=>∃ k:Nat,vi = .int .i64 k∧k≤n∧Hid (spanN isHx s.data.toList=k+spanN isHx (s.data.toList.drop k))∧wr=w) (fun vi _=>n - (intOf vi).toNat)
 case atStart=>exact ⟨0,rfl,by omega,by show _=_;simp,rfl⟩
 case round=>
  obtain ⟨k,rfl,hk,hS,rfl⟩:=hrel
  by_cases hlt:k<n
  · have hlt':(k:Int)<(n:Int):=by omega
    have hks:k<s.size:=by omega
    have HD:=drop_at hks
    have hS2:=hS.out
    rw [HD,spanN_cons] at hS2
    cases hb:isHx s[k]
    · rw [hb] at hS2
      have HS:Hid (spanN isHx s.data.toList=k):=by show _=_;simpa using hS2
      clear hS hS2 HD
      go_wp2_with (go_at_call 178;refine (hex_any _ _).mono ?_;rintro e w' ⟨rfl,rfl⟩;rw [hb])
      go_ret
      exact ⟨by rw [HS.out];rfl,rfl⟩
    · rw [hb] at hS2
      have HS:Hid (spanN isHx s.data.toList=(k+1)+spanN isHx (s.data.toList.drop (k+1))):=by
       show _=_
       rw [hS2];simp;omega
      clear hS hS2 HD
      go_wp2_with (go_at_call 178;refine (hex_any _ _).mono ?_;rintro e w' ⟨rfl,rfl⟩;rw [hb])
      exact ⟨⟨k+1,by go_num,by omega,HS,(by first | rfl | trivial)⟩,by simp [intOf];omega⟩
  · have hkn:k=n:=by omega
    have HS:Hid (spanN isHx s.data.toList=n):=by
     have:=hS.out
     rw [List.drop_of_length_le (by simp;omega),spanN_nil] at this
     show _=_
     omega
    clear hS
    go_wp2
    go_ret
    exact ⟨by rw [HS.out];rfl,rfl⟩
end Go.Proofs
namespace Go.Proofs
open Go.RowKit Go.Shelf
set_option maxRecDepth 100000
attribute [local go_sem] Oper.semAt_some
def isWs (b:UInt8):Bool:=b.toNat == 32 || b.toNat == 9 || b.toNat == 10 || b.toNat == 13
def pastN:Bool→List UInt8→Nat
 | _,[]=>0
 | true,c::l=>1+pastN (c.toNat != 10) l
 | false,c::l=>if isWs c then 1+pastN false l else if c.toNat=35 then 1+pastN true l else 0
theorem pastN_le:∀ (r:Bool) (l:List UInt8),pastN r l≤l.length
 | r,[]=>by cases r <;> simp [pastN]
 | true,c::l=>by have:=pastN_le (c.toNat != 10) l;simp [pastN];omega
 | false,c::l=>by
  have h1:=pastN_le false l
  have h2:=pastN_le true l
  simp only [pastN,List.length_cons];split
  · omega
  · split <;> omega
theorem pastN_ws {c:UInt8} (h:isWs c=true) (l:List UInt8):pastN false (c::l)=1+pastN false l:=by simp [pastN,h]
theorem pastN_sharp {c:UInt8} (h:c.toNat=35) (l:List UInt8):pastN false (c::l)=pastN true (c::l):=by simp [pastN,h,isWs]
theorem pastN_stop {c:UInt8} (h:isWs c=false) (h2:c.toNat≠35) (l:List UInt8):pastN false (c::l)=0:=by simp [pastN,h,h2]
theorem pastN_nl {c:UInt8} (h:c.toNat=10) (l:List UInt8):pastN true (c::l)=pastN false (c::l):=by simp [pastN,h,isWs]
theorem pastN_in {c:UInt8} (h:c.toNat≠10) (l:List UInt8):pastN true (c::l)=1+pastN true l:=by
 have e:(c.toNat != 10)=true:=by simpa using h
 simp only [pastN,e]
set_option maxHeartbeats 2000000 in
theorem past_any (s:ByteArray) (p:Nat) (w:World) (hs:s.size≤maxLen) (hp:p≤s.size) :
 Calls Tryz.prog 46 #[.string s,.int .i64 p] w fun e w'=>e = .returned (.int .i64 (p+pastN false (s.data.toList.drop p):Nat))∧w'=w:=by
 obtain ⟨n,hn⟩:∃ n,s.size=n:=⟨_,rfl⟩
 have hm:n≤9223372036854775807:=by rw [←hn];exact hs
 obtain ⟨q,hq⟩:∃ q,p+pastN false (s.data.toList.drop p)=q:=⟨_,rfl⟩
 have HQ:Hid (q=p+pastN false (s.data.toList.drop p)):=hq.symm
 rw [hq]
 have hp':p≤n:=by omega
 clear hs hq hp
 go_enter Tryz.func46,Tryz.ntmps46
 go_wp2
 go_step3
 go_wp2
 go_step3
 go_wp2
 go_loopw [1] (fun vi wr=>∃ k:Nat,vi = .int .i64 k∧k≤n∧Hid (q=k+pastN false (s.data.toList.drop k))∧wr=w) (fun vi _=>n - (intOf vi).toNat)
 case atStart=>exact ⟨p,rfl,by omega,HQ,rfl⟩
 case round=>
  obtain ⟨k,rfl,hk,hS,rfl⟩:=hrel
  clear HQ
  by_cases hlt:k<n
  · have hlt':(k:Int)<(n:Int):=by omega
    have hks:k<s.size:=by omega
    have HD:=drop_at hks
    have hS2:=hS.out
    rw [HD] at hS2
    by_cases hws:isWs s[k]=true
    · rw [pastN_ws hws] at hS2
      have HS:Hid (q=(k+1)+pastN false (s.data.toList.drop (k+1))):=by show _=_;omega
      have hws':s[k].toNat=32∨s[k].toNat=9∨s[k].toNat=10∨s[k].toNat=13:=by simpa [isWs,or_assoc] using hws
      clear hS hS2 HD hws
      rcases hws' with e | e | e | e
      all_goals
       go_wp2
       exact ⟨⟨k+1,by go_num,by omega,HS,(by first | rfl | trivial)⟩,by simp [intOf];omega⟩
    · have hws0:isWs s[k]=false:=by simpa using hws
      obtain ⟨n32,n9,n10,n13⟩:s[k].toNat≠32∧s[k].toNat≠9∧s[k].toNat≠10∧s[k].toNat≠13:=by simpa [isWs,and_assoc] using hws0
      by_cases hsh:s[k].toNat=35
      · rw [pastN_sharp hsh,←HD] at hS2
        have HS:Hid (q=k+pastN true (s.data.toList.drop k)):=hS2
        have HK:Hid (s[k].toNat=35):=hsh
        clear hS hS2 HD hws hws0
        go_wp2
        go_loopw [1] (fun vi wx=>∃ m:Nat,vi = .int .i64 m∧k≤m∧m≤n∧Hid (q=m+pastN true (s.data.toList.drop m))∧wx=wr) (fun vi _=>n - (intOf vi).toNat)
        case atStart=>exact ⟨k,rfl,by omega,by omega,HS,rfl⟩
        case round=>
         obtain ⟨m,rfl,hkm,hmn,hS3,rfl⟩:=hrel
         clear HS
         by_cases hlt2:m<n
         · have hlt2':(m:Int)<(n:Int):=by omega
           have hms:m<s.size:=by omega
           have hS4:=hS3.out
           rw [drop_at hms] at hS4
           by_cases h10:s[m].toNat=10
           · rw [pastN_nl h10,←drop_at hms] at hS4
             have HS:Hid (q=m+pastN false (s.data.toList.drop m)):=hS4
             have hne:k≠m:=by rintro rfl;have:=HK.out;omega
             clear hS3 hS4
             go_wp2
             exact ⟨⟨m,by go_num,by omega,HS,(by first | rfl | trivial)⟩,by simp [intOf];omega⟩
           · rw [pastN_in h10] at hS4
             have HS:Hid (q=(m+1)+pastN true (s.data.toList.drop (m+1))):=by show _=_;omega
             clear hS3 hS4
             go_wp2
             exact ⟨⟨m+1,by go_num,by omega,by omega,HS,(by first | rfl | trivial)⟩,by simp [intOf];omega⟩
         · have hmn':m=n:=by omega
           subst hmn'
           have HS:Hid (q=m+pastN false (s.data.toList.drop m)):=by
            have:=hS3.out
            rw [List.drop_of_length_le (by simp;omega)] at this ⊢
            exact this
           clear hS3
           go_wp2
           exact ⟨⟨m,by go_num,by omega,HS,(by first | rfl | trivial)⟩,by simp [intOf];omega⟩
      · rw [pastN_stop hws0 hsh] at hS2
        have HS:Hid (q=k):=hS2
        clear hS hS2 HD hws hws0
        go_wp2
        try rw [Exit.noGoto_ret]
        go_ret
        exact ⟨by rw [HS.out];rfl,rfl⟩
  · have HS:Hid (q=k):=by
     have:=hS.out
     rw [List.drop_of_length_le (by simp;omega)] at this
     exact this
    clear hS
    go_wp2
    try rw [Exit.noGoto_ret]
    go_ret
    exact ⟨by rw [HS.out];rfl,rfl⟩
end Go.Proofs
namespace Go.Proofs
open Go.Shelf
def Tryz.lays170_ren:Go.Shelf.Ren:=⟨fun | 170=>40 | n=>n,fun | 70=>69 | 3=>3 | 0=>0 | 72=>71 | 37=>50 | 5=>5 | n=>n,fun | n=>n⟩
theorem Tryz.lays170:Go.Proofs.Lays.n170 Tryz.prog Tryz.lays170_ren := {
 mixed:=by kernel_rfl
 f170:=Tryz.func40.trans (congrArg some (by kernel_rfl))
 t0:=Tryz.underlying0
 a0:=Tryz.isAgg0
 z0:=Tryz.sizeOf0
 v0:=Tryz.zeroValue0
 t3:=Tryz.underlying3
 a3:=Tryz.isAgg3
 z3:=Tryz.sizeOf3
 v3:=Tryz.zeroValue3
 t37:=Tryz.underlying50
 a37:=Tryz.isAgg50
 z37:=Tryz.sizeOf50
 v37:=Tryz.zeroValue50
 t70:=Tryz.underlying69
 a70:=Tryz.isAgg69
 z70:=Tryz.sizeOf69
 v70:=Tryz.zeroValue69
 t72:=Tryz.underlying71
 a72:=Tryz.isAgg71
 z72:=Tryz.sizeOf71
 v72:=Tryz.zeroValue71 }
open Go.RowKit in
theorem Tryz.Builder_Len (B b:Nat) (bs:List Value) (w:World) (h:Lib.IsBuilder 71 5 B b bs w) :
 Calls Tryz.prog 40 #[.pointer (some ⟨b,0,none⟩)] w fun e w'=>e = .returned (.int .i64 bs.length)∧w'=w:=Any.Builder_Len Tryz.lays170 B b bs w h
def Tryz.lays169_ren:Go.Shelf.Ren:=⟨fun | 169=>41 | n=>n,fun | 70=>69 | 9=>9 | 0=>0 | 72=>71 | 37=>50 | 127=>106 | 3=>3 | 5=>5 | n=>n,fun | n=>n⟩
theorem Tryz.lays169:Go.Proofs.Lays.n169 Tryz.prog Tryz.lays169_ren := {
 mixed:=by kernel_rfl
 f169:=Tryz.func41.trans (congrArg some (by kernel_rfl))
 t0:=Tryz.underlying0
 a0:=Tryz.isAgg0
 z0:=Tryz.sizeOf0
 v0:=Tryz.zeroValue0
 t3:=Tryz.underlying3
 a3:=Tryz.isAgg3
 z3:=Tryz.sizeOf3
 v3:=Tryz.zeroValue3
 t9:=Tryz.underlying9
 a9:=Tryz.isAgg9
 z9:=Tryz.sizeOf9
 v9:=Tryz.zeroValue9
 t37:=Tryz.underlying50
 a37:=Tryz.isAgg50
 z37:=Tryz.sizeOf50
 v37:=Tryz.zeroValue50
 t70:=Tryz.underlying69
 a70:=Tryz.isAgg69
 z70:=Tryz.sizeOf69
 v70:=Tryz.zeroValue69
 t72:=Tryz.underlying71
 a72:=Tryz.isAgg71
 z72:=Tryz.sizeOf71
 v72:=Tryz.zeroValue71
 t127:=Tryz.underlying106
 a127:=Tryz.isAgg106
 z127:=Tryz.sizeOf106
 v127:=Tryz.zeroValue106 }
theorem Tryz.Builder_Extra_169:Builder.Extra Tryz.prog Tryz.lays169_ren := {
 sizeBuilder:=by kernel_rfl
 liesBuilder:=by kernel_rfl
 t5:=Tryz.underlying5
 a5:=Tryz.isAgg5
 z5:=Tryz.sizeOf5
 v5:=Tryz.zeroValue5
 infoByte:=by kernel_rfl
 cellsByte:=by kernel_rfl
 sizeByte:=by kernel_rfl
 neB5:=by decide }
open Go.RowKit in
theorem Tryz.Builder_String_any (B b:Nat) (l:List UInt8) (w:World) (h:Lib.IsBuilder 71 5 B b (Lib.byteCells l) w) (hBw:B≤w.heap.size) :
 Calls Tryz.prog 41 #[.pointer (some ⟨b,0,none⟩)] w fun e w'=>e = .returned (.string ⟨l.toArray⟩)∧Below B w w':=Any.Builder_String_any Tryz.lays169 Tryz.Builder_Extra_169 B b l w h hBw
def Tryz.lays156_ren:Go.Shelf.Ren:=⟨fun | 156=>37 | 165=>67 | 166=>36 | 169=>41 | 240=>66 | 241=>115 | 276=>114 | 277=>149 | n=>n,fun | 31=>77 | 9=>9 | 3=>3 | 4=>4 | 0=>0 | 20=>20 | 72=>71 | 76=>74 | 70=>69 | 37=>50 | 75=>73 | 127=>106 | 164=>129 | 5=>5 | 80=>81 | n=>n,fun | n=>n⟩
theorem Tryz.lays156:Go.Proofs.Lays.n156 Tryz.prog Tryz.lays156_ren := {
 mixed:=by kernel_rfl
 f156:=Tryz.func37.trans (congrArg some (by kernel_rfl))
 f165:=Tryz.func67.trans (congrArg some (by kernel_rfl))
 f166:=Tryz.func36.trans (congrArg some (by kernel_rfl))
 f169:=Tryz.func41.trans (congrArg some (by kernel_rfl))
 f240:=Tryz.func66.trans (congrArg some (by kernel_rfl))
 f241:=Tryz.func115.trans (congrArg some (by kernel_rfl))
 f276:=Tryz.func114.trans (congrArg some (by kernel_rfl))
 f277:=Tryz.func149.trans (congrArg some (by kernel_rfl))
 t0:=Tryz.underlying0
 a0:=Tryz.isAgg0
 z0:=Tryz.sizeOf0
 v0:=Tryz.zeroValue0
 t3:=Tryz.underlying3
 a3:=Tryz.isAgg3
 z3:=Tryz.sizeOf3
 v3:=Tryz.zeroValue3
 t4:=Tryz.underlying4
 a4:=Tryz.isAgg4
 z4:=Tryz.sizeOf4
 v4:=Tryz.zeroValue4
 t9:=Tryz.underlying9
 a9:=Tryz.isAgg9
 z9:=Tryz.sizeOf9
 v9:=Tryz.zeroValue9
 t20:=Tryz.underlying20
 a20:=Tryz.isAgg20
 z20:=Tryz.sizeOf20
 v20:=Tryz.zeroValue20
 t31:=Tryz.underlying77
 a31:=Tryz.isAgg77
 z31:=Tryz.sizeOf77
 v31:=Tryz.zeroValue77
 t37:=Tryz.underlying50
 a37:=Tryz.isAgg50
 z37:=Tryz.sizeOf50
 v37:=Tryz.zeroValue50
 t70:=Tryz.underlying69
 a70:=Tryz.isAgg69
 z70:=Tryz.sizeOf69
 v70:=Tryz.zeroValue69
 t72:=Tryz.underlying71
 a72:=Tryz.isAgg71
 z72:=Tryz.sizeOf71
 v72:=Tryz.zeroValue71
 t75:=Tryz.underlying73
 a75:=Tryz.isAgg73
 z75:=Tryz.sizeOf73
 v75:=Tryz.zeroValue73
 t76:=Tryz.underlying74
 a76:=Tryz.isAgg74
 z76:=Tryz.sizeOf74
 v76:=Tryz.zeroValue74
 t127:=Tryz.underlying106
 a127:=Tryz.isAgg106
 z127:=Tryz.sizeOf106
 v127:=Tryz.zeroValue106
 t164:=Tryz.underlying129
 a164:=Tryz.isAgg129
 z164:=Tryz.sizeOf129
 v164:=Tryz.zeroValue129 }
theorem Tryz.Builder_Extra_156:Builder.Extra Tryz.prog Tryz.lays156_ren := {
 sizeBuilder:=by kernel_rfl
 liesBuilder:=by kernel_rfl
 t5:=Tryz.underlying5
 a5:=Tryz.isAgg5
 z5:=Tryz.sizeOf5
 v5:=Tryz.zeroValue5
 infoByte:=by kernel_rfl
 cellsByte:=by kernel_rfl
 sizeByte:=by kernel_rfl
 neB5:=by decide }
open Go.RowKit in
theorem Tryz.strings_Join (bk o c:Nat) (xs:List ByteArray) (sep:ByteArray) (w:World) (hcells:∀ (j:Nat) x,xs[j]? = some x→w.cell? ⟨bk,o+j,none⟩=some (.string x)) (hbk:bk<w.heap.size) (hN:xs.length≤140737488355328) (hcap:xs.length≤c) (hlen:(Lib.join (xs.map (·.data.toList)) sep.data.toList).length≤140737488355328) :
 Calls Tryz.prog 37 #[.slice (some ⟨bk,o,none⟩) xs.length c,.string sep] w fun e w'=>e = .returned (.string ⟨(Lib.join (xs.map (·.data.toList)) sep.data.toList).toArray⟩)∧Below w.heap.size w w':=Any.strings_Join Tryz.lays156 Tryz.Builder_Extra_156 bk o c xs sep w hcells hbk hN hcap hlen
def Tryz.lays118_ren:Go.Shelf.Ren:=⟨fun | 118=>96 | n=>n,fun | 21=>21 | 3=>3 | 4=>4 | n=>n,fun | n=>n⟩
theorem Tryz.lays118:Go.Proofs.Lays.n118 Tryz.prog Tryz.lays118_ren := {
 mixed:=by kernel_rfl
 f118:=Tryz.func96.trans (congrArg some (by kernel_rfl))
 t3:=Tryz.underlying3
 a3:=Tryz.isAgg3
 z3:=Tryz.sizeOf3
 v3:=Tryz.zeroValue3
 t4:=Tryz.underlying4
 a4:=Tryz.isAgg4
 z4:=Tryz.sizeOf4
 v4:=Tryz.zeroValue4
 t21:=Tryz.underlying21
 a21:=Tryz.isAgg21
 z21:=Tryz.sizeOf21
 v21:=Tryz.zeroValue21 }
theorem Tryz.utf8_RuneLen (r:Int) (w:World) :
 Calls Tryz.prog 96 #[.int .i32 r] w fun e w'=>e = .returned (.int .i64 (Lib.runeLen r))∧w'=w:=Any.utf8_RuneLen Tryz.lays118 r w
def Tryz.lays119_ren:Go.Shelf.Ren:=⟨fun | 119=>136 | n=>n,fun | 21=>21 | 4=>4 | n=>n,fun | n=>n⟩
theorem Tryz.lays119:Go.Proofs.Lays.n119 Tryz.prog Tryz.lays119_ren := {
 mixed:=by kernel_rfl
 f119:=Tryz.func136.trans (congrArg some (by kernel_rfl))
 t4:=Tryz.underlying4
 a4:=Tryz.isAgg4
 z4:=Tryz.sizeOf4
 v4:=Tryz.zeroValue4
 t21:=Tryz.underlying21
 a21:=Tryz.isAgg21
 z21:=Tryz.sizeOf21
 v21:=Tryz.zeroValue21 }
theorem Tryz.utf8_ValidRune (r:Int) (w:World) :
 Calls Tryz.prog 136 #[.int .i32 r] w fun e w'=>e = .returned (.bool (Lib.validRune r))∧w'=w:=Any.utf8_ValidRune Tryz.lays119 r w
def Tryz.lays137_ren:Go.Shelf.Ren:=⟨fun | 137=>84 | 217=>127 | 266=>155 | n=>n,fun | 9=>9 | 5=>5 | 3=>3 | n=>n,fun | n=>n⟩
theorem Tryz.lays137:Go.Proofs.Lays.n137 Tryz.prog Tryz.lays137_ren := {
 mixed:=by kernel_rfl
 f137:=Tryz.func84.trans (congrArg some (by kernel_rfl))
 f217:=Tryz.func127.trans (congrArg some (by kernel_rfl))
 f266:=Tryz.func155.trans (congrArg some (by kernel_rfl))
 t3:=Tryz.underlying3
 a3:=Tryz.isAgg3
 z3:=Tryz.sizeOf3
 v3:=Tryz.zeroValue3
 t5:=Tryz.underlying5
 a5:=Tryz.isAgg5
 z5:=Tryz.sizeOf5
 v5:=Tryz.zeroValue5
 t9:=Tryz.underlying9
 a9:=Tryz.isAgg9
 z9:=Tryz.sizeOf9
 v9:=Tryz.zeroValue9 }
open Go.RowKit in
theorem Tryz.strings_IndexByte (s:ByteArray) (c:Int) (w:World) :
 Calls Tryz.prog 84 #[.string s,.int .u8 c] w fun e w'=>e = .returned (.int .i64 (Lib.indexByte s.data.toList c.toNat.toUInt8))∧w'=w:=Any.strings_IndexByte Tryz.lays137 s c w
def Tryz.lays99_ren:Go.Shelf.Ren:=⟨fun | 99=>88 | 206=>130 | n=>n,fun | 9=>9 | 4=>4 | 3=>3 | n=>n,fun | n=>n⟩
theorem Tryz.lays99:Go.Proofs.Lays.n99 Tryz.prog Tryz.lays99_ren := {
 mixed:=by kernel_rfl
 f99:=Tryz.func88.trans (congrArg some (by kernel_rfl))
 f206:=Tryz.func130.trans (congrArg some (by kernel_rfl))
 t3:=Tryz.underlying3
 a3:=Tryz.isAgg3
 z3:=Tryz.sizeOf3
 v3:=Tryz.zeroValue3
 t4:=Tryz.underlying4
 a4:=Tryz.isAgg4
 z4:=Tryz.sizeOf4
 v4:=Tryz.zeroValue4
 t9:=Tryz.underlying9
 a9:=Tryz.isAgg9
 z9:=Tryz.sizeOf9
 v9:=Tryz.zeroValue9 }
open Go.RowKit Go.Lib in
theorem Tryz.strings_HasPrefix (s p:ByteArray) (w:World) :
 Calls Tryz.prog 88 #[.string s,.string p] w fun e w'=>e = .returned (.bool (Lib.hasPrefix s.data.toList p.data.toList))∧w'=w:=Any.strings_HasPrefix Tryz.lays99 s p w
end Go.Proofs
