/-
  The document's First (layer 1), carried from stage 1: part 2.
-/
import Derived.RangeFuncNested
import Derived.RangeFuncBound
import Derived.RangeFuncCalls
import Derived.RangeFuncLeaves
import Derived.Shelf.Abstract
import Derived.Shelf.RegionOpen
import Derived.WalkKit
import Derived.WalkSpells
import Derived.WalkLawsBesides
import Derived.OwnWalkIn
import Derived.TacticsInMore
import Derived.LoopNIn
import Derived.LoopIn
import Derived.BigQuiet
import Derived.RegionIn
import Derived.Deep.QuietTactic
import Derived.Lib.OthersKept
import Derived.Lib.IndexBytes
import Derived.Lib.ConvBytes
import Derived.Maps.AppendAt
import Derived.Lib.SmallJoins
import Derived.Lib.AppendStr
import Derived.Shelf.Strings.Builder1
import Derived.Below
import Derived.Deep.RegionWith
import Derived.ArgAppend
import Derived.Laws.CopyOwn
import Derived.Laws.MakeOwn
import Derived.Test.YtknaoahokopplaaGreatDoorR1k
namespace Go.Proofs
open Go.RowKit Go.Shelf
set_option maxRecDepth 100000
attribute [local go_sem] Oper.semAt_some
theorem units_len_N (s:ByteArray):∀ k p,(unitsN s k p).length≤k
 | 0,_=>by simp [unitsN]
 | k+1,p=>by
  by_cases hp:p<s.size
  · rw [unitsN_step s k p hp,List.length_cons];have:=units_len_N s k (p+uw s p);omega
  · rw [unitsN_end s _ p hp];simp
def ints (l:List (Nat × Nat)):List Int:=l.map fun x=>(x.2:Int)
theorem ints_length (l:List (Nat × Nat)):(ints l).length=l.length:=by simp [ints]
theorem drop_get (s:ByteArray) (p:Nat) (h:p<s.size):s.data.toList.drop p=s.get! p::s.data.toList.drop (p+1):=by
 rw [List.drop_eq_getElem_cons (by rw [←Lib.size_eq];exact h),get_bang s p h];rfl
theorem ofNat_get (s:ByteArray) (p n:Nat) (h:(s.get! p).toNat=n):UInt8.ofNat n=s.get! p:=by rw [←h];simp
theorem put_uAt (s:ByteArray) (p:Nat) (hp:p<s.size):(put (uAt s p)).data.toList=(s.data.toList.drop p).take (uw s p):=by
 by_cases h:1<uw s p
 · obtain ⟨c,F⟩:=form_of s p h
   have hns:strayAt s p=false:=by
    cases hs:strayAt s p with
    | false=>rfl
    | true=>have:=(stray_iff s p).1 hs;rw [F.2.1] at this;simp at this;omega
   have hu:uAt s p=c:=by rw [uAt_rune hns,F.2.1]
   rw [hu]
   obtain ⟨hz,_,hF⟩:=F
   obtain ⟨n,hn⟩:∃ n,uw s p=n:=⟨_,rfl⟩
   rw [hn] at hF hz ⊢
   rcases hF with ⟨rfl,a,b,b0,b1⟩ | ⟨rfl,a,b,v,b0,b1,b2⟩ | ⟨rfl,a,b,b0,b1,b2,b3⟩
   · rw [put_rune (by omega),enc2 c a b,ofNat_get s p _ b0,ofNat_get s (p+1) _ b1,drop_get s p (by omega),drop_get s (p+1) (by omega)]
     rfl
   · rw [put_rune (by omega),enc3 c a b v,ofNat_get s p _ b0,ofNat_get s (p+1) _ b1,ofNat_get s (p+2) _ b2,drop_get s p (by omega),drop_get s (p+1) (by omega),drop_get s (p+1+1) (by omega)]
     rfl
   · rw [put_rune (by omega),enc4 c a b,ofNat_get s p _ b0,ofNat_get s (p+1) _ b1,ofNat_get s (p+2) _ b2,ofNat_get s (p+3) _ b3,drop_get s p (by omega),drop_get s (p+1) (by omega),drop_get s (p+1+1) (by omega),drop_get s (p+1+1+1) (by omega)]
     rfl
 · have hpos:=uw_pos s p
   have hu:uw s p=1:=by omega
   rw [hu,drop_get s p hp]
   rcases one_wide s p hu with ⟨a,b⟩ | ⟨a,b⟩
   · have hns:strayAt s p=false:=by
      cases hs:strayAt s p with
      | false=>rfl
      | true=>have:=(stray_iff s p).1 hs;rw [b] at this;simp at this;omega
     have hv:uAt s p=(s.get! p).toNat:=by rw [uAt_rune hns,b]
     rw [hv,put_rune (by omega),enc1 _ a,ofNat_get s p _ rfl]
     rfl
   · have hlt:=(s.get! p).toNat_lt
     have hv:=uAt_stray ((stray_iff s p).2 b)
     rw [hv,put_stray (by omega),show (((1114112+(s.get! p).toNat:Nat):Int) - 1114112).toNat=(s.get! p).toNat by omega,ofNat_get s p _ rfl]
     rfl
def acc (s:ByteArray) (p b:Nat):Nat→Nat
 | 0=>b
 | k+1=>acc s p b k*64+(s.get! (p+(k+1))).toNat % 64
def md (n:Nat):Nat:=if n=2 then 32 else if n=3 then 16 else 8
def num (s:ByteArray) (p n:Nat):Nat:=acc s p (if n=1 then (s.get! p).toNat else (s.get! p).toNat % md n) (n - 1)
def tst (s:ByteArray) (p n:Nat):Bool:=decide (wd (num s p n)=(n:Int)∧put (num s p n)=s.extract p (p+n))
def bgs (s:ByteArray) (p:Nat):Nat→Nat→Int
 | 0,_ => -1
 | k+1,n=>if p+n≤s.size then (if tst s p n then (num s p n:Int) else bgs s p k (n+1)) else -1
def beginsU (s:ByteArray) (p:Nat):Int:=bgs s p 4 1
theorem num1 (s:ByteArray) (p:Nat):num s p 1=(s.get! p).toNat:=rfl
theorem num2 (s:ByteArray) (p:Nat):num s p 2=(s.get! p).toNat % 32*64+(s.get! (p+1)).toNat % 64:=rfl
theorem num3 (s:ByteArray) (p:Nat):num s p 3=((s.get! p).toNat % 16*64+(s.get! (p+1)).toNat % 64)*64+(s.get! (p+2)).toNat % 64:=rfl
theorem num4 (s:ByteArray) (p:Nat):num s p 4=(((s.get! p).toNat % 8*64+(s.get! (p+1)).toNat % 64)*64+(s.get! (p+2)).toNat % 64)*64+(s.get! (p+3)).toNat % 64:=rfl
theorem byte_of {s t:ByteArray} {p n:Nat} (h:t=s.extract p (p+n)) (hp:p+n≤s.size) (r:Nat) (hr:r<n):(s.get! (p+r)).toNat=(t.get! r).toNat:=by
 rw [h,get_ext s p (p+n) r (by omega) hp]
theorem wd_ge2 (c n:Nat) (hn:2≤n) (h:wd (c:Int)=(n:Int)):(c<55296∨(57344≤c∧c≤1114111))∧Lib.runeLen c=(n:Int):=by
 unfold wd at h
 split at h
 · omega
 · split at h
   · exact ⟨by omega,h⟩
   · omega
theorem tst_dec (s:ByteArray) (p n:Nat) (hn:2≤n) (hp:p+n≤s.size) (h:tst s p n=true):Utf8.decode s p=(num s p n,n):=by
 obtain ⟨h1,h2⟩:wd (num s p n)=(n:Int)∧put (num s p n)=s.extract p (p+n):=of_decide_eq_true h
 generalize num s p n=c at *
 obtain ⟨hr,hl⟩:=wd_ge2 c n hn h1
 rw [put_rune (by omega)] at h2
 unfold Lib.runeLen at hl
 by_cases c1:c<128
 · exfalso;repeat' split at hl
   all_goals omega
 by_cases c2:c<2048
 · obtain rfl:n=2:=by repeat' split at hl
                      all_goals omega
   rw [enc2 c (by omega) c2] at h2
   have e0:=byte_of h2 hp 0 (by omega)
   have e1:=byte_of h2 hp 1 (by omega)
   change (s.get! (p+0)).toNat=(UInt8.ofNat (192+c / 64)).toNat at e0
   rw [b8 _ (by omega)] at e0
   change (s.get! (p+1)).toNat=(UInt8.ofNat (128+c % 64)).toNat at e1
   rw [b8 _ (by omega)] at e1
   exact dec2 s p c (by omega) c2 (by omega) e0 e1
 by_cases c3:c<65536
 · obtain rfl:n=3:=by repeat' split at hl
                      all_goals omega
   rw [enc3 c (by omega) c3 (by omega)] at h2
   have e0:=byte_of h2 hp 0 (by omega)
   have e1:=byte_of h2 hp 1 (by omega)
   have e2:=byte_of h2 hp 2 (by omega)
   change (s.get! (p+0)).toNat=(UInt8.ofNat (224+c / 4096)).toNat at e0
   rw [b8 _ (by omega)] at e0
   change (s.get! (p+1)).toNat=(UInt8.ofNat (128+c / 64 % 64)).toNat at e1
   rw [b8 _ (by omega)] at e1
   change (s.get! (p+2)).toNat=(UInt8.ofNat (128+c % 64)).toNat at e2
   rw [b8 _ (by omega)] at e2
   exact dec3 s p c (by omega) c3 (by omega) (by omega) e0 e1 e2
 · obtain rfl:n=4:=by repeat' split at hl
                      all_goals omega
   rw [enc4 c (by omega) (by omega)] at h2
   have e0:=byte_of h2 hp 0 (by omega)
   have e1:=byte_of h2 hp 1 (by omega)
   have e2:=byte_of h2 hp 2 (by omega)
   have e3:=byte_of h2 hp 3 (by omega)
   change (s.get! (p+0)).toNat=(UInt8.ofNat (240+c / 262144)).toNat at e0
   rw [b8 _ (by omega)] at e0
   change (s.get! (p+1)).toNat=(UInt8.ofNat (128+c / 4096 % 64)).toNat at e1
   rw [b8 _ (by omega)] at e1
   change (s.get! (p+2)).toNat=(UInt8.ofNat (128+c / 64 % 64)).toNat at e2
   rw [b8 _ (by omega)] at e2
   change (s.get! (p+3)).toNat=(UInt8.ofNat (128+c % 64)).toNat at e3
   rw [b8 _ (by omega)] at e3
   exact dec4 s p c (by omega) (by omega) (by omega) e0 e1 e2 e3
theorem tst_no (s:ByteArray) (p n:Nat) (hn:2≤n) (hp:p+n≤s.size) (h:uw s p≠n):tst s p n=false:=by
 cases ht:tst s p n with
 | false=>rfl
 | true=>exact absurd (by unfold uw;rw [tst_dec s p n hn hp ht]) h
theorem tst1_no (s:ByteArray) (p:Nat) (h:128≤(s.get! p).toNat):tst s p 1=false:=by
 have:=(s.get! p).toNat_lt
 unfold tst
 rw [num1,decide_eq_false_iff_not]
 rintro ⟨h1,_⟩
 rw [wd_rune (by omega)] at h1
 unfold Lib.runeLen at h1
 repeat' split at h1
 all_goals omega
theorem tst_yes (s:ByteArray) (p n:Nat) (hp:p<s.size) (h:uw s p=n) (hn:num s p n=uAt s p):tst s p n=true:=by
 unfold tst
 rw [hn,decide_eq_true_iff]
 refine ⟨by rw [wd_uAt,h],?_⟩
 have e:=put_uAt s p hp
 rw [h] at e
 have hd:(put (uAt s p)).data=(s.extract p (p+n)).data:=by
  apply Array.ext'
  rw [e]
  simp [ByteArray.data_extract,List.extract_eq_take_drop]
 generalize put (uAt s p)=a at *
 generalize s.extract p (p+n)=b at *
 cases a;cases b
 simpa using hd
theorem bgs_none (s:ByteArray) (p:Nat) (h:uw s p=1):∀ k n,2≤n→bgs s p k n = -1
 | 0,_,_=>rfl
 | k+1,n,hn=>by
  rw [bgs]
  split
  · rename_i hp
    rw [tst_no s p n hn hp (by omega),bgs_none s p h k (n+1) (by omega)]
    rfl
  · rfl
theorem bgs_skip (s:ByteArray) (p k n:Nat) (hn:2≤n) (hp:p+n≤s.size) (h:uw s p≠n):bgs s p (k+1) n=bgs s p k (n+1):=by
 rw [bgs,if_pos hp,tst_no s p n hn hp h];rfl
theorem bgs_hit (s:ByteArray) (p k n:Nat) (hp:p+n≤s.size) (h:tst s p n=true):bgs s p (k+1) n=num s p n:=by
 rw [bgs,if_pos hp,if_pos h]
theorem begins_eq (s:ByteArray) (p:Nat) (hp:p<s.size):beginsU s p=if strayAt s p then -1 else (uAt s p:Int):=by
 unfold beginsU
 by_cases hw:uw s p=1
 · rcases one_wide s p hw with ⟨h1,h2⟩ | ⟨h1,h2⟩
   · have hst:strayAt s p=false:=by
      cases h:strayAt s p with
      | false=>rfl
      | true=>have:=(stray_iff s p).1 h;rw [h2] at this;injection this with a b;omega
     have hu:uAt s p=(s.get! p).toNat:=by rw [uAt_rune hst,h2]
     rw [hst,bgs_hit s p 3 1 (by omega) (tst_yes s p 1 hp hw (by rw [num1,hu])),num1,hu]
     rfl
   · have hst:strayAt s p=true:=(stray_iff s p).2 h2
     rw [hst,bgs,if_pos (by omega),tst1_no s p h1,bgs_none s p hw 3 2 (by omega)]
     rfl
 · have h1:1<uw s p:=by have:=uw_pos s p;omega
   obtain ⟨c,hz,hd,hf⟩:=form_of s p h1
   have hst:strayAt s p=false:=by
    cases h:strayAt s p with
    | false=>rfl
    | true=>have:=(stray_iff s p).1 h;rw [hd] at this;injection this with a b;omega
   have hu:uAt s p=c:=by rw [uAt_rune hst,hd]
   have hb:=(uw_many s p h1).2.1
   have h0:bgs s p 4 1=bgs s p 3 2:=by rw [bgs,if_pos (by omega),tst1_no s p (by omega)];rfl
   rw [hst,h0]
   simp only [Bool.false_eq_true,if_false]
   rw [hu]
   rcases hf with ⟨hn,a,b,b0,b1⟩ | ⟨hn,a,b,_,b0,b1,b2⟩ | ⟨hn,a,b,b0,b1,b2,b3⟩
   · rw [hn] at hz
     have e:num s p 2=c:=by rw [num2,b0,b1];omega
     rw [bgs_hit s p 2 2 hz (tst_yes s p 2 hp hn (by rw [e,hu])),e]
   · rw [hn] at hz
     have e:num s p 3=c:=by rw [num3,b0,b1,b2];omega
     rw [bgs_skip s p 2 2 (by omega) (by omega) (by omega),bgs_hit s p 1 3 hz (tst_yes s p 3 hp hn (by rw [e,hu])),e]
   · rw [hn] at hz
     have e:num s p 4=c:=by rw [num4,b0,b1,b2,b3];omega
     rw [bgs_skip s p 2 2 (by omega) (by omega) (by omega),bgs_skip s p 1 3 (by omega) (by omega) (by omega),bgs_hit s p 0 4 hz (tst_yes s p 4 hp hn (by rw [e,hu])),e]
end Go.Proofs
