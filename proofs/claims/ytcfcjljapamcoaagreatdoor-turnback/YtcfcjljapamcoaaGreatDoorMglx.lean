/-
  Several texts in one (Kc Kd Ke Kf Og Oh Jd Qa).
-/
import Derived.RangeFuncNested
import Derived.RangeFuncBound
import Derived.RangeFuncCalls
import Derived.RangeFuncLeaves
import Derived.Shelf.Abstract
import Derived.Shelf.RegionOpen
import Derived.WalkKit
import Derived.WalkSpells
import Derived.WalkLawsBesides
import Derived.OwnWalkIn
import Derived.TacticsInMore
import Derived.LoopNIn
import Derived.LoopIn
import Derived.BigQuiet
import Derived.RegionIn
import Derived.Deep.QuietTactic
import Derived.Deep.RegionWith
import Derived.Lib.OthersKept
import Derived.Maps.AppendAt
import Derived.Lib.SmallJoins
import Derived.Shelf.SlSortCmp.QuietGrown
import Derived.ArgAppend
import Derived.Below
import Derived.Deep.LoopGhost
import Derived.Laws.CopyOwn
import Derived.Laws.MakeOwn
import Derived.Lib.AppendStr
import Derived.Lib.ConvBytes
import Derived.Lib.IndexBytes
import Derived.Lib.ParseIntB
import Derived.RangeFuncBox
import Derived.WalkMore
import Derived.Shelf.Small.Utf8
import Derived.Test.YtcfcjljapamcoaaGreatDoorMgkx
import Derived.Test.YtcfcjljapamcoaaGreatDoorMgix
import Derived.Test.YtcfcjljapamcoaaGreatDoorMgax
import Derived.Test.YtcfcjljapamcoaaGreatDoorMpdx
import Derived.Test.YtcfcjljapamcoaaGreatDoorWcx
import Derived.Test.YtcfcjljapamcoaaGreatDoorMppx
namespace Go.Proofs
open Go.RowKit Go.Shelf
set_option maxRecDepth 100000
attribute [local go_sem] Oper.semAt_some
attribute [local go_sem ↓] Go.wp_at_zero Go.wp_at_succ
theorem units_len_N (s:ByteArray):∀ k p,(unitsN s k p).length≤k
 | 0,_=>by simp [unitsN]
 | k+1,p=>by
  by_cases hp:p<s.size
  · rw [unitsN_step s k p hp,List.length_cons];have:=units_len_N s k (p+uw s p);omega
  · rw [unitsN_end s _ p hp];simp
def intsU (l:List (Nat × Nat)):List Int:=l.map fun x=>(x.2:Int)
theorem intsU_length (l:List (Nat × Nat)):(intsU l).length=l.length:=by simp [intsU]
theorem drop_get (s:ByteArray) (p:Nat) (h:p<s.size):s.data.toList.drop p=s.get! p::s.data.toList.drop (p+1):=by
 rw [List.drop_eq_getElem_cons (by rw [←Lib.size_eq];exact h),get_bang s p h];rfl
theorem ofNat_get (s:ByteArray) (p n:Nat) (h:(s.get! p).toNat=n):UInt8.ofNat n=s.get! p:=by rw [←h];simp
theorem put_uAt (s:ByteArray) (p:Nat) (hp:p<s.size):(put (uAt s p)).data.toList=(s.data.toList.drop p).take (uw s p):=by
 by_cases h:1<uw s p
 · obtain ⟨c,F⟩:=form_of s p h
   have hns:strayAt s p=false:=by
    cases hs:strayAt s p with
    | false=>rfl
    | true=>have:=(stray_iff s p).1 hs;rw [F.2.1] at this;simp at this;omega
   have hu:uAt s p=c:=by rw [uAt_rune hns,F.2.1]
   rw [hu]
   obtain ⟨hz,_,hF⟩:=F
   obtain ⟨n,hn⟩:∃ n,uw s p=n:=⟨_,rfl⟩
   rw [hn] at hF hz ⊢
   rcases hF with ⟨rfl,a,b,b0,b1⟩ | ⟨rfl,a,b,v,b0,b1,b2⟩ | ⟨rfl,a,b,b0,b1,b2,b3⟩
   · rw [put_rune (by omega),enc2 c a b,ofNat_get s p _ b0,ofNat_get s (p+1) _ b1,drop_get s p (by omega),drop_get s (p+1) (by omega)]
     rfl
   · rw [put_rune (by omega),enc3 c a b v,ofNat_get s p _ b0,ofNat_get s (p+1) _ b1,ofNat_get s (p+2) _ b2,drop_get s p (by omega),drop_get s (p+1) (by omega),drop_get s (p+1+1) (by omega)]
     rfl
   · rw [put_rune (by omega),enc4 c a b,ofNat_get s p _ b0,ofNat_get s (p+1) _ b1,ofNat_get s (p+2) _ b2,ofNat_get s (p+3) _ b3,drop_get s p (by omega),drop_get s (p+1) (by omega),drop_get s (p+1+1) (by omega),drop_get s (p+1+1+1) (by omega)]
     rfl
 · have hpos:=uw_pos s p
   have hu:uw s p=1:=by omega
   rw [hu,drop_get s p hp]
   rcases one_wide s p hu with ⟨a,b⟩ | ⟨a,b⟩
   · have hns:strayAt s p=false:=by
      cases hs:strayAt s p with
      | false=>rfl
      | true=>have:=(stray_iff s p).1 hs;rw [b] at this;simp at this;omega
     have hv:uAt s p=(s.get! p).toNat:=by rw [uAt_rune hns,b]
     rw [hv,put_rune (by omega),enc1 _ a,ofNat_get s p _ rfl]
     rfl
   · have hlt:=(s.get! p).toNat_lt
     have hv:=uAt_stray ((stray_iff s p).2 b)
     rw [hv,put_stray (by omega),show (((1114112+(s.get! p).toNat:Nat):Int) - 1114112).toNat=(s.get! p).toNat by omega,ofNat_get s p _ rfl]
     rfl
def acc (s:ByteArray) (p b:Nat):Nat→Nat
 | 0=>b
 | k+1=>acc s p b k*64+(s.get! (p+(k+1))).toNat % 64
def md (n:Nat):Nat:=if n=2 then 32 else if n=3 then 16 else 8
def num (s:ByteArray) (p n:Nat):Nat:=acc s p (if n=1 then (s.get! p).toNat else (s.get! p).toNat % md n) (n - 1)
def tst (s:ByteArray) (p n:Nat):Bool:=decide (wd (num s p n)=(n:Int)∧put (num s p n)=s.extract p (p+n))
def bgs (s:ByteArray) (p:Nat):Nat→Nat→Int
 | 0,_ => -1
 | k+1,n=>if p+n≤s.size then (if tst s p n then (num s p n:Int) else bgs s p k (n+1)) else -1
def beginsU (s:ByteArray) (p:Nat):Int:=bgs s p 4 1
theorem num1 (s:ByteArray) (p:Nat):num s p 1=(s.get! p).toNat:=rfl
theorem num2 (s:ByteArray) (p:Nat):num s p 2=(s.get! p).toNat % 32*64+(s.get! (p+1)).toNat % 64:=rfl
theorem num3 (s:ByteArray) (p:Nat):num s p 3=((s.get! p).toNat % 16*64+(s.get! (p+1)).toNat % 64)*64+(s.get! (p+2)).toNat % 64:=rfl
theorem num4 (s:ByteArray) (p:Nat):num s p 4=(((s.get! p).toNat % 8*64+(s.get! (p+1)).toNat % 64)*64+(s.get! (p+2)).toNat % 64)*64+(s.get! (p+3)).toNat % 64:=rfl
theorem byte_of {s t:ByteArray} {p n:Nat} (h:t=s.extract p (p+n)) (hp:p+n≤s.size) (r:Nat) (hr:r<n):(s.get! (p+r)).toNat=(t.get! r).toNat:=by
 rw [h,get_ext s p (p+n) r (by omega) hp]
theorem wd_ge2 (c n:Nat) (hn:2≤n) (h:wd (c:Int)=(n:Int)):(c<55296∨(57344≤c∧c≤1114111))∧Lib.runeLen c=(n:Int):=by
 unfold wd at h
 split at h
 · omega
 · split at h
   · exact ⟨by omega,h⟩
   · omega
theorem tst_dec (s:ByteArray) (p n:Nat) (hn:2≤n) (hp:p+n≤s.size) (h:tst s p n=true):Utf8.decode s p=(num s p n,n):=by
 obtain ⟨h1,h2⟩:wd (num s p n)=(n:Int)∧put (num s p n)=s.extract p (p+n):=of_decide_eq_true h
 generalize num s p n=c at *
 obtain ⟨hr,hl⟩:=wd_ge2 c n hn h1
 rw [put_rune (by omega)] at h2
 unfold Lib.runeLen at hl
 by_cases c1:c<128
 · exfalso;repeat' split at hl
   all_goals omega
 by_cases c2:c<2048
 · obtain rfl:n=2:=by repeat' split at hl
                      all_goals omega
   rw [enc2 c (by omega) c2] at h2
   have e0:=byte_of h2 hp 0 (by omega)
   have e1:=byte_of h2 hp 1 (by omega)
   change (s.get! (p+0)).toNat=(UInt8.ofNat (192+c / 64)).toNat at e0
   rw [b8 _ (by omega)] at e0
   change (s.get! (p+1)).toNat=(UInt8.ofNat (128+c % 64)).toNat at e1
   rw [b8 _ (by omega)] at e1
   exact dec2 s p c (by omega) c2 (by omega) e0 e1
 by_cases c3:c<65536
 · obtain rfl:n=3:=by repeat' split at hl
                      all_goals omega
   rw [enc3 c (by omega) c3 (by omega)] at h2
   have e0:=byte_of h2 hp 0 (by omega)
   have e1:=byte_of h2 hp 1 (by omega)
   have e2:=byte_of h2 hp 2 (by omega)
   change (s.get! (p+0)).toNat=(UInt8.ofNat (224+c / 4096)).toNat at e0
   rw [b8 _ (by omega)] at e0
   change (s.get! (p+1)).toNat=(UInt8.ofNat (128+c / 64 % 64)).toNat at e1
   rw [b8 _ (by omega)] at e1
   change (s.get! (p+2)).toNat=(UInt8.ofNat (128+c % 64)).toNat at e2
   rw [b8 _ (by omega)] at e2
   exact dec3 s p c (by omega) c3 (by omega) (by omega) e0 e1 e2
 · obtain rfl:n=4:=by repeat' split at hl
                      all_goals omega
   rw [enc4 c (by omega) (by omega)] at h2
   have e0:=byte_of h2 hp 0 (by omega)
   have e1:=byte_of h2 hp 1 (by omega)
   have e2:=byte_of h2 hp 2 (by omega)
   have e3:=byte_of h2 hp 3 (by omega)
   change (s.get! (p+0)).toNat=(UInt8.ofNat (240+c / 262144)).toNat at e0
   rw [b8 _ (by omega)] at e0
   change (s.get! (p+1)).toNat=(UInt8.ofNat (128+c / 4096 % 64)).toNat at e1
   rw [b8 _ (by omega)] at e1
   change (s.get! (p+2)).toNat=(UInt8.ofNat (128+c / 64 % 64)).toNat at e2
   rw [b8 _ (by omega)] at e2
   change (s.get! (p+3)).toNat=(UInt8.ofNat (128+c % 64)).toNat at e3
   rw [b8 _ (by omega)] at e3
   exact dec4 s p c (by omega) (by omega) (by omega) e0 e1 e2 e3
theorem tst_no (s:ByteArray) (p n:Nat) (hn:2≤n) (hp:p+n≤s.size) (h:uw s p≠n):tst s p n=false:=by
 cases ht:tst s p n with
 | false=>rfl
 | true=>exact absurd (by unfold uw;rw [tst_dec s p n hn hp ht]) h
theorem tst1_no (s:ByteArray) (p:Nat) (h:128≤(s.get! p).toNat):tst s p 1=false:=by
 have:=(s.get! p).toNat_lt
 unfold tst
 rw [num1,decide_eq_false_iff_not]
 rintro ⟨h1,_⟩
 rw [wd_rune (by omega)] at h1
 unfold Lib.runeLen at h1
 repeat' split at h1
 all_goals omega
theorem tst_yes (s:ByteArray) (p n:Nat) (hp:p<s.size) (h:uw s p=n) (hn:num s p n=uAt s p):tst s p n=true:=by
 unfold tst
 rw [hn,decide_eq_true_iff]
 refine ⟨by rw [wd_uAt,h],?_⟩
 have e:=put_uAt s p hp
 rw [h] at e
 have hd:(put (uAt s p)).data=(s.extract p (p+n)).data:=by
  apply Array.ext'
  rw [e]
  simp [ByteArray.data_extract,List.extract_eq_take_drop]
 generalize put (uAt s p)=a at *
 generalize s.extract p (p+n)=b at *
 cases a;cases b
 simpa using hd
theorem bgs_none (s:ByteArray) (p:Nat) (h:uw s p=1):∀ k n,2≤n→bgs s p k n = -1
 | 0,_,_=>rfl
 | k+1,n,hn=>by
  rw [bgs]
  split
  · rename_i hp
    rw [tst_no s p n hn hp (by omega),bgs_none s p h k (n+1) (by omega)]
    rfl
  · rfl
theorem bgs_skip (s:ByteArray) (p k n:Nat) (hn:2≤n) (hp:p+n≤s.size) (h:uw s p≠n):bgs s p (k+1) n=bgs s p k (n+1):=by
 rw [bgs,if_pos hp,tst_no s p n hn hp h];rfl
theorem bgs_hit (s:ByteArray) (p k n:Nat) (hp:p+n≤s.size) (h:tst s p n=true):bgs s p (k+1) n=num s p n:=by
 rw [bgs,if_pos hp,if_pos h]
theorem begins_eq (s:ByteArray) (p:Nat) (hp:p<s.size):beginsU s p=if strayAt s p then -1 else (uAt s p:Int):=by
 unfold beginsU
 by_cases hw:uw s p=1
 · rcases one_wide s p hw with ⟨h1,h2⟩ | ⟨h1,h2⟩
   · have hst:strayAt s p=false:=by
      cases h:strayAt s p with
      | false=>rfl
      | true=>have:=(stray_iff s p).1 h;rw [h2] at this;injection this with a b;omega
     have hu:uAt s p=(s.get! p).toNat:=by rw [uAt_rune hst,h2]
     rw [hst,bgs_hit s p 3 1 (by omega) (tst_yes s p 1 hp hw (by rw [num1,hu])),num1,hu]
     rfl
   · have hst:strayAt s p=true:=(stray_iff s p).2 h2
     rw [hst,bgs,if_pos (by omega),tst1_no s p h1,bgs_none s p hw 3 2 (by omega)]
     rfl
 · have h1:1<uw s p:=by have:=uw_pos s p;omega
   obtain ⟨c,hz,hd,hf⟩:=form_of s p h1
   have hst:strayAt s p=false:=by
    cases h:strayAt s p with
    | false=>rfl
    | true=>have:=(stray_iff s p).1 h;rw [hd] at this;injection this with a b;omega
   have hu:uAt s p=c:=by rw [uAt_rune hst,hd]
   have hb:=(uw_many s p h1).2.1
   have h0:bgs s p 4 1=bgs s p 3 2:=by rw [bgs,if_pos (by omega),tst1_no s p (by omega)];rfl
   rw [hst,h0]
   simp only [Bool.false_eq_true,if_false]
   rw [hu]
   rcases hf with ⟨hn,a,b,b0,b1⟩ | ⟨hn,a,b,_,b0,b1,b2⟩ | ⟨hn,a,b,b0,b1,b2,b3⟩
   · rw [hn] at hz
     have e:num s p 2=c:=by rw [num2,b0,b1];omega
     rw [bgs_hit s p 2 2 hz (tst_yes s p 2 hp hn (by rw [e,hu])),e]
   · rw [hn] at hz
     have e:num s p 3=c:=by rw [num3,b0,b1,b2];omega
     rw [bgs_skip s p 2 2 (by omega) (by omega) (by omega),bgs_hit s p 1 3 hz (tst_yes s p 3 hp hn (by rw [e,hu])),e]
   · rw [hn] at hz
     have e:num s p 4=c:=by rw [num4,b0,b1,b2,b3];omega
     rw [bgs_skip s p 2 2 (by omega) (by omega) (by omega),bgs_skip s p 1 3 (by omega) (by omega) (by omega),bgs_hit s p 0 4 hz (tst_yes s p 4 hp hn (by rw [e,hu])),e]
theorem step_val (x:Nat) (b:UInt8) (h:x<1048576):wrap64 ((x:Int)*64+(wrap64 (b.toNat:Int)).tmod 64)=((x*64+b.toNat % 64:Nat):Int):=by
 rw [w64b,show ((b.toNat:Int)).tmod 64=((b.toNat % 64:Nat):Int) from rfl]
 have:=Nat.mod_lt b.toNat (show 64>0 by omega)
 rw [show (x:Int)*64+((b.toNat % 64:Nat):Int)=((x*64+b.toNat % 64:Nat):Int) by push_cast;rfl]
 exact IntWalk.wrap64_in _ (by omega)
theorem bstr_ne {a b:ByteArray} (h:a≠b):(a.toList == b.toList)=false:=by
 rw [ByteArray.toList_eq,ByteArray.toList_eq]
 by_cases e:a.data.toList=b.data.toList
 · exact absurd (Go.WideShapes.bytes_inj e) h
 · simpa using e
theorem bgs_no (s:ByteArray) (p k n:Nat) (hp:p+n≤s.size) (h:tst s p n=false):bgs s p (k+1) n=bgs s p k (n+1):=by
 rw [bgs,if_pos hp,h];rfl
set_option maxHeartbeats 4000000 in
theorem begins_any (s:ByteArray) (p:Nat) (w:World) (hp:p<s.size) (hs:s.size≤4398046511104) :
 Calls Tryz.prog 89 #[.string s,.int .i64 p] w fun e w'=>e = .returned (.int .i64 (beginsU s p))∧Below w.heap.size w w':=by
 have hpi:(p:Int)<(s.size:Int):=by omega
 have hsi:(s.size:Int)≤4398046511104:=by omega
 go_enter Tryz.func89,Tryz.ntmps89
 go_wp2_with fail
 go_loopw [5,6,7] (fun vn _ _ wr=>∃ (n:Nat),vn = .int .i64 n∧1≤n∧n≤5∧Hid (beginsU s p=bgs s p (5 - n) n)∧Below w.heap.size w wr) (fun vn _ _ _=>5 - (intOf vn).toNat)
 case atStart=>
  exact ⟨1,rfl,by omega,by omega,rfl,Below.refl _ _⟩
 case round=>
  obtain ⟨n,rfl,h1,h5,hB,hb⟩:=hrel
  have HB0:Hid (Below w.heap.size w wr):=hb
  clear hb
  by_cases h4:n=5
  · subst h4
    go_wp2_with fail
    go_ret
    exact ⟨by rw [hB.out];rfl,HB0.out⟩
  · by_cases hle:p+n≤s.size
    · rcases (show n=1∨n=2∨n=3∨n=4 by omega) with rfl | rfl | rfl | rfl
      ·
       rw [show ((1:Nat):Int)=(1:Int) from rfl]
       go_wp2_with fail
       go_loopw [6,7] (fun vu vi wq=>∃ (k x:Nat),vu = .int .i64 x∧vi = .int .i64 ((k:Int)+1)∧k+1≤1∧x<67108864∧(k≤2→x<1048576)∧(k≤1→x<16384)∧(k=0→x<256)∧Hid (x=acc s p (s.get! p).toNat k)∧Below w.heap.size w wq) (fun _ vi _=>1 - (intOf vi).toNat)
       case atStart=>
        have hm:=(s.get! p).toNat_lt
        have hm2:=Nat.mod_le (s.get! p).toNat (md 1)
        exact ⟨0,(s.get! p).toNat,by rw [w64b,←get_bang s p hp] <;> rfl,rfl,by omega,by omega,by omega,by omega,by omega,rfl,HB0.out⟩
       case round=>
        clear HB0
        obtain ⟨k,x,rfl,rfl,hk,hx,hx2,hx1,hx0,hX,hb⟩:=hrel
        have HB1:Hid (Below w.heap.size w wr):=hb
        clear hb
        have hxi:(x:Int)<67108864:=by omega
        by_cases hlt:k+1<1
        · as_aux_lemma=>
           obtain ⟨q,hq⟩:∃ q:Nat,p+(k+1)=q:=⟨_,rfl⟩
           have hqi:(p:Int)+((k:Int)+1)=(q:Int):=by omega
           have hqs:(q:Int)<(s.size:Int):=by omega
           have HQ:Hid (p+(k+1)=q):=hq
           clear hq
           have hxj:(x:Int)<1048576:=by omega
           have hlt':(k:Int)+1<1:=by omega
           omega
        · have hk1:k=0:=by omega
          subst hk1
          have HN:Hid (num s p 1=x):=hX.out.symm
          have hlei:(p:Int)+1≤(s.size:Int):=by omega
          clear hX hlt hx2 hx1 hx0 hk
          cases hq:tst s p 1 with
          | true=>
           as_aux_lemma=>
            have hq1:wd x=1∧put x=s.extract p (p+1):=by unfold tst at hq;rw [HN.out] at hq;exact of_decide_eq_true hq
            have HR:Hid (beginsU s p=x):=by show beginsU s p=x;rw [hB.out,show 5 - 1=(4 - 1)+1 by rfl,bgs,if_pos hle,if_pos hq,HN.out]
            have cW:Hid (∀ W:World,Calls Tryz.prog 90 #[.int .i64 x] W fun e w'=>e = .returned (.int .i64 1)∧w'=W):=fun W=>by have:=rwidth_any x W;rw [hq1.1] at this;exact this
            have cP:Hid (∀ W:World,Calls Tryz.prog 116 #[.int .i64 x] W fun e w'=>e = .returned (.string (s.extract p (p+1)))∧Below W.heap.size W w'):=fun W=>by have:=rput_any x W;rw [hq1.2] at this;exact this
            clear hq hq1 hB HN
            go_wp2_with fail
            refine wp_region_quiet_below mixed (by kernel_rfl) ?_
            repeat (go_big_quiet_step ((first | (go_at_call 90;exact below_same (cW.out _)) | (go_at_call 116;exact below_of (cP.out _)))))
            refine wpQuiet_nil ?_
            intro _ hw'
            obtain ⟨⟨w2,hb2⟩,hw''⟩:=hw'
            subst hw''
            go_wp2_with fail
            go_ret
            exact ⟨by rw [HR.out];rfl,HB1.out.trans (hb2.mono HB1.out.size)⟩
          | false=>
           as_aux_lemma=>
            have HR:Hid (beginsU s p=bgs s p (5 - (1+1)) (1+1)):=hB.out.trans (bgs_no s p (4 - 1) 1 hle hq)
            by_cases hw:wd x=1
            · have hne:put x≠s.extract p (p+1):=fun h=>by unfold tst at hq;rw [HN.out] at hq;exact absurd ⟨hw,h⟩ (of_decide_eq_false hq)
              have cW:Hid (∀ W:World,Calls Tryz.prog 90 #[.int .i64 x] W fun e w'=>e = .returned (.int .i64 1)∧w'=W):=fun W=>by have:=rwidth_any x W;rw [hw] at this;exact this
              obtain ⟨z,hz⟩:∃ z,put x=z:=⟨_,rfl⟩
              have cP:Hid (∀ W:World,Calls Tryz.prog 116 #[.int .i64 x] W fun e w'=>e = .returned (.string z)∧Below W.heap.size W w'):=fun W=>by have:=rput_any x W;rw [hz] at this;exact this
              rw [hz] at hne
              have hzn:=bstr_ne hne
              clear hq hw hz hne hB HN
              go_wp2_with fail
              refine wp_region_quiet_below mixed (by kernel_rfl) ?_
              repeat (go_big_quiet_step ((first | (go_at_call 90;exact below_same (cW.out _)) | (go_at_call 116;exact below_of (cP.out _)))))
              refine wpQuiet_nil ?_
              intro _ hw'
              obtain ⟨⟨w2,hb2⟩,hw''⟩:=hw'
              subst hw''
              go_wp2_with fail
              exact ⟨⟨1+1,rfl,by omega,by omega,HR,HB1.out.trans (hb2.mono HB1.out.size)⟩,by simp [intOf]⟩
            · obtain ⟨d,hd⟩:∃ d,wd x=d:=⟨_,rfl⟩
              have cW:Hid (∀ W:World,Calls Tryz.prog 90 #[.int .i64 x] W fun e w'=>e = .returned (.int .i64 d)∧w'=W):=fun W=>by have:=rwidth_any x W;rw [hd] at this;exact this
              rw [hd] at hw
              have hdn:(d == 1)=false:=by simpa using hw
              clear hq hw hd hB HN
              go_wp2_with fail
              refine wp_region_quiet_below mixed (by kernel_rfl) ?_
              repeat (go_big_quiet_step ((go_at_call 90;exact below_same (cW.out _))))
              refine wpQuiet_nil ?_
              intro _ hw'
              obtain ⟨⟨w2,hb2⟩,hw''⟩:=hw'
              subst hw''
              go_wp2_with fail
              exact ⟨⟨1+1,rfl,by omega,by omega,HR,HB1.out.trans (hb2.mono HB1.out.size)⟩,by simp [intOf]⟩
      ·
       rw [show ((2:Nat):Int)=(2:Int) from rfl]
       go_wp2_with fail
       go_loopw [6,7] (fun vu vi wq=>∃ (k x:Nat),vu = .int .i64 x∧vi = .int .i64 ((k:Int)+1)∧k+1≤2∧x<67108864∧(k≤2→x<1048576)∧(k≤1→x<16384)∧(k=0→x<256)∧Hid (x=acc s p ((s.get! p).toNat % md 2) k)∧Below w.heap.size w wq) (fun _ vi _=>2 - (intOf vi).toNat)
       case atStart=>
        have hm:=(s.get! p).toNat_lt
        have hm2:=Nat.mod_le (s.get! p).toNat (md 2)
        exact ⟨0,((s.get! p).toNat % md 2),by rw [w64b,←get_bang s p hp] <;> rfl,rfl,by omega,by omega,by omega,by omega,by omega,rfl,(HB0.out.alloc HB0.out.size _)⟩
       case round=>
        clear HB0
        obtain ⟨k,x,rfl,rfl,hk,hx,hx2,hx1,hx0,hX,hb⟩:=hrel
        have HB1:Hid (Below w.heap.size w wr):=hb
        clear hb
        have hxi:(x:Int)<67108864:=by omega
        by_cases hlt:k+1<2
        · as_aux_lemma=>
           obtain ⟨q,hq⟩:∃ q:Nat,p+(k+1)=q:=⟨_,rfl⟩
           have hqi:(p:Int)+((k:Int)+1)=(q:Int):=by omega
           have hqs:(q:Int)<(s.size:Int):=by omega
           have HQ:Hid (p+(k+1)=q):=hq
           clear hq
           have hxj:(x:Int)<1048576:=by omega
           have hlt':(k:Int)+1<2:=by omega
           go_wp2_with fail
           refine ⟨⟨k+1,x*64+s[q].toNat % 64,by rw [step_val x s[q] (by omega)],by rw [show ((k:Int)+1+1)=(((k+1:Nat):Int)+1) by omega],by omega,by omega,by omega,by omega,by omega,?_,HB1.out⟩,by simp [intOf];omega⟩
           show x*64+s[q].toNat % 64=acc s p _ k*64+(s.get! (p+(k+1))).toNat % 64
           rw [←hX.out,HQ.out,get_bang s q (by omega)]
        · have hk1:k=1:=by omega
          subst hk1
          have HN:Hid (num s p 2=x):=hX.out.symm
          have hlei:(p:Int)+2≤(s.size:Int):=by omega
          clear hX hlt hx2 hx1 hx0 hk
          cases hq:tst s p 2 with
          | true=>
           as_aux_lemma=>
            have hq1:wd x=2∧put x=s.extract p (p+2):=by unfold tst at hq;rw [HN.out] at hq;exact of_decide_eq_true hq
            have HR:Hid (beginsU s p=x):=by show beginsU s p=x;rw [hB.out,show 5 - 2=(4 - 2)+1 by rfl,bgs,if_pos hle,if_pos hq,HN.out]
            have cW:Hid (∀ W:World,Calls Tryz.prog 90 #[.int .i64 x] W fun e w'=>e = .returned (.int .i64 2)∧w'=W):=fun W=>by have:=rwidth_any x W;rw [hq1.1] at this;exact this
            have cP:Hid (∀ W:World,Calls Tryz.prog 116 #[.int .i64 x] W fun e w'=>e = .returned (.string (s.extract p (p+2)))∧Below W.heap.size W w'):=fun W=>by have:=rput_any x W;rw [hq1.2] at this;exact this
            clear hq hq1 hB HN
            go_wp2_with fail
            refine wp_region_quiet_below mixed (by kernel_rfl) ?_
            repeat (go_big_quiet_step ((first | (go_at_call 90;exact below_same (cW.out _)) | (go_at_call 116;exact below_of (cP.out _)))))
            refine wpQuiet_nil ?_
            intro _ hw'
            obtain ⟨⟨w2,hb2⟩,hw''⟩:=hw'
            subst hw''
            go_wp2_with fail
            go_ret
            exact ⟨by rw [HR.out];rfl,HB1.out.trans (hb2.mono HB1.out.size)⟩
          | false=>
           as_aux_lemma=>
            have HR:Hid (beginsU s p=bgs s p (5 - (2+1)) (2+1)):=hB.out.trans (bgs_no s p (4 - 2) 2 hle hq)
            by_cases hw:wd x=2
            · have hne:put x≠s.extract p (p+2):=fun h=>by unfold tst at hq;rw [HN.out] at hq;exact absurd ⟨hw,h⟩ (of_decide_eq_false hq)
              have cW:Hid (∀ W:World,Calls Tryz.prog 90 #[.int .i64 x] W fun e w'=>e = .returned (.int .i64 2)∧w'=W):=fun W=>by have:=rwidth_any x W;rw [hw] at this;exact this
              obtain ⟨z,hz⟩:∃ z,put x=z:=⟨_,rfl⟩
              have cP:Hid (∀ W:World,Calls Tryz.prog 116 #[.int .i64 x] W fun e w'=>e = .returned (.string z)∧Below W.heap.size W w'):=fun W=>by have:=rput_any x W;rw [hz] at this;exact this
              rw [hz] at hne
              have hzn:=bstr_ne hne
              clear hq hw hz hne hB HN
              go_wp2_with fail
              refine wp_region_quiet_below mixed (by kernel_rfl) ?_
              repeat (go_big_quiet_step ((first | (go_at_call 90;exact below_same (cW.out _)) | (go_at_call 116;exact below_of (cP.out _)))))
              refine wpQuiet_nil ?_
              intro _ hw'
              obtain ⟨⟨w2,hb2⟩,hw''⟩:=hw'
              subst hw''
              go_wp2_with fail
              exact ⟨⟨2+1,rfl,by omega,by omega,HR,HB1.out.trans (hb2.mono HB1.out.size)⟩,by simp [intOf]⟩
            · obtain ⟨d,hd⟩:∃ d,wd x=d:=⟨_,rfl⟩
              have cW:Hid (∀ W:World,Calls Tryz.prog 90 #[.int .i64 x] W fun e w'=>e = .returned (.int .i64 d)∧w'=W):=fun W=>by have:=rwidth_any x W;rw [hd] at this;exact this
              rw [hd] at hw
              have hdn:(d == 2)=false:=by simpa using hw
              clear hq hw hd hB HN
              go_wp2_with fail
              refine wp_region_quiet_below mixed (by kernel_rfl) ?_
              repeat (go_big_quiet_step ((go_at_call 90;exact below_same (cW.out _))))
              refine wpQuiet_nil ?_
              intro _ hw'
              obtain ⟨⟨w2,hb2⟩,hw''⟩:=hw'
              subst hw''
              go_wp2_with fail
              exact ⟨⟨2+1,rfl,by omega,by omega,HR,HB1.out.trans (hb2.mono HB1.out.size)⟩,by simp [intOf]⟩
      ·
       rw [show ((3:Nat):Int)=(3:Int) from rfl]
       go_wp2_with fail
       go_loopw [6,7] (fun vu vi wq=>∃ (k x:Nat),vu = .int .i64 x∧vi = .int .i64 ((k:Int)+1)∧k+1≤3∧x<67108864∧(k≤2→x<1048576)∧(k≤1→x<16384)∧(k=0→x<256)∧Hid (x=acc s p ((s.get! p).toNat % md 3) k)∧Below w.heap.size w wq) (fun _ vi _=>3 - (intOf vi).toNat)
       case atStart=>
        have hm:=(s.get! p).toNat_lt
        have hm2:=Nat.mod_le (s.get! p).toNat (md 3)
        exact ⟨0,((s.get! p).toNat % md 3),by rw [w64b,←get_bang s p hp] <;> rfl,rfl,by omega,by omega,by omega,by omega,by omega,rfl,(HB0.out.alloc HB0.out.size _)⟩
       case round=>
        clear HB0
        obtain ⟨k,x,rfl,rfl,hk,hx,hx2,hx1,hx0,hX,hb⟩:=hrel
        have HB1:Hid (Below w.heap.size w wr):=hb
        clear hb
        have hxi:(x:Int)<67108864:=by omega
        by_cases hlt:k+1<3
        · as_aux_lemma=>
           obtain ⟨q,hq⟩:∃ q:Nat,p+(k+1)=q:=⟨_,rfl⟩
           have hqi:(p:Int)+((k:Int)+1)=(q:Int):=by omega
           have hqs:(q:Int)<(s.size:Int):=by omega
           have HQ:Hid (p+(k+1)=q):=hq
           clear hq
           have hxj:(x:Int)<1048576:=by omega
           have hlt':(k:Int)+1<3:=by omega
           go_wp2_with fail
           refine ⟨⟨k+1,x*64+s[q].toNat % 64,by rw [step_val x s[q] (by omega)],by rw [show ((k:Int)+1+1)=(((k+1:Nat):Int)+1) by omega],by omega,by omega,by omega,by omega,by omega,?_,HB1.out⟩,by simp [intOf];omega⟩
           show x*64+s[q].toNat % 64=acc s p _ k*64+(s.get! (p+(k+1))).toNat % 64
           rw [←hX.out,HQ.out,get_bang s q (by omega)]
        · have hk1:k=2:=by omega
          subst hk1
          have HN:Hid (num s p 3=x):=hX.out.symm
          have hlei:(p:Int)+3≤(s.size:Int):=by omega
          clear hX hlt hx2 hx1 hx0 hk
          cases hq:tst s p 3 with
          | true=>
           as_aux_lemma=>
            have hq1:wd x=3∧put x=s.extract p (p+3):=by unfold tst at hq;rw [HN.out] at hq;exact of_decide_eq_true hq
            have HR:Hid (beginsU s p=x):=by show beginsU s p=x;rw [hB.out,show 5 - 3=(4 - 3)+1 by rfl,bgs,if_pos hle,if_pos hq,HN.out]
            have cW:Hid (∀ W:World,Calls Tryz.prog 90 #[.int .i64 x] W fun e w'=>e = .returned (.int .i64 3)∧w'=W):=fun W=>by have:=rwidth_any x W;rw [hq1.1] at this;exact this
            have cP:Hid (∀ W:World,Calls Tryz.prog 116 #[.int .i64 x] W fun e w'=>e = .returned (.string (s.extract p (p+3)))∧Below W.heap.size W w'):=fun W=>by have:=rput_any x W;rw [hq1.2] at this;exact this
            clear hq hq1 hB HN
            go_wp2_with fail
            refine wp_region_quiet_below mixed (by kernel_rfl) ?_
            repeat (go_big_quiet_step ((first | (go_at_call 90;exact below_same (cW.out _)) | (go_at_call 116;exact below_of (cP.out _)))))
            refine wpQuiet_nil ?_
            intro _ hw'
            obtain ⟨⟨w2,hb2⟩,hw''⟩:=hw'
            subst hw''
            go_wp2_with fail
            go_ret
            exact ⟨by rw [HR.out];rfl,HB1.out.trans (hb2.mono HB1.out.size)⟩
          | false=>
           as_aux_lemma=>
            have HR:Hid (beginsU s p=bgs s p (5 - (3+1)) (3+1)):=hB.out.trans (bgs_no s p (4 - 3) 3 hle hq)
            by_cases hw:wd x=3
            · have hne:put x≠s.extract p (p+3):=fun h=>by unfold tst at hq;rw [HN.out] at hq;exact absurd ⟨hw,h⟩ (of_decide_eq_false hq)
              have cW:Hid (∀ W:World,Calls Tryz.prog 90 #[.int .i64 x] W fun e w'=>e = .returned (.int .i64 3)∧w'=W):=fun W=>by have:=rwidth_any x W;rw [hw] at this;exact this
              obtain ⟨z,hz⟩:∃ z,put x=z:=⟨_,rfl⟩
              have cP:Hid (∀ W:World,Calls Tryz.prog 116 #[.int .i64 x] W fun e w'=>e = .returned (.string z)∧Below W.heap.size W w'):=fun W=>by have:=rput_any x W;rw [hz] at this;exact this
              rw [hz] at hne
              have hzn:=bstr_ne hne
              clear hq hw hz hne hB HN
              go_wp2_with fail
              refine wp_region_quiet_below mixed (by kernel_rfl) ?_
              repeat (go_big_quiet_step ((first | (go_at_call 90;exact below_same (cW.out _)) | (go_at_call 116;exact below_of (cP.out _)))))
              refine wpQuiet_nil ?_
              intro _ hw'
              obtain ⟨⟨w2,hb2⟩,hw''⟩:=hw'
              subst hw''
              go_wp2_with fail
              exact ⟨⟨3+1,rfl,by omega,by omega,HR,HB1.out.trans (hb2.mono HB1.out.size)⟩,by simp [intOf]⟩
            · obtain ⟨d,hd⟩:∃ d,wd x=d:=⟨_,rfl⟩
              have cW:Hid (∀ W:World,Calls Tryz.prog 90 #[.int .i64 x] W fun e w'=>e = .returned (.int .i64 d)∧w'=W):=fun W=>by have:=rwidth_any x W;rw [hd] at this;exact this
              rw [hd] at hw
              have hdn:(d == 3)=false:=by simpa using hw
              clear hq hw hd hB HN
              go_wp2_with fail
              refine wp_region_quiet_below mixed (by kernel_rfl) ?_
              repeat (go_big_quiet_step ((go_at_call 90;exact below_same (cW.out _))))
              refine wpQuiet_nil ?_
              intro _ hw'
              obtain ⟨⟨w2,hb2⟩,hw''⟩:=hw'
              subst hw''
              go_wp2_with fail
              exact ⟨⟨3+1,rfl,by omega,by omega,HR,HB1.out.trans (hb2.mono HB1.out.size)⟩,by simp [intOf]⟩
      ·
       rw [show ((4:Nat):Int)=(4:Int) from rfl]
       go_wp2_with fail
       go_loopw [6,7] (fun vu vi wq=>∃ (k x:Nat),vu = .int .i64 x∧vi = .int .i64 ((k:Int)+1)∧k+1≤4∧x<67108864∧(k≤2→x<1048576)∧(k≤1→x<16384)∧(k=0→x<256)∧Hid (x=acc s p ((s.get! p).toNat % md 4) k)∧Below w.heap.size w wq) (fun _ vi _=>4 - (intOf vi).toNat)
       case atStart=>
        have hm:=(s.get! p).toNat_lt
        have hm2:=Nat.mod_le (s.get! p).toNat (md 4)
        exact ⟨0,((s.get! p).toNat % md 4),by rw [w64b,←get_bang s p hp] <;> rfl,rfl,by omega,by omega,by omega,by omega,by omega,rfl,(HB0.out.alloc HB0.out.size _)⟩
       case round=>
        clear HB0
        obtain ⟨k,x,rfl,rfl,hk,hx,hx2,hx1,hx0,hX,hb⟩:=hrel
        have HB1:Hid (Below w.heap.size w wr):=hb
        clear hb
        have hxi:(x:Int)<67108864:=by omega
        by_cases hlt:k+1<4
        · as_aux_lemma=>
           obtain ⟨q,hq⟩:∃ q:Nat,p+(k+1)=q:=⟨_,rfl⟩
           have hqi:(p:Int)+((k:Int)+1)=(q:Int):=by omega
           have hqs:(q:Int)<(s.size:Int):=by omega
           have HQ:Hid (p+(k+1)=q):=hq
           clear hq
           have hxj:(x:Int)<1048576:=by omega
           have hlt':(k:Int)+1<4:=by omega
           go_wp2_with fail
           refine ⟨⟨k+1,x*64+s[q].toNat % 64,by rw [step_val x s[q] (by omega)],by rw [show ((k:Int)+1+1)=(((k+1:Nat):Int)+1) by omega],by omega,by omega,by omega,by omega,by omega,?_,HB1.out⟩,by simp [intOf];omega⟩
           show x*64+s[q].toNat % 64=acc s p _ k*64+(s.get! (p+(k+1))).toNat % 64
           rw [←hX.out,HQ.out,get_bang s q (by omega)]
        · have hk1:k=3:=by omega
          subst hk1
          have HN:Hid (num s p 4=x):=hX.out.symm
          have hlei:(p:Int)+4≤(s.size:Int):=by omega
          clear hX hlt hx2 hx1 hx0 hk
          cases hq:tst s p 4 with
          | true=>
           as_aux_lemma=>
            have hq1:wd x=4∧put x=s.extract p (p+4):=by unfold tst at hq;rw [HN.out] at hq;exact of_decide_eq_true hq
            have HR:Hid (beginsU s p=x):=by show beginsU s p=x;rw [hB.out,show 5 - 4=(4 - 4)+1 by rfl,bgs,if_pos hle,if_pos hq,HN.out]
            have cW:Hid (∀ W:World,Calls Tryz.prog 90 #[.int .i64 x] W fun e w'=>e = .returned (.int .i64 4)∧w'=W):=fun W=>by have:=rwidth_any x W;rw [hq1.1] at this;exact this
            have cP:Hid (∀ W:World,Calls Tryz.prog 116 #[.int .i64 x] W fun e w'=>e = .returned (.string (s.extract p (p+4)))∧Below W.heap.size W w'):=fun W=>by have:=rput_any x W;rw [hq1.2] at this;exact this
            clear hq hq1 hB HN
            go_wp2_with fail
            refine wp_region_quiet_below mixed (by kernel_rfl) ?_
            repeat (go_big_quiet_step ((first | (go_at_call 90;exact below_same (cW.out _)) | (go_at_call 116;exact below_of (cP.out _)))))
            refine wpQuiet_nil ?_
            intro _ hw'
            obtain ⟨⟨w2,hb2⟩,hw''⟩:=hw'
            subst hw''
            go_wp2_with fail
            go_ret
            exact ⟨by rw [HR.out];rfl,HB1.out.trans (hb2.mono HB1.out.size)⟩
          | false=>
           as_aux_lemma=>
            have HR:Hid (beginsU s p=bgs s p (5 - (4+1)) (4+1)):=hB.out.trans (bgs_no s p (4 - 4) 4 hle hq)
            by_cases hw:wd x=4
            · have hne:put x≠s.extract p (p+4):=fun h=>by unfold tst at hq;rw [HN.out] at hq;exact absurd ⟨hw,h⟩ (of_decide_eq_false hq)
              have cW:Hid (∀ W:World,Calls Tryz.prog 90 #[.int .i64 x] W fun e w'=>e = .returned (.int .i64 4)∧w'=W):=fun W=>by have:=rwidth_any x W;rw [hw] at this;exact this
              obtain ⟨z,hz⟩:∃ z,put x=z:=⟨_,rfl⟩
              have cP:Hid (∀ W:World,Calls Tryz.prog 116 #[.int .i64 x] W fun e w'=>e = .returned (.string z)∧Below W.heap.size W w'):=fun W=>by have:=rput_any x W;rw [hz] at this;exact this
              rw [hz] at hne
              have hzn:=bstr_ne hne
              clear hq hw hz hne hB HN
              go_wp2_with fail
              refine wp_region_quiet_below mixed (by kernel_rfl) ?_
              repeat (go_big_quiet_step ((first | (go_at_call 90;exact below_same (cW.out _)) | (go_at_call 116;exact below_of (cP.out _)))))
              refine wpQuiet_nil ?_
              intro _ hw'
              obtain ⟨⟨w2,hb2⟩,hw''⟩:=hw'
              subst hw''
              go_wp2_with fail
              exact ⟨⟨4+1,rfl,by omega,by omega,HR,HB1.out.trans (hb2.mono HB1.out.size)⟩,by simp [intOf]⟩
            · obtain ⟨d,hd⟩:∃ d,wd x=d:=⟨_,rfl⟩
              have cW:Hid (∀ W:World,Calls Tryz.prog 90 #[.int .i64 x] W fun e w'=>e = .returned (.int .i64 d)∧w'=W):=fun W=>by have:=rwidth_any x W;rw [hd] at this;exact this
              rw [hd] at hw
              have hdn:(d == 4)=false:=by simpa using hw
              clear hq hw hd hB HN
              go_wp2_with fail
              refine wp_region_quiet_below mixed (by kernel_rfl) ?_
              repeat (go_big_quiet_step ((go_at_call 90;exact below_same (cW.out _))))
              refine wpQuiet_nil ?_
              intro _ hw'
              obtain ⟨⟨w2,hb2⟩,hw''⟩:=hw'
              subst hw''
              go_wp2_with fail
              exact ⟨⟨4+1,rfl,by omega,by omega,HR,HB1.out.trans (hb2.mono HB1.out.size)⟩,by simp [intOf]⟩
    · as_aux_lemma=>
       have hle':¬ ((p:Int)+n≤(s.size:Int)):=by omega
       go_wp2_with fail
       go_ret
       obtain ⟨j,hj⟩:∃ j,5 - n=j+1:=⟨4 - n,by omega⟩
       refine ⟨?_,HB0.out⟩
       rw [hB.out,hj,bgs,if_neg hle]
       rfl
def OwnU (w:World) (base:Nat) (v:Value) (l:List (Nat × Nat)):Prop:=w.ownsRow base 96 2 v l.length (flat l)
theorem info89:(Tryz.prog.info? 96).map (fun i=>(i.zero,i.size,i.bytes))=some (some (.agg #[.int .i64 0,.int .i64 0]),2,16):=by kernel_rfl
theorem flat_append (l r:List (Nat × Nat)):flat (l++r)=flat l++flat r:=by simp [flat]
theorem flat_at:∀ (l:List (Nat × Nat)) {j:Nat} {x:Nat × Nat},l[j]? = some x→(flat l)[j*2]? = some (.int .i64 x.1)∧(flat l)[j*2+1]? = some (.int .i64 x.2)
 | [],j,x,h=>by simp at h
 | y::l,0,x,h=>by simp at h;subst h;simp [flat]
 | y::l,j+1,x,h=>by
  have ih:=flat_at l (j:=j) (x:=x) (by simpa using h)
  have e:flat (y::l) = .int .i64 y.1 :: .int .i64 y.2::flat l:=by simp [flat]
  rw [e,show (j+1)*2=j*2+1+1 by omega]
  simpa using ih
theorem addr_zero (g j:Nat):(⟨g,0,none⟩:Addr).add j=⟨g,j,none⟩:=by
 unfold Addr.add
 by_cases h:j=0
 · subst h;rfl
 · simp [h]
theorem OwnU.at {w:World} {base g n cap:Nat} {l:List (Nat × Nat)} (h:OwnU w base (.slice (some ⟨g,0,none⟩) n cap) l) {j:Nat} {x:Nat × Nat} (hj:l[j]? = some x):w.cell? ⟨g,j*2,none⟩=some (.int .i64 x.1)∧w.cell? ⟨g,j*2+1,none⟩=some (.int .i64 x.2):=by
 have h1:=h.cells rfl
 have:=flat_at l hj
 have a1:=h1 _ _ this.1
 have a2:=h1 _ _ this.2
 rw [addr_zero] at a1 a2
 exact ⟨a1,a2⟩
theorem OwnU.alloc {w:World} {base:Nat} {v:Value} {l:List (Nat × Nat)} (h:OwnU w base v l) (o:Obj):OwnU (w.alloc o) base v l:=World.ownsRow.alloc h o
theorem OwnU.below {w w':World} {base n:Nat} {v:Value} {l:List (Nat × Nat)} (h:OwnU w base v l) (hb:Below n w w') (hn:w.heap.size≤n):OwnU w' base v l:=by
 refine ⟨h.1,?_⟩
 rcases h.2 with h | ⟨g,cap,cur,rfl,h1,h2,h3⟩
 · exact .inl h
 · have:g<w.heap.size:=(Array.getElem?_eq_some_iff.1 h2).1
   exact .inr ⟨g,cap,cur,rfl,h1,(hb.block g (by omega)).trans h2,h3⟩
theorem uinfo_parts {P:Program} {e:TypeId} {z:Value} {s b:Nat} (h:(P.info? e).map (fun i=>(i.zero,i.size,i.bytes))=some (some z,s,b)):∃ i,P.info? e=some i∧i.zero=some z∧i.size=s∧i.bytes=b:=by
 cases hi:P.info? e with
 | none=>rw [hi] at h;simp at h
 | some i=>rw [hi] at h;simp at h;exact ⟨i,rfl,h.1,h.2.1,h.2.2⟩
theorem push_U {ops:Array Oper} {rest:List Oper} {o:Oper} {a:Act} {Q:Exit→Act→World→Prop} {w:World} (hgd:o.guard=none) (s x:Operand)
 (ho:o.op = .call { callee := .builtin .append,args:=#[s,x],argTypes:=#[93,93] })
 (base:Nat) (v:Value) (l:List (Nat × Nat)) (hs:a.eval s=v) (hown:OwnU w base v l) (g c:Nat) (p q:Nat) (q':Int) (hqq:q'=(q:Int)) (hx:a.eval x = .slice (some ⟨g,0,none⟩) 1 c)
 (hp:w.cell? ⟨g,0,none⟩=some (.int .i64 p)) (hq:w.cell? ⟨g,1,none⟩=some (.int .i64 q')) (hl:l.length+1≤8796093022208) (hbase:base≤w.heap.size)
 (h:∀ v' w',OwnU w' base v' (l++[(p,q)])→Below base w w'→wpList Tryz.prog ops Q rest (a.put o.dst v') w'):wpList Tryz.prog ops Q (o::rest) a w:=by
 subst hqq
 obtain ⟨i0,hi,hz0,hz1,hz2⟩:=uinfo_parts info89
 refine wpList_append_own w hgd s x 93 ho base 96 i0 (.agg #[.int .i64 0,.int .i64 0]) 2 16 Tryz.underlying93 hi hz0 hz1 hz2 rfl (by decide) v l.length (flat l) hs hown ⟨g,0,none⟩ 1 c (flat [(p,q)]) hx rfl ?_ ?_ (by unfold maxLen;omega) (by omega) hbase (fun v' w' h2 h3 _=>h v' w' ?_ ((Below.refl _ w).grown h3 hbase (fun k hk=>(World.ownsRow.lt hown k hk).1)))
 · intro j u hj
   match j,hj with
   | 0,hj=>simp [flat] at hj;subst hj;exact hp
   | 1,hj=>simp [flat] at hj;subst hj;exact hq
 · intro u hu;simp [flat] at hu;rcases hu with rfl | rfl <;> rfl
 · unfold OwnU
   rw [flat_append,List.length_append]
   exact h2
theorem units_next (s:ByteArray) (p:Nat) (hp:p<s.size):unitsN s s.size p=(p,uAt s p)::unitsN s s.size (p+uw s p):=by
 obtain ⟨j,hj⟩:∃ j,s.size=j+1:=⟨s.size - 1,by omega⟩
 have h1:=unitsN_step s j p hp
 have hu:=uw_pos s p
 rw [←hj] at h1
 rw [h1,fuel s j s.size (p+uw s p) (by omega) (by omega)]
theorem units_len (s:ByteArray):(units s).length≤s.size:=units_len_N s _ _
theorem strayVal (s:ByteArray) (p:Nat) (hp:p<s.size):wrap64 (1114112+wrap64 (s[p].toNat:Int))=((1114112+(s.get! p).toNat:Nat):Int):=by
 have:=(s[p]).toNat_lt
 rw [w64b,get_bang s p hp,show (1114112:Int)+((s[p].toNat:Nat):Int)=((1114112+s[p].toNat:Nat):Int) by omega]
 exact IntWalk.wrap64_in _ (by omega)
set_option maxHeartbeats 4000000 in
theorem runits_any (s:ByteArray) (w:World) (hs:s.size≤4398046511104):Calls Tryz.prog 56 #[.string s] w fun e w'=>∃ v,e = .returned v∧OwnU w' w.heap.size v (units s)∧Below w.heap.size w w':=by
 have hsi:(s.size:Int)≤4398046511104:=by omega
 go_enter Tryz.func56,Tryz.ntmps56
 go_wp2
 go_loopw [3,4] (fun vo va wr=>∃ (p:Nat) (l:List (Nat × Nat)),va = .int .i64 p∧p≤s.size∧l.length≤p∧Hid (l++unitsN s s.size p=units s)∧OwnU wr w.heap.size vo l∧Below w.heap.size w wr) (fun _ va _=>s.size - (intOf va).toNat)
 case atStart=>exact ⟨0,[],rfl,by omega,by simp,rfl,World.ownsRow_lit w _ 0 (Nat.le_refl _) (by unfold maxLen;omega) rfl,(Below.refl _ w).alloc (Nat.le_refl _) _⟩
 case round=>
  obtain ⟨p,l,rfl,hp,hl,hU,hO,hB⟩:=hrel
  have HO:Hid (OwnU wr w.heap.size u3 l):=hO
  have HB:Hid (Below w.heap.size w wr):=hB
  clear hO hB
  by_cases hps:p=s.size
  · as_aux_lemma=>
     subst hps
     have e:l=units s:=by rw [←hU.out,unitsN_end s _ _ (by omega),List.append_nil]
     subst e
     clear hU
     go_wp2
     go_ret
     exact ⟨_,rfl,HO.out,HB.out⟩
  · have hlt:p<s.size:=by omega
    have hpi:(p:Int)<(s.size:Int):=by omega
    have hu:=uw_pos s p
    have hin:=uw_in s p hlt
    have HN:Hid ((l++[(p,uAt s p)])++unitsN s s.size (p+uw s p)=units s):=by
     show _=_
     rw [←hU.out,units_next s p hlt];simp
    have hux:=uAt_lt s p
    have HW:Hid (wd (uAt s p:Int)=(uw s p:Int)):=wd_uAt s p
    cases hst:strayAt s p with
    | true=>
     as_aux_lemma=>
      have HE:Hid (beginsU s p = -1):=by show _=_;rw [begins_eq s p hlt,hst];rfl
      have HA:Hid (1114112+(s.get! p).toNat=uAt s p):=(uAt_stray hst).symm
      clear hst hU
      generalize uAt s p=x at *
      generalize uw s p=d at *
      go_wp2_with fail
      refine (begins_any s p _ hlt hs).mono ?_
      rw [HE.out]
      rintro e w1 ⟨rfl,hb1⟩
      replace HO:Hid (OwnU w1 w.heap.size u3 l):=HO.out.below hb1 (Nat.le_refl _)
      replace HB:Hid (Below w.heap.size w w1):=HB.out.trans (hb1.mono HB.out.size)
      have hz:=HB.out.size
      clear hb1 HE
      go_wp2_with (at_builtin;go_must (refine push_U rfl _ _ rfl w.heap.size _ _ rfl (HO.out.alloc _) _ _ p x _ ((strayVal s p hlt).trans (by rw [HA.out])) rfl (by simp) (by simp) (by omega) (by simp;omega) ?_);intro v' w3 hO1 hb3)
      have HO1:Hid (OwnU w3 w.heap.size v' (l++[(p,x)])):=hO1
      have HB3:Hid (Below w.heap.size w w3):=(HB.out.alloc hz _).trans hb3
      clear hO1 hb3 HO HB
      go_wp2_with fail
      refine (rwidth_any _ _).mono ?_
      rw [strayVal s p hlt,HA.out,HW.out]
      rintro e w4 ⟨rfl,rfl⟩
      clear HA HW
      go_wp2
      exact ⟨⟨p+d,_,by go_num,by omega,by simp;omega,HN,HO1.out,HB3.out⟩,by simp [intOf];omega⟩
    | false=>
     as_aux_lemma=>
      have HE:Hid (beginsU s p=(uAt s p:Int)):=by show _=_;rw [begins_eq s p hlt,hst];rfl
      clear hst hU
      generalize uAt s p=x at *
      generalize uw s p=d at *
      clear hux
      have hz:=HB.out.size
      go_wp2_with fail
      refine (begins_any s p _ hlt hs).mono ?_
      rw [HE.out]
      rintro e w1 ⟨rfl,hb1⟩
      replace HO:Hid (OwnU w1 w.heap.size u3 l):=HO.out.below hb1 (Nat.le_refl _)
      replace HB:Hid (Below w.heap.size w w1):=HB.out.trans (hb1.mono HB.out.size)
      replace hz:=HB.out.size
      clear hb1 HE
      go_wp2_with (at_builtin;go_must (refine push_U rfl _ _ rfl w.heap.size _ _ rfl (HO.out.alloc _) _ _ p x _ rfl rfl (by simp) (by simp) (by omega) (by simp;omega) ?_);intro v' w3 hO1 hb3)
      have HO1:Hid (OwnU w3 w.heap.size v' (l++[(p,x)])):=hO1
      have HB3:Hid (Below w.heap.size w w3):=(HB.out.alloc hz _).trans hb3
      clear hO1 hb3 HO HB
      go_wp2_with fail
      refine (rwidth_any _ _).mono ?_
      rw [HW.out]
      rintro e w4 ⟨rfl,rfl⟩
      clear HW
      go_wp2
      exact ⟨⟨p+d,_,by go_num,by omega,by simp;omega,HN,HO1.out,HB3.out⟩,by simp [intOf];omega⟩
def OwnI1 (w:World) (base:Nat) (v:Value) (l:List Int):Prop:=w.ownsRow base 3 1 v l.length (l.map (Value.int .i64))
theorem OwnI1.alloc {w:World} {base:Nat} {v:Value} {l:List Int} (h:OwnI1 w base v l) (o:Obj):OwnI1 (w.alloc o) base v l:=World.ownsRow.alloc h o
theorem push_I1 {ops:Array Oper} {rest:List Oper} {o:Oper} {a:Act} {Q:Exit→Act→World→Prop} {w:World} (hgd:o.guard=none) (s x:Operand)
 (ho:o.op = .call { callee := .builtin .append,args:=#[s,x],argTypes:=#[49,49] })
 (base:Nat) (v:Value) (l:List Int) (hs:a.eval s=v) (hown:OwnI1 w base v l) (g c:Nat) (p:Int) (hx:a.eval x = .slice (some ⟨g,0,none⟩) 1 c)
 (hp:w.cell? ⟨g,0,none⟩=some (.int .i64 p)) (hl:l.length+1≤8796093022208) (hbase:base≤w.heap.size)
 (h:∀ v' w',OwnI1 w' base v' (l++[p])→Below base w w'→wpList Tryz.prog ops Q rest (a.put o.dst v') w'):wpList Tryz.prog ops Q (o::rest) a w:=by
 obtain ⟨i0,hi,hz0,hz1,hz2⟩:=uinfo_parts info3
 refine wpList_append_own w hgd s x 49 ho base 3 i0 (.int .i64 0) 1 8 Tryz.underlying49 hi hz0 hz1 hz2 rfl (by decide) v l.length _ hs hown ⟨g,0,none⟩ 1 c [.int .i64 p] hx rfl ?_ (by simp;rfl) (by unfold maxLen;omega) (by omega) hbase (fun v' w' h2 h3 _=>h v' w' ?_ ((Below.refl _ w).grown h3 hbase (fun k hk=>(World.ownsRow.lt hown k hk).1)))
 · intro j u hj
   match j,hj with
   | 0,hj=>simp at hj;subst hj;exact hp
 · unfold OwnI1
   rw [List.map_append,List.length_append]
   exact h2
def OwnI0 (w:World) (base:Nat) (v:Value) (l:List Int):Prop:=(∃ A,v = .slice A 0 0∧l=[])∨OwnI1 w base v l
theorem OwnI0.alloc {w:World} {base:Nat} {v:Value} {l:List Int} (h:OwnI0 w base v l) (o:Obj):OwnI0 (w.alloc o) base v l:=h.imp id fun h=>h.alloc o
theorem OwnI0.ir {w:World} {base:Nat} {v:Value} {l:List Int} (h:OwnI0 w base v l):IR w v l:=by
 rcases h with ⟨A,rfl,rfl⟩ | h
 · exact ⟨A,0,rfl,Nat.le_refl _,.inl rfl⟩
 · exact OwnI.ir h
theorem push_I0 {ops:Array Oper} {rest:List Oper} {o:Oper} {a:Act} {Q:Exit→Act→World→Prop} {w:World} (hgd:o.guard=none) (s x:Operand)
 (ho:o.op = .call { callee := .builtin .append,args:=#[s,x],argTypes:=#[49,49] })
 (base:Nat) (v:Value) (l:List Int) (hs:a.eval s=v) (hown:OwnI0 w base v l) (g c:Nat) (p:Int) (hx:a.eval x = .slice (some ⟨g,0,none⟩) 1 c)
 (hp:w.cell? ⟨g,0,none⟩=some (.int .i64 p)) (hl:l.length+1≤8796093022208) (hbase:base≤w.heap.size)
 (h:∀ v' w',OwnI0 w' base v' (l++[p])→Below base w w'→wpList Tryz.prog ops Q rest (a.put o.dst v') w'):wpList Tryz.prog ops Q (o::rest) a w:=by
 rcases hown with ⟨A,rfl,rfl⟩ | hown
 · obtain ⟨i0,hi,hz0,hz1,hz2⟩:=uinfo_parts info3
   refine wpList_append_grows w hgd s x 49 ho 3 i0 (.int .i64 0) 1 8 Tryz.underlying49 hi hz0 hz1 hz2 rfl (by decide) A 0 0 [] hs (fun _=>⟨rfl,rfl⟩) rfl (fun b _ j u hj=>by simp at hj) ⟨g,0,none⟩ 1 c [.int .i64 p] hx rfl ?_ (by simp;rfl) (by omega) (by unfold maxLen;omega) (by omega) (fun v' w' h2 h3=>h v' w' (.inr ?_) ((Below.refl _ w).grown h3 hbase (fun k hk=>by cases hk)))
   · intro j u hj
     match j,hj with
     | 0,hj=>simp at hj;subst hj;exact hp
   · exact Joins.ownsRow_le h2 hbase
 · exact push_I1 hgd s x ho base v l hs hown g c p hx hp hl hbase (fun v' w' h1 h2=>h v' w' (.inr h1) h2)
theorem intsU_at {l:List (Nat × Nat)} {i:Nat} {x:Nat × Nat} (h:l[i]? = some x):(intsU l).take (i+1)=(intsU l).take i++[(x.2:Int)]:=by
 obtain ⟨hlt,e⟩:=List.getElem?_eq_some_iff.1 h
 rw [List.take_succ_eq_append_getElem (by rw [intsU_length];exact hlt)]
 simp [intsU,e]
set_option maxHeartbeats 4000000 in
theorem rcut_any (s:ByteArray) (w:World) (hs:s.size≤4398046511104):Calls Tryz.prog 24 #[.string s] w fun e w'=>∃ v,e = .returned v∧IR w' v (intsU (units s))∧Below w.heap.size w w':=by
 have hul:=units_len s
 go_enter Tryz.func24,Tryz.ntmps24
 go_wp2_with fail
 refine (runits_any s _ hs).mono ?_
 rintro e w1 ⟨v,rfl,hO,hb⟩
 obtain ⟨A,n,cap,rfl,hn,hcells⟩:∃ A n cap,v = .slice A n cap∧n=(units s).length∧∀ j x,(units s)[j]? = some x→∃ g,A=some ⟨g,0,none⟩∧g<w1.heap.size∧w1.cell? ⟨g,j*2+1,none⟩=some (.int .i64 x.2)∧n≤cap:=by
  rcases hO.2 with ⟨rfl,h0⟩ | ⟨g,cap,cur,rfl,_,hh,hc,_⟩
  · have:units s=[]:=List.eq_nil_of_length_eq_zero h0
    exact ⟨none,0,0,rfl,by rw [this];rfl,fun j x h=>by rw [this] at h;simp at h⟩
  · exact ⟨_,_,cap,rfl,rfl,fun j x h=>⟨g,rfl,(Array.getElem?_eq_some_iff.1 hh).1,(OwnU.at hO h).2,hc⟩⟩
 have HC:Hid (∀ j x,(units s)[j]? = some x→∃ g,A=some ⟨g,0,none⟩∧g<w1.heap.size∧w1.cell? ⟨g,j*2+1,none⟩=some (.int .i64 x.2)∧n≤cap):=hcells
 have HN:Hid (n=(units s).length):=hn
 have hni:n≤4398046511104:=by omega
 have hb0:Below w.heap.size w w1:=by
  first | exact hb | exact ((Below.refl _ w).alloc (Nat.le_refl _) _).trans (hb.mono (by simp))
 have HB:Hid (Below w.heap.size w w1):=hb0
 have hz1:w.heap.size≤w1.heap.size:=hb0.size
 clear hcells hb hn hO hb0 hul
 go_wp2
 go_loopw [3,5] (fun vo vi wr=>∃ i:Nat,vi = .int .i64 i∧i≤n∧OwnI0 wr w1.heap.size vo ((intsU (units s)).take i)∧Below w1.heap.size w1 wr) (fun _ vi _=>n - (intOf vi).toNat)
 case atStart=>exact ⟨0,rfl,by omega,.inl ⟨_,rfl,rfl⟩,Below.refl _ _⟩
 case round=>
  obtain ⟨i,rfl,hi,hO,hW⟩:=hrel
  have hz:w1.heap.size≤wr.heap.size:=hW.size
  by_cases hin:i=n
  · as_aux_lemma=>
     have hni':=hin.symm
     subst hni'
     have HO:Hid (IR wr u3 (intsU (units s))):=by
      have:=hO.ir
      rw [List.take_of_length_le (by rw [intsU_length,HN.out];exact Nat.le_refl _)] at this
      exact this
     have HW:Hid (Below w1.heap.size w1 wr):=hW
     clear hO hW
     go_wp2
     go_ret
     exact ⟨_,rfl,HO.out,HB.out.trans (HW.out.mono hz1)⟩
  · as_aux_lemma=>
     obtain ⟨x,hx⟩:∃ x,(units s)[i]? = some x:=⟨_,List.getElem?_eq_getElem (by rw [←HN.out];omega)⟩
     obtain ⟨g,rfl,hg,hc,hcap⟩:=HC.out i x hx
     have hc':=(hW.cell (p:=⟨g,i*2+1,none⟩) hg).trans hc
     have HT:Hid ((intsU (units s)).take (i+1)=(intsU (units s)).take i++[(x.2:Int)]):=intsU_at hx
     have hlen:((intsU (units s)).take i).length=i:=by rw [List.length_take,intsU_length,←HN.out];omega
     have HO:Hid (OwnI0 wr w1.heap.size u3 ((intsU (units s)).take i)):=hO
     have HW:Hid (Below w1.heap.size w1 wr):=hW
     have HL:Hid (((intsU (units s)).take i).length=i):=hlen
     clear hx hc hO hW hlen
     go_wp2_with (at_builtin;go_must (refine push_I0 rfl _ _ rfl w1.heap.size _ _ rfl (HO.out.alloc _) _ _ (x.2:Int) rfl (by simp) (by rw [HL.out];omega) (by simp;omega) ?_);intro v' w3 hO1 hb3)
     exact ⟨⟨i+1,by go_num,by omega,by rw [HT.out];exact hO1,(HW.out.alloc hz _).trans hb3⟩,by simp [intOf];omega⟩
section
variable {w:World} {base xb:Nat} {pv rv sv gv cv:Value} {G:List It} {S:List (Value × List It)} {C:List (Value × List (Pc × Value))} {R:List LRu} {re:List Value} {n:Nat}
end
set_option maxHeartbeats 2000000 in
theorem in_walk (A:Option Addr) (c:Nat) (l:List (Int × Int)) (u:Int) (w:World) (h:l=[]∨∃ g o,A=some ⟨g,o,none⟩∧Reads w g o l) (hn:l.length≤1152921504606846976) :
 Calls Tryz.prog 175 #[.slice A l.length c,.int .i64 u] w fun e w'=>e = .returned (.bool (decide (hasU l u)))∧Grown w w':=by
 obtain ⟨n,hnn⟩:∃ n,l.length=n:=⟨_,rfl⟩
 have HN:Hid (l.length=n):=hnn
 have HH:Hid (l=[]∨∃ g o,A=some ⟨g,o,none⟩∧Reads w g o l):=h
 rw [hnn] at hn ⊢
 obtain ⟨r,hr⟩:∃ r:Bool,decide (hasU l u)=r:=⟨_,rfl⟩
 have HR:Hid (decide (hasU l u)=r):=hr
 rw [hr]
 clear hr hnn h
 go_enter Tryz.func175,Tryz.ntmps175
 go_wp2
 go_loopw [5] (fun vi wr=>∃ k:Nat,vi = .int .i64 k∧k≤n∧Hid (∀ j,j<k→¬ ((rg l j).1≤u∧u≤(rg l j).2))∧Grown w wr) (fun vi _=>n - (intOf vi).toNat)
 case atStart=>exact ⟨0,rfl,by omega,fun j hj=>by omega,Grown.refl _⟩
 case round=>
  obtain ⟨k,rfl,hk,hT,hG⟩:=hrel
  have hpos:(0:Int)≤(k:Int):=by omega
  by_cases hlt:k<n
  · have hlt':(k:Int)<(n:Int):=by omega
    have hkl:k<l.length:=by rw [HN.out];exact hlt
    obtain ⟨g,o,hA,hr1⟩:=HH.out.resolve_left (fun e=>by rw [e] at hkl;simp at hkl)
    subst hA
    obtain ⟨p,q,hpq⟩:∃ p q:Int,rg l k=(p,q):=⟨_,_,rfl⟩
    have x1:=hr1 k hkl
    rw [hpq] at x1
    have cp:=hG.cellv x1.1
    have cq:=hG.cellv x1.2
    simp only at cp cq
    have HNx:Hid (¬ (p≤u∧u≤q)→∀ j,j<k+1→¬ ((rg l j).1≤u∧u≤(rg l j).2)):=fun hno j hj=>by
     by_cases e:j=k
     · subst e;rw [hpq];exact hno
     · exact hT.out j (by omega)
    have HYs:Hid ((p≤u∧u≤q)→r=true):=fun hy=>by
     rw [←HR.out,decide_eq_true_eq,hasU_iff]
     exact ⟨k,hkl,by rw [hpq];exact hy⟩
    clear x1 hr1 hpq hT
    by_cases h1:p≤u
    · by_cases h2:u≤q
      · have HF:Hid (r=true):=HYs.out ⟨h1,h2⟩
        clear HNx HYs
        go_wp2
        go_ret
        have hrf:=HF.out
        exact ⟨by first | rfl | (rw [hrf];rfl),hG⟩
      · have HX:Hid (∀ j,j<k+1→¬ ((rg l j).1≤u∧u≤(rg l j).2)):=HNx.out (fun h=>h2 h.2)
        have d2:decide (u≤q)=false:=by simpa using h2
        clear HNx HYs
        go_wp2
        exact ⟨⟨k+1,by go_num,by omega,HX,hG⟩,by simp [intOf];omega⟩
    · have HX:Hid (∀ j,j<k+1→¬ ((rg l j).1≤u∧u≤(rg l j).2)):=HNx.out (fun h=>h1 h.1)
      have d1:decide (p≤u)=false:=by simpa using h1
      clear HNx HYs
      go_wp2
      exact ⟨⟨k+1,by go_num,by omega,HX,hG⟩,by simp [intOf];omega⟩
  · have hge:¬ (k:Int)<(n:Int):=by omega
    have hrt:r=false:=by
     rw [←HR.out,decide_eq_false_iff_not,hasU_iff]
     rintro ⟨j,hj,h1⟩
     exact hT.out j (by rw [HN.out] at hj;omega) h1
    have HF:Hid (r=false):=hrt
    clear hT hrt
    go_wp2
    go_ret
    have hrf:=HF.out
    exact ⟨by first | rfl | (rw [hrf];rfl),hG⟩
theorem in_any (v:Value) (l:List (Int × Int)) (u:Int) (w:World) (h:Rs w v l) (hn:l.length≤1152921504606846976):Calls Tryz.prog 175 #[v,.int .i64 u] w fun e w'=>e = .returned (.bool (decide (hasU l u)))∧Grown w w':=by
 obtain ⟨A,c,rfl,_,h⟩:=h
 exact in_walk A c l u w h hn
set_option maxHeartbeats 2000000 in
theorem rstands_many (a b:Option Addr) (n c m d:Nat) (w:World) (h:n≠m):Calls Tryz.prog 148 #[.slice a n c,.slice b m d] w fun e w'=>e = .returned (.bool false)∧Grown w w':=by
 have h':((n:Int) != (m:Int))=true:=by simp;omega
 go_enter Tryz.func148,Tryz.ntmps148
 go_wp2
 go_ret
 exact ⟨rfl,Grown.refl _⟩
set_option maxHeartbeats 2000000 in
theorem rstands_nil (a b:Option Addr) (c d:Nat) (w:World):Calls Tryz.prog 148 #[.slice a 0 c,.slice b 0 d] w fun e w'=>e = .returned (.bool true)∧Grown w w':=by
 go_enter Tryz.func148,Tryz.ntmps148
 go_wp2
 go_loopw [5] (fun vi wr=>vi = .int .i64 0∧wr=w) (fun _ _=>0)
 case atStart=>exact ⟨rfl,rfl⟩
 case round=>
  obtain ⟨rfl,rfl⟩:=hrel
  go_wp2
  go_ret
  exact ⟨rfl,Grown.refl _⟩
set_option maxHeartbeats 4000000 in
theorem rstands_walk (g o c g2 o2 d:Nat) (ls:List (List (Int × Int))) (us:List Int) (w:World) (h:SRd w g o ls) (h2:IRd w g2 o2 us) (hn1:ls.length≤1000000) (hv:ls.all okS=true) (hl:ls.length=us.length) :
 Calls Tryz.prog 148 #[.slice (some ⟨g2,o2,none⟩) us.length d,.slice (some ⟨g,o,none⟩) ls.length c] w fun e w'=>e = .returned (.bool ((ls.zip us).all fun x=>hasB x.1 x.2))∧Grown w w':=by
 obtain ⟨n,hnn⟩:∃ n,ls.length=n:=⟨_,rfl⟩
 have HN:Hid (ls.length=n):=hnn
 have HN2:Hid (us.length=n):=by rw [←hl];exact hnn
 have HZ:Hid ((ls.zip us).length=n):=by show _=_;rw [List.length_zip,HN.out,HN2.out,Nat.min_self]
 rw [←hl,hnn]
 rw [hnn] at hn1
 obtain ⟨r,hr⟩:∃ r:Bool,((ls.zip us).all fun x=>hasB x.1 x.2)=r:=⟨_,rfl⟩
 have HR:Hid (((ls.zip us).all fun x=>hasB x.1 x.2)=r):=hr
 rw [hr]
 have HV:Hid (ls.all okS=true):=hv
 have hm:=mixed
 clear hr hnn hl hv
 have HH:Hid (SRd w g o ls):=h
 have HI:Hid (IRd w g2 o2 us):=h2
 clear h h2
 go_enter Tryz.func148,Tryz.ntmps148
 go_wp2
 go_loopw [5] (fun vi wr=>∃ k:Nat,vi = .int .i64 k∧k≤n∧Hid (((ls.zip us).take k).all (fun x=>hasB x.1 x.2)=true)∧Grown w wr) (fun vi _=>n - (intOf vi).toNat)
 case atStart=>exact ⟨0,rfl,by omega,by simp [Hid],Grown.refl _⟩
 case round=>
  obtain ⟨k,rfl,hk,hG,hB⟩:=hrel
  have hpos:(0:Int)≤(k:Int):=by omega
  by_cases hlt:k<n
  · have hlt':(k:Int)<(n:Int):=by omega
    have hkl:k<ls.length:=by rw [HN.out];exact hlt
    have hku:k<us.length:=by rw [HN2.out];exact hlt
    have hkz:k<(ls.zip us).length:=by rw [HZ.out];exact hlt
    obtain ⟨sv,hc,hs⟩:=HH.out k hkl
    have hi:=hB.cellv (HI.out k hku)
    have hok:=List.all_eq_true.1 HV.out ls[k] (List.getElem_mem hkl)
    have hval:validB ls[k]=true:=by simp only [okS,Bool.and_eq_true] at hok;exact hok.1
    have hlen:ls[k].length≤1152921504606846976:=by have:=((validB_iff _).1 hval).1;omega
    have HC:Hid (∀ m os,Calls Tryz.prog 175 #[sv,.int .i64 us[k]] (Go.Sort.grow (wr.drewN m) os) fun e w'=>e = .returned (.bool (hasB ls[k] us[k]))∧Grown (Go.Sort.grow (wr.drewN m) os) w'):=fun m os=>by
     have:=in_any sv ls[k] us[k] _ (hs.grown (hB.quiet m os)) hlen
     have e:hasB ls[k] us[k]=decide (hasU ls[k] us[k]):=by simp [hasB,hval]
     rw [e];exact this
    obtain ⟨sa,sn,sc,rfl⟩:=hs.sl
    have f1:∀ m os,(Go.Sort.grow (wr.drewN m) os).cell? ⟨g,o+k,none⟩=some (.slice sa sn sc):=fun m os=>(hB.quiet m os).cellv hc
    have f2:∀ m os,(Go.Sort.grow (wr.drewN m) os).cell? ⟨g2,o2+k,none⟩=some (.int .i64 us[k]):=fun m os=>((Grown.refl _).quiet m os).cellv hi
    have hz:(ls.zip us)[k]=(ls[k],us[k]):=List.getElem_zip
    by_cases hv:hasB ls[k] us[k]=true
    · have HS:Hid (((ls.zip us).take (k+1)).all (fun x=>hasB x.1 x.2)=true):=by show _=true;rw [all_succ _ hkz,hG.out,hz];exact hv
      rw [hv] at HC
      generalize us[k]=u at HC f2
      clear hs hv hG hz hc hi hok hval hlen
      go_wp2
      refine wp_region_quiet_grown hm (by kernel_rfl) ?_
      repeat (go_big_quiet_step ((go_at_call 175;exact grown_of (HC.out _ _))))
      refine wpQuiet_nil ?_
      intro _ hw'
      obtain ⟨⟨nq,osq⟩,hw''⟩:=hw'
      subst hw''
      go_wp2
      exact ⟨⟨k+1,by go_num,by omega,HS,hB.quiet _ _⟩,by simp [intOf];omega⟩
    · have hv':hasB ls[k] us[k]=false:=by simpa using hv
      have HF:Hid (r=false):=by rw [←HR.out];exact all_stop _ hkz (by rw [hz];exact hv')
      rw [hv'] at HC
      generalize us[k]=u at HC f2
      clear hs hv hv' hG hz hc hi hok hval hlen
      go_wp2
      refine wp_region_quiet_grown hm (by kernel_rfl) ?_
      repeat (go_big_quiet_step ((go_at_call 175;exact grown_of (HC.out _ _))))
      refine wpQuiet_nil ?_
      intro _ hw'
      obtain ⟨⟨nq,osq⟩,hw''⟩:=hw'
      subst hw''
      go_wp2
      go_ret
      have hrf:=HF.out
      exact ⟨by first | rfl | (rw [hrf];rfl),hB.quiet _ _⟩
  · have hge:¬ (k:Int)<(n:Int):=by omega
    have hrt:r=true:=by
     rw [←HR.out]
     have:=hG.out
     rwa [List.take_of_length_le (by rw [HZ.out];omega)] at this
    have HF:Hid (r=true):=hrt
    clear hG hrt
    go_wp2
    go_ret
    have hrf:=HF.out
    exact ⟨by first | rfl | (rw [hrf];rfl),hB⟩
theorem rstands_any (v uv:Value) (ls:List (List (Int × Int))) (us:List Int) (w:World) (h:SR w v ls) (h2:IR w uv us) (hn:ls.length≤1000000) (hv:ls.all okS=true):Calls Tryz.prog 148 #[uv,v] w fun e w'=>e = .returned (.bool (stB ls us))∧Grown w w':=by
 obtain ⟨a,cap,rfl,_,h⟩:=h
 obtain ⟨b,cap2,rfl,_,h2⟩:=h2
 unfold stB
 by_cases hl:ls.length=us.length
 · rw [decide_eq_true hl,Bool.true_and]
   rcases h with rfl | ⟨g,o,rfl,h⟩
   · obtain rfl:us=[]:=List.eq_nil_of_length_eq_zero (by simpa using hl.symm)
     exact rstands_nil b a cap2 cap w
   · rcases h2 with rfl | ⟨g2,o2,rfl,h2⟩
     · obtain rfl:ls=[]:=List.eq_nil_of_length_eq_zero (by simpa using hl)
       exact rstands_nil b _ cap2 cap w
     · exact rstands_walk g o cap g2 o2 cap2 ls us w h h2 hn hv hl
 · rw [decide_eq_false hl,Bool.false_and]
   exact rstands_many b a _ cap2 _ cap w (fun e=>hl e.symm)
theorem okS_split {l:List (Int × Int)} : okS l=(validB l && decide (l.length≠0)):=by
 unfold okS
 cases l <;> simp
set_option maxHeartbeats 1000000 in
theorem rsets_nil (a:Option Addr) (c:Nat) (w:World):Calls Tryz.prog 112 #[.slice a 0 c] w fun e w'=>e = .returned (.bool true)∧Grown w w':=by
 go_enter Tryz.func112,Tryz.ntmps112
 go_wp2
 go_loopw [3] (fun vi wr=>vi = .int .i64 0∧wr=w) (fun _ _=>0)
 case atStart=>exact ⟨rfl,rfl⟩
 case round=>
  obtain ⟨rfl,rfl⟩:=hrel
  go_wp2
  go_ret
  exact ⟨rfl,Grown.refl _⟩
set_option maxHeartbeats 2000000 in
theorem rsets_walk (g o c:Nat) (ls:List (List (Int × Int))) (w:World) (h:SRd w g o ls) (hn1:ls.length≤1000000) :
 Calls Tryz.prog 112 #[.slice (some ⟨g,o,none⟩) ls.length c] w fun e w'=>e = .returned (.bool (ls.all okS))∧Grown w w':=by
 obtain ⟨n,hnn⟩:∃ n,ls.length=n:=⟨_,rfl⟩
 have HN:Hid (ls.length=n):=hnn
 rw [hnn] at hn1 ⊢
 obtain ⟨r,hr⟩:∃ r:Bool,ls.all okS=r:=⟨_,rfl⟩
 have HR:Hid (ls.all okS=r):=hr
 rw [hr]
 clear hr hnn
 have HH:Hid (SRd w g o ls):=h
 clear h
 go_enter Tryz.func112,Tryz.ntmps112
 go_wp2
 go_loopw [3] (fun vi wr=>∃ k:Nat,vi = .int .i64 k∧k≤n∧Hid ((ls.take k).all okS=true)∧Grown w wr) (fun vi _=>n - (intOf vi).toNat)
 case atStart=>exact ⟨0,rfl,by omega,by simp [Hid],Grown.refl _⟩
 case round=>
  obtain ⟨k,rfl,hk,hG,hB⟩:=hrel
  have hpos:(0:Int)≤(k:Int):=by omega
  by_cases hlt:k<n
  · have hlt':(k:Int)<(n:Int):=by omega
    have hkl:k<ls.length:=by rw [HN.out];exact hlt
    obtain ⟨sv,hc,hs⟩:=HH.out k hkl
    have hc:=hB.cellv hc
    have HC:Hid (∀ W,Grown wr W→Calls Tryz.prog 23 #[sv] W fun e w'=>e = .returned (.bool (validB ls[k]))∧Grown W w'):=fun W hW=>rvalid_any sv _ W ((hs.grown hB).grown hW)
    obtain ⟨sa,sc,rfl,_,_⟩:=hs
    have hO:okS ls[k]=(validB ls[k] && decide (ls[k].length≠0)):=okS_split
    have HS:Hid (okS ls[k]=true→(ls.take (k+1)).all okS=true):=fun hv=>by rw [all_succ okS hkl,hG.out,hv];rfl
    have HF0:Hid (okS ls[k]=false→r=false):=fun hv=>by rw [←HR.out];exact all_stop okS hkl hv
    clear hG
    generalize validB ls[k]=vb at *
    generalize ls[k].length=sn at *
    generalize okS ls[k]=ob at *
    cases vb with
    | false=>
     have HF:Hid (r=false):=HF0.out (by rw [hO];rfl)
     clear hO HS HF0
     go_wp2_with (go_at_call 23;refine (HC.out _ (Grown.refl _)).mono ?_;rintro e w' ⟨rfl,hb⟩)
     go_ret
     have hrf:=HF.out
     exact ⟨by first | rfl | (rw [hrf];rfl),hB.trans hb⟩
    | true=>
     by_cases h0:sn=0
     · have HF:Hid (r=false):=HF0.out (by rw [hO];simp [h0])
       clear hO HS HF0
       subst h0
       go_wp2_with fail
       refine (HC.out _ (Grown.refl _)).mono ?_
       rintro e w1 ⟨rfl,hb⟩
       have hc:=hb.cellv hc
       go_wp2
       go_ret
       have hrf:=HF.out
       exact ⟨by first | rfl | (rw [hrf];rfl),hB.trans hb⟩
     · have HS2:Hid ((ls.take (k+1)).all okS=true):=HS.out (by rw [hO];simp [h0])
       have h1:((sn:Int) == 0)=false:=by simpa using h0
       clear hO HS HF0
       go_wp2_with fail
       refine (HC.out _ (Grown.refl _)).mono ?_
       rintro e w1 ⟨rfl,hb⟩
       have hc:=hb.cellv hc
       go_wp2
       exact ⟨⟨k+1,by go_num,by omega,HS2,hB.trans hb⟩,by simp [intOf];omega⟩
  · have hrt:r=true:=by
     rw [←HR.out]
     have:=hG.out
     rwa [List.take_of_length_le (by rw [HN.out];omega)] at this
    have HF:Hid (r=true):=hrt
    clear hG hrt
    go_wp2
    go_ret
    have hrf:=HF.out
    exact ⟨by first | rfl | (rw [hrf];rfl),hB⟩
theorem rsets_any (v:Value) (ls:List (List (Int × Int))) (w:World) (h:SR w v ls) (hn:ls.length≤1000000):Calls Tryz.prog 112 #[v] w fun e w'=>e = .returned (.bool (ls.all okS))∧Grown w w':=by
 obtain ⟨a,cap,rfl,_,h⟩:=h
 rcases h with rfl | ⟨g,o,rfl,h⟩
 · exact rsets_nil a cap w
 · exact rsets_walk g o cap ls w h hn
set_option maxHeartbeats 4000000 in
theorem rp_unit (bg en:Bool) (cu:Int) (aa ka pa ra:Option Addr) (an ac kn kc pn pc rn rc:Nat) (u y:Int) (ta:Option Addr) (tn tc:Nat) (w:World):Calls Tryz.prog 113 #[.agg #[.bool bg,.slice aa an ac,.slice ka kn kc,.slice pa pn pc,.bool en,.slice ra rn rc,.int .i64 cu],.agg #[.int .i64 1,.int .i64 u,.int .i64 y,.slice ta tn tc]] w fun e w'=>e = .returned (.int .i64 (if wd u=0∨y≠0∨tn≠0 then 73 else 0))∧Grown w w':=by
 have HC:=runit_any u
 by_cases h1:wd u=0
 · rw [if_pos (.inl h1)]
   have hb:isUn u=false:=by simp [isUn,h1]
   rw [hb] at HC
   clear h1 hb
   go_enter Tryz.func113,Tryz.ntmps113
   go_wp2_with (go_at_call 147;refine (HC _).mono ?_;rintro e w' ⟨rfl,rfl⟩)
   go_ret
   exact ⟨rfl,((Grown.refl _).alloc _).alloc _⟩
 · have hb:isUn u=true:=by simp [isUn,h1]
   rw [hb] at HC
   by_cases h2:y=0
   · by_cases h3:tn=0
     · rw [if_neg (by simp [h1,h2,h3])]
       subst h2 h3
       clear h1 hb
       go_enter Tryz.func113,Tryz.ntmps113
       go_wp2_with (go_at_call 147;refine (HC _).mono ?_;rintro e w' ⟨rfl,rfl⟩)
       go_ret
       exact ⟨rfl,((Grown.refl _).alloc _).alloc _⟩
     · rw [if_pos (.inr (.inr h3))]
       subst h2
       have h4:((tn:Int) == 0)=false:=by simpa using h3
       clear h1 hb
       go_enter Tryz.func113,Tryz.ntmps113
       go_wp2_with (go_at_call 147;refine (HC _).mono ?_;rintro e w' ⟨rfl,rfl⟩)
       go_ret
       exact ⟨rfl,((Grown.refl _).alloc _).alloc _⟩
   · rw [if_pos (.inr (.inl h2))]
     have h4:(y == 0)=false:=by simpa using h2
     clear h1 hb
     go_enter Tryz.func113,Tryz.ntmps113
     go_wp2_with (go_at_call 147;refine (HC _).mono ?_;rintro e w' ⟨rfl,rfl⟩)
     go_ret
     exact ⟨rfl,((Grown.refl _).alloc _).alloc _⟩
set_option maxHeartbeats 4000000 in
theorem rp_other (bg en:Bool) (cu:Int) (aa ka pa ra:Option Addr) (an ac kn kc pn pc rn rc:Nat) (k u y:Int) (ta:Option Addr) (tn tc:Nat) (w:World) (h1:k≠1) (h2:k≠2) (h3:k≠3):Calls Tryz.prog 113 #[.agg #[.bool bg,.slice aa an ac,.slice ka kn kc,.slice pa pn pc,.bool en,.slice ra rn rc,.int .i64 cu],.agg #[.int .i64 k,.int .i64 u,.int .i64 y,.slice ta tn tc]] w fun e w'=>e = .returned (.int .i64 73)∧Grown w w':=by
 have e1:(k == 1)=false:=by simpa using h1
 have e2:(k == 2)=false:=by simpa using h2
 have e3:(k == 3)=false:=by simpa using h3
 go_enter Tryz.func113,Tryz.ntmps113
 go_wp2
 go_ret
 exact ⟨rfl,((Grown.refl _).alloc _).alloc _⟩
set_option maxHeartbeats 4000000 in
theorem rp_copy (bg en:Bool) (cu:Int) (aa ka pa ra:Option Addr) (an ac kn kc pn pc rn rc:Nat) (u y:Int) (ta:Option Addr) (tn tc:Nat) (w:World):Calls Tryz.prog 113 #[.agg #[.bool bg,.slice aa an ac,.slice ka kn kc,.slice pa pn pc,.bool en,.slice ra rn rc,.int .i64 cu],.agg #[.int .i64 2,.int .i64 u,.int .i64 y,.slice ta tn tc]] w fun e w'=>e = .returned (.int .i64 (if u≠0∨tn≠0 then 73 else if y<0∨(kn:Int)≤y then 74 else 0))∧Grown w w':=by
 have hm:=mixed
 by_cases h1:u=0
 · subst h1
   by_cases h2:tn=0
   · subst h2
     rw [if_neg (by simp)]
     by_cases h3:y<0
     · rw [if_pos (.inl h3)]
       go_enter Tryz.func113,Tryz.ntmps113
       go_wp2
       go_ret
       exact ⟨rfl,((Grown.refl _).alloc _).alloc _⟩
     · have d3:decide (y<0)=false:=by simpa using h3
       by_cases h4:(kn:Int)≤y
       · rw [if_pos (.inr h4)]
         go_enter Tryz.func113,Tryz.ntmps113
         go_wp2
         go_ret
         exact ⟨rfl,((Grown.refl _).alloc _).alloc _⟩
       · rw [if_neg (by omega)]
         have d4:decide ((kn:Int)≤y)=false:=by simpa using h4
         have e0:∀ m os,(Go.Sort.grow (((w.alloc (.cells #[.bool bg,.slice aa an ac,.slice ka kn kc,.slice pa pn pc,.bool en,.slice ra rn rc,.int .i64 cu] 60)).alloc (.cells #[.int .i64 2,.int .i64 0,.int .i64 y,.slice ta 0 tc] 64)).drewN m) os).cell? ⟨w.heap.size+1,0,none⟩=some (.int .i64 2):=fun m os=>cell_grown (by simp) (by simp) m os
         go_enter Tryz.func113,Tryz.ntmps113
         go_wp2
         refine wp_region_quiet_grown hm (by kernel_rfl) ?_
         repeat (go_big_quiet_step (fail))
         refine wpQuiet_nil ?_
         intro _ hw'
         obtain ⟨⟨nq,osq⟩,hw''⟩:=hw'
         subst hw''
         go_wp2
         go_ret
         exact ⟨rfl,(((Grown.refl _).alloc _).alloc _).quiet _ _⟩
   · rw [if_pos (.inr h2)]
     have h4:((tn:Int) == 0)=false:=by simpa using h2
     go_enter Tryz.func113,Tryz.ntmps113
     go_wp2
     go_ret
     exact ⟨rfl,((Grown.refl _).alloc _).alloc _⟩
 · rw [if_pos (.inl h1)]
   have hq2:(u == 0)=false:=by simpa using h1
   go_enter Tryz.func113,Tryz.ntmps113
   go_wp2
   go_ret
   exact ⟨rfl,((Grown.refl _).alloc _).alloc _⟩
set_option maxHeartbeats 8000000 in
theorem rp_pair_in (bg en:Bool) (cu:Int) (aa pa ra:Option Addr) (an ac kn kc pn pc rn rc:Nat) (g o j:Nat) (sv:Value) (f tl:List (Int × Int)) (ta:Option Addr) (tn tc:Nat) (w:World) (hj:j<kn) (hc:w.cell? ⟨g,o+j,none⟩=some sv) (hf:Rs w sv f) (ht:Rs w (.slice ta tn tc) tl) :
 Calls Tryz.prog 113 #[.agg #[.bool bg,.slice aa an ac,.slice (some ⟨g,o,none⟩) kn kc,.slice pa pn pc,.bool en,.slice ra rn rc,.int .i64 cu],.agg #[.int .i64 3,.int .i64 0,.int .i64 j,.slice ta tn tc]] w fun e w'=>e = .returned (.int .i64 (if matB f tl=false then 75 else 0))∧Grown w w':=by
 have hm:=mixed
 have HV:Hid (∀ m os,Calls Tryz.prog 23 #[.slice ta tn tc] (Go.Sort.grow (((w.alloc (.cells #[.bool bg,.slice aa an ac,.slice (some ⟨g,o,none⟩) kn kc,.slice pa pn pc,.bool en,.slice ra rn rc,.int .i64 cu] 60)).alloc (.cells #[.int .i64 3,.int .i64 0,.int .i64 (j:Int),.slice ta tn tc] 64)).drewN m) os) fun e w'=>e = .returned (.bool (validB tl))∧Grown (Go.Sort.grow (((w.alloc (.cells #[.bool bg,.slice aa an ac,.slice (some ⟨g,o,none⟩) kn kc,.slice pa pn pc,.bool en,.slice ra rn rc,.int .i64 cu] 60)).alloc (.cells #[.int .i64 3,.int .i64 0,.int .i64 (j:Int),.slice ta tn tc] 64)).drewN m) os) w'):=fun m os=>rvalid_any _ tl _ (ht.grown ((((Grown.refl _).alloc _).alloc _).quiet m os))
 have HL:Hid (∀ m os,Calls Tryz.prog 108 #[.slice ta tn tc] (Go.Sort.grow (((w.alloc (.cells #[.bool bg,.slice aa an ac,.slice (some ⟨g,o,none⟩) kn kc,.slice pa pn pc,.bool en,.slice ra rn rc,.int .i64 cu] 60)).alloc (.cells #[.int .i64 3,.int .i64 0,.int .i64 (j:Int),.slice ta tn tc] 64)).drewN m) os) fun e w'=>e = .returned (.int .i64 (lenU tl))∧Grown (Go.Sort.grow (((w.alloc (.cells #[.bool bg,.slice aa an ac,.slice (some ⟨g,o,none⟩) kn kc,.slice pa pn pc,.bool en,.slice ra rn rc,.int .i64 cu] 60)).alloc (.cells #[.int .i64 3,.int .i64 0,.int .i64 (j:Int),.slice ta tn tc] 64)).drewN m) os) w'):=fun m os=>rlen_any _ tl _ (ht.grown ((((Grown.refl _).alloc _).alloc _).quiet m os))
 have HF:Hid (∀ m os,Calls Tryz.prog 108 #[sv] (Go.Sort.grow (((w.alloc (.cells #[.bool bg,.slice aa an ac,.slice (some ⟨g,o,none⟩) kn kc,.slice pa pn pc,.bool en,.slice ra rn rc,.int .i64 cu] 60)).alloc (.cells #[.int .i64 3,.int .i64 0,.int .i64 (j:Int),.slice ta tn tc] 64)).drewN m) os) fun e w'=>e = .returned (.int .i64 (lenU f))∧Grown (Go.Sort.grow (((w.alloc (.cells #[.bool bg,.slice aa an ac,.slice (some ⟨g,o,none⟩) kn kc,.slice pa pn pc,.bool en,.slice ra rn rc,.int .i64 cu] 60)).alloc (.cells #[.int .i64 3,.int .i64 0,.int .i64 (j:Int),.slice ta tn tc] 64)).drewN m) os) w'):=fun m os=>rlen_any _ f _ (hf.grown ((((Grown.refl _).alloc _).alloc _).quiet m os))
 have e0:∀ m os,(Go.Sort.grow (((w.alloc (.cells #[.bool bg,.slice aa an ac,.slice (some ⟨g,o,none⟩) kn kc,.slice pa pn pc,.bool en,.slice ra rn rc,.int .i64 cu] 60)).alloc (.cells #[.int .i64 3,.int .i64 0,.int .i64 (j:Int),.slice ta tn tc] 64)).drewN m) os).cell? ⟨w.heap.size+1,0,none⟩=some (.int .i64 3):=fun m os=>cell_grown (by simp) (by simp) m os
 have e2:∀ m os,(Go.Sort.grow (((w.alloc (.cells #[.bool bg,.slice aa an ac,.slice (some ⟨g,o,none⟩) kn kc,.slice pa pn pc,.bool en,.slice ra rn rc,.int .i64 cu] 60)).alloc (.cells #[.int .i64 3,.int .i64 0,.int .i64 (j:Int),.slice ta tn tc] 64)).drewN m) os).cell? ⟨w.heap.size+1,2,none⟩=some (.int .i64 (j:Int)):=fun m os=>cell_grown (by simp) (by simp) m os
 have e3:∀ m os,(Go.Sort.grow (((w.alloc (.cells #[.bool bg,.slice aa an ac,.slice (some ⟨g,o,none⟩) kn kc,.slice pa pn pc,.bool en,.slice ra rn rc,.int .i64 cu] 60)).alloc (.cells #[.int .i64 3,.int .i64 0,.int .i64 (j:Int),.slice ta tn tc] 64)).drewN m) os).cell? ⟨w.heap.size+1,3,none⟩=some (.slice ta tn tc):=fun m os=>cell_grown (by simp) (by simp) m os
 have e5:∀ m os,(Go.Sort.grow (((w.alloc (.cells #[.bool bg,.slice aa an ac,.slice (some ⟨g,o,none⟩) kn kc,.slice pa pn pc,.bool en,.slice ra rn rc,.int .i64 cu] 60)).alloc (.cells #[.int .i64 3,.int .i64 0,.int .i64 (j:Int),.slice ta tn tc] 64)).drewN m) os).cell? ⟨w.heap.size,2,none⟩=some (.slice (some ⟨g,o,none⟩) kn kc):=fun m os=>cell_grown (by simp;omega) (cell_up (by simp) _) m os
 have e4:∀ m os,(Go.Sort.grow (((w.alloc (.cells #[.bool bg,.slice aa an ac,.slice (some ⟨g,o,none⟩) kn kc,.slice pa pn pc,.bool en,.slice ra rn rc,.int .i64 cu] 60)).alloc (.cells #[.int .i64 3,.int .i64 0,.int .i64 (j:Int),.slice ta tn tc] 64)).drewN m) os).cell? ⟨g,o+j,none⟩=some sv:=fun m os=>((((Grown.refl _).alloc _).alloc _).quiet m os).cellv hc
 have hj0:(0:Int)≤(j:Int):=by omega
 have hj1:(j:Int)<(kn:Int):=by omega
 have d3:decide ((j:Int)<0)=false:=by simp
 have d4:decide ((kn:Int)≤(j:Int))=false:=by simp;omega
 unfold matB
 generalize validB tl=vb at HV
 generalize lenU tl=lt at HL
 generalize lenU f=lf at HF
 obtain ⟨sa,sn,sc,rfl⟩:=hf.sl
 clear hf ht hc
 cases vb with
 | false=>
  rw [if_pos (by simp)]
  go_enter Tryz.func113,Tryz.ntmps113
  go_wp2
  refine wp_region_quiet_grown hm (by kernel_rfl) ?_
  repeat (go_big_quiet_step ((go_at_call 23;exact grown_of (HV.out _ _))))
  refine wpQuiet_nil ?_
  intro _ hw'
  obtain ⟨⟨nq,osq⟩,hw''⟩:=hw'
  subst hw''
  go_wp2
  go_ret
  exact ⟨rfl,(((Grown.refl _).alloc _).alloc _).quiet _ _⟩
 | true=>
  by_cases he:lf=lt
  · rw [if_neg (by simp [he])]
    subst he
    go_enter Tryz.func113,Tryz.ntmps113
    go_wp2
    refine wp_region_quiet_grown hm (by kernel_rfl) ?_
    repeat (go_big_quiet_step ((go_at_call 23;exact grown_of (HV.out _ _))))
    go_big_quiet_step ((go_at_call 108;exact grown_of (HL.out _ _)))
    repeat (go_big_quiet_step ((go_at_call 108;exact grown_of (HF.out _ _))))
    refine wpQuiet_nil ?_
    intro _ hw'
    obtain ⟨⟨nq,osq⟩,hw''⟩:=hw'
    subst hw''
    go_wp2
    go_ret
    exact ⟨rfl,(((Grown.refl _).alloc _).alloc _).quiet _ _⟩
  · rw [if_pos (by simp [he])]
    have hne:(lt != lf)=true:=by simpa using fun e=>he e.symm
    go_enter Tryz.func113,Tryz.ntmps113
    go_wp2
    refine wp_region_quiet_grown hm (by kernel_rfl) ?_
    repeat (go_big_quiet_step ((go_at_call 23;exact grown_of (HV.out _ _))))
    go_big_quiet_step ((go_at_call 108;exact grown_of (HL.out _ _)))
    repeat (go_big_quiet_step ((go_at_call 108;exact grown_of (HF.out _ _))))
    refine wpQuiet_nil ?_
    intro _ hw'
    obtain ⟨⟨nq,osq⟩,hw''⟩:=hw'
    subst hw''
    go_wp2
    go_ret
    exact ⟨rfl,(((Grown.refl _).alloc _).alloc _).quiet _ _⟩
set_option maxHeartbeats 4000000 in
theorem rp_pair_no (bg en:Bool) (cu:Int) (aa ka pa ra:Option Addr) (an ac kn kc pn pc rn rc:Nat) (u y:Int) (ta:Option Addr) (tn tc:Nat) (w:World) (h:u≠0∨y<0∨(kn:Int)≤y):Calls Tryz.prog 113 #[.agg #[.bool bg,.slice aa an ac,.slice ka kn kc,.slice pa pn pc,.bool en,.slice ra rn rc,.int .i64 cu],.agg #[.int .i64 3,.int .i64 u,.int .i64 y,.slice ta tn tc]] w fun e w'=>e = .returned (.int .i64 (if u≠0 then 73 else 74))∧Grown w w':=by
 by_cases h1:u=0
 · subst h1
   rw [if_neg (by simp)]
   by_cases h3:y<0
   · clear h
     go_enter Tryz.func113,Tryz.ntmps113
     go_wp2
     go_ret
     exact ⟨rfl,((Grown.refl _).alloc _).alloc _⟩
   · have d3:decide (y<0)=false:=by simpa using h3
     have h4:(kn:Int)≤y:=by omega
     clear h
     go_enter Tryz.func113,Tryz.ntmps113
     go_wp2
     go_ret
     exact ⟨rfl,((Grown.refl _).alloc _).alloc _⟩
 · rw [if_pos h1]
   have hq2:(u == 0)=false:=by simpa using h1
   clear h
   go_enter Tryz.func113,Tryz.ntmps113
   go_wp2
   go_ret
   exact ⟨rfl,((Grown.refl _).alloc _).alloc _⟩
theorem rpiece_any (r:Rl) (av kv pv rv:Value) (p:Pc) (tv:Value) (w:World) (h:RR w av kv pv rv r) (ht:Rs w tv p.tl):Calls Tryz.prog 113 #[.agg #[.bool r.bg,av,kv,pv,.bool r.en,rv,.int .i64 r.cu],.agg #[.int .i64 p.k,.int .i64 p.u,.int .i64 p.y,tv]] w fun e w'=>e = .returned (.int .i64 (pcE r.key p))∧Grown w w':=by
 obtain ⟨aa,an,ac,rfl⟩:=h.a.sl
 obtain ⟨ka,kc,rfl,_,hk⟩:=h.k
 obtain ⟨pa,pn,pc,rfl⟩:=h.p.sl
 obtain ⟨ra,rn,rc,rfl⟩:=h.r.sl
 obtain ⟨k,u,y,tl⟩:=p
 simp only at ht ⊢
 obtain ⟨ta,tn,tc,rfl⟩:=ht.sl
 have hl:=len_zero_iff ht
 unfold pcE
 simp only
 by_cases h1:k=1
 · subst h1
   rw [if_pos rfl]
   have:=rp_unit r.bg r.en r.cu aa ka pa ra an ac r.key.length kc pn pc rn rc u y ta tn tc w
   rw [hl] at this ⊢
   simpa using this
 · rw [if_neg h1]
   by_cases h2:k=2
   · subst h2
     rw [if_pos (.inl rfl)]
     have:=rp_copy r.bg r.en r.cu aa ka pa ra an ac r.key.length kc pn pc rn rc u y ta tn tc w
     rw [hl] at this ⊢
     simpa using this
   · by_cases h3:k=3
     · subst h3
       rw [if_pos (.inr rfl)]
       by_cases h4:u≠0∨y<0∨(r.key.length:Int)≤y
       · have:=rp_pair_no r.bg r.en r.cu aa ka pa ra an ac r.key.length kc pn pc rn rc u y ta tn tc w h4
         by_cases h5:u=0
         · subst h5
           have h6:y<0∨(r.key.length:Int)≤y:=by simpa using h4
           simpa [h6] using this
         · simpa [h5] using this
       · simp only [not_or,Classical.not_not,ne_eq] at h4
         obtain ⟨rfl,h5,h6⟩:=h4
         obtain ⟨j,rfl⟩:∃ j:Nat,y=(j:Int):=⟨y.toNat,by omega⟩
         have hjl:j<r.key.length:=by omega
         obtain ⟨g,o,rfl,hk2⟩:=hk.resolve_left (fun e=>by rw [e] at hjl;simp at hjl)
         obtain ⟨sv,hc,hs⟩:=hk2 j hjl
         have hka:keyAt r.key (j:Int)=r.key[j]:=by simp [keyAt,hjl]
         have:=rp_pair_in r.bg r.en r.cu aa pa ra an ac r.key.length kc pn pc rn rc g o j sv r.key[j] tl ta tn tc w hjl hc hs ht
         rw [hka]
         have h7:¬ ((j:Int)<0∨(r.key.length:Int)≤(j:Int)):=by omega
         rw [if_neg (by simp),if_neg h7]
         simpa using this
     · rw [if_neg (by omega)]
       exact rp_other r.bg r.en r.cu aa ka pa ra an ac r.key.length kc pn pc rn rc k u y ta tn tc w h1 h2 h3
end Go.Proofs
