/-
  Several texts in one (Kc Kd Ke Kf Hc).
-/
import Derived.RangeFuncNested
import Derived.RangeFuncBound
import Derived.RangeFuncCalls
import Derived.RangeFuncLeaves
import Derived.Shelf.Abstract
import Derived.Shelf.RegionOpen
import Derived.WalkKit
import Derived.WalkSpells
import Derived.WalkLawsBesides
import Derived.OwnWalkIn
import Derived.TacticsInMore
import Derived.LoopNIn
import Derived.LoopIn
import Derived.BigQuiet
import Derived.RegionIn
import Derived.Deep.QuietTactic
import Derived.Deep.RegionWith
import Derived.Lib.OthersKept
import Derived.Maps.AppendAt
import Derived.Lib.SmallJoins
import Derived.Shelf.SlSortCmp.QuietGrown
import Derived.ArgAppend
import Derived.Below
import Derived.Deep.LoopGhost
import Derived.Laws.CopyOwn
import Derived.Laws.MakeOwn
import Derived.Lib.AppendStr
import Derived.Lib.ConvBytes
import Derived.Lib.IndexBytes
import Derived.Lib.ParseIntB
import Derived.RangeFuncBox
import Derived.WalkMore
import Derived.Shelf.Small.Utf8
import Derived.Test.YtaemgkemlifadaaGreatDoorMgdr
import Derived.Test.YtaemgkemlifadaaGreatDoorMgcr
namespace Go.Proofs
open Go.RowKit Go.Shelf
set_option maxRecDepth 100000
attribute [local go_sem] Oper.semAt_some
attribute [local go_sem ↓] Go.wp_at_zero Go.wp_at_succ
theorem units_len_N (s:ByteArray):∀ k p,(unitsN s k p).length≤k
 | 0,_=>by simp [unitsN]
 | k+1,p=>by
  by_cases hp:p<s.size
  · rw [unitsN_step s k p hp,List.length_cons];have:=units_len_N s k (p+uw s p);omega
  · rw [unitsN_end s _ p hp];simp
def intsU (l:List (Nat × Nat)):List Int:=l.map fun x=>(x.2:Int)
theorem intsU_length (l:List (Nat × Nat)):(intsU l).length=l.length:=by simp [intsU]
theorem drop_get (s:ByteArray) (p:Nat) (h:p<s.size):s.data.toList.drop p=s.get! p::s.data.toList.drop (p+1):=by
 rw [List.drop_eq_getElem_cons (by rw [←Lib.size_eq];exact h),get_bang s p h];rfl
theorem ofNat_get (s:ByteArray) (p n:Nat) (h:(s.get! p).toNat=n):UInt8.ofNat n=s.get! p:=by rw [←h];simp
theorem put_uAt (s:ByteArray) (p:Nat) (hp:p<s.size):(put (uAt s p)).data.toList=(s.data.toList.drop p).take (uw s p):=by
 by_cases h:1<uw s p
 · obtain ⟨c,F⟩:=form_of s p h
   have hns:strayAt s p=false:=by
    cases hs:strayAt s p with
    | false=>rfl
    | true=>have:=(stray_iff s p).1 hs;rw [F.2.1] at this;simp at this;omega
   have hu:uAt s p=c:=by rw [uAt_rune hns,F.2.1]
   rw [hu]
   obtain ⟨hz,_,hF⟩:=F
   obtain ⟨n,hn⟩:∃ n,uw s p=n:=⟨_,rfl⟩
   rw [hn] at hF hz ⊢
   rcases hF with ⟨rfl,a,b,b0,b1⟩ | ⟨rfl,a,b,v,b0,b1,b2⟩ | ⟨rfl,a,b,b0,b1,b2,b3⟩
   · rw [put_rune (by omega),enc2 c a b,ofNat_get s p _ b0,ofNat_get s (p+1) _ b1,drop_get s p (by omega),drop_get s (p+1) (by omega)]
     rfl
   · rw [put_rune (by omega),enc3 c a b v,ofNat_get s p _ b0,ofNat_get s (p+1) _ b1,ofNat_get s (p+2) _ b2,drop_get s p (by omega),drop_get s (p+1) (by omega),drop_get s (p+1+1) (by omega)]
     rfl
   · rw [put_rune (by omega),enc4 c a b,ofNat_get s p _ b0,ofNat_get s (p+1) _ b1,ofNat_get s (p+2) _ b2,ofNat_get s (p+3) _ b3,drop_get s p (by omega),drop_get s (p+1) (by omega),drop_get s (p+1+1) (by omega),drop_get s (p+1+1+1) (by omega)]
     rfl
 · have hpos:=uw_pos s p
   have hu:uw s p=1:=by omega
   rw [hu,drop_get s p hp]
   rcases one_wide s p hu with ⟨a,b⟩ | ⟨a,b⟩
   · have hns:strayAt s p=false:=by
      cases hs:strayAt s p with
      | false=>rfl
      | true=>have:=(stray_iff s p).1 hs;rw [b] at this;simp at this;omega
     have hv:uAt s p=(s.get! p).toNat:=by rw [uAt_rune hns,b]
     rw [hv,put_rune (by omega),enc1 _ a,ofNat_get s p _ rfl]
     rfl
   · have hlt:=(s.get! p).toNat_lt
     have hv:=uAt_stray ((stray_iff s p).2 b)
     rw [hv,put_stray (by omega),show (((1114112+(s.get! p).toNat:Nat):Int) - 1114112).toNat=(s.get! p).toNat by omega,ofNat_get s p _ rfl]
     rfl
def acc (s:ByteArray) (p b:Nat):Nat→Nat
 | 0=>b
 | k+1=>acc s p b k*64+(s.get! (p+(k+1))).toNat % 64
def md (n:Nat):Nat:=if n=2 then 32 else if n=3 then 16 else 8
def num (s:ByteArray) (p n:Nat):Nat:=acc s p (if n=1 then (s.get! p).toNat else (s.get! p).toNat % md n) (n - 1)
def tst (s:ByteArray) (p n:Nat):Bool:=decide (wd (num s p n)=(n:Int)∧put (num s p n)=s.extract p (p+n))
def bgs (s:ByteArray) (p:Nat):Nat→Nat→Int
 | 0,_ => -1
 | k+1,n=>if p+n≤s.size then (if tst s p n then (num s p n:Int) else bgs s p k (n+1)) else -1
def beginsU (s:ByteArray) (p:Nat):Int:=bgs s p 4 1
theorem num1 (s:ByteArray) (p:Nat):num s p 1=(s.get! p).toNat:=rfl
theorem num2 (s:ByteArray) (p:Nat):num s p 2=(s.get! p).toNat % 32*64+(s.get! (p+1)).toNat % 64:=rfl
theorem num3 (s:ByteArray) (p:Nat):num s p 3=((s.get! p).toNat % 16*64+(s.get! (p+1)).toNat % 64)*64+(s.get! (p+2)).toNat % 64:=rfl
theorem num4 (s:ByteArray) (p:Nat):num s p 4=(((s.get! p).toNat % 8*64+(s.get! (p+1)).toNat % 64)*64+(s.get! (p+2)).toNat % 64)*64+(s.get! (p+3)).toNat % 64:=rfl
theorem byte_of {s t:ByteArray} {p n:Nat} (h:t=s.extract p (p+n)) (hp:p+n≤s.size) (r:Nat) (hr:r<n):(s.get! (p+r)).toNat=(t.get! r).toNat:=by
 rw [h,get_ext s p (p+n) r (by omega) hp]
theorem wd_ge2 (c n:Nat) (hn:2≤n) (h:wd (c:Int)=(n:Int)):(c<55296∨(57344≤c∧c≤1114111))∧Lib.runeLen c=(n:Int):=by
 unfold wd at h
 split at h
 · omega
 · split at h
   · exact ⟨by omega,h⟩
   · omega
theorem tst_dec (s:ByteArray) (p n:Nat) (hn:2≤n) (hp:p+n≤s.size) (h:tst s p n=true):Utf8.decode s p=(num s p n,n):=by
 obtain ⟨h1,h2⟩:wd (num s p n)=(n:Int)∧put (num s p n)=s.extract p (p+n):=of_decide_eq_true h
 generalize num s p n=c at *
 obtain ⟨hr,hl⟩:=wd_ge2 c n hn h1
 rw [put_rune (by omega)] at h2
 unfold Lib.runeLen at hl
 by_cases c1:c<128
 · exfalso;repeat' split at hl
   all_goals omega
 by_cases c2:c<2048
 · obtain rfl:n=2:=by repeat' split at hl
                      all_goals omega
   rw [enc2 c (by omega) c2] at h2
   have e0:=byte_of h2 hp 0 (by omega)
   have e1:=byte_of h2 hp 1 (by omega)
   change (s.get! (p+0)).toNat=(UInt8.ofNat (192+c / 64)).toNat at e0
   rw [b8 _ (by omega)] at e0
   change (s.get! (p+1)).toNat=(UInt8.ofNat (128+c % 64)).toNat at e1
   rw [b8 _ (by omega)] at e1
   exact dec2 s p c (by omega) c2 (by omega) e0 e1
 by_cases c3:c<65536
 · obtain rfl:n=3:=by repeat' split at hl
                      all_goals omega
   rw [enc3 c (by omega) c3 (by omega)] at h2
   have e0:=byte_of h2 hp 0 (by omega)
   have e1:=byte_of h2 hp 1 (by omega)
   have e2:=byte_of h2 hp 2 (by omega)
   change (s.get! (p+0)).toNat=(UInt8.ofNat (224+c / 4096)).toNat at e0
   rw [b8 _ (by omega)] at e0
   change (s.get! (p+1)).toNat=(UInt8.ofNat (128+c / 64 % 64)).toNat at e1
   rw [b8 _ (by omega)] at e1
   change (s.get! (p+2)).toNat=(UInt8.ofNat (128+c % 64)).toNat at e2
   rw [b8 _ (by omega)] at e2
   exact dec3 s p c (by omega) c3 (by omega) (by omega) e0 e1 e2
 · obtain rfl:n=4:=by repeat' split at hl
                      all_goals omega
   rw [enc4 c (by omega) (by omega)] at h2
   have e0:=byte_of h2 hp 0 (by omega)
   have e1:=byte_of h2 hp 1 (by omega)
   have e2:=byte_of h2 hp 2 (by omega)
   have e3:=byte_of h2 hp 3 (by omega)
   change (s.get! (p+0)).toNat=(UInt8.ofNat (240+c / 262144)).toNat at e0
   rw [b8 _ (by omega)] at e0
   change (s.get! (p+1)).toNat=(UInt8.ofNat (128+c / 4096 % 64)).toNat at e1
   rw [b8 _ (by omega)] at e1
   change (s.get! (p+2)).toNat=(UInt8.ofNat (128+c / 64 % 64)).toNat at e2
   rw [b8 _ (by omega)] at e2
   change (s.get! (p+3)).toNat=(UInt8.ofNat (128+c % 64)).toNat at e3
   rw [b8 _ (by omega)] at e3
   exact dec4 s p c (by omega) (by omega) (by omega) e0 e1 e2 e3
theorem tst_no (s:ByteArray) (p n:Nat) (hn:2≤n) (hp:p+n≤s.size) (h:uw s p≠n):tst s p n=false:=by
 cases ht:tst s p n with
 | false=>rfl
 | true=>exact absurd (by unfold uw;rw [tst_dec s p n hn hp ht]) h
theorem tst1_no (s:ByteArray) (p:Nat) (h:128≤(s.get! p).toNat):tst s p 1=false:=by
 have:=(s.get! p).toNat_lt
 unfold tst
 rw [num1,decide_eq_false_iff_not]
 rintro ⟨h1,_⟩
 rw [wd_rune (by omega)] at h1
 unfold Lib.runeLen at h1
 repeat' split at h1
 all_goals omega
theorem tst_yes (s:ByteArray) (p n:Nat) (hp:p<s.size) (h:uw s p=n) (hn:num s p n=uAt s p):tst s p n=true:=by
 unfold tst
 rw [hn,decide_eq_true_iff]
 refine ⟨by rw [wd_uAt,h],?_⟩
 have e:=put_uAt s p hp
 rw [h] at e
 have hd:(put (uAt s p)).data=(s.extract p (p+n)).data:=by
  apply Array.ext'
  rw [e]
  simp [ByteArray.data_extract,List.extract_eq_take_drop]
 generalize put (uAt s p)=a at *
 generalize s.extract p (p+n)=b at *
 cases a;cases b
 simpa using hd
theorem bgs_none (s:ByteArray) (p:Nat) (h:uw s p=1):∀ k n,2≤n→bgs s p k n = -1
 | 0,_,_=>rfl
 | k+1,n,hn=>by
  rw [bgs]
  split
  · rename_i hp
    rw [tst_no s p n hn hp (by omega),bgs_none s p h k (n+1) (by omega)]
    rfl
  · rfl
theorem bgs_skip (s:ByteArray) (p k n:Nat) (hn:2≤n) (hp:p+n≤s.size) (h:uw s p≠n):bgs s p (k+1) n=bgs s p k (n+1):=by
 rw [bgs,if_pos hp,tst_no s p n hn hp h];rfl
theorem bgs_hit (s:ByteArray) (p k n:Nat) (hp:p+n≤s.size) (h:tst s p n=true):bgs s p (k+1) n=num s p n:=by
 rw [bgs,if_pos hp,if_pos h]
theorem begins_eq (s:ByteArray) (p:Nat) (hp:p<s.size):beginsU s p=if strayAt s p then -1 else (uAt s p:Int):=by
 unfold beginsU
 by_cases hw:uw s p=1
 · rcases one_wide s p hw with ⟨h1,h2⟩ | ⟨h1,h2⟩
   · have hst:strayAt s p=false:=by
      cases h:strayAt s p with
      | false=>rfl
      | true=>have:=(stray_iff s p).1 h;rw [h2] at this;injection this with a b;omega
     have hu:uAt s p=(s.get! p).toNat:=by rw [uAt_rune hst,h2]
     rw [hst,bgs_hit s p 3 1 (by omega) (tst_yes s p 1 hp hw (by rw [num1,hu])),num1,hu]
     rfl
   · have hst:strayAt s p=true:=(stray_iff s p).2 h2
     rw [hst,bgs,if_pos (by omega),tst1_no s p h1,bgs_none s p hw 3 2 (by omega)]
     rfl
 · have h1:1<uw s p:=by have:=uw_pos s p;omega
   obtain ⟨c,hz,hd,hf⟩:=form_of s p h1
   have hst:strayAt s p=false:=by
    cases h:strayAt s p with
    | false=>rfl
    | true=>have:=(stray_iff s p).1 h;rw [hd] at this;injection this with a b;omega
   have hu:uAt s p=c:=by rw [uAt_rune hst,hd]
   have hb:=(uw_many s p h1).2.1
   have h0:bgs s p 4 1=bgs s p 3 2:=by rw [bgs,if_pos (by omega),tst1_no s p (by omega)];rfl
   rw [hst,h0]
   simp only [Bool.false_eq_true,if_false]
   rw [hu]
   rcases hf with ⟨hn,a,b,b0,b1⟩ | ⟨hn,a,b,_,b0,b1,b2⟩ | ⟨hn,a,b,b0,b1,b2,b3⟩
   · rw [hn] at hz
     have e:num s p 2=c:=by rw [num2,b0,b1];omega
     rw [bgs_hit s p 2 2 hz (tst_yes s p 2 hp hn (by rw [e,hu])),e]
   · rw [hn] at hz
     have e:num s p 3=c:=by rw [num3,b0,b1,b2];omega
     rw [bgs_skip s p 2 2 (by omega) (by omega) (by omega),bgs_hit s p 1 3 hz (tst_yes s p 3 hp hn (by rw [e,hu])),e]
   · rw [hn] at hz
     have e:num s p 4=c:=by rw [num4,b0,b1,b2,b3];omega
     rw [bgs_skip s p 2 2 (by omega) (by omega) (by omega),bgs_skip s p 1 3 (by omega) (by omega) (by omega),bgs_hit s p 0 4 hz (tst_yes s p 4 hp hn (by rw [e,hu])),e]
theorem step_val (x:Nat) (b:UInt8) (h:x<1048576):wrap64 ((x:Int)*64+(wrap64 (b.toNat:Int)).tmod 64)=((x*64+b.toNat % 64:Nat):Int):=by
 rw [w64b,show ((b.toNat:Int)).tmod 64=((b.toNat % 64:Nat):Int) from rfl]
 have:=Nat.mod_lt b.toNat (show 64>0 by omega)
 rw [show (x:Int)*64+((b.toNat % 64:Nat):Int)=((x*64+b.toNat % 64:Nat):Int) by push_cast;rfl]
 exact IntWalk.wrap64_in _ (by omega)
theorem bstr_ne {a b:ByteArray} (h:a≠b):(a.toList == b.toList)=false:=by
 rw [ByteArray.toList_eq,ByteArray.toList_eq]
 by_cases e:a.data.toList=b.data.toList
 · exact absurd (Go.WideShapes.bytes_inj e) h
 · simpa using e
theorem bgs_no (s:ByteArray) (p k n:Nat) (hp:p+n≤s.size) (h:tst s p n=false):bgs s p (k+1) n=bgs s p k (n+1):=by
 rw [bgs,if_pos hp,h];rfl
set_option maxHeartbeats 4000000 in
theorem begins_any (s:ByteArray) (p:Nat) (w:World) (hp:p<s.size) (hs:s.size≤4398046511104) :
 Calls Tryz.prog 62 #[.string s,.int .i64 p] w fun e w'=>e = .returned (.int .i64 (beginsU s p))∧Below w.heap.size w w':=by
 have hpi:(p:Int)<(s.size:Int):=by omega
 have hsi:(s.size:Int)≤4398046511104:=by omega
 go_enter Tryz.func62,Tryz.ntmps62
 go_wp2_with fail
 go_loopw [5,6,7] (fun vn _ _ wr=>∃ (n:Nat),vn = .int .i64 n∧1≤n∧n≤5∧Hid (beginsU s p=bgs s p (5 - n) n)∧Below w.heap.size w wr) (fun vn _ _ _=>5 - (intOf vn).toNat)
 case atStart=>
  exact ⟨1,rfl,by omega,by omega,rfl,Below.refl _ _⟩
 case round=>
  obtain ⟨n,rfl,h1,h5,hB,hb⟩:=hrel
  have HB0:Hid (Below w.heap.size w wr):=hb
  clear hb
  by_cases h4:n=5
  · subst h4
    go_wp2_with fail
    go_ret
    exact ⟨by rw [hB.out];rfl,HB0.out⟩
  · by_cases hle:p+n≤s.size
    · rcases (show n=1∨n=2∨n=3∨n=4 by omega) with rfl | rfl | rfl | rfl
      ·
       rw [show ((1:Nat):Int)=(1:Int) from rfl]
       go_wp2_with fail
       go_loopw [6,7] (fun vu vi wq=>∃ (k x:Nat),vu = .int .i64 x∧vi = .int .i64 ((k:Int)+1)∧k+1≤1∧x<67108864∧(k≤2→x<1048576)∧(k≤1→x<16384)∧(k=0→x<256)∧Hid (x=acc s p (s.get! p).toNat k)∧Below w.heap.size w wq) (fun _ vi _=>1 - (intOf vi).toNat)
       case atStart=>
        have hm:=(s.get! p).toNat_lt
        have hm2:=Nat.mod_le (s.get! p).toNat (md 1)
        exact ⟨0,(s.get! p).toNat,by rw [w64b,←get_bang s p hp] <;> rfl,rfl,by omega,by omega,by omega,by omega,by omega,rfl,HB0.out⟩
       case round=>
        clear HB0
        obtain ⟨k,x,rfl,rfl,hk,hx,hx2,hx1,hx0,hX,hb⟩:=hrel
        have HB1:Hid (Below w.heap.size w wr):=hb
        clear hb
        have hxi:(x:Int)<67108864:=by omega
        by_cases hlt:k+1<1
        · as_aux_lemma=>
           obtain ⟨q,hq⟩:∃ q:Nat,p+(k+1)=q:=⟨_,rfl⟩
           have hqi:(p:Int)+((k:Int)+1)=(q:Int):=by omega
           have hqs:(q:Int)<(s.size:Int):=by omega
           have HQ:Hid (p+(k+1)=q):=hq
           clear hq
           have hxj:(x:Int)<1048576:=by omega
           have hlt':(k:Int)+1<1:=by omega
           omega
        · have hk1:k=0:=by omega
          subst hk1
          have HN:Hid (num s p 1=x):=hX.out.symm
          have hlei:(p:Int)+1≤(s.size:Int):=by omega
          clear hX hlt hx2 hx1 hx0 hk
          cases hq:tst s p 1 with
          | true=>
           as_aux_lemma=>
            have hq1:wd x=1∧put x=s.extract p (p+1):=by unfold tst at hq;rw [HN.out] at hq;exact of_decide_eq_true hq
            have HR:Hid (beginsU s p=x):=by show beginsU s p=x;rw [hB.out,show 5 - 1=(4 - 1)+1 by rfl,bgs,if_pos hle,if_pos hq,HN.out]
            have cW:Hid (∀ W:World,Calls Tryz.prog 63 #[.int .i64 x] W fun e w'=>e = .returned (.int .i64 1)∧w'=W):=fun W=>by have:=rwidth_any x W;rw [hq1.1] at this;exact this
            have cP:Hid (∀ W:World,Calls Tryz.prog 19 #[.int .i64 x] W fun e w'=>e = .returned (.string (s.extract p (p+1)))∧Below W.heap.size W w'):=fun W=>by have:=rput_any x W;rw [hq1.2] at this;exact this
            clear hq hq1 hB HN
            go_wp2_with fail
            refine wp_region_quiet_below mixed (by kernel_rfl) ?_
            repeat (go_big_quiet_step ((first | (go_at_call 63;exact below_same (cW.out _)) | (go_at_call 19;exact below_of (cP.out _)))))
            refine wpQuiet_nil ?_
            intro _ hw'
            obtain ⟨⟨w2,hb2⟩,hw''⟩:=hw'
            subst hw''
            go_wp2_with fail
            go_ret
            exact ⟨by rw [HR.out];rfl,HB1.out.trans (hb2.mono HB1.out.size)⟩
          | false=>
           as_aux_lemma=>
            have HR:Hid (beginsU s p=bgs s p (5 - (1+1)) (1+1)):=hB.out.trans (bgs_no s p (4 - 1) 1 hle hq)
            by_cases hw:wd x=1
            · have hne:put x≠s.extract p (p+1):=fun h=>by unfold tst at hq;rw [HN.out] at hq;exact absurd ⟨hw,h⟩ (of_decide_eq_false hq)
              have cW:Hid (∀ W:World,Calls Tryz.prog 63 #[.int .i64 x] W fun e w'=>e = .returned (.int .i64 1)∧w'=W):=fun W=>by have:=rwidth_any x W;rw [hw] at this;exact this
              obtain ⟨z,hz⟩:∃ z,put x=z:=⟨_,rfl⟩
              have cP:Hid (∀ W:World,Calls Tryz.prog 19 #[.int .i64 x] W fun e w'=>e = .returned (.string z)∧Below W.heap.size W w'):=fun W=>by have:=rput_any x W;rw [hz] at this;exact this
              rw [hz] at hne
              have hzn:=bstr_ne hne
              clear hq hw hz hne hB HN
              go_wp2_with fail
              refine wp_region_quiet_below mixed (by kernel_rfl) ?_
              repeat (go_big_quiet_step ((first | (go_at_call 63;exact below_same (cW.out _)) | (go_at_call 19;exact below_of (cP.out _)))))
              refine wpQuiet_nil ?_
              intro _ hw'
              obtain ⟨⟨w2,hb2⟩,hw''⟩:=hw'
              subst hw''
              go_wp2_with fail
              exact ⟨⟨1+1,rfl,by omega,by omega,HR,HB1.out.trans (hb2.mono HB1.out.size)⟩,by simp [intOf]⟩
            · obtain ⟨d,hd⟩:∃ d,wd x=d:=⟨_,rfl⟩
              have cW:Hid (∀ W:World,Calls Tryz.prog 63 #[.int .i64 x] W fun e w'=>e = .returned (.int .i64 d)∧w'=W):=fun W=>by have:=rwidth_any x W;rw [hd] at this;exact this
              rw [hd] at hw
              have hdn:(d == 1)=false:=by simpa using hw
              clear hq hw hd hB HN
              go_wp2_with fail
              refine wp_region_quiet_below mixed (by kernel_rfl) ?_
              repeat (go_big_quiet_step ((go_at_call 63;exact below_same (cW.out _))))
              refine wpQuiet_nil ?_
              intro _ hw'
              obtain ⟨⟨w2,hb2⟩,hw''⟩:=hw'
              subst hw''
              go_wp2_with fail
              exact ⟨⟨1+1,rfl,by omega,by omega,HR,HB1.out.trans (hb2.mono HB1.out.size)⟩,by simp [intOf]⟩
      ·
       rw [show ((2:Nat):Int)=(2:Int) from rfl]
       go_wp2_with fail
       go_loopw [6,7] (fun vu vi wq=>∃ (k x:Nat),vu = .int .i64 x∧vi = .int .i64 ((k:Int)+1)∧k+1≤2∧x<67108864∧(k≤2→x<1048576)∧(k≤1→x<16384)∧(k=0→x<256)∧Hid (x=acc s p ((s.get! p).toNat % md 2) k)∧Below w.heap.size w wq) (fun _ vi _=>2 - (intOf vi).toNat)
       case atStart=>
        have hm:=(s.get! p).toNat_lt
        have hm2:=Nat.mod_le (s.get! p).toNat (md 2)
        exact ⟨0,((s.get! p).toNat % md 2),by rw [w64b,←get_bang s p hp] <;> rfl,rfl,by omega,by omega,by omega,by omega,by omega,rfl,(HB0.out.alloc HB0.out.size _)⟩
       case round=>
        clear HB0
        obtain ⟨k,x,rfl,rfl,hk,hx,hx2,hx1,hx0,hX,hb⟩:=hrel
        have HB1:Hid (Below w.heap.size w wr):=hb
        clear hb
        have hxi:(x:Int)<67108864:=by omega
        by_cases hlt:k+1<2
        · as_aux_lemma=>
           obtain ⟨q,hq⟩:∃ q:Nat,p+(k+1)=q:=⟨_,rfl⟩
           have hqi:(p:Int)+((k:Int)+1)=(q:Int):=by omega
           have hqs:(q:Int)<(s.size:Int):=by omega
           have HQ:Hid (p+(k+1)=q):=hq
           clear hq
           have hxj:(x:Int)<1048576:=by omega
           have hlt':(k:Int)+1<2:=by omega
           go_wp2_with fail
           refine ⟨⟨k+1,x*64+s[q].toNat % 64,by rw [step_val x s[q] (by omega)],by rw [show ((k:Int)+1+1)=(((k+1:Nat):Int)+1) by omega],by omega,by omega,by omega,by omega,by omega,?_,HB1.out⟩,by simp [intOf];omega⟩
           show x*64+s[q].toNat % 64=acc s p _ k*64+(s.get! (p+(k+1))).toNat % 64
           rw [←hX.out,HQ.out,get_bang s q (by omega)]
        · have hk1:k=1:=by omega
          subst hk1
          have HN:Hid (num s p 2=x):=hX.out.symm
          have hlei:(p:Int)+2≤(s.size:Int):=by omega
          clear hX hlt hx2 hx1 hx0 hk
          cases hq:tst s p 2 with
          | true=>
           as_aux_lemma=>
            have hq1:wd x=2∧put x=s.extract p (p+2):=by unfold tst at hq;rw [HN.out] at hq;exact of_decide_eq_true hq
            have HR:Hid (beginsU s p=x):=by show beginsU s p=x;rw [hB.out,show 5 - 2=(4 - 2)+1 by rfl,bgs,if_pos hle,if_pos hq,HN.out]
            have cW:Hid (∀ W:World,Calls Tryz.prog 63 #[.int .i64 x] W fun e w'=>e = .returned (.int .i64 2)∧w'=W):=fun W=>by have:=rwidth_any x W;rw [hq1.1] at this;exact this
            have cP:Hid (∀ W:World,Calls Tryz.prog 19 #[.int .i64 x] W fun e w'=>e = .returned (.string (s.extract p (p+2)))∧Below W.heap.size W w'):=fun W=>by have:=rput_any x W;rw [hq1.2] at this;exact this
            clear hq hq1 hB HN
            go_wp2_with fail
            refine wp_region_quiet_below mixed (by kernel_rfl) ?_
            repeat (go_big_quiet_step ((first | (go_at_call 63;exact below_same (cW.out _)) | (go_at_call 19;exact below_of (cP.out _)))))
            refine wpQuiet_nil ?_
            intro _ hw'
            obtain ⟨⟨w2,hb2⟩,hw''⟩:=hw'
            subst hw''
            go_wp2_with fail
            go_ret
            exact ⟨by rw [HR.out];rfl,HB1.out.trans (hb2.mono HB1.out.size)⟩
          | false=>
           as_aux_lemma=>
            have HR:Hid (beginsU s p=bgs s p (5 - (2+1)) (2+1)):=hB.out.trans (bgs_no s p (4 - 2) 2 hle hq)
            by_cases hw:wd x=2
            · have hne:put x≠s.extract p (p+2):=fun h=>by unfold tst at hq;rw [HN.out] at hq;exact absurd ⟨hw,h⟩ (of_decide_eq_false hq)
              have cW:Hid (∀ W:World,Calls Tryz.prog 63 #[.int .i64 x] W fun e w'=>e = .returned (.int .i64 2)∧w'=W):=fun W=>by have:=rwidth_any x W;rw [hw] at this;exact this
              obtain ⟨z,hz⟩:∃ z,put x=z:=⟨_,rfl⟩
              have cP:Hid (∀ W:World,Calls Tryz.prog 19 #[.int .i64 x] W fun e w'=>e = .returned (.string z)∧Below W.heap.size W w'):=fun W=>by have:=rput_any x W;rw [hz] at this;exact this
              rw [hz] at hne
              have hzn:=bstr_ne hne
              clear hq hw hz hne hB HN
              go_wp2_with fail
              refine wp_region_quiet_below mixed (by kernel_rfl) ?_
              repeat (go_big_quiet_step ((first | (go_at_call 63;exact below_same (cW.out _)) | (go_at_call 19;exact below_of (cP.out _)))))
              refine wpQuiet_nil ?_
              intro _ hw'
              obtain ⟨⟨w2,hb2⟩,hw''⟩:=hw'
              subst hw''
              go_wp2_with fail
              exact ⟨⟨2+1,rfl,by omega,by omega,HR,HB1.out.trans (hb2.mono HB1.out.size)⟩,by simp [intOf]⟩
            · obtain ⟨d,hd⟩:∃ d,wd x=d:=⟨_,rfl⟩
              have cW:Hid (∀ W:World,Calls Tryz.prog 63 #[.int .i64 x] W fun e w'=>e = .returned (.int .i64 d)∧w'=W):=fun W=>by have:=rwidth_any x W;rw [hd] at this;exact this
              rw [hd] at hw
              have hdn:(d == 2)=false:=by simpa using hw
              clear hq hw hd hB HN
              go_wp2_with fail
              refine wp_region_quiet_below mixed (by kernel_rfl) ?_
              repeat (go_big_quiet_step ((go_at_call 63;exact below_same (cW.out _))))
              refine wpQuiet_nil ?_
              intro _ hw'
              obtain ⟨⟨w2,hb2⟩,hw''⟩:=hw'
              subst hw''
              go_wp2_with fail
              exact ⟨⟨2+1,rfl,by omega,by omega,HR,HB1.out.trans (hb2.mono HB1.out.size)⟩,by simp [intOf]⟩
      ·
       rw [show ((3:Nat):Int)=(3:Int) from rfl]
       go_wp2_with fail
       go_loopw [6,7] (fun vu vi wq=>∃ (k x:Nat),vu = .int .i64 x∧vi = .int .i64 ((k:Int)+1)∧k+1≤3∧x<67108864∧(k≤2→x<1048576)∧(k≤1→x<16384)∧(k=0→x<256)∧Hid (x=acc s p ((s.get! p).toNat % md 3) k)∧Below w.heap.size w wq) (fun _ vi _=>3 - (intOf vi).toNat)
       case atStart=>
        have hm:=(s.get! p).toNat_lt
        have hm2:=Nat.mod_le (s.get! p).toNat (md 3)
        exact ⟨0,((s.get! p).toNat % md 3),by rw [w64b,←get_bang s p hp] <;> rfl,rfl,by omega,by omega,by omega,by omega,by omega,rfl,(HB0.out.alloc HB0.out.size _)⟩
       case round=>
        clear HB0
        obtain ⟨k,x,rfl,rfl,hk,hx,hx2,hx1,hx0,hX,hb⟩:=hrel
        have HB1:Hid (Below w.heap.size w wr):=hb
        clear hb
        have hxi:(x:Int)<67108864:=by omega
        by_cases hlt:k+1<3
        · as_aux_lemma=>
           obtain ⟨q,hq⟩:∃ q:Nat,p+(k+1)=q:=⟨_,rfl⟩
           have hqi:(p:Int)+((k:Int)+1)=(q:Int):=by omega
           have hqs:(q:Int)<(s.size:Int):=by omega
           have HQ:Hid (p+(k+1)=q):=hq
           clear hq
           have hxj:(x:Int)<1048576:=by omega
           have hlt':(k:Int)+1<3:=by omega
           go_wp2_with fail
           refine ⟨⟨k+1,x*64+s[q].toNat % 64,by rw [step_val x s[q] (by omega)],by rw [show ((k:Int)+1+1)=(((k+1:Nat):Int)+1) by omega],by omega,by omega,by omega,by omega,by omega,?_,HB1.out⟩,by simp [intOf];omega⟩
           show x*64+s[q].toNat % 64=acc s p _ k*64+(s.get! (p+(k+1))).toNat % 64
           rw [←hX.out,HQ.out,get_bang s q (by omega)]
        · have hk1:k=2:=by omega
          subst hk1
          have HN:Hid (num s p 3=x):=hX.out.symm
          have hlei:(p:Int)+3≤(s.size:Int):=by omega
          clear hX hlt hx2 hx1 hx0 hk
          cases hq:tst s p 3 with
          | true=>
           as_aux_lemma=>
            have hq1:wd x=3∧put x=s.extract p (p+3):=by unfold tst at hq;rw [HN.out] at hq;exact of_decide_eq_true hq
            have HR:Hid (beginsU s p=x):=by show beginsU s p=x;rw [hB.out,show 5 - 3=(4 - 3)+1 by rfl,bgs,if_pos hle,if_pos hq,HN.out]
            have cW:Hid (∀ W:World,Calls Tryz.prog 63 #[.int .i64 x] W fun e w'=>e = .returned (.int .i64 3)∧w'=W):=fun W=>by have:=rwidth_any x W;rw [hq1.1] at this;exact this
            have cP:Hid (∀ W:World,Calls Tryz.prog 19 #[.int .i64 x] W fun e w'=>e = .returned (.string (s.extract p (p+3)))∧Below W.heap.size W w'):=fun W=>by have:=rput_any x W;rw [hq1.2] at this;exact this
            clear hq hq1 hB HN
            go_wp2_with fail
            refine wp_region_quiet_below mixed (by kernel_rfl) ?_
            repeat (go_big_quiet_step ((first | (go_at_call 63;exact below_same (cW.out _)) | (go_at_call 19;exact below_of (cP.out _)))))
            refine wpQuiet_nil ?_
            intro _ hw'
            obtain ⟨⟨w2,hb2⟩,hw''⟩:=hw'
            subst hw''
            go_wp2_with fail
            go_ret
            exact ⟨by rw [HR.out];rfl,HB1.out.trans (hb2.mono HB1.out.size)⟩
          | false=>
           as_aux_lemma=>
            have HR:Hid (beginsU s p=bgs s p (5 - (3+1)) (3+1)):=hB.out.trans (bgs_no s p (4 - 3) 3 hle hq)
            by_cases hw:wd x=3
            · have hne:put x≠s.extract p (p+3):=fun h=>by unfold tst at hq;rw [HN.out] at hq;exact absurd ⟨hw,h⟩ (of_decide_eq_false hq)
              have cW:Hid (∀ W:World,Calls Tryz.prog 63 #[.int .i64 x] W fun e w'=>e = .returned (.int .i64 3)∧w'=W):=fun W=>by have:=rwidth_any x W;rw [hw] at this;exact this
              obtain ⟨z,hz⟩:∃ z,put x=z:=⟨_,rfl⟩
              have cP:Hid (∀ W:World,Calls Tryz.prog 19 #[.int .i64 x] W fun e w'=>e = .returned (.string z)∧Below W.heap.size W w'):=fun W=>by have:=rput_any x W;rw [hz] at this;exact this
              rw [hz] at hne
              have hzn:=bstr_ne hne
              clear hq hw hz hne hB HN
              go_wp2_with fail
              refine wp_region_quiet_below mixed (by kernel_rfl) ?_
              repeat (go_big_quiet_step ((first | (go_at_call 63;exact below_same (cW.out _)) | (go_at_call 19;exact below_of (cP.out _)))))
              refine wpQuiet_nil ?_
              intro _ hw'
              obtain ⟨⟨w2,hb2⟩,hw''⟩:=hw'
              subst hw''
              go_wp2_with fail
              exact ⟨⟨3+1,rfl,by omega,by omega,HR,HB1.out.trans (hb2.mono HB1.out.size)⟩,by simp [intOf]⟩
            · obtain ⟨d,hd⟩:∃ d,wd x=d:=⟨_,rfl⟩
              have cW:Hid (∀ W:World,Calls Tryz.prog 63 #[.int .i64 x] W fun e w'=>e = .returned (.int .i64 d)∧w'=W):=fun W=>by have:=rwidth_any x W;rw [hd] at this;exact this
              rw [hd] at hw
              have hdn:(d == 3)=false:=by simpa using hw
              clear hq hw hd hB HN
              go_wp2_with fail
              refine wp_region_quiet_below mixed (by kernel_rfl) ?_
              repeat (go_big_quiet_step ((go_at_call 63;exact below_same (cW.out _))))
              refine wpQuiet_nil ?_
              intro _ hw'
              obtain ⟨⟨w2,hb2⟩,hw''⟩:=hw'
              subst hw''
              go_wp2_with fail
              exact ⟨⟨3+1,rfl,by omega,by omega,HR,HB1.out.trans (hb2.mono HB1.out.size)⟩,by simp [intOf]⟩
      ·
       rw [show ((4:Nat):Int)=(4:Int) from rfl]
       go_wp2_with fail
       go_loopw [6,7] (fun vu vi wq=>∃ (k x:Nat),vu = .int .i64 x∧vi = .int .i64 ((k:Int)+1)∧k+1≤4∧x<67108864∧(k≤2→x<1048576)∧(k≤1→x<16384)∧(k=0→x<256)∧Hid (x=acc s p ((s.get! p).toNat % md 4) k)∧Below w.heap.size w wq) (fun _ vi _=>4 - (intOf vi).toNat)
       case atStart=>
        have hm:=(s.get! p).toNat_lt
        have hm2:=Nat.mod_le (s.get! p).toNat (md 4)
        exact ⟨0,((s.get! p).toNat % md 4),by rw [w64b,←get_bang s p hp] <;> rfl,rfl,by omega,by omega,by omega,by omega,by omega,rfl,(HB0.out.alloc HB0.out.size _)⟩
       case round=>
        clear HB0
        obtain ⟨k,x,rfl,rfl,hk,hx,hx2,hx1,hx0,hX,hb⟩:=hrel
        have HB1:Hid (Below w.heap.size w wr):=hb
        clear hb
        have hxi:(x:Int)<67108864:=by omega
        by_cases hlt:k+1<4
        · as_aux_lemma=>
           obtain ⟨q,hq⟩:∃ q:Nat,p+(k+1)=q:=⟨_,rfl⟩
           have hqi:(p:Int)+((k:Int)+1)=(q:Int):=by omega
           have hqs:(q:Int)<(s.size:Int):=by omega
           have HQ:Hid (p+(k+1)=q):=hq
           clear hq
           have hxj:(x:Int)<1048576:=by omega
           have hlt':(k:Int)+1<4:=by omega
           go_wp2_with fail
           refine ⟨⟨k+1,x*64+s[q].toNat % 64,by rw [step_val x s[q] (by omega)],by rw [show ((k:Int)+1+1)=(((k+1:Nat):Int)+1) by omega],by omega,by omega,by omega,by omega,by omega,?_,HB1.out⟩,by simp [intOf];omega⟩
           show x*64+s[q].toNat % 64=acc s p _ k*64+(s.get! (p+(k+1))).toNat % 64
           rw [←hX.out,HQ.out,get_bang s q (by omega)]
        · have hk1:k=3:=by omega
          subst hk1
          have HN:Hid (num s p 4=x):=hX.out.symm
          have hlei:(p:Int)+4≤(s.size:Int):=by omega
          clear hX hlt hx2 hx1 hx0 hk
          cases hq:tst s p 4 with
          | true=>
           as_aux_lemma=>
            have hq1:wd x=4∧put x=s.extract p (p+4):=by unfold tst at hq;rw [HN.out] at hq;exact of_decide_eq_true hq
            have HR:Hid (beginsU s p=x):=by show beginsU s p=x;rw [hB.out,show 5 - 4=(4 - 4)+1 by rfl,bgs,if_pos hle,if_pos hq,HN.out]
            have cW:Hid (∀ W:World,Calls Tryz.prog 63 #[.int .i64 x] W fun e w'=>e = .returned (.int .i64 4)∧w'=W):=fun W=>by have:=rwidth_any x W;rw [hq1.1] at this;exact this
            have cP:Hid (∀ W:World,Calls Tryz.prog 19 #[.int .i64 x] W fun e w'=>e = .returned (.string (s.extract p (p+4)))∧Below W.heap.size W w'):=fun W=>by have:=rput_any x W;rw [hq1.2] at this;exact this
            clear hq hq1 hB HN
            go_wp2_with fail
            refine wp_region_quiet_below mixed (by kernel_rfl) ?_
            repeat (go_big_quiet_step ((first | (go_at_call 63;exact below_same (cW.out _)) | (go_at_call 19;exact below_of (cP.out _)))))
            refine wpQuiet_nil ?_
            intro _ hw'
            obtain ⟨⟨w2,hb2⟩,hw''⟩:=hw'
            subst hw''
            go_wp2_with fail
            go_ret
            exact ⟨by rw [HR.out];rfl,HB1.out.trans (hb2.mono HB1.out.size)⟩
          | false=>
           as_aux_lemma=>
            have HR:Hid (beginsU s p=bgs s p (5 - (4+1)) (4+1)):=hB.out.trans (bgs_no s p (4 - 4) 4 hle hq)
            by_cases hw:wd x=4
            · have hne:put x≠s.extract p (p+4):=fun h=>by unfold tst at hq;rw [HN.out] at hq;exact absurd ⟨hw,h⟩ (of_decide_eq_false hq)
              have cW:Hid (∀ W:World,Calls Tryz.prog 63 #[.int .i64 x] W fun e w'=>e = .returned (.int .i64 4)∧w'=W):=fun W=>by have:=rwidth_any x W;rw [hw] at this;exact this
              obtain ⟨z,hz⟩:∃ z,put x=z:=⟨_,rfl⟩
              have cP:Hid (∀ W:World,Calls Tryz.prog 19 #[.int .i64 x] W fun e w'=>e = .returned (.string z)∧Below W.heap.size W w'):=fun W=>by have:=rput_any x W;rw [hz] at this;exact this
              rw [hz] at hne
              have hzn:=bstr_ne hne
              clear hq hw hz hne hB HN
              go_wp2_with fail
              refine wp_region_quiet_below mixed (by kernel_rfl) ?_
              repeat (go_big_quiet_step ((first | (go_at_call 63;exact below_same (cW.out _)) | (go_at_call 19;exact below_of (cP.out _)))))
              refine wpQuiet_nil ?_
              intro _ hw'
              obtain ⟨⟨w2,hb2⟩,hw''⟩:=hw'
              subst hw''
              go_wp2_with fail
              exact ⟨⟨4+1,rfl,by omega,by omega,HR,HB1.out.trans (hb2.mono HB1.out.size)⟩,by simp [intOf]⟩
            · obtain ⟨d,hd⟩:∃ d,wd x=d:=⟨_,rfl⟩
              have cW:Hid (∀ W:World,Calls Tryz.prog 63 #[.int .i64 x] W fun e w'=>e = .returned (.int .i64 d)∧w'=W):=fun W=>by have:=rwidth_any x W;rw [hd] at this;exact this
              rw [hd] at hw
              have hdn:(d == 4)=false:=by simpa using hw
              clear hq hw hd hB HN
              go_wp2_with fail
              refine wp_region_quiet_below mixed (by kernel_rfl) ?_
              repeat (go_big_quiet_step ((go_at_call 63;exact below_same (cW.out _))))
              refine wpQuiet_nil ?_
              intro _ hw'
              obtain ⟨⟨w2,hb2⟩,hw''⟩:=hw'
              subst hw''
              go_wp2_with fail
              exact ⟨⟨4+1,rfl,by omega,by omega,HR,HB1.out.trans (hb2.mono HB1.out.size)⟩,by simp [intOf]⟩
    · as_aux_lemma=>
       have hle':¬ ((p:Int)+n≤(s.size:Int)):=by omega
       go_wp2_with fail
       go_ret
       obtain ⟨j,hj⟩:∃ j,5 - n=j+1:=⟨4 - n,by omega⟩
       refine ⟨?_,HB0.out⟩
       rw [hB.out,hj,bgs,if_neg hle]
       rfl
def OwnU (w:World) (base:Nat) (v:Value) (l:List (Nat × Nat)):Prop:=w.ownsRow base 91 2 v l.length (flat l)
theorem info89:(Tryz.prog.info? 91).map (fun i=>(i.zero,i.size,i.bytes))=some (some (.agg #[.int .i64 0,.int .i64 0]),2,16):=by kernel_rfl
theorem flat_append (l r:List (Nat × Nat)):flat (l++r)=flat l++flat r:=by simp [flat]
theorem flat_at:∀ (l:List (Nat × Nat)) {j:Nat} {x:Nat × Nat},l[j]? = some x→(flat l)[j*2]? = some (.int .i64 x.1)∧(flat l)[j*2+1]? = some (.int .i64 x.2)
 | [],j,x,h=>by simp at h
 | y::l,0,x,h=>by simp at h;subst h;simp [flat]
 | y::l,j+1,x,h=>by
  have ih:=flat_at l (j:=j) (x:=x) (by simpa using h)
  have e:flat (y::l) = .int .i64 y.1 :: .int .i64 y.2::flat l:=by simp [flat]
  rw [e,show (j+1)*2=j*2+1+1 by omega]
  simpa using ih
theorem addr_zero (g j:Nat):(⟨g,0,none⟩:Addr).add j=⟨g,j,none⟩:=by
 unfold Addr.add
 by_cases h:j=0
 · subst h;rfl
 · simp [h]
theorem OwnU.at {w:World} {base g n cap:Nat} {l:List (Nat × Nat)} (h:OwnU w base (.slice (some ⟨g,0,none⟩) n cap) l) {j:Nat} {x:Nat × Nat} (hj:l[j]? = some x):w.cell? ⟨g,j*2,none⟩=some (.int .i64 x.1)∧w.cell? ⟨g,j*2+1,none⟩=some (.int .i64 x.2):=by
 have h1:=h.cells rfl
 have:=flat_at l hj
 have a1:=h1 _ _ this.1
 have a2:=h1 _ _ this.2
 rw [addr_zero] at a1 a2
 exact ⟨a1,a2⟩
theorem OwnU.alloc {w:World} {base:Nat} {v:Value} {l:List (Nat × Nat)} (h:OwnU w base v l) (o:Obj):OwnU (w.alloc o) base v l:=World.ownsRow.alloc h o
theorem OwnU.below {w w':World} {base n:Nat} {v:Value} {l:List (Nat × Nat)} (h:OwnU w base v l) (hb:Below n w w') (hn:w.heap.size≤n):OwnU w' base v l:=by
 refine ⟨h.1,?_⟩
 rcases h.2 with h | ⟨g,cap,cur,rfl,h1,h2,h3⟩
 · exact .inl h
 · have:g<w.heap.size:=(Array.getElem?_eq_some_iff.1 h2).1
   exact .inr ⟨g,cap,cur,rfl,h1,(hb.block g (by omega)).trans h2,h3⟩
theorem uinfo_parts {P:Program} {e:TypeId} {z:Value} {s b:Nat} (h:(P.info? e).map (fun i=>(i.zero,i.size,i.bytes))=some (some z,s,b)):∃ i,P.info? e=some i∧i.zero=some z∧i.size=s∧i.bytes=b:=by
 cases hi:P.info? e with
 | none=>rw [hi] at h;simp at h
 | some i=>rw [hi] at h;simp at h;exact ⟨i,rfl,h.1,h.2.1,h.2.2⟩
theorem push_U {ops:Array Oper} {rest:List Oper} {o:Oper} {a:Act} {Q:Exit→Act→World→Prop} {w:World} (hgd:o.guard=none) (s x:Operand)
 (ho:o.op = .call { callee := .builtin .append,args:=#[s,x],argTypes:=#[88,88] })
 (base:Nat) (v:Value) (l:List (Nat × Nat)) (hs:a.eval s=v) (hown:OwnU w base v l) (g c:Nat) (p q:Nat) (q':Int) (hqq:q'=(q:Int)) (hx:a.eval x = .slice (some ⟨g,0,none⟩) 1 c)
 (hp:w.cell? ⟨g,0,none⟩=some (.int .i64 p)) (hq:w.cell? ⟨g,1,none⟩=some (.int .i64 q')) (hl:l.length+1≤8796093022208) (hbase:base≤w.heap.size)
 (h:∀ v' w',OwnU w' base v' (l++[(p,q)])→Below base w w'→wpList Tryz.prog ops Q rest (a.put o.dst v') w'):wpList Tryz.prog ops Q (o::rest) a w:=by
 subst hqq
 obtain ⟨i0,hi,hz0,hz1,hz2⟩:=uinfo_parts info89
 refine wpList_append_own w hgd s x 88 ho base 91 i0 (.agg #[.int .i64 0,.int .i64 0]) 2 16 Tryz.underlying88 hi hz0 hz1 hz2 rfl (by decide) v l.length (flat l) hs hown ⟨g,0,none⟩ 1 c (flat [(p,q)]) hx rfl ?_ ?_ (by unfold maxLen;omega) (by omega) hbase (fun v' w' h2 h3 _=>h v' w' ?_ ((Below.refl _ w).grown h3 hbase (fun k hk=>(World.ownsRow.lt hown k hk).1)))
 · intro j u hj
   match j,hj with
   | 0,hj=>simp [flat] at hj;subst hj;exact hp
   | 1,hj=>simp [flat] at hj;subst hj;exact hq
 · intro u hu;simp [flat] at hu;rcases hu with rfl | rfl <;> rfl
 · unfold OwnU
   rw [flat_append,List.length_append]
   exact h2
theorem units_next (s:ByteArray) (p:Nat) (hp:p<s.size):unitsN s s.size p=(p,uAt s p)::unitsN s s.size (p+uw s p):=by
 obtain ⟨j,hj⟩:∃ j,s.size=j+1:=⟨s.size - 1,by omega⟩
 have h1:=unitsN_step s j p hp
 have hu:=uw_pos s p
 rw [←hj] at h1
 rw [h1,fuel s j s.size (p+uw s p) (by omega) (by omega)]
theorem units_len (s:ByteArray):(units s).length≤s.size:=units_len_N s _ _
theorem strayVal (s:ByteArray) (p:Nat) (hp:p<s.size):wrap64 (1114112+wrap64 (s[p].toNat:Int))=((1114112+(s.get! p).toNat:Nat):Int):=by
 have:=(s[p]).toNat_lt
 rw [w64b,get_bang s p hp,show (1114112:Int)+((s[p].toNat:Nat):Int)=((1114112+s[p].toNat:Nat):Int) by omega]
 exact IntWalk.wrap64_in _ (by omega)
set_option maxHeartbeats 4000000 in
theorem runits_any (s:ByteArray) (w:World) (hs:s.size≤4398046511104):Calls Tryz.prog 36 #[.string s] w fun e w'=>∃ v,e = .returned v∧OwnU w' w.heap.size v (units s)∧Below w.heap.size w w':=by
 have hsi:(s.size:Int)≤4398046511104:=by omega
 go_enter Tryz.func36,Tryz.ntmps36
 go_wp2
 go_loopw [3,4] (fun vo va wr=>∃ (p:Nat) (l:List (Nat × Nat)),va = .int .i64 p∧p≤s.size∧l.length≤p∧Hid (l++unitsN s s.size p=units s)∧OwnU wr w.heap.size vo l∧Below w.heap.size w wr) (fun _ va _=>s.size - (intOf va).toNat)
 case atStart=>exact ⟨0,[],rfl,by omega,by simp,rfl,World.ownsRow_lit w _ 0 (Nat.le_refl _) (by unfold maxLen;omega) rfl,(Below.refl _ w).alloc (Nat.le_refl _) _⟩
 case round=>
  obtain ⟨p,l,rfl,hp,hl,hU,hO,hB⟩:=hrel
  have HO:Hid (OwnU wr w.heap.size u3 l):=hO
  have HB:Hid (Below w.heap.size w wr):=hB
  clear hO hB
  by_cases hps:p=s.size
  · as_aux_lemma=>
     subst hps
     have e:l=units s:=by rw [←hU.out,unitsN_end s _ _ (by omega),List.append_nil]
     subst e
     clear hU
     go_wp2
     go_ret
     exact ⟨_,rfl,HO.out,HB.out⟩
  · have hlt:p<s.size:=by omega
    have hpi:(p:Int)<(s.size:Int):=by omega
    have hu:=uw_pos s p
    have hin:=uw_in s p hlt
    have HN:Hid ((l++[(p,uAt s p)])++unitsN s s.size (p+uw s p)=units s):=by
     show _=_
     rw [←hU.out,units_next s p hlt];simp
    have hux:=uAt_lt s p
    have HW:Hid (wd (uAt s p:Int)=(uw s p:Int)):=wd_uAt s p
    cases hst:strayAt s p with
    | true=>
     as_aux_lemma=>
      have HE:Hid (beginsU s p = -1):=by show _=_;rw [begins_eq s p hlt,hst];rfl
      have HA:Hid (1114112+(s.get! p).toNat=uAt s p):=(uAt_stray hst).symm
      clear hst hU
      generalize uAt s p=x at *
      generalize uw s p=d at *
      go_wp2_with fail
      refine (begins_any s p _ hlt hs).mono ?_
      rw [HE.out]
      rintro e w1 ⟨rfl,hb1⟩
      replace HO:Hid (OwnU w1 w.heap.size u3 l):=HO.out.below hb1 (Nat.le_refl _)
      replace HB:Hid (Below w.heap.size w w1):=HB.out.trans (hb1.mono HB.out.size)
      have hz:=HB.out.size
      clear hb1 HE
      go_wp2_with (at_builtin;go_must (refine push_U rfl _ _ rfl w.heap.size _ _ rfl (HO.out.alloc _) _ _ p x _ ((strayVal s p hlt).trans (by rw [HA.out])) rfl (by simp) (by simp) (by omega) (by simp;omega) ?_);intro v' w3 hO1 hb3)
      have HO1:Hid (OwnU w3 w.heap.size v' (l++[(p,x)])):=hO1
      have HB3:Hid (Below w.heap.size w w3):=(HB.out.alloc hz _).trans hb3
      clear hO1 hb3 HO HB
      go_wp2_with fail
      refine (rwidth_any _ _).mono ?_
      rw [strayVal s p hlt,HA.out,HW.out]
      rintro e w4 ⟨rfl,rfl⟩
      clear HA HW
      go_wp2
      exact ⟨⟨p+d,_,by go_num,by omega,by simp;omega,HN,HO1.out,HB3.out⟩,by simp [intOf];omega⟩
    | false=>
     as_aux_lemma=>
      have HE:Hid (beginsU s p=(uAt s p:Int)):=by show _=_;rw [begins_eq s p hlt,hst];rfl
      clear hst hU
      generalize uAt s p=x at *
      generalize uw s p=d at *
      clear hux
      have hz:=HB.out.size
      go_wp2_with fail
      refine (begins_any s p _ hlt hs).mono ?_
      rw [HE.out]
      rintro e w1 ⟨rfl,hb1⟩
      replace HO:Hid (OwnU w1 w.heap.size u3 l):=HO.out.below hb1 (Nat.le_refl _)
      replace HB:Hid (Below w.heap.size w w1):=HB.out.trans (hb1.mono HB.out.size)
      replace hz:=HB.out.size
      clear hb1 HE
      go_wp2_with (at_builtin;go_must (refine push_U rfl _ _ rfl w.heap.size _ _ rfl (HO.out.alloc _) _ _ p x _ rfl rfl (by simp) (by simp) (by omega) (by simp;omega) ?_);intro v' w3 hO1 hb3)
      have HO1:Hid (OwnU w3 w.heap.size v' (l++[(p,x)])):=hO1
      have HB3:Hid (Below w.heap.size w w3):=(HB.out.alloc hz _).trans hb3
      clear hO1 hb3 HO HB
      go_wp2_with fail
      refine (rwidth_any _ _).mono ?_
      rw [HW.out]
      rintro e w4 ⟨rfl,rfl⟩
      clear HW
      go_wp2
      exact ⟨⟨p+d,_,by go_num,by omega,by simp;omega,HN,HO1.out,HB3.out⟩,by simp [intOf];omega⟩
def OwnI1 (w:World) (base:Nat) (v:Value) (l:List Int):Prop:=w.ownsRow base 3 1 v l.length (l.map (Value.int .i64))
theorem OwnI1.alloc {w:World} {base:Nat} {v:Value} {l:List Int} (h:OwnI1 w base v l) (o:Obj):OwnI1 (w.alloc o) base v l:=World.ownsRow.alloc h o
theorem push_I1 {ops:Array Oper} {rest:List Oper} {o:Oper} {a:Act} {Q:Exit→Act→World→Prop} {w:World} (hgd:o.guard=none) (s x:Operand)
 (ho:o.op = .call { callee := .builtin .append,args:=#[s,x],argTypes:=#[38,38] })
 (base:Nat) (v:Value) (l:List Int) (hs:a.eval s=v) (hown:OwnI1 w base v l) (g c:Nat) (p:Int) (hx:a.eval x = .slice (some ⟨g,0,none⟩) 1 c)
 (hp:w.cell? ⟨g,0,none⟩=some (.int .i64 p)) (hl:l.length+1≤8796093022208) (hbase:base≤w.heap.size)
 (h:∀ v' w',OwnI1 w' base v' (l++[p])→Below base w w'→wpList Tryz.prog ops Q rest (a.put o.dst v') w'):wpList Tryz.prog ops Q (o::rest) a w:=by
 obtain ⟨i0,hi,hz0,hz1,hz2⟩:=uinfo_parts info3
 refine wpList_append_own w hgd s x 38 ho base 3 i0 (.int .i64 0) 1 8 Tryz.underlying38 hi hz0 hz1 hz2 rfl (by decide) v l.length _ hs hown ⟨g,0,none⟩ 1 c [.int .i64 p] hx rfl ?_ (by simp;rfl) (by unfold maxLen;omega) (by omega) hbase (fun v' w' h2 h3 _=>h v' w' ?_ ((Below.refl _ w).grown h3 hbase (fun k hk=>(World.ownsRow.lt hown k hk).1)))
 · intro j u hj
   match j,hj with
   | 0,hj=>simp at hj;subst hj;exact hp
 · unfold OwnI1
   rw [List.map_append,List.length_append]
   exact h2
def OwnI0 (w:World) (base:Nat) (v:Value) (l:List Int):Prop:=(∃ A,v = .slice A 0 0∧l=[])∨OwnI1 w base v l
theorem OwnI0.alloc {w:World} {base:Nat} {v:Value} {l:List Int} (h:OwnI0 w base v l) (o:Obj):OwnI0 (w.alloc o) base v l:=h.imp id fun h=>h.alloc o
theorem OwnI0.ir {w:World} {base:Nat} {v:Value} {l:List Int} (h:OwnI0 w base v l):IR w v l:=by
 rcases h with ⟨A,rfl,rfl⟩ | h
 · exact ⟨A,0,rfl,Nat.le_refl _,.inl rfl⟩
 · exact OwnI.ir h
theorem push_I0 {ops:Array Oper} {rest:List Oper} {o:Oper} {a:Act} {Q:Exit→Act→World→Prop} {w:World} (hgd:o.guard=none) (s x:Operand)
 (ho:o.op = .call { callee := .builtin .append,args:=#[s,x],argTypes:=#[38,38] })
 (base:Nat) (v:Value) (l:List Int) (hs:a.eval s=v) (hown:OwnI0 w base v l) (g c:Nat) (p:Int) (hx:a.eval x = .slice (some ⟨g,0,none⟩) 1 c)
 (hp:w.cell? ⟨g,0,none⟩=some (.int .i64 p)) (hl:l.length+1≤8796093022208) (hbase:base≤w.heap.size)
 (h:∀ v' w',OwnI0 w' base v' (l++[p])→Below base w w'→wpList Tryz.prog ops Q rest (a.put o.dst v') w'):wpList Tryz.prog ops Q (o::rest) a w:=by
 rcases hown with ⟨A,rfl,rfl⟩ | hown
 · obtain ⟨i0,hi,hz0,hz1,hz2⟩:=uinfo_parts info3
   refine wpList_append_grows w hgd s x 38 ho 3 i0 (.int .i64 0) 1 8 Tryz.underlying38 hi hz0 hz1 hz2 rfl (by decide) A 0 0 [] hs (fun _=>⟨rfl,rfl⟩) rfl (fun b _ j u hj=>by simp at hj) ⟨g,0,none⟩ 1 c [.int .i64 p] hx rfl ?_ (by simp;rfl) (by omega) (by unfold maxLen;omega) (by omega) (fun v' w' h2 h3=>h v' w' (.inr ?_) ((Below.refl _ w).grown h3 hbase (fun k hk=>by cases hk)))
   · intro j u hj
     match j,hj with
     | 0,hj=>simp at hj;subst hj;exact hp
   · exact Joins.ownsRow_le h2 hbase
 · exact push_I1 hgd s x ho base v l hs hown g c p hx hp hl hbase (fun v' w' h1 h2=>h v' w' (.inr h1) h2)
theorem intsU_at {l:List (Nat × Nat)} {i:Nat} {x:Nat × Nat} (h:l[i]? = some x):(intsU l).take (i+1)=(intsU l).take i++[(x.2:Int)]:=by
 obtain ⟨hlt,e⟩:=List.getElem?_eq_some_iff.1 h
 rw [List.take_succ_eq_append_getElem (by rw [intsU_length];exact hlt)]
 simp [intsU,e]
set_option maxHeartbeats 4000000 in
theorem rcut_any (s:ByteArray) (w:World) (hs:s.size≤4398046511104):Calls Tryz.prog 15 #[.string s] w fun e w'=>∃ v,e = .returned v∧IR w' v (intsU (units s))∧Below w.heap.size w w':=by
 have hul:=units_len s
 go_enter Tryz.func15,Tryz.ntmps15
 go_wp2_with fail
 refine (runits_any s _ hs).mono ?_
 rintro e w1 ⟨v,rfl,hO,hb⟩
 obtain ⟨A,n,cap,rfl,hn,hcells⟩:∃ A n cap,v = .slice A n cap∧n=(units s).length∧∀ j x,(units s)[j]? = some x→∃ g,A=some ⟨g,0,none⟩∧g<w1.heap.size∧w1.cell? ⟨g,j*2+1,none⟩=some (.int .i64 x.2)∧n≤cap:=by
  rcases hO.2 with ⟨rfl,h0⟩ | ⟨g,cap,cur,rfl,_,hh,hc,_⟩
  · have:units s=[]:=List.eq_nil_of_length_eq_zero h0
    exact ⟨none,0,0,rfl,by rw [this];rfl,fun j x h=>by rw [this] at h;simp at h⟩
  · exact ⟨_,_,cap,rfl,rfl,fun j x h=>⟨g,rfl,(Array.getElem?_eq_some_iff.1 hh).1,(OwnU.at hO h).2,hc⟩⟩
 have HC:Hid (∀ j x,(units s)[j]? = some x→∃ g,A=some ⟨g,0,none⟩∧g<w1.heap.size∧w1.cell? ⟨g,j*2+1,none⟩=some (.int .i64 x.2)∧n≤cap):=hcells
 have HN:Hid (n=(units s).length):=hn
 have hni:n≤4398046511104:=by omega
 have hb0:Below w.heap.size w w1:=by
  first | exact hb | exact ((Below.refl _ w).alloc (Nat.le_refl _) _).trans (hb.mono (by simp))
 have HB:Hid (Below w.heap.size w w1):=hb0
 have hz1:w.heap.size≤w1.heap.size:=hb0.size
 clear hcells hb hn hO hb0 hul
 go_wp2
 go_loopw [3,5] (fun vo vi wr=>∃ i:Nat,vi = .int .i64 i∧i≤n∧OwnI0 wr w1.heap.size vo ((intsU (units s)).take i)∧Below w1.heap.size w1 wr) (fun _ vi _=>n - (intOf vi).toNat)
 case atStart=>exact ⟨0,rfl,by omega,.inl ⟨_,rfl,rfl⟩,Below.refl _ _⟩
 case round=>
  obtain ⟨i,rfl,hi,hO,hW⟩:=hrel
  have hz:w1.heap.size≤wr.heap.size:=hW.size
  by_cases hin:i=n
  · as_aux_lemma=>
     have hni':=hin.symm
     subst hni'
     have HO:Hid (IR wr u3 (intsU (units s))):=by
      have:=hO.ir
      rw [List.take_of_length_le (by rw [intsU_length,HN.out];exact Nat.le_refl _)] at this
      exact this
     have HW:Hid (Below w1.heap.size w1 wr):=hW
     clear hO hW
     go_wp2
     go_ret
     exact ⟨_,rfl,HO.out,HB.out.trans (HW.out.mono hz1)⟩
  · as_aux_lemma=>
     obtain ⟨x,hx⟩:∃ x,(units s)[i]? = some x:=⟨_,List.getElem?_eq_getElem (by rw [←HN.out];omega)⟩
     obtain ⟨g,rfl,hg,hc,hcap⟩:=HC.out i x hx
     have hc':=(hW.cell (p:=⟨g,i*2+1,none⟩) hg).trans hc
     have HT:Hid ((intsU (units s)).take (i+1)=(intsU (units s)).take i++[(x.2:Int)]):=intsU_at hx
     have hlen:((intsU (units s)).take i).length=i:=by rw [List.length_take,intsU_length,←HN.out];omega
     have HO:Hid (OwnI0 wr w1.heap.size u3 ((intsU (units s)).take i)):=hO
     have HW:Hid (Below w1.heap.size w1 wr):=hW
     have HL:Hid (((intsU (units s)).take i).length=i):=hlen
     clear hx hc hO hW hlen
     go_wp2_with (at_builtin;go_must (refine push_I0 rfl _ _ rfl w1.heap.size _ _ rfl (HO.out.alloc _) _ _ (x.2:Int) rfl (by simp) (by rw [HL.out];omega) (by simp;omega) ?_);intro v' w3 hO1 hb3)
     exact ⟨⟨i+1,by go_num,by omega,by rw [HT.out];exact hO1,(HW.out.alloc hz _).trans hb3⟩,by simp [intOf];omega⟩
structure Srt (l m:List Int):Prop where
 p:m.Pairwise (· < ·)
 n:m.length≤l.length
 m:∀ x,x∈m↔x∈l
structure MJ (l a b o:List Int):Prop where
 pa:a.Pairwise (· < ·)
 pb:b.Pairwise (· < ·)
 po:o.Pairwise (· < ·)
 la:∀ x∈o,∀ y∈a,x<y
 lb:∀ x∈o,∀ y∈b,x<y
 m:∀ x,(x∈o∨x∈a∨x∈b)↔x∈l
 n:o.length+a.length+b.length≤l.length
theorem snoc_lt {o:List Int} {x:Int} (h:o.Pairwise (· < ·)) (k:∀ y∈o,y<x):(o++[x]).Pairwise (· < ·):=by
 rw [List.pairwise_append]
 exact ⟨h,List.pairwise_singleton _ _,fun a ha b hb=>by simp at hb;subst hb;exact k a ha⟩
theorem all_lt {x y:Int} {b:List Int} (h:(y::b).Pairwise (· < ·)) (hx:x<y):∀ z∈y::b,x<z:=by
 intro z hz
 rw [List.pairwise_cons] at h
 rcases List.mem_cons.1 hz with rfl | hz
 · exact hx
 · have:=h.1 z hz;omega
theorem MJ.left {l a b o:List Int} {x:Int} (h:MJ l (x::a) b o) (k:∀ y∈b,x<y):MJ l a b (o++[x]):=by
 have ha:=List.pairwise_cons.1 h.pa
 refine ⟨ha.2,h.pb,snoc_lt h.po (fun y hy=>h.la y hy x (by simp)),?_,?_,?_,?_⟩
 · intro z hz y hy
   rcases List.mem_append.1 hz with hz | hz
   · exact h.la z hz y (by simp [hy])
   · simp at hz;subst hz;exact ha.1 y hy
 · intro z hz y hy
   rcases List.mem_append.1 hz with hz | hz
   · exact h.lb z hz y hy
   · simp at hz;subst hz;exact k y hy
 · intro z
   rw [←h.m z]
   simp only [List.mem_append,List.mem_cons,List.not_mem_nil,or_false]
   constructor <;> (intro h;rcases h with h | h | h <;> first | (rcases h with h | h <;> simp [h];done) | (simp [h];done))
 · have:=h.n
   simp at this ⊢
   omega
theorem MJ.swap {l a b o:List Int} (h:MJ l a b o):MJ l b a o:=⟨h.pb,h.pa,h.po,h.lb,h.la,fun x=>by rw [←h.m x];constructor <;> (intro h;rcases h with h | h | h <;> simp [h]),by have:=h.n;omega⟩
theorem MJ.right {l a b o:List Int} {y:Int} (h:MJ l a (y::b) o) (k:∀ x∈a,y<x):MJ l a b (o++[y]):=(h.swap.left k).swap
theorem MJ.both {l a b o:List Int} {x:Int} (h:MJ l (x::a) (x::b) o):MJ l a b (o++[x]):=by
 have ha:=List.pairwise_cons.1 h.pa
 have hb:=List.pairwise_cons.1 h.pb
 refine ⟨ha.2,hb.2,snoc_lt h.po (fun y hy=>h.la y hy x (by simp)),?_,?_,?_,?_⟩
 · intro z hz y hy
   rcases List.mem_append.1 hz with hz | hz
   · exact h.la z hz y (by simp [hy])
   · simp at hz;subst hz;exact ha.1 y hy
 · intro z hz y hy
   rcases List.mem_append.1 hz with hz | hz
   · exact h.lb z hz y (by simp [hy])
   · simp at hz;subst hz;exact hb.1 y hy
 · intro z
   rw [←h.m z]
   simp only [List.mem_append,List.mem_cons,List.not_mem_nil,or_false]
   constructor
   · intro h;rcases h with (h | h) | h | h <;> simp [h]
   · intro h;rcases h with h | (h | h) | (h | h) <;> simp [h]
 · have:=h.n
   simp at this ⊢
   omega
theorem MJ.start {l a b:List Int} {n:Nat} (ha:Srt (l.take n) a) (hb:Srt (l.drop n) b):MJ l a b []:=by
 refine ⟨ha.p,hb.p,List.Pairwise.nil,by simp,by simp,?_,?_⟩
 · intro x
   rw [ha.m,hb.m]
   have e:x∈l↔x∈l.take n++l.drop n:=by rw [List.take_append_drop]
   rw [e,List.mem_append]
   simp
 · have:=ha.n
   have:=hb.n
   simp at *
   omega
theorem MJ.done {l o:List Int} (h:MJ l [] [] o):Srt l o:=⟨h.po,by have:=h.n;simp at this;omega,fun x=>by rw [←h.m x];simp⟩
theorem srt_small {l:List Int} (h:l.length<2):Srt l l:=by
 refine ⟨?_,Nat.le_refl _,fun _=>Iff.rfl⟩
 match l,h with
 | [],_=>exact List.Pairwise.nil
 | [x],_=>exact List.pairwise_singleton _ _
theorem ir_cons {w:World} {v:Value} {x:Int} {a:List Int} (h:IR w v (x::a)):∃ g o n c:Nat,v = .slice (some ⟨g,o,none⟩) n c∧n=a.length+1∧n≤c∧w.cell? ⟨g,o,none⟩=some (.int .i64 x)∧(c≠1→IR w (.slice (some ⟨g,o+1,none⟩) (n - 1) (c - 1)) a)∧(c=1→IR w (.slice (some ⟨g,o,none⟩) 0 0) a):=by
 obtain ⟨A,c,rfl,hc,hr⟩:=h
 obtain ⟨g,o,rfl,hd⟩:=hr.resolve_left (by simp)
 clear hr
 refine ⟨g,o,_,c,rfl,rfl,hc,?_,fun _=>⟨_,c - 1,by simp,by simp at hc;omega,.inr ⟨g,o+1,rfl,fun j hj => ?_⟩⟩,fun h1 => ?_⟩
 · exact hd 0 (by simp)
 · have:=hd (j+1) (by simpa using hj)
   rw [List.getElem_cons_succ] at this
   rw [←this,Nat.add_assoc,Nat.add_comm 1 j]
 · subst h1
   have:a=[]:=List.eq_nil_of_length_eq_zero (by rw [List.length_cons] at hc;omega)
   subst this
   exact ⟨_,0,rfl,Nat.le_refl _,.inl rfl⟩
theorem ir_nil {w:World} {v:Value} (h:IR w v []):∃ A c,v = .slice A 0 c:=by
 obtain ⟨A,c,rfl,_,_⟩:=h
 exact ⟨A,c,rfl⟩
theorem ir_take {w:World} {g o N c n:Nat} {l:List Int} (h:IR w (.slice (some ⟨g,o,none⟩) N c) l) (hn:n≤N):IR w (.slice (some ⟨g,o,none⟩) n c) (l.take n):=by
 obtain ⟨A,c',e,hc,hr⟩:=h
 injection e with e1 e2 e3
 subst e3
 have ht:(l.take n).length=n:=by rw [List.length_take];omega
 refine ⟨_,c,by rw [ht],by omega,?_⟩
 rcases hr with rfl | ⟨g',o',h1,hr⟩
 · exact .inl (by simp)
 · rw [←e1] at h1
   injection h1 with h1
   injection h1 with h1 h2
   subst h1 h2
   exact .inr ⟨g,o,rfl,fun j hj=>by rw [List.getElem_take];exact hr j (by omega)⟩
theorem ir_drop {w:World} {g o N c n:Nat} {l:List Int} (h:IR w (.slice (some ⟨g,o,none⟩) N c) l) (hn:n≤N):IR w (.slice (some ⟨g,o+n,none⟩) (N - n) (c - n)) (l.drop n):=by
 obtain ⟨A,c',e,hc,hr⟩:=h
 injection e with e1 e2 e3
 subst e3
 refine ⟨_,c - n,by rw [List.length_drop,e2],by rw [List.length_drop];omega,?_⟩
 rcases hr with rfl | ⟨g',o',h1,hr⟩
 · exact .inl (by simp)
 · rw [←e1] at h1
   injection h1 with h1
   injection h1 with h1 h2
   subst h1 h2
   exact .inr ⟨g,o+n,rfl,fun j hj=>by
    rw [List.length_drop] at hj
    have:=hr (n+j) (by omega)
    rw [List.getElem_drop,Nat.add_assoc]
    exact this⟩
theorem new_cell (W:World) (b:Nat) (x:Value) (t:TypeId) (h:W.heap.size=b):(W.alloc (.cells #[x] t)).cell? ⟨b,0,none⟩=some x:=by
 subst h
 simp
def SoQ (w:World) (l:List Int) (e:Ending) (w':World):Prop:=∃ v m,e = .returned v∧IR w' v m∧Srt l m∧Below w.heap.size w w'
set_option maxHeartbeats 4000000 in
theorem sorted_small (v:Value) (l:List Int) (w:World) (h2:l.length<2) (h:IR w v l):Calls Tryz.prog 87 #[v] w (SoQ w l):=by
 have HQ:Hid (SoQ w l (.returned v) w):=⟨v,l,rfl,h,srt_small h2,Below.refl _ _⟩
 obtain ⟨A,c,rfl,_,_⟩:=h
 generalize l.length=n at HQ h2 ⊢
 have hI:(n:Int)<2:=by omega
 go_enter Tryz.func87,Tryz.ntmps87
 go_wp2
 go_ret
 exact HQ.out
set_option maxHeartbeats 16000000 in
theorem sorted_any:∀ (k:Nat) (v:Value) (l:List Int) (w:World),l.length≤k→l.length≤1099511627776→IR w v l→Calls Tryz.prog 87 #[v] w (SoQ w l)
 | 0,v,l,w,hk,_,h=>sorted_small v l w (by omega) h
 | k+1,v,l,w,hk,hL,h=>by
  by_cases h2:l.length<2
  · exact sorted_small v l w h2 h
  have HI:Hid (∀ (v:Value) (l:List Int) (w:World),l.length≤k→l.length≤1099511627776→IR w v l→Calls Tryz.prog 87 #[v] w (SoQ w l)):=sorted_any k
  have HIR:Hid (IR w v l):=h
  obtain ⟨A,c,hv,hc,hr⟩:=h
  obtain ⟨g,o,hA,hd⟩:=hr.resolve_left (fun e=>by rw [e] at h2;simp at h2)
  clear hd
  subst hA
  subst hv
  obtain ⟨N,hN⟩:∃ N,l.length=N:=⟨_,rfl⟩
  have HN:Hid (l.length=N):=hN
  rw [hN] at HIR hc h2 hk hL ⊢
  obtain ⟨m,hm⟩:∃ m,N / 2=m:=⟨_,rfl⟩
  have hmI:(N:Int).tdiv 2=(m:Int):=by rw [Int.tdiv_eq_ediv_of_nonneg (by omega)];omega
  have hge:¬ (N:Int)<2:=by omega
  have hmN:(m:Int)≤(N:Int):=by omega
  have hm0:(0:Int)≤(m:Int):=by omega
  have hmc:(m:Int)≤(c:Int):=by omega
  have hNc:(N:Int)≤(c:Int):=by omega
  have hme:((m:Int) == (c:Int))=false:=by simp;omega
  have hmne:¬ m=c:=by omega
  have H1:Hid (Calls Tryz.prog 87 #[.slice (some ⟨g,o,none⟩) m c] w (SoQ w (l.take m))):=HI.out _ _ _ (by rw [List.length_take];omega) (by rw [List.length_take];omega) (ir_take HIR.out (by omega))
  have H2:Hid (∀ W,Below w.heap.size w W→Calls Tryz.prog 87 #[.slice (some ⟨g,o+m,none⟩) (N - m) (c - m)] W (SoQ W (l.drop m))):=fun W hb=>HI.out _ _ _ (by rw [List.length_drop];omega) (by rw [List.length_drop];omega) (ir_drop (HIR.out.below hb (Nat.le_refl _)) (by omega))
  have HL:Hid (N≤1099511627776):=hL
  have hmB:(m:Int)≤1099511627776:=by omega
  have hNB:(N:Int)≤1099511627776:=by omega
  clear hr hN HI hm hk hL
  go_enter Tryz.func87,Tryz.ntmps87
  go_wp2_with fail
  refine H1.out.mono ?_
  rintro e w1 ⟨va,la,rfl,hIa,hSa,hB1⟩
  have HA1:Hid (IR w1 va la∧Srt (l.take m) la∧Below w.heap.size w w1):=⟨hIa,hSa,hB1⟩
  obtain ⟨xa,na,ya,hva⟩:=hIa.sl
  subst hva
  clear hIa hSa hB1 H1
  go_wp2_with fail
  have H2':=H2.out w1 HA1.out.2.2
  refine H2'.mono ?_
  rintro e w2 ⟨vb,lb,rfl,hIb,hSb,hB2⟩
  have HA:Hid (IR w2 (.slice xa na ya) la∧IR w2 vb lb∧MJ l la lb []∧Below w.heap.size w w2):=⟨HA1.out.1.below hB2 (Nat.le_refl _),hIb,MJ.start HA1.out.2.1 hSb,HA1.out.2.2.trans (hB2.mono HA1.out.2.2.size)⟩
  obtain ⟨xb,nb,yb,hvb⟩:=hIb.sl
  subst hvb
  clear hIb hSb hB2 HA1 H2 H2' HIR
  go_wp2
  obtain ⟨w3,hw3⟩:∃ w3,w3=w2.alloc (.cells #[] 3):=⟨_,rfl⟩
  have HO3:Hid (OwnI w3 w2.heap.size (.slice (some ⟨w2.heap.size,0,none⟩) 0 0) []∧Below w2.heap.size w2 w3):=by
   rw [hw3]
   exact ⟨NewI.own ⟨w2.heap.size,rfl,Nat.le_refl _,Array.getElem?_push_size⟩ (Nat.zero_le _),((Grown.refl w2).alloc _).below⟩
  rw [←hw3]
  clear hw3
  go_loopg [4,5,6] (la.length+lb.length) (fun f va vb vo wr=>Hid (∃ a b oo,IR w2 va a∧IR w2 vb b∧OwnI wr w2.heap.size vo oo∧Below w2.heap.size w2 wr∧MJ l a b oo∧a.length+b.length=f))
  case atStart=>exact ⟨la,lb,[],HA.out.1,HA.out.2.1,HO3.out.1,HO3.out.2,HA.out.2.2.1,rfl⟩
  case round=>
   have HB:Hid (Below w.heap.size w w2):=HA.out.2.2.2
   clear HA HO3
   obtain ⟨a,b,oo,ha,hb,hoo,hB,hJ,hf⟩:=hrel.out
   clear hrel
   have HAa:Hid (IR w2 u4 a):=ha
   have HAb:Hid (IR w2 u5 b):=hb
   have HO:Hid (OwnI wr w2.heap.size u6 oo):=hoo
   have HW:Hid (Below w2.heap.size w2 wr):=hB
   have HJ:Hid (MJ l a b oo):=hJ
   have HF:Hid (a.length+b.length=gk):=hf
   have HLo:Hid (oo.length+1≤8796093022208∨(a=[]∧b=[])):=by
    have h1:=hJ.n
    rw [HN.out] at h1
    have h2:=HL.out
    exact .inl (by omega)
   obtain ⟨vo,no,co,hvo⟩:=hoo.ir.sl
   subst hvo
   clear ha hb hoo hB hJ hf
   match a,b,HAa,HAb,HJ,HF,HLo with
   | [],[],HAa,HAb,HJ,HF,HLo=>
    as_aux_lemma=>
     obtain ⟨A1,c1,rfl⟩:=ir_nil HAa.out
     obtain ⟨A2,c2,rfl⟩:=ir_nil HAb.out
     have HQ:Hid (SoQ w l (.returned (.slice vo no co)) wr):=⟨_,_,rfl,HO.out.ir,HJ.out.done,HB.out.trans (HW.out.mono HB.out.size)⟩
     clear HAa HAb HJ HF HLo HO
     go_wp2
     go_ret
     exact HQ.out
   | x::a,[],HAa,HAb,HJ,HF,HLo=>
    as_aux_lemma=>
     have HLL:Hid (oo.length+1≤8796093022208):=HLo.out.resolve_right (by simp)
     obtain ⟨ga,oa,na,ca,rfl,hna,hca,qa,Ta,Ua⟩:=ir_cons HAa.out
     have TTa:Hid (ca≠1→IR w2 (.slice (some ⟨ga,oa+1,none⟩) (na - 1) (ca - 1)) a):=Ta
     have UUa:Hid (ca=1→IR w2 (.slice (some ⟨ga,oa,none⟩) 0 0) a):=Ua
     have pa:=cell_below qa HW.out (Nat.le_refl _)
     have h0a:0<na:=by omega
     have i0a:(0:Int)<(na:Int):=by omega
     have i1a:(1:Int)≤(na:Int):=by omega
     have ica:(na:Int)≤(ca:Int):=by omega
     have d0a:decide (0<na)=true:=by simp;omega
     have e0a:(na == 0)=false:=by simp;omega
     have f0a:((na:Int) == 0)=false:=by simp;omega
     have HNa:Hid (na=a.length+1):=hna
     clear hna qa Ta Ua HAa
     obtain ⟨Ab,cb,rfl⟩:=ir_nil HAb.out
     have HNb:Hid (IR w2 (.slice Ab 0 cb) []):=HAb.out
     clear HAb
     have HP:Hid (∀ W,Grown wr W→OwnI W w2.heap.size (.slice vo no co) oo∧w2.heap.size≤W.heap.size∧Below w2.heap.size w2 W):=fun W hg=>by
      have hb6:Below wr.heap.size wr W:=hg.below
      exact ⟨HO.out.below hb6 (Nat.le_refl _),Nat.le_trans HW.out.size hb6.size,HW.out.trans (hb6.mono HW.out.size)⟩
     have HJ2:Hid (MJ l a [] (oo++[x])):=HJ.out.left (by simp)
     clear HJ HLo HO
     by_cases hxa:ca=1
     · have Ra:Hid (IR w2 (.slice (some ⟨ga,oa,none⟩) 0 0) a):=UUa.out hxa
       subst hxa
       clear TTa UUa
       go_wp2
       go_quiet (fail)
       skip
       go_wp2_with (at_builtin;go_must (refine push_I rfl _ _ 38 rfl Tryz.underlying38 w2.heap.size _ oo rfl (HP.out _ (by (repeat (first | exact Grown.refl _ | refine Grown.alloc ?_ _ | refine Grown.drew ?_ | refine Grown.drewN ?_ _ | refine Grown.quiet ?_ _ _)))).1 _ _ x rfl (by (first | (simp;done) | exact new_cell _ _ _ _ rfl)) HLL.out (HP.out _ (by (repeat (first | exact Grown.refl _ | refine Grown.alloc ?_ _ | refine Grown.drew ?_ | refine Grown.drewN ?_ _ | refine Grown.quiet ?_ _ _)))).2.1 ?_;intro v3 w3 hO3 hB3;have HE:Hid (OwnI w3 w2.heap.size v3 (oo++[x])∧Below w2.heap.size w2 w3):=⟨hO3,(HP.out _ (by (repeat (first | exact Grown.refl _ | refine Grown.alloc ?_ _ | refine Grown.drew ?_ | refine Grown.drewN ?_ _ | refine Grown.quiet ?_ _ _)))).2.2.trans hB3⟩;clear hO3 hB3))
       try go_wp2
       go_roundg (gk - 1)
       case measure=>have:=HF.out;simp at this;omega
       case rel=>exact ⟨_,_,oo++[x],Ra.out,HNb.out,HE.out.1,HE.out.2,HJ2.out,by have:=HF.out;simp at this ⊢;omega⟩
     · have Ra:Hid (IR w2 (.slice (some ⟨ga,oa+1,none⟩) (na - 1) (ca - 1)) a):=TTa.out hxa
       have x1a:((1:Int) == (ca:Int))=false:=by simp;omega
       have x2a:¬ 1=ca:=by omega
       clear TTa UUa
       go_wp2
       go_quiet (fail)
       skip
       go_wp2_with (at_builtin;go_must (refine push_I rfl _ _ 38 rfl Tryz.underlying38 w2.heap.size _ oo rfl (HP.out _ (by (repeat (first | exact Grown.refl _ | refine Grown.alloc ?_ _ | refine Grown.drew ?_ | refine Grown.drewN ?_ _ | refine Grown.quiet ?_ _ _)))).1 _ _ x rfl (by (first | (simp;done) | exact new_cell _ _ _ _ rfl)) HLL.out (HP.out _ (by (repeat (first | exact Grown.refl _ | refine Grown.alloc ?_ _ | refine Grown.drew ?_ | refine Grown.drewN ?_ _ | refine Grown.quiet ?_ _ _)))).2.1 ?_;intro v3 w3 hO3 hB3;have HE:Hid (OwnI w3 w2.heap.size v3 (oo++[x])∧Below w2.heap.size w2 w3):=⟨hO3,(HP.out _ (by (repeat (first | exact Grown.refl _ | refine Grown.alloc ?_ _ | refine Grown.drew ?_ | refine Grown.drewN ?_ _ | refine Grown.quiet ?_ _ _)))).2.2.trans hB3⟩;clear hO3 hB3))
       try go_wp2
       go_roundg (gk - 1)
       case measure=>have:=HF.out;simp at this;omega
       case rel=>exact ⟨_,_,oo++[x],Ra.out,HNb.out,HE.out.1,HE.out.2,HJ2.out,by have:=HF.out;simp at this ⊢;omega⟩
   | [],y::b,HAa,HAb,HJ,HF,HLo=>
    as_aux_lemma=>
     have HLL:Hid (oo.length+1≤8796093022208):=HLo.out.resolve_right (by simp)
     obtain ⟨gb,ob,nb,cb,rfl,hnb,hcb,qb,Tb,Ub⟩:=ir_cons HAb.out
     have TTb:Hid (cb≠1→IR w2 (.slice (some ⟨gb,ob+1,none⟩) (nb - 1) (cb - 1)) b):=Tb
     have UUb:Hid (cb=1→IR w2 (.slice (some ⟨gb,ob,none⟩) 0 0) b):=Ub
     have pb:=cell_below qb HW.out (Nat.le_refl _)
     have h0b:0<nb:=by omega
     have i0b:(0:Int)<(nb:Int):=by omega
     have i1b:(1:Int)≤(nb:Int):=by omega
     have icb:(nb:Int)≤(cb:Int):=by omega
     have d0b:decide (0<nb)=true:=by simp;omega
     have e0b:(nb == 0)=false:=by simp;omega
     have f0b:((nb:Int) == 0)=false:=by simp;omega
     have HNb:Hid (nb=b.length+1):=hnb
     clear hnb qb Tb Ub HAb
     obtain ⟨Aa,ca,rfl⟩:=ir_nil HAa.out
     have HNa:Hid (IR w2 (.slice Aa 0 ca) []):=HAa.out
     clear HAa
     have HP:Hid (∀ W,Grown wr W→OwnI W w2.heap.size (.slice vo no co) oo∧w2.heap.size≤W.heap.size∧Below w2.heap.size w2 W):=fun W hg=>by
      have hb6:Below wr.heap.size wr W:=hg.below
      exact ⟨HO.out.below hb6 (Nat.le_refl _),Nat.le_trans HW.out.size hb6.size,HW.out.trans (hb6.mono HW.out.size)⟩
     have HJ2:Hid (MJ l [] b (oo++[y])):=HJ.out.right (by simp)
     clear HJ HLo HO
     by_cases hxb:cb=1
     · have Rb:Hid (IR w2 (.slice (some ⟨gb,ob,none⟩) 0 0) b):=UUb.out hxb
       subst hxb
       clear TTb UUb
       go_wp2
       go_quiet (fail)
       go_wp2;go_quiet (fail)
       go_wp2_with (at_builtin;go_must (refine push_I rfl _ _ 38 rfl Tryz.underlying38 w2.heap.size _ oo rfl (HP.out _ (by (repeat (first | exact Grown.refl _ | refine Grown.alloc ?_ _ | refine Grown.drew ?_ | refine Grown.drewN ?_ _ | refine Grown.quiet ?_ _ _)))).1 _ _ y rfl (by (first | (simp;done) | exact new_cell _ _ _ _ rfl)) HLL.out (HP.out _ (by (repeat (first | exact Grown.refl _ | refine Grown.alloc ?_ _ | refine Grown.drew ?_ | refine Grown.drewN ?_ _ | refine Grown.quiet ?_ _ _)))).2.1 ?_;intro v3 w3 hO3 hB3;have HE:Hid (OwnI w3 w2.heap.size v3 (oo++[y])∧Below w2.heap.size w2 w3):=⟨hO3,(HP.out _ (by (repeat (first | exact Grown.refl _ | refine Grown.alloc ?_ _ | refine Grown.drew ?_ | refine Grown.drewN ?_ _ | refine Grown.quiet ?_ _ _)))).2.2.trans hB3⟩;clear hO3 hB3))
       try go_wp2
       go_roundg (gk - 1)
       case measure=>have:=HF.out;simp at this;omega
       case rel=>exact ⟨_,_,oo++[y],HNa.out,Rb.out,HE.out.1,HE.out.2,HJ2.out,by have:=HF.out;simp at this ⊢;omega⟩
     · have Rb:Hid (IR w2 (.slice (some ⟨gb,ob+1,none⟩) (nb - 1) (cb - 1)) b):=TTb.out hxb
       have x1b:((1:Int) == (cb:Int))=false:=by simp;omega
       have x2b:¬ 1=cb:=by omega
       clear TTb UUb
       go_wp2
       go_quiet (fail)
       go_wp2;go_quiet (fail)
       go_wp2_with (at_builtin;go_must (refine push_I rfl _ _ 38 rfl Tryz.underlying38 w2.heap.size _ oo rfl (HP.out _ (by (repeat (first | exact Grown.refl _ | refine Grown.alloc ?_ _ | refine Grown.drew ?_ | refine Grown.drewN ?_ _ | refine Grown.quiet ?_ _ _)))).1 _ _ y rfl (by (first | (simp;done) | exact new_cell _ _ _ _ rfl)) HLL.out (HP.out _ (by (repeat (first | exact Grown.refl _ | refine Grown.alloc ?_ _ | refine Grown.drew ?_ | refine Grown.drewN ?_ _ | refine Grown.quiet ?_ _ _)))).2.1 ?_;intro v3 w3 hO3 hB3;have HE:Hid (OwnI w3 w2.heap.size v3 (oo++[y])∧Below w2.heap.size w2 w3):=⟨hO3,(HP.out _ (by (repeat (first | exact Grown.refl _ | refine Grown.alloc ?_ _ | refine Grown.drew ?_ | refine Grown.drewN ?_ _ | refine Grown.quiet ?_ _ _)))).2.2.trans hB3⟩;clear hO3 hB3))
       try go_wp2
       go_roundg (gk - 1)
       case measure=>have:=HF.out;simp at this;omega
       case rel=>exact ⟨_,_,oo++[y],HNa.out,Rb.out,HE.out.1,HE.out.2,HJ2.out,by have:=HF.out;simp at this ⊢;omega⟩
   | x::a,y::b,HAa,HAb,HJ,HF,HLo=>
    as_aux_lemma=>
     have HLL:Hid (oo.length+1≤8796093022208):=HLo.out.resolve_right (by simp)
     obtain ⟨ga,oa,na,ca,rfl,hna,hca,qa,Ta,Ua⟩:=ir_cons HAa.out
     have TTa:Hid (ca≠1→IR w2 (.slice (some ⟨ga,oa+1,none⟩) (na - 1) (ca - 1)) a):=Ta
     have UUa:Hid (ca=1→IR w2 (.slice (some ⟨ga,oa,none⟩) 0 0) a):=Ua
     have pa:=cell_below qa HW.out (Nat.le_refl _)
     have h0a:0<na:=by omega
     have i0a:(0:Int)<(na:Int):=by omega
     have i1a:(1:Int)≤(na:Int):=by omega
     have ica:(na:Int)≤(ca:Int):=by omega
     have d0a:decide (0<na)=true:=by simp;omega
     have e0a:(na == 0)=false:=by simp;omega
     have f0a:((na:Int) == 0)=false:=by simp;omega
     have HNa:Hid (na=a.length+1):=hna
     clear hna qa Ta Ua
     obtain ⟨gb,ob,nb,cb,rfl,hnb,hcb,qb,Tb,Ub⟩:=ir_cons HAb.out
     have TTb:Hid (cb≠1→IR w2 (.slice (some ⟨gb,ob+1,none⟩) (nb - 1) (cb - 1)) b):=Tb
     have UUb:Hid (cb=1→IR w2 (.slice (some ⟨gb,ob,none⟩) 0 0) b):=Ub
     have pb:=cell_below qb HW.out (Nat.le_refl _)
     have h0b:0<nb:=by omega
     have i0b:(0:Int)<(nb:Int):=by omega
     have i1b:(1:Int)≤(nb:Int):=by omega
     have icb:(nb:Int)≤(cb:Int):=by omega
     have d0b:decide (0<nb)=true:=by simp;omega
     have e0b:(nb == 0)=false:=by simp;omega
     have f0b:((nb:Int) == 0)=false:=by simp;omega
     have HNb:Hid (nb=b.length+1):=hnb
     clear hnb qb Tb Ub
     have HP:Hid (∀ W,Grown wr W→OwnI W w2.heap.size (.slice vo no co) oo∧w2.heap.size≤W.heap.size∧Below w2.heap.size w2 W):=fun W hg=>by
      have hb6:Below wr.heap.size wr W:=hg.below
      exact ⟨HO.out.below hb6 (Nat.le_refl _),Nat.le_trans HW.out.size hb6.size,HW.out.trans (hb6.mono HW.out.size)⟩
     rcases Int.lt_trichotomy x y with hxy | hxy | hxy
     · as_aux_lemma=>
        have HJ2:Hid (MJ l a (y::b) (oo++[x])):=HJ.out.left (all_lt HJ.out.pb hxy)
        clear HJ HLo HO
        by_cases hxa:ca=1
        · have Ra:Hid (IR w2 (.slice (some ⟨ga,oa,none⟩) 0 0) a):=UUa.out hxa
          subst hxa
          clear TTa UUa
          go_wp2
          go_quiet (fail)
          skip
          go_wp2_with (at_builtin;go_must (refine push_I rfl _ _ 38 rfl Tryz.underlying38 w2.heap.size _ oo rfl (HP.out _ (by (repeat (first | exact Grown.refl _ | refine Grown.alloc ?_ _ | refine Grown.drew ?_ | refine Grown.drewN ?_ _ | refine Grown.quiet ?_ _ _)))).1 _ _ x rfl (by (first | (simp;done) | exact new_cell _ _ _ _ rfl)) HLL.out (HP.out _ (by (repeat (first | exact Grown.refl _ | refine Grown.alloc ?_ _ | refine Grown.drew ?_ | refine Grown.drewN ?_ _ | refine Grown.quiet ?_ _ _)))).2.1 ?_;intro v3 w3 hO3 hB3;have HE:Hid (OwnI w3 w2.heap.size v3 (oo++[x])∧Below w2.heap.size w2 w3):=⟨hO3,(HP.out _ (by (repeat (first | exact Grown.refl _ | refine Grown.alloc ?_ _ | refine Grown.drew ?_ | refine Grown.drewN ?_ _ | refine Grown.quiet ?_ _ _)))).2.2.trans hB3⟩;clear hO3 hB3))
          try go_wp2
          go_roundg (gk - 1)
          case measure=>have:=HF.out;simp at this;omega
          case rel=>exact ⟨_,_,oo++[x],Ra.out,HAb.out,HE.out.1,HE.out.2,HJ2.out,by have:=HF.out;simp at this ⊢;omega⟩
        · have Ra:Hid (IR w2 (.slice (some ⟨ga,oa+1,none⟩) (na - 1) (ca - 1)) a):=TTa.out hxa
          have x1a:((1:Int) == (ca:Int))=false:=by simp;omega
          have x2a:¬ 1=ca:=by omega
          clear TTa UUa
          go_wp2
          go_quiet (fail)
          skip
          go_wp2_with (at_builtin;go_must (refine push_I rfl _ _ 38 rfl Tryz.underlying38 w2.heap.size _ oo rfl (HP.out _ (by (repeat (first | exact Grown.refl _ | refine Grown.alloc ?_ _ | refine Grown.drew ?_ | refine Grown.drewN ?_ _ | refine Grown.quiet ?_ _ _)))).1 _ _ x rfl (by (first | (simp;done) | exact new_cell _ _ _ _ rfl)) HLL.out (HP.out _ (by (repeat (first | exact Grown.refl _ | refine Grown.alloc ?_ _ | refine Grown.drew ?_ | refine Grown.drewN ?_ _ | refine Grown.quiet ?_ _ _)))).2.1 ?_;intro v3 w3 hO3 hB3;have HE:Hid (OwnI w3 w2.heap.size v3 (oo++[x])∧Below w2.heap.size w2 w3):=⟨hO3,(HP.out _ (by (repeat (first | exact Grown.refl _ | refine Grown.alloc ?_ _ | refine Grown.drew ?_ | refine Grown.drewN ?_ _ | refine Grown.quiet ?_ _ _)))).2.2.trans hB3⟩;clear hO3 hB3))
          try go_wp2
          go_roundg (gk - 1)
          case measure=>have:=HF.out;simp at this;omega
          case rel=>exact ⟨_,_,oo++[x],Ra.out,HAb.out,HE.out.1,HE.out.2,HJ2.out,by have:=HF.out;simp at this ⊢;omega⟩
     · as_aux_lemma=>
        subst hxy
        have HJ2:Hid (MJ l a b (oo++[x])):=HJ.out.both
        have hxn:¬ x<x:=by omega
        clear HJ HLo HO
        by_cases hxa:ca=1
        · have Ra:Hid (IR w2 (.slice (some ⟨ga,oa,none⟩) 0 0) a):=UUa.out hxa
          subst hxa
          clear TTa UUa
          by_cases hxb:cb=1
          · have Rb:Hid (IR w2 (.slice (some ⟨gb,ob,none⟩) 0 0) b):=UUb.out hxb
            subst hxb
            clear TTb UUb
            go_wp2
            go_quiet (fail)
            go_wp2;go_quiet (fail)
            go_wp2_with (at_builtin;go_must (refine push_I rfl _ _ 38 rfl Tryz.underlying38 w2.heap.size _ oo rfl (HP.out _ (by (repeat (first | exact Grown.refl _ | refine Grown.alloc ?_ _ | refine Grown.drew ?_ | refine Grown.drewN ?_ _ | refine Grown.quiet ?_ _ _)))).1 _ _ x rfl (by (first | (simp;done) | exact new_cell _ _ _ _ rfl)) HLL.out (HP.out _ (by (repeat (first | exact Grown.refl _ | refine Grown.alloc ?_ _ | refine Grown.drew ?_ | refine Grown.drewN ?_ _ | refine Grown.quiet ?_ _ _)))).2.1 ?_;intro v3 w3 hO3 hB3;have HE:Hid (OwnI w3 w2.heap.size v3 (oo++[x])∧Below w2.heap.size w2 w3):=⟨hO3,(HP.out _ (by (repeat (first | exact Grown.refl _ | refine Grown.alloc ?_ _ | refine Grown.drew ?_ | refine Grown.drewN ?_ _ | refine Grown.quiet ?_ _ _)))).2.2.trans hB3⟩;clear hO3 hB3))
            try go_wp2
            go_roundg (gk - 2)
            case measure=>have:=HF.out;simp at this;omega
            case rel=>exact ⟨_,_,oo++[x],Ra.out,Rb.out,HE.out.1,HE.out.2,HJ2.out,by have:=HF.out;simp at this ⊢;omega⟩
          · have Rb:Hid (IR w2 (.slice (some ⟨gb,ob+1,none⟩) (nb - 1) (cb - 1)) b):=TTb.out hxb
            have x1b:((1:Int) == (cb:Int))=false:=by simp;omega
            have x2b:¬ 1=cb:=by omega
            clear TTb UUb
            go_wp2
            go_quiet (fail)
            go_wp2;go_quiet (fail)
            go_wp2_with (at_builtin;go_must (refine push_I rfl _ _ 38 rfl Tryz.underlying38 w2.heap.size _ oo rfl (HP.out _ (by (repeat (first | exact Grown.refl _ | refine Grown.alloc ?_ _ | refine Grown.drew ?_ | refine Grown.drewN ?_ _ | refine Grown.quiet ?_ _ _)))).1 _ _ x rfl (by (first | (simp;done) | exact new_cell _ _ _ _ rfl)) HLL.out (HP.out _ (by (repeat (first | exact Grown.refl _ | refine Grown.alloc ?_ _ | refine Grown.drew ?_ | refine Grown.drewN ?_ _ | refine Grown.quiet ?_ _ _)))).2.1 ?_;intro v3 w3 hO3 hB3;have HE:Hid (OwnI w3 w2.heap.size v3 (oo++[x])∧Below w2.heap.size w2 w3):=⟨hO3,(HP.out _ (by (repeat (first | exact Grown.refl _ | refine Grown.alloc ?_ _ | refine Grown.drew ?_ | refine Grown.drewN ?_ _ | refine Grown.quiet ?_ _ _)))).2.2.trans hB3⟩;clear hO3 hB3))
            try go_wp2
            go_roundg (gk - 2)
            case measure=>have:=HF.out;simp at this;omega
            case rel=>exact ⟨_,_,oo++[x],Ra.out,Rb.out,HE.out.1,HE.out.2,HJ2.out,by have:=HF.out;simp at this ⊢;omega⟩
        · have Ra:Hid (IR w2 (.slice (some ⟨ga,oa+1,none⟩) (na - 1) (ca - 1)) a):=TTa.out hxa
          have x1a:((1:Int) == (ca:Int))=false:=by simp;omega
          have x2a:¬ 1=ca:=by omega
          clear TTa UUa
          by_cases hxb:cb=1
          · have Rb:Hid (IR w2 (.slice (some ⟨gb,ob,none⟩) 0 0) b):=UUb.out hxb
            subst hxb
            clear TTb UUb
            go_wp2
            go_quiet (fail)
            go_wp2;go_quiet (fail)
            go_wp2_with (at_builtin;go_must (refine push_I rfl _ _ 38 rfl Tryz.underlying38 w2.heap.size _ oo rfl (HP.out _ (by (repeat (first | exact Grown.refl _ | refine Grown.alloc ?_ _ | refine Grown.drew ?_ | refine Grown.drewN ?_ _ | refine Grown.quiet ?_ _ _)))).1 _ _ x rfl (by (first | (simp;done) | exact new_cell _ _ _ _ rfl)) HLL.out (HP.out _ (by (repeat (first | exact Grown.refl _ | refine Grown.alloc ?_ _ | refine Grown.drew ?_ | refine Grown.drewN ?_ _ | refine Grown.quiet ?_ _ _)))).2.1 ?_;intro v3 w3 hO3 hB3;have HE:Hid (OwnI w3 w2.heap.size v3 (oo++[x])∧Below w2.heap.size w2 w3):=⟨hO3,(HP.out _ (by (repeat (first | exact Grown.refl _ | refine Grown.alloc ?_ _ | refine Grown.drew ?_ | refine Grown.drewN ?_ _ | refine Grown.quiet ?_ _ _)))).2.2.trans hB3⟩;clear hO3 hB3))
            try go_wp2
            go_roundg (gk - 2)
            case measure=>have:=HF.out;simp at this;omega
            case rel=>exact ⟨_,_,oo++[x],Ra.out,Rb.out,HE.out.1,HE.out.2,HJ2.out,by have:=HF.out;simp at this ⊢;omega⟩
          · have Rb:Hid (IR w2 (.slice (some ⟨gb,ob+1,none⟩) (nb - 1) (cb - 1)) b):=TTb.out hxb
            have x1b:((1:Int) == (cb:Int))=false:=by simp;omega
            have x2b:¬ 1=cb:=by omega
            clear TTb UUb
            go_wp2
            go_quiet (fail)
            go_wp2;go_quiet (fail)
            go_wp2_with (at_builtin;go_must (refine push_I rfl _ _ 38 rfl Tryz.underlying38 w2.heap.size _ oo rfl (HP.out _ (by (repeat (first | exact Grown.refl _ | refine Grown.alloc ?_ _ | refine Grown.drew ?_ | refine Grown.drewN ?_ _ | refine Grown.quiet ?_ _ _)))).1 _ _ x rfl (by (first | (simp;done) | exact new_cell _ _ _ _ rfl)) HLL.out (HP.out _ (by (repeat (first | exact Grown.refl _ | refine Grown.alloc ?_ _ | refine Grown.drew ?_ | refine Grown.drewN ?_ _ | refine Grown.quiet ?_ _ _)))).2.1 ?_;intro v3 w3 hO3 hB3;have HE:Hid (OwnI w3 w2.heap.size v3 (oo++[x])∧Below w2.heap.size w2 w3):=⟨hO3,(HP.out _ (by (repeat (first | exact Grown.refl _ | refine Grown.alloc ?_ _ | refine Grown.drew ?_ | refine Grown.drewN ?_ _ | refine Grown.quiet ?_ _ _)))).2.2.trans hB3⟩;clear hO3 hB3))
            try go_wp2
            go_roundg (gk - 2)
            case measure=>have:=HF.out;simp at this;omega
            case rel=>exact ⟨_,_,oo++[x],Ra.out,Rb.out,HE.out.1,HE.out.2,HJ2.out,by have:=HF.out;simp at this ⊢;omega⟩
     · as_aux_lemma=>
        have HJ2:Hid (MJ l (x::a) b (oo++[y])):=HJ.out.right (all_lt HJ.out.pa hxy)
        have hxn:¬ x<y:=by omega
        have hxd:decide (x<y)=false:=by simp;omega
        clear HJ HLo HO
        by_cases hxb:cb=1
        · have Rb:Hid (IR w2 (.slice (some ⟨gb,ob,none⟩) 0 0) b):=UUb.out hxb
          subst hxb
          clear TTb UUb
          go_wp2
          go_quiet (fail)
          go_wp2;go_quiet (fail)
          go_wp2_with (at_builtin;go_must (refine push_I rfl _ _ 38 rfl Tryz.underlying38 w2.heap.size _ oo rfl (HP.out _ (by (repeat (first | exact Grown.refl _ | refine Grown.alloc ?_ _ | refine Grown.drew ?_ | refine Grown.drewN ?_ _ | refine Grown.quiet ?_ _ _)))).1 _ _ y rfl (by (first | (simp;done) | exact new_cell _ _ _ _ rfl)) HLL.out (HP.out _ (by (repeat (first | exact Grown.refl _ | refine Grown.alloc ?_ _ | refine Grown.drew ?_ | refine Grown.drewN ?_ _ | refine Grown.quiet ?_ _ _)))).2.1 ?_;intro v3 w3 hO3 hB3;have HE:Hid (OwnI w3 w2.heap.size v3 (oo++[y])∧Below w2.heap.size w2 w3):=⟨hO3,(HP.out _ (by (repeat (first | exact Grown.refl _ | refine Grown.alloc ?_ _ | refine Grown.drew ?_ | refine Grown.drewN ?_ _ | refine Grown.quiet ?_ _ _)))).2.2.trans hB3⟩;clear hO3 hB3))
          try go_wp2
          go_roundg (gk - 1)
          case measure=>have:=HF.out;simp at this;omega
          case rel=>exact ⟨_,_,oo++[y],HAa.out,Rb.out,HE.out.1,HE.out.2,HJ2.out,by have:=HF.out;simp at this ⊢;omega⟩
        · have Rb:Hid (IR w2 (.slice (some ⟨gb,ob+1,none⟩) (nb - 1) (cb - 1)) b):=TTb.out hxb
          have x1b:((1:Int) == (cb:Int))=false:=by simp;omega
          have x2b:¬ 1=cb:=by omega
          clear TTb UUb
          go_wp2
          go_quiet (fail)
          go_wp2;go_quiet (fail)
          go_wp2_with (at_builtin;go_must (refine push_I rfl _ _ 38 rfl Tryz.underlying38 w2.heap.size _ oo rfl (HP.out _ (by (repeat (first | exact Grown.refl _ | refine Grown.alloc ?_ _ | refine Grown.drew ?_ | refine Grown.drewN ?_ _ | refine Grown.quiet ?_ _ _)))).1 _ _ y rfl (by (first | (simp;done) | exact new_cell _ _ _ _ rfl)) HLL.out (HP.out _ (by (repeat (first | exact Grown.refl _ | refine Grown.alloc ?_ _ | refine Grown.drew ?_ | refine Grown.drewN ?_ _ | refine Grown.quiet ?_ _ _)))).2.1 ?_;intro v3 w3 hO3 hB3;have HE:Hid (OwnI w3 w2.heap.size v3 (oo++[y])∧Below w2.heap.size w2 w3):=⟨hO3,(HP.out _ (by (repeat (first | exact Grown.refl _ | refine Grown.alloc ?_ _ | refine Grown.drew ?_ | refine Grown.drewN ?_ _ | refine Grown.quiet ?_ _ _)))).2.2.trans hB3⟩;clear hO3 hB3))
          try go_wp2
          go_roundg (gk - 1)
          case measure=>have:=HF.out;simp at this;omega
          case rel=>exact ⟨_,_,oo++[y],HAa.out,Rb.out,HE.out.1,HE.out.2,HJ2.out,by have:=HF.out;simp at this ⊢;omega⟩
end Go.Proofs
