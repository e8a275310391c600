/-
  Several texts in one (Kc Kd Ke Kf Sa Sc Sb Sd).
-/
import Derived.Test.YtaemgkemlifadaaGreatDoorMgfs
import Derived.Test.YtaemgkemlifadaaGreatDoorMgds
import Derived.Test.YtaemgkemlifadaaGreatDoorMgas
namespace Go.Proofs
open Go.RowKit Go.Shelf
set_option maxRecDepth 100000
attribute [local go_sem] Oper.semAt_some
attribute [local go_sem ↓] Go.wp_at_zero Go.wp_at_succ
theorem units_len_N (s:ByteArray):∀ k p,(unitsN s k p).length≤k
 | 0,_=>by simp [unitsN]
 | k+1,p=>by
  by_cases hp:p<s.size
  · rw [unitsN_step s k p hp,List.length_cons];have:=units_len_N s k (p+uw s p);omega
  · rw [unitsN_end s _ p hp];simp
def intsU (l:List (Nat × Nat)):List Int:=l.map fun x=>(x.2:Int)
theorem intsU_length (l:List (Nat × Nat)):(intsU l).length=l.length:=by simp [intsU]
theorem drop_get (s:ByteArray) (p:Nat) (h:p<s.size):s.data.toList.drop p=s.get! p::s.data.toList.drop (p+1):=by
 rw [List.drop_eq_getElem_cons (by rw [←Lib.size_eq];exact h),get_bang s p h];rfl
theorem ofNat_get (s:ByteArray) (p n:Nat) (h:(s.get! p).toNat=n):UInt8.ofNat n=s.get! p:=by rw [←h];simp
theorem put_uAt (s:ByteArray) (p:Nat) (hp:p<s.size):(put (uAt s p)).data.toList=(s.data.toList.drop p).take (uw s p):=by
 by_cases h:1<uw s p
 · obtain ⟨c,F⟩:=form_of s p h
   have hns:strayAt s p=false:=by
    cases hs:strayAt s p with
    | false=>rfl
    | true=>have:=(stray_iff s p).1 hs;rw [F.2.1] at this;simp at this;omega
   have hu:uAt s p=c:=by rw [uAt_rune hns,F.2.1]
   rw [hu]
   obtain ⟨hz,_,hF⟩:=F
   obtain ⟨n,hn⟩:∃ n,uw s p=n:=⟨_,rfl⟩
   rw [hn] at hF hz ⊢
   rcases hF with ⟨rfl,a,b,b0,b1⟩ | ⟨rfl,a,b,v,b0,b1,b2⟩ | ⟨rfl,a,b,b0,b1,b2,b3⟩
   · rw [put_rune (by omega),enc2 c a b,ofNat_get s p _ b0,ofNat_get s (p+1) _ b1,drop_get s p (by omega),drop_get s (p+1) (by omega)]
     rfl
   · rw [put_rune (by omega),enc3 c a b v,ofNat_get s p _ b0,ofNat_get s (p+1) _ b1,ofNat_get s (p+2) _ b2,drop_get s p (by omega),drop_get s (p+1) (by omega),drop_get s (p+1+1) (by omega)]
     rfl
   · rw [put_rune (by omega),enc4 c a b,ofNat_get s p _ b0,ofNat_get s (p+1) _ b1,ofNat_get s (p+2) _ b2,ofNat_get s (p+3) _ b3,drop_get s p (by omega),drop_get s (p+1) (by omega),drop_get s (p+1+1) (by omega),drop_get s (p+1+1+1) (by omega)]
     rfl
 · have hpos:=uw_pos s p
   have hu:uw s p=1:=by omega
   rw [hu,drop_get s p hp]
   rcases one_wide s p hu with ⟨a,b⟩ | ⟨a,b⟩
   · have hns:strayAt s p=false:=by
      cases hs:strayAt s p with
      | false=>rfl
      | true=>have:=(stray_iff s p).1 hs;rw [b] at this;simp at this;omega
     have hv:uAt s p=(s.get! p).toNat:=by rw [uAt_rune hns,b]
     rw [hv,put_rune (by omega),enc1 _ a,ofNat_get s p _ rfl]
     rfl
   · have hlt:=(s.get! p).toNat_lt
     have hv:=uAt_stray ((stray_iff s p).2 b)
     rw [hv,put_stray (by omega),show (((1114112+(s.get! p).toNat:Nat):Int) - 1114112).toNat=(s.get! p).toNat by omega,ofNat_get s p _ rfl]
     rfl
def acc (s:ByteArray) (p b:Nat):Nat→Nat
 | 0=>b
 | k+1=>acc s p b k*64+(s.get! (p+(k+1))).toNat % 64
def md (n:Nat):Nat:=if n=2 then 32 else if n=3 then 16 else 8
def num (s:ByteArray) (p n:Nat):Nat:=acc s p (if n=1 then (s.get! p).toNat else (s.get! p).toNat % md n) (n - 1)
def tst (s:ByteArray) (p n:Nat):Bool:=decide (wd (num s p n)=(n:Int)∧put (num s p n)=s.extract p (p+n))
def bgs (s:ByteArray) (p:Nat):Nat→Nat→Int
 | 0,_ => -1
 | k+1,n=>if p+n≤s.size then (if tst s p n then (num s p n:Int) else bgs s p k (n+1)) else -1
def beginsU (s:ByteArray) (p:Nat):Int:=bgs s p 4 1
theorem num1 (s:ByteArray) (p:Nat):num s p 1=(s.get! p).toNat:=rfl
theorem num2 (s:ByteArray) (p:Nat):num s p 2=(s.get! p).toNat % 32*64+(s.get! (p+1)).toNat % 64:=rfl
theorem num3 (s:ByteArray) (p:Nat):num s p 3=((s.get! p).toNat % 16*64+(s.get! (p+1)).toNat % 64)*64+(s.get! (p+2)).toNat % 64:=rfl
theorem num4 (s:ByteArray) (p:Nat):num s p 4=(((s.get! p).toNat % 8*64+(s.get! (p+1)).toNat % 64)*64+(s.get! (p+2)).toNat % 64)*64+(s.get! (p+3)).toNat % 64:=rfl
theorem byte_of {s t:ByteArray} {p n:Nat} (h:t=s.extract p (p+n)) (hp:p+n≤s.size) (r:Nat) (hr:r<n):(s.get! (p+r)).toNat=(t.get! r).toNat:=by
 rw [h,get_ext s p (p+n) r (by omega) hp]
theorem wd_ge2 (c n:Nat) (hn:2≤n) (h:wd (c:Int)=(n:Int)):(c<55296∨(57344≤c∧c≤1114111))∧Lib.runeLen c=(n:Int):=by
 unfold wd at h
 split at h
 · omega
 · split at h
   · exact ⟨by omega,h⟩
   · omega
theorem tst_dec (s:ByteArray) (p n:Nat) (hn:2≤n) (hp:p+n≤s.size) (h:tst s p n=true):Utf8.decode s p=(num s p n,n):=by
 obtain ⟨h1,h2⟩:wd (num s p n)=(n:Int)∧put (num s p n)=s.extract p (p+n):=of_decide_eq_true h
 generalize num s p n=c at *
 obtain ⟨hr,hl⟩:=wd_ge2 c n hn h1
 rw [put_rune (by omega)] at h2
 unfold Lib.runeLen at hl
 by_cases c1:c<128
 · exfalso;repeat' split at hl
   all_goals omega
 by_cases c2:c<2048
 · obtain rfl:n=2:=by repeat' split at hl
                      all_goals omega
   rw [enc2 c (by omega) c2] at h2
   have e0:=byte_of h2 hp 0 (by omega)
   have e1:=byte_of h2 hp 1 (by omega)
   change (s.get! (p+0)).toNat=(UInt8.ofNat (192+c / 64)).toNat at e0
   rw [b8 _ (by omega)] at e0
   change (s.get! (p+1)).toNat=(UInt8.ofNat (128+c % 64)).toNat at e1
   rw [b8 _ (by omega)] at e1
   exact dec2 s p c (by omega) c2 (by omega) e0 e1
 by_cases c3:c<65536
 · obtain rfl:n=3:=by repeat' split at hl
                      all_goals omega
   rw [enc3 c (by omega) c3 (by omega)] at h2
   have e0:=byte_of h2 hp 0 (by omega)
   have e1:=byte_of h2 hp 1 (by omega)
   have e2:=byte_of h2 hp 2 (by omega)
   change (s.get! (p+0)).toNat=(UInt8.ofNat (224+c / 4096)).toNat at e0
   rw [b8 _ (by omega)] at e0
   change (s.get! (p+1)).toNat=(UInt8.ofNat (128+c / 64 % 64)).toNat at e1
   rw [b8 _ (by omega)] at e1
   change (s.get! (p+2)).toNat=(UInt8.ofNat (128+c % 64)).toNat at e2
   rw [b8 _ (by omega)] at e2
   exact dec3 s p c (by omega) c3 (by omega) (by omega) e0 e1 e2
 · obtain rfl:n=4:=by repeat' split at hl
                      all_goals omega
   rw [enc4 c (by omega) (by omega)] at h2
   have e0:=byte_of h2 hp 0 (by omega)
   have e1:=byte_of h2 hp 1 (by omega)
   have e2:=byte_of h2 hp 2 (by omega)
   have e3:=byte_of h2 hp 3 (by omega)
   change (s.get! (p+0)).toNat=(UInt8.ofNat (240+c / 262144)).toNat at e0
   rw [b8 _ (by omega)] at e0
   change (s.get! (p+1)).toNat=(UInt8.ofNat (128+c / 4096 % 64)).toNat at e1
   rw [b8 _ (by omega)] at e1
   change (s.get! (p+2)).toNat=(UInt8.ofNat (128+c / 64 % 64)).toNat at e2
   rw [b8 _ (by omega)] at e2
   change (s.get! (p+3)).toNat=(UInt8.ofNat (128+c % 64)).toNat at e3
   rw [b8 _ (by omega)] at e3
   exact dec4 s p c (by omega) (by omega) (by omega) e0 e1 e2 e3
theorem tst_no (s:ByteArray) (p n:Nat) (hn:2≤n) (hp:p+n≤s.size) (h:uw s p≠n):tst s p n=false:=by
 cases ht:tst s p n with
 | false=>rfl
 | true=>exact absurd (by unfold uw;rw [tst_dec s p n hn hp ht]) h
theorem tst1_no (s:ByteArray) (p:Nat) (h:128≤(s.get! p).toNat):tst s p 1=false:=by
 have:=(s.get! p).toNat_lt
 unfold tst
 rw [num1,decide_eq_false_iff_not]
 rintro ⟨h1,_⟩
 rw [wd_rune (by omega)] at h1
 unfold Lib.runeLen at h1
 repeat' split at h1
 all_goals omega
theorem tst_yes (s:ByteArray) (p n:Nat) (hp:p<s.size) (h:uw s p=n) (hn:num s p n=uAt s p):tst s p n=true:=by
 unfold tst
 rw [hn,decide_eq_true_iff]
 refine ⟨by rw [wd_uAt,h],?_⟩
 have e:=put_uAt s p hp
 rw [h] at e
 have hd:(put (uAt s p)).data=(s.extract p (p+n)).data:=by
  apply Array.ext'
  rw [e]
  simp [ByteArray.data_extract,List.extract_eq_take_drop]
 generalize put (uAt s p)=a at *
 generalize s.extract p (p+n)=b at *
 cases a;cases b
 simpa using hd
theorem bgs_none (s:ByteArray) (p:Nat) (h:uw s p=1):∀ k n,2≤n→bgs s p k n = -1
 | 0,_,_=>rfl
 | k+1,n,hn=>by
  rw [bgs]
  split
  · rename_i hp
    rw [tst_no s p n hn hp (by omega),bgs_none s p h k (n+1) (by omega)]
    rfl
  · rfl
theorem bgs_skip (s:ByteArray) (p k n:Nat) (hn:2≤n) (hp:p+n≤s.size) (h:uw s p≠n):bgs s p (k+1) n=bgs s p k (n+1):=by
 rw [bgs,if_pos hp,tst_no s p n hn hp h];rfl
theorem bgs_hit (s:ByteArray) (p k n:Nat) (hp:p+n≤s.size) (h:tst s p n=true):bgs s p (k+1) n=num s p n:=by
 rw [bgs,if_pos hp,if_pos h]
theorem begins_eq (s:ByteArray) (p:Nat) (hp:p<s.size):beginsU s p=if strayAt s p then -1 else (uAt s p:Int):=by
 unfold beginsU
 by_cases hw:uw s p=1
 · rcases one_wide s p hw with ⟨h1,h2⟩ | ⟨h1,h2⟩
   · have hst:strayAt s p=false:=by
      cases h:strayAt s p with
      | false=>rfl
      | true=>have:=(stray_iff s p).1 h;rw [h2] at this;injection this with a b;omega
     have hu:uAt s p=(s.get! p).toNat:=by rw [uAt_rune hst,h2]
     rw [hst,bgs_hit s p 3 1 (by omega) (tst_yes s p 1 hp hw (by rw [num1,hu])),num1,hu]
     rfl
   · have hst:strayAt s p=true:=(stray_iff s p).2 h2
     rw [hst,bgs,if_pos (by omega),tst1_no s p h1,bgs_none s p hw 3 2 (by omega)]
     rfl
 · have h1:1<uw s p:=by have:=uw_pos s p;omega
   obtain ⟨c,hz,hd,hf⟩:=form_of s p h1
   have hst:strayAt s p=false:=by
    cases h:strayAt s p with
    | false=>rfl
    | true=>have:=(stray_iff s p).1 h;rw [hd] at this;injection this with a b;omega
   have hu:uAt s p=c:=by rw [uAt_rune hst,hd]
   have hb:=(uw_many s p h1).2.1
   have h0:bgs s p 4 1=bgs s p 3 2:=by rw [bgs,if_pos (by omega),tst1_no s p (by omega)];rfl
   rw [hst,h0]
   simp only [Bool.false_eq_true,if_false]
   rw [hu]
   rcases hf with ⟨hn,a,b,b0,b1⟩ | ⟨hn,a,b,_,b0,b1,b2⟩ | ⟨hn,a,b,b0,b1,b2,b3⟩
   · rw [hn] at hz
     have e:num s p 2=c:=by rw [num2,b0,b1];omega
     rw [bgs_hit s p 2 2 hz (tst_yes s p 2 hp hn (by rw [e,hu])),e]
   · rw [hn] at hz
     have e:num s p 3=c:=by rw [num3,b0,b1,b2];omega
     rw [bgs_skip s p 2 2 (by omega) (by omega) (by omega),bgs_hit s p 1 3 hz (tst_yes s p 3 hp hn (by rw [e,hu])),e]
   · rw [hn] at hz
     have e:num s p 4=c:=by rw [num4,b0,b1,b2,b3];omega
     rw [bgs_skip s p 2 2 (by omega) (by omega) (by omega),bgs_skip s p 1 3 (by omega) (by omega) (by omega),bgs_hit s p 0 4 hz (tst_yes s p 4 hp hn (by rw [e,hu])),e]
theorem step_val (x:Nat) (b:UInt8) (h:x<1048576):wrap64 ((x:Int)*64+(wrap64 (b.toNat:Int)).tmod 64)=((x*64+b.toNat % 64:Nat):Int):=by
 rw [w64b,show ((b.toNat:Int)).tmod 64=((b.toNat % 64:Nat):Int) from rfl]
 have:=Nat.mod_lt b.toNat (show 64>0 by omega)
 rw [show (x:Int)*64+((b.toNat % 64:Nat):Int)=((x*64+b.toNat % 64:Nat):Int) by push_cast;rfl]
 exact IntWalk.wrap64_in _ (by omega)
theorem bstr_ne {a b:ByteArray} (h:a≠b):(a.toList == b.toList)=false:=by
 rw [ByteArray.toList_eq,ByteArray.toList_eq]
 by_cases e:a.data.toList=b.data.toList
 · exact absurd (Go.WideShapes.bytes_inj e) h
 · simpa using e
theorem bgs_no (s:ByteArray) (p k n:Nat) (hp:p+n≤s.size) (h:tst s p n=false):bgs s p (k+1) n=bgs s p k (n+1):=by
 rw [bgs,if_pos hp,h];rfl
set_option maxHeartbeats 4000000 in
theorem begins_any (s:ByteArray) (p:Nat) (w:World) (hp:p<s.size) (hs:s.size≤4398046511104) :
 Calls Tryz.prog 62 #[.string s,.int .i64 p] w fun e w'=>e = .returned (.int .i64 (beginsU s p))∧Below w.heap.size w w':=by
 have hpi:(p:Int)<(s.size:Int):=by omega
 have hsi:(s.size:Int)≤4398046511104:=by omega
 go_enter Tryz.func62,Tryz.ntmps62
 go_wp2_with fail
 go_loopw [5,6,7] (fun vn _ _ wr=>∃ (n:Nat),vn = .int .i64 n∧1≤n∧n≤5∧Hid (beginsU s p=bgs s p (5 - n) n)∧Below w.heap.size w wr) (fun vn _ _ _=>5 - (intOf vn).toNat)
 case atStart=>
  exact ⟨1,rfl,by omega,by omega,rfl,Below.refl _ _⟩
 case round=>
  obtain ⟨n,rfl,h1,h5,hB,hb⟩:=hrel
  have HB0:Hid (Below w.heap.size w wr):=hb
  clear hb
  by_cases h4:n=5
  · subst h4
    go_wp2_with fail
    go_ret
    exact ⟨by rw [hB.out];rfl,HB0.out⟩
  · by_cases hle:p+n≤s.size
    · rcases (show n=1∨n=2∨n=3∨n=4 by omega) with rfl | rfl | rfl | rfl
      ·
       rw [show ((1:Nat):Int)=(1:Int) from rfl]
       go_wp2_with fail
       go_loopw [6,7] (fun vu vi wq=>∃ (k x:Nat),vu = .int .i64 x∧vi = .int .i64 ((k:Int)+1)∧k+1≤1∧x<67108864∧(k≤2→x<1048576)∧(k≤1→x<16384)∧(k=0→x<256)∧Hid (x=acc s p (s.get! p).toNat k)∧Below w.heap.size w wq) (fun _ vi _=>1 - (intOf vi).toNat)
       case atStart=>
        have hm:=(s.get! p).toNat_lt
        have hm2:=Nat.mod_le (s.get! p).toNat (md 1)
        exact ⟨0,(s.get! p).toNat,by rw [w64b,←get_bang s p hp] <;> rfl,rfl,by omega,by omega,by omega,by omega,by omega,rfl,HB0.out⟩
       case round=>
        clear HB0
        obtain ⟨k,x,rfl,rfl,hk,hx,hx2,hx1,hx0,hX,hb⟩:=hrel
        have HB1:Hid (Below w.heap.size w wr):=hb
        clear hb
        have hxi:(x:Int)<67108864:=by omega
        by_cases hlt:k+1<1
        · as_aux_lemma=>
           obtain ⟨q,hq⟩:∃ q:Nat,p+(k+1)=q:=⟨_,rfl⟩
           have hqi:(p:Int)+((k:Int)+1)=(q:Int):=by omega
           have hqs:(q:Int)<(s.size:Int):=by omega
           have HQ:Hid (p+(k+1)=q):=hq
           clear hq
           have hxj:(x:Int)<1048576:=by omega
           have hlt':(k:Int)+1<1:=by omega
           omega
        · have hk1:k=0:=by omega
          subst hk1
          have HN:Hid (num s p 1=x):=hX.out.symm
          have hlei:(p:Int)+1≤(s.size:Int):=by omega
          clear hX hlt hx2 hx1 hx0 hk
          cases hq:tst s p 1 with
          | true=>
           as_aux_lemma=>
            have hq1:wd x=1∧put x=s.extract p (p+1):=by unfold tst at hq;rw [HN.out] at hq;exact of_decide_eq_true hq
            have HR:Hid (beginsU s p=x):=by show beginsU s p=x;rw [hB.out,show 5 - 1=(4 - 1)+1 by rfl,bgs,if_pos hle,if_pos hq,HN.out]
            have cW:Hid (∀ W:World,Calls Tryz.prog 63 #[.int .i64 x] W fun e w'=>e = .returned (.int .i64 1)∧w'=W):=fun W=>by have:=rwidth_any x W;rw [hq1.1] at this;exact this
            have cP:Hid (∀ W:World,Calls Tryz.prog 19 #[.int .i64 x] W fun e w'=>e = .returned (.string (s.extract p (p+1)))∧Below W.heap.size W w'):=fun W=>by have:=rput_any x W;rw [hq1.2] at this;exact this
            clear hq hq1 hB HN
            go_wp2_with fail
            refine wp_region_quiet_below mixed (by kernel_rfl) ?_
            repeat (go_big_quiet_step ((first | (go_at_call 63;exact below_same (cW.out _)) | (go_at_call 19;exact below_of (cP.out _)))))
            refine wpQuiet_nil ?_
            intro _ hw'
            obtain ⟨⟨w2,hb2⟩,hw''⟩:=hw'
            subst hw''
            go_wp2_with fail
            go_ret
            exact ⟨by rw [HR.out];rfl,HB1.out.trans (hb2.mono HB1.out.size)⟩
          | false=>
           as_aux_lemma=>
            have HR:Hid (beginsU s p=bgs s p (5 - (1+1)) (1+1)):=hB.out.trans (bgs_no s p (4 - 1) 1 hle hq)
            by_cases hw:wd x=1
            · have hne:put x≠s.extract p (p+1):=fun h=>by unfold tst at hq;rw [HN.out] at hq;exact absurd ⟨hw,h⟩ (of_decide_eq_false hq)
              have cW:Hid (∀ W:World,Calls Tryz.prog 63 #[.int .i64 x] W fun e w'=>e = .returned (.int .i64 1)∧w'=W):=fun W=>by have:=rwidth_any x W;rw [hw] at this;exact this
              obtain ⟨z,hz⟩:∃ z,put x=z:=⟨_,rfl⟩
              have cP:Hid (∀ W:World,Calls Tryz.prog 19 #[.int .i64 x] W fun e w'=>e = .returned (.string z)∧Below W.heap.size W w'):=fun W=>by have:=rput_any x W;rw [hz] at this;exact this
              rw [hz] at hne
              have hzn:=bstr_ne hne
              clear hq hw hz hne hB HN
              go_wp2_with fail
              refine wp_region_quiet_below mixed (by kernel_rfl) ?_
              repeat (go_big_quiet_step ((first | (go_at_call 63;exact below_same (cW.out _)) | (go_at_call 19;exact below_of (cP.out _)))))
              refine wpQuiet_nil ?_
              intro _ hw'
              obtain ⟨⟨w2,hb2⟩,hw''⟩:=hw'
              subst hw''
              go_wp2_with fail
              exact ⟨⟨1+1,rfl,by omega,by omega,HR,HB1.out.trans (hb2.mono HB1.out.size)⟩,by simp [intOf]⟩
            · obtain ⟨d,hd⟩:∃ d,wd x=d:=⟨_,rfl⟩
              have cW:Hid (∀ W:World,Calls Tryz.prog 63 #[.int .i64 x] W fun e w'=>e = .returned (.int .i64 d)∧w'=W):=fun W=>by have:=rwidth_any x W;rw [hd] at this;exact this
              rw [hd] at hw
              have hdn:(d == 1)=false:=by simpa using hw
              clear hq hw hd hB HN
              go_wp2_with fail
              refine wp_region_quiet_below mixed (by kernel_rfl) ?_
              repeat (go_big_quiet_step ((go_at_call 63;exact below_same (cW.out _))))
              refine wpQuiet_nil ?_
              intro _ hw'
              obtain ⟨⟨w2,hb2⟩,hw''⟩:=hw'
              subst hw''
              go_wp2_with fail
              exact ⟨⟨1+1,rfl,by omega,by omega,HR,HB1.out.trans (hb2.mono HB1.out.size)⟩,by simp [intOf]⟩
      ·
       rw [show ((2:Nat):Int)=(2:Int) from rfl]
       go_wp2_with fail
       go_loopw [6,7] (fun vu vi wq=>∃ (k x:Nat),vu = .int .i64 x∧vi = .int .i64 ((k:Int)+1)∧k+1≤2∧x<67108864∧(k≤2→x<1048576)∧(k≤1→x<16384)∧(k=0→x<256)∧Hid (x=acc s p ((s.get! p).toNat % md 2) k)∧Below w.heap.size w wq) (fun _ vi _=>2 - (intOf vi).toNat)
       case atStart=>
        have hm:=(s.get! p).toNat_lt
        have hm2:=Nat.mod_le (s.get! p).toNat (md 2)
        exact ⟨0,((s.get! p).toNat % md 2),by rw [w64b,←get_bang s p hp] <;> rfl,rfl,by omega,by omega,by omega,by omega,by omega,rfl,(HB0.out.alloc HB0.out.size _)⟩
       case round=>
        clear HB0
        obtain ⟨k,x,rfl,rfl,hk,hx,hx2,hx1,hx0,hX,hb⟩:=hrel
        have HB1:Hid (Below w.heap.size w wr):=hb
        clear hb
        have hxi:(x:Int)<67108864:=by omega
        by_cases hlt:k+1<2
        · as_aux_lemma=>
           obtain ⟨q,hq⟩:∃ q:Nat,p+(k+1)=q:=⟨_,rfl⟩
           have hqi:(p:Int)+((k:Int)+1)=(q:Int):=by omega
           have hqs:(q:Int)<(s.size:Int):=by omega
           have HQ:Hid (p+(k+1)=q):=hq
           clear hq
           have hxj:(x:Int)<1048576:=by omega
           have hlt':(k:Int)+1<2:=by omega
           go_wp2_with fail
           refine ⟨⟨k+1,x*64+s[q].toNat % 64,by rw [step_val x s[q] (by omega)],by rw [show ((k:Int)+1+1)=(((k+1:Nat):Int)+1) by omega],by omega,by omega,by omega,by omega,by omega,?_,HB1.out⟩,by simp [intOf];omega⟩
           show x*64+s[q].toNat % 64=acc s p _ k*64+(s.get! (p+(k+1))).toNat % 64
           rw [←hX.out,HQ.out,get_bang s q (by omega)]
        · have hk1:k=1:=by omega
          subst hk1
          have HN:Hid (num s p 2=x):=hX.out.symm
          have hlei:(p:Int)+2≤(s.size:Int):=by omega
          clear hX hlt hx2 hx1 hx0 hk
          cases hq:tst s p 2 with
          | true=>
           as_aux_lemma=>
            have hq1:wd x=2∧put x=s.extract p (p+2):=by unfold tst at hq;rw [HN.out] at hq;exact of_decide_eq_true hq
            have HR:Hid (beginsU s p=x):=by show beginsU s p=x;rw [hB.out,show 5 - 2=(4 - 2)+1 by rfl,bgs,if_pos hle,if_pos hq,HN.out]
            have cW:Hid (∀ W:World,Calls Tryz.prog 63 #[.int .i64 x] W fun e w'=>e = .returned (.int .i64 2)∧w'=W):=fun W=>by have:=rwidth_any x W;rw [hq1.1] at this;exact this
            have cP:Hid (∀ W:World,Calls Tryz.prog 19 #[.int .i64 x] W fun e w'=>e = .returned (.string (s.extract p (p+2)))∧Below W.heap.size W w'):=fun W=>by have:=rput_any x W;rw [hq1.2] at this;exact this
            clear hq hq1 hB HN
            go_wp2_with fail
            refine wp_region_quiet_below mixed (by kernel_rfl) ?_
            repeat (go_big_quiet_step ((first | (go_at_call 63;exact below_same (cW.out _)) | (go_at_call 19;exact below_of (cP.out _)))))
            refine wpQuiet_nil ?_
            intro _ hw'
            obtain ⟨⟨w2,hb2⟩,hw''⟩:=hw'
            subst hw''
            go_wp2_with fail
            go_ret
            exact ⟨by rw [HR.out];rfl,HB1.out.trans (hb2.mono HB1.out.size)⟩
          | false=>
           as_aux_lemma=>
            have HR:Hid (beginsU s p=bgs s p (5 - (2+1)) (2+1)):=hB.out.trans (bgs_no s p (4 - 2) 2 hle hq)
            by_cases hw:wd x=2
            · have hne:put x≠s.extract p (p+2):=fun h=>by unfold tst at hq;rw [HN.out] at hq;exact absurd ⟨hw,h⟩ (of_decide_eq_false hq)
              have cW:Hid (∀ W:World,Calls Tryz.prog 63 #[.int .i64 x] W fun e w'=>e = .returned (.int .i64 2)∧w'=W):=fun W=>by have:=rwidth_any x W;rw [hw] at this;exact this
              obtain ⟨z,hz⟩:∃ z,put x=z:=⟨_,rfl⟩
              have cP:Hid (∀ W:World,Calls Tryz.prog 19 #[.int .i64 x] W fun e w'=>e = .returned (.string z)∧Below W.heap.size W w'):=fun W=>by have:=rput_any x W;rw [hz] at this;exact this
              rw [hz] at hne
              have hzn:=bstr_ne hne
              clear hq hw hz hne hB HN
              go_wp2_with fail
              refine wp_region_quiet_below mixed (by kernel_rfl) ?_
              repeat (go_big_quiet_step ((first | (go_at_call 63;exact below_same (cW.out _)) | (go_at_call 19;exact below_of (cP.out _)))))
              refine wpQuiet_nil ?_
              intro _ hw'
              obtain ⟨⟨w2,hb2⟩,hw''⟩:=hw'
              subst hw''
              go_wp2_with fail
              exact ⟨⟨2+1,rfl,by omega,by omega,HR,HB1.out.trans (hb2.mono HB1.out.size)⟩,by simp [intOf]⟩
            · obtain ⟨d,hd⟩:∃ d,wd x=d:=⟨_,rfl⟩
              have cW:Hid (∀ W:World,Calls Tryz.prog 63 #[.int .i64 x] W fun e w'=>e = .returned (.int .i64 d)∧w'=W):=fun W=>by have:=rwidth_any x W;rw [hd] at this;exact this
              rw [hd] at hw
              have hdn:(d == 2)=false:=by simpa using hw
              clear hq hw hd hB HN
              go_wp2_with fail
              refine wp_region_quiet_below mixed (by kernel_rfl) ?_
              repeat (go_big_quiet_step ((go_at_call 63;exact below_same (cW.out _))))
              refine wpQuiet_nil ?_
              intro _ hw'
              obtain ⟨⟨w2,hb2⟩,hw''⟩:=hw'
              subst hw''
              go_wp2_with fail
              exact ⟨⟨2+1,rfl,by omega,by omega,HR,HB1.out.trans (hb2.mono HB1.out.size)⟩,by simp [intOf]⟩
      ·
       rw [show ((3:Nat):Int)=(3:Int) from rfl]
       go_wp2_with fail
       go_loopw [6,7] (fun vu vi wq=>∃ (k x:Nat),vu = .int .i64 x∧vi = .int .i64 ((k:Int)+1)∧k+1≤3∧x<67108864∧(k≤2→x<1048576)∧(k≤1→x<16384)∧(k=0→x<256)∧Hid (x=acc s p ((s.get! p).toNat % md 3) k)∧Below w.heap.size w wq) (fun _ vi _=>3 - (intOf vi).toNat)
       case atStart=>
        have hm:=(s.get! p).toNat_lt
        have hm2:=Nat.mod_le (s.get! p).toNat (md 3)
        exact ⟨0,((s.get! p).toNat % md 3),by rw [w64b,←get_bang s p hp] <;> rfl,rfl,by omega,by omega,by omega,by omega,by omega,rfl,(HB0.out.alloc HB0.out.size _)⟩
       case round=>
        clear HB0
        obtain ⟨k,x,rfl,rfl,hk,hx,hx2,hx1,hx0,hX,hb⟩:=hrel
        have HB1:Hid (Below w.heap.size w wr):=hb
        clear hb
        have hxi:(x:Int)<67108864:=by omega
        by_cases hlt:k+1<3
        · as_aux_lemma=>
           obtain ⟨q,hq⟩:∃ q:Nat,p+(k+1)=q:=⟨_,rfl⟩
           have hqi:(p:Int)+((k:Int)+1)=(q:Int):=by omega
           have hqs:(q:Int)<(s.size:Int):=by omega
           have HQ:Hid (p+(k+1)=q):=hq
           clear hq
           have hxj:(x:Int)<1048576:=by omega
           have hlt':(k:Int)+1<3:=by omega
           go_wp2_with fail
           refine ⟨⟨k+1,x*64+s[q].toNat % 64,by rw [step_val x s[q] (by omega)],by rw [show ((k:Int)+1+1)=(((k+1:Nat):Int)+1) by omega],by omega,by omega,by omega,by omega,by omega,?_,HB1.out⟩,by simp [intOf];omega⟩
           show x*64+s[q].toNat % 64=acc s p _ k*64+(s.get! (p+(k+1))).toNat % 64
           rw [←hX.out,HQ.out,get_bang s q (by omega)]
        · have hk1:k=2:=by omega
          subst hk1
          have HN:Hid (num s p 3=x):=hX.out.symm
          have hlei:(p:Int)+3≤(s.size:Int):=by omega
          clear hX hlt hx2 hx1 hx0 hk
          cases hq:tst s p 3 with
          | true=>
           as_aux_lemma=>
            have hq1:wd x=3∧put x=s.extract p (p+3):=by unfold tst at hq;rw [HN.out] at hq;exact of_decide_eq_true hq
            have HR:Hid (beginsU s p=x):=by show beginsU s p=x;rw [hB.out,show 5 - 3=(4 - 3)+1 by rfl,bgs,if_pos hle,if_pos hq,HN.out]
            have cW:Hid (∀ W:World,Calls Tryz.prog 63 #[.int .i64 x] W fun e w'=>e = .returned (.int .i64 3)∧w'=W):=fun W=>by have:=rwidth_any x W;rw [hq1.1] at this;exact this
            have cP:Hid (∀ W:World,Calls Tryz.prog 19 #[.int .i64 x] W fun e w'=>e = .returned (.string (s.extract p (p+3)))∧Below W.heap.size W w'):=fun W=>by have:=rput_any x W;rw [hq1.2] at this;exact this
            clear hq hq1 hB HN
            go_wp2_with fail
            refine wp_region_quiet_below mixed (by kernel_rfl) ?_
            repeat (go_big_quiet_step ((first | (go_at_call 63;exact below_same (cW.out _)) | (go_at_call 19;exact below_of (cP.out _)))))
            refine wpQuiet_nil ?_
            intro _ hw'
            obtain ⟨⟨w2,hb2⟩,hw''⟩:=hw'
            subst hw''
            go_wp2_with fail
            go_ret
            exact ⟨by rw [HR.out];rfl,HB1.out.trans (hb2.mono HB1.out.size)⟩
          | false=>
           as_aux_lemma=>
            have HR:Hid (beginsU s p=bgs s p (5 - (3+1)) (3+1)):=hB.out.trans (bgs_no s p (4 - 3) 3 hle hq)
            by_cases hw:wd x=3
            · have hne:put x≠s.extract p (p+3):=fun h=>by unfold tst at hq;rw [HN.out] at hq;exact absurd ⟨hw,h⟩ (of_decide_eq_false hq)
              have cW:Hid (∀ W:World,Calls Tryz.prog 63 #[.int .i64 x] W fun e w'=>e = .returned (.int .i64 3)∧w'=W):=fun W=>by have:=rwidth_any x W;rw [hw] at this;exact this
              obtain ⟨z,hz⟩:∃ z,put x=z:=⟨_,rfl⟩
              have cP:Hid (∀ W:World,Calls Tryz.prog 19 #[.int .i64 x] W fun e w'=>e = .returned (.string z)∧Below W.heap.size W w'):=fun W=>by have:=rput_any x W;rw [hz] at this;exact this
              rw [hz] at hne
              have hzn:=bstr_ne hne
              clear hq hw hz hne hB HN
              go_wp2_with fail
              refine wp_region_quiet_below mixed (by kernel_rfl) ?_
              repeat (go_big_quiet_step ((first | (go_at_call 63;exact below_same (cW.out _)) | (go_at_call 19;exact below_of (cP.out _)))))
              refine wpQuiet_nil ?_
              intro _ hw'
              obtain ⟨⟨w2,hb2⟩,hw''⟩:=hw'
              subst hw''
              go_wp2_with fail
              exact ⟨⟨3+1,rfl,by omega,by omega,HR,HB1.out.trans (hb2.mono HB1.out.size)⟩,by simp [intOf]⟩
            · obtain ⟨d,hd⟩:∃ d,wd x=d:=⟨_,rfl⟩
              have cW:Hid (∀ W:World,Calls Tryz.prog 63 #[.int .i64 x] W fun e w'=>e = .returned (.int .i64 d)∧w'=W):=fun W=>by have:=rwidth_any x W;rw [hd] at this;exact this
              rw [hd] at hw
              have hdn:(d == 3)=false:=by simpa using hw
              clear hq hw hd hB HN
              go_wp2_with fail
              refine wp_region_quiet_below mixed (by kernel_rfl) ?_
              repeat (go_big_quiet_step ((go_at_call 63;exact below_same (cW.out _))))
              refine wpQuiet_nil ?_
              intro _ hw'
              obtain ⟨⟨w2,hb2⟩,hw''⟩:=hw'
              subst hw''
              go_wp2_with fail
              exact ⟨⟨3+1,rfl,by omega,by omega,HR,HB1.out.trans (hb2.mono HB1.out.size)⟩,by simp [intOf]⟩
      ·
       rw [show ((4:Nat):Int)=(4:Int) from rfl]
       go_wp2_with fail
       go_loopw [6,7] (fun vu vi wq=>∃ (k x:Nat),vu = .int .i64 x∧vi = .int .i64 ((k:Int)+1)∧k+1≤4∧x<67108864∧(k≤2→x<1048576)∧(k≤1→x<16384)∧(k=0→x<256)∧Hid (x=acc s p ((s.get! p).toNat % md 4) k)∧Below w.heap.size w wq) (fun _ vi _=>4 - (intOf vi).toNat)
       case atStart=>
        have hm:=(s.get! p).toNat_lt
        have hm2:=Nat.mod_le (s.get! p).toNat (md 4)
        exact ⟨0,((s.get! p).toNat % md 4),by rw [w64b,←get_bang s p hp] <;> rfl,rfl,by omega,by omega,by omega,by omega,by omega,rfl,(HB0.out.alloc HB0.out.size _)⟩
       case round=>
        clear HB0
        obtain ⟨k,x,rfl,rfl,hk,hx,hx2,hx1,hx0,hX,hb⟩:=hrel
        have HB1:Hid (Below w.heap.size w wr):=hb
        clear hb
        have hxi:(x:Int)<67108864:=by omega
        by_cases hlt:k+1<4
        · as_aux_lemma=>
           obtain ⟨q,hq⟩:∃ q:Nat,p+(k+1)=q:=⟨_,rfl⟩
           have hqi:(p:Int)+((k:Int)+1)=(q:Int):=by omega
           have hqs:(q:Int)<(s.size:Int):=by omega
           have HQ:Hid (p+(k+1)=q):=hq
           clear hq
           have hxj:(x:Int)<1048576:=by omega
           have hlt':(k:Int)+1<4:=by omega
           go_wp2_with fail
           refine ⟨⟨k+1,x*64+s[q].toNat % 64,by rw [step_val x s[q] (by omega)],by rw [show ((k:Int)+1+1)=(((k+1:Nat):Int)+1) by omega],by omega,by omega,by omega,by omega,by omega,?_,HB1.out⟩,by simp [intOf];omega⟩
           show x*64+s[q].toNat % 64=acc s p _ k*64+(s.get! (p+(k+1))).toNat % 64
           rw [←hX.out,HQ.out,get_bang s q (by omega)]
        · have hk1:k=3:=by omega
          subst hk1
          have HN:Hid (num s p 4=x):=hX.out.symm
          have hlei:(p:Int)+4≤(s.size:Int):=by omega
          clear hX hlt hx2 hx1 hx0 hk
          cases hq:tst s p 4 with
          | true=>
           as_aux_lemma=>
            have hq1:wd x=4∧put x=s.extract p (p+4):=by unfold tst at hq;rw [HN.out] at hq;exact of_decide_eq_true hq
            have HR:Hid (beginsU s p=x):=by show beginsU s p=x;rw [hB.out,show 5 - 4=(4 - 4)+1 by rfl,bgs,if_pos hle,if_pos hq,HN.out]
            have cW:Hid (∀ W:World,Calls Tryz.prog 63 #[.int .i64 x] W fun e w'=>e = .returned (.int .i64 4)∧w'=W):=fun W=>by have:=rwidth_any x W;rw [hq1.1] at this;exact this
            have cP:Hid (∀ W:World,Calls Tryz.prog 19 #[.int .i64 x] W fun e w'=>e = .returned (.string (s.extract p (p+4)))∧Below W.heap.size W w'):=fun W=>by have:=rput_any x W;rw [hq1.2] at this;exact this
            clear hq hq1 hB HN
            go_wp2_with fail
            refine wp_region_quiet_below mixed (by kernel_rfl) ?_
            repeat (go_big_quiet_step ((first | (go_at_call 63;exact below_same (cW.out _)) | (go_at_call 19;exact below_of (cP.out _)))))
            refine wpQuiet_nil ?_
            intro _ hw'
            obtain ⟨⟨w2,hb2⟩,hw''⟩:=hw'
            subst hw''
            go_wp2_with fail
            go_ret
            exact ⟨by rw [HR.out];rfl,HB1.out.trans (hb2.mono HB1.out.size)⟩
          | false=>
           as_aux_lemma=>
            have HR:Hid (beginsU s p=bgs s p (5 - (4+1)) (4+1)):=hB.out.trans (bgs_no s p (4 - 4) 4 hle hq)
            by_cases hw:wd x=4
            · have hne:put x≠s.extract p (p+4):=fun h=>by unfold tst at hq;rw [HN.out] at hq;exact absurd ⟨hw,h⟩ (of_decide_eq_false hq)
              have cW:Hid (∀ W:World,Calls Tryz.prog 63 #[.int .i64 x] W fun e w'=>e = .returned (.int .i64 4)∧w'=W):=fun W=>by have:=rwidth_any x W;rw [hw] at this;exact this
              obtain ⟨z,hz⟩:∃ z,put x=z:=⟨_,rfl⟩
              have cP:Hid (∀ W:World,Calls Tryz.prog 19 #[.int .i64 x] W fun e w'=>e = .returned (.string z)∧Below W.heap.size W w'):=fun W=>by have:=rput_any x W;rw [hz] at this;exact this
              rw [hz] at hne
              have hzn:=bstr_ne hne
              clear hq hw hz hne hB HN
              go_wp2_with fail
              refine wp_region_quiet_below mixed (by kernel_rfl) ?_
              repeat (go_big_quiet_step ((first | (go_at_call 63;exact below_same (cW.out _)) | (go_at_call 19;exact below_of (cP.out _)))))
              refine wpQuiet_nil ?_
              intro _ hw'
              obtain ⟨⟨w2,hb2⟩,hw''⟩:=hw'
              subst hw''
              go_wp2_with fail
              exact ⟨⟨4+1,rfl,by omega,by omega,HR,HB1.out.trans (hb2.mono HB1.out.size)⟩,by simp [intOf]⟩
            · obtain ⟨d,hd⟩:∃ d,wd x=d:=⟨_,rfl⟩
              have cW:Hid (∀ W:World,Calls Tryz.prog 63 #[.int .i64 x] W fun e w'=>e = .returned (.int .i64 d)∧w'=W):=fun W=>by have:=rwidth_any x W;rw [hd] at this;exact this
              rw [hd] at hw
              have hdn:(d == 4)=false:=by simpa using hw
              clear hq hw hd hB HN
              go_wp2_with fail
              refine wp_region_quiet_below mixed (by kernel_rfl) ?_
              repeat (go_big_quiet_step ((go_at_call 63;exact below_same (cW.out _))))
              refine wpQuiet_nil ?_
              intro _ hw'
              obtain ⟨⟨w2,hb2⟩,hw''⟩:=hw'
              subst hw''
              go_wp2_with fail
              exact ⟨⟨4+1,rfl,by omega,by omega,HR,HB1.out.trans (hb2.mono HB1.out.size)⟩,by simp [intOf]⟩
    · as_aux_lemma=>
       have hle':¬ ((p:Int)+n≤(s.size:Int)):=by omega
       go_wp2_with fail
       go_ret
       obtain ⟨j,hj⟩:∃ j,5 - n=j+1:=⟨4 - n,by omega⟩
       refine ⟨?_,HB0.out⟩
       rw [hB.out,hj,bgs,if_neg hle]
       rfl
def OwnU (w:World) (base:Nat) (v:Value) (l:List (Nat × Nat)):Prop:=w.ownsRow base 91 2 v l.length (flat l)
theorem info89:(Tryz.prog.info? 91).map (fun i=>(i.zero,i.size,i.bytes))=some (some (.agg #[.int .i64 0,.int .i64 0]),2,16):=by kernel_rfl
theorem flat_append (l r:List (Nat × Nat)):flat (l++r)=flat l++flat r:=by simp [flat]
theorem flat_at:∀ (l:List (Nat × Nat)) {j:Nat} {x:Nat × Nat},l[j]? = some x→(flat l)[j*2]? = some (.int .i64 x.1)∧(flat l)[j*2+1]? = some (.int .i64 x.2)
 | [],j,x,h=>by simp at h
 | y::l,0,x,h=>by simp at h;subst h;simp [flat]
 | y::l,j+1,x,h=>by
  have ih:=flat_at l (j:=j) (x:=x) (by simpa using h)
  have e:flat (y::l) = .int .i64 y.1 :: .int .i64 y.2::flat l:=by simp [flat]
  rw [e,show (j+1)*2=j*2+1+1 by omega]
  simpa using ih
theorem addr_zero (g j:Nat):(⟨g,0,none⟩:Addr).add j=⟨g,j,none⟩:=by
 unfold Addr.add
 by_cases h:j=0
 · subst h;rfl
 · simp [h]
theorem OwnU.at {w:World} {base g n cap:Nat} {l:List (Nat × Nat)} (h:OwnU w base (.slice (some ⟨g,0,none⟩) n cap) l) {j:Nat} {x:Nat × Nat} (hj:l[j]? = some x):w.cell? ⟨g,j*2,none⟩=some (.int .i64 x.1)∧w.cell? ⟨g,j*2+1,none⟩=some (.int .i64 x.2):=by
 have h1:=h.cells rfl
 have:=flat_at l hj
 have a1:=h1 _ _ this.1
 have a2:=h1 _ _ this.2
 rw [addr_zero] at a1 a2
 exact ⟨a1,a2⟩
theorem OwnU.alloc {w:World} {base:Nat} {v:Value} {l:List (Nat × Nat)} (h:OwnU w base v l) (o:Obj):OwnU (w.alloc o) base v l:=World.ownsRow.alloc h o
theorem OwnU.below {w w':World} {base n:Nat} {v:Value} {l:List (Nat × Nat)} (h:OwnU w base v l) (hb:Below n w w') (hn:w.heap.size≤n):OwnU w' base v l:=by
 refine ⟨h.1,?_⟩
 rcases h.2 with h | ⟨g,cap,cur,rfl,h1,h2,h3⟩
 · exact .inl h
 · have:g<w.heap.size:=(Array.getElem?_eq_some_iff.1 h2).1
   exact .inr ⟨g,cap,cur,rfl,h1,(hb.block g (by omega)).trans h2,h3⟩
theorem uinfo_parts {P:Program} {e:TypeId} {z:Value} {s b:Nat} (h:(P.info? e).map (fun i=>(i.zero,i.size,i.bytes))=some (some z,s,b)):∃ i,P.info? e=some i∧i.zero=some z∧i.size=s∧i.bytes=b:=by
 cases hi:P.info? e with
 | none=>rw [hi] at h;simp at h
 | some i=>rw [hi] at h;simp at h;exact ⟨i,rfl,h.1,h.2.1,h.2.2⟩
theorem push_U {ops:Array Oper} {rest:List Oper} {o:Oper} {a:Act} {Q:Exit→Act→World→Prop} {w:World} (hgd:o.guard=none) (s x:Operand)
 (ho:o.op = .call { callee := .builtin .append,args:=#[s,x],argTypes:=#[88,88] })
 (base:Nat) (v:Value) (l:List (Nat × Nat)) (hs:a.eval s=v) (hown:OwnU w base v l) (g c:Nat) (p q:Nat) (q':Int) (hqq:q'=(q:Int)) (hx:a.eval x = .slice (some ⟨g,0,none⟩) 1 c)
 (hp:w.cell? ⟨g,0,none⟩=some (.int .i64 p)) (hq:w.cell? ⟨g,1,none⟩=some (.int .i64 q')) (hl:l.length+1≤8796093022208) (hbase:base≤w.heap.size)
 (h:∀ v' w',OwnU w' base v' (l++[(p,q)])→Below base w w'→wpList Tryz.prog ops Q rest (a.put o.dst v') w'):wpList Tryz.prog ops Q (o::rest) a w:=by
 subst hqq
 obtain ⟨i0,hi,hz0,hz1,hz2⟩:=uinfo_parts info89
 refine wpList_append_own w hgd s x 88 ho base 91 i0 (.agg #[.int .i64 0,.int .i64 0]) 2 16 Tryz.underlying88 hi hz0 hz1 hz2 rfl (by decide) v l.length (flat l) hs hown ⟨g,0,none⟩ 1 c (flat [(p,q)]) hx rfl ?_ ?_ (by unfold maxLen;omega) (by omega) hbase (fun v' w' h2 h3 _=>h v' w' ?_ ((Below.refl _ w).grown h3 hbase (fun k hk=>(World.ownsRow.lt hown k hk).1)))
 · intro j u hj
   match j,hj with
   | 0,hj=>simp [flat] at hj;subst hj;exact hp
   | 1,hj=>simp [flat] at hj;subst hj;exact hq
 · intro u hu;simp [flat] at hu;rcases hu with rfl | rfl <;> rfl
 · unfold OwnU
   rw [flat_append,List.length_append]
   exact h2
theorem units_next (s:ByteArray) (p:Nat) (hp:p<s.size):unitsN s s.size p=(p,uAt s p)::unitsN s s.size (p+uw s p):=by
 obtain ⟨j,hj⟩:∃ j,s.size=j+1:=⟨s.size - 1,by omega⟩
 have h1:=unitsN_step s j p hp
 have hu:=uw_pos s p
 rw [←hj] at h1
 rw [h1,fuel s j s.size (p+uw s p) (by omega) (by omega)]
theorem units_len (s:ByteArray):(units s).length≤s.size:=units_len_N s _ _
theorem strayVal (s:ByteArray) (p:Nat) (hp:p<s.size):wrap64 (1114112+wrap64 (s[p].toNat:Int))=((1114112+(s.get! p).toNat:Nat):Int):=by
 have:=(s[p]).toNat_lt
 rw [w64b,get_bang s p hp,show (1114112:Int)+((s[p].toNat:Nat):Int)=((1114112+s[p].toNat:Nat):Int) by omega]
 exact IntWalk.wrap64_in _ (by omega)
set_option maxHeartbeats 4000000 in
theorem runits_any (s:ByteArray) (w:World) (hs:s.size≤4398046511104):Calls Tryz.prog 36 #[.string s] w fun e w'=>∃ v,e = .returned v∧OwnU w' w.heap.size v (units s)∧Below w.heap.size w w':=by
 have hsi:(s.size:Int)≤4398046511104:=by omega
 go_enter Tryz.func36,Tryz.ntmps36
 go_wp2
 go_loopw [3,4] (fun vo va wr=>∃ (p:Nat) (l:List (Nat × Nat)),va = .int .i64 p∧p≤s.size∧l.length≤p∧Hid (l++unitsN s s.size p=units s)∧OwnU wr w.heap.size vo l∧Below w.heap.size w wr) (fun _ va _=>s.size - (intOf va).toNat)
 case atStart=>exact ⟨0,[],rfl,by omega,by simp,rfl,World.ownsRow_lit w _ 0 (Nat.le_refl _) (by unfold maxLen;omega) rfl,(Below.refl _ w).alloc (Nat.le_refl _) _⟩
 case round=>
  obtain ⟨p,l,rfl,hp,hl,hU,hO,hB⟩:=hrel
  have HO:Hid (OwnU wr w.heap.size u3 l):=hO
  have HB:Hid (Below w.heap.size w wr):=hB
  clear hO hB
  by_cases hps:p=s.size
  · as_aux_lemma=>
     subst hps
     have e:l=units s:=by rw [←hU.out,unitsN_end s _ _ (by omega),List.append_nil]
     subst e
     clear hU
     go_wp2
     go_ret
     exact ⟨_,rfl,HO.out,HB.out⟩
  · have hlt:p<s.size:=by omega
    have hpi:(p:Int)<(s.size:Int):=by omega
    have hu:=uw_pos s p
    have hin:=uw_in s p hlt
    have HN:Hid ((l++[(p,uAt s p)])++unitsN s s.size (p+uw s p)=units s):=by
     show _=_
     rw [←hU.out,units_next s p hlt];simp
    have hux:=uAt_lt s p
    have HW:Hid (wd (uAt s p:Int)=(uw s p:Int)):=wd_uAt s p
    cases hst:strayAt s p with
    | true=>
     as_aux_lemma=>
      have HE:Hid (beginsU s p = -1):=by show _=_;rw [begins_eq s p hlt,hst];rfl
      have HA:Hid (1114112+(s.get! p).toNat=uAt s p):=(uAt_stray hst).symm
      clear hst hU
      generalize uAt s p=x at *
      generalize uw s p=d at *
      go_wp2_with fail
      refine (begins_any s p _ hlt hs).mono ?_
      rw [HE.out]
      rintro e w1 ⟨rfl,hb1⟩
      replace HO:Hid (OwnU w1 w.heap.size u3 l):=HO.out.below hb1 (Nat.le_refl _)
      replace HB:Hid (Below w.heap.size w w1):=HB.out.trans (hb1.mono HB.out.size)
      have hz:=HB.out.size
      clear hb1 HE
      go_wp2_with (at_builtin;go_must (refine push_U rfl _ _ rfl w.heap.size _ _ rfl (HO.out.alloc _) _ _ p x _ ((strayVal s p hlt).trans (by rw [HA.out])) rfl (by simp) (by simp) (by omega) (by simp;omega) ?_);intro v' w3 hO1 hb3)
      have HO1:Hid (OwnU w3 w.heap.size v' (l++[(p,x)])):=hO1
      have HB3:Hid (Below w.heap.size w w3):=(HB.out.alloc hz _).trans hb3
      clear hO1 hb3 HO HB
      go_wp2_with fail
      refine (rwidth_any _ _).mono ?_
      rw [strayVal s p hlt,HA.out,HW.out]
      rintro e w4 ⟨rfl,rfl⟩
      clear HA HW
      go_wp2
      exact ⟨⟨p+d,_,by go_num,by omega,by simp;omega,HN,HO1.out,HB3.out⟩,by simp [intOf];omega⟩
    | false=>
     as_aux_lemma=>
      have HE:Hid (beginsU s p=(uAt s p:Int)):=by show _=_;rw [begins_eq s p hlt,hst];rfl
      clear hst hU
      generalize uAt s p=x at *
      generalize uw s p=d at *
      clear hux
      have hz:=HB.out.size
      go_wp2_with fail
      refine (begins_any s p _ hlt hs).mono ?_
      rw [HE.out]
      rintro e w1 ⟨rfl,hb1⟩
      replace HO:Hid (OwnU w1 w.heap.size u3 l):=HO.out.below hb1 (Nat.le_refl _)
      replace HB:Hid (Below w.heap.size w w1):=HB.out.trans (hb1.mono HB.out.size)
      replace hz:=HB.out.size
      clear hb1 HE
      go_wp2_with (at_builtin;go_must (refine push_U rfl _ _ rfl w.heap.size _ _ rfl (HO.out.alloc _) _ _ p x _ rfl rfl (by simp) (by simp) (by omega) (by simp;omega) ?_);intro v' w3 hO1 hb3)
      have HO1:Hid (OwnU w3 w.heap.size v' (l++[(p,x)])):=hO1
      have HB3:Hid (Below w.heap.size w w3):=(HB.out.alloc hz _).trans hb3
      clear hO1 hb3 HO HB
      go_wp2_with fail
      refine (rwidth_any _ _).mono ?_
      rw [HW.out]
      rintro e w4 ⟨rfl,rfl⟩
      clear HW
      go_wp2
      exact ⟨⟨p+d,_,by go_num,by omega,by simp;omega,HN,HO1.out,HB3.out⟩,by simp [intOf];omega⟩
def OwnI1 (w:World) (base:Nat) (v:Value) (l:List Int):Prop:=w.ownsRow base 3 1 v l.length (l.map (Value.int .i64))
theorem OwnI1.alloc {w:World} {base:Nat} {v:Value} {l:List Int} (h:OwnI1 w base v l) (o:Obj):OwnI1 (w.alloc o) base v l:=World.ownsRow.alloc h o
theorem push_I1 {ops:Array Oper} {rest:List Oper} {o:Oper} {a:Act} {Q:Exit→Act→World→Prop} {w:World} (hgd:o.guard=none) (s x:Operand)
 (ho:o.op = .call { callee := .builtin .append,args:=#[s,x],argTypes:=#[38,38] })
 (base:Nat) (v:Value) (l:List Int) (hs:a.eval s=v) (hown:OwnI1 w base v l) (g c:Nat) (p:Int) (hx:a.eval x = .slice (some ⟨g,0,none⟩) 1 c)
 (hp:w.cell? ⟨g,0,none⟩=some (.int .i64 p)) (hl:l.length+1≤8796093022208) (hbase:base≤w.heap.size)
 (h:∀ v' w',OwnI1 w' base v' (l++[p])→Below base w w'→wpList Tryz.prog ops Q rest (a.put o.dst v') w'):wpList Tryz.prog ops Q (o::rest) a w:=by
 obtain ⟨i0,hi,hz0,hz1,hz2⟩:=uinfo_parts info3
 refine wpList_append_own w hgd s x 38 ho base 3 i0 (.int .i64 0) 1 8 Tryz.underlying38 hi hz0 hz1 hz2 rfl (by decide) v l.length _ hs hown ⟨g,0,none⟩ 1 c [.int .i64 p] hx rfl ?_ (by simp;rfl) (by unfold maxLen;omega) (by omega) hbase (fun v' w' h2 h3 _=>h v' w' ?_ ((Below.refl _ w).grown h3 hbase (fun k hk=>(World.ownsRow.lt hown k hk).1)))
 · intro j u hj
   match j,hj with
   | 0,hj=>simp at hj;subst hj;exact hp
 · unfold OwnI1
   rw [List.map_append,List.length_append]
   exact h2
def OwnI0 (w:World) (base:Nat) (v:Value) (l:List Int):Prop:=(∃ A,v = .slice A 0 0∧l=[])∨OwnI1 w base v l
theorem OwnI0.alloc {w:World} {base:Nat} {v:Value} {l:List Int} (h:OwnI0 w base v l) (o:Obj):OwnI0 (w.alloc o) base v l:=h.imp id fun h=>h.alloc o
theorem OwnI0.ir {w:World} {base:Nat} {v:Value} {l:List Int} (h:OwnI0 w base v l):IR w v l:=by
 rcases h with ⟨A,rfl,rfl⟩ | h
 · exact ⟨A,0,rfl,Nat.le_refl _,.inl rfl⟩
 · exact OwnI.ir h
theorem push_I0 {ops:Array Oper} {rest:List Oper} {o:Oper} {a:Act} {Q:Exit→Act→World→Prop} {w:World} (hgd:o.guard=none) (s x:Operand)
 (ho:o.op = .call { callee := .builtin .append,args:=#[s,x],argTypes:=#[38,38] })
 (base:Nat) (v:Value) (l:List Int) (hs:a.eval s=v) (hown:OwnI0 w base v l) (g c:Nat) (p:Int) (hx:a.eval x = .slice (some ⟨g,0,none⟩) 1 c)
 (hp:w.cell? ⟨g,0,none⟩=some (.int .i64 p)) (hl:l.length+1≤8796093022208) (hbase:base≤w.heap.size)
 (h:∀ v' w',OwnI0 w' base v' (l++[p])→Below base w w'→wpList Tryz.prog ops Q rest (a.put o.dst v') w'):wpList Tryz.prog ops Q (o::rest) a w:=by
 rcases hown with ⟨A,rfl,rfl⟩ | hown
 · obtain ⟨i0,hi,hz0,hz1,hz2⟩:=uinfo_parts info3
   refine wpList_append_grows w hgd s x 38 ho 3 i0 (.int .i64 0) 1 8 Tryz.underlying38 hi hz0 hz1 hz2 rfl (by decide) A 0 0 [] hs (fun _=>⟨rfl,rfl⟩) rfl (fun b _ j u hj=>by simp at hj) ⟨g,0,none⟩ 1 c [.int .i64 p] hx rfl ?_ (by simp;rfl) (by omega) (by unfold maxLen;omega) (by omega) (fun v' w' h2 h3=>h v' w' (.inr ?_) ((Below.refl _ w).grown h3 hbase (fun k hk=>by cases hk)))
   · intro j u hj
     match j,hj with
     | 0,hj=>simp at hj;subst hj;exact hp
   · exact Joins.ownsRow_le h2 hbase
 · exact push_I1 hgd s x ho base v l hs hown g c p hx hp hl hbase (fun v' w' h1 h2=>h v' w' (.inr h1) h2)
theorem intsU_at {l:List (Nat × Nat)} {i:Nat} {x:Nat × Nat} (h:l[i]? = some x):(intsU l).take (i+1)=(intsU l).take i++[(x.2:Int)]:=by
 obtain ⟨hlt,e⟩:=List.getElem?_eq_some_iff.1 h
 rw [List.take_succ_eq_append_getElem (by rw [intsU_length];exact hlt)]
 simp [intsU,e]
set_option maxHeartbeats 4000000 in
theorem rcut_any (s:ByteArray) (w:World) (hs:s.size≤4398046511104):Calls Tryz.prog 15 #[.string s] w fun e w'=>∃ v,e = .returned v∧IR w' v (intsU (units s))∧Below w.heap.size w w':=by
 have hul:=units_len s
 go_enter Tryz.func15,Tryz.ntmps15
 go_wp2_with fail
 refine (runits_any s _ hs).mono ?_
 rintro e w1 ⟨v,rfl,hO,hb⟩
 obtain ⟨A,n,cap,rfl,hn,hcells⟩:∃ A n cap,v = .slice A n cap∧n=(units s).length∧∀ j x,(units s)[j]? = some x→∃ g,A=some ⟨g,0,none⟩∧g<w1.heap.size∧w1.cell? ⟨g,j*2+1,none⟩=some (.int .i64 x.2)∧n≤cap:=by
  rcases hO.2 with ⟨rfl,h0⟩ | ⟨g,cap,cur,rfl,_,hh,hc,_⟩
  · have:units s=[]:=List.eq_nil_of_length_eq_zero h0
    exact ⟨none,0,0,rfl,by rw [this];rfl,fun j x h=>by rw [this] at h;simp at h⟩
  · exact ⟨_,_,cap,rfl,rfl,fun j x h=>⟨g,rfl,(Array.getElem?_eq_some_iff.1 hh).1,(OwnU.at hO h).2,hc⟩⟩
 have HC:Hid (∀ j x,(units s)[j]? = some x→∃ g,A=some ⟨g,0,none⟩∧g<w1.heap.size∧w1.cell? ⟨g,j*2+1,none⟩=some (.int .i64 x.2)∧n≤cap):=hcells
 have HN:Hid (n=(units s).length):=hn
 have hni:n≤4398046511104:=by omega
 have hb0:Below w.heap.size w w1:=by
  first | exact hb | exact ((Below.refl _ w).alloc (Nat.le_refl _) _).trans (hb.mono (by simp))
 have HB:Hid (Below w.heap.size w w1):=hb0
 have hz1:w.heap.size≤w1.heap.size:=hb0.size
 clear hcells hb hn hO hb0 hul
 go_wp2
 go_loopw [3,5] (fun vo vi wr=>∃ i:Nat,vi = .int .i64 i∧i≤n∧OwnI0 wr w1.heap.size vo ((intsU (units s)).take i)∧Below w1.heap.size w1 wr) (fun _ vi _=>n - (intOf vi).toNat)
 case atStart=>exact ⟨0,rfl,by omega,.inl ⟨_,rfl,rfl⟩,Below.refl _ _⟩
 case round=>
  obtain ⟨i,rfl,hi,hO,hW⟩:=hrel
  have hz:w1.heap.size≤wr.heap.size:=hW.size
  by_cases hin:i=n
  · as_aux_lemma=>
     have hni':=hin.symm
     subst hni'
     have HO:Hid (IR wr u3 (intsU (units s))):=by
      have:=hO.ir
      rw [List.take_of_length_le (by rw [intsU_length,HN.out];exact Nat.le_refl _)] at this
      exact this
     have HW:Hid (Below w1.heap.size w1 wr):=hW
     clear hO hW
     go_wp2
     go_ret
     exact ⟨_,rfl,HO.out,HB.out.trans (HW.out.mono hz1)⟩
  · as_aux_lemma=>
     obtain ⟨x,hx⟩:∃ x,(units s)[i]? = some x:=⟨_,List.getElem?_eq_getElem (by rw [←HN.out];omega)⟩
     obtain ⟨g,rfl,hg,hc,hcap⟩:=HC.out i x hx
     have hc':=(hW.cell (p:=⟨g,i*2+1,none⟩) hg).trans hc
     have HT:Hid ((intsU (units s)).take (i+1)=(intsU (units s)).take i++[(x.2:Int)]):=intsU_at hx
     have hlen:((intsU (units s)).take i).length=i:=by rw [List.length_take,intsU_length,←HN.out];omega
     have HO:Hid (OwnI0 wr w1.heap.size u3 ((intsU (units s)).take i)):=hO
     have HW:Hid (Below w1.heap.size w1 wr):=hW
     have HL:Hid (((intsU (units s)).take i).length=i):=hlen
     clear hx hc hO hW hlen
     go_wp2_with (at_builtin;go_must (refine push_I0 rfl _ _ rfl w1.heap.size _ _ rfl (HO.out.alloc _) _ _ (x.2:Int) rfl (by simp) (by rw [HL.out];omega) (by simp;omega) ?_);intro v' w3 hO1 hb3)
     exact ⟨⟨i+1,by go_num,by omega,by rw [HT.out];exact hO1,(HW.out.alloc hz _).trans hb3⟩,by simp [intOf];omega⟩
structure Sq (w0 w:World) (blk cap n:Nat) (d:List Int):Prop where
 l:d.length=n
 o:w.ownsRow 0 3 1 (.slice (some ⟨blk,0,none⟩) n cap) n (ints d)
 f:Fr w0 w (fun b=>b=blk)
 r:∀ i,i<n→0≤bAt d i∧bAt d i<(n:Int)
theorem Sq.grown {w0 w w':World} {blk cap n:Nat} {d:List Int} (h:Sq w0 w blk cap n d) (k:Grown w w'):Sq w0 w' blk cap n d:=
 ⟨h.l,own_fr h.o (fr_grown k fun _=>False) fun _ _=>id,h.f.trans (fr_grown k fun _=>False) fun _ _ e=>e.elim,h.r⟩
theorem Sq.cell {w0 w:World} {blk cap n:Nat} {d:List Int} (h:Sq w0 w blk cap n d) {j:Nat} (hj:j<n):w.cell? ⟨blk,j,none⟩=some (.int .i64 (bAt d j)):=by
 rw [World.ownsRow.cellAt h.o j (by omega)]
 have hl:=h.l
 simp [ints,bAt,hl,hj]
theorem Sq.frozen {w0 w:World} {blk cap n:Nat} {d:List Int} (h:Sq w0 w blk cap n d) (j:Nat):w.frozen? ⟨blk,j,none⟩=false:=World.ownsRow.frozenAt h.o j
def swp (d:List Int) (i j:Nat):List Int:=(d.set i (bAt d j)).set j (bAt d i)
theorem swp_len (d:List Int) (i j:Nat):(swp d i j).length=d.length:=by simp [swp]
theorem swp_at {d:List Int} {i j:Nat} (hi:i<d.length) (hj:j<d.length) (k:Nat):bAt (swp d i j) k=if k=j then bAt d i else if k=i then bAt d j else bAt d k:=by
 unfold swp
 rw [bAt_set (by simpa using hj),bAt_set hi]
theorem Sq.swap {w0 w:World} {blk cap n:Nat} {d:List Int} (h:Sq w0 w blk cap n d) {i j:Nat} (hi:i<n) (hj:j<n):Sq w0 ((w.setCell ⟨blk,i,none⟩ (.int .i64 (bAt d j))).setCell ⟨blk,j,none⟩ (.int .i64 (bAt d i))) blk cap n (swp d i j):=by
 have o1:=(World.ownsRow.stored h.o i (.int .i64 (bAt d j))).1
 have o2:=(World.ownsRow.stored o1 j (.int .i64 (bAt d i))).1
 refine ⟨by rw [swp_len];exact h.l,by unfold swp;rw [ints_set,ints_set];exact o2,(h.f.trans (fr_set w blk i _) fun _ _ e=>e).trans (fr_set _ blk j _) fun _ _ e=>e,fun k hk => ?_⟩
 have hl:=h.l
 rw [swp_at (by omega) (by omega)]
 split
 · exact h.r i hi
 · split
   · exact h.r j hj
   · exact h.r k hk
def InS (d:List Int) (a b:Nat) (x:Int):Prop:=∃ i,a≤i∧i<b∧bAt d i=x
structure Mix (d d':List Int) (a b:Nat):Prop where
 l:d'.length=d.length
 o:∀ k,¬ (a≤k∧k<b)→bAt d' k=bAt d k
 s:∀ x,InS d' a b x↔InS d a b x
theorem Mix.refl (d:List Int) (a b:Nat):Mix d d a b:=⟨rfl,fun _ _=>rfl,fun _=>Iff.rfl⟩
theorem Mix.trans {d e f:List Int} {a b:Nat} (h:Mix d e a b) (k:Mix e f a b):Mix d f a b:=⟨k.l.trans h.l,fun i hi=>(k.o i hi).trans (h.o i hi),fun x=>(k.s x).trans (h.s x)⟩
theorem Mix.wide {d e:List Int} {a b a' b':Nat} (h:Mix d e a b) (ha:a'≤a) (hb:b≤b'):Mix d e a' b':=by
 refine ⟨h.l,fun i hi=>h.o i (by omega),fun x=>⟨?_,?_⟩⟩
 · rintro ⟨i,h1,h2,h3⟩
   by_cases hi:a≤i∧i<b
   · obtain ⟨j,k1,k2,k3⟩:=(h.s x).1 ⟨i,hi.1,hi.2,h3⟩
     exact ⟨j,by omega,by omega,k3⟩
   · exact ⟨i,h1,h2,by rw [←h.o i hi];exact h3⟩
 · rintro ⟨i,h1,h2,h3⟩
   by_cases hi:a≤i∧i<b
   · obtain ⟨j,k1,k2,k3⟩:=(h.s x).2 ⟨i,hi.1,hi.2,h3⟩
     exact ⟨j,by omega,by omega,k3⟩
   · exact ⟨i,h1,h2,by rw [h.o i hi];exact h3⟩
structure Ex (d d':List Int) (a b i:Nat):Prop where
 l:d'.length=d.length
 x:∀ k,a≤k→k<a+i→bAt d' k=bAt d (k+(b - a))
 y:∀ k,b≤k→k<b+i→bAt d' k=bAt d (k - (b - a))
 z:∀ k,¬ (a≤k∧k<a+i)→¬ (b≤k∧k<b+i)→bAt d' k=bAt d k
theorem Ex.zero (d:List Int) (a b:Nat):Ex d d a b 0:=⟨rfl,fun k h1 h2=>by omega,fun k h1 h2=>by omega,fun _ _ _=>rfl⟩
theorem Ex.succ {d d':List Int} {a b i n:Nat} (h:Ex d d' a b i) (hi:i<n) (hab:a+n≤b) (hb:b+n≤d.length):Ex d (swp d' (a+i) (b+i)) a b (i+1):=by
 have hl:=h.l
 have at':=swp_at (d:=d') (i:=a+i) (j:=b+i) (by omega) (by omega)
 have ha:=h.z (a+i) (by omega) (by omega)
 have hbb:=h.z (b+i) (by omega) (by omega)
 refine ⟨by rw [swp_len];exact hl,fun k h1 h2 => ?_,fun k h1 h2 => ?_,fun k h1 h2 => ?_⟩
 · rw [at',if_neg (by omega)]
   by_cases e:k=a+i
   · subst e
     rw [if_pos rfl,hbb]
     congr 1
     omega
   · rw [if_neg e];exact h.x k h1 (by omega)
 · rw [at']
   by_cases e:k=b+i
   · subst e
     rw [if_pos rfl,ha]
     congr 1
     omega
   · rw [if_neg e,if_neg (by omega)];exact h.y k h1 (by omega)
 · rw [at',if_neg (by omega),if_neg (by omega)]
   exact h.z k (by omega) (by omega)
structure Rot (d d':List Int) (a m b:Nat):Prop where
 l:d'.length=d.length
 x:∀ k,a≤k→k<a+(b - m)→bAt d' k=bAt d (k+(m - a))
 y:∀ k,a+(b - m)≤k→k<b→bAt d' k=bAt d (k - (b - m))
 z:∀ k,¬ (a≤k∧k<b)→bAt d' k=bAt d k
structure RotI (d e:List Int) (a m b i j:Nat):Prop where
 l:e.length=d.length
 i1:1≤i
 i2:i≤m - a
 j1:1≤j
 j2:j≤b - m
 g:∀ f,Rot e f (m - i) m (m+j)→Rot d f a m b
theorem rotI_start {d:List Int} {a m b:Nat} (h1:a<m) (h2:m<b):RotI d d a m b (m - a) (b - m):=by
 refine ⟨rfl,by omega,Nat.le_refl _,by omega,Nat.le_refl _,fun f hf => ?_⟩
 have e1:m - (m - a)=a:=by omega
 have e2:m+(b - m)=b:=by omega
 rw [e1,e2] at hf
 exact hf
theorem RotI.left {d e e':List Int} {a m b i j:Nat} (h:RotI d e a m b i j) (ha:a≤m) (hij:j<i) (hx:Ex e e' (m - i) m j):RotI d e' a m b (i - j) j:=by
 have:=h.i1;have:=h.i2;have:=h.j1;have:=h.j2
 refine ⟨hx.l.trans h.l,by omega,by omega,h.j1,h.j2,fun f hf=>h.g f ⟨hf.l.trans hx.l,fun k h1 h2 => ?_,fun k h1 h2 => ?_,fun k h1 => ?_⟩⟩
 · rw [hf.z k (by omega),hx.x k h1 (by omega)]
 · by_cases hk:k<m - (i - j)+(m+j - m)
   · rw [hf.x k (by omega) hk,hx.y _ (by omega) (by omega)]
     congr 1
     omega
   · rw [hf.y k (by omega) h2,hx.z _ (by omega) (by omega)]
 · rw [hf.z k (by omega),hx.z k (by omega) (by omega)]
theorem RotI.right {d e e':List Int} {a m b i j:Nat} (h:RotI d e a m b i j) (ha:a≤m) (hij:i<j) (hx:Ex e e' (m - i) (m+j - i) i):RotI d e' a m b i (j - i):=by
 have:=h.i1;have:=h.i2;have:=h.j1;have:=h.j2
 refine ⟨hx.l.trans h.l,h.i1,h.i2,by omega,by omega,fun f hf=>h.g f ⟨hf.l.trans hx.l,fun k h1 h2 => ?_,fun k h1 h2 => ?_,fun k h1 => ?_⟩⟩
 · by_cases hk:k<m - i+(m+(j - i) - m)
   · rw [hf.x k h1 hk,hx.z _ (by omega) (by omega)]
   · by_cases hk2:k<m+(j - i)
     · rw [hf.y k (by omega) hk2,hx.x _ (by omega) (by omega)]
       congr 1
       omega
     · omega
 · by_cases hk:k<m+(j - i)
   · omega
   · rw [hf.z k (by omega),hx.y k (by omega) (by omega)]
     congr 1
     omega
 · rw [hf.z k (by omega),hx.z k (by omega) (by omega)]
theorem RotI.done {d e f:List Int} {a m b i:Nat} (h:RotI d e a m b i i) (hx:Ex e f (m - i) m i):Rot d f a m b:=by
 have:=h.i1;have:=h.i2
 refine h.g f ⟨hx.l,fun k h1 h2 => ?_,fun k h1 h2 => ?_,fun k h1=>hx.z k (by omega) (by omega)⟩
 · rw [hx.x k h1 (by omega)]
 · rw [hx.y k (by omega) (by omega)]
   congr 1
   omega
def lt (key:Int→Int) (x y:Int):Prop:=key y<key x∨(key x=key y∧x<y)
theorem lt.trans {key:Int→Int} {x y z:Int} (h:lt key x y) (k:lt key y z):lt key x z:=by unfold lt at *;omega
theorem lt_clt {key:Int→Int} {x y:Int} (h:key y<key x):lt key x y := .inl h
theorem lt_not {key:Int→Int} {x y:Int} (hx:x<y) (h:¬ key x<key y):lt key x y:=by unfold lt;omega
def SS (key:Int→Int) (d:List Int) (a b:Nat):Prop:=∀ i j,a≤i→i<j→j<b→lt key (bAt d i) (bAt d j)
theorem SS.le {key:Int→Int} {d:List Int} {a b:Nat} (h:SS key d a b) {i j:Nat} (h1:a≤i) (h2:i≤j) (h3:j<b) {z:Int} (hz:lt key (bAt d j) z):lt key (bAt d i) z:=by
 by_cases e:i=j
 · subst e;exact hz
 · exact (h i j h1 (by omega) h3).trans hz
theorem SS.ge {key:Int→Int} {d:List Int} {a b:Nat} (h:SS key d a b) {i j:Nat} (h1:a≤i) (h2:i≤j) (h3:j<b) {z:Int} (hz:lt key z (bAt d i)):lt key z (bAt d j):=by
 by_cases e:i=j
 · subst e;exact hz
 · exact hz.trans (h i j h1 (by omega) h3)
theorem SS.same {key:Int→Int} {d e:List Int} {a b:Nat} (h:SS key d a b) (he:∀ k,a≤k→k<b→bAt e k=bAt d k):SS key e a b:=fun i j h1 h2 h3=>by rw [he i h1 (by omega),he j (by omega) h3];exact h i j h1 h2 h3
def Hx (d:List Int) (a m b:Nat):Prop:=∀ i j,a≤i→i<m→m≤j→j<b→bAt d i<bAt d j
theorem Rot.mix {d e:List Int} {a m b:Nat} (h:Rot d e a m b) (h1:a≤m) (h2:m≤b):Mix d e a b:=by
 refine ⟨h.l,h.z,fun x=>⟨?_,?_⟩⟩
 · rintro ⟨i,k1,k2,k3⟩
   by_cases hi:i<a+(b - m)
   · exact ⟨i+(m - a),by omega,by omega,by rw [←h.x i k1 hi];exact k3⟩
   · exact ⟨i - (b - m),by omega,by omega,by rw [←h.y i (by omega) k2];exact k3⟩
 · rintro ⟨i,k1,k2,k3⟩
   by_cases hi:i<m
   · refine ⟨i+(b - m),by omega,by omega,?_⟩
     rw [h.y _ (by omega) (by omega),Nat.add_sub_cancel];exact k3
   · refine ⟨i - (m - a),by omega,by omega,?_⟩
     rw [h.x _ (by omega) (by omega),Nat.sub_add_cancel (by omega)];exact k3
theorem rot_none {d:List Int} {a m b:Nat} (h:a=m∨m=b) (h1:a≤m) (h2:m≤b):Rot d d a m b:=by
 refine ⟨rfl,fun k k1 k2 => ?_,fun k k1 k2 => ?_,fun _ _=>rfl⟩
 · rcases h with h | h
   · subst h;congr 1;omega
   · omega
 · rcases h with h | h
   · omega
   · subst h;congr 1;omega
theorem rot_left {key:Int→Int} {d d1:List Int} {a m b st en:Nat} (hs1:SS key d a m) (hs2:SS key d m b) (hx:Hx d a m b) (k1:a≤st) (k2:st≤m) (k3:m≤en) (k4:en≤b) (hr:Rot d d1 st m en) :
 SS key d1 a st∧SS key d1 st (st+(en - m))∧Hx d1 a st (st+(en - m))∧SS key d1 (st+(en - m)) en∧SS key d1 en b∧Hx d1 (st+(en - m)) en b:=by
 have e1:∀ k,k<st→bAt d1 k=bAt d k:=fun k hk=>hr.z k (by omega)
 have e2:∀ k,st≤k→k<st+(en - m)→bAt d1 k=bAt d (k+(m - st)):=hr.x
 have e3:∀ k,st+(en - m)≤k→k<en→bAt d1 k=bAt d (k - (en - m)):=hr.y
 have e4:∀ k,en≤k→bAt d1 k=bAt d k:=fun k hk=>hr.z k (by omega)
 refine ⟨fun i j h1 h2 h3 => ?_,fun i j h1 h2 h3 => ?_,fun i j h1 h2 h3 h4 => ?_,fun i j h1 h2 h3 => ?_,fun i j h1 h2 h3 => ?_,fun i j h1 h2 h3 h4 => ?_⟩
 · rw [e1 i (by omega),e1 j h3];exact hs1 i j h1 h2 (by omega)
 · rw [e2 i h1 (by omega),e2 j (by omega) h3];exact hs2 _ _ (by omega) (by omega) (by omega)
 · rw [e1 i h2,e2 j h3 h4];exact hx _ _ h1 (by omega) (by omega) (by omega)
 · rw [e3 i h1 (by omega),e3 j (by omega) h3];exact hs1 _ _ (by omega) (by omega) (by omega)
 · rw [e4 i h1,e4 j (by omega)];exact hs2 i j (by omega) h2 h3
 · rw [e3 i h1 h2,e4 j h3];exact hx _ _ (by omega) (by omega) (by omega) h4
theorem sym_done {key:Int→Int} {d d1 d2 d3:List Int} {a m b st en mid:Nat} (hs1:SS key d a m) (hs2:SS key d m b) (k1:a≤st) (k2:st≤m) (k3:m≤en) (k4:en≤b) (hmid:mid=st+(en - m))
 (c1:a<st→en<b→lt key (bAt d (st - 1)) (bAt d en)) (c2:st<m→m<en→lt key (bAt d (en - 1)) (bAt d st)) (hr:Rot d d1 st m en) (m2:Mix d1 d2 a mid) (s2:SS key d2 a mid) (m3:Mix d2 d3 mid b) (s3:SS key d3 mid b):Mix d d3 a b∧SS key d3 a b:=by
 subst hmid
 have hmid2:st+(en - m)≤b:=by omega
 refine ⟨((hr.mix k2 k3).wide k1 k4).trans ((m2.wide (Nat.le_refl _) hmid2).trans (m3.wide (by omega) (Nat.le_refl _))),fun i j h1 h2 h3 => ?_⟩
 by_cases hj:j<st+(en - m)
 · rw [m3.o i (by omega),m3.o j (by omega)];exact s2 i j h1 h2 hj
 · by_cases hi:st+(en - m)≤i
   · exact s3 i j hi h2 h3
   · obtain ⟨i',a1,a2,a3⟩:=(m2.s (bAt d3 i)).1 ⟨i,h1,by omega,(m3.o i (by omega)).symm⟩
     obtain ⟨j',b1,b2,b3⟩:=(m3.s (bAt d3 j)).1 ⟨j,by omega,h3,rfl⟩
     rw [m2.o j' (by omega)] at b3
     rw [←a3,←b3]
     by_cases p:i'<st
     · rw [hr.z i' (by omega)]
       by_cases q:j'<en
       · rw [hr.y j' b1 q];exact hs1 _ _ a1 (by omega) (by omega)
       · rw [hr.z j' (by omega)]
         exact hs1.le a1 (show i'≤st - 1 by omega) (by omega) (hs2.ge (by omega) (show en≤j' by omega) b2 (c1 (by omega) (by omega)))
     · rw [hr.x i' (by omega) a2]
       by_cases q:j'<en
       · rw [hr.y j' b1 q]
         exact hs2.le (by omega) (show i'+(m - st)≤en - 1 by omega) (by omega) (hs1.ge k1 (show st≤j' - (en - m) by omega) (by omega) (c2 (by omega) (by omega)))
       · rw [hr.z j' (by omega)];exact hs2 _ _ (by omega) (by omega) b2
structure MvR (d e:List Int) (a k:Nat):Prop where
 l:e.length=d.length
 x:∀ t,a≤t→t<k→bAt e t=bAt d (t+1)
 y:bAt e k=bAt d a
 z:∀ t,¬ (a≤t∧t≤k)→bAt e t=bAt d t
theorem MvR.zero (d:List Int) (a:Nat):MvR d d a a:=⟨rfl,fun t h1 h2=>by omega,rfl,fun _ _=>rfl⟩
theorem MvR.succ {d e:List Int} {a k:Nat} (h:MvR d e a k) (ha:a≤k) (hk:k+1<d.length):MvR d (swp e k (k+1)) a (k+1):=by
 have hl:=h.l
 have at':=swp_at (d:=e) (i:=k) (j:=k+1) (by omega) (by omega)
 refine ⟨by rw [swp_len];exact hl,fun t h1 h2 => ?_,by rw [at',if_pos rfl];exact h.y,fun t ht => ?_⟩
 · rw [at',if_neg (by omega)]
   by_cases e1:t=k
   · subst e1;rw [if_pos rfl];exact h.z _ (by omega)
   · rw [if_neg e1];exact h.x t h1 (by omega)
 · rw [at',if_neg (by omega),if_neg (by omega)];exact h.z t (by omega)
structure MvL (d e:List Int) (m k:Nat):Prop where
 l:e.length=d.length
 x:∀ t,k<t→t≤m→bAt e t=bAt d (t - 1)
 y:bAt e k=bAt d m
 z:∀ t,¬ (k≤t∧t≤m)→bAt e t=bAt d t
theorem MvL.zero (d:List Int) (m:Nat):MvL d d m m:=⟨rfl,fun t h1 h2=>by omega,rfl,fun _ _=>rfl⟩
theorem MvL.succ {d e:List Int} {m k:Nat} (h:MvL d e m (k+1)) (hk:k+1≤m) (hm:m<d.length):MvL d (swp e (k+1) k) m k:=by
 have hl:=h.l
 have at':=swp_at (d:=e) (i:=k+1) (j:=k) (by omega) (by omega)
 refine ⟨by rw [swp_len];exact hl,fun t h1 h2 => ?_,by rw [at',if_pos rfl];exact h.y,fun t ht => ?_⟩
 · rw [at',if_neg (by omega)]
   by_cases e1:t=k+1
   · subst e1;rw [if_pos rfl,Nat.add_sub_cancel];exact h.z _ (by omega)
   · rw [if_neg e1];exact h.x t (by omega) h2
 · rw [at',if_neg (by omega),if_neg (by omega)];exact h.z t (by omega)
theorem MvR.mix {d e:List Int} {a k:Nat} (h:MvR d e a k) (ha:a≤k):Mix d e a (k+1):=by
 refine ⟨h.l,fun t ht=>h.z t (by omega),fun x=>⟨?_,?_⟩⟩
 · rintro ⟨i,h1,h2,h3⟩
   by_cases hi:i<k
   · exact ⟨i+1,by omega,by omega,by rw [←h.x i h1 hi];exact h3⟩
   · have:i=k:=by omega
     subst this
     exact ⟨a,Nat.le_refl _,by omega,by rw [←h.y];exact h3⟩
 · rintro ⟨i,h1,h2,h3⟩
   by_cases hi:i=a
   · subst hi;exact ⟨k,ha,by omega,by rw [h.y];exact h3⟩
   · exact ⟨i - 1,by omega,by omega,by rw [h.x _ (by omega) (by omega),Nat.sub_add_cancel (by omega)];exact h3⟩
theorem MvL.mix {d e:List Int} {m k:Nat} (h:MvL d e m k) (hk:k≤m):Mix d e k (m+1):=by
 refine ⟨h.l,fun t ht=>h.z t (by omega),fun x=>⟨?_,?_⟩⟩
 · rintro ⟨i,h1,h2,h3⟩
   by_cases hi:i=k
   · subst hi;exact ⟨m,hk,by omega,by rw [←h.y];exact h3⟩
   · exact ⟨i - 1,by omega,by omega,by rw [←h.x i (by omega) (by omega)];exact h3⟩
 · rintro ⟨i,h1,h2,h3⟩
   by_cases hi:i=m
   · subst hi;exact ⟨k,Nat.le_refl _,by omega,by rw [h.y];exact h3⟩
   · refine ⟨i+1,by omega,by omega,?_⟩
     rw [h.x _ (by omega) (by omega),Nat.add_sub_cancel];exact h3
theorem MvR.done {key:Int→Int} {d e:List Int} {a i b:Nat} (h:MvR d e a (i - 1)) (h1:a+1≤i) (h2:i≤b) (hs:SS key d (a+1) b) (c1:i=a+1∨lt key (bAt d (i - 1)) (bAt d a)) (c2:i=b∨lt key (bAt d a) (bAt d i)):Mix d e a b∧SS key e a b:=by
 refine ⟨(h.mix (by omega)).wide (Nat.le_refl _) (by omega),fun s t k1 k2 k3 => ?_⟩
 by_cases ht:t<i - 1
 · rw [h.x s k1 (by omega),h.x t (by omega) ht];exact hs _ _ (by omega) (by omega) (by omega)
 · by_cases ht2:t=i - 1
   · subst ht2
     rw [h.x s k1 k2,h.y]
     exact hs.le (by omega) (show s+1≤i - 1 by omega) (by omega) (c1.resolve_left (by omega))
   · rw [h.z t (by omega)]
     by_cases hs1:s<i - 1
     · rw [h.x s k1 hs1];exact hs _ _ (by omega) (by omega) k3
     · by_cases hs2:s=i - 1
       · subst hs2
         rw [h.y]
         exact hs.ge (by omega) (show i≤t by omega) k3 (c2.resolve_left (by omega))
       · rw [h.z s (by omega)];exact hs _ _ (by omega) k2 k3
theorem MvL.done {key:Int→Int} {d e:List Int} {a i m:Nat} (h:MvL d e m i) (h1:a≤i) (h2:i≤m) (hs:SS key d a m) (c1:i=a∨lt key (bAt d (i - 1)) (bAt d m)) (c2:i=m∨lt key (bAt d m) (bAt d i)):Mix d e a (m+1)∧SS key e a (m+1):=by
 refine ⟨(h.mix h2).wide h1 (Nat.le_refl _),fun s t k1 k2 k3 => ?_⟩
 by_cases hs1:s<i
 · rw [h.z s (by omega)]
   by_cases ht:t<i
   · rw [h.z t (by omega)];exact hs _ _ k1 k2 (by omega)
   · by_cases ht2:t=i
     · subst ht2
       rw [h.y]
       exact hs.le k1 (show s≤t - 1 by omega) (by omega) (c1.resolve_left (by omega))
     · rw [h.x t (by omega) (by omega)];exact hs _ _ k1 (by omega) (by omega)
 · by_cases hs2:s=i
   · subst hs2
     rw [h.y,h.x t k2 (by omega)]
     exact hs.ge h1 (show s≤t - 1 by omega) (by omega) (c2.resolve_left (by omega))
   · rw [h.x s (by omega) (by omega),h.x t (by omega) (by omega)];exact hs _ _ (by omega) (by omega) (by omega)
set_option maxHeartbeats 4000000 in
theorem swapRange_any {w0 w:World} {blk cap n:Nat} {d:List Int} (h:Sq w0 w blk cap n d) (a b k:Nat) (cv:Value) (hab:a+k≤b) (hb:b+k≤n) (hn:n≤1000000) :
 Calls Tryz.prog 137 #[.slice (some ⟨blk,0,none⟩) n cap,.int .i64 a,.int .i64 b,.int .i64 k,cv] w fun e w'=>e = .returned (.tuple #[])∧∃ d',Sq w0 w' blk cap n d'∧Ex d d' a b k:=by
 have HS:Hid (Sq w0 w blk cap n d):=h
 have hnI:(n:Int)≤1000000:=by omega
 clear h
 go_enter Tryz.func137,Tryz.ntmps137
 go_wp2
 go_loopw [10] (fun vi wr=>∃ i:Nat,vi = .int .i64 i∧i≤k∧Hid (∃ e,Sq w0 wr blk cap n e∧Ex d e a b i)) (fun vi _=>k - (intOf vi).toNat)
 case atStart=>exact ⟨0,rfl,by omega,d,HS.out,Ex.zero d a b⟩
 case round=>
  obtain ⟨i,rfl,hi,HE⟩:=hrel
  have hi0:(0:Int)≤(i:Int):=by omega
  by_cases hlt:i<k
  · have hltI:(i:Int)<(k:Int):=by omega
    obtain ⟨e,hsq,hex⟩:=HE.out
    have hlen:e.length=n:=hsq.l
    have c1:=hsq.cell (j:=a+i) (by omega)
    have c2:=hsq.cell (j:=b+i) (by omega)
    have hf:=hsq.frozen
    have HQ:Hid (∀ V,Grown wr V→Sq w0 ((V.setCell ⟨blk,a+i,none⟩ (.int .i64 (bAt e (b+i)))).setCell ⟨blk,b+i,none⟩ (.int .i64 (bAt e (a+i)))) blk cap n (swp e (a+i) (b+i))):=fun V hg=>(hsq.grown hg).swap (by omega) (by omega)
    have HX:Hid (Ex d (swp e (a+i) (b+i)) a b (i+1)):=hex.succ hlt hab (by have:=hex.l;omega)
    generalize bAt e (a+i)=x at c1 HQ
    generalize bAt e (b+i)=y at c2 HQ
    have a0:(0:Int)≤(a:Int):=by omega
    have b0:(0:Int)≤(b:Int):=by omega
    have a1:(a:Int)+(i:Int)<(n:Int):=by omega
    have b1:(b:Int)+(i:Int)<(n:Int):=by omega
    have hne:a+i≠b+i:=by omega
    have t1:((a:Int)+(i:Int)).toNat=a+i:=by omega
    have t2:((b:Int)+(i:Int)).toNat=b+i:=by omega
    clear hsq hex HE
    go_wp2
    go_region
    all_goals (go_wp2;exact ⟨⟨i+1,by go_num,by omega,_,(HQ.out wr (Grown.refl _)).grown ((Grown.refl _).drew),HX.out⟩,by simp [intOf];omega⟩)
  · have hge:¬ (i:Int)<(k:Int):=by omega
    have hik:i=k:=by omega
    subst hik
    go_wp2
    go_end0
    exact ⟨rfl,HE.out⟩
set_option maxHeartbeats 4000000 in
theorem rotate_any {w0 w:World} {blk cap n:Nat} {d:List Int} (h:Sq w0 w blk cap n d) (a m b:Nat) (cv:Value) (ham:a<m) (hmb:m<b) (hb:b≤n) (hn:n≤1000000) :
 Calls Tryz.prog 124 #[.slice (some ⟨blk,0,none⟩) n cap,.int .i64 a,.int .i64 m,.int .i64 b,cv] w fun e w'=>e = .returned (.tuple #[])∧∃ d',Sq w0 w' blk cap n d'∧Rot d d' a m b:=by
 have HS:Hid (Sq w0 w blk cap n d):=h
 have hnI:(n:Int)≤1000000:=by omega
 have hdl:d.length=n:=h.l
 clear h
 go_enter Tryz.func124,Tryz.ntmps124
 go_wp2
 go_loopw [10,11] (fun v10 v11 wr=>∃ i j:Nat,v10 = .int .i64 i∧v11 = .int .i64 j∧Hid (∃ e,Sq w0 wr blk cap n e∧RotI d e a m b i j)) (fun v10 v11 _=>(intOf v10).toNat+(intOf v11).toNat)
 case atStart=>exact ⟨m - a,b - m,by rw [show (m:Int) - a=((m - a:Nat):Int) by omega],by rw [show (b:Int) - m=((b - m:Nat):Int) by omega],d,HS.out,rotI_start ham hmb⟩
 case round=>
  obtain ⟨i,j,rfl,rfl,HE⟩:=hrel
  obtain ⟨e,hsq,hR⟩:=HE.out
  have hi1:=hR.i1
  have hi2:=hR.i2
  have hj1:=hR.j1
  have hj2:=hR.j2
  have i0:(0:Int)≤(i:Int):=by omega
  have j0:(0:Int)≤(j:Int):=by omega
  have iI:(i:Int)≤(m:Int):=by omega
  have mI:(m:Int)≤1000000:=by omega
  have jI:(j:Int)≤1000000:=by omega
  have m0:(0:Int)≤(m:Int):=by omega
  by_cases hij:i=j
  · subst hij
    have HC:Hid (Calls Tryz.prog 137 #[.slice (some ⟨blk,0,none⟩) n cap,.int .i64 ((m:Int) - (i:Int)),.int .i64 m,.int .i64 i,cv] wr fun e' w'=>e' = .returned (.tuple #[])∧∃ d',Sq w0 w' blk cap n d'∧Ex e d' (m - i) m i):=by
     rw [show (m:Int) - (i:Int)=((m - i:Nat):Int) by omega]
     exact swapRange_any hsq (m - i) m i cv (by omega) (by omega) hn
    have HR:=Hid.mk' hR
    clear hsq hR HE
    go_wp2_with (go_at_call 137;refine HC.out.mono ?_;rintro e' w1 ⟨rfl,f,hs1,hx1⟩;have H1:Hid (Sq w0 w1 blk cap n f∧Rot d f a m b):=⟨hs1,HR.out.done hx1⟩;clear hs1 hx1)
    go_end0
    exact ⟨rfl,f,H1.out⟩
  · have hne:(i:Int)≠(j:Int):=by omega
    have hneb:((i:Int) != (j:Int))=true:=by simpa using hne
    by_cases hgt:j<i
    · have hgtI:(j:Int)<(i:Int):=by omega
      have HC:Hid (Calls Tryz.prog 137 #[.slice (some ⟨blk,0,none⟩) n cap,.int .i64 ((m:Int) - (i:Int)),.int .i64 m,.int .i64 j,cv] wr fun e' w'=>e' = .returned (.tuple #[])∧∃ d',Sq w0 w' blk cap n d'∧Ex e d' (m - i) m j):=by
       rw [show (m:Int) - (i:Int)=((m - i:Nat):Int) by omega]
       exact swapRange_any hsq (m - i) m j cv (by omega) (by omega) hn
      have HR:=Hid.mk' hR
      clear hsq hR HE
      go_wp2_with (go_at_call 137;refine HC.out.mono ?_;rintro e' w1 ⟨rfl,f,hs1,hx1⟩;have H1:Hid (Sq w0 w1 blk cap n f∧RotI d f a m b (i - j) j):=⟨hs1,HR.out.left (by omega) hgt hx1⟩;clear hs1 hx1)
      exact ⟨⟨i - j,j,by rw [show (i:Int) - j=((i - j:Nat):Int) by omega],rfl,f,H1.out⟩,by simp [intOf];omega⟩
    · have hgtI:¬ (j:Int)<(i:Int):=by omega
      have HC:Hid (Calls Tryz.prog 137 #[.slice (some ⟨blk,0,none⟩) n cap,.int .i64 ((m:Int) - (i:Int)),.int .i64 ((m:Int)+(j:Int) - (i:Int)),.int .i64 i,cv] wr fun e' w'=>e' = .returned (.tuple #[])∧∃ d',Sq w0 w' blk cap n d'∧Ex e d' (m - i) (m+j - i) i):=by
       rw [show (m:Int) - (i:Int)=((m - i:Nat):Int) by omega,show (m:Int)+(j:Int) - (i:Int)=((m+j - i:Nat):Int) by omega]
       exact swapRange_any hsq (m - i) (m+j - i) i cv (by omega) (by omega) hn
      have HR:=Hid.mk' hR
      clear hsq hR HE
      go_wp2_with (go_at_call 137;refine HC.out.mono ?_;rintro e' w1 ⟨rfl,f,hs1,hx1⟩;have H1:Hid (Sq w0 w1 blk cap n f∧RotI d f a m b i (j - i)):=⟨hs1,HR.out.right (by omega) (by omega) hx1⟩;clear hs1 hx1)
      exact ⟨⟨i,j - i,rfl,by rw [show (j:Int) - i=((j - i:Nat):Int) by omega],f,H1.out⟩,by simp [intOf];omega⟩
def CmpC (w0:World) (blk n:Nat) (key:Int→Int) (bx:Nat):Prop:=∀ W,Fr w0 W (fun b=>b=blk)→∀ x y:Int,0≤x→x<n→0≤y→y<n→Calls Tryz.prog 71 #[.int .i64 x,.int .i64 y,.pointer (some ⟨bx,0,none⟩)] W fun e w'=>e = .returned (.int .i64 (key y - key x))∧Grown W w'
set_option maxHeartbeats 8000000 in
theorem insertion_any {w0 w:World} {blk cap n:Nat} {d:List Int} {key:Int→Int} {bx:Nat} (h:Sq w0 w blk cap n d) (hc:CmpC w0 blk n key bx) (hkey:∀ x,0≤key x∧key x≤1000000) (a b:Nat) (hab:a≤b) (hb:b≤n) (hn:n≤1000000) (hx:∀ i j,a≤i→i<j→j<b→bAt d i<bAt d j) :
 Calls Tryz.prog 111 #[.slice (some ⟨blk,0,none⟩) n cap,.int .i64 a,.int .i64 b,.func (.func 71) #[] #[.pointer (some ⟨bx,0,none⟩)]] w fun e w'=>e = .returned (.tuple #[])∧∃ d',Sq w0 w' blk cap n d'∧Mix d d' a b∧SS key d' a b:=by
 have HS:Hid (Sq w0 w blk cap n d):=h
 have HC:=Hid.mk' hc
 have HK:=Hid.mk' hkey
 have HX:=Hid.mk' hx
 have hnI:(n:Int)≤1000000:=by omega
 have hdl:d.length=n:=h.l
 have a0:(0:Int)≤(a:Int):=by omega
 have bI:(b:Int)≤(n:Int):=by omega
 clear h hc hkey hx
 go_enter Tryz.func111,Tryz.ntmps111
 go_wp2
 go_loopw [8] (fun vi wr=>∃ i:Nat,vi = .int .i64 ((i:Int)+1)∧a≤i∧(i<b∨i=a)∧Hid (∃ e,Sq w0 wr blk cap n e∧Mix d e a (min (i+1) b)∧SS key e a (min (i+1) b))) (fun vi _=>b+1 - (intOf vi).toNat)
 case atStart=>exact ⟨a,rfl,Nat.le_refl _,.inr rfl,d,HS.out,Mix.refl _ _ _,fun i j h1 h2 h3=>by omega⟩
 case round=>
  obtain ⟨i,rfl,hai,hib,HE⟩:=hrel
  have hi0:(0:Int)≤(i:Int):=by omega
  by_cases hlt:i+1<b
  · have hltI:(i:Int)+1<(b:Int):=by omega
    have HE1:Hid (∃ e,Sq w0 wr blk cap n e∧Mix d e a (i+1)∧SS key e a (i+1)):=by
     have:=HE.out
     rw [show min (i+1) b=i+1 by omega] at this
     exact this
    obtain ⟨e,hsq,hmix,hss⟩:=HE1.out
    have HM:=Hid.mk' hmix
    have HSS:=Hid.mk' hss
    have HQ:=Hid.mk' hsq
    clear HE HE1 hsq hmix hss
    go_wp2
    go_loopw [9] (fun vj wr=>∃ j:Nat,vj = .int .i64 j∧a≤j∧j≤i+1∧Hid (∃ f,Sq w0 wr blk cap n f∧MvL e f (i+1) j∧∀ t,j≤t→t<i+1→lt key (bAt e (i+1)) (bAt e t))) (fun vj _=>(intOf vj).toNat)
    case atStart=>exact ⟨i+1,by go_num,by omega,Nat.le_refl _,e,HQ.out,MvL.zero _ _,fun t h1 h2=>by omega⟩
    case round=>
     obtain ⟨j,rfl,haj,hji,HF⟩:=hrel
     have hj0:(0:Int)≤(j:Int):=by omega
     obtain ⟨f,hsq,hmv,hlt2⟩:=HF.out
     by_cases hja:a<j
     · have hjaI:(a:Int)<(j:Int):=by omega
       have hjad:decide ((a:Int)<(j:Int))=true:=by simpa using hjaI
       have c1:=hsq.cell (j:=j) (by omega)
       have c2:=hsq.cell (j:=j - 1) (by omega)
       have r1:=hsq.r j (by omega)
       have r2:=hsq.r (j - 1) (by omega)
       have hfz:=hsq.frozen
       have e1:bAt f j=bAt e (i+1):=hmv.y
       have e2:bAt f (j - 1)=bAt e (j - 1):=hmv.z (j - 1) (by omega)
       have HC1:Hid (∀ m os,Calls Tryz.prog 71 #[.int .i64 (bAt f j),.int .i64 (bAt f (j - 1)),.pointer (some ⟨bx,0,none⟩)] (Go.Sort.grow (wr.drewN m) os) fun e w'=>e = .returned (.int .i64 (key (bAt f (j - 1)) - key (bAt f j)))∧Grown (Go.Sort.grow (wr.drewN m) os) w'):=fun m os=>HC.out _ ((hsq.grown ((Grown.refl wr).quiet m os)).f) _ _ r1.1 r1.2 r2.1 r2.2
       have t1:((j:Int) - 1).toNat=j - 1:=by omega
       have k1:=fun m os=>((Grown.refl wr).quiet m os).cellv c1
       have k2:=fun m os=>((Grown.refl wr).quiet m os).cellv c2
       have hK1:=HK.out (bAt f j)
       have hK2:=HK.out (bAt f (j - 1))
       have hpos:=hj0
       obtain ⟨D,hD⟩:∃ D,key (bAt f (j - 1)) - key (bAt f j)=D:=⟨_,rfl⟩
       rw [hD] at HC1
       by_cases hcl:key (bAt f (j - 1))<key (bAt f j)
       · have hDl:D<0:=by omega
         have hDd:decide (D<0)=true:=by simpa using hDl
         have HSW:Hid (∀ V,Grown wr V→Sq w0 ((V.setCell ⟨blk,j,none⟩ (.int .i64 (bAt f (j - 1)))).setCell ⟨blk,j - 1,none⟩ (.int .i64 (bAt f j))) blk cap n (swp f j (j - 1))):=fun V hg=>(hsq.grown hg).swap (by omega) (by omega)
         have HNX:Hid (MvL e (swp f j (j - 1)) (i+1) (j - 1)∧∀ t,j - 1≤t→t<i+1→lt key (bAt e (i+1)) (bAt e t)):=by
          have hel:e.length=n:=HQ.out.l
          refine ⟨?_,fun t h1 h2 => ?_⟩
          · have:=MvL.succ (k:=j - 1) (by rw [show j - 1+1=j by omega];exact hmv) (by omega) (by omega)
            rw [show j - 1+1=j by omega] at this
            exact this
          · by_cases ht:t=j - 1
            · subst ht;rw [←e1,←e2];exact lt_clt hcl
            · exact hlt2 t (by omega) h2
         have HFZ:Hid (∀ V,Grown wr V→∀ j,V.frozen? ⟨blk,j,none⟩=false):=fun V hg j=>(hsq.grown hg).frozen j
         generalize bAt f j=x at *
         generalize bAt f (j - 1)=y at *
         clear hsq hmv hlt2 HF hcl hK1 hK2 hD e1 e2 r1 r2
         go_wp2
         refine wp_region_quiet_grown mixed (by kernel_rfl) ?_
         repeat (go_big_quiet_step ((go_at_call 71;exact grown_of (HC1.out _ _))))
         refine wpQuiet_nil ?_
         intro _ hw'
         obtain ⟨⟨nq,osq⟩,hw''⟩:=hw'
         subst hw''
         have g1:=k1 nq osq
         have g2:=k2 nq osq
         have gG:Grown wr (Go.Sort.grow (wr.drewN nq) osq):=(Grown.refl wr).quiet nq osq
         have HS2:=Hid.mk' (fun V (hg:Grown (Go.Sort.grow (wr.drewN nq) osq) V)=>HSW.out V (gG.trans hg))
         have gf:∀ j,(Go.Sort.grow (wr.drewN nq) osq).frozen? ⟨blk,j,none⟩=false:=fun j=>HFZ.out _ gG j
         generalize Go.Sort.grow (wr.drewN nq) osq=wB at g1 g2 HS2 gf ⊢
         clear k1 k2 HC1 c1 c2 hfz HSW gG
         go_wp2
         go_region
         all_goals (go_wp2;exact ⟨⟨j - 1,by rw [show (j:Int) - 1=((j - 1:Nat):Int) by omega],by omega,by omega,_,(HS2.out wB (Grown.refl _)).grown ((Grown.refl _).drew),HNX.out.1,HNX.out.2⟩,by simp [intOf];omega⟩)
       · have HFIN:Hid (∀ V,Grown wr V→∃ e',Sq w0 V blk cap n e'∧Mix d e' a (min (i+1+1) b)∧SS key e' a (min (i+1+1) b)):=fun V hg=>by
          have hdn:=hmv.done (key:=key) haj hji HSS.out (.inr (lt_not (by
           obtain ⟨t,p1,p2,p3⟩:=(HM.out.s (bAt e (j - 1))).1 ⟨j - 1,by omega,by omega,rfl⟩
           rw [←p3,HM.out.o (i+1) (by omega)]
           exact HX.out t (i+1) p1 p2 hlt) (by rw [←e1,←e2];exact hcl))) (if hjx:j=i+1 then .inl hjx else .inr (hlt2 j (Nat.le_refl _) (by omega)))
          rw [show min (i+1+1) b=i+1+1 by omega]
          exact ⟨f,hsq.grown hg,(HM.out.wide (Nat.le_refl _) (by omega)).trans hdn.1,hdn.2⟩
         have hDl:¬ D<0:=by omega
         have hDd:decide (D<0)=false:=by simpa using hDl
         generalize bAt f j=x at *
         generalize bAt f (j - 1)=y at *
         clear hsq hmv hlt2 HF hcl hK1 hK2 hD e1 e2 r1 r2 hfz
         go_wp2
         refine wp_region_quiet_grown mixed (by kernel_rfl) ?_
         repeat (go_big_quiet_step ((go_at_call 71;exact grown_of (HC1.out _ _))))
         refine wpQuiet_nil ?_
         intro _ hw'
         obtain ⟨⟨nq,osq⟩,hw''⟩:=hw'
         subst hw''
         go_wp2
         exact ⟨⟨i+1,by go_num,by omega,.inl (by omega),HFIN.out _ ((Grown.refl wr).quiet _ _)⟩,by simp [intOf];omega⟩
     · have HFIN:Hid (∀ V,Grown wr V→∃ e',Sq w0 V blk cap n e'∧Mix d e' a (min (i+1+1) b)∧SS key e' a (min (i+1+1) b)):=fun V hg=>by
        have hdn:=hmv.done (key:=key) haj hji HSS.out (.inl (by omega)) (if hjx:j=i+1 then .inl hjx else .inr (hlt2 j (Nat.le_refl _) (by omega)))
        rw [show min (i+1+1) b=i+1+1 by omega]
        exact ⟨f,hsq.grown hg,(HM.out.wide (Nat.le_refl _) (by omega)).trans hdn.1,hdn.2⟩
       have hjaI:¬ (a:Int)<(j:Int):=by omega
       have hjad:decide ((a:Int)<(j:Int))=false:=by simpa using hjaI
       clear hsq hmv hlt2 HF
       go_wp2
       refine wp_region_quiet_grown mixed (by kernel_rfl) ?_
       repeat (go_big_quiet_step (fail))
       refine wpQuiet_nil ?_
       intro _ hw'
       obtain ⟨⟨nq,osq⟩,hw''⟩:=hw'
       subst hw''
       go_wp2
       exact ⟨⟨i+1,by go_num,by omega,.inl (by omega),HFIN.out _ ((Grown.refl wr).quiet _ _)⟩,by simp [intOf];omega⟩
  · have hge:¬ (i:Int)+1<(b:Int):=by omega
    have HE2:Hid (∃ e,Sq w0 wr blk cap n e∧Mix d e a b∧SS key e a b):=by
     have:=HE.out
     rw [show min (i+1) b=b by omega] at this
     exact this
    go_wp2
    go_end0
    exact ⟨rfl,HE2.out⟩
end Go.Proofs
