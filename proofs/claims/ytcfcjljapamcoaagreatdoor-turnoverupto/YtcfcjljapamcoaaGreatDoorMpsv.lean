/-
  Several texts in one (Yrv Ysv).
-/
import Derived.Test.YtcfcjljapamcoaaGreatDoorMpmv
import Derived.Test.YtcfcjljapamcoaaGreatDoorMppv
namespace Go.Proofs
open Go.RowKit Go.Shelf
set_option maxRecDepth 100000
attribute [local go_sem] Oper.semAt_some
def NoM (a b:List (Int × Int)) (i k:Nat):Prop:=∀ i' k',i'<a.length→k'<b.length→(i'<i∨k'<k)→¬ ((rg a i').1≤(rg b k').2∧(rg b k').1≤(rg a i').2)
theorem metB_at {a b:List (Int × Int)} {i k:Nat} (hi:i<a.length) (hk:k<b.length) (h:(rg a i).1≤(rg b k).2∧(rg b k).1≤(rg a i).2):metB a b=true:=by
 rw [rg_lt hi,rg_lt hk] at h
 exact List.any_eq_true.2 ⟨_,List.getElem_mem hk,List.any_eq_true.2 ⟨_,List.getElem_mem hi,by simp;exact h⟩⟩
theorem NoM.end {a b:List (Int × Int)} {i k:Nat} (h:NoM a b i k) (he:a.length≤i∨b.length≤k):metB a b=false:=by
 cases hm:metB a b with
 | false=>rfl
 | true=>
  exfalso
  obtain ⟨y,hy,h1⟩:=List.any_eq_true.1 hm
  obtain ⟨x,hx,h2⟩:=List.any_eq_true.1 h1
  obtain ⟨i',hi,rfl⟩:=List.mem_iff_getElem.1 hx
  obtain ⟨k',hk,rfl⟩:=List.mem_iff_getElem.1 hy
  refine h i' k' hi hk (by omega) ?_
  rw [rg_lt hi,rg_lt hk]
  simpa using h2
theorem NoM.left {a b:List (Int × Int)} {i k:Nat} (h:NoM a b i k) (hb:Up b) (h1:(rg a i).2<(rg b k).1):NoM a b (i+1) k:=fun i' k' hi hk ho=>by
 by_cases h2:i'<i∨k'<k
 · exact h i' k' hi hk h2
 · have h3:i'=i:=by omega
   subst h3
   rintro ⟨h4,h5⟩
   by_cases h6:k'=k
   · subst h6;omega
   · have:=up_rise hb (show k<k' by omega) hk
     have:=up_at hb (show k<b.length by omega)
     omega
theorem NoM.right {a b:List (Int × Int)} {i k:Nat} (h:NoM a b i k) (ha:Up a) (h1:(rg b k).2<(rg a i).1):NoM a b i (k+1):=fun i' k' hi hk ho=>by
 by_cases h2:i'<i∨k'<k
 · exact h i' k' hi hk h2
 · have h3:k'=k:=by omega
   subst h3
   rintro ⟨h4,h5⟩
   by_cases h6:i'=i
   · subst h6;omega
   · have:=up_rise ha (show i<i' by omega) hi
     have:=up_at ha (show i<a.length by omega)
     omega
theorem drewN_below {w W:World} (h:Below w.heap.size w W) (q:Nat):Below w.heap.size w (W.drewN q):=h.trans ((show Below W.heap.size W (W.drewN q) from ⟨rfl,rfl,rfl,Nat.le_refl _,fun _ _=>rfl⟩).mono h.size)
set_option maxHeartbeats 8000000 in
theorem rmeetT_any (w:World) (av bv:Value) (a b:List (Int × Int)) (ha:Rs w av a) (hb:Rs w bv b) (hau:Up a) (hbu:Up b) (hal:a.length≤10000000) (hbl:b.length≤10000000) :
 Calls Tryz.prog 104 #[av,bv] w fun e w'=>e = .returned (.bool (metB a b))∧Below w.heap.size w w':=by
 obtain ⟨A,c,rfl,_,har⟩:=ha
 obtain ⟨B,d,rfl,_,hbr⟩:=hb
 obtain ⟨n,hn⟩:∃ n,a.length=n:=⟨_,rfl⟩
 obtain ⟨m,hm⟩:∃ m,b.length=m:=⟨_,rfl⟩
 obtain ⟨M,hM⟩:∃ M,metB a b=M:=⟨_,rfl⟩
 have H:Hid (a.length=n∧b.length=m∧Up a∧Up b∧(a=[]∨∃ g o,A=some ⟨g,o,none⟩∧Reads w g o a)∧(b=[]∨∃ g o,B=some ⟨g,o,none⟩∧Reads w g o b)∧metB a b=M):=⟨hn,hm,hau,hbu,har,hbr,hM⟩
 rw [hn] at hal ⊢
 rw [hm] at hbl ⊢
 rw [hM]
 clear hau hbu har hbr hM hn hm
 go_enter Tryz.func104,Tryz.ntmps104
 go_wp2
 go_loopw [5,6] (fun v5 v6 wr=>∃ i k:Nat,v5 = .int .i64 i∧v6 = .int .i64 k∧i≤n∧k≤m∧Hid (Below w.heap.size w wr∧NoM a b i k)) (fun v5 v6 _=>(n - (intOf v5).toNat)+(m - (intOf v6).toNat))
 case atStart=>exact ⟨0,0,rfl,rfl,by omega,by omega,Below.refl _ _,fun i' k' _ _ h=>by omega⟩
 case round=>
  obtain ⟨i,k,rfl,rfl,hi,hk,HB⟩:=hrel
  by_cases h1:i<n
  · have i1:(i:Int)<(n:Int):=by omega
    have i0:(0:Int)≤(i:Int):=by omega
    by_cases h2:k<m
    · have k1:(k:Int)<(m:Int):=by omega
      have k0:(0:Int)≤(k:Int):=by omega
      have hil:i<a.length:=by rw [H.out.1];exact h1
      have hkl:k<b.length:=by rw [H.out.2.1];exact h2
      obtain ⟨g,o,rfl,hr⟩:=H.out.2.2.2.2.1.resolve_left (by rintro rfl;simp at hil)
      obtain ⟨g2,o2,rfl,hr2⟩:=H.out.2.2.2.2.2.1.resolve_left (by rintro rfl;simp at hkl)
      obtain ⟨p,q,hpq⟩:∃ p q:Int,rg a i=(p,q):=⟨_,_,rfl⟩
      obtain ⟨s,t,hst⟩:∃ s t:Int,rg b k=(s,t):=⟨_,_,rfl⟩
      obtain ⟨ca,cb⟩:=hr i hil
      obtain ⟨cc,cd⟩:=hr2 k hkl
      rw [hpq] at ca cb
      rw [hst] at cc cd
      simp only at ca cb cc cd
      have ca:=cell_below ca HB.out.1 (Nat.le_refl _)
      have cb:=cell_below cb HB.out.1 (Nat.le_refl _)
      have cc:=cell_below cc HB.out.1 (Nat.le_refl _)
      have cd:=cell_below cd HB.out.1 (Nat.le_refl _)
      have HP:Hid (rg a i=(p,q)∧rg b k=(s,t)∧i<a.length∧k<b.length):=⟨hpq,hst,hil,hkl⟩
      clear hr hr2 hpq hst hil hkl
      by_cases h3:q<s
      · have d3:decide (q<s)=true:=by simpa using h3
        have HF:Hid (NoM a b (i+1) k):=HB.out.2.left H.out.2.2.2.1 (by rw [HP.out.1,HP.out.2.1];exact h3)
        have HBB:Hid (Below w.heap.size w wr):=HB.out.1
        clear HB HP
        go_wp2_with fail
        go_quiet (fail)
        go_wp2
        exact ⟨⟨i+1,k,by go_num,rfl,by omega,by omega,drewN_below HBB.out _,HF.out⟩,by simp [intOf];omega⟩
      · have d3:decide (q<s)=false:=by simpa using h3
        by_cases h4:t<p
        · have d4:decide (t<p)=true:=by simpa using h4
          have HF:Hid (NoM a b i (k+1)):=HB.out.2.right H.out.2.2.1 (by rw [HP.out.1,HP.out.2.1];exact h4)
          have HBB:Hid (Below w.heap.size w wr):=HB.out.1
          clear HB HP
          go_wp2_with fail
          go_quiet (fail)
          go_wp2_with fail
          revert nq;intro nq1
          go_quiet (fail)
          go_wp2
          exact ⟨⟨i,k+1,rfl,by go_num,by omega,by omega,(by first | exact drewN_below HBB.out _ | exact drewN_below (drewN_below HBB.out _) _),HF.out⟩,by simp [intOf];omega⟩
        · have d4:decide (t<p)=false:=by simpa using h4
          have HF:Hid (M=true):=by
           show M=true
           rw [←H.out.2.2.2.2.2.2]
           exact metB_at HP.out.2.2.1 HP.out.2.2.2 (by rw [HP.out.1,HP.out.2.1];exact ⟨by simp;omega,by simp;omega⟩)
          have HBB:Hid (Below w.heap.size w wr):=HB.out.1
          clear HB HP
          go_wp2_with fail
          go_quiet (fail)
          go_wp2_with fail
          revert nq;intro nq1
          go_quiet (fail)
          go_wp2
          go_ret
          exact ⟨by rw [HF.out];rfl,(by first | exact drewN_below HBB.out _ | exact drewN_below (drewN_below HBB.out _) _)⟩
    · have k1:¬ (k:Int)<(m:Int):=by omega
      have dk:decide ((k:Int)<(m:Int))=false:=by simpa using k1
      have HF:Hid (M=false∧Below w.heap.size w wr):=⟨by rw [←H.out.2.2.2.2.2.2];exact HB.out.2.end (by have:=H.out.2.1;omega),HB.out.1⟩
      clear HB
      go_wp2
      go_ret
      exact ⟨by rw [HF.out.1];rfl,HF.out.2⟩
  · have i1:¬ (i:Int)<(n:Int):=by omega
    have di:decide ((i:Int)<(n:Int))=false:=by simpa using i1
    have HF:Hid (M=false∧Below w.heap.size w wr):=⟨by rw [←H.out.2.2.2.2.2.2];exact HB.out.2.end (by have:=H.out.1;omega),HB.out.1⟩
    clear HB
    go_wp2
    go_ret
    exact ⟨by rw [HF.out.1];rfl,HF.out.2⟩
end Go.Proofs
namespace Go.Proofs
open Go.RowKit Go.Shelf
set_option maxRecDepth 100000
attribute [local go_sem] Oper.semAt_some
set_option maxHeartbeats 4000000 in
theorem rsingle_any (v:Value) (l:List (Int × Int)) (w:World) (h:Rs w v l):Calls Tryz.prog 76 #[v] w fun e w'=>e = .returned (.bool (decide (lenU l=1)))∧Grown w w':=by
 have HC:Hid (Calls Tryz.prog 108 #[v] w fun e w'=>e = .returned (.int .i64 (lenU l))∧Grown w w'):=rlen_any v l w h
 obtain ⟨n,hn⟩:∃ n,lenU l=n:=⟨_,rfl⟩
 rw [hn] at HC ⊢
 obtain ⟨a,m,c,rfl⟩:=h.sl
 clear h hn
 go_enter Tryz.func76,Tryz.ntmps76
 go_wp2_with fail
 refine HC.out.mono ?_
 rintro e w1 ⟨rfl,hg⟩
 have HG:Hid (Grown w w1):=hg
 clear hg HC
 go_wp2
 go_ret
 exact ⟨by congr 1,HG.out⟩
set_option maxHeartbeats 8000000 in
theorem rspeaks_any (r:Rl) (av kv pv rv:Value) (y:Int) (w:World) (h:RR w av kv pv rv r) (hn:r.res.length≤16) :
 Calls Tryz.prog 77 #[.agg #[.bool r.bg,av,kv,pv,.bool r.en,rv,.int .i64 r.cu],.int .i64 y] w fun e w'=>e = .returned (.tuple #[.int .i64 ((spk r y r.res.length).getLastD (-1)),.int .i64 (spk r y r.res.length).length])∧Below w.heap.size w w':=by
 obtain ⟨aa,an,ac,rfl⟩:=h.a.sl
 obtain ⟨ka,kn,kc,rfl⟩:=h.k.sl
 obtain ⟨pa,pn,pc,rfl⟩:=h.p.sl
 obtain ⟨ra,rc,rfl,hrc,hrr⟩:=h.r
 obtain ⟨n,hnn⟩:∃ n,r.res.length=n:=⟨_,rfl⟩
 have H:Hid (r.res.length=n∧(r.res=[]∨∃ g o,ra=some ⟨g,o,none⟩∧PRd w g o r.res)):=⟨hnn,hrr⟩
 rw [hnn] at hn ⊢
 obtain ⟨W1,hW1⟩:∃ W1,w.alloc (.cells #[.bool r.bg,.slice aa an ac,.slice ka kn kc,.slice pa pn pc,.bool r.en,.slice ra n rc,.int .i64 r.cu] 60)=W1:=⟨_,rfl⟩
 have HW:Hid (Below w.heap.size w W1):=by show Below _ _ _;rw [←hW1];exact (Below.refl _ w).alloc (Nat.le_refl _) _
 have hbk:W1.heap[w.heap.size]? = some (.cells #[.bool r.bg,.slice aa an ac,.slice ka kn kc,.slice pa pn pc,.bool r.en,.slice ra n rc,.int .i64 r.cu] 60 (0,0)):=by rw [←hW1];exact World.alloc_heap_new _ _
 have hlt1:=(Array.getElem?_eq_some_iff.1 hbk).1
 have HX:Hid (∀ W,Below W1.heap.size W1 W→W.cell? ⟨w.heap.size,5,none⟩=some (.slice ra n rc)):=fun W hb=>by
  rw [cell_of ((hb.block _ hlt1).trans hbk)]
  rfl
 obtain ⟨zl,hzl⟩:∃ zl,(spk r y n).getLastD (-1)=zl:=⟨_,rfl⟩
 obtain ⟨zn,hzn⟩:∃ zn,(spk r y n).length=zn:=⟨_,rfl⟩
 have HZ:Hid ((spk r y n).getLastD (-1)=zl∧(spk r y n).length=zn):=⟨hzl,hzn⟩
 rw [hzl,hzn]
 clear h hnn hrc hrr hbk hlt1 hzl hzn
 go_enter Tryz.func77,Tryz.ntmps77
 go_wp2
 go_loopw [6,7,8] (fun va vm vi wr=>∃ (k:Nat) (x:Int) (m:Nat),vi = .int .i64 k∧va = .int .i64 x∧vm = .int .i64 m∧k≤n∧m≤k∧Hid ((spk r y k).getLastD (-1)=x∧(spk r y k).length=m∧Below W1.heap.size W1 wr)) (fun _ _ vi _=>n - (intOf vi).toNat)
 case atStart=>exact ⟨0,-1,0,rfl,rfl,rfl,by omega,by omega,rfl,rfl,Below.refl _ _⟩
 case round=>
  obtain ⟨k,x,m,rfl,rfl,rfl,hk,hmk,HB⟩:=hrel
  obtain ⟨wo,hwo⟩:∃ x,x=wr:=⟨_,rfl⟩
  subst hwo
  have x5:=HX.out wo HB.out.2.2
  by_cases hlt:k<n
  · have hlt':(k:Int)<(n:Int):=by omega
    have hpos:(0:Int)≤(k:Int):=by omega
    have hkl:k<r.res.length:=by rw [H.out.1];exact hlt
    obtain ⟨g,o,rfl,hP⟩:=H.out.2.resolve_left (by intro e;rw [e] at hkl;simp at hkl)
    obtain ⟨tv,p0,p1,p2,p3,hT⟩:=hP k hkl
    have hsp:=spk_succ r y (List.getElem?_eq_getElem hkl)
    obtain ⟨P,hPe⟩:∃ P,r.res[k]'hkl=P:=⟨_,rfl⟩
    rw [hPe] at p0 p1 p2 hT hsp
    have hbw:=HW.out.trans (HB.out.2.2.mono HW.out.size)
    have p0:=cell_below p0 hbw (Nat.le_refl _)
    have p1:=cell_below p1 hbw (Nat.le_refl _)
    have p2:=cell_below p2 hbw (Nat.le_refl _)
    have p3:=cell_below p3 hbw (Nat.le_refl _)
    obtain ⟨pk,pu,py,ptl⟩:=P
    simp only at p0 p1 p2 hT hsp
    obtain ⟨ta,tn,tc,rfl⟩:=hT.sl
    have HS:Hid (spk r y (k+1)=if pk≠1∧py=y then spk r y k++[(k:Int)] else spk r y k):=hsp
    have hb2:Below W1.heap.size W1 (wo.alloc (.cells #[.int .i64 pk,.int .i64 pu,.int .i64 py,.slice ta tn tc] 64)):=HB.out.2.2.alloc HB.out.2.2.size _
    clear hPe hP hT hsp hbw hkl
    by_cases hc:pk≠1∧py=y
    · have HF:Hid ((spk r y (k+1)).getLastD (-1)=k∧(spk r y (k+1)).length=m+1∧Below W1.heap.size W1 (wo.alloc (.cells #[.int .i64 pk,.int .i64 pu,.int .i64 py,.slice ta tn tc] 64))):=⟨by rw [HS.out,if_pos hc];simp,by rw [HS.out,if_pos hc,List.length_append,HB.out.2.1];rfl,hb2⟩
      have d1:(pk != 1)=true:=by simpa using hc.1
      obtain ⟨hc1,hc2⟩:=hc
      clear hb2 HS HB
      subst hc2
      have d2:(py == py)=true:=by simp
      go_wp2
      exact ⟨⟨k+1,k,m+1,by go_num,rfl,by go_num,by omega,by omega,HF⟩,by simp [intOf];omega⟩
    · have HF:Hid ((spk r y (k+1)).getLastD (-1)=x∧(spk r y (k+1)).length=m∧Below W1.heap.size W1 (wo.alloc (.cells #[.int .i64 pk,.int .i64 pu,.int .i64 py,.slice ta tn tc] 64))):=⟨by rw [HS.out,if_neg hc];exact HB.out.1,by rw [HS.out,if_neg hc];exact HB.out.2.1,hb2⟩
      clear hb2 HS HB
      by_cases h1:pk=1
      · subst h1
        clear hc
        go_wp2
        exact ⟨⟨k+1,x,m,by go_num,rfl,rfl,by omega,by omega,HF⟩,by simp [intOf];omega⟩
      · have d1:(pk != 1)=true:=by simpa using h1
        have d2:(py == y)=false:=by
         have:¬ py=y:=fun e=>hc ⟨h1,e⟩
         simpa using this
        clear hc
        go_wp2
        exact ⟨⟨k+1,x,m,by go_num,rfl,rfl,by omega,by omega,HF⟩,by simp [intOf];omega⟩
  · have HF:Hid (zl=x∧zn=m∧Below w.heap.size w wo):=by
     have h1:=HB.out
     rw [show k=n by omega,HZ.out.1,HZ.out.2] at h1
     exact ⟨h1.1,h1.2.1,HW.out.trans (h1.2.2.mono HW.out.size)⟩
    have hge:¬ (k:Int)<(n:Int):=by omega
    clear HB
    go_wp2
    go_ret2
    exact ⟨by rw [HF.out.1,HF.out.2.1];rfl,HF.out.2.2⟩
end Go.Proofs
