/-
  Several texts in one (Za Zb Zc).
-/
import Derived.RangeFuncNested
import Derived.RangeFuncBound
import Derived.RangeFuncCalls
import Derived.RangeFuncLeaves
import Derived.Shelf.Abstract
import Derived.Shelf.RegionOpen
import Derived.WalkKit
import Derived.WalkSpells
import Derived.WalkLawsBesides
import Derived.OwnWalkIn
import Derived.TacticsInMore
import Derived.LoopNIn
import Derived.LoopIn
import Derived.BigQuiet
import Derived.RegionIn
import Derived.Deep.QuietTactic
import Derived.Deep.RegionWith
import Derived.Lib.OthersKept
import Derived.Maps.AppendAt
import Derived.Lib.SmallJoins
import Derived.Shelf.SlSortCmp.QuietGrown
import Derived.Test.YtcfcjljapamcoabGreatDoorMpmr
namespace Go.Proofs
open Go.RowKit Go.Shelf
set_option maxRecDepth 100000
attribute [local go_sem] Oper.semAt_some
attribute [local go_sem ↓] Go.wp_at_zero Go.wp_at_succ
theorem neq_R (a b c d:Int) (W:World):(binOp .neq 55 (.agg #[.int .i64 a,.int .i64 b]) (.agg #[.int .i64 c,.int .i64 d])).run Tryz.prog W = .ok (.bool (!decide ((a,b)=(c,d)))) W:=by
 go_simp
 by_cases h1:a=c
 · by_cases h2:b=d <;> simp [h1,h2]
 · simp [h1]
set_option maxHeartbeats 1000000 in
theorem eq80_lens (A B:Option Addr) (n c m d:Nat) (w:World) (h:n≠m):Calls Tryz.prog 161 #[.slice A n c,.slice B m d] w fun e w'=>e = .returned (.bool false)∧Grown w w':=by
 have e1:((n:Int) != (m:Int))=true:=by rw [bne_iff_ne];omega
 go_enter Tryz.func161,Tryz.ntmps161
 go_wp2
 go_ret
 exact ⟨rfl,Grown.refl _⟩
set_option maxHeartbeats 2000000 in
theorem eq80_walk (A B:Option Addr) (c d:Nat) (a b:List (Int × Int)) (w:World) (h1:a=[]∨∃ g o,A=some ⟨g,o,none⟩∧Reads w g o a) (h2:b=[]∨∃ g o,B=some ⟨g,o,none⟩∧Reads w g o b) (hl:b.length=a.length) (hn:a.length≤1152921504606846976) :
 Calls Tryz.prog 161 #[.slice A a.length c,.slice B a.length d] w fun e w'=>e = .returned (.bool (decide (a=b)))∧Grown w w':=by
 obtain ⟨n,hnn⟩:∃ n,a.length=n:=⟨_,rfl⟩
 have HA:Hid (a.length=n):=hnn
 have HB:Hid (b.length=n):=by rw [hnn] at hl;exact hl
 rw [hnn] at hn ⊢
 obtain ⟨r,hr⟩:∃ r:Bool,decide (a=b)=r:=⟨_,rfl⟩
 have HR:Hid (decide (a=b)=r):=hr
 have H1:Hid (a=[]∨∃ g o,A=some ⟨g,o,none⟩∧Reads w g o a):=h1
 have H2:Hid (b=[]∨∃ g o,B=some ⟨g,o,none⟩∧Reads w g o b):=h2
 rw [hr]
 clear hr hl h1 h2 hnn
 go_enter Tryz.func161,Tryz.ntmps161
 go_wp2
 go_loopw [13] (fun vi wr=>∃ k:Nat,vi = .int .i64 k∧k≤n∧Hid (∀ j,j<k→rg a j=rg b j)∧Grown w wr) (fun vi _=>n - (intOf vi).toNat)
 case atStart=>exact ⟨0,rfl,by omega,fun j hj=>by omega,Grown.refl _⟩
 case round=>
  obtain ⟨k,rfl,hk,hT,hG⟩:=hrel
  by_cases hlt:k<n
  · as_aux_lemma=>
     have hlt':(k:Int)<(n:Int):=by omega
     have hpos:(0:Int)≤(k:Int):=by omega
     have hka:k<a.length:=by rw [HA.out];exact hlt
     have hkb:k<b.length:=by rw [HB.out];exact hlt
     obtain ⟨g1,o1,hA1,hr1⟩:=H1.out.resolve_left (fun e=>by rw [e] at hka;simp at hka)
     obtain ⟨g2,o2,hB1,hr2⟩:=H2.out.resolve_left (fun e=>by rw [e] at hkb;simp at hkb)
     subst hA1
     subst hB1
     obtain ⟨p,q,hpq⟩:∃ p q:Int,rg a k=(p,q):=⟨_,_,rfl⟩
     obtain ⟨s,t,hst⟩:∃ s t:Int,rg b k=(s,t):=⟨_,_,rfl⟩
     have x1:=hr1 k hka
     have x2:=hr2 k hkb
     rw [hpq] at x1
     rw [hst] at x2
     have cp:=hG.cellv x1.1
     have cq:=hG.cellv x1.2
     have cs:=hG.cellv x2.1
     have ct:=hG.cellv x2.2
     simp only at cp cq cs ct
     have hne:=neq_R p q s t
     clear x1 x2 hr1 hr2
     by_cases he:(p,q)=(s,t)
     · have hT':Hid (∀ j,j<k+1→rg a j=rg b j):=fun j hj=>by
        by_cases e:j=k
        · subst e;rw [hpq,hst];exact he
        · exact hT.out j (by omega)
       simp only [he,decide_true,Bool.not_true] at hne
       clear hT hpq hst he
       go_wp2
       go_quiet (fail)
       go_wp2
       exact ⟨⟨k+1,by go_num,by omega,hT',hG.drewN _⟩,by simp [intOf];omega⟩
     · have hrf:r=false:=by
        rw [←HR.out,decide_eq_false_iff_not]
        rintro rfl
        exact he (hpq.symm.trans hst)
       have HF:Hid (r=false):=hrf
       simp only [he,decide_false,Bool.not_false] at hne
       clear hT hpq hst he hrf
       go_wp2
       go_quiet (fail)
       go_wp2
       go_ret
       have hrf:=HF.out
       exact ⟨by first | rfl | (rw [hrf];rfl),hG.drewN _⟩
  · as_aux_lemma=>
     have hge:¬ (k:Int)<(n:Int):=by omega
     have hrt:r=true:=by
      rw [←HR.out,decide_eq_true_eq]
      refine List.ext_getElem (by rw [HA.out,HB.out]) fun j h1 h2 => ?_
      have:=hT.out j (by rw [HA.out] at h1;omega)
      rwa [rg_lt h1,rg_lt h2] at this
     have HF:Hid (r=true):=hrt
     clear hT hrt
     go_wp2
     go_ret
     have hrf:=HF.out
     exact ⟨by first | rfl | (rw [hrf];rfl),hG⟩
theorem eq80_any (v1 v2:Value) (a b:List (Int × Int)) (w:World) (h1:Rs w v1 a) (h2:Rs w v2 b) (hn:a.length≤1152921504606846976):Calls Tryz.prog 161 #[v1,v2] w fun e w'=>e = .returned (.bool (decide (a=b)))∧Grown w w':=by
 obtain ⟨A,c,rfl,_,h1⟩:=h1
 obtain ⟨B,d,rfl,_,h2⟩:=h2
 by_cases hl:b.length=a.length
 · rw [hl];exact eq80_walk A B c d a b w h1 h2 hl hn
 · rw [decide_eq_false (fun e=>hl (by rw [e]))]
   exact eq80_lens A B a.length c b.length d w (fun e=>hl e.symm)
set_option maxHeartbeats 1000000 in
theorem same72_any (v1 v2:Value) (a b:List (Int × Int)) (w:World) (h1:Rs w v1 a) (h2:Rs w v2 b) (hn:a.length≤1152921504606846976):Calls Tryz.prog 146 #[v1,v2] w fun e w'=>e = .returned (.bool (decide (a=b)))∧Grown w w':=by
 have HC:Hid (Calls Tryz.prog 161 #[v1,v2] w fun e w'=>e = .returned (.bool (decide (a=b)))∧Grown w w'):=eq80_any v1 v2 a b w h1 h2 hn
 generalize decide (a=b)=q at HC
 clear h1 h2
 go_enter Tryz.func146,Tryz.ntmps146
 go_wp2_with fail
 refine HC.out.mono ?_
 rintro e w1 ⟨rfl,hb1⟩
 go_wp2
 go_ret
 exact ⟨rfl,hb1⟩
set_option maxHeartbeats 1000000 in
theorem eq71_lens (A B:Option Addr) (n c m d:Nat) (w:World) (h:n≠m):Calls Tryz.prog 81 #[.slice A n c,.slice B m d,.func (.func 146) #[] #[]] w fun e w'=>e = .returned (.bool false)∧Grown w w':=by
 have e1:((n:Int) != (m:Int))=true:=by rw [bne_iff_ne];omega
 go_enter Tryz.func81,Tryz.ntmps81
 go_wp2
 go_ret
 exact ⟨rfl,Grown.refl _⟩
set_option maxHeartbeats 2000000 in
theorem eq71_walk (A B:Option Addr) (c d:Nat) (a b:List (List (Int × Int))) (w:World) (h1:a=[]∨∃ g o,A=some ⟨g,o,none⟩∧SRd w g o a) (h2:b=[]∨∃ g o,B=some ⟨g,o,none⟩∧SRd w g o b) (hl:b.length=a.length) (hn:a.length≤1152921504606846976) (hs:∀ l∈a,l.length≤1152921504606846976) :
 Calls Tryz.prog 81 #[.slice A a.length c,.slice B a.length d,.func (.func 146) #[] #[]] w fun e w'=>e = .returned (.bool (decide (a=b)))∧Grown w w':=by
 obtain ⟨n,hnn⟩:∃ n,a.length=n:=⟨_,rfl⟩
 have HA:Hid (a.length=n):=hnn
 have HB:Hid (b.length=n):=by rw [hnn] at hl;exact hl
 have HSm:Hid (∀ l∈a,l.length≤1152921504606846976):=hs
 rw [hnn] at hn ⊢
 obtain ⟨r,hr⟩:∃ r:Bool,decide (a=b)=r:=⟨_,rfl⟩
 have HR:Hid (decide (a=b)=r):=hr
 have H1:Hid (a=[]∨∃ g o,A=some ⟨g,o,none⟩∧SRd w g o a):=h1
 have H2:Hid (b=[]∨∃ g o,B=some ⟨g,o,none⟩∧SRd w g o b):=h2
 rw [hr]
 have hm:=mixed
 clear hr hl h1 h2 hnn hs
 go_enter Tryz.func81,Tryz.ntmps81
 go_wp2
 go_loopw [17] (fun vi wr=>∃ k:Nat,vi = .int .i64 k∧k≤n∧Hid (a.take k=b.take k)∧Grown w wr) (fun vi _=>n - (intOf vi).toNat)
 case atStart=>exact ⟨0,rfl,by omega,rfl,Grown.refl _⟩
 case round=>
  obtain ⟨k,rfl,hk,hT,hG⟩:=hrel
  by_cases hlt:k<n
  · as_aux_lemma=>
     have hlt':(k:Int)<(n:Int):=by omega
     have hpos:(0:Int)≤(k:Int):=by omega
     have hka:k<a.length:=by rw [HA.out];exact hlt
     have hkb:k<b.length:=by rw [HB.out];exact hlt
     obtain ⟨g1,o1,hA1,hr1⟩:=H1.out.resolve_left (fun e=>by rw [e] at hka;simp at hka)
     obtain ⟨g2,o2,hB1,hr2⟩:=H2.out.resolve_left (fun e=>by rw [e] at hkb;simp at hkb)
     subst hA1
     subst hB1
     obtain ⟨s1,d1,x1⟩:=hr1 k hka
     obtain ⟨s2,d2,x2⟩:=hr2 k hkb
     have d1:=hG.cellv d1
     have d2:=hG.cellv d2
     have HC:Hid (∀ W,Grown wr W→Calls Tryz.prog 146 #[s1,s2] W fun e w'=>e = .returned (.bool (decide (a[k]=b[k])))∧Grown W w'):=fun W hW=>same72_any s1 s2 _ _ W (x1.grown (hG.trans hW)) (x2.grown (hG.trans hW)) (HSm.out _ (List.getElem_mem hka))
     obtain ⟨sa,sn,sc,rfl⟩:=x1.sl
     obtain ⟨ta,tn,tc,rfl⟩:=x2.sl
     clear x1 x2 hr1 hr2
     by_cases he:a[k]=b[k]
     · have hT':Hid (a.take (k+1)=b.take (k+1)):=by show _=_;rw [List.take_succ_eq_append_getElem hka,List.take_succ_eq_append_getElem hkb,hT.out,he]
       rw [decide_eq_true he] at HC
       clear hT he
       go_wp2_with (go_at_call 146;refine (HC.out _ (Grown.refl _)).mono ?_;rintro e w' ⟨rfl,hb⟩)
       exact ⟨⟨k+1,by go_num,by omega,hT',hG.trans hb⟩,by simp [intOf];omega⟩
     · have hrf:r=false:=by
        rw [←HR.out,decide_eq_false_iff_not]
        rintro rfl
        exact he rfl
       have HF:Hid (r=false):=hrf
       rw [decide_eq_false he] at HC
       clear hT he hrf
       go_wp2_with (go_at_call 146;refine (HC.out _ (Grown.refl _)).mono ?_;rintro e w' ⟨rfl,hb⟩)
       go_ret
       have hrf:=HF.out
       exact ⟨by first | rfl | (rw [hrf];rfl),hG.trans hb⟩
  · as_aux_lemma=>
     have hge:¬ (k:Int)<(n:Int):=by omega
     have hrt:r=true:=by
      rw [←HR.out,decide_eq_true_eq]
      have:=hT.out
      rwa [List.take_of_length_le (by rw [HA.out];omega),List.take_of_length_le (by rw [HB.out];omega)] at this
     have HF:Hid (r=true):=hrt
     clear hT hrt
     go_wp2
     go_ret
     have hrf:=HF.out
     exact ⟨by first | rfl | (rw [hrf];rfl),hG⟩
theorem eq71_any (v1 v2:Value) (a b:List (List (Int × Int))) (w:World) (h1:SR w v1 a) (h2:SR w v2 b) (hn:a.length≤1152921504606846976) (hs:∀ l∈a,l.length≤1152921504606846976):Calls Tryz.prog 81 #[v1,v2,.func (.func 146) #[] #[]] w fun e w'=>e = .returned (.bool (decide (a=b)))∧Grown w w':=by
 obtain ⟨A,c,rfl,_,h1⟩:=h1
 obtain ⟨B,d,rfl,_,h2⟩:=h2
 by_cases hl:b.length=a.length
 · rw [hl];exact eq71_walk A B c d a b w h1 h2 hl hn hs
 · rw [decide_eq_false (fun e=>hl (by rw [e]))]
   exact eq71_lens A B a.length c b.length d w (fun e=>hl e.symm)
set_option maxHeartbeats 1000000 in
theorem same51_any (v1 v2:Value) (a b:List (List (Int × Int))) (w:World) (h1:SR w v1 a) (h2:SR w v2 b) (hn:a.length≤1152921504606846976) (hs:∀ l∈a,l.length≤1152921504606846976):Calls Tryz.prog 123 #[v1,v2] w fun e w'=>e = .returned (.bool (decide (a=b)))∧Grown w w':=by
 have HC:Hid (Calls Tryz.prog 81 #[v1,v2,.func (.func 146) #[] #[]] w fun e w'=>e = .returned (.bool (decide (a=b)))∧Grown w w'):=eq71_any v1 v2 a b w h1 h2 hn hs
 generalize decide (a=b)=q at HC
 clear h1 h2
 go_enter Tryz.func123,Tryz.ntmps123
 go_wp2_with fail
 refine HC.out.mono ?_
 rintro e w1 ⟨rfl,hb1⟩
 go_wp2
 go_ret
 exact ⟨rfl,hb1⟩
instance:DecidableEq Pc:=fun p q=>decidable_of_iff (p.k=q.k∧p.u=q.u∧p.y=q.y∧p.tl=q.tl) (by cases p;cases q;simp)
instance:DecidableEq Rl:=fun a b=>decidable_of_iff (a.bg=b.bg∧a.en=b.en∧a.cu=b.cu∧a.ante=b.ante∧a.key=b.key∧a.post=b.post∧a.res=b.res) (by cases a;cases b;simp)
theorem pc_ne {p q:Pc} (h:¬ (p.k=q.k∧p.u=q.u∧p.y=q.y∧p.tl=q.tl)):decide (p=q)=false:=by
 rw [decide_eq_false_iff_not]
 rintro rfl
 exact h ⟨rfl,rfl,rfl,rfl⟩
set_option maxHeartbeats 2000000 in
theorem samePiece_any (p q:Pc) (pv qv:Value) (w:World) (h1:Rs w pv p.tl) (h2:Rs w qv q.tl) (hn:p.tl.length≤1152921504606846976) :
 Calls Tryz.prog 125 #[.agg #[.int .i64 p.k,.int .i64 p.u,.int .i64 p.y,pv],.agg #[.int .i64 q.k,.int .i64 q.u,.int .i64 q.y,qv]] w fun e w'=>e = .returned (.bool (decide (p=q)))∧Grown w w':=by
 have HC:Hid (∀ W,Grown w W→Calls Tryz.prog 146 #[pv,qv] W fun e w'=>e = .returned (.bool (decide (p.tl=q.tl)))∧Grown W w'):=fun W hW=>same72_any pv qv _ _ W (h1.grown hW) (h2.grown hW) hn
 obtain ⟨pa,pn,pc,rfl⟩:=h1.sl
 obtain ⟨qa,qn,qc,rfl⟩:=h2.sl
 clear h1 h2 hn
 obtain ⟨r,hr⟩:∃ r:Bool,decide (p=q)=r:=⟨_,rfl⟩
 have HR:Hid (decide (p=q)=r):=hr
 rw [hr]
 clear hr
 by_cases a1:p.k=q.k
 · by_cases a2:p.u=q.u
   · by_cases a3:p.y=q.y
     · have HE:Hid (decide (p.tl=q.tl)=r):=by
        have key:decide (p.tl=q.tl)=decide (p=q):=by
         by_cases a4:p.tl=q.tl
         · have:p=q:=by cases p;cases q;simp_all
           rw [decide_eq_true this,decide_eq_true a4]
         · rw [pc_ne (fun h=>a4 h.2.2.2),decide_eq_false a4]
        exact key.trans HR.out
       have HC2:Hid (∀ W,Grown w W→Calls Tryz.prog 146 #[.slice pa pn pc,.slice qa qn qc] W fun e w'=>e = .returned (.bool r)∧Grown W w'):=fun W hW=>by have:=HC.out W hW;rw [HE.out] at this;exact this
       obtain ⟨pk,pu,py,ptl⟩:=p
       obtain ⟨qk,qu,qy,qtl⟩:=q
       simp only at a1 a2 a3 ⊢
       subst a1 a2 a3
       clear HR HE HC
       go_enter Tryz.func125,Tryz.ntmps125
       go_wp2_with fail
       refine (HC2.out _ (((Grown.refl _).alloc _).alloc _)).mono ?_
       rintro e w1 ⟨rfl,hb1⟩
       go_wp2
       go_ret
       exact ⟨rfl,(((Grown.refl _).alloc _).alloc _).trans hb1⟩
     · have hf:r=false:=by rw [←HR.out];exact pc_ne (fun h=>a3 h.2.2.1)
       obtain ⟨pk,pu,py,ptl⟩:=p
       obtain ⟨qk,qu,qy,qtl⟩:=q
       simp only at a1 a2 a3 ⊢
       subst a1 a2 hf
       have e3:(py == qy)=false:=by simpa using a3
       clear HR HC
       go_enter Tryz.func125,Tryz.ntmps125
       go_wp2
       go_ret
       exact ⟨rfl,(((Grown.refl _).alloc _).alloc _)⟩
   · have hf:r=false:=by rw [←HR.out];exact pc_ne (fun h=>a2 h.2.1)
     obtain ⟨pk,pu,py,ptl⟩:=p
     obtain ⟨qk,qu,qy,qtl⟩:=q
     simp only at a1 a2 ⊢
     subst a1 hf
     have e3:(pu == qu)=false:=by simpa using a2
     clear HR HC
     go_enter Tryz.func125,Tryz.ntmps125
     go_wp2
     go_ret
     exact ⟨rfl,(((Grown.refl _).alloc _).alloc _)⟩
 · have hf:r=false:=by rw [←HR.out];exact pc_ne (fun h=>a1 h.1)
   obtain ⟨pk,pu,py,ptl⟩:=p
   obtain ⟨qk,qu,qy,qtl⟩:=q
   simp only at a1 ⊢
   subst hf
   have e3:(pk == qk)=false:=by simpa using a1
   clear HR HC
   go_enter Tryz.func125,Tryz.ntmps125
   go_wp2
   go_ret
   exact ⟨rfl,(((Grown.refl _).alloc _).alloc _)⟩
set_option maxHeartbeats 1000000 in
theorem eq52_lens (A B:Option Addr) (n c m d:Nat) (w:World) (h:n≠m):Calls Tryz.prog 124 #[.slice A n c,.slice B m d,.func (.func 125) #[] #[]] w fun e w'=>e = .returned (.bool false)∧Grown w w':=by
 have e1:((n:Int) != (m:Int))=true:=by rw [bne_iff_ne];omega
 go_enter Tryz.func124,Tryz.ntmps124
 go_wp2
 go_ret
 exact ⟨rfl,Grown.refl _⟩
set_option maxHeartbeats 4000000 in
theorem eq52_walk (A B:Option Addr) (c d:Nat) (a b:List Pc) (w:World) (h1:a=[]∨∃ g o,A=some ⟨g,o,none⟩∧PRd w g o a) (h2:b=[]∨∃ g o,B=some ⟨g,o,none⟩∧PRd w g o b) (hl:b.length=a.length) (hn:a.length≤1152921504606846976) (hs:∀ p∈a,p.tl.length≤1152921504606846976) :
 Calls Tryz.prog 124 #[.slice A a.length c,.slice B a.length d,.func (.func 125) #[] #[]] w fun e w'=>e = .returned (.bool (decide (a=b)))∧Grown w w':=by
 obtain ⟨n,hnn⟩:∃ n,a.length=n:=⟨_,rfl⟩
 have HA:Hid (a.length=n):=hnn
 have HB:Hid (b.length=n):=by rw [hnn] at hl;exact hl
 have HSm:Hid (∀ p∈a,p.tl.length≤1152921504606846976):=hs
 rw [hnn] at hn ⊢
 obtain ⟨r,hr⟩:∃ r:Bool,decide (a=b)=r:=⟨_,rfl⟩
 have HR:Hid (decide (a=b)=r):=hr
 have H1:Hid (a=[]∨∃ g o,A=some ⟨g,o,none⟩∧PRd w g o a):=h1
 have H2:Hid (b=[]∨∃ g o,B=some ⟨g,o,none⟩∧PRd w g o b):=h2
 rw [hr]
 clear hr hl h1 h2 hnn hs
 go_enter Tryz.func124,Tryz.ntmps124
 go_wp2
 go_loopw [17] (fun vi wr=>∃ k:Nat,vi = .int .i64 k∧k≤n∧Hid (a.take k=b.take k)∧Grown w wr) (fun vi _=>n - (intOf vi).toNat)
 case atStart=>exact ⟨0,rfl,by omega,rfl,Grown.refl _⟩
 case round=>
  obtain ⟨k,rfl,hk,hT,hG⟩:=hrel
  by_cases hlt:k<n
  · as_aux_lemma=>
     have hlt':(k:Int)<(n:Int):=by omega
     have hpos:(0:Int)≤(k:Int):=by omega
     have hka:k<a.length:=by rw [HA.out];exact hlt
     have hkb:k<b.length:=by rw [HB.out];exact hlt
     obtain ⟨g1,o1,hA1,hr1⟩:=H1.out.resolve_left (fun e=>by rw [e] at hka;simp at hka)
     obtain ⟨g2,o2,hB1,hr2⟩:=H2.out.resolve_left (fun e=>by rw [e] at hkb;simp at hkb)
     subst hA1
     subst hB1
     obtain ⟨s1,p0,p1,p2,p3,x1⟩:=(hr1 k hka).below hG.below (Nat.le_refl _)
     obtain ⟨s2,q0,q1,q2,q3,x2⟩:=(hr2 k hkb).below hG.below (Nat.le_refl _)
     have HC:Hid (∀ W,Grown wr W→Calls Tryz.prog 125 #[.agg #[.int .i64 a[k].k,.int .i64 a[k].u,.int .i64 a[k].y,s1],.agg #[.int .i64 b[k].k,.int .i64 b[k].u,.int .i64 b[k].y,s2]] W fun e w'=>e = .returned (.bool (decide (a[k]=b[k])))∧Grown W w'):=fun W hW=>samePiece_any a[k] b[k] s1 s2 W (x1.grown hW) (x2.grown hW) (HSm.out _ (List.getElem_mem hka))
     obtain ⟨sa,sn,sc,rfl⟩:=x1.sl
     obtain ⟨ta,tn,tc,rfl⟩:=x2.sl
     have q0':=fun o=>cell_up q0 o
     have q1':=fun o=>cell_up q1 o
     have q2':=fun o=>cell_up q2 o
     have q3':=fun o=>cell_up q3 o
     clear x1 x2 hr1 hr2 q0 q1 q2 q3
     have hI:Hid (a[k]=b[k]→a.take (k+1)=b.take (k+1)):=fun he=>by rw [List.take_succ_eq_append_getElem hka,List.take_succ_eq_append_getElem hkb,hT.out,he]
     have hI2:Hid (a[k]≠b[k]→r=false):=fun he=>by
      rw [←HR.out,decide_eq_false_iff_not]
      intro e
      subst e
      exact he rfl
     by_cases he:a[k]=b[k]
     · have hT':Hid (a.take (k+1)=b.take (k+1)):=hI.out he
       rw [decide_eq_true he] at HC
       generalize a[k].k=z1 at *
       generalize a[k].u=z2 at *
       generalize a[k].y=z3 at *
       generalize b[k].k=z4 at *
       generalize b[k].u=z5 at *
       generalize b[k].y=z6 at *
       clear hT he hI hI2
       go_wp2_with (go_at_call 125;refine (HC.out _ (((Grown.refl _).alloc _).alloc _)).mono ?_;rintro e w' ⟨rfl,hb⟩)
       exact ⟨⟨k+1,by go_num,by omega,hT',(((hG.alloc _).alloc _).trans hb)⟩,by simp [intOf];omega⟩
     · have HF:Hid (r=false):=hI2.out he
       rw [decide_eq_false he] at HC
       generalize a[k].k=z1 at *
       generalize a[k].u=z2 at *
       generalize a[k].y=z3 at *
       generalize b[k].k=z4 at *
       generalize b[k].u=z5 at *
       generalize b[k].y=z6 at *
       clear hT he hI hI2
       go_wp2_with (go_at_call 125;refine (HC.out _ (((Grown.refl _).alloc _).alloc _)).mono ?_;rintro e w' ⟨rfl,hb⟩)
       go_ret
       have hrf:=HF.out
       exact ⟨by first | rfl | (rw [hrf];rfl),(((hG.alloc _).alloc _).trans hb)⟩
  · as_aux_lemma=>
     have hge:¬ (k:Int)<(n:Int):=by omega
     have hrt:r=true:=by
      rw [←HR.out,decide_eq_true_eq]
      have:=hT.out
      rwa [List.take_of_length_le (by rw [HA.out];omega),List.take_of_length_le (by rw [HB.out];omega)] at this
     have HF:Hid (r=true):=hrt
     clear hT hrt
     go_wp2
     go_ret
     have hrf:=HF.out
     exact ⟨by first | rfl | (rw [hrf];rfl),hG⟩
theorem eq52_any (v1 v2:Value) (a b:List Pc) (w:World) (h1:PR w v1 a) (h2:PR w v2 b) (hn:a.length≤1152921504606846976) (hs:∀ p∈a,p.tl.length≤1152921504606846976):Calls Tryz.prog 124 #[v1,v2,.func (.func 125) #[] #[]] w fun e w'=>e = .returned (.bool (decide (a=b)))∧Grown w w':=by
 obtain ⟨A,c,rfl,_,h1⟩:=h1
 obtain ⟨B,d,rfl,_,h2⟩:=h2
 by_cases hl:b.length=a.length
 · rw [hl];exact eq52_walk A B c d a b w h1 h2 hl hn hs
 · rw [decide_eq_false (fun e=>hl (by rw [e]))]
   exact eq52_lens A B a.length c b.length d w (fun e=>hl e.symm)
structure RC (W:World) (B:Nat) (bg:Bool) (av kv pv:Value) (en:Bool) (rv:Value) (cu:Int):Prop where
 c0:W.cell? ⟨B,0,none⟩=some (.bool bg)
 c1:W.cell? ⟨B,1,none⟩=some av
 c2:W.cell? ⟨B,2,none⟩=some kv
 c3:W.cell? ⟨B,3,none⟩=some pv
 c4:W.cell? ⟨B,4,none⟩=some (.bool en)
 c5:W.cell? ⟨B,5,none⟩=some rv
 c6:W.cell? ⟨B,6,none⟩=some (.int .i64 cu)
theorem RC.below {W W':World} {B:Nat} {bg:Bool} {av kv pv:Value} {en:Bool} {rv:Value} {cu:Int} {n:Nat} (h:RC W B bg av kv pv en rv cu) (hb:Below n W W') (hn:W.heap.size≤n):RC W' B bg av kv pv en rv cu:=
 ⟨cell_below h.c0 hb hn,cell_below h.c1 hb hn,cell_below h.c2 hb hn,cell_below h.c3 hb hn,cell_below h.c4 hb hn,cell_below h.c5 hb hn,cell_below h.c6 hb hn⟩
theorem rc_new (w:World) (bg:Bool) (av kv pv:Value) (en:Bool) (rv:Value) (cu:Int):RC (w.alloc (.cells #[.bool bg,av,kv,pv,.bool en,rv,.int .i64 cu] 61)) w.heap.size bg av kv pv en rv cu:=
 ⟨by rw [cell_of (World.alloc_heap_new _ _)];rfl,by rw [cell_of (World.alloc_heap_new _ _)];rfl,by rw [cell_of (World.alloc_heap_new _ _)];rfl,by rw [cell_of (World.alloc_heap_new _ _)];rfl,by rw [cell_of (World.alloc_heap_new _ _)];rfl,by rw [cell_of (World.alloc_heap_new _ _)];rfl,by rw [cell_of (World.alloc_heap_new _ _)];rfl⟩
structure R2 (w:World) (a b:Rl) (aa ak ap ar ba bk bp br:Value) (W:World):Prop where
 g:Grown w W
 ra:RR W aa ak ap ar a
 rb:RR W ba bk bp br b
 ca:RC W w.heap.size a.bg aa ak ap a.en ar a.cu
 cb:RC W (w.heap.size+1) b.bg ba bk bp b.en br b.cu
theorem R2.grown {w:World} {a b:Rl} {aa ak ap ar ba bk bp br:Value} {W W':World} (h:R2 w a b aa ak ap ar ba bk bp br W) (k:Grown W W'):R2 w a b aa ak ap ar ba bk bp br W':=
 ⟨h.g.trans k,h.ra.grown k,h.rb.grown k,h.ca.below k.below (Nat.le_refl _),h.cb.below k.below (Nat.le_refl _)⟩
theorem r2_start {w:World} {a b:Rl} {aa ak ap ar ba bk bp br:Value} (ha:RR w aa ak ap ar a) (hb:RR w ba bk bp br b) :
 R2 w a b aa ak ap ar ba bk bp br ((w.alloc (.cells #[.bool a.bg,aa,ak,ap,.bool a.en,ar,.int .i64 a.cu] 61)).alloc (.cells #[.bool b.bg,ba,bk,bp,.bool b.en,br,.int .i64 b.cu] 61)):=by
 have hg:=((Grown.refl w).alloc (.cells #[.bool a.bg,aa,ak,ap,.bool a.en,ar,.int .i64 a.cu] 61)).alloc (.cells #[.bool b.bg,ba,bk,bp,.bool b.en,br,.int .i64 b.cu] 61)
 refine ⟨hg,ha.grown hg,hb.grown hg,(rc_new w _ _ _ _ _ _ _).below ((Grown.refl _).alloc _).below (Nat.le_refl _),?_⟩
 have:=rc_new (w.alloc (.cells #[.bool a.bg,aa,ak,ap,.bool a.en,ar,.int .i64 a.cu] 61)) b.bg ba bk bp b.en br b.cu
 simpa using this
theorem rl_ne {a b:Rl} (h:¬ (a.bg=b.bg∧a.en=b.en∧a.cu=b.cu∧a.ante=b.ante∧a.key=b.key∧a.post=b.post∧a.res=b.res)):decide (a=b)=false:=by
 rw [decide_eq_false_iff_not]
 rintro rfl
 exact h ⟨rfl,rfl,rfl,rfl,rfl,rfl,rfl⟩
theorem rl_eq {a b:Rl} (h:a.bg=b.bg∧a.en=b.en∧a.cu=b.cu∧a.ante=b.ante∧a.key=b.key∧a.post=b.post∧a.res=b.res):decide (a=b)=true:=by
 rw [decide_eq_true_eq]
 cases a;cases b;simp_all
structure Sz (r:Rl):Prop where
 na:r.ante.length≤1152921504606846976
 sa:∀ l∈r.ante,l.length≤1152921504606846976
 nk:r.key.length≤1152921504606846976
 sk:∀ l∈r.key,l.length≤1152921504606846976
 np:r.post.length≤1152921504606846976
 sp:∀ l∈r.post,l.length≤1152921504606846976
 nr:r.res.length≤1152921504606846976
 sr:∀ p∈r.res,p.tl.length≤1152921504606846976
set_option maxHeartbeats 8000000 in
theorem same_any (a b:Rl) (aa ak ap ar ba bk bp br:Value) (w:World) (ha:RR w aa ak ap ar a) (hb:RR w ba bk bp br b) (hs:Sz a) :
 Calls Tryz.prog 106 #[.agg #[.bool a.bg,aa,ak,ap,.bool a.en,ar,.int .i64 a.cu],.agg #[.bool b.bg,ba,bk,bp,.bool b.en,br,.int .i64 b.cu]] w fun e w'=>e = .returned (.bool (decide (a=b)))∧Grown w w':=by
 have P0:Hid (R2 w a b aa ak ap ar ba bk bp br ((w.alloc (.cells #[.bool a.bg,aa,ak,ap,.bool a.en,ar,.int .i64 a.cu] 61)).alloc (.cells #[.bool b.bg,ba,bk,bp,.bool b.en,br,.int .i64 b.cu] 61))):=r2_start ha hb
 have C1:Hid (∀ W,Hid (R2 w a b aa ak ap ar ba bk bp br W)→Calls Tryz.prog 123 #[aa,ba] W fun e w'=>e = .returned (.bool (decide (a.ante=b.ante)))∧Hid (R2 w a b aa ak ap ar ba bk bp br w')):=fun W p=>(same51_any aa ba _ _ W p.out.ra.a p.out.rb.a hs.na hs.sa).mono fun e w' ⟨h1,h2⟩=>⟨h1,p.out.grown h2⟩
 have C2:Hid (∀ W,Hid (R2 w a b aa ak ap ar ba bk bp br W)→Calls Tryz.prog 123 #[ak,bk] W fun e w'=>e = .returned (.bool (decide (a.key=b.key)))∧Hid (R2 w a b aa ak ap ar ba bk bp br w')):=fun W p=>(same51_any ak bk _ _ W p.out.ra.k p.out.rb.k hs.nk hs.sk).mono fun e w' ⟨h1,h2⟩=>⟨h1,p.out.grown h2⟩
 have C3:Hid (∀ W,Hid (R2 w a b aa ak ap ar ba bk bp br W)→Calls Tryz.prog 123 #[ap,bp] W fun e w'=>e = .returned (.bool (decide (a.post=b.post)))∧Hid (R2 w a b aa ak ap ar ba bk bp br w')):=fun W p=>(same51_any ap bp _ _ W p.out.ra.p p.out.rb.p hs.np hs.sp).mono fun e w' ⟨h1,h2⟩=>⟨h1,p.out.grown h2⟩
 have C4:Hid (∀ W,Hid (R2 w a b aa ak ap ar ba bk bp br W)→Calls Tryz.prog 124 #[ar,br,.func (.func 125) #[] #[]] W fun e w'=>e = .returned (.bool (decide (a.res=b.res)))∧Hid (R2 w a b aa ak ap ar ba bk bp br w')):=fun W p=>(eq52_any ar br _ _ W p.out.ra.r p.out.rb.r hs.nr hs.sr).mono fun e w' ⟨h1,h2⟩=>⟨h1,p.out.grown h2⟩
 obtain ⟨aa1,aa2,aa3,rfl⟩:=ha.a.sl
 obtain ⟨ak1,ak2,ak3,rfl⟩:=ha.k.sl
 obtain ⟨ap1,ap2,ap3,rfl⟩:=ha.p.sl
 obtain ⟨ar1,ar2,ar3,rfl⟩:=ha.r.sl
 obtain ⟨ba1,ba2,ba3,rfl⟩:=hb.a.sl
 obtain ⟨bk1,bk2,bk3,rfl⟩:=hb.k.sl
 obtain ⟨bp1,bp2,bp3,rfl⟩:=hb.p.sl
 obtain ⟨br1,br2,br3,rfl⟩:=hb.r.sl
 obtain ⟨r,hr⟩:∃ r:Bool,decide (a=b)=r:=⟨_,rfl⟩
 have HR:Hid (decide (a=b)=r):=hr
 rw [hr]
 clear hr ha hb hs
 by_cases a0:a.bg=b.bg
 · have A0:Hid (a.bg=b.bg):=a0
   have e0:(a.bg == b.bg)=true:=by simp [a0]
   clear a0
   by_cases a1:a.en=b.en
   · have A1:Hid (a.en=b.en):=a1
     have e1:(a.en == b.en)=true:=by simp [a1]
     clear a1
     by_cases a2:a.cu=b.cu
     · have A2:Hid (a.cu=b.cu):=a2
       have e2:(a.cu == b.cu)=true:=by simp [a2]
       clear a2
       by_cases a3:a.ante=b.ante
       · have A3:Hid (a.ante=b.ante):=a3
         clear a3
         by_cases a4:a.key=b.key
         · have A4:Hid (a.key=b.key):=a4
           clear a4
           by_cases a5:a.post=b.post
           · have A5:Hid (a.post=b.post):=a5
             clear a5
             by_cases a6:a.res=b.res
             · have A6:Hid (a.res=b.res):=a6
               clear a6
               have hf:r=true:=by rw [←HR.out];exact rl_eq ⟨A0.out,A1.out,A2.out,A3.out,A4.out,A5.out,A6.out⟩
               subst hf
               clear HR
               go_enter Tryz.func106,Tryz.ntmps106
               go_wp2_with fail
               refine (C1.out _ P0).mono ?_
               rw [decide_eq_true A3.out]
               rintro e w1 ⟨rfl,P1⟩
               clear P0
               obtain ⟨x0,x1,x2,x3,x4,x5,x6⟩:=P1.out.ca
               obtain ⟨y0,y1,y2,y3,y4,y5,y6⟩:=P1.out.cb
               go_wp2_with fail
               refine (C2.out _ P1).mono ?_
               rw [decide_eq_true A4.out]
               rintro e w2 ⟨rfl,P2⟩
               clear x0 x1 x2 x3 x4 x5 x6 y0 y1 y2 y3 y4 y5 y6
               clear P1
               obtain ⟨x0,x1,x2,x3,x4,x5,x6⟩:=P2.out.ca
               obtain ⟨y0,y1,y2,y3,y4,y5,y6⟩:=P2.out.cb
               go_wp2_with fail
               refine (C3.out _ P2).mono ?_
               rw [decide_eq_true A5.out]
               rintro e w3 ⟨rfl,P3⟩
               clear x0 x1 x2 x3 x4 x5 x6 y0 y1 y2 y3 y4 y5 y6
               clear P2
               obtain ⟨x0,x1,x2,x3,x4,x5,x6⟩:=P3.out.ca
               obtain ⟨y0,y1,y2,y3,y4,y5,y6⟩:=P3.out.cb
               go_wp2_with fail
               refine (C4.out _ P3).mono ?_
               rw [decide_eq_true A6.out]
               rintro e w4 ⟨rfl,P4⟩
               clear x0 x1 x2 x3 x4 x5 x6 y0 y1 y2 y3 y4 y5 y6
               clear P3
               go_wp2
               go_ret
               exact ⟨rfl,P4.out.g⟩
             · have hf:r=false:=by rw [←HR.out];exact rl_ne (fun h=>a6 h.2.2.2.2.2.2)
               subst hf
               clear HR
               go_enter Tryz.func106,Tryz.ntmps106
               go_wp2_with fail
               refine (C1.out _ P0).mono ?_
               rw [decide_eq_true A3.out]
               rintro e w1 ⟨rfl,P1⟩
               clear P0
               obtain ⟨x0,x1,x2,x3,x4,x5,x6⟩:=P1.out.ca
               obtain ⟨y0,y1,y2,y3,y4,y5,y6⟩:=P1.out.cb
               go_wp2_with fail
               refine (C2.out _ P1).mono ?_
               rw [decide_eq_true A4.out]
               rintro e w2 ⟨rfl,P2⟩
               clear x0 x1 x2 x3 x4 x5 x6 y0 y1 y2 y3 y4 y5 y6
               clear P1
               obtain ⟨x0,x1,x2,x3,x4,x5,x6⟩:=P2.out.ca
               obtain ⟨y0,y1,y2,y3,y4,y5,y6⟩:=P2.out.cb
               go_wp2_with fail
               refine (C3.out _ P2).mono ?_
               rw [decide_eq_true A5.out]
               rintro e w3 ⟨rfl,P3⟩
               clear x0 x1 x2 x3 x4 x5 x6 y0 y1 y2 y3 y4 y5 y6
               clear P2
               obtain ⟨x0,x1,x2,x3,x4,x5,x6⟩:=P3.out.ca
               obtain ⟨y0,y1,y2,y3,y4,y5,y6⟩:=P3.out.cb
               go_wp2_with fail
               refine (C4.out _ P3).mono ?_
               rw [decide_eq_false a6]
               rintro e w4 ⟨rfl,P4⟩
               clear x0 x1 x2 x3 x4 x5 x6 y0 y1 y2 y3 y4 y5 y6
               clear P3
               go_wp2
               go_ret
               exact ⟨rfl,P4.out.g⟩
           · have hf:r=false:=by rw [←HR.out];exact rl_ne (fun h=>a5 h.2.2.2.2.2.1)
             subst hf
             clear HR
             go_enter Tryz.func106,Tryz.ntmps106
             go_wp2_with fail
             refine (C1.out _ P0).mono ?_
             rw [decide_eq_true A3.out]
             rintro e w1 ⟨rfl,P1⟩
             clear P0
             obtain ⟨x0,x1,x2,x3,x4,x5,x6⟩:=P1.out.ca
             obtain ⟨y0,y1,y2,y3,y4,y5,y6⟩:=P1.out.cb
             go_wp2_with fail
             refine (C2.out _ P1).mono ?_
             rw [decide_eq_true A4.out]
             rintro e w2 ⟨rfl,P2⟩
             clear x0 x1 x2 x3 x4 x5 x6 y0 y1 y2 y3 y4 y5 y6
             clear P1
             obtain ⟨x0,x1,x2,x3,x4,x5,x6⟩:=P2.out.ca
             obtain ⟨y0,y1,y2,y3,y4,y5,y6⟩:=P2.out.cb
             go_wp2_with fail
             refine (C3.out _ P2).mono ?_
             rw [decide_eq_false a5]
             rintro e w3 ⟨rfl,P3⟩
             clear x0 x1 x2 x3 x4 x5 x6 y0 y1 y2 y3 y4 y5 y6
             clear P2
             go_wp2
             go_ret
             exact ⟨rfl,P3.out.g⟩
         · have hf:r=false:=by rw [←HR.out];exact rl_ne (fun h=>a4 h.2.2.2.2.1)
           subst hf
           clear HR
           go_enter Tryz.func106,Tryz.ntmps106
           go_wp2_with fail
           refine (C1.out _ P0).mono ?_
           rw [decide_eq_true A3.out]
           rintro e w1 ⟨rfl,P1⟩
           clear P0
           obtain ⟨x0,x1,x2,x3,x4,x5,x6⟩:=P1.out.ca
           obtain ⟨y0,y1,y2,y3,y4,y5,y6⟩:=P1.out.cb
           go_wp2_with fail
           refine (C2.out _ P1).mono ?_
           rw [decide_eq_false a4]
           rintro e w2 ⟨rfl,P2⟩
           clear x0 x1 x2 x3 x4 x5 x6 y0 y1 y2 y3 y4 y5 y6
           clear P1
           go_wp2
           go_ret
           exact ⟨rfl,P2.out.g⟩
       · have hf:r=false:=by rw [←HR.out];exact rl_ne (fun h=>a3 h.2.2.2.1)
         subst hf
         clear HR
         go_enter Tryz.func106,Tryz.ntmps106
         go_wp2_with fail
         refine (C1.out _ P0).mono ?_
         rw [decide_eq_false a3]
         rintro e w1 ⟨rfl,P1⟩
         clear P0
         go_wp2
         go_ret
         exact ⟨rfl,P1.out.g⟩
     · have hf:r=false:=by rw [←HR.out];exact rl_ne (fun h=>a2 h.2.2.1)
       subst hf
       have e2:(a.cu == b.cu)=false:=by simpa using a2
       clear HR
       go_enter Tryz.func106,Tryz.ntmps106
       go_wp2
       go_ret
       exact ⟨rfl,((Grown.refl _).alloc _).alloc _⟩
   · have hf:r=false:=by rw [←HR.out];exact rl_ne (fun h=>a1 h.2.1)
     subst hf
     have e1:(a.en == b.en)=false:=by simpa using a1
     clear HR
     go_enter Tryz.func106,Tryz.ntmps106
     go_wp2
     go_ret
     exact ⟨rfl,((Grown.refl _).alloc _).alloc _⟩
 · have hf:r=false:=by rw [←HR.out];exact rl_ne (fun h=>a0 h.1)
   subst hf
   have e0:(a.bg == b.bg)=false:=by simpa using a0
   clear HR
   go_enter Tryz.func106,Tryz.ntmps106
   go_wp2
   go_ret
   exact ⟨rfl,((Grown.refl _).alloc _).alloc _⟩
end Go.Proofs
