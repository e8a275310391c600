/-
  Rules, compared: the document's answer.
-/
import Derived.RangeFuncNested
import Derived.RangeFuncBound
import Derived.RangeFuncCalls
import Derived.RangeFuncLeaves
import Derived.Shelf.Abstract
import Derived.Shelf.RegionOpen
import Derived.WalkKit
import Derived.WalkSpells
import Derived.WalkLawsBesides
import Derived.OwnWalkIn
import Derived.TacticsInMore
import Derived.LoopNIn
import Derived.LoopIn
import Derived.BigQuiet
import Derived.RegionIn
import Derived.Deep.QuietTactic
import Derived.Deep.RegionWith
import Derived.Lib.OthersKept
import Derived.Maps.AppendAt
import Derived.Lib.SmallJoins
import Derived.Shelf.SlSortCmp.QuietGrown
import Derived.Test.YtcfcjljapamcoaaGreatDoorMggv
namespace Go.Proofs
open Go.RowKit Go.Shelf
set_option maxRecDepth 100000
attribute [local go_sem] Oper.semAt_some
attribute [local go_sem ↓] Go.wp_at_zero Go.wp_at_succ
theorem piece_at {W:World} {r:Rl} {av kv pv:Value} {ra:Option Addr} {n rc:Nat} (h:RR W av kv pv (.slice ra n rc) r) (hn:r.res.length=n) {k:Nat} (hk:k<n) :
 ∃ g o ta tn tc,ra=some ⟨g,o,none⟩∧W.cell? ⟨g,o+k*4,none⟩=some (.int .i64 (r.res[k]'(by omega)).k)∧W.cell? ⟨g,o+k*4+1,none⟩=some (.int .i64 (r.res[k]'(by omega)).u)∧W.cell? ⟨g,o+k*4+2,none⟩=some (.int .i64 (r.res[k]'(by omega)).y)∧W.cell? ⟨g,o+k*4+3,none⟩=some (.slice ta tn tc)∧Rs W (.slice ta tn tc) (r.res[k]'(by omega)).tl:=by
 obtain ⟨a1,c1,e1,_,h1⟩:=h.r
 injection e1 with q1 q2 q3
 subst q1 q3
 obtain ⟨g,o,rfl,k1⟩:=h1.resolve_left (fun e=>by rw [e] at hn;simp at hn;omega)
 obtain ⟨tv,p0,p1,p2,p3,hs⟩:=k1 k (by omega)
 obtain ⟨ta,tn,tc,rfl⟩:=hs.sl
 exact ⟨g,o,ta,tn,tc,rfl,p0,p1,p2,p3,hs⟩
set_option maxHeartbeats 8000000 in
theorem rsame_any (a b:Rl) (aa ak ap ar ba bk bp br:Value) (w:World) (ha:RR w aa ak ap ar a) (hb:RR w ba bk bp br b) (hs:Sz a) :
 Calls Tryz.prog 107 #[.agg #[.bool a.bg,aa,ak,ap,.bool a.en,ar,.int .i64 a.cu],.agg #[.bool b.bg,ba,bk,bp,.bool b.en,br,.int .i64 b.cu]] w fun e w'=>e = .returned (.bool (decide (a=b)))∧Grown w w':=by
 have P0:Hid (R2 w a b aa ak ap ar ba bk bp br ((w.alloc (.cells #[.bool a.bg,aa,ak,ap,.bool a.en,ar,.int .i64 a.cu] 60)).alloc (.cells #[.bool b.bg,ba,bk,bp,.bool b.en,br,.int .i64 b.cu] 60))):=r2_start ha hb
 have C1:Hid (∀ W,Hid (R2 w a b aa ak ap ar ba bk bp br W)→Calls Tryz.prog 143 #[aa,ba] W fun e w'=>e = .returned (.bool (decide (a.ante=b.ante)))∧Hid (R2 w a b aa ak ap ar ba bk bp br w')):=fun W p=>(eq55_any aa ba _ _ W p.out.ra.a p.out.rb.a hs.na hs.sa).mono fun e w' ⟨h1,h2⟩=>⟨h1,p.out.grown h2⟩
 have C2:Hid (∀ W,Hid (R2 w a b aa ak ap ar ba bk bp br W)→Calls Tryz.prog 143 #[ak,bk] W fun e w'=>e = .returned (.bool (decide (a.key=b.key)))∧Hid (R2 w a b aa ak ap ar ba bk bp br w')):=fun W p=>(eq55_any ak bk _ _ W p.out.ra.k p.out.rb.k hs.nk hs.sk).mono fun e w' ⟨h1,h2⟩=>⟨h1,p.out.grown h2⟩
 have C3:Hid (∀ W,Hid (R2 w a b aa ak ap ar ba bk bp br W)→Calls Tryz.prog 143 #[ap,bp] W fun e w'=>e = .returned (.bool (decide (a.post=b.post)))∧Hid (R2 w a b aa ak ap ar ba bk bp br w')):=fun W p=>(eq55_any ap bp _ _ W p.out.ra.p p.out.rb.p hs.np hs.sp).mono fun e w' ⟨h1,h2⟩=>⟨h1,p.out.grown h2⟩
 have HSr:Hid (∀ p∈a.res,p.tl.length≤1152921504606846976):=hs.sr
 have hnr:=hs.nr
 obtain ⟨aa1,aa2,aa3,rfl⟩:=ha.a.sl
 obtain ⟨ak1,ak2,ak3,rfl⟩:=ha.k.sl
 obtain ⟨ap1,ap2,ap3,rfl⟩:=ha.p.sl
 obtain ⟨ar1,ar3,rfl,_,_⟩:=ha.r
 obtain ⟨ba1,ba2,ba3,rfl⟩:=hb.a.sl
 obtain ⟨bk1,bk2,bk3,rfl⟩:=hb.k.sl
 obtain ⟨bp1,bp2,bp3,rfl⟩:=hb.p.sl
 obtain ⟨br1,br3,rfl,_,_⟩:=hb.r
 obtain ⟨n,hn⟩:∃ n,a.res.length=n:=⟨_,rfl⟩
 obtain ⟨m,hm⟩:∃ m,b.res.length=m:=⟨_,rfl⟩
 have HN:Hid (a.res.length=n):=hn
 have HM:Hid (b.res.length=m):=hm
 rw [hn] at P0 C1 C2 C3 hnr ⊢
 rw [hm] at P0 C1 C2 C3 ⊢
 obtain ⟨r,hr⟩:∃ r:Bool,decide (a=b)=r:=⟨_,rfl⟩
 have HR:Hid (decide (a=b)=r):=hr
 rw [hr]
 clear hr ha hb hs hn hm
 by_cases a0:a.bg=b.bg
 rotate_left
 · have hf:r=false:=by rw [←HR.out];exact rl_ne (fun h=>a0 h.1)
   have e0:(a.bg != b.bg)=true:=by simpa using a0
   subst hf
   clear HR
   go_enter Tryz.func107,Tryz.ntmps107
   go_wp2
   go_ret
   exact ⟨rfl,((Grown.refl _).alloc _).alloc _⟩
 have A0:Hid (a.bg=b.bg):=a0
 have e0:(a.bg != b.bg)=false:=by simp [a0]
 clear a0
 by_cases a1:a.en=b.en
 rotate_left
 · have hf:r=false:=by rw [←HR.out];exact rl_ne (fun h=>a1 h.2.1)
   have e1:(a.en != b.en)=true:=by simpa using a1
   subst hf
   clear HR
   go_enter Tryz.func107,Tryz.ntmps107
   go_wp2
   go_ret
   exact ⟨rfl,((Grown.refl _).alloc _).alloc _⟩
 have A1:Hid (a.en=b.en):=a1
 have e1:(a.en != b.en)=false:=by simp [a1]
 clear a1
 by_cases a2:a.cu=b.cu
 rotate_left
 · have hf:r=false:=by rw [←HR.out];exact rl_ne (fun h=>a2 h.2.2.1)
   have e2:(a.cu != b.cu)=true:=by simpa using a2
   subst hf
   clear HR
   go_enter Tryz.func107,Tryz.ntmps107
   go_wp2
   go_ret
   exact ⟨rfl,((Grown.refl _).alloc _).alloc _⟩
 have A2:Hid (a.cu=b.cu):=a2
 have e2:(a.cu != b.cu)=false:=by simp [a2]
 clear a2
 by_cases a3:n=m
 rotate_left
 · have hf:r=false:=by
    rw [←HR.out]
    refine rl_ne (fun h=>a3 ?_)
    rw [←HN.out,←HM.out,h.2.2.2.2.2.2]
   have e3:((n:Int) != (m:Int))=true:=by rw [bne_iff_ne];omega
   subst hf
   clear HR
   go_enter Tryz.func107,Tryz.ntmps107
   go_wp2
   go_ret
   exact ⟨rfl,((Grown.refl _).alloc _).alloc _⟩
 subst a3
 go_enter Tryz.func107,Tryz.ntmps107
 go_wp2
 go_loopw [5] (fun vi wr=>∃ k:Nat,vi = .int .i64 k∧k≤n∧Hid (a.res.take k=b.res.take k)∧Hid (R2 w a b (.slice aa1 aa2 aa3) (.slice ak1 ak2 ak3) (.slice ap1 ap2 ap3) (.slice ar1 n ar3) (.slice ba1 ba2 ba3) (.slice bk1 bk2 bk3) (.slice bp1 bp2 bp3) (.slice br1 n br3) wr)) (fun vi _=>n - (intOf vi).toNat)
 case atStart=>exact ⟨0,rfl,by omega,rfl,by have h:=P0;rw [A0.out,A1.out] at h;exact h⟩
 case round=>
  obtain ⟨k,rfl,hk,hT,P1⟩:=hrel
  have hpos:(0:Int)≤(k:Int):=by omega
  obtain ⟨x0,x1,x2,x3,x4,x5,x6⟩:=P1.out.ca
  obtain ⟨y0,y1,y2,y3,y4,y5,y6⟩:=P1.out.cb
  clear P0
  by_cases hlt:k<n
  · as_aux_lemma=>
     have hlt':(k:Int)<(n:Int):=by omega
     have hka:k<a.res.length:=by rw [HN.out];exact hlt
     have hkb:k<b.res.length:=by rw [HM.out];exact hlt
     obtain ⟨g1,o1,sa,sn,sc,hA1,p0,p1,p2,p3,z1⟩:=piece_at P1.out.ra HN.out hlt
     obtain ⟨g2,o2,ta,tn,tc,hB1,q0,q1,q2,q3,z2⟩:=piece_at P1.out.rb HM.out hlt
     subst hA1
     subst hB1
     have HC:Hid (∀ W,Grown wr W→Calls Tryz.prog 142 #[.slice sa sn sc,.slice ta tn tc] W fun e w'=>e = .returned (.bool (decide (a.res[k].tl=b.res[k].tl)))∧Grown W w'):=fun W hW=>eq54_any _ _ _ _ W (z1.grown hW) (z2.grown hW) (HSr.out _ (List.getElem_mem hka))
     have y5':=fun o=>cell_up y5 o
     have q0':=fun o=>cell_up q0 o
     have q1':=fun o=>cell_up q1 o
     have q2':=fun o=>cell_up q2 o
     have q3':=fun o=>cell_up q3 o
     have hI:Hid (a.res[k]=b.res[k]→a.res.take (k+1)=b.res.take (k+1)):=fun he=>by rw [List.take_succ_eq_append_getElem hka,List.take_succ_eq_append_getElem hkb,hT.out,he]
     have hI2:Hid (a.res[k]≠b.res[k]→r=false):=fun he=>by
      rw [←HR.out]
      refine rl_ne (fun h=>he ?_)
      have h7:=h.2.2.2.2.2.2
      simp only [h7]
     clear z1 z2 x0 x1 x2 x3 x4 x6 y0 y1 y2 y3 y4 y5 y6 q0 q1 q2 q3 C1 C2 C3 hT
     generalize ha':a.res[k]=pa at *
     generalize hb':b.res[k]=pb at *
     obtain ⟨ak,au,ay,atl⟩:=pa
     obtain ⟨bk,bu,bys,btl⟩:=pb
     simp only at p0 p1 p2 q0' q1' q2' HC
     clear ha' hb' hka hkb HSr
     by_cases c0:ak=bk
     rotate_left
     · have HF:Hid (r=false):=hI2.out (fun e=>c0 (by cases e;rfl))
       have d0:(ak != bk)=true:=by simpa using c0
       clear hI hI2
       go_wp2
       go_ret
       have hrf:=HF.out
       exact ⟨by first | rfl | (rw [hrf];rfl),(P1.out.g.alloc _).alloc _⟩
     subst c0
     by_cases c1:au=bu
     rotate_left
     · have HF:Hid (r=false):=hI2.out (fun e=>c1 (by cases e;rfl))
       have d1:(au != bu)=true:=by simpa using c1
       clear hI hI2
       go_wp2
       go_ret
       have hrf:=HF.out
       exact ⟨by first | rfl | (rw [hrf];rfl),(P1.out.g.alloc _).alloc _⟩
     subst c1
     by_cases c2:ay=bys
     rotate_left
     · have HF:Hid (r=false):=hI2.out (fun e=>c2 (by cases e;rfl))
       have d2:(ay != bys)=true:=by simpa using c2
       clear hI hI2
       go_wp2
       go_ret
       have hrf:=HF.out
       exact ⟨by first | rfl | (rw [hrf];rfl),(P1.out.g.alloc _).alloc _⟩
     subst c2
     by_cases c3:atl=btl
     · have hT':Hid (a.res.take (k+1)=b.res.take (k+1)):=hI.out (by rw [c3])
       rw [decide_eq_true c3] at HC
       clear hI hI2 c3
       go_wp2_with (go_at_call 142;refine (HC.out _ (((Grown.refl _).alloc _).alloc _)).mono ?_;rintro e w' ⟨rfl,hb⟩)
       exact ⟨⟨k+1,by go_num,by omega,hT',P1.out.grown ((((Grown.refl _).alloc _).alloc _).trans hb)⟩,by simp [intOf];omega⟩
     · have HF:Hid (r=false):=hI2.out (fun e=>c3 (by cases e;rfl))
       rw [decide_eq_false c3] at HC
       clear hI hI2
       go_wp2_with (go_at_call 142;refine (HC.out _ (((Grown.refl _).alloc _).alloc _)).mono ?_;rintro e w' ⟨rfl,hb⟩)
       go_ret
       have hrf:=HF.out
       exact ⟨by first | rfl | (rw [hrf];rfl),(((P1.out.g.alloc _).alloc _)).trans hb⟩
  · have hge:¬ (k:Int)<(n:Int):=by omega
    have HE:Hid (a.res=b.res):=by
     have:=hT.out
     rwa [List.take_of_length_le (by rw [HN.out];omega),List.take_of_length_le (by rw [HM.out];omega)] at this
    clear hT HSr
    by_cases b0:a.ante=b.ante
    · have B0:Hid (a.ante=b.ante):=b0
      clear b0
      by_cases b1:a.key=b.key
      · have B1:Hid (a.key=b.key):=b1
        clear b1
        by_cases b2:a.post=b.post
        · have B2:Hid (a.post=b.post):=b2
          clear b2
          have hf:r=true:=by rw [←HR.out];exact rl_eq ⟨A0.out,A1.out,A2.out,B0.out,B1.out,B2.out,HE.out⟩
          subst hf
          clear HR
          go_wp2_with fail
          refine (C1.out _ P1).mono ?_
          rw [decide_eq_true B0.out]
          rintro e w2 ⟨rfl,P2⟩
          clear x0 x1 x2 x3 x4 x5 x6 y0 y1 y2 y3 y4 y5 y6
          obtain ⟨x0,x1,x2,x3,x4,x5,x6⟩:=P2.out.ca
          obtain ⟨y0,y1,y2,y3,y4,y5,y6⟩:=P2.out.cb
          go_wp2_with fail
          refine (C2.out _ P2).mono ?_
          rw [decide_eq_true B1.out]
          rintro e w3 ⟨rfl,P3⟩
          clear x0 x1 x2 x3 x4 x5 x6 y0 y1 y2 y3 y4 y5 y6
          obtain ⟨x0,x1,x2,x3,x4,x5,x6⟩:=P3.out.ca
          obtain ⟨y0,y1,y2,y3,y4,y5,y6⟩:=P3.out.cb
          go_wp2_with fail
          refine (C3.out _ P3).mono ?_
          rw [decide_eq_true B2.out]
          rintro e w4 ⟨rfl,P4⟩
          clear x0 x1 x2 x3 x4 x5 x6 y0 y1 y2 y3 y4 y5 y6
          go_wp2
          go_ret
          exact ⟨rfl,P4.out.g⟩
        · have hf:r=false:=by rw [←HR.out];exact rl_ne (fun h=>b2 h.2.2.2.2.2.1)
          subst hf
          clear HR
          go_wp2_with fail
          refine (C1.out _ P1).mono ?_
          rw [decide_eq_true B0.out]
          rintro e w2 ⟨rfl,P2⟩
          clear x0 x1 x2 x3 x4 x5 x6 y0 y1 y2 y3 y4 y5 y6
          obtain ⟨x0,x1,x2,x3,x4,x5,x6⟩:=P2.out.ca
          obtain ⟨y0,y1,y2,y3,y4,y5,y6⟩:=P2.out.cb
          go_wp2_with fail
          refine (C2.out _ P2).mono ?_
          rw [decide_eq_true B1.out]
          rintro e w3 ⟨rfl,P3⟩
          clear x0 x1 x2 x3 x4 x5 x6 y0 y1 y2 y3 y4 y5 y6
          obtain ⟨x0,x1,x2,x3,x4,x5,x6⟩:=P3.out.ca
          obtain ⟨y0,y1,y2,y3,y4,y5,y6⟩:=P3.out.cb
          go_wp2_with fail
          refine (C3.out _ P3).mono ?_
          rw [decide_eq_false b2]
          rintro e w4 ⟨rfl,P4⟩
          clear x0 x1 x2 x3 x4 x5 x6 y0 y1 y2 y3 y4 y5 y6
          go_wp2
          go_ret
          exact ⟨rfl,P4.out.g⟩
      · have hf:r=false:=by rw [←HR.out];exact rl_ne (fun h=>b1 h.2.2.2.2.1)
        subst hf
        clear HR
        go_wp2_with fail
        refine (C1.out _ P1).mono ?_
        rw [decide_eq_true B0.out]
        rintro e w2 ⟨rfl,P2⟩
        clear x0 x1 x2 x3 x4 x5 x6 y0 y1 y2 y3 y4 y5 y6
        obtain ⟨x0,x1,x2,x3,x4,x5,x6⟩:=P2.out.ca
        obtain ⟨y0,y1,y2,y3,y4,y5,y6⟩:=P2.out.cb
        go_wp2_with fail
        refine (C2.out _ P2).mono ?_
        rw [decide_eq_false b1]
        rintro e w3 ⟨rfl,P3⟩
        clear x0 x1 x2 x3 x4 x5 x6 y0 y1 y2 y3 y4 y5 y6
        go_wp2
        go_ret
        exact ⟨rfl,P3.out.g⟩
    · have hf:r=false:=by rw [←HR.out];exact rl_ne (fun h=>b0 h.2.2.2.1)
      subst hf
      clear HR
      go_wp2_with fail
      refine (C1.out _ P1).mono ?_
      rw [decide_eq_false b0]
      rintro e w2 ⟨rfl,P2⟩
      clear x0 x1 x2 x3 x4 x5 x6 y0 y1 y2 y3 y4 y5 y6
      go_wp2
      go_ret
      exact ⟨rfl,P2.out.g⟩
end Go.Proofs
