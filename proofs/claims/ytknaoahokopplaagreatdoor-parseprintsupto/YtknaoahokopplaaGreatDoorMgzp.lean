/-
  Several texts in one (T7p T8p Jnp).
-/
import Derived.Test.YtknaoahokopplaaGreatDoorMgyp
import Derived.Test.YtknaoahokopplaaGreatDoorU2p
import Derived.Shelf.Abstract
import Derived.WalkKit
import Derived.WalkSpells
import Derived.WalkLawsBesides
import Derived.BigQuiet
import Derived.Deep.QuietTactic
import Derived.Deep.LoopGhost
import Derived.WalkMore
import Derived.Test.YtknaoahokopplaaGreatDoorMggp
import Derived.Test.YtknaoahokopplaaGreatDoorJlp
namespace Go.Proofs
open Go.RowKit Go.Shelf
set_option maxRecDepth 100000
attribute [local go_sem] Oper.semAt_some
theorem WK.ts {W W':World} {R:Nat} {bs ts ts':List UInt8} {K:Nat} {o:Option Int} (h:WK W R bs ts K o W') (he:o=none→ts=ts'):WK W R bs ts' K o W':=
 ⟨h.wp.ts he,fun e=>by rw [←he e];exact h.len e,h.nz⟩
theorem ckRw_nil (f:It→Option Int):ckRw f []=none:=rfl
theorem ckLn_ok {d:Nat} {l:Ln} (h:stL (lnM l)=true):ckLn d l=(((ckRw (ckI d 62) l.ante).or (ckRw (ckI d 62) l.key)).or (ckRw (ckI d 62) l.post)).or (ckRw (ckI d 386) l.res):=by
 unfold ckLn
 rw [if_pos h,Option.or_assoc,Option.or_assoc]
theorem noRule_nil {an ky po rs:List It} {k a:Int} {t:ByteArray} {bg en:Bool} {cur:Int} (h:noRuleB (lnM ⟨k,a,t,bg,en,an,ky,po,rs,cur⟩)=true):an=[]∧po=[]∧rs=[]:=by
 have h:(!bg && (!en && (decide (an.length=0) && (decide (po.length=0) && (decide (rs.length=0) && cur == 0)))))=true:=h
 simp only [Bool.and_eq_true,decide_eq_true_eq] at h
 exact ⟨List.eq_nil_of_length_eq_zero h.2.2.1,List.eq_nil_of_length_eq_zero h.2.2.2.1,List.eq_nil_of_length_eq_zero h.2.2.2.2.1⟩
theorem qline_any {d R:Nat} {w W:World} {bs:List UInt8} (hR:R=w.heap.size) (hb:Below R w W) (h:WR W R bs 0) (hl:bs.length≤10000000000000) {m:ML} {l:Ln} (hM:RdLn d w m l) (hT:TzL d l) :
 Calls Tryz.prog 42 #[.pointer (some ⟨R,0,none⟩),mla m] W fun x W'=>x = .returned (.tuple #[])∧WK W R bs (lineB l) 400000000 (ckLn d l) W':=by
 have hst:=stL_same hM
 obtain ⟨hP,r1,r2,r3,r4⟩:=hM
 obtain ⟨k,a,t,bg,en,an,ky,po,rs,cur⟩:=l
 obtain ⟨mk,ma,mt,mbg,men,⟨A1,n1,c1⟩,⟨A2,n2,c2⟩,⟨A3,n3,c3⟩,⟨A4,n4,c4⟩,mcur⟩:=m
 obtain ⟨h1,h2,h3,h4,h5,h6⟩:=hP
 simp only at h1 h2 h3 h4 h5 h6
 subst h1 h2 h3 h4 h5 h6
 obtain ⟨t0,t1,t2,t3,t4⟩:=hT
 refine qline_w h (by omega) _ t0 _ (fun hk hs W2 hw => ?_) (fun hk hs => ?_) (fun hk hs W2 hw hm => ?_) (fun hs W2 hw hm => ?_)
 · have hk:mk=3:=hk
   subst hk
   have hs2:=hs
   rw [hst] at hs
   have hs':(emptyB mt && (decide (ky.length=0) && noRuleB (lnM ⟨3,ma,mt,mbg,men,an,ky,po,rs,mcur⟩)))=true:=hs
   simp only [Bool.and_eq_true,decide_eq_true_eq] at hs'
   obtain ⟨e1,e3,e4⟩:=noRule_nil hs'.2.2
   have e2:ky=[]:=List.eq_nil_of_length_eq_zero hs'.2.1
   rw [ckLn_ok hs]
   simp only [e1,e2,e3,e4,ckRw_nil,Option.or_none]
   refine (hw.up (by omega)).ts fun _ => ?_
   exact line3_text.symm
 · have hk:mk=1:=hk
   subst hk
   rw [hst] at hs
   have hs':(nameOk mt && (decide (ky.length=1) && noRuleB (lnM ⟨1,ma,mt,mbg,men,an,ky,po,rs,mcur⟩)))=true:=hs
   simp only [Bool.and_eq_true,decide_eq_true_eq] at hs'
   obtain ⟨e1,e3,e4⟩:=noRule_nil hs'.2.2
   have r2':=r2
   obtain ⟨ms,hRd,hA⟩:=r2
   have hA:All2 (RdM d w) ms ky:=hA
   have t2:∀ i∈ky,Tz d i:=t2
   match ky,hs'.2.1,ms,hA with
   | [p],_,[m1],hA=>
    obtain ⟨hn,_,hr0⟩:=hRd
    have hn:n2=1:=hn
    have hr0:n2=0∨∃ g z,A2=some ⟨g,z,none⟩∧ReadsI w g z [m1]:=hr0
    obtain ⟨g,z,hg,hr⟩:=hr0.resolve_left (by omega)
    have hcell:∀ i v,(mi1 m1)[i]? = some v→w.cell? ⟨g,z+i,none⟩=some v:=fun i v hv=>by
     have:=hr 0 m1 rfl i v hv
     rwa [Nat.zero_mul,Nat.add_zero] at this
    have hgR:g<R:=by rw [hR];exact r2'.gR g z hg (by show n2≠0;omega)
    refine ⟨g,z,m1,hg,hgR,by show 1≤n2;omega,fun i v hv => ?_,fun W2 hw => ?_⟩
    · rw [←hcell i v hv]
      exact hb.cell (p:=⟨g,z+i,none⟩) hgR
    · obtain ⟨⟨hm2,hx⟩,hlen,_⟩:=hw
      refine (lv62 (bs:=bs++((⟨#[36]⟩:ByteArray)++mt++(⟨#[32,61,32]⟩:ByteArray)).data.toList) hR hA.1 (t2 p List.mem_cons_self) (hb.trans hm2.bel) hx (by rw [List.length_append];have:((⟨#[36]⟩:ByteArray)++mt++(⟨#[32,61,32]⟩:ByteArray)).data.toList.length≤100:=hlen rfl;omega)).mono ?_
      rintro x W3 ⟨rfl,hq⟩
      have hcl:ckLn d ⟨1,ma,mt,mbg,men,an,[p],po,rs,mcur⟩=ckI d 62 p:=by
       rw [ckLn_ok hs]
       simp only [e1,e3,e4,ckRw_nil,Option.or_none,Option.none_or]
       unfold ckRw
       rw [if_neg (by simp)]
       simp only [List.findSome?]
       cases ckI d 62 p <;> rfl
      have hwk:WK W R bs (((⟨#[36]⟩:ByteArray)++mt++(⟨#[32,61,32]⟩:ByteArray)).data.toList++(texS p).data.toList) 170000 (ckI d 62 p) W3:=by
       refine ⟨(WP.ahead hq hm2).up (by have:((⟨#[36]⟩:ByteArray)++mt++(⟨#[32,61,32]⟩:ByteArray)).data.toList.length≤100:=hlen rfl;omega),fun he => ?_,fun e he => ?_⟩
       · have h1:=hA.1.sm he
         have h2:(texS p).data.toList.length=(texS p).size:=Array.length_toList
         have h3:((⟨#[36]⟩:ByteArray)++mt++(⟨#[32,61,32]⟩:ByteArray)).data.toList.length≤100:=hlen rfl
         rw [List.length_append]
         omega
       · rcases ckI_nz d 62 p e he with rfl | rfl | rfl <;> decide
      refine ⟨rfl,hq.1,_,170000,_,hwk,by omega,fun W4 h4 => ?_⟩
      rw [hcl]
      refine (h4.up (by omega)).ts fun _ => ?_
      have e:lineB ⟨1,ma,mt,mbg,men,an,[p],po,rs,mcur⟩=(jnB [(⟨#[36]⟩:ByteArray)++mt,⟨#[61]⟩,texS p,⟨#[59]⟩]).data.toList++[10]:=by
       unfold lineB lineW
       rw [if_neg (show ¬ (1:Int)=3 by decide),if_pos rfl]
       rfl
      rw [e,line1_text]
 · have hk:mk=2:=hk
   subst hk
   rw [hst] at hs
   have hs':(emptyB mt && (decide (0≤mcur) && decide (mcur≤(rs.length:Int))))=true:=hs
   simp only [Bool.and_eq_true,decide_eq_true_eq] at hs'
   obtain ⟨q,rfl⟩:∃ q:Nat,mcur=(q:Int):=⟨mcur.toNat,by omega⟩
   refine (qrule_any hR (hb.trans hm.bel) hw hl 2 ma mt mbg men A1 A2 A3 A4 n1 n2 n3 n4 c1 c2 c3 c4 (q:Int) an ky po rs r1 r2 r3 r4 t1 t2 t3 t4).mono ?_
   rintro x W3 ⟨rfl,hx⟩
   refine ⟨rfl,?_⟩
   rw [ckLn_ok hs]
   have e:lineB ⟨2,ma,mt,mbg,men,an,ky,po,rs,(q:Int)⟩=rulQ mbg men an ky po rs (q:Int):=by
    rw [rulQ_words mbg men an ky po rs q (by omega)]
    unfold lineB lineW
    rw [if_neg (show ¬ (2:Int)=3 by decide),if_neg (show ¬ (2:Int)=1 by decide)]
    rfl
   rw [e]
   exact ⟨hx.wp.trans hm,hx.len,hx.nz⟩
 · have hc:ckLn d ⟨mk,ma,mt,mbg,men,an,ky,po,rs,mcur⟩=some 50:=by
    rw [hst] at hs
    unfold ckLn
    rw [hs]
    rfl
   rw [hc]
   exact ⟨⟨hm,bs,hw,by omega⟩,(fun e=>by cases e),fun e he=>by cases he;decide⟩
def PrS (d:Nat) (ls:List Ln) (w:World) (R j:Nat) (wr:World):Prop:=Below R w wr ∧
 (((ls.take j).findSome? (ckLn d)=none∧WR wr R (outS (ls.take j)) 0∧(outS (ls.take j)).length≤j*400000000)∨∃ e bs',ls.findSome? (ckLn d)=some e∧e≠0∧WR wr R bs' e)
theorem convert_out {W:World} {R:Nat} {bs:List UInt8} {c:Int} (h:WR W R bs c):∃ v,W.cell? ⟨R,0,none⟩=some v∧(∃ A k,v = .slice A bs.length k)∧(convert 50 9 v).run Tryz.prog W = .ok (.string ⟨bs.toArray⟩) W:=by
 obtain ⟨v,h1,h2⟩:=h
 refine ⟨v,by rw [Lib.cell_of_heap h1];rfl,?_,?_⟩
 · rcases h2.2 with ⟨e,h0⟩ | ⟨g,cap,cur,e,_⟩
   · exact ⟨none,0,by rw [e,h0]⟩
   · exact ⟨_,_,e⟩
 · rcases h2.2 with ⟨rfl,h0⟩ | ⟨g,cap,cur,rfl,_,hg,_,_,_,ht⟩
   · have hb:bs=[]:=List.eq_nil_of_length_eq_zero h0
     subst hb
     rw [run_convert_bytes_string W 50 9 5 none 0 0 Tryz.underlying50 Tryz.underlying5 Tryz.underlying9]
     simp [Conv.bytesToString]
     rfl
   · refine run_convert_bytes_back (P:=Tryz.prog) W 50 9 5 ⟨g,0,none⟩ cap bs Tryz.underlying50 Tryz.underlying5 Tryz.underlying9 (fun j hj => ?_)
     have e:(Lib.byteCells bs)[j]? = some (.int .u8 (bs[j].toNat:Int)):=by simp [Lib.byteCells,hj]
     rw [←ht,List.getElem?_take] at e
     split at e
     · have ea:(⟨g,0,none⟩:Addr).add j=⟨g,j,none⟩:=by unfold Addr.add;split <;> simp_all
       rw [ea]
       simp only [World.cell?,hg]
       simpa using e
     · cases e
end Go.Proofs
namespace Go.Proofs
open Go.RowKit Go.Shelf
set_option maxRecDepth 100000
attribute [local go_sem] Oper.semAt_some
set_option maxHeartbeats 4000000 in
theorem qprint_any (d:Nat) (w:World) (A:Option Addr) (n c:Nat) (ls:List Ln) (h:RdLs d w A n ls) (ht:∀ l∈ls,TzL d l) (hn2:n≤20000) :
 Calls Tryz.prog 20 #[.slice A n c] w fun x w'=>x = .returned (.tuple #[.string (printS d ls).1,.int .i64 (printS d ls).2])∧Below w.heap.size w w':=by
 have hln:=h.len
 obtain ⟨ms,hn,hr,hAll⟩:=h
 have H:Hid (n=ms.length∧n=ls.length∧(n=0∨∃ g z,A=some ⟨g,z,none⟩∧ReadsL w g z ms)∧All2 (RdLn d w) ms ls∧(∀ l∈ls,TzL d l)∧n≤20000):=⟨hn,hln,hr,hAll,ht,hn2⟩
 obtain ⟨S,hS⟩:∃ S,printS d ls=S:=⟨_,rfl⟩
 have HS:Hid (printS d ls=S):=hS
 rw [hS]
 have H0:Hid (PrS d ls w w.heap.size 0 (w.alloc (.cells #[.slice none 0 0,.int .i64 0] 84))):=⟨(Below.refl _ w).alloc (Nat.le_refl _) _,.inl ⟨by simp,⟨.slice none 0 0,World.alloc_heap_new _ _,World.ownsRow_nil _ _ _ _⟩,by simp [outS]⟩⟩
 clear hS hn hr hAll ht hln
 go_enter Tryz.func20,Tryz.ntmps20
 go_wp2
 go_loopw [5] (fun vi wr=>∃ k:Nat,vi = .int .i64 k∧k≤n∧Hid (PrS d ls w w.heap.size k wr)) (fun vi _=>n - (intOf vi).toNat)
 case atStart=>exact ⟨0,rfl,by omega,H0⟩
 case round=>
  obtain ⟨k,rfl,hk,HR⟩:=hrel
  obtain ⟨wo,rfl⟩:∃ wo,wo=wr:=⟨_,rfl⟩
  clear H0
  by_cases hkn:k<n
  · have e1:decide ((k:Int)<(n:Int))=true:=by simpa using hkn
    rcases HR.out.2 with ⟨hf,hw,hlen⟩ | ⟨e,bs',hf,he,hw⟩
    · have r1:=hw.cells
      obtain ⟨m,hm⟩:∃ m,ms[k]? = some m:=⟨ms[k]'(by have:=H.out.1;omega),List.getElem?_eq_getElem _⟩
      obtain ⟨i,hi⟩:∃ i,ls[k]? = some i:=⟨ls[k]'(by have:=H.out.2.1;omega),List.getElem?_eq_getElem _⟩
      obtain ⟨g,z,hA,hr⟩:=H.out.2.2.1.resolve_left (by omega)
      subst hA
      have ck:=ck_below HR.out.1
      obtain ⟨c0,c1,c2,c3,c4,c5,c6,c7,c8,c9⟩:=hr.cells hm
      have k0:=ck _ _ c0
      have k1:=ck _ _ c1
      have k2:=ck _ _ c2
      have k3:=ck _ _ c3
      have k4:=ck _ _ c4
      have k5:=ck _ _ c5
      have k6:=ck _ _ c6
      have k7:=ck _ _ c7
      have k8:=ck _ _ c8
      have k9:=ck _ _ c9
      have hk4:k*400000000≤20000*400000000:=Nat.mul_le_mul_right _ (by omega)
      have HC:Hid (Calls Tryz.prog 42 #[.pointer (some ⟨w.heap.size,0,none⟩),mla m] wo fun x W'=>x = .returned (.tuple #[])∧PrS d ls w w.heap.size (k+1) W'):=by
       refine (qline_any rfl HR.out.1 hw (by omega) (H.out.2.2.2.1.get hm hi) (H.out.2.2.2.2.1 i (List.mem_of_getElem? hi))).mono ?_
       rintro x W' ⟨rfl,hq⟩
       refine ⟨rfl,HR.out.1.trans hq.wp.1.bel,?_⟩
       obtain ⟨⟨_,hx⟩,hl2,hnz⟩:=hq
       cases hc:ckLn d i with
       | none=>
        rw [hc] at hx hl2
        refine .inl ⟨find_more _ ls k i hf hi hc,by rw [outS_take hi];exact hx,?_⟩
        have:=hl2 rfl
        rw [outS_take hi,List.length_append,Nat.add_mul]
        omega
       | some e=>
        rw [hc] at hx
        obtain ⟨bs',q1,_⟩:=hx
        exact .inr ⟨e,bs',find_at _ ls k i e hf hi hc,hnz e hc,q1⟩
      clear c0 c1 c2 c3 c4 c5 c6 c7 c8 c9 hm hi hr ck hf hw hlen hk4
      go_wp2_with fail
      refine HC.out.mono ?_
      rintro x w2 ⟨rfl,hs⟩
      have HF:=Hid.mk2 hs
      clear hs HC k0 k1 k2 k3 k4 k5 k6 k7 k8 k9
      go_wp2
      exact ⟨⟨k+1,by go_num,by omega,HF⟩,by simp [intOf];omega⟩
    · have r1:=hw.cells
      have r0:(e == 0)=false:=by simpa using he
      have r2:(e != 0)=true:=by simpa using he
      have HF:Hid (S=(⟨#[]⟩,e)∧Below w.heap.size w wo):=by
       refine ⟨?_,HR.out.1⟩
       rw [←HS.out]
       have hA:ckAll d ls=e:=by unfold ckAll;rw [hf];rfl
       rw [printS,hA,if_neg he]
      clear hw he hf H
      go_wp2
      go_region
      all_goals go_wp2
      all_goals go_ret2
      all_goals exact ⟨by rw [HF.out.1];rfl,HF.out.2.drew⟩
  · have e1:decide ((k:Int)<(n:Int))=false:=by simpa using hkn
    rcases HR.out.2 with ⟨hf,hw,hlen⟩ | ⟨e,bs',hf,he,hw⟩
    · have r1:=hw.cells
      rw [List.take_of_length_le (by have:=H.out.2.1;omega)] at hf hw
      have hA:ckAll d ls=0:=by unfold ckAll;rw [hf];rfl
      obtain ⟨v,c0,⟨A0,k0,rfl⟩,hcv⟩:=convert_out hw
      obtain ⟨v1,q1,q2⟩:=hw
      have f1:wo.frozen? ⟨w.heap.size,1,none⟩=false:=Lib.frozen_of_heap q1 1
      obtain ⟨O,hO⟩:∃ O,outS ls=O:=⟨_,rfl⟩
      rw [hO] at c0 hcv
      by_cases hbig:32768<O.length
      · have eb:decide ((32768:Int)<(O.length:Int))=true:=by simp;omega
        have hset:(wo.setCell ⟨w.heap.size,1,none⟩ (.int .i64 2)).heap[w.heap.size]? = some (.cells #[v1,.int .i64 2] 84 (0,0)):=cells_setS q1
        have s1:(wo.setCell ⟨w.heap.size,1,none⟩ (.int .i64 2)).cell? ⟨w.heap.size,1,none⟩=some (.int .i64 2):=by rw [Lib.cell_of_heap hset];rfl
        have HF:Hid (S=(⟨#[]⟩,2)∧Below w.heap.size w (wo.setCell ⟨w.heap.size,1,none⟩ (.int .i64 2))):=⟨by rw [←HS.out,printS,if_pos hA,hO,if_pos hbig],HR.out.1.setCell (p:=⟨w.heap.size,1,none⟩) (Nat.le_refl _) _⟩
        clear hf hlen hA q1 q2 hO hset H hcv hbig
        go_wp2
        go_region
        all_goals go_wp2
        all_goals go_ret2
        all_goals exact ⟨by rw [HF.out.1];rfl,HF.out.2.drew⟩
      · have eb:decide ((32768:Int)<(O.length:Int))=false:=by simp;omega
        have HF:Hid (S=(⟨O.toArray⟩,0)∧Below w.heap.size w wo):=⟨by rw [←HS.out,printS,if_pos hA,hO,if_neg hbig],HR.out.1⟩
        clear hf hlen hA q1 q2 hO H hbig
        go_wp2
        all_goals go_ret2
        all_goals exact ⟨by rw [HF.out.1];rfl,HF.out.2⟩
    · have r1:=hw.cells
      have r0:(e == 0)=false:=by simpa using he
      have r2:(e != 0)=true:=by simpa using he
      have HF:Hid (S=(⟨#[]⟩,e)∧Below w.heap.size w wo):=by
       refine ⟨?_,HR.out.1⟩
       rw [←HS.out]
       have hA:ckAll d ls=e:=by unfold ckAll;rw [hf];rfl
       rw [printS,hA,if_neg he]
      clear hw he hf H
      go_wp2
      go_region
      all_goals go_wp2
      all_goals go_ret2
      all_goals exact ⟨by rw [HF.out.1];rfl,HF.out.2.drew⟩
end Go.Proofs
namespace Go.Proofs
open Go.RowKit Go.Shelf
set_option maxRecDepth 100000
attribute [local go_sem] Oper.semAt_some
theorem OwnT.tr {w:World} {base:Nat} {v:Value} {ts:List Tok} {e:Int} (h:OwnT w base v (ts++[sen e])) (hg:∀ t,t∈ts→GoodT t):∃ g c,v = .slice (some ⟨g,0,none⟩) (ts.length+1) c∧TR w g c ts e:=by
 rcases h.2 with ⟨rfl,h0⟩ | ⟨g,cap,cur,rfl,k1,k2,k3,k4,k5,k6⟩
 · simp at h0
 · rw [List.length_append] at *
   refine ⟨g,cap,rfl,⟨k3,k4⟩,fun j x hj => ?_,hg⟩
   have h1:∀ i u,(ft (ts++[sen e]))[i]? = some u→w.cell? ⟨g,i,none⟩=some u:=by
    intro i u hi
    rw [←k6,List.getElem?_take] at hi
    split at hi
    · simp only [World.cell?,k2]
      simpa using hi
    · cases hi
   obtain ⟨a0,a1,a2,a3,a4,a5⟩:=ft_at _ hj
   exact ⟨h1 _ _ a0,h1 _ _ a1,h1 _ _ a2,h1 _ _ a3,h1 _ _ a4,h1 _ _ a5⟩
theorem RowsL.step {w w':World} {b b':Nat} {v:Value} {l:List Ln} (h:RowsL w b v l) (hb:b'≤b) (hw:∀ k,k<w.heap.size→b≤k→w'.heap[k]? = w.heap[k]?):RowsL w' b' v l:=by
 obtain ⟨A,c,ms,e1,e2,e3⟩:=h
 refine ⟨A,c,ms,e1,e2.mono fun _ _ r=>r.step hb (.inl rfl) (fun k h1 h2 _=>hw k h1 h2),e3.imp id ?_⟩
 rintro ⟨g,cur,k1,k2,k3,k4⟩
 exact ⟨g,cur,k1,by omega,(hw g (Array.getElem?_eq_some_iff.1 k3).1 k2).trans k3,k4⟩
def PO (w:World) (e:Int) (toks:List Tok) (fa fe:Int) (x:Ending) (w':World):Prop:=
 if fe=0 then LinesOut w (linesT e toks.length toks) x w' else x = .returned (.tuple #[.slice none 0 0,.agg #[.int .i64 fa,.int .i64 fe]])∧Below w.heap.size w w'
set_option maxHeartbeats 1000000 in
theorem parse_run (s:ByteArray) (toks:List Tok) (fa:Nat) (fe:Int) (hs:s.size≤32768) (hR:Run s 0 true toks fa fe) (hg:∀ t,t∈toks→GoodT t) (hl:toks.length≤32768) (w:World) :
 Calls Tryz.prog 13 #[.string s] w (PO w s.size toks fa fe):=by
 have HR:Hid (Run s 0 true toks fa fe∧∀ t,t∈toks→GoodT t):=⟨hR,hg⟩
 clear hR hg
 go_enter Tryz.func13,Tryz.ntmps13
 go_wp2_with fail
 refine (scan_run s toks fa fe hs HR.out.1 _).mono ?_
 rintro x w1 ⟨v,rfl,hv,hb1⟩
 have hF1:FB w1 w.heap.size 0 0:=(FB.new w 0 0).below hb1 (by simp)
 have hB1:Below w.heap.size w w1:=((Below.refl _ w).alloc (Nat.le_refl _) _).trans (hb1.mono (by simp))
 by_cases hfe:fe=0
 · subst hfe
   rw [if_pos rfl] at hv
   have hv2:OwnT w1 (w.heap.size+1) v toks:=by
    rw [World.size_alloc] at hv
    exact hv
   obtain ⟨A,c,rfl⟩:=formT hv2
   have HO:Hid (OwnT w1 (w.heap.size+1) (.slice A toks.length c) toks∧FB w1 w.heap.size 0 0∧Below w.heap.size w w1):=⟨hv2,hF1,hB1⟩
   clear hv hv2 hb1 hF1 hB1
   have hY:Hid (TB ((w1.alloc (.cells #[.int .i64 fa,.int .i64 0] 32)).alloc (.cells #[.int .i64 0,.int .i64 s.size,.int .i64 0,.int .i64 0,.string ⟨#[]⟩,.int .i64 0] 52)) (w1.heap.size+1) 0 s.size 0 0 ⟨#[]⟩ 0):=by
    have:=TB.new (w1.alloc (.cells #[.int .i64 fa,.int .i64 0] 32)) 0 s.size 0 0 ⟨#[]⟩ 0
    rwa [World.size_alloc] at this
   go_wp2_with (first | (at_builtin;go_must (refine push_T rfl _ _ 47 rfl Tryz.underlying47 (w.heap.size+1) _ toks rfl ((HO.out.1.alloc _).alloc _) _ _ (sen s.size) rfl hY.out (by omega) (by have:=HO.out.2.1.lt;simp;omega) ?_);intro v' w3 hO3 hgr hb3) | fail)
   have hz1:=HO.out.2.1.lt
   have hF3:FB w3 w.heap.size 0 0:=(hgr.block w.heap.size (by simp;omega) (fun e=>by have:=(World.ownsRow.lt HO.out.1 _ e.symm).1;omega)).trans ((HO.out.2.1.allocs _).allocs _)
   have hB3:Below w.heap.size w w3:=((HO.out.2.2.alloc (by omega) _).alloc (by simp;omega) _).trans (hb3.mono (by omega))
   have hz3:w.heap.size<w3.heap.size:=hF3.lt
   obtain ⟨g,c2,rfl,hTR⟩:=hO3.tr HR.out.2
   refine (read_any s.size g c2 toks (by omega) w3 hTR).mono ?_
   rintro x w4 ⟨hb4,hx⟩
   have hF4:FB w4 w.heap.size 0 0:=hF3.below hb4 hz3
   have hB4:Below w.heap.size w w4:=hB3.trans (hb4.mono (by omega))
   have HX:Hid (FB w4 w.heap.size 0 0∧Below w.heap.size w w4):=⟨hF4,hB4⟩
   obtain ⟨c0,c1,c2,c3⟩:=hF4.cells
   clear hF4 hB4 hb4 hB3 hF3 hTR hO3 hgr hb3 hY HO hz1
   cases hS:linesT s.size toks.length toks with
   | no a ec=>
    rw [hS] at hx
    simp only at hx
    subst hx
    have HS:Hid (linesT s.size toks.length toks = .no a ec):=hS
    clear hS
    go_wp2
    have K:=HX.out.1.set a ec
    obtain ⟨d0,d1,-,-⟩:=K.cells
    refine bodyPost_ret (v := .tuple #[.slice none 0 0,.agg #[.int .i64 a,.int .i64 ec]]) (by simp [results,Tryz.f13,go_sem,d0,d1]) rfl ?_
    unfold PO
    rw [if_pos rfl,HS.out]
    exact ⟨(HX.out.2.setCell (p:=⟨w.heap.size,0,none⟩) (Nat.le_refl _) _).setCell (p:=⟨w.heap.size,1,none⟩) (Nat.le_refl _) _,rfl⟩
   | ok ls r=>
    rw [hS] at hx
    obtain ⟨v,rfl,hL⟩:=hx
    have HS:Hid (linesT s.size toks.length toks = .ok ls r∧RowsL w4 w3.heap.size v ls):=⟨hS,hL⟩
    clear hS hL
    go_wp2
    have K:=HX.out.1.set 0 0
    obtain ⟨d0,d1,-,-⟩:=K.cells
    refine bodyPost_ret (v := .tuple #[v,.agg #[.int .i64 0,.int .i64 0]]) (by simp [results,Tryz.f13,go_sem,d0,d1]) rfl ?_
    unfold PO
    rw [if_pos rfl,HS.out.1]
    exact ⟨(HX.out.2.setCell (p:=⟨w.heap.size,0,none⟩) (Nat.le_refl _) _).setCell (p:=⟨w.heap.size,1,none⟩) (Nat.le_refl _) _,v,rfl,HS.out.2.step (by omega) (fun k _ h2=>(heap_set_other _ (by omega) _ _).trans (heap_set_other _ (by omega) _ _))⟩
 · have hd:(fe != 0)=true:=by simpa using hfe
   rw [if_neg hfe] at hv
   subst hv
   have HB:Hid (Below w.heap.size w w1∧FB w1 w.heap.size 0 0):=⟨hB1,hF1⟩
   have c:=fun o=>(hF1.allocs o).cells
   have c0:=fun o=>(c o).1
   have c1:=fun o=>(c o).2.1
   have c2:=fun o=>(c o).2.2.1
   have c3:=fun o=>(c o).2.2.2
   clear c hb1 hF1 hB1
   go_wp2
   go_region
   all_goals go_wp2
   all_goals
    have K:=(HB.out.2.allocs (.cells #[.int .i64 fa,.int .i64 fe] 32)).set fa fe
    obtain ⟨d0,d1,-,-⟩:=K.cells
    refine bodyPost_ret (v := .tuple #[.slice none 0 0,.agg #[.int .i64 fa,.int .i64 fe]]) (by simp [results,Tryz.f13,go_sem,d0,d1]) rfl ?_
    unfold PO
    rw [if_neg hfe]
    have hb:=((HB.out.1.alloc HB.out.1.size (.cells #[.int .i64 fa,.int .i64 fe] 32)).setCell (p:=⟨w.heap.size,0,none⟩) (Nat.le_refl _) (.int .i64 fa)).setCell (p:=⟨w.heap.size,1,none⟩) (Nat.le_refl _) (.int .i64 fe)
    exact ⟨rfl,hb.os,hb.tape,hb.output,hb.size,hb.block⟩
end Go.Proofs
