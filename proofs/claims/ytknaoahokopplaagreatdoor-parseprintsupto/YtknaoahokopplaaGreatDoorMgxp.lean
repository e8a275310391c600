/-
  Several texts in one (T2p T3p).
-/
import Derived.Test.YtknaoahokopplaaGreatDoorT1p
namespace Go.Proofs
open Go.RowKit Go.Shelf
set_option maxRecDepth 100000
attribute [local go_sem] Oper.semAt_some
theorem RdM.gR {d:Nat} {w:World} {m:MI} {i:It} (h:RdM d w m i):∀ g z o,m.A=some ⟨g,z,o⟩→m.n≠0→g<w.heap.size:=by
 intro g z o hA hn
 cases d with
 | zero=>exact absurd h.2.2 hn
 | succ d=>
  obtain ⟨_,ms,⟨h1,_,hr⟩,_⟩:=h
  obtain ⟨g',z',hg,hr⟩:=hr.resolve_left hn
  rw [hA] at hg
  cases hg
  cases ms with
  | nil=>exact absurd h1 hn
  | cons m1 ms=>
   obtain ⟨ob,ho,_⟩:=cells_of_cell (hr 0 m1 rfl 0 _ rfl)
   exact (Array.getElem?_eq_some_iff.1 ho).1
theorem RdI.gR {d:Nat} {w:World} {A:Option Addr} {n:Nat} {l:List It} (h:RdI d w A n l):∀ g z,A=some ⟨g,z,none⟩→n≠0→g<w.heap.size:=by
 intro g z hA hn
 obtain ⟨ms,⟨h1,_,hr⟩,_⟩:=h
 obtain ⟨g',z',hg,hr⟩:=hr.resolve_left hn
 rw [hA] at hg
 cases hg
 cases ms with
 | nil=>exact absurd h1 hn
 | cons m1 ms=>
  obtain ⟨ob,ho,_⟩:=cells_of_cell (hr 0 m1 rfl 0 _ rfl)
  exact (Array.getElem?_eq_some_iff.1 ho).1
theorem leaf_tex {i:It} (hk:i.knd=1∨i.knd=2∨i.knd=3∨i.knd=4∨i.knd=6∨i.knd=7):texS i=leafS i:=by
 obtain ⟨k,u,t,ps,lo,hi,nt,key⟩:=i
 have hk:k=1∨k=2∨k=3∨k=4∨k=6∨k=7:=hk
 show (if k=8 then _ else itemS _)=_
 rw [if_neg (by omega)]
 show (if k=5 then _ else leafS _)=_
 rw [if_neg (by omega)]
theorem item_tex {i:It} (hk:i.knd≠8):texS i=itemS i:=by
 obtain ⟨k,u,t,ps,lo,hi,nt,key⟩:=i
 exact if_neg hk
theorem pair_unit {d:Nat} {w:World} {m:MI} {i:It} (h:RdM d w m i) (p1:It) (hps:i.ps=[p1]) (hk:p1.knd=1):ckSub d i 60=some 50:=by
 cases d with
 | zero=>obtain ⟨_,e,_⟩:=h;rw [e] at hps;cases hps
 | succ d=>
  show ckRw (ckI d 60) i.ps=_
  rw [hps]
  unfold ckRw
  rw [if_neg (by simp)]
  simp only [List.findSome?,ckI_eq,ckB,hk]
  rfl
theorem lv78 {d R:Nat} {w W:World} (hR:R=w.heap.size) {m:MI} {i:It} (hM:RdM d w m i) (hT:Tz d i) (hb:Below R w W) {bs:List UInt8} (h:WR W R bs 0) (hl:bs.length≤90000000000000) :
 Calls Tryz.prog 74 #[.pointer (some ⟨R,0,none⟩),mia m,.bool true,.bool false] W fun x W'=>x = .returned (.tuple #[])∧WP W R bs (texS i).data.toList 300 (ckI d 78 i) W':=by
 subst hR
 rw [ckI_eq]
 refine item_level (.inl ⟨rfl,rfl,rfl⟩) (by omega) (by omega) (hM.ck (ck_below hb)) (fun g z o h1 h2=>hM.gR g z o h1 h2) (by rw [hM.plain.txt];exact hT.txt) h hl (ckSub d i) (fun _ e=>by cases e) (fun _ e=>by cases e) (fun _ p1 h1 h2=>pair_unit hM p1 h1 h2)
theorem Tz.part {d:Nat} {i p:It} (h:Tz (d+1) i) (hp:p∈i.ps):Tz d p:=h.2 p hp
theorem lv62 {d R:Nat} {w W:World} (hR:R=w.heap.size) {m:MI} {i:It} (hM:RdM d w m i) (hT:Tz d i) (hb:Below R w W) {bs:List UInt8} (h:WR W R bs 0) (hl:bs.length≤80000000000000) :
 Calls Tryz.prog 74 #[.pointer (some ⟨R,0,none⟩),mia m,.bool false,.bool false] W fun x W'=>x = .returned (.tuple #[])∧WP W R bs (texS i).data.toList 160000 (ckI d 62 i) W':=by
 subst hR
 rw [ckI_eq]
 refine item_level (.inr (.inl ⟨rfl,rfl,rfl⟩)) (by omega) (by omega) (hM.ck (ck_below hb)) (fun g z o h1 h2=>hM.gR g z o h1 h2) (by rw [hM.plain.txt];exact hT.txt) h (by omega) (ckSub d i) (fun hk _ => ?_) (fun _ e=>by cases e) (fun _ p1 h1 h2=>pair_unit hM p1 h1 h2)
 have hts:∃ ts:List UInt8,ts.length≤512*301∧(ckSub d i 78=none→ts=(jnB (i.ps.map leafS)).data.toList∧rwJ (-1) i.ps i.ps.length=ts):=by
  cases hs:ckSub d i 78 with
  | some e=>exact ⟨[],by simp,fun h=>by cases h⟩
  | none=>
   have hp:i.ps.length≤512∧∀ p∈i.ps,(p.knd=1∨p.knd=2∨p.knd=3∨p.knd=4∨p.knd=6∨p.knd=7)∧stI (itM p)=true:=by
    cases d with
    | zero=>obtain ⟨_,e,_⟩:=hM;rw [e];exact ⟨by simp,fun p hp=>by cases hp⟩
    | succ d=>exact parts_leaf hs
   refine ⟨(jnB (i.ps.map leafS)).data.toList,?_,fun _=>⟨rfl,?_⟩⟩
   · have:=parts_small hp.2 hp.1
     have e:(jnB (i.ps.map leafS)).data.toList.length=(jnB (i.ps.map leafS)).size:=Array.length_toList
     omega
   · rw [rwJ_join]
     have e:i.ps.map texS=i.ps.map leafS:=List.map_congr_left fun p hq=>leaf_tex (hp.2 p hq).1
     rw [e]
 obtain ⟨ts,hl1,hts⟩:=hts
 refine ⟨ts,512*303,by omega,by omega,fun e=>(hts e).1,fun W2 bs2 hw hm hl2 => ?_⟩
 have hb2:Below w.heap.size w W2:=hb.trans hm.bel
 have hrow:∃ f,ckSub d i 78=ckRw f i.ps∧(∀ i e,f i=some e→e≠0)∧∃ ms,RdR w m.A m.n ms∧ms.length=i.ps.length∧(∀ (j:Nat) (m':MI) (i':It),ms[j]? = some m'→i.ps[j]? = some i'→∀ W3 bs3,Below w.heap.size W2 W3→WR W3 w.heap.size bs3 0→bs3.length≤(bs.length+2)+6000000000→Calls Tryz.prog 74 #[.pointer (some ⟨w.heap.size,0,none⟩),mia m',.bool true,.bool false] W3 fun x W'=>x = .returned (.tuple #[])∧WP W3 w.heap.size bs3 (texS i').data.toList 300 (f i') W')∧∀ p∈i.ps,f p=none→(texS p).size≤300:=by
  cases d with
  | zero=>
   obtain ⟨_,e,e2⟩:=hM
   refine ⟨fun _=>none,(by rw [e];rfl),(fun _ _ h=>by cases h),[],⟨e2,by omega,.inl e2⟩,(by rw [e];rfl),(fun j m' i' h=>by simp at h),(fun p hp=>by rw [e] at hp;cases hp)⟩
  | succ d=>
   obtain ⟨_,ms,hR,hA⟩:=hM
   refine ⟨ckI d 78,rfl,fun p e he h0 => ?_,ms,hR,hA.length,fun j m' i' e1 e2 W3 bs3 hb3 hw3 hl3 => ?_,fun p hp he => ?_⟩
   · rcases ckI_nz d 78 p e he with h | h | h <;> omega
   · exact lv78 rfl (hA.get e1 e2) (hT.part (List.mem_of_getElem? e2)) (hb2.trans hb3) hw3 (by omega)
   · rw [ckI_eq] at he
     have he:=ckB_none he
     have hk:p.knd=1∨p.knd=2∨p.knd=3∨p.knd=4∨p.knd=6∨p.knd=7:=by rcases hasK_78 he.1 with e | e | e | e <;> simp [e]
     rw [leaf_tex hk]
     exact leaf_small hk he.2.1
 obtain ⟨f,hf1,hf2,ms,hR,hlen,hI,hS⟩:=hrow
 rw [hf1]
 refine (qrow_any f hf2 300 (by omega) W2 w.heap.size bs2 m.A m.n m.c ms i.ps (hR.ck (ck_below hb2)) hlen (fun g z h1 h2=>hM.gR g z none h1 h2) true false (-1) hw (bs.length+2) (by omega) hl2 hI hS).mono ?_
 rintro x W' ⟨rfl,hx⟩
 exact ⟨rfl,hx.ts fun e=>(hts (by rw [hf1];exact e)).2⟩
theorem lv386 {d R:Nat} {w W:World} (hR:R=w.heap.size) {m:MI} {i:It} (hM:RdM d w m i) (hT:Tz d i) (hb:Below R w W) {bs:List UInt8} (h:WR W R bs 0) (hl:bs.length≤70000000000000) :
 Calls Tryz.prog 74 #[.pointer (some ⟨R,0,none⟩),mia m,.bool false,.bool true] W fun x W'=>x = .returned (.tuple #[])∧WP W R bs (texS i).data.toList 160200 (ckI d 386 i) W':=by
 subst hR
 rw [ckI_eq]
 refine item_level (.inr (.inr ⟨rfl,rfl,rfl⟩)) (by omega) (by omega) (hM.ck (ck_below hb)) (fun g z o h1 h2=>hM.gR g z o h1 h2) (by rw [hM.plain.txt];exact hT.txt) h (by omega) (ckSub d i) (fun _ e=>by cases e) (fun hk _ m1 p1 hps hk1 hcell hM1 => ?_) (fun _ p1 h1 h2=>pair_unit hM p1 h1 h2)
 have hn1:m.n=1:=by
  cases d with
  | zero=>obtain ⟨_,e,_⟩:=hM;rw [e] at hps;cases hps
  | succ d=>obtain ⟨_,ms,h1,h2⟩:=hM;rw [h1.1,h2.length,hps];rfl
 obtain ⟨e,g,z,m1',p1',hd,hA,hg,hps',hM1',hce⟩:=hM.part hn1
 obtain rfl:p1'=p1:=by rw [hps] at hps';cases hps';rfl
 -- the part as it lies is the part that the walk reads
 have hmm:m1'=m1:=by
  rw [hA] at hcell
  simp only [Option.map_some,Option.getD_some] at hcell
  have hh:∀ k v v',(mi1 m1)[k]? = some v→(mi1 m1')[k]? = some v'→v=v':=fun k v v' h1 h2=>by
   have e1:=hcell k v h1
   have e2:=ck_below hb _ _ (hce k v' h2)
   rw [e1] at e2
   exact Option.some.inj e2
  have a0:=hh 0 _ _ rfl rfl
  have a1:=hh 1 _ _ rfl rfl
  have a2:=hh 2 _ _ rfl rfl
  have a3:=hh 3 _ _ rfl rfl
  have a4:=hh 4 _ _ rfl rfl
  have a5:=hh 5 _ _ rfl rfl
  have a6:=hh 6 _ _ rfl rfl
  have a7:=hh 7 _ _ rfl rfl
  obtain ⟨x0,x1,x2,x3,x4,x5,x6,x7,x8,x9⟩:=m1
  obtain ⟨y0,y1,y2,y3,y4,y5,y6,y7,y8,y9⟩:=m1'
  simp only [Value.int.injEq,Value.string.injEq,Value.slice.injEq,Value.bool.injEq,true_and] at a0 a1 a2 a3 a4 a5 a6 a7
  obtain ⟨b1,b2,b3⟩:=a3
  subst a0 a1 a2 b1 b2 b3 a4 a5 a6 a7
  rfl
 subst hmm
 subst hd
 have hs:ckSub (e+1) i 60=ckI e 62 p1':=by
  show ckRw (ckI e 60) i.ps=_
  rw [hps]
  unfold ckRw
  rw [if_neg (by simp)]
  simp only [List.findSome?]
  have:ckI e 60 p1'=ckI e 62 p1':=by
   rw [ckI_eq,ckI_eq]
   unfold ckB
   have hh:hasK 60 p1'.knd=hasK 62 p1'.knd:=by
    unfold hasK
    by_cases h0:0<p1'.knd
    · by_cases h8:p1'.knd≤8
      · obtain ⟨n,hn⟩:∃ n:Nat,p1'.knd=(n:Int):=⟨p1'.knd.toNat,by omega⟩
        rw [hn] at h0 h8 hk1 ⊢
        have:n=2∨n=3∨n=4∨n=5∨n=6∨n=7∨n=8:=by omega
        rcases this with rfl | rfl | rfl | rfl | rfl | rfl | rfl <;> decide
      · rw [decide_eq_false h8];simp
    · rw [decide_eq_false h0];rfl
   rw [hh]
  rw [this]
  cases ckI e 62 p1' <;> rfl
 rw [hs]
 refine ⟨(texS p1').data.toList,160000,by omega,fun he => ?_,fun W2 bs2 hw hm hl2 => ?_⟩
 · rw [ckI_eq] at he
   have hk8:p1'.knd≠8:=by have:=hasK_62 (ckB_none he).1;omega
   rw [item_tex hk8]
 · have hmem:p1'∈i.ps:=by rw [hps];exact List.mem_cons_self
   exact lv62 rfl hM1' (hT.part hmem) (hb.trans hm.bel) hw (by omega)
end Go.Proofs
namespace Go.Proofs
open Go.RowKit Go.Shelf
set_option maxRecDepth 100000
attribute [local go_sem] Oper.semAt_some
set_option maxHeartbeats 2000000 in
theorem qrow_bad {W:World} {R:Nat} {bs:List UInt8} {e:Int} (h:WR W R bs e) (he:e≠0) (A:Option Addr) (n c:Nat) (part piece:Bool) (cur:Int):Calls Tryz.prog 122 #[.pointer (some ⟨R,0,none⟩),.slice A n c,.bool part,.bool piece,.int .i64 cur] W (WQ W R bs e):=by
 have H:Hid (WR W R bs e):=h
 by_cases h512:512<n
 · have d1:decide ((512:Int)<(n:Int))=true:=by simp;omega
   have hfc:fc e 52=e:=if_neg he
   clear h h512
   go_enter Tryz.func122,Tryz.ntmps122
   go_wp2_with fail
   refine (qfail_any 52 H.out).mono ?_
   rintro x w2 ⟨rfl,h2,m2⟩
   rw [hfc] at h2
   have HF:Hid (WR w2 R bs e∧MvW W w2 R):=⟨h2,m2⟩
   clear h2 m2
   go_wp2
   first | refine bodyPost_end (results_none rfl _ _ _) rfl ?_ | refine bodyPost_ret (results_none rfl _ _ _) rfl ?_
   exact ⟨rfl,HF.out.1,HF.out.2⟩
 · have d1:decide ((512:Int)<(n:Int))=false:=by simp;omega
   have hn:n≤512:=by omega
   have r1:=h.cells
   have r0:(e == 0)=false:=by simpa using he
   clear h he h512
   by_cases h0:0<n
   · have d2:decide ((0:Int)<(n:Int))=true:=by simpa using h0
     go_enter Tryz.func122,Tryz.ntmps122
     go_wp2_with fail
     refine wp_loop_rounds 1 ?_
     rw [rounds_succ]
     go_wp2
     refine bodyPost_end (results_none rfl _ _ _) rfl ?_
     exact ⟨rfl,H.out,MvW.refl _ _⟩
   · have d2:decide ((0:Int)<(n:Int))=false:=by simpa using h0
     go_enter Tryz.func122,Tryz.ntmps122
     go_wp2_with fail
     refine wp_loop_rounds 1 ?_
     rw [rounds_succ]
     go_wp2
     refine bodyPost_end (results_none rfl _ _ _) rfl ?_
     exact ⟨rfl,H.out,MvW.refl _ _⟩
structure WK (W:World) (R:Nat) (bs ts:List UInt8) (K:Nat) (o:Option Int) (W':World):Prop where
 wp:WP W R bs ts K o W'
 len:o=none→ts.length≤K
 nz:∀ e,o=some e→e≠0
theorem WK.start {W W':World} {R:Nat} {bs:List UInt8} (h:WR W' R bs 0) (hm:MvW W W' R):WK W R bs [] 0 none W':=⟨⟨hm,by rw [List.append_nil];exact h⟩,fun _=>Nat.le_refl _,fun _ h=>by cases h⟩
theorem WK.put {W W':World} {R:Nat} {bs ts:List UInt8} {K:Nat} {o:Option Int} (h:WK W R bs ts K o W') (s:ByteArray) (hl:bs.length+K+s.size≤140737488355328):Calls Tryz.prog 72 #[.pointer (some ⟨R,0,none⟩),.string s] W' fun x W2=>x = .returned (.tuple #[])∧MvW W' W2 R∧WK W R bs (ts++s.data.toList) (K+s.size) o W2:=by
 obtain ⟨⟨hm,hx⟩,h2,h3⟩:=h
 have hs:s.data.toList.length=s.size:=Array.length_toList
 cases o with
 | none=>
  have h2:=h2 rfl
  refine (qput_any s hx (by rw [List.length_append];omega)).mono ?_
  rintro x W2 ⟨rfl,k2,m2⟩
  exact ⟨rfl,m2,⟨hm.trans m2,by rw [←List.append_assoc];exact k2⟩,fun _=>by rw [List.length_append];omega,h3⟩
 | some e=>
  obtain ⟨bs',k1,k3⟩:=hx
  refine (qput_any s k1 (by omega)).mono ?_
  rintro x W2 ⟨rfl,k2,m2⟩
  exact ⟨rfl,m2,⟨hm.trans m2,_,k2,by rw [List.length_append];omega⟩,(fun e=>by cases e),h3⟩
theorem rwJ_len {cur:Int} {B:Nat} {l:List It} (h:∀ i∈l,(texS i).size≤B):∀ j,j≤l.length→(rwJ cur l j).length≤j*(B+3)
 | 0,_=>by simp [rwJ]
 | j+1,hj=>by
  obtain ⟨i,hi⟩:∃ i,l[j]? = some i:=⟨l[j]'(by omega),List.getElem?_eq_getElem _⟩
  have h1:=rwJ_len (cur:=cur) h j (by omega)
  have h2:=sepB_len cur j
  have h3:=h i (List.mem_of_getElem? hi)
  have h4:(texS i).data.toList.length=(texS i).size:=Array.length_toList
  rw [rwJ_succ hi,List.length_append,List.length_append,Nat.add_mul]
  omega
theorem arith3 {x a b K Y:Nat} (h:x≤a+b+Y) (hY:Y≤83000000) (hb:b≤K):x≤a+(K+83000000):=by omega
theorem WK.row {W W1 w:World} {R:Nat} {bs ts:List UInt8} {K d:Nat} {o:Option Int} (h:WK W R bs ts K o W1) (hR:R=w.heap.size) (hb:Below R w W) {A:Option Addr} {n c:Nat} {l:List It} (hI:RdI d w A n l) (hT:∀ i∈l,Tz d i) (hl:bs.length+K≤50000000000000) (piece:Bool) (may:Nat) (hf:(piece=false∧may=62)∨(piece=true∧may=386)) (cur:Int) :
 Calls Tryz.prog 122 #[.pointer (some ⟨R,0,none⟩),.slice A n c,.bool false,.bool piece,.int .i64 cur] W1 fun x W2=>x = .returned (.tuple #[])∧MvW W1 W2 R∧WK W R bs (ts++rwJ cur l l.length) (K+83000000) (o.or (ckRw (ckI d may) l)) W2:=by
 obtain ⟨⟨hm,hx⟩,h2,h3⟩:=h
 cases o with
 | none=>
  have h2:=h2 rfl
  have hb1:Below R w W1:=hb.trans hm.bel
  have hgR:=hI.gR
  have hsm:=fun hc=>row_small (may:=may) hI hc
  obtain ⟨ms,hRd,hA⟩:=hI
  have hck:CK w W1:=ck_below (by rw [←hR];exact hb1)
  refine (qrow_any (ckI d may) (fun i e he h0=>by rcases ckI_nz d may i e he with q | q | q <;> omega) 160200 (by omega) W1 R (bs++ts) A n c ms l (hRd.ck hck) hA.length (fun g z e1 e2=>by rw [hR];exact hgR g z e1 e2) false piece cur hx 50000000000000 (by omega) (by rw [List.length_append];omega) (fun j m i e1 e2 W2 bs2 hb2 hw2 hl2 => ?_) (fun i hi he => ?_)).mono ?_
  · rcases hf with ⟨rfl,rfl⟩ | ⟨rfl,rfl⟩
    · refine (lv62 hR (hA.get e1 e2) (hT i (List.mem_of_getElem? e2)) (hb1.trans hb2) hw2 (by omega)).mono ?_
      rintro x W' ⟨rfl,hq⟩
      exact ⟨rfl,hq.up (by omega)⟩
    · exact lv386 hR (hA.get e1 e2) (hT i (List.mem_of_getElem? e2)) (hb1.trans hb2) hw2 (by omega)
  · obtain ⟨j,hj⟩:=List.getElem?_of_mem hi
    have hjl:j<ms.length:=by have:=hA.length;have:=(List.getElem?_eq_some_iff.1 hj).1;omega
    have:=(hA.get (List.getElem?_eq_getElem hjl) hj).sm he
    omega
  · rintro x W' ⟨rfl,hm2,hq⟩
    refine ⟨rfl,hm2,⟨hm.trans hm2,?_⟩,?_,?_⟩
    · show match (ckRw (ckI d may) l) with | none=>_ | some e=>_
      cases hc:ckRw (ckI d may) l with
      | none=>
       rw [hc] at hq
       rw [←List.append_assoc]
       exact hq
      | some e=>
       rw [hc] at hq
       obtain ⟨bs',q1,q2⟩:=hq
       refine ⟨bs',q1,?_⟩
       rw [List.length_append] at q2
       have q4:512*(160200+3)≤83000000:=by decide
       generalize 512*(160200+3)=Y at q2 q4
       exact arith3 q2 q4 h2
    · intro hc
      have hc:=ckRw_none hc
      have hs:∀ i∈l,(texS i).size≤156000:=fun i hi=>hsm hc.2 _ (List.mem_map.2 ⟨i,hi,rfl⟩)
      have:=rwJ_len (cur:=cur) hs l.length (Nat.le_refl _)
      have:l.length*(156000+3)≤512*(156000+3):=Nat.mul_le_mul_right _ hc.1
      rw [List.length_append]
      clear hq hx hRd hA hck hsm hs hT
      omega
    · intro e he
      have he:ckRw (ckI d may) l=some e:=he
      rcases ckRw_nz he with rfl | rfl | rfl <;> decide
 | some e=>
  obtain ⟨bs',k1,k3⟩:=hx
  refine (qrow_bad k1 (h3 e rfl) A n c false piece cur).mono ?_
  rintro x W2 ⟨rfl,k2,m2⟩
  exact ⟨rfl,m2,⟨hm.trans m2,bs',k2,by omega⟩,(fun e=>by cases e),h3⟩
end Go.Proofs
