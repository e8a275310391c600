/-
  Several texts in one (O0k O1k).
-/
import Derived.Test.YtknaoahokopplaaGreatDoorMhik
namespace Go.Proofs
open Go.RowKit Go.Shelf
def Fst (may:Nat) (ts:List Tok):Prop:=may.testBit (begun (nxt ts))=true
def May4 (may:Nat):Prop:=may.testBit 0=false∧(may.testBit 6=true→may.testBit 1=true)∧(may.testBit 8=true→may.testBit 7=true)
theorem may_78:May4 78:=⟨by decide,by decide,by decide⟩
theorem may_62:May4 62:=⟨by decide,by decide,by decide⟩
theorem may_60:May4 60:=⟨by decide,by decide,by decide⟩
theorem may_386:May4 386:=⟨by decide,by decide,by decide⟩
theorem begun_0 (n:Int) (h:n≠1) (h1:n≠36) (h2:n≠58) (h3:n≠17) (h4:n≠18) (h5:n≠3):begun n=0:=by
 unfold begun
 rw [if_neg h,if_neg h1,if_neg h2,if_neg h3,if_neg h4,if_neg h5]
theorem Fst.ne {may:Nat} (hm:May4 may) {ts:List Tok} (h:Fst may ts) {n:Int} (hn:begun n=0):nxt ts≠n:=by
 intro e
 unfold Fst at h
 rw [e,hn,hm.1] at h
 cases h
theorem which_var (t:ByteArray):which (mk0 ⟨2,0,⟨#[36]⟩++t,0⟩)=36:=by
 unfold which mk0
 rw [if_pos rfl,byte_app]
 rfl
theorem which_cls (t:ByteArray):which (mk0 ⟨2,0,⟨#[58]⟩++t++⟨#[58]⟩,0⟩)=58:=by
 unfold which mk0
 rw [if_pos rfl,show (⟨#[58]⟩++t++⟨#[58]⟩:ByteArray)=⟨#[58]⟩++(t++⟨#[58]⟩) from ByteArray.append_assoc,byte_app]
 rfl
theorem leaf_fst (may:Nat) (hm:May4 may) {i:It} (hk:hasK may i.knd=true) (h5:i.knd≠5) (h8:i.knd≠8) (r:List Tok):Fst may ((tokL i).map mk0++r):=by
 obtain ⟨k,u,t,ps,lo,hi,nt,key⟩:=i
 simp only [It.knd] at hk h5 h8
 obtain ⟨b0,b1,b2⟩:=hasK_bitsN hk
 have hcase:k=1∨k=2∨k=3∨k=4∨k=6∨k=7:=by omega
 unfold Fst
 rcases hcase with rfl | rfl | rfl | rfl | rfl | rfl
 · exact b2
 · show may.testBit (begun (which (mk0 ⟨2,0,⟨#[36]⟩++t,0⟩)))=true
   rw [which_var]
   exact b2
 · show may.testBit (begun (which (mk0 ⟨2,0,⟨#[58]⟩++t++⟨#[58]⟩,0⟩)))=true
   rw [which_cls]
   exact b2
 · exact b2
 · exact hm.2.1 b2
 · exact b2
theorem row_rd0 (e:Int) (may:Nat) (hm:May4 may) {item:List Tok→Res It} (tk:It→List TW) {r:List Tok} (hr:may.testBit (begun (nxt r))=false) (hr2:nxt r≠20) (hr3:nxt r≠22):∀ (l:List It) (d:Nat),l.length≤d→(∀ i∈l,(∀ q,nxt q≠20→nxt q≠22→item ((tk i).map mk0++q) = .ok i q)∧∀ q,Fst may ((tk i).map mk0++q))→rowT e may item d ((l.flatMap tk).map mk0++r) = .ok l r
 | [],0,_,_=>by
  show rowT e may item 0 r=_
  unfold rowT
  rw [if_neg (by rw [hr];decide)]
 | [],d+1,_,_=>by
  show rowT e may item (d+1) r=_
  unfold rowT
  rw [if_neg (by rw [hr];decide)]
 | i::l,0,h,_=>by simp at h
 | i::l,d+1,h,hi=>by
  rw [List.flatMap_cons,List.map_append,List.append_assoc]
  obtain ⟨h1,h2⟩:=hi i (by simp)
  have hq:nxt ((l.flatMap tk).map mk0++r)≠20∧nxt ((l.flatMap tk).map mk0++r)≠22:=by
   cases l with
   | nil=>exact ⟨hr2,hr3⟩
   | cons j l=>
    rw [List.flatMap_cons,List.map_append,List.append_assoc]
    have hf:=(hi j (by simp)).2 ((l.flatMap tk).map mk0++r)
    exact ⟨hf.ne hm (begun_0 20 (by decide) (by decide) (by decide) (by decide) (by decide) (by decide)),hf.ne hm (begun_0 22 (by decide) (by decide) (by decide) (by decide) (by decide) (by decide))⟩
  have hf:may.testBit (begun (nxt ((tk i).map mk0++((l.flatMap tk).map mk0++r))))=true:=h2 _
  rw [rowT,if_pos hf,h1 _ hq.1 hq.2]
  show (rowT e may item d ((l.flatMap tk).map mk0++r)).bind _=_
  rw [row_rd0 e may hm tk hr hr2 hr3 l d (by simp at h;omega) fun x hx=>hi x (List.mem_cons_of_mem _ hx)]
  rfl
theorem row_fst (may:Nat) (tk:It→List TW) (l:List It) (r:List Tok) (h:∀ i∈l,∀ q,Fst may ((tk i).map mk0++q)):nxt ((l.flatMap tk).map mk0++r)=nxt r∨Fst may ((l.flatMap tk).map mk0++r):=by
 cases l with
 | nil=>exact .inl rfl
 | cons i l=>
  rw [List.flatMap_cons,List.map_append,List.append_assoc]
  exact .inr (h i (by simp) _)
theorem parts_rd0 (e:Int) {ps:List It} (hl:ps.length≤512) (hp:∀ p∈ps,∃ d0,ckI d0 78 p=none∧Dp d0 p) {r:List Tok} (hr:nxt r=19):partsT e ((ps.flatMap tokL).map mk0++r) = .ok ps r∧(nxt ((ps.flatMap tokL).map mk0++r)=19∨Fst 78 ((ps.flatMap tokL).map mk0++r)):=by
 have hi:∀ p∈ps,(∀ q,nxt q≠20→nxt q≠22→partT e ((tokL p).map mk0++q) = .ok p q)∧∀ q,Fst 78 ((tokL p).map mk0++q):=fun p hp'=>by
  obtain ⟨d0,k1,k2⟩:=hp p hp'
  obtain ⟨j1,j2,_,_⟩:=ckI_none k1 k2
  have hb:=hasK_bitsN j1
  have n5:p.knd≠5:=fun e=>by rw [e] at hb;exact absurd hb.2.2 (by decide)
  have n8:p.knd≠8:=fun e=>by rw [e] at hb;exact absurd hb.2.2 (by decide)
  refine ⟨fun q h1 h2=>leaf_read e 78 j1 j2 n5 n8 (fun _=>by decide) (fun e6 => ?_) h1 h2,fun q=>leaf_fst 78 may_78 j1 n5 n8 q⟩
  have:ckB 78 p (ckSub d0 p)=none:=by rw [←ckI_eq];exact k1
  unfold ckB at this
  rw [j1,j2] at this
  simp only [Bool.and_self,if_true] at this
  rw [if_neg n5,if_neg n8,if_pos e6] at this
  split at this
  · assumption
  · cases this
 refine ⟨row_rd0 e 78 may_78 tokL (by rw [hr];decide) (by rw [hr];decide) (by rw [hr];decide) ps 512 hl hi,?_⟩
 rcases row_fst 78 tokL ps r fun i h=>(hi i h).2 with h | h
 · exact .inl (by rw [h,hr])
 · exact .inr h
theorem item_rd0 (e:Int) {d may:Nat} (hm:May4 may) {pairs:List Tok→Res It} {sets:List Tok→Res (List It)} (hsets:may.testBit 5=true→sets=partsT e) {i:It} (h:ckI d may i=none) (hD:Dp d i) (n8:i.knd≠8):(∀ q,nxt q≠20→nxt q≠22→itemT e may sets pairs ((tokI i).map mk0++q) = .ok i q)∧∀ q,Fst may ((tokI i).map mk0++q):=by
 obtain ⟨j1,j2,j5,_⟩:=ckI_none h hD
 have hb:=hasK_bitsN j1
 by_cases e5:i.knd=5
 · obtain ⟨l5,p5⟩:=j5 e5
   obtain ⟨k,u,t,ps,lo,hi,nt,key⟩:=i
   have e5:k=5:=e5
   have heq:=(leaf_eq j2).2.2.2.1 e5
   subst e5
   rw [heq]
   have hbit:may.testBit 5=true:=hb.2.2
   refine ⟨fun q _ _ => ?_,fun q=>hbit⟩
   rw [hsets hbit]
   have e1:(tokI (.mk 5 0 ⟨#[]⟩ ps 0 0 nt 0)).map mk0++q=mk0 (sgT 18)::((if nt then [mk0 (sgT 15)] else [])++((ps.flatMap tokL).map mk0++(mk0 (sgT 19)::q))):=by
    have:tokI (.mk 5 0 ⟨#[]⟩ ps 0 0 nt 0)=tokS nt ps:=by
     unfold tokI
     simp only [if_true]
    rw [this]
    unfold tokS
    cases nt <;> simp
   rw [e1]
   obtain ⟨r1,r2⟩:=parts_rd0 (ps:=ps) e l5 p5 (r:=mk0 (sgT 19)::q) rfl
   obtain ⟨P,hP⟩:∃ P,(ps.flatMap tokL).map mk0++(mk0 (sgT 19)::q)=P:=⟨_,rfl⟩
   rw [hP] at r1 r2 ⊢
   have hw:which (mk0 (sgT 18))=18:=rfl
   have hpass:passT 15 ((if nt then [mk0 (sgT 15)] else [])++P)=(nt,P):=by
    cases nt with
    | true=>rfl
    | false=>
     have hn:nxt P≠15:=by
      rcases r2 with h | h
      · rw [h];decide
      · exact h.ne may_78 (begun_0 15 (by decide) (by decide) (by decide) (by decide) (by decide) (by decide))
     show passT 15 P=_
     unfold passT
     rw [if_neg hn]
   unfold itemT restT
   simp only
   rw [hw,if_pos (show may.testBit (begun 18)=true from hbit)]
   show ((partsT e (passT 15 _).2).bind _)=_
   rw [hpass,r1]
   rfl
 · obtain ⟨k,u,t,ps,lo,hi,nt,key⟩:=i
   have e5':k≠5:=e5
   have eI:tokI (.mk k u t ps lo hi nt key)=tokL (.mk k u t ps lo hi nt key):=by
    unfold tokI
    simp only
    rw [if_neg e5']
   rw [eI]
   refine ⟨fun q h1 h2=>leaf_read e may j1 j2 e5 n8 hm.2.1 (fun e6 => ?_) h1 h2,fun q=>leaf_fst may hm j1 e5 n8 q⟩
   have:ckB may (.mk k u t ps lo hi nt key) (ckSub d (.mk k u t ps lo hi nt key))=none:=by rw [←ckI_eq];exact h
   unfold ckB at this
   rw [j1,j2] at this
   simp only [Bool.and_self,if_true] at this
   rw [if_neg e5,if_neg n8,if_pos e6] at this
   split at this
   · assumption
   · cases this
theorem side_rd0 (e:Int) {d may:Nat} (hm:May4 may) (h8:may.testBit 8=false) {i:It} (h:ckI d may i=none) (hD:Dp d i):(∀ q,nxt q≠20→nxt q≠22→sideT e may ((tokT i).map mk0++q) = .ok i q)∧∀ q,Fst may ((tokT i).map mk0++q):=by
 have n8:i.knd≠8:=fun e=>by
  have:=(hasK_bitsN (ckI_none h hD).1).2.2
  rw [e] at this
  rw [show (8:Int).toNat=8 from rfl,h8] at this
  cases this
 obtain ⟨k,u,t,ps,lo,hi,nt,key⟩:=i
 have eT:tokT (.mk k u t ps lo hi nt key)=tokI (.mk k u t ps lo hi nt key):=by
  unfold tokT
  simp only
  rw [if_neg (show k≠8 from n8)]
 rw [eT]
 exact item_rd0 e hm (fun _=>rfl) h hD n8
theorem piece_rd0 (e:Int) {d:Nat} {i:It} (h:ckI d 386 i=none) (hD:Dp d i):(∀ q,nxt q≠20→nxt q≠22→pieceT e ((tokT i).map mk0++q) = .ok i q)∧∀ q,Fst 386 ((tokT i).map mk0++q):=by
 obtain ⟨j1,j2,_,j8⟩:=ckI_none h hD
 by_cases e8:i.knd=8
 · have p8:=j8 e8
   obtain ⟨k,u,t,ps,lo,hi,nt,key⟩:=i
   have e8:k=8:=e8
   obtain ⟨p,heq⟩:=(leaf_eq j2).2.2.2.2.2.2 e8
   obtain rfl:ps=[p]:=by injection heq
   subst e8
   rw [heq]
   obtain ⟨d0,c1,c2⟩:=p8 p (by simp [It.ps])
   have np:p.knd≠8:=fun e=>by
    have:=(hasK_bitsN (ckI_none c1 c2).1).2.2
    rw [e] at this
    exact absurd this (by decide)
   have hp:=item_rd0 e (pairs:=noItem) (sets:=partsT e) may_60 (fun _=>rfl) c1 c2 np
   refine ⟨fun q h1 h2 => ?_,fun q=>show Nat.testBit 386 (begun 3)=true by decide⟩
   have e1:(tokT (.mk 8 0 ⟨#[]⟩ [p] 0 0 false key)).map mk0++q=mk0 ⟨3,0,⟨#[]⟩,key⟩::mk0 (sgT 22)::((tokI p).map mk0++q):=by
    have:tokT (.mk 8 0 ⟨#[]⟩ [p] 0 0 false key)=⟨3,0,⟨#[]⟩,key⟩::sgT 22::tokI p:=by
     unfold tokT
     simp only [if_true]
     rfl
    rw [this]
    rfl
   rw [e1]
   have hw:which (mk0 ⟨3,0,⟨#[]⟩,key⟩)=3:=rfl
   unfold pieceT itemT restT
   simp only
   rw [hw,if_pos (show Nat.testBit 386 (begun 3)=true by decide)]
   rw [if_pos (show nxt (mk0 (sgT 22)::((tokI p).map mk0++q))=22 from rfl)]
   show (sideT e 60 ((tokI p).map mk0++q)).bind _=_
   have:=hp.1 q h1 h2
   unfold sideT
   rw [this]
   rfl
 · have e8':=e8
   obtain ⟨k,u,t,ps,lo,hi,nt,key⟩:=i
   have eT:tokT (.mk k u t ps lo hi nt key)=tokI (.mk k u t ps lo hi nt key):=by
    unfold tokT
    simp only
    rw [if_neg (show k≠8 from e8)]
   rw [eT]
   exact item_rd0 e may_386 (fun h=>absurd h (by decide)) h hD e8'
end Go.Proofs
namespace Go.Proofs
open Go.RowKit Go.Shelf
abbrev rw0 (l:List It):List Tok:=(l.flatMap tokT).map mk0
theorem sides_rd0 (e:Int) {d:Nat} {l:List It} (hc:ckRw (ckI d 62) l=none) (hD:∀ i∈l,Dp d i) {r:List Tok} (hr:Nat.testBit 62 (begun (nxt r))=false) (hr2:nxt r≠20) (hr3:nxt r≠22):sidesT e (rw0 l++r) = .ok l r∧(nxt (rw0 l++r)=nxt r∨Fst 62 (rw0 l++r)):=by
 obtain ⟨hl,hi⟩:=ckRw_noneN hc
 exact ⟨row_rd0 e 62 may_62 tokT hr hr2 hr3 l 512 hl fun i h=>side_rd0 e may_62 (by decide) (hi i h) (hD i h),row_fst 62 tokT l r fun i h=>(side_rd0 e may_62 (by decide) (hi i h) (hD i h)).2⟩
theorem result_rd0 (e:Int) {d D:Nat} {l:List It} (hl:l.length≤D) (hi:∀ i∈l,ckI d 386 i=none∧Dp d i) {r:List Tok} (hr:Nat.testBit 386 (begun (nxt r))=false) (hr2:nxt r≠20) (hr3:nxt r≠22):resultT e D (rw0 l++r) = .ok l r:=
 row_rd0 e 386 may_386 tokT hr hr2 hr3 l D hl fun i h=>piece_rd0 e (hi i h).1 (hi i h).2
abbrev sg0 (n:Int):Tok:=mk0 (sgT n)
theorem tail_rd0 (e:Int) {d:Nat} {l:List It} {cur:Int} (h0:0≤cur) (hcur:cur≤(l.length:Int)) (hc:ckRw (ckI d 386) l=none) (hD:∀ i∈l,Dp d i) {r:List Tok} (hr:nxt r=11):tailT e (rw0 (l.take cur.toNat)++((if cur.toNat<l.length then sg0 14::rw0 (l.drop cur.toNat) else [])++r)) = .ok (l,cur) r:=by
 obtain ⟨hl,hi⟩:=ckRw_noneN hc
 have ht:∀ i∈l.take cur.toNat,ckI d 386 i=none∧Dp d i:=fun i h=>⟨hi i (List.take_subset _ _ h),hD i (List.take_subset _ _ h)⟩
 have hd:∀ i∈l.drop cur.toNat,ckI d 386 i=none∧Dp d i:=fun i h=>⟨hi i (List.drop_subset _ _ h),hD i (List.drop_subset _ _ h)⟩
 unfold tailT
 by_cases hq:cur.toNat<l.length
 · rw [if_pos hq]
   have e1:nxt (sg0 14::rw0 (l.drop cur.toNat)++r)=14:=rfl
   have h1:=result_rd0 e (D:=512) (l:=l.take cur.toNat) (by rw [List.length_take];omega) ht (r:=sg0 14::rw0 (l.drop cur.toNat)++r) (by rw [e1];decide) (by rw [e1];decide) (by rw [e1];decide)
   rw [h1]
   simp only [Res.bind]
   rw [if_pos e1]
   simp only [List.cons_append,List.tail_cons]
   rw [result_rd0 e (D:=512 - (l.take cur.toNat).length) (l:=l.drop cur.toNat) (by rw [List.length_take,List.length_drop];omega) hd (by rw [hr];decide) (by rw [hr];decide) (by rw [hr];decide)]
   show Res.ok (l.take cur.toNat++l.drop cur.toNat,((l.take cur.toNat).length:Int)) r=_
   rw [List.take_append_drop,List.length_take,Nat.min_eq_left (by omega),Int.toNat_of_nonneg h0]
 · rw [if_neg hq]
   have e1:l.take cur.toNat=l:=List.take_of_length_le (by omega)
   rw [e1,List.nil_append,result_rd0 e (D:=512) (l:=l) hl (fun i h=>⟨hi i h,hD i h⟩) (by rw [hr];decide) (by rw [hr];decide) (by rw [hr];decide)]
   simp only [Res.bind]
   rw [if_neg (by rw [hr];decide)]
   show Res.ok (l,(l.length:Int)) r=_
   rw [show (l.length:Int)=cur by omega]
def ruleTk (l:Ln) (r:List Tok):List Tok:=
 (if l.bg then [sg0 15] else [])++(rw0 l.ante++((if l.bg || decide (0<l.ante.length) then [sg0 12] else [])++(rw0 l.key++((if l.en || decide (0<l.post.length) then [sg0 13] else [])++(rw0 l.post++((if l.en then [sg0 16] else [])++(sg0 10::(rw0 (l.res.take l.cur.toNat)++((if l.cur.toNat<l.res.length then sg0 14::rw0 (l.res.drop l.cur.toNat) else [])++r)))))))))
theorem pT_flat (l:List It):(l.map pT).flatMap Prod.snd=l.flatMap tokT:=by
 induction l with
 | nil=>rfl
 | cons i l ih=>rw [List.map_cons,List.flatMap_cons,List.flatMap_cons,ih];rfl
theorem ruleTk_eq (l:Ln) (h1:l.k≠1) (r:List Tok):((lineP l).flatMap Prod.snd).map mk0++r=ruleTk l r:=by
 unfold lineP ruleTk rw0
 rw [if_neg h1]
 simp only [List.flatMap_append,List.map_append,pT_flat,List.append_assoc]
 congr 1
 · cases l.bg <;> rfl
 congr 1
 congr 1
 · cases (l.bg || decide (0<l.ante.length)) <;> rfl
 congr 1
 congr 1
 · cases (l.en || decide (0<l.post.length)) <;> rfl
 congr 1
 congr 1
 · cases l.en <;> rfl
 have e10:(List.flatMap Prod.snd [pS 62 10]).map mk0=[sg0 10]:=rfl
 rw [e10,List.singleton_append]
 congr 1
 congr 1
 by_cases hq:l.cur.toNat<l.res.length
 · rw [if_pos hq,if_pos hq,List.flatMap_append,List.map_append,pT_flat,List.append_assoc]
   rfl
 · rw [if_neg hq,if_neg hq]
   rfl
theorem post_rd0 (e:Int) {d:Nat} {en:Bool} {po:List It} (hc:ckRw (ckI d 62) po=none) (hD:∀ i∈po,Dp d i) (R:List Tok):postT e ((if en || decide (0<po.length) then [sg0 13] else [])++(rw0 po++((if en then [sg0 16] else [])++(sg0 10::R)))) = .ok (po,en) (sg0 10::R):=by
 unfold postT
 by_cases hb:(en || decide (0<po.length))=true
 · rw [if_pos hb]
   have hn:nxt ((if en then [sg0 16] else [])++(sg0 10::R))=if en then 16 else 10:=by cases en <;> rfl
   have hs:=(sides_rd0 e hc hD (r:=(if en then [sg0 16] else [])++(sg0 10::R)) (by rw [hn];cases en <;> decide) (by rw [hn];cases en <;> decide) (by rw [hn];cases en <;> decide)).1
   rw [if_pos (show nxt ([sg0 13]++(rw0 po++((if en then [sg0 16] else [])++(sg0 10::R))))=13 from rfl)]
   show ((sidesT e (rw0 po++((if en then [sg0 16] else [])++(sg0 10::R)))).bind _)=_
   rw [hs]
   show Res.ok (po,(passT 16 _).1) (passT 16 _).2=_
   cases en <;> rfl
 · rw [if_neg hb]
   rw [Bool.or_eq_true] at hb
   have he:en=false:=by
    cases en with
    | false=>rfl
    | true=>exact absurd (.inl rfl) hb
   have hp:po=[]:=by
    cases po with
    | nil=>rfl
    | cons x l=>exact absurd (.inr (by simp)) hb
   subst he hp
   rfl
theorem rule_rd0 (e:Int) {d:Nat} {l:Ln} (h:ckLn d l=none) (hD:DpL d l) (h2:l.k=2) {r:List Tok} (hr:nxt r=11):ruleT e (ruleTk l r) = .ok { l with a:=0 } r:=by
 obtain ⟨hs,c1,c2,c3,c4⟩:=ckLn_noneN h
 unfold stL lnM at hs
 simp only at hs
 rw [if_neg (by omega),if_neg (by omega),if_pos h2] at hs
 simp only [Bool.and_eq_true,decide_eq_true_eq] at hs
 have ht:l.t=⟨#[]⟩:=bytes_nil (by have:=hs.1;unfold emptyB at this;exact List.eq_nil_of_length_eq_zero (by simpa using this))
 obtain ⟨k,a,t,bg,en,an,ky,po,rs,cur⟩:=l
 simp only at h2 ht c1 c2 c3 c4 hs
 subst h2 ht
 obtain ⟨D1,D2,D3,D4⟩:=hD
 simp only at D1 D2 D3 D4
 unfold ruleTk
 simp only
 obtain ⟨R,hR⟩:∃ R,rw0 (rs.take cur.toNat)++((if cur.toNat<rs.length then sg0 14::rw0 (rs.drop cur.toNat) else [])++r)=R:=⟨_,rfl⟩
 have hT:=tail_rd0 e hs.2.1 hs.2.2 c4 D4 hr
 rw [hR] at hT ⊢
 have hP:=post_rd0 (en:=en) e c3 D3 R
 obtain ⟨P,hPe⟩:∃ P,(if en || decide (0<po.length) then [sg0 13] else [])++(rw0 po++((if en then [sg0 16] else [])++(sg0 10::R)))=P:=⟨_,rfl⟩
 rw [hPe] at hP ⊢
 have hn:nxt P=13∨nxt P=10:=by
  rw [←hPe]
  by_cases hb:(en || decide (0<po.length))=true
  · rw [if_pos hb];exact .inl rfl
  · rw [if_neg hb]
    rw [Bool.or_eq_true] at hb
    have he:en=false:=by
     cases en with
     | false=>rfl
     | true=>exact absurd (.inl rfl) hb
    have hp:po=[]:=by
     cases po with
     | nil=>rfl
     | cons x l=>exact absurd (.inr (by simp)) hb
    subst he hp
    exact .inr rfl
 have nP:Nat.testBit 62 (begun (nxt P))=false∧nxt P≠20∧nxt P≠22∧nxt P≠12∧nxt P≠15:=by rcases hn with h | h <;> rw [h] <;> decide
 have hK:=sides_rd0 e c2 D2 (r:=P) nP.1 nP.2.1 nP.2.2.1
 obtain ⟨K,hKe⟩:∃ K,rw0 ky++P=K:=⟨_,rfl⟩
 rw [hKe] at hK ⊢
 have hw10:wantT e 10 (sg0 10::R) = .ok () R:=rfl
 have n12:nxt (sg0 12::K)=12:=rfl
 have fin:∀ (bg:Bool) (x:List It) (y:List It) (q:List Tok),((anteT e bg x q).bind fun ak r2=>(postT e r2).bind fun pe r3=>(wantT e 10 r3).bind fun _ r4=>(tailT e r4).bind fun rc r5=>Res.ok (⟨2,0,⟨#[]⟩,bg,pe.2,ak.1,ak.2,pe.1,rc.1,rc.2⟩:Ln) r5) = .ok ⟨2,0,⟨#[]⟩,bg,en,x,y,po,rs,cur⟩ r∨anteT e bg x q ≠ .ok (x,y) P:=fun bg x y q=>by
  by_cases hh:anteT e bg x q = .ok (x,y) P
  · refine .inl ?_
    rw [hh]
    simp only [Res.bind]
    rw [hP]
    simp only
    rw [hw10]
    simp only
    rw [hT]
  · exact .inr hh
 by_cases hb:(bg || decide (0<an.length))=true
 · rw [if_pos hb]
   have hA:=sides_rd0 e c1 D1 (r:=sg0 12::K) (by rw [n12];decide) (by rw [n12];decide) (by rw [n12];decide)
   obtain ⟨A,hAe⟩:∃ A,rw0 an++(sg0 12::K)=A:=⟨_,rfl⟩
   have e0:rw0 an++([sg0 12]++K)=A:=hAe
   rw [hAe] at hA
   rw [e0]
   have n15:nxt A≠15:=by
    rcases hA.2 with h | h
    · rw [h,n12];decide
    · exact h.ne may_62 (begun_0 15 (by decide) (by decide) (by decide) (by decide) (by decide) (by decide))
   have hpass:passT 15 ((if bg then [sg0 15] else [])++A)=(bg,A):=by
    cases bg with
    | true=>rfl
    | false=>
     show passT 15 A=_
     unfold passT
     rw [if_neg n15]
   have hante:anteT e bg an (sg0 12::K) = .ok (an,ky) P:=by
    unfold anteT
    rw [if_pos (by show (bg || ((12:Int) == 12))=true;cases bg <;> rfl)]
    show ((sidesT e K).bind _)=_
    rw [hK.1]
    rfl
   unfold ruleT
   rw [hpass]
   show ((sidesT e A).bind _)=_
   rw [hA.1]
   exact (fin bg an ky (sg0 12::K)).resolve_right fun h=>h hante
 · rw [if_neg hb]
   rw [Bool.or_eq_true] at hb
   have he:bg=false:=by
    cases bg with
    | false=>rfl
    | true=>exact absurd (.inl rfl) hb
   have hp:an=[]:=by
    cases an with
    | nil=>rfl
    | cons x l=>exact absurd (.inr (by simp)) hb
   subst he hp
   have n15:nxt K≠15:=by
    rcases hK.2 with h | h
    · rw [h];exact nP.2.2.2.2
    · exact h.ne may_62 (begun_0 15 (by decide) (by decide) (by decide) (by decide) (by decide) (by decide))
   have hpass:passT 15 K=(false,K):=by
    unfold passT
    rw [if_neg n15]
   have hante:anteT e false ky P = .ok ([],ky) P:=by
    unfold anteT
    rw [if_neg (by rw [Bool.false_or,beq_iff_eq];exact nP.2.2.2.1)]
   show ruleT e K=_
   unfold ruleT
   rw [hpass]
   show ((sidesT e K).bind _)=_
   rw [hK.1]
   show ((anteT e false ky P).bind _)=_
   rw [hante]
   simp only [Res.bind]
   rw [hP]
   simp only
   rw [hw10]
   simp only
   rw [hT]
end Go.Proofs
