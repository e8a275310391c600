/-
  parted 47: the document's: what is in all, and not gone unless it never was.
-/
import Derived.Test.YtcfcjljapamcoaaGreatDoorMpvv
namespace Go.Proofs
open Go.RowKit Go.Shelf
set_option maxRecDepth 100000
attribute [local go_sem] Oper.semAt_some
theorem endsL_mem {l:List (Int × Int)} {x:Int × Int} (hx:x∈l):x.1∈endsL l∧x.2+1∈endsL l:=by
 unfold endsL
 exact ⟨List.mem_flatMap.2 ⟨x,hx,by simp⟩,List.mem_flatMap.2 ⟨x,hx,by simp⟩⟩
theorem endsL_of {l:List (Int × Int)} {y:Int} (hl:∀ x∈l,Bdr x) (hy:y∈endsL l):0≤y∧y≤2000001:=by
 obtain ⟨x,hx,h⟩:=List.mem_flatMap.1 hy
 have:=hl x hx
 unfold Bdr at this
 simp at h
 omega
theorem step_push3 {ops:Array Oper} {o:Oper} {a:Act} {K:Act→World→Prop} {Q:Exit→Act→World→Prop} {E:Prop} {w:World} (hgd:o.guard=none) (s x:Operand) (t:TypeId)
 (ho:o.op = .call { callee := .builtin .append,args:=#[s,x],argTypes:=#[t,t] }) (ht:Tryz.prog.underlying t=some (.slice 3))
 (base:Nat) (v:Value) (l:List Int) (hs:a.eval s=v) (hown:OwnI w base v l) (g c:Nat) (p q:Int) (hx:a.eval x = .slice (some ⟨g,0,none⟩) 2 c)
 (hp:w.cell? ⟨g,0,none⟩=some (.int .i64 p)) (hq:w.cell? ⟨g,1,none⟩=some (.int .i64 q)) (hl:l.length+2≤8796093022208) (hbase:base≤w.heap.size)
 (h:∀ b c' w',OwnI w' base (.slice (some ⟨b,0,none⟩) (l.length+2) c') (l++[p,q])→w.grownBy w' v.ownBlock→(v.ownBlock=some b∨b=w.heap.size)→K (a.put o.dst (.slice (some ⟨b,0,none⟩) (l.length+2) c')) w'):if Region.wanted o (yielded ops a.tmps)=true then Oper.wp Tryz.prog o a w K Q else E:=by
 obtain ⟨i0,hi,hz0,hz1,hz2⟩:=info_parts iinfo3
 refine step_append_lies w hgd s x t ho base 3 i0 (.int .i64 0) 1 8 ht hi hz0 hz1 hz2 rfl (by decide) v l.length (ints l) hs hown ⟨g,0,none⟩ 2 c (ints [p,q]) hx rfl ?_ (fun u hu=>by simp [ints] at hu;rcases hu with rfl | rfl <;> rfl) (by omega) (by unfold maxLen;omega) (by omega) hbase _ rfl (fun g' cap w' h2 h3 h4 _=>h _ _ w' ?_ h3 h4)
 · intro j u hj
   match j,hj with
   | 0,hj=>simp [ints] at hj;subst hj;exact hp
   | 1,hj=>simp [ints] at hj;subst hj;exact hq
 · unfold OwnI
   rw [ints_append,List.length_append]
   exact h2
structure PtI (w wr:World) (v lv:Value) (l:List (Int × Int)) (k:Nat):Prop where
 own:OwnI wr w.heap.size v (endsL (l.take k))
 row:OwnR wr (w.heap.size+1) lv l
 bel:Below w.heap.size w wr
 off:∀ b,v.ownBlock=some b→lv.ownBlock≠some b
theorem PtI.grown {w wr W:World} {v lv:Value} {l:List (Int × Int)} {k:Nat} (h:PtI w wr v lv l k) (hg:Grown wr W):PtI w W v lv l k∧w.heap.size≤W.heap.size:=
 ⟨⟨h.own.below hg.below (Nat.le_refl _),h.row.below hg.below (Nat.le_refl _),h.bel.trans (hg.below.mono h.bel.size),h.off⟩,Nat.le_trans h.bel.size hg.below.size⟩
theorem PtI.push {w W w':World} {v lv:Value} {l:List (Int × Int)} {k b n c:Nat} {x y:Int} (h:PtI w W v lv l k) (hk:k<l.length) (hx:rg l k=(x,y)) (hO:OwnI w' w.heap.size (.slice (some ⟨b,0,none⟩) n c) (endsL (l.take k)++[x,y+1])) (hg:W.grownBy w' v.ownBlock) (hr:v.ownBlock=some b∨b=W.heap.size):PtI w w' (.slice (some ⟨b,0,none⟩) n c) lv l (k+1):=by
 refine ⟨by rw [endsL_succ hk,hx];exact hO,h.row.kept hg ?_,h.bel.grown hg h.bel.size (fun k hk=>(World.ownsRow.lt h.own k hk).1),fun b' hb' e => ?_⟩
 · rcases e:lv.ownBlock with _ | b'
   · exact .inl rfl
   · exact .inr fun e2=>h.off b' e2.symm e
 · have hb':some b=some b':=hb'
   injection hb' with hb'
   subst hb'
   rcases hr with hr | hr
   · exact h.off b hr e
   · have:=(World.ownsRow.lt h.row b e).2
     omega
def PtL (w W:World) (v:Value) (l:List (Int × Int)):Prop:=OwnR W (w.heap.size+1) v l∧Below w.heap.size w W∧OwnI W w.heap.size (.slice (some ⟨w.heap.size,0,none⟩) 0 0) []∧w.heap.size+1≤W.heap.size
theorem ptB {w W W':World} {v v':Value} {l l':List (Int × Int)} (hO:OwnR W' (w.heap.size+1) v' l') (hg:W.grownBy W' v.ownBlock) (h:PtL w W v l):Hid (PtL w W' v' l'):=by
 obtain ⟨h1,h2,h3,h4⟩:=h
 have hb:=fun k hk=>(World.ownsRow.lt h1 k hk).1
 have hne:∀ k,v.ownBlock=some k→k≠w.heap.size:=fun k hk e=>by have:=hb k hk;omega
 refine ⟨hO,h2.grown hg (by omega) (fun k hk=>by have:=hb k hk;omega),World.ownsRow.kept h3 hg (.inr fun e => ?_),Nat.le_trans h4 hg.size⟩
 exact hne w.heap.size (by rw [←e];rfl) rfl
theorem ptCell {W:World} {A:Option Addr} {M c i:Nat} {L:List Int} (h:IR W (.slice A M c) L) (hM:L.length=M) (hi:i+1<M):∃ g o,A=some ⟨g,o,none⟩∧W.cell? ⟨g,o+i,none⟩=some (.int .i64 (bAt L i))∧W.cell? ⟨g,o+(i+1),none⟩=some (.int .i64 (bAt L (i+1))):=by
 obtain ⟨A',c',e,_,h⟩:=h
 injection e with e1
 subst e1
 obtain ⟨g,o,rfl,hd⟩:=h.resolve_left (fun e=>by rw [e] at hM;simp at hM;omega)
 have h1:=hd i (by omega)
 have h2:=hd (i+1) (by omega)
 rw [←bAt_lt] at h1 h2
 exact ⟨g,o,rfl,h1,h2⟩
structure PtK (w W:World) (v:Value) (L:List Int):Prop where
 ir:IR W v L
 bel:Below w.heap.size w W
theorem PtK.below {w W W':World} {v:Value} {L:List Int} (h:PtK w W v L) (hb:Below W.heap.size W W'):PtK w W' v L:=⟨h.ir.below hb (Nat.le_refl _),h.bel.trans (hb.mono h.bel.size)⟩
def ptU (a g n:List (Int × Int)) (u:Int):Prop:=inL a u=true∧¬ (inL g u=true∧¬ inL n u=true)
def PtO (w8 W:World) (vo:Value) (L:List Int) (K:Nat→Bool) (i:Nat):Prop:=∃ out,ParI L K i out∧OwnR W w8.heap.size vo out∧out.length≤i∧Below w8.heap.size w8 W
theorem PtO.grown {w8 W W':World} {v:Value} {L:List Int} {K:Nat→Bool} {i:Nat} (h:PtO w8 W v L K i) (hg:Grown W W'):PtO w8 W' v L K i:=by
 obtain ⟨out,h1,h2,h3,h4⟩:=h
 exact ⟨out,h1,h2.below hg.below (Nat.le_refl _),h3,h4.trans (hg.below.mono h4.size)⟩
theorem PtO.tell {w8 wr W w':World} {v v':Value} {L:List Int} {K:Nat→Bool} {i:Nat} {out:List (Int × Int)} {x y:Int} (hP:L.Pairwise (· < ·)) (hp:ParI L K i out) (hi:i+1<L.length) (hk:K i=true) (hn:∀ e,out.getLast? = some e→e.2+1≠bAt L i) (hx:bAt L i=x) (hy:bAt L (i+1)=y) (hl:out.length≤i) (ho:OwnR wr w8.heap.size v out) (hb:Below w8.heap.size w8 wr) (hg:Grown wr W)
 (hO:OwnR w' w8.heap.size v' (out++[(x,y - 1)])) (hg2:W.grownBy w' v.ownBlock):PtO w8 w' v' L K (i+1):=by
 have h1:=hb.trans (hg.below.mono hb.size)
 subst hx hy
 exact ⟨_,hp.new hP hi hk hn,hO,by simp only [List.length_append,List.length_singleton];omega,h1.grown hg2 h1.size fun k hk=>(World.ownsRow.lt ho k hk).1⟩
theorem PtO.join {w8 wr W:World} {g n c S:Nat} {L:List Int} {K:Nat→Bool} {i:Nat} {s:List (Int × Int)} {e:Int × Int} {x y:Int} (hP:L.Pairwise (· < ·)) (hp:ParI L K i (s++[e])) (hi:i+1<L.length) (hk:K i=true) (hn:e.2+1=x) (hx:bAt L i=x) (hy:bAt L (i+1)=y) (hl:(s++[e]).length≤i) (hS:s.length=S) (ho:OwnR wr w8.heap.size (.slice (some ⟨g,0,none⟩) n c) (s++[e])) (hb:Below w8.heap.size w8 wr) (hg:Grown wr W) :
 PtO w8 (W.setCell ⟨g,S*2+1,none⟩ (.int .i64 (y - 1))) (.slice (some ⟨g,0,none⟩) n c) L K (i+1):=by
 have h1:=hb.trans (hg.below.mono hb.size)
 subst hx hy hS
 refine ⟨_,hp.join hP hi hk hn,((ho.below hg.below (Nat.le_refl _)).last _).1,by simp only [List.length_append,List.length_singleton] at hl ⊢;omega,h1.setCell (World.ownsRow.lt ho g rfl).1 _⟩
theorem OwnR.addr {W:World} {base n c:Nat} {A:Option Addr} {s:List (Int × Int)} {e:Int × Int} (h:OwnR W base (.slice A n c) (s++[e])):∃ g,A=some ⟨g,0,none⟩:=by
 rcases h.2 with ⟨_,h0⟩ | ⟨g,cap,cur,h1,_⟩
 · simp at h0
 · injection h1 with h1
   exact ⟨g,h1⟩
set_option maxHeartbeats 16000000 in
theorem parted_any (av gv nv:Value) (a g n:List (Int × Int)) (w:World) (ha:Rs w av a) (hg:Rs w gv g) (hn:Rs w nv n) (la:a.length≤100) (lg:g.length≤140000) (ln:n.length≤140000) (hb:∀ x∈a++g++n,Bdr x) :
 Calls Tryz.prog 47 #[av,gv,nv] w fun e w'=>∃ y1 y2 y3 out,e = .returned (.slice y1 y2 y3)∧OwnR w' w.heap.size (.slice y1 y2 y3) out∧Below w.heap.size w w'∧Up out∧∀ u,inL out u=true↔ptU a g n u:=by
 have HS:Hid (∀ W,Below w.heap.size w W→Rs W av a∧Rs W gv g∧Rs W nv n):=fun W h=>⟨ha.below h (Nat.le_refl _),hg.below h (Nat.le_refl _),hn.below h (Nat.le_refl _)⟩
 have HB:Hid (∀ x∈a++g++n,Bdr x):=hb
 obtain ⟨a1,a3,rfl,-,-⟩:=ha
 obtain ⟨g1,g3,rfl,-,-⟩:=hg
 obtain ⟨n1,n3,rfl,-,-⟩:=hn
 obtain ⟨na,hna⟩:∃ na,a.length=na:=⟨_,rfl⟩
 obtain ⟨ng,hng⟩:∃ ng,g.length=ng:=⟨_,rfl⟩
 obtain ⟨nn,hnn⟩:∃ nn,n.length=nn:=⟨_,rfl⟩
 have HLN:Hid (a.length=na∧g.length=ng∧n.length=nn):=⟨hna,hng,hnn⟩
 have HLN':Hid ((a++g).length=na+ng∧(a++g++n).length=na+ng+nn):=by
  refine ⟨?_,?_⟩ <;> simp only [List.length_append] <;> omega
 rw [hna,hng,hnn] at HS
 rw [hna] at la ⊢
 rw [hng] at lg ⊢
 rw [hnn] at ln ⊢
 clear hb hna hng hnn
 have HL1:Hid (PtL w ((w.alloc (.cells #[] 3)).alloc (.cells #[] 67)) (.slice (some ⟨w.heap.size+1,0,none⟩) 0 0) []):=by
  have h1:=World.ownsRow_lit (base:=w.heap.size+1) (e:=67) (size:=2) (w.alloc (.cells #[] 3)) #[] 0 (by rw [World.size_alloc];omega) (by unfold maxLen;omega) rfl
  have h2:OwnI (w.alloc (.cells #[] 3)) w.heap.size (.slice (some ⟨w.heap.size,0,none⟩) 0 0) []:=World.ownsRow_lit (base:=w.heap.size) (e:=3) (size:=1) w #[] 0 (Nat.le_refl _) (by unfold maxLen;omega) rfl
  rw [World.size_alloc] at h1
  exact ⟨h1,((Below.refl _ w).alloc (Nat.le_refl _) _).alloc (by rw [World.size_alloc];omega) _,h2.alloc _,by rw [World.size_alloc,World.size_alloc];omega⟩
 go_enter Tryz.func47,Tryz.ntmps47
 go_wp2_with (first
  | (refine app_Rs rfl (.tmp 18) (.tmp 19) 40 (.inr rfl) rfl (w.heap.size+1) _ _ [] a rfl HL1.out.1 rfl (HS.out _ HL1.out.2.1).1 (by simp;have:=HLN.out.1;omega) HL1.out.2.2.2 ?_;intro y1 y3 wA hO hg;rw [List.nil_append,HLN.out.1] at hO ⊢;have HA:=ptB hO hg HL1.out;clear hO hg)
  | (refine app_Rs rfl (.tmp 20) (.tmp 21) 39 (.inl rfl) rfl (w.heap.size+1) _ _ a g rfl HA.out.1 rfl (HS.out _ HA.out.2.1).2.1 (by have:=HLN.out.1;have:=HLN.out.2.1;omega) HA.out.2.2.2 ?_;intro y4 y6 wB hO hg;rw [HLN'.out.1] at hO ⊢;have HC:=ptB hO hg HA.out;clear hO hg)
  | (refine app_Rs rfl (.tmp 22) (.tmp 23) 39 (.inl rfl) rfl (w.heap.size+1) _ _ (a++g) n rfl HC.out.1 rfl (HS.out _ HC.out.2.1).2.2 (by have:=HLN'.out.1;have:=HLN.out.2.2;omega) HC.out.2.2.2 ?_;intro y7 y9 wC hO hg;rw [HLN'.out.2] at hO ⊢;have HD:=ptB hO hg HC.out;clear hO hg))
 obtain ⟨m,hm⟩:∃ m,na+ng+nn=m:=⟨_,rfl⟩
 have hmm:m≤280100:=by omega
 have HM:Hid ((a++g++n).length=m):=HLN'.out.2.trans hm
 rw [hm] at HD ⊢
 have HP0:Hid (PtI w wC (.slice (some ⟨w.heap.size,0,none⟩) 0 0) (.slice y7 m y9) (a++g++n) 0):=by
  obtain ⟨h1,h2,h3,h4⟩:=HD.out
  refine ⟨h3,h1,h2,fun b hb e => ?_⟩
  have:=(World.ownsRow.lt h1 b e).1
  have hb:some w.heap.size=some b:=hb
  injection hb with hb
  omega
 clear HD HC HA HL1 hm
 have HIN:Hid (∀ x,x∈a++g++n↔(x∈a∨x∈g∨x∈n)):=fun x=>by simp only [List.mem_append];exact or_assoc
 obtain ⟨l,hl⟩:∃ l,a++g++n=l:=⟨_,rfl⟩
 rw [hl] at HB HM HP0 HIN
 clear hl HLN'
 go_loopw [7,9] (fun vv vi wr=>∃ k:Nat,vi = .int .i64 k∧k≤m∧Hid (PtI w wr vv (.slice y7 m y9) l k)) (fun _ vi _=>m - (intOf vi).toNat)
 case atStart=>exact ⟨0,rfl,by omega,HP0.out⟩
 case round=>
  obtain ⟨k,rfl,hk,HX⟩:=hrel
  clear HP0
  have hk0:(0:Int)≤(k:Int):=by omega
  by_cases hlt:k<m
  · have hlt':(k:Int)<(m:Int):=by omega
    have hks:k<l.length:=by rw [HM.out];exact hlt
    obtain ⟨a',c',e',_,hrr⟩:=HX.out.row.rs
    obtain ⟨sg,so,ha',hrd⟩:=hrr.resolve_left (fun e=>by rw [e] at hks;simp at hks)
    injection e' with e1 e2 e3
    clear e2 e3
    rw [ha'] at e1
    subst e1
    obtain ⟨q1,q2⟩:=hrd k hks
    have hbd:=HB.out (rg l k) (by rw [rg_lt hks];exact List.getElem_mem hks)
    obtain ⟨x,y,hxy⟩:∃ x y,rg l k=(x,y):=⟨_,_,rfl⟩
    rw [hxy] at q1 q2 hbd
    simp only at q1 q2
    have y1:0≤y:=Int.le_trans hbd.2.1 hbd.1
    have y2:y≤2000000:=hbd.2.2
    have HY:Hid (IntKind.i64.wrap (y+1)=y+1):=IntWalk.i64_in _ ⟨by omega,by omega⟩
    obtain ⟨va',vc',rfl⟩:=HX.out.own.sl
    have HLE:Hid ((endsL (l.take k)).length+2≤8796093022208):=by
     show _≤_
     rw [endsL_len,List.length_take]
     omega
    obtain ⟨vn,hvn⟩:∃ vn,(endsL (l.take k)).length=vn:=⟨_,rfl⟩
    have HXK:=hidT (And.intro hks hxy)
    rw [hvn] at HX ⊢
    have HVN:Hid ((endsL (l.take k)).length=vn):=hvn
    clear hrr hrd hxy ha' hbd hks hvn
    go_wp2
    go_region_law (refine step_push3 rfl (.tmp 31) (.tmp 43) 49 rfl Tryz.underlying49 w.heap.size (.slice va' vn vc') (endsL (l.take k)) rfl (HX.out.grown (by (repeat (first | exact Grown.refl _ | refine Grown.alloc ?_ _ | refine Grown.drew ?_ | refine Grown.drewN ?_ _ | refine Grown.quiet ?_ _ _)))).1.own _ _ x (y+1) rfl (by simp) (by first | (simp;done) | (simp;exact HY.out)) HLE.out (HX.out.grown (by (repeat (first | exact Grown.refl _ | refine Grown.alloc ?_ _ | refine Grown.drew ?_ | refine Grown.drewN ?_ _ | refine Grown.quiet ?_ _ _)))).2 ?_;intro b2 c2 w2 hO2 hg2 hr2;have HO2:=hidT ((HX.out.grown (by (repeat (first | exact Grown.refl _ | refine Grown.alloc ?_ _ | refine Grown.drew ?_ | refine Grown.drewN ?_ _ | refine Grown.quiet ?_ _ _)))).1.push HXK.out.1 HXK.out.2 hO2 hg2 hr2);clear hO2 hg2 hr2)
    all_goals (go_wp2;exact ⟨⟨k+1,by go_num,by omega,HO2⟩,by simp [intOf];omega⟩)
  · have hge:¬ (k:Int)<(m:Int):=by omega
    obtain ⟨h1,-,h3,-⟩:=HX.out
    rw [List.take_of_length_le (by rw [HM.out];omega)] at h1
    have HO:=hidT (And.intro h1.ir h3)
    have hlen:(endsL l).length≤560200:=by rw [endsL_len,HM.out];omega
    have HEL:Hid ((endsL l).length≤560200):=hlen
    clear h1 h3 hlen HX
    obtain ⟨v0,c0,rfl,_⟩:=HO.out.1
    go_wp2_with fail
    refine (sorted_any _ _ (endsL l) wr (Nat.le_refl _) (by have:=HEL.out;omega) HO.out.1).mono ?_
    rintro e w5 ⟨v5,L,rfl,hL5,hS5,hb5⟩
    have HSO:Hid (Srt (endsL l) L):=hS5
    have HL5:=hidT (And.intro hL5 (HO.out.2.trans (hb5.mono HO.out.2.size)))
    have HLL:Hid (L.length≤900000):=by have:=hS5.n;have:=HEL.out;show _≤_;omega
    have HNN:Hid (∀ x∈l,x.1∈L∧x.2+1∈L):=fun x hx=>⟨(hS5.m _).2 (endsL_mem hx).1,(hS5.m _).2 (endsL_mem hx).2⟩
    obtain ⟨A5,c5,rfl,_⟩:=hL5
    clear hS5 hb5 HO
    go_wp2_with fail
    refine (counts_any _ _ L a w5 HL5.out.1 (HS.out w5 HL5.out.2).1 HSO.out.p HLL.out (by have:=HLN.out.1;omega) (fun x hx=>HNN.out x ((HIN.out x).2 (.inl hx))) (fun x hx=>HB.out x ((HIN.out x).2 (.inl hx)))).mono ?_
    rintro e w6 ⟨y61,y62,y63,rfl,hk6,hb6⟩
    have H6:Hid (PtK w w6 (.slice A5 L.length c5) L∧CntR w6 (.slice y61 y62 y63) L a):=⟨⟨HL5.out.1.below hb6 (Nat.le_refl _),HL5.out.2.trans (hb6.mono HL5.out.2.size)⟩,hk6⟩
    clear hk6 hb6
    go_wp2_with fail
    refine (counts_any _ _ L g w6 H6.out.1.ir (HS.out w6 H6.out.1.bel).2.1 HSO.out.p HLL.out (by have:=HLN.out.2.1;omega) (fun x hx=>HNN.out x ((HIN.out x).2 (.inr (.inl hx)))) (fun x hx=>HB.out x ((HIN.out x).2 (.inr (.inl hx))))).mono ?_
    rintro e w7 ⟨y71,y72,y73,rfl,hk7,hb7⟩
    have H7:Hid (PtK w w7 (.slice A5 L.length c5) L∧CntR w7 (.slice y61 y62 y63) L a∧CntR w7 (.slice y71 y72 y73) L g):=⟨H6.out.1.below hb7,H6.out.2.below hb7 (Nat.le_refl _),hk7⟩
    clear hk7 hb7
    go_wp2_with fail
    refine (counts_any _ _ L n w7 H7.out.1.ir (HS.out w7 H7.out.1.bel).2.2 HSO.out.p HLL.out (by have:=HLN.out.2.2;omega) (fun x hx=>HNN.out x ((HIN.out x).2 (.inr (.inr hx)))) (fun x hx=>HB.out x ((HIN.out x).2 (.inr (.inr hx))))).mono ?_
    rintro e w8 ⟨y81,y82,y83,rfl,hk8,hb8⟩
    have H8:Hid (PtK w w8 (.slice A5 L.length c5) L∧CntR w8 (.slice y61 y62 y63) L a∧CntR w8 (.slice y71 y72 y73) L g∧CntR w8 (.slice y81 y82 y83) L n):=⟨H7.out.1.below hb8,H7.out.2.1.below hb8 (Nat.le_refl _),H7.out.2.2.below hb8 (Nat.le_refl _),hk8⟩
    clear hk8 hb8 HL5
    obtain ⟨M,hM⟩:∃ M,L.length=M:=⟨_,rfl⟩
    obtain ⟨ga,ea,hca⟩:=H8.out.2.1
    obtain ⟨gg,eg,hcg⟩:=H8.out.2.2.1
    obtain ⟨gn,en,hcn⟩:=H8.out.2.2.2
    injection ea with e1 e2 e3
    subst e1 e2 e3
    injection eg with e1 e2 e3
    subst e1 e2 e3
    injection en with e1 e2 e3
    subst e1 e2 e3
    have HC:=hidT (And.intro hca (And.intro hcg hcn))
    clear hca hcg hcn
    have HP:=hidT HSO.out.p
    have HD1:Hid (∀ W,Below w8.heap.size w8 W→PtK w W (.slice A5 L.length c5) L):=fun W hb=>H8.out.1.below hb
    have HC1:Hid (∀ W,Below w8.heap.size w8 W→∀ j,j<L.length→W.cell? ⟨ga,j,none⟩=some (.int .i64 (cntL a (bAt L j)))∧W.cell? ⟨gg,j,none⟩=some (.int .i64 (cntL g (bAt L j)))∧W.cell? ⟨gn,j,none⟩=some (.int .i64 (cntL n (bAt L j)))):=fun W hb j hj=>⟨cell_below (HC.out.1 j hj) hb (Nat.le_refl _),cell_below (HC.out.2.1 j hj) hb (Nat.le_refl _),cell_below (HC.out.2.2 j hj) hb (Nat.le_refl _)⟩
    have HMM:=hidT hM
    have hMl:M≤900000:=by rw [←hM];exact HLL.out
    have HZ:Hid (w.heap.size≤w8.heap.size):=H8.out.1.bel.size
    rw [hM] at HD1 ⊢
    have HBU:Hid (∀ j,j<M→0≤bAt L j∧bAt L j≤2000001):=fun j hj=>by
     have hj:j<L.length:=by rw [HMM.out];exact hj
     rw [bAt_lt hj]
     exact endsL_of HB.out ((HSO.out.m _).1 (List.getElem_mem hj))
    have HUN:Hid (∀ out,ParI L (parK L a g n) (M - 1) out→Up out∧∀ u,inL out u=true↔ptU a g n u):=fun out h=>by
     rw [←HMM.out] at h
     exact ⟨h.up,fun u=>h.units HP.out (fun x hx=>HNN.out x ((HIN.out x).2 (.inl hx))) (fun x hx=>HNN.out x ((HIN.out x).2 (.inr (.inl hx)))) (fun x hx=>HNN.out x ((HIN.out x).2 (.inr (.inr hx)))) u⟩
    have HO0:Hid (PtO w8 (w8.alloc (.cells #[] 67)) (.slice (some ⟨w8.heap.size,0,none⟩) 0 0) L (parK L a g n) 0):=⟨[],ParI.zero _ _,World.ownsRow_lit (base:=w8.heap.size) (e:=67) (size:=2) w8 #[] 0 (Nat.le_refl _) (by unfold maxLen;omega) rfl,by simp,(Below.refl _ w8).alloc (Nat.le_refl _) _⟩
    have HBel:Hid (Below w.heap.size w w8):=H8.out.1.bel
    clear H6 H7 H8 HC hM HSO HIN HB HNN HS
    go_wp2
    go_loopw [14,15] (fun vo vi wr=>∃ i:Nat,vi = .int .i64 i∧i≤M - 1∧Hid (PtO w8 wr vo L (parK L a g n) i)) (fun _ vi _=>M - (intOf vi).toNat)
    case atStart=>exact ⟨0,rfl,by omega,HO0.out⟩
    case round=>
     obtain ⟨i,rfl,hi,HI⟩:=hrel
     clear HO0
     have hi0:(0:Int)≤(i:Int):=by omega
     by_cases hil:i+1<M
     · have hil':(i:Int)+1<(M:Int):=by omega
       obtain ⟨out,hp,ho,hol,hb⟩:=HI.out
       obtain ⟨cA,cG,cN⟩:=HC1.out wr hb i (by rw [HMM.out];omega)
       have hK:parK L a g n i = !(decide (cntL a (bAt L i)=0) || (decide (0<cntL g (bAt L i)) && decide (cntL n (bAt L i)=0))):=rfl
       obtain ⟨z1,z3,rfl,-⟩:=ho.rs
       have HO:=hidT ho
       have hA:=cntL_nonneg a (bAt L i)
       have hG:=cntL_nonneg g (bAt L i)
       have hN:=cntL_nonneg n (bAt L i)
       have hBi:=HBU.out i (by omega)
       have hBi1:=HBU.out (i+1) (by omega)
       obtain ⟨lg,lo,rfl,hL1,hL2⟩:=ptCell (HD1.out wr hb).ir HMM.out hil
       have hBI:=hidT (And.intro hp hb)
       generalize cntL a (bAt L i)=A at *
       generalize cntL g (bAt L i)=G at *
       generalize cntL n (bAt L i)=N at *
       obtain ⟨x,hx⟩:∃ x,bAt L i=x:=⟨_,rfl⟩
       obtain ⟨y,hy⟩:∃ y,bAt L (i+1)=y:=⟨_,rfl⟩
       have HXY:=hidT (And.intro hx hy)
       rw [hx] at hL1 hBi
       rw [hy] at hL2 hBi1
       clear hx hy hp hb HI ho
       have hskip:parK L a g n i=false→Hid (PtO w8 wr (.slice z1 out.length z3) L (parK L a g n) (i+1)):=fun h=>⟨out,hBI.out.1.skip HP.out (by rw [HMM.out];exact hil) h,HO.out,by omega,hBI.out.2⟩
       by_cases cA0:A=0
       · have HF:=hskip (by rw [hK];simp [cA0])
         subst cA0
         clear hskip hK
         go_wp2
         exact ⟨⟨i+1,by go_num,by omega,HF⟩,by simp [intOf];omega⟩
       · by_cases cG0:0<G∧N=0
         · obtain ⟨cG1,rfl⟩:=cG0
           have HF:=hskip (by rw [hK];simp [cA0,cG1])
           clear hskip hK
           go_wp2
           exact ⟨⟨i+1,by go_num,by omega,HF⟩,by simp [intOf];omega⟩
         · have HKT:Hid (parK L a g n i=true):=by
            show _=_
            rw [hK]
            simp [cA0]
            omega
           clear hskip hK
           have cG1:0<G→¬ N=0:=fun h1 h2=>cG0 ⟨h1,h2⟩
           clear cG0
           have hyw:IntKind.i64.wrap (y - 1)=y - 1:=IntWalk.i64_in _ ⟨by omega,by omega⟩
           have hiM:(i:Int)<(M:Int):=by omega
           have hi10:(0:Int)≤(i:Int)+1:=by omega
           have hiw:IntKind.i64.wrap ((i:Int)+1)=(i:Int)+1:=IntWalk.i64_in _ ⟨by omega,by omega⟩
           have hit:((i:Int)+1).toNat=i+1:=by omega
           have cA1:(A == 0)=false:=by simpa using cA0
           have hiL:i+1<L.length:=by rw [HMM.out];exact hil
           rcases List.eq_nil_or_concat out with e0 | ⟨s,⟨e1,e2⟩,e0⟩
           · subst e0
             have HT:Hid (∀ W w' v',Grown wr W→OwnR w' w8.heap.size v' ([]++[(x,y - 1)])→W.grownBy w' (Value.slice z1 0 z3).ownBlock→PtO w8 w' v' L (parK L a g n) (i+1)):=fun W w' v' hg h1 h2=>PtO.tell HP.out hBI.out.1 hiL HKT.out (by simp) HXY.out.1 HXY.out.2 (by simp) HO.out hBI.out.2 hg h1 h2
             have HO1:Hid (OwnR wr w8.heap.size (.slice z1 0 z3) []):=HO.out
             have HB0:Hid (w8.heap.size≤wr.heap.size):=hBI.out.2.size
             have HGO:Hid (∀ W,Grown wr W→OwnR W w8.heap.size (.slice z1 0 z3) []∧w8.heap.size≤W.heap.size):=fun W hg=>⟨HO1.out.below hg.below (Nat.le_refl _),Nat.le_trans HB0.out hg.below.size⟩
             have HGL:Hid (([]:List (Int × Int)).length+1≤8000000):=by show _≤_;simp
             clear HO
             by_cases hG1:0<G
             · have hN1:=cG1 hG1
               have hN2:(N == 0)=false:=by simpa using hN1
               go_upto_region 17 with fail
               go_region
               all_goals
                go_upto_region 19 with fail
                go_region_law (refine step_R rfl (.tmp 111) (.tmp 123) rfl w8.heap.size (.slice z1 0 z3) [] rfl (HGO.out _ (by (repeat (first | exact Grown.refl _ | refine Grown.alloc ?_ _ | refine Grown.drew ?_ | refine Grown.drewN ?_ _ | refine Grown.quiet ?_ _ _)))).1 _ _ x (y - 1) rfl (by first | exact World.alloc_heap_new _ _ | exact heap_alloc_new _ _) HGL.out (HGO.out _ (by (repeat (first | exact Grown.refl _ | refine Grown.alloc ?_ _ | refine Grown.drew ?_ | refine Grown.drewN ?_ _ | refine Grown.quiet ?_ _ _)))).2 ?_;intro b2 c2 w2 hO2 hg2;have HO2:Hid (PtO w8 w2 (.slice (some ⟨b2,0,none⟩) (([]:List (Int × Int)).length+1) c2) L (parK L a g n) (i+1)):=HT.out _ _ _ (by (repeat (first | exact Grown.refl _ | refine Grown.alloc ?_ _ | refine Grown.drew ?_ | refine Grown.drewN ?_ _ | refine Grown.quiet ?_ _ _))) hO2 hg2;clear hO2 hg2)
                all_goals (go_wp2;exact ⟨⟨i+1,by go_num,by omega,HO2⟩,by simp [intOf];omega⟩)
             · clear cG1
               go_upto_region 17 with fail
               go_region
               all_goals
                go_upto_region 19 with fail
                go_region_law (refine step_R rfl (.tmp 111) (.tmp 123) rfl w8.heap.size (.slice z1 0 z3) [] rfl (HGO.out _ (by (repeat (first | exact Grown.refl _ | refine Grown.alloc ?_ _ | refine Grown.drew ?_ | refine Grown.drewN ?_ _ | refine Grown.quiet ?_ _ _)))).1 _ _ x (y - 1) rfl (by first | exact World.alloc_heap_new _ _ | exact heap_alloc_new _ _) HGL.out (HGO.out _ (by (repeat (first | exact Grown.refl _ | refine Grown.alloc ?_ _ | refine Grown.drew ?_ | refine Grown.drewN ?_ _ | refine Grown.quiet ?_ _ _)))).2 ?_;intro b2 c2 w2 hO2 hg2;have HO2:Hid (PtO w8 w2 (.slice (some ⟨b2,0,none⟩) (([]:List (Int × Int)).length+1) c2) L (parK L a g n) (i+1)):=HT.out _ _ _ (by (repeat (first | exact Grown.refl _ | refine Grown.alloc ?_ _ | refine Grown.drew ?_ | refine Grown.drewN ?_ _ | refine Grown.quiet ?_ _ _))) hO2 hg2;clear hO2 hg2)
                all_goals (go_wp2;exact ⟨⟨i+1,by go_num,by omega,HO2⟩,by simp [intOf];omega⟩)
           · rw [List.concat_eq_append] at e0
             subst e0
             obtain ⟨bo,rfl⟩:=HO.out.addr
             obtain ⟨S,hS⟩:∃ S,s.length=S:=⟨_,rfl⟩
             have hln:(s++[(e1,e2)]).length=S+1:=by simp [hS]
             have hlast:=HO.out.last y
             rw [hS] at hlast
             obtain ⟨-,fE,cE⟩:=hlast
             have he2:=hBI.out.1.lt (e1,e2) (by simp)
             have he1:=hBI.out.1.ge (e1,e2) (by simp)
             have he3:=(up_snoc.1 hBI.out.1.up).2.2
             rw [HXY.out.1] at he2
             simp only at cE he1 he2 he3
             have he0:=(HBU.out 0 (by omega)).1
             have hew:IntKind.i64.wrap (e2+1)=e2+1:=IntWalk.i64_in _ ⟨by omega,by omega⟩
             have hSM:S+1≤i:=by rw [←hln];exact hol
             have hSw:IntKind.i64.wrap ((S:Int)+1 - 1)=(S:Int):=by
              rw [show (S:Int)+1 - 1=(S:Int) by omega]
              exact IntWalk.i64_in _ ⟨by omega,by omega⟩
             have hSw2:wrap64 ((S:Int)+1 - 1)=(S:Int):=by
              rw [show (S:Int)+1 - 1=(S:Int) by omega]
              exact Go.IntWalk.wrap64_in _ ⟨by omega,by omega⟩
             have hS0:(0:Int)≤(S:Int):=by omega
             have hS1:(S:Int)<(S:Int)+1:=by omega
             have HJ:Hid (e2+1=x→∀ W,Grown wr W→PtO w8 (W.setCell ⟨bo,S*2+1,none⟩ (.int .i64 (y - 1))) (.slice (some ⟨bo,0,none⟩) (S+1) z3) L (parK L a g n) (i+1)):=fun hj W hg=>by
              have:=PtO.join HP.out hBI.out.1 hiL HKT.out hj HXY.out.1 HXY.out.2 hol hS HO.out hBI.out.2 hg
              rw [hln] at this
              exact this
             have HT:Hid (¬ e2+1=x→∀ W w' v',Grown wr W→OwnR w' w8.heap.size v' ((s++[(e1,e2)])++[(x,y - 1)])→W.grownBy w' (Value.slice (some ⟨bo,0,none⟩) (S+1) z3).ownBlock→PtO w8 w' v' L (parK L a g n) (i+1)):=fun hj W w' v' hg h1 h2=>PtO.tell HP.out hBI.out.1 hiL HKT.out (fun e he=>by simp at he;subst he;rw [HXY.out.1];exact hj) HXY.out.1 HXY.out.2 hol HO.out hBI.out.2 hg h1 h2
             have HGO:Hid (∀ W,Grown wr W→OwnR W w8.heap.size (.slice (some ⟨bo,0,none⟩) (S+1) z3) (s++[(e1,e2)])∧w8.heap.size≤W.heap.size):=fun W hg=>⟨by have:=HO.out.below hg.below (Nat.le_refl _);rw [hln] at this;exact this,Nat.le_trans hBI.out.2.size hg.below.size⟩
             have HGL:Hid ((s++[(e1,e2)]).length+1≤8000000):=by show _≤_;omega
             have HLE:=hidT hln
             rw [hln] at hol ⊢
             clear HO he0 he1 he3 hBI
             by_cases hG1:0<G
             · have hN1:=cG1 hG1
               have hN2:(N == 0)=false:=by simpa using hN1
               by_cases hj:e2+1=x
               · clear HT
                 go_upto_region 17 with fail
                 go_region
                 all_goals
                  go_wp2
                  exact ⟨⟨i+1,by go_num,by omega,hidT ((HJ.out hj wr (Grown.refl _)).grown (by (repeat (first | exact Grown.refl _ | refine Grown.alloc ?_ _ | refine Grown.drew ?_ | refine Grown.drewN ?_ _ | refine Grown.quiet ?_ _ _))))⟩,by simp [intOf];omega⟩
               · have HT:=hidT (HT.out hj)
                 clear HJ
                 go_upto_region 17 with fail
                 go_region
                 all_goals
                  go_upto_region 19 with fail
                  go_region_law (refine step_R rfl (.tmp 111) (.tmp 123) rfl w8.heap.size (.slice (some ⟨bo,0,none⟩) (S+1) z3) (s++[(e1,e2)]) rfl (HGO.out _ (by (repeat (first | exact Grown.refl _ | refine Grown.alloc ?_ _ | refine Grown.drew ?_ | refine Grown.drewN ?_ _ | refine Grown.quiet ?_ _ _)))).1 _ _ x (y - 1) rfl (by first | exact World.alloc_heap_new _ _ | exact heap_alloc_new _ _) HGL.out (HGO.out _ (by (repeat (first | exact Grown.refl _ | refine Grown.alloc ?_ _ | refine Grown.drew ?_ | refine Grown.drewN ?_ _ | refine Grown.quiet ?_ _ _)))).2 ?_;intro b2 c2 w2 hO2 hg2;have HO2:=hidT (HT.out _ _ _ (by (repeat (first | exact Grown.refl _ | refine Grown.alloc ?_ _ | refine Grown.drew ?_ | refine Grown.drewN ?_ _ | refine Grown.quiet ?_ _ _))) hO2 hg2);rw [HLE.out] at HO2;clear hO2 hg2)
                  all_goals (go_wp2;exact ⟨⟨i+1,by go_num,by omega,HO2⟩,by simp [intOf];omega⟩)
             · clear cG1
               by_cases hj:e2+1=x
               · clear HT
                 go_upto_region 17 with fail
                 go_region
                 all_goals
                  go_wp2
                  exact ⟨⟨i+1,by go_num,by omega,hidT ((HJ.out hj wr (Grown.refl _)).grown (by (repeat (first | exact Grown.refl _ | refine Grown.alloc ?_ _ | refine Grown.drew ?_ | refine Grown.drewN ?_ _ | refine Grown.quiet ?_ _ _))))⟩,by simp [intOf];omega⟩
               · have HT:=hidT (HT.out hj)
                 clear HJ
                 go_upto_region 17 with fail
                 go_region
                 all_goals
                  go_upto_region 19 with fail
                  go_region_law (refine step_R rfl (.tmp 111) (.tmp 123) rfl w8.heap.size (.slice (some ⟨bo,0,none⟩) (S+1) z3) (s++[(e1,e2)]) rfl (HGO.out _ (by (repeat (first | exact Grown.refl _ | refine Grown.alloc ?_ _ | refine Grown.drew ?_ | refine Grown.drewN ?_ _ | refine Grown.quiet ?_ _ _)))).1 _ _ x (y - 1) rfl (by first | exact World.alloc_heap_new _ _ | exact heap_alloc_new _ _) HGL.out (HGO.out _ (by (repeat (first | exact Grown.refl _ | refine Grown.alloc ?_ _ | refine Grown.drew ?_ | refine Grown.drewN ?_ _ | refine Grown.quiet ?_ _ _)))).2 ?_;intro b2 c2 w2 hO2 hg2;have HO2:=hidT (HT.out _ _ _ (by (repeat (first | exact Grown.refl _ | refine Grown.alloc ?_ _ | refine Grown.drew ?_ | refine Grown.drewN ?_ _ | refine Grown.quiet ?_ _ _))) hO2 hg2);rw [HLE.out] at HO2;clear hO2 hg2)
                  all_goals (go_wp2;exact ⟨⟨i+1,by go_num,by omega,HO2⟩,by simp [intOf];omega⟩)
     · have hil':¬ (i:Int)+1<(M:Int):=by omega
       obtain ⟨out,hp,ho,-,hb⟩:=HI.out
       have hi1:i=M - 1:=by omega
       rw [hi1] at hp
       have HF:Hid (OwnR wr w.heap.size _ out∧Below w.heap.size w wr∧Up out∧_):=⟨ho.le HZ.out,HBel.out.trans (hb.mono HZ.out),HUN.out out hp⟩
       obtain ⟨z1,z3,rfl,-⟩:=ho.rs
       clear hp ho hb
       go_wp2
       go_ret
       exact ⟨_,_,_,rfl,out,HF.out⟩
end Go.Proofs
