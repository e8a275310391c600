/-
  Several texts in one (O2k U2k).
-/
import Derived.Test.YtknaoahokopplaaGreatDoorMhjk
import Derived.Test.YtknaoahokopplaaGreatDoorMhik
namespace Go.Proofs
open Go.RowKit Go.Shelf
theorem ne_1 (u:Int):which (mk0 (unT u))≠116∧which (mk0 (unT u))≠21:=⟨show (1:Int)≠116 by decide,show (1:Int)≠21 by decide⟩
theorem ne_3 (n:Int):which (mk0 ⟨3,0,⟨#[]⟩,n⟩)≠116∧which (mk0 ⟨3,0,⟨#[]⟩,n⟩)≠21:=⟨show (3:Int)≠116 by decide,show (3:Int)≠21 by decide⟩
theorem tokL_ne (i:It):∀ x∈tokL i,which (mk0 x)≠116∧which (mk0 x)≠21:=by
 obtain ⟨k,u,t,ps,lo,hi,nt,key⟩:=i
 intro x hx
 unfold tokL at hx
 simp only at hx
 split at hx
 · obtain rfl:=List.mem_singleton.1 hx
   exact ne_1 _
 split at hx
 · obtain rfl:=List.mem_singleton.1 hx
   rw [which_var]
   exact ⟨by decide,by decide⟩
 split at hx
 · obtain rfl:=List.mem_singleton.1 hx
   rw [which_cls]
   exact ⟨by decide,by decide⟩
 split at hx
 · obtain rfl:=List.mem_singleton.1 hx
   exact ⟨by decide,by decide⟩
 split at hx
 · simp only [List.mem_cons,List.mem_nil_iff,or_false] at hx
   rcases hx with rfl | rfl | rfl
   · exact ne_1 _
   · exact ⟨by decide,by decide⟩
   · exact ne_1 _
 · obtain rfl:=List.mem_singleton.1 hx
   exact ne_3 _
theorem tokI_ne (i:It):∀ x∈tokI i,which (mk0 x)≠116∧which (mk0 x)≠21:=by
 obtain ⟨k,u,t,ps,lo,hi,nt,key⟩:=i
 intro x hx
 unfold tokI at hx
 simp only at hx
 split at hx
 · unfold tokS at hx
   simp only [List.mem_cons,List.mem_append,List.mem_flatMap,List.mem_nil_iff,or_false] at hx
   rcases hx with rfl | hx | ⟨p,hp,hx⟩ | rfl
   · exact ⟨by decide,by decide⟩
   · cases nt with
     | true=>obtain rfl:=List.mem_singleton.1 hx;exact ⟨by decide,by decide⟩
     | false=>cases hx
   · exact tokL_ne p x hx
   · exact ⟨by decide,by decide⟩
 · exact tokL_ne _ x hx
theorem tokT_ne (i:It):∀ x∈tokT i,which (mk0 x)≠116∧which (mk0 x)≠21:=by
 obtain ⟨k,u,t,ps,lo,hi,nt,key⟩:=i
 intro x hx
 unfold tokT at hx
 simp only at hx
 split at hx
 · simp only [List.mem_cons] at hx
   rcases hx with rfl | rfl | hx
   · exact ne_3 _
   · exact ⟨by decide,by decide⟩
   · exact tokI_ne _ x hx
 · exact tokI_ne _ x hx
def NoTD (ts:List Tok):Prop:=∀ x∈ts,which x≠116∧which x≠21
theorem rw0_ne (l:List It):NoTD (rw0 l):=by
 intro x hx
 obtain ⟨y,hy,rfl⟩:=List.mem_map.1 hx
 obtain ⟨i,_,hi⟩:=List.mem_flatMap.1 hy
 exact tokT_ne i y hi
theorem NoTD.app {a b:List Tok} (h:NoTD a) (h2:NoTD b):NoTD (a++b):=fun x hx=>(List.mem_append.1 hx).elim (h x) (h2 x)
theorem NoTD.one (n:Int) (h:n≠116) (h2:n≠21) (b:Bool) (hn:which (sg0 n)=n):NoTD (if b then [sg0 n] else []):=by
 intro x hx
 cases b with
 | true=>obtain rfl:=List.mem_singleton.1 hx;rw [hn];exact ⟨h,h2⟩
 | false=>cases hx
theorem ruleTk_ne (l:Ln) {r:List Tok} (hr:NoTD r):NoTD (ruleTk l r):=by
 unfold ruleTk
 refine (NoTD.one 15 (by decide) (by decide) _ rfl).app ((rw0_ne _).app ((NoTD.one 12 (by decide) (by decide) _ rfl).app ((rw0_ne _).app ((NoTD.one 13 (by decide) (by decide) _ rfl).app ((rw0_ne _).app ((NoTD.one 16 (by decide) (by decide) _ rfl).app ?_))))))
 have h10:NoTD [sg0 10]:=NoTD.one 10 (by decide) (by decide) true rfl
 have h14:NoTD [sg0 14]:=NoTD.one 14 (by decide) (by decide) true rfl
 refine h10.app ((rw0_ne _).app (NoTD.app ?_ hr))
 split
 · exact h14.app (rw0_ne _)
 · intro x hx;cases hx
theorem ruleTk_snoc (l:Ln) (a b:List Tok):ruleTk l (a++b)=ruleTk l a++b:=by
 unfold ruleTk
 simp only [List.append_assoc,List.cons_append]
theorem some_rule (e:Int) {l:Ln} {r:List Tok} : someT e (ruleTk l (sg0 11::r))=ruleT e (ruleTk l (sg0 11::r)):=by
 have hs:ruleTk l (sg0 11::r)=ruleTk l []++(sg0 11::r):=by rw [←ruleTk_snoc];rfl
 have hne:NoTD (ruleTk l []):=ruleTk_ne l fun x hx=>by cases hx
 rw [hs]
 cases hA:ruleTk l [] with
 | nil=>
  exfalso
  unfold ruleTk at hA
  simp at hA
 | cons x A=>
  rw [hA] at hne
  have h1:=hne x (by simp)
  have h2:nxt (A++(sg0 11::r))≠21:=by
   cases A with
   | nil=>show which (sg0 11)≠21;decide
   | cons y A=>exact (hne y (by simp)).2
  show someT e (x::(A++(sg0 11::r)))=ruleT e (x::(A++(sg0 11::r)))
  unfold someT
  simp only
  rw [if_neg h1.1,if_neg fun h=>h2 h.2]
theorem emptyB_nil {t:ByteArray} (h:emptyB t=true):t=⟨#[]⟩:=bytes_nil (by unfold emptyB at h;exact beq_iff_eq.1 h)
theorem noRule_of {l:Ln} (h:noRuleB (lnM l)=true):l.bg=false∧l.en=false∧l.ante=[]∧l.post=[]∧l.res=[]∧l.cur=0:=by
 unfold noRuleB lnM at h
 simp only [Bool.and_eq_true,Bool.not_eq_true',decide_eq_true_eq,beq_iff_eq] at h
 obtain ⟨h1,h2,h3,h4,h5,h6⟩:=h
 exact ⟨h1,h2,List.eq_nil_of_length_eq_zero h3,List.eq_nil_of_length_eq_zero h4,List.eq_nil_of_length_eq_zero h5,h6⟩
theorem some_rd0 (e:Int) {d:Nat} {l:Ln} (h:ckLn d l=none) (hD:DpL d l) (r:List Tok):someT e ((tokLn l).map mk0++r) = .ok { l with a:=0 } (sg0 11::r):=by
 obtain ⟨hs,c1,c2,c3,c4⟩:=ckLn_noneN h
 unfold tokLn
 rw [List.map_append,List.append_assoc]
 have hkd:l.k=3∨l.k=1∨l.k=2:=stL_kind hs
 rcases hkd with h3 | h1 | h2
 · rw [if_pos h3]
   unfold stL at hs
   rw [if_pos (show (lnM l).k=3 from h3)] at hs
   simp only [Bool.and_eq_true,decide_eq_true_eq] at hs
   obtain ⟨q1,q2,q3,q4,q5,q6⟩:=noRule_of hs.2.2
   have ht:=emptyB_nil (t:=l.t) hs.1
   have hk:l.key=[]:=List.eq_nil_of_length_eq_zero hs.2.1
   show someT e (mk0 ⟨2,0,thenB,0⟩::sg0 11::r)=_
   unfold someT
   simp only
   rw [if_pos (by decide)]
   obtain ⟨k,a,t,bg,en,an,ky,po,rs,cur⟩:=l
   simp only at h3 q1 q2 q3 q4 q5 q6 ht hk
   subst h3 q1 q2 q3 q4 q5 q6 ht hk
   rfl
 · rw [if_neg (by omega)]
   unfold stL at hs
   rw [if_neg (show (lnM l).k≠3 by show l.k≠3;omega),if_pos (show (lnM l).k=1 from h1)] at hs
   simp only [Bool.and_eq_true,decide_eq_true_eq] at hs
   obtain ⟨q1,q2,q3,q4,q5,q6⟩:=noRule_of hs.2.2
   obtain ⟨x,hx⟩:=List.length_eq_one_iff.1 (show l.key.length=1 from hs.2.1)
   obtain ⟨k,a,t,bg,en,an,ky,po,rs,cur⟩:=l
   simp only at h1 q1 q2 q3 q4 q5 q6 hx
   subst h1 q1 q2 q3 q4 q5 q6 hx
   have hr:=(side_rd0 e may_62 (by decide) ((ckRw_noneN c2).2 x (by simp)) (hD.2.1 x (by simp))).1 (sg0 11::r) (show (11:Int)≠20 by decide) (show (11:Int)≠22 by decide)
   have e1:(List.flatMap Prod.snd (lineP ⟨1,a,t,false,false,[],[x],[],[],0⟩)).map mk0++(List.map mk0 [sgT 11]++r)=mk0 ⟨2,0,⟨#[36]⟩++t,0⟩::sg0 21::((tokT x).map mk0++(sg0 11::r)):=by
    unfold lineP
    rw [if_pos rfl]
    simp [pT]
   rw [e1]
   unfold someT
   simp only
   rw [which_var,if_neg (by decide),if_pos ⟨rfl,rfl⟩]
   unfold defT
   show ((sideT e 62 ((tokT x).map mk0++(sg0 11::r))).bind _)=_
   rw [hr]
   have hb:bareN (mk0 ⟨2,0,⟨#[36]⟩++t,0⟩)=t:=by
    unfold bareN
    rw [which_var,if_neg (by decide)]
    exact bare_var t
   show Res.ok _ _=_
   rw [hb]
 · rw [if_neg (by omega),ruleTk_eq l (by omega)]
   show someT e (ruleTk l (sg0 11::r))=_
   rw [some_rule]
   exact rule_rd0 e h hD h2 rfl
theorem line_rd0 (e:Int) {d:Nat} {l:Ln} (h:ckLn d l=none) (hD:DpL d l) (r:List Tok):∃ x,lineT e ((tokLn l).map mk0++r) = .ok x r∧SameL x l:=by
 unfold lineT
 rw [some_rd0 e h hD r]
 exact ⟨_,rfl,rfl⟩
theorem tokLn_ne (l:Ln):tokLn l≠[]:=by
 unfold tokLn
 simp
theorem line_len (l:Ln):1≤(tokLn l).length:=List.length_pos_iff.2 (tokLn_ne l)
theorem line_nxt {d:Nat} {l:Ln} (h:ckLn d l=none) (hD:DpL d l) (r:List Tok):nxt ((tokLn l).map mk0++r)≠0:=by
 intro h0
 have hs:=some_rd0 0 h hD r
 have hne:(tokLn l).map mk0++r≠[]:=by
  have:=tokLn_ne l
  cases hq:tokLn l with
  | nil=>exact absurd hq this
  | cons x y=>simp
 cases hq:(tokLn l).map mk0++r with
 | nil=>exact hne hq
 | cons x y=>
  rw [hq] at hs h0
  have hw:which x=0:=h0
  unfold someT at hs
  simp only at hs
  rw [hw,if_neg (by decide),if_neg (fun h=>absurd h.1 (by decide))] at hs
  have hp:passT 15 (x::y)=(false,x::y):=by
   unfold passT
   rw [if_neg (by show which x≠15;rw [hw];decide)]
  have hsd:sidesT 0 (x::y) = .ok [] (x::y):=by
   unfold sidesT
   rw [rowT,if_neg (by show ¬ Nat.testBit 62 (begun (which x))=true;rw [hw];decide)]
  have han:anteT 0 false [] (x::y) = .ok ([],[]) (x::y):=by
   unfold anteT
   rw [if_neg (by show ¬ (false || (which x == 12))=true;rw [hw];decide)]
  have hpo:postT 0 (x::y) = .ok ([],false) (x::y):=by
   unfold postT
   rw [if_neg (by show ¬ which x=13;rw [hw];decide)]
  have hwt:wantT 0 10 (x::y) = .no x.a 50:=by
   unfold wantT
   rw [if_neg (by show ¬ which x=10;rw [hw];decide)]
   rfl
  unfold ruleT at hs
  rw [hp] at hs
  change ((sidesT 0 (x::y)).bind _)=_ at hs
  rw [hsd] at hs
  change ((anteT 0 false [] (x::y)).bind _)=_ at hs
  rw [han] at hs
  change ((postT 0 (x::y)).bind _)=_ at hs
  rw [hpo] at hs
  change ((wantT 0 10 (x::y)).bind _)=_ at hs
  rw [hwt] at hs
  cases hs
theorem lines_back (e:Int) {d:Nat} : ∀ (ls:List Ln) (f:Nat),ls.length≤f→(∀ l∈ls,ckLn d l=none∧DpL d l)→∃ ls2,linesT e f ((ls.flatMap tokLn).map mk0) = .ok ls2 []∧All2 SameL ls2 ls
 | [],0,_,_=>⟨[],rfl,trivial⟩
 | [],f+1,_,_=>⟨[],by
  unfold linesT
  rfl,trivial⟩
 | l::ls,0,h,_=>by simp at h
 | l::ls,f+1,h,hl=>by
  obtain ⟨h1,h2⟩:=hl l (by simp)
  obtain ⟨x,hx,hS⟩:=line_rd0 e h1 h2 ((ls.flatMap tokLn).map mk0)
  obtain ⟨ls2,e2,hA⟩:=lines_back e ls f (by simp at h;omega) fun y hy=>hl y (List.mem_cons_of_mem _ hy)
  refine ⟨x::ls2,?_,hS,hA⟩
  rw [List.flatMap_cons,List.map_append,linesT,if_neg (line_nxt h1 h2 _),hx]
  show ((linesT e f ((ls.flatMap tokLn).map mk0)).bind _)=_
  rw [e2]
  rfl
end Go.Proofs
namespace Go.Proofs
open Go.RowKit Go.Shelf
set_option maxRecDepth 100000
attribute [local go_sem] Oper.semAt_some
theorem byteCells_app (a b:List UInt8):Lib.byteCells (a++b)=Lib.byteCells a++Lib.byteCells b:=by simp [Lib.byteCells]
theorem byteCells_len (a:List UInt8):(Lib.byteCells a).length=a.length:=by simp [Lib.byteCells]
set_option maxHeartbeats 4000000 in
theorem print_any (d:Nat) (w:World) (A:Option Addr) (n c:Nat) (ls:List Ln) (h:RdLz d w A n ls) (ht:∀ l∈ls,TzL d l) (hnn:n≤1000000000000000) (hE:Env w) :
 Calls Tryz.prog 19 #[.slice A n c] w fun x w'=>x = .returned (.tuple #[.string (printS d ls).1,.int .i64 (printS d ls).2])∧Below w.heap.size w w':=by
 have hck:=checkAll_any d w A n c ls h.rd ht hnn
 have hln:=h.rd.len
 obtain ⟨ms,hn,hr,hAll⟩:=h
 have H:Hid (n=ms.length∧n=ls.length∧(n=0∨∃ g z,A=some ⟨g,z,none⟩∧ReadsL w g z ms)∧All2 (RdLc d w) ms ls∧Env w):=⟨hn,hln,hr,hAll,hE⟩
 have HCK:Hid (Calls Tryz.prog 35 #[.slice A n c] w fun x w'=>x = .returned (.int .i64 (ckAll d ls))∧Below w.heap.size w w'):=hck
 obtain ⟨S,hS⟩:∃ S,printS d ls=S:=⟨_,rfl⟩
 have HS:Hid (printS d ls=S):=hS
 rw [hS]
 clear hS hck hn hr hAll hE hln ht
 by_cases hc:ckAll d ls=0
 · have HC:Hid (ckAll d ls=0):=hc
   go_enter Tryz.func19,Tryz.ntmps19
   go_wp2_with fail
   refine HCK.out.mono ?_
   rintro x w1 ⟨rfl,hb1⟩
   rw [hc]
   have H1:Hid (Below w.heap.size w w1):=hb1
   clear hb1 hc HCK
   go_wp2
   go_loopw [15] (fun vi wr=>∃ k:Nat,vi = .int .i64 k∧k≤n∧Hid (Lib.IsBuilder 71 5 w1.heap.size w1.heap.size (Lib.byteCells (outS (ls.take k))) wr∧Below w.heap.size w wr∧w1.heap.size≤wr.heap.size∧(outS (ls.take k)).length≤32768)) (fun vi _=>n - (intOf vi).toNat)
   case atStart=>exact ⟨0,rfl,by omega,Lib.fresh_isBuilder 71 5 w1,H1.out.alloc H1.out.size _,by simp,by simp [outS]⟩
   case round=>
    obtain ⟨k,rfl,hk,HR⟩:=hrel
    obtain ⟨wo,rfl⟩:∃ wo,wo=wr:=⟨_,rfl⟩
    by_cases hkn:k<n
    · have e1:decide ((k:Int)<(n:Int))=true:=by simpa using hkn
      obtain ⟨m,hm⟩:∃ m,ms[k]? = some m:=⟨ms[k]'(by have:=H.out.1;omega),List.getElem?_eq_getElem _⟩
      obtain ⟨i,hi⟩:∃ i,ls[k]? = some i:=⟨ls[k]'(by have:=H.out.2.1;omega),List.getElem?_eq_getElem _⟩
      obtain ⟨g,z,hA,hr⟩:=H.out.2.2.1.resolve_left (by omega)
      subst hA
      have ck:=ck_below HR.out.2.1
      obtain ⟨c0,c1,c2,c3,c4,c5,c6,c7,c8,c9⟩:=hr.cells hm
      have k0:=ck _ _ c0
      have k1:=ck _ _ c1
      have k2:=ck _ _ c2
      have k3:=ck _ _ c3
      have k4:=ck _ _ c4
      have k5:=ck _ _ c5
      have k6:=ck _ _ c6
      have k7:=ck _ _ c7
      have k8:=ck _ _ c8
      have k9:=ck _ _ c9
      have hrd:=H.out.2.2.2.1.get hm hi
      have hnone:=ckAll_ok HC.out i (List.mem_of_getElem? hi)
      have hEo:Env wo:=H.out.2.2.2.2.below HR.out.2.1
      have HW:Hid (∀ o,Calls Tryz.prog 38 #[mla m] (wo.alloc o) (LwQ (wo.alloc o) (lineW i))):=fun o=>(lineWords_any (hrd.ck (fun a v hv=>ck_below ((Below.refl _ wo).alloc (Nat.le_refl _) o) _ _ (ck _ _ hv))) hnone (hEo.alloc o)).1
      have hz:=(lineWords_any hrd hnone H.out.2.2.2.2).2
      have hjz:=jnB_le (lineW i) hz.2
      have hjz:(jnB (lineW i)).size≤1000000000:=by
       have:(lineW i).length*(156000+1)≤5000*(156000+1):=Nat.mul_le_mul_right _ hz.1
       omega
      have HJ:Hid ((lineW i).length≤1000000∧(jnB (lineW i)).size≤1000000000∧outS (ls.take (k+1))=outS (ls.take k)++((jnB (lineW i)).data.toList++[10])∧outS (ls.take (k+1))=outS (ls.take k)++lineB i):=⟨by omega,hjz,outS_take hi,outS_take hi⟩
      clear c0 c1 c2 c3 c4 c5 c6 c7 c8 c9 hm hi hr ck hrd hnone hEo hz hjz
      go_wp2_with fail
      refine (HW.out _).mono ?_
      rintro x w2 ⟨y2,rfl,hrt,hb2⟩
      have H2:Hid (RdT w2 y2 (lineW i)∧Lib.IsBuilder 71 5 w1.heap.size w1.heap.size (Lib.byteCells (outS (ls.take k))) w2∧Below w.heap.size w w2∧w1.heap.size≤w2.heap.size):=⟨hrt,builder_below (builder_below HR.out.1 ((Below.refl _ wo).alloc (Nat.le_refl _) _)) hb2,(HR.out.2.1.alloc HR.out.2.1.size _).trans (hb2.mono (by have:=HR.out.2.1.size;simp;omega)),by have:=hb2.size;have:=HR.out.2.2.1;simp at *;omega⟩
      clear hrt hb2 k0 k1 k2 k3 k4 k5 k6 k7 k8 k9 HW
      go_wp2_with fail
      refine (join_rd w2 y2 (lineW i) H2.out.1 HJ.out.1 (by have:=HJ.out.2.1;omega)).mono ?_
      rintro x w3 ⟨rfl,hb3⟩
      have H3:Hid (Lib.IsBuilder 71 5 w1.heap.size w1.heap.size (Lib.byteCells (outS (ls.take k))) w3∧Below w.heap.size w w3∧w1.heap.size≤w3.heap.size):=⟨builder_below H2.out.2.1 hb3,H2.out.2.2.1.trans (hb3.mono H2.out.2.2.1.size),by have:=hb3.size;have:=H2.out.2.2.2;omega⟩
      clear H2 hb3
      obtain ⟨J,hJ⟩:∃ J,jnB (lineW i)=J:=⟨_,rfl⟩
      rw [hJ] at HJ ⊢
      clear hJ
      go_wp2_with fail
      refine (write_any w1.heap.size w1.heap.size (Lib.byteCells (outS (ls.take k))) J w3 H3.out.1 (by rw [byteCells_len];have:=HR.out.2.2.2;have:=HJ.out.2.1;omega) H3.out.2.2).mono ?_
      rintro x w4 ⟨rfl,hA4,hb4⟩
      have H4:Hid (Lib.BuilderAt 71 5 w1.heap.size w1.heap.size (.pointer (some ⟨w1.heap.size,0,none⟩)) (Lib.byteCells (outS (ls.take k))++Lib.strCells J) w4∧Below w.heap.size w w4∧w1.heap.size≤w4.heap.size):=⟨hA4,H3.out.2.1.trans (hb4.mono H1.out.size),by have:=hb4.size;have:=H3.out.2.2;omega⟩
      clear H3 hA4 hb4
      go_wp2_with fail
      refine (byte_any w1.heap.size w1.heap.size (Lib.byteCells (outS (ls.take k))++Lib.strCells J) 10 w4 (.inr H4.out.1) (by rw [List.length_append,byteCells_len,Lib.strCells_length];have:=HR.out.2.2.2;have:=HJ.out.2.1;omega) H4.out.2.2).mono ?_
      rintro x w5 ⟨rfl,hA5,hb5⟩
      have hbs:(Lib.byteCells (outS (ls.take k))++Lib.strCells J)++[.int .u8 10]=Lib.byteCells (outS (ls.take (k+1))):=by
       rw [HJ.out.2.2.1,byteCells_app,byteCells_app,strCells_bytes,List.append_assoc]
       rfl
      rw [hbs] at hA5
      have H5:Hid (Lib.BuilderAt 71 5 w1.heap.size w1.heap.size (.pointer (some ⟨w1.heap.size,0,none⟩)) (Lib.byteCells (outS (ls.take (k+1)))) w5∧Below w.heap.size w w5∧w1.heap.size≤w5.heap.size):=⟨hA5,H4.out.2.1.trans (hb5.mono H1.out.size),by have:=hb5.size;have:=H4.out.2.2;omega⟩
      clear H4 hA5 hb5 hbs HJ
      go_wp2_with fail
      refine (Tryz.Builder_Len w1.heap.size w1.heap.size _ w5 (.inr H5.out.1)).mono ?_
      rintro x w6 ⟨rfl,rfl⟩
      rw [byteCells_len]
      obtain ⟨L,hL⟩:∃ L,(outS (ls.take (k+1))).length=L:=⟨_,rfl⟩
      have HL:Hid ((outS (ls.take (k+1))).length=L):=hL
      rw [hL]
      clear hL
      by_cases hbig:32768<L
      · have eb:decide ((32768:Int)<(L:Int))=true:=by simp;omega
        have HF:Hid (S=(⟨#[]⟩,2)):=by
         show S=_
         rw [←HS.out,printS,if_pos HC.out,if_pos (by have:=outS_le ls (k+1);have:=HL.out;omega)]
        go_wp2
        go_ret2
        exact ⟨by rw [HF.out];rfl,H5.out.2.1⟩
      · have eb:decide ((32768:Int)<(L:Int))=false:=by simp;omega
        go_wp2
        exact ⟨⟨k+1,by go_num,by omega,.inr H5.out.1,H5.out.2.1,H5.out.2.2,by have:=HL.out;omega⟩,by simp [intOf];omega⟩
    · have e1:decide ((k:Int)<(n:Int))=false:=by simpa using hkn
      have HF:Hid (S=(⟨(outS ls).toArray⟩,0)∧Lib.IsBuilder 71 5 w1.heap.size w1.heap.size (Lib.byteCells (outS ls)) wo∧Below w.heap.size w wo∧w1.heap.size≤wo.heap.size):=by
       obtain ⟨p1,p2,p3,p4⟩:=HR.out
       rw [List.take_of_length_le (by have:=H.out.2.1;omega)] at p1 p4
       exact ⟨by rw [←HS.out,printS,if_pos HC.out,if_neg (by omega)],p1,p2,p3⟩
      clear HR
      go_wp2_with fail
      refine (Tryz.Builder_String_any w1.heap.size w1.heap.size (outS ls) wo HF.out.2.1 HF.out.2.2.2).mono ?_
      rintro x w6 ⟨rfl,hb6⟩
      have H6:Hid (Below w.heap.size w w6):=HF.out.2.2.1.trans (hb6.mono (by have:=H1.out.size;omega))
      clear hb6
      go_wp2
      go_ret2
      exact ⟨by rw [HF.out.1];rfl,H6.out⟩
 · have HC:Hid (S=(⟨#[]⟩,ckAll d ls)):=by
    show S=_
    rw [←HS.out,printS,if_neg hc]
   obtain ⟨E,hEe⟩:∃ E,ckAll d ls=E:=⟨_,rfl⟩
   rw [hEe] at HC HCK hc
   have ec:(E == 0)=false:=by simpa using hc
   clear hEe hc
   go_enter Tryz.func19,Tryz.ntmps19
   go_wp2_with fail
   refine HCK.out.mono ?_
   rintro x w1 ⟨rfl,hb1⟩
   have H1:Hid (Below w.heap.size w w1):=hb1
   clear hb1 HCK
   go_wp2
   go_ret2
   exact ⟨by rw [HC.out];rfl,H1.out⟩
end Go.Proofs
