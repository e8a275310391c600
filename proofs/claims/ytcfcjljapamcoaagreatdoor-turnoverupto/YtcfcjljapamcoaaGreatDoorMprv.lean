/-
  Several texts in one (Xav Xcv).
-/
import Derived.Test.YtcfcjljapamcoaaGreatDoorMpqv
import Derived.Test.YtcfcjljapamcoaaGreatDoorMgiv
namespace Go.Proofs
open Go.RowKit Go.Shelf
set_option maxRecDepth 100000
attribute [local go_sem] Oper.semAt_some
theorem inL_cons (x:Int × Int) (s:List (Int × Int)) (u:Int):inL (x::s) u=(inR x u || inL s u):=rfl
theorem inL_tail_low {x:Int × Int} {s:List (Int × Int)} (h:Up (x::s)) {u:Int} (hu:inL s u=true):x.2+1<u:=by
 obtain ⟨y,hy,h1⟩:=List.any_eq_true.1 hu
 have h2:=(inR_iff y u).1 h1
 have h3:=List.rel_of_pairwise_cons h.1 hy
 omega
theorem Up.tail {x:Int × Int} {s:List (Int × Int)} (h:Up (x::s)):Up s:=⟨(List.pairwise_cons.1 h.1).2,fun y hy=>h.2 y (List.mem_cons_of_mem _ hy)⟩
theorem up_unique:∀ (s t:List (Int × Int)),Up s→Up t→(∀ u,inL s u=true↔inL t u=true)→s=t
 | [],[],_,_,_=>rfl
 | [],y::t,_,ht,h=>by
  have:=(h y.1).2 (by rw [inL_cons,(inR_iff y y.1).2 ⟨Int.le_refl _,ht.2 y (by simp)⟩];rfl)
  simp [inL] at this
 | x::s,[],hs,_,h=>by
  have:=(h x.1).1 (by rw [inL_cons,(inR_iff x x.1).2 ⟨Int.le_refl _,hs.2 x (by simp)⟩];rfl)
  simp [inL] at this
 | x::s,y::t,hs,ht,h=>by
  have hx:=hs.2 x (by simp)
  have hy:=ht.2 y (by simp)
  have ins:∀ u,inL (x::s) u=true↔(x.1≤u∧u≤x.2)∨inL s u=true:=fun u=>by rw [inL_cons,Bool.or_eq_true,inR_iff]
  have int:∀ u,inL (y::t) u=true↔(y.1≤u∧u≤y.2)∨inL t u=true:=fun u=>by rw [inL_cons,Bool.or_eq_true,inR_iff]
  have h':∀ u,((x.1≤u∧u≤x.2)∨inL s u=true)↔((y.1≤u∧u≤y.2)∨inL t u=true):=fun u=>by rw [←ins,←int];exact h u
  have e1:x.1=y.1:=by
   have a1:=(h' x.1).1 (.inl ⟨by omega,hx⟩)
   have a2:=(h' y.1).2 (.inl ⟨by omega,hy⟩)
   have b1:y.1≤x.1:=by
    rcases a1 with a | a
    · omega
    · have:=inL_tail_low ht a;omega
   have b2:x.1≤y.1:=by
    rcases a2 with a | a
    · omega
    · have:=inL_tail_low hs a;omega
   omega
  have e2:x.2=y.2:=by
   have a1:=(h' x.2).1 (.inl ⟨hx,by omega⟩)
   have a2:=(h' y.2).2 (.inl ⟨hy,by omega⟩)
   have c1:x.2≤y.2:=by
    rcases Int.lt_or_le y.2 x.2 with hlt | hle
    · exfalso
      have:=(h' (y.2+1)).1 (.inl ⟨by omega,by omega⟩)
      rcases this with a | a
      · omega
      · have:=inL_tail_low ht a;omega
    · exact hle
   have c2:y.2≤x.2:=by
    rcases Int.lt_or_le x.2 y.2 with hlt | hle
    · exfalso
      have:=(h' (x.2+1)).2 (.inl ⟨by omega,by omega⟩)
      rcases this with a | a
      · omega
      · have:=inL_tail_low hs a;omega
    · exact hle
   omega
  have e:x=y:=Prod.ext e1 e2
  subst e
  rw [up_unique s t hs.tail ht.tail fun u => ?_]
  constructor
  · intro hu
    have hlow:=inL_tail_low hs hu
    rcases (h' u).1 (.inr hu) with a | a
    · omega
    · exact a
  · intro hu
    have hlow:=inL_tail_low ht hu
    rcases (h' u).2 (.inr hu) with a | a
    · omega
    · exact a
def plR (k:List (Int × Int)) (t:List (Int × Int)) (cu:Int):Rl:=⟨false,false,cu,[],[k],[],[⟨3,0,0,t⟩]⟩
def pl0:List Rl:=[plR [(97,99)] [(120,122)] 1]
def pl1:List Rl:=[plR [(97,99)] [(120,122)] 0]
theorem pl0_turn:pl0.map turnR=[plR [(120,122)] [(97,99)] 1]:=by decide +kernel
theorem pl0_chk:(chkW pl0).2=0:=by decide +kernel
theorem pl1_chk:(chkW pl1).2=0:=by decide +kernel
theorem pl0_wro (core:List (Int × Int)):wroE (plR [(97,99)] [(120,122)] 1) core=0:=by kernel_rfl
theorem pl1_wro (core:List (Int × Int)):wroE (plR [(97,99)] [(120,122)] 0) core=191:=by kernel_rfl
theorem ChkR.one {r:Rl} {core:List (Int × Int)} {n c:Int} (h:ChkR [r] core n c):n=0∧c=wroE r core:=by
 cases h with
 | wrong k r' h1 h2 h3=>
  obtain rfl:k=0:=by have:=(List.getElem?_eq_some_iff.1 h1).1;simpa using this
  simp at h1
  subst h1
  exact ⟨rfl,rfl⟩
 | clash k i r' x h1 h2 h3 h4 h5 h6 h7=>
  have:=(List.getElem?_eq_some_iff.1 h2).1
  simp at this
  omega
 | fine h1 h2=>exact ⟨rfl,(h1 r (by simp)).symm⟩
theorem pl0_trn {n c:Int} (h:TrnP pl0 n c):n=0∧c=0:=by
 rcases h with ⟨h1,_⟩ | ⟨_,core,_,_,h2⟩
 · exact absurd pl0_chk h1
 · have:=h2.one
   rw [pl0_wro] at this
   exact this
theorem pl1_trn {n c:Int} (h:TrnP pl1 n c):n=0∧c=191:=by
 rcases h with ⟨h1,_⟩ | ⟨_,core,_,_,h2⟩
 · exact absurd pl1_chk h1
 · have:=h2.one
   rw [pl1_wro] at this
   exact this
def plS:List (Int × Int):=[(0,119),(123,55295),(57344,1114111),(1114240,1114367)]
theorem pl0_over {s:List (Int × Int)} {n c:Int} (h:OvR pl0 s n c):s=plS∧n=0∧c=0:=by
 rcases h with ⟨h1,h2,_⟩ | ⟨_,t,h1,h2,h3⟩
 · exact absurd (pl0_trn h2).2 h1
 · have e:t=plS:=up_unique t plS h1 ⟨by simp [plS],by simp [plS]⟩ fun u=>by
    have e1:lsB pl0=[[(120,122)]]:=by decide +kernel
    have e2:lsG pl0=[[(97,99)]]:=by decide +kernel
    rw [h2,ovU,e1,e2]
    simp [inL,allU,plS,inR]
    omega
   subst e
   rcases h3 with ⟨h4,_⟩ | ⟨_,h5,h6,h7⟩
   · exact absurd h4 (by decide)
   · exact ⟨h5,h6,h7⟩
theorem al_old (w:World) (o:Obj) {i:Nat} {x:Obj} (h:w.heap[i]? = some x):(w.alloc o).heap[i]? = some x:=(Below.heap_alloc _ _ _ (Array.getElem?_eq_some_iff.1 h).1).trans h
theorem al_new (w:World) (o:Obj) {n:Nat} (h:w.heap.size=n):(w.alloc o).heap[n]? = some o:=by subst h;exact World.alloc_heap_new _ _
theorem pl_psr {W:World} {g:Nat} {k t:List (Int × Int)} {cu:Int} {kv rv:Value} (hb:W.heap[g]? = some (.cells #[.bool false,.slice none 0 0,kv,.slice none 0 0,.bool false,rv,.int .i64 cu] 60 (0,0))) (h:SR W kv [k]∧PR W rv [⟨3,0,0,t⟩]):PsR W (.slice (some ⟨g,0,none⟩) 1 1) [plR k t cu]:=by
 refine ⟨_,1,rfl,Nat.le_refl _,.inr ⟨g,0,rfl,fun j hj => ?_⟩⟩
 obtain rfl:j=0:=by simpa using hj
 have cel:∀ (i:Nat) (u:Value),([Value.bool false,.slice none 0 0,kv,.slice none 0 0,.bool false,rv,.int .i64 cu]:List Value)[i]? = some u→W.cell? ⟨g,0+0*7+i,none⟩=some u:=fun i u hu=>by
  rw [cell_of hb]
  simpa using hu
 exact ⟨_,_,_,_,cel 0 _ rfl,cel 1 _ rfl,cel 2 _ rfl,cel 3 _ rfl,cel 4 _ rfl,cel 5 _ rfl,cel 6 _ rfl,⟨⟨none,0,rfl,Nat.le_refl _,.inl rfl⟩,h.1,⟨none,0,rfl,Nat.le_refl _,.inl rfl⟩,h.2⟩⟩
def plW (w:World) (k1 k2 t1 t2 cu:Int):World:=(((((w.alloc (.cells #[.int .i64 k1,.int .i64 k2] 67)).alloc (.cells #[.slice (some ⟨w.heap.size,0,none⟩) 1 1] 40)).alloc (.cells #[.int .i64 t1,.int .i64 t2] 67)).alloc (.cells #[.int .i64 3,.int .i64 0,.int .i64 0,.slice (some ⟨w.heap.size+1+1,0,none⟩) 1 1] 64)).alloc (.cells #[.bool false,.slice none 0 0,.slice (some ⟨w.heap.size+1,0,none⟩) 1 1,.slice none 0 0,.bool false,.slice (some ⟨w.heap.size+1+1+1,0,none⟩) 1 1,.int .i64 cu] 60))
theorem plW_grown (w:World) (k1 k2 t1 t2 cu:Int):Grown w (plW w k1 k2 t1 t2 cu):=(((((Grown.refl w).alloc _).alloc _).alloc _).alloc _).alloc _
theorem plW_size (w:World) (k1 k2 t1 t2 cu:Int):(plW w k1 k2 t1 t2 cu).heap.size=w.heap.size+1+1+1+1+1:=by simp only [plW,World.size_alloc]
theorem plW_blk (w:World) (k1 k2 t1 t2 cu:Int):(plW w k1 k2 t1 t2 cu).heap[w.heap.size+1+1+1+1]? = some (.cells #[.bool false,.slice none 0 0,.slice (some ⟨w.heap.size+1,0,none⟩) 1 1,.slice none 0 0,.bool false,.slice (some ⟨w.heap.size+1+1+1,0,none⟩) 1 1,.int .i64 cu] 60 (0,0)):=al_new _ _ (by simp only [World.size_alloc])
theorem plW_parts (w:World) (k1 k2 t1 t2 cu:Int):Rob (fun k=>k<w.heap.size∨w.heap.size+1+1+1<k) (plW w k1 k2 t1 t2 cu) fun W=>SR W (.slice (some ⟨w.heap.size+1,0,none⟩) 1 1) [[(k1,k2)]]∧PR W (.slice (some ⟨w.heap.size+1+1+1,0,none⟩) 1 1) [⟨3,0,0,[(t1,t2)]⟩]:=fun W' hf=>by
 have hs:=plW_size w k1 k2 t1 t2 cu
 have tr:∀ (i:Nat) (x:Obj),(plW w k1 k2 t1 t2 cu).heap[i]? = some x→w.heap.size≤i→i≤w.heap.size+1+1+1→W'.heap[i]? = some x:=fun i x hx h1 h2=>(hf.block i (Array.getElem?_eq_some_iff.1 hx).1 fun e=>by omega).trans hx
 have b0:=tr w.heap.size (.cells #[.int .i64 k1,.int .i64 k2] 67 (0,0)) (al_old _ _ (al_old _ _ (al_old _ _ (al_old _ _ (al_new _ _ rfl))))) (by omega) (by omega)
 have b1:=tr (w.heap.size+1) (.cells #[.slice (some ⟨w.heap.size,0,none⟩) 1 1] 40 (0,0)) (al_old _ _ (al_old _ _ (al_old _ _ (al_new _ _ (by simp only [World.size_alloc]))))) (by omega) (by omega)
 have b2:=tr (w.heap.size+1+1) (.cells #[.int .i64 t1,.int .i64 t2] 67 (0,0)) (al_old _ _ (al_old _ _ (al_new _ _ (by simp only [World.size_alloc])))) (by omega) (by omega)
 have b3:=tr (w.heap.size+1+1+1) (.cells #[.int .i64 3,.int .i64 0,.int .i64 0,.slice (some ⟨w.heap.size+1+1,0,none⟩) 1 1] 64 (0,0)) (al_old _ _ (al_new _ _ (by simp only [World.size_alloc]))) (by omega) (by omega)
 have rs:∀ (g:Nat) (a b:Int),W'.heap[g]? = some (.cells #[.int .i64 a,.int .i64 b] 67 (0,0))→Rs W' (.slice (some ⟨g,0,none⟩) 1 1) [(a,b)]:=fun g a b hg=>by
  refine ⟨_,1,rfl,Nat.le_refl _,.inr ⟨g,0,rfl,fun j hj => ?_⟩⟩
  obtain rfl:j=0:=by simpa using hj
  exact ⟨by rw [cell_of hg];rfl,by rw [cell_of hg];rfl⟩
 refine ⟨⟨_,1,rfl,Nat.le_refl _,.inr ⟨_,0,rfl,fun j hj => ?_⟩⟩,⟨_,1,rfl,Nat.le_refl _,.inr ⟨_,0,rfl,fun j hj => ?_⟩⟩⟩
 · obtain rfl:j=0:=by simpa using hj
   exact ⟨_,by rw [cell_of b1];rfl,rs _ _ _ b0⟩
 · obtain rfl:j=0:=by simpa using hj
   exact ⟨_,by rw [cell_of b3];rfl,by rw [cell_of b3];rfl,by rw [cell_of b3];rfl,by rw [cell_of b3];rfl,rs _ _ _ b2⟩
def PlQ (w:World) (e:Ending) (w':World):Prop:=∃ g k r,e = .returned (.agg #[.slice (some ⟨g,0,none⟩) 1 1])∧w'.heap[g]? = some (.cells #[.bool false,.slice none 0 0,.slice (some ⟨k,0,none⟩) 1 1,.slice none 0 0,.bool false,.slice (some ⟨r,0,none⟩) 1 1,.int .i64 1] 60 (0,0))∧Rob (fun j=>j<w.heap.size∨j=g) w' (fun W=>SR W (.slice (some ⟨k,0,none⟩) 1 1) [[(97,99)]]∧PR W (.slice (some ⟨r,0,none⟩) 1 1) [⟨3,0,0,[(120,122)]⟩])∧w.heap.size≤g∧Below w.heap.size w w'
theorem ret_pl34 {tmps:Array Value} {W:World} {B:Nat} {x:Value} {R:Ending→World→Prop} (hp:tmps.getD 0 undef = .pointer (some ⟨B,0,none⟩)) (hb:W.heap[B]? = some (.cells #[x] 24 (0,0)))
 (K:R (.returned (.agg #[x])) W):bodyPost Tryz.prog Tryz.f34 R Exit.ret { tmps:=tmps,defers:=[] } W:=
 bodyPost_ret (v := .agg #[x]) (results_cell_row rfl tmps W B 24 _ _ _ hp hb Tryz.underlying24 rfl (by kernel_rfl)) rfl K
set_option maxHeartbeats 2000000 in
theorem plain34_any (w:World):Calls Tryz.prog 34 #[] w (PlQ w):=by
 obtain ⟨W1,hW1⟩:∃ W1,w.alloc (.cells #[.slice none 0 0] 24)=W1:=⟨_,rfl⟩
 have hs1:W1.heap.size=w.heap.size+1:=by rw [←hW1];simp only [World.size_alloc]
 have hb1:W1.heap[w.heap.size]? = some (.cells #[.slice none 0 0] 24 (0,0)):=by rw [←hW1];exact World.alloc_heap_new _ _
 have g1:Grown w W1:=by rw [←hW1];exact (Grown.refl w).alloc _
 obtain ⟨W6,hW6⟩:∃ W6,plW W1 97 99 120 122 1=W6:=⟨_,rfl⟩
 have g6:=plW_grown W1 97 99 120 122 1
 have k6:=plW_blk W1 97 99 120 122 1
 have p6:=plW_parts W1 97 99 120 122 1
 rw [hW6] at g6 k6 p6
 have hb6:W6.heap[w.heap.size]? = some (.cells #[.slice none 0 0] 24 (0,0)):=(g6.below.block _ (by omega)).trans hb1
 have c0:W6.cell? ⟨w.heap.size,0,none⟩=some (.slice none 0 0):=by rw [cell_of hb6];rfl
 have f0:W6.frozen? ⟨w.heap.size,0,none⟩=false:=free_of hb6
 rw [hs1] at k6 p6
 have HBB:Hid ((W6.setCell ⟨w.heap.size,0,none⟩ (.slice (some ⟨w.heap.size+1+1+1+1+1,0,none⟩) 1 1)).heap[w.heap.size]? = some (.cells #[.slice (some ⟨w.heap.size+1+1+1+1+1,0,none⟩) 1 1] 24 (0,0))):=by
  show _=_
  rw [set_heap hb6]
  rfl
 have HF:Hid (PlQ w (.returned (.agg #[.slice (some ⟨w.heap.size+1+1+1+1+1,0,none⟩) 1 1])) (W6.setCell ⟨w.heap.size,0,none⟩ (.slice (some ⟨w.heap.size+1+1+1+1+1,0,none⟩) 1 1))):=by
  refine ⟨_,_,_,rfl,(Below.heap_setCell W6 ⟨w.heap.size,0,none⟩ _ _ (show _≠w.heap.size by omega)).trans k6,?_,by omega,(g1.trans g6).below.setCell (Nat.le_refl _) _⟩
  exact (p6.fr (fr_set W6 w.heap.size 0 _) fun k _ e => .inl (by omega)).less fun k _ e=>by omega
 have hW6':(((((W1.alloc (.cells #[.int .i64 97,.int .i64 99] 67)).alloc (.cells #[.slice (some ⟨w.heap.size+1,0,none⟩) 1 1] 40)).alloc (.cells #[.int .i64 120,.int .i64 122] 67)).alloc (.cells #[.int .i64 3,.int .i64 0,.int .i64 0,.slice (some ⟨w.heap.size+1+1+1,0,none⟩) 1 1] 64)).alloc (.cells #[.bool false,.slice none 0 0,.slice (some ⟨w.heap.size+1+1,0,none⟩) 1 1,.slice none 0 0,.bool false,.slice (some ⟨w.heap.size+1+1+1+1,0,none⟩) 1 1,.int .i64 1] 60))=W6:=by
  have:=hW6
  unfold plW at this
  rw [hs1] at this
  exact this
 rw [←hW1] at hW6'
 clear hW6 hb6 k6 p6 g6 g1 hb1 hs1 hW1
 go_enter Tryz.func34,Tryz.ntmps34
 go_wp2
 exact ret_pl34 rfl HBB.out HF.out
end Go.Proofs
namespace Go.Proofs
open Go.RowKit Go.Shelf
set_option maxRecDepth 100000
attribute [local go_sem] Oper.semAt_some
set_option maxHeartbeats 4000000 in
theorem rimageZ_any (r:Rl) (av kv pv rv:Value) (w0 w:World) (hr:RR w0 av kv pv rv r) (hb0:Below w0.heap.size w0 w) (ho:Ok r) :
 Calls Tryz.prog 46 #[.agg #[.bool r.bg,av,kv,pv,.bool r.en,rv,.int .i64 r.cu]] w fun e w'=>∃ v,e = .returned v∧ImgZ (ZB w0.heap.size w.heap.size) w w' v (img r):=by
 obtain ⟨n,hn⟩:∃ n,r.res.length=n:=⟨_,rfl⟩
 obtain ⟨aa,an,ac,rfl⟩:=hr.a.sl
 obtain ⟨ka,kc,rfl,hkc,_⟩:=hr.k
 obtain ⟨pa,pn,pc,rfl⟩:=hr.p.sl
 obtain ⟨ra,rc,rfl,hrc,_⟩:=hr.r
 have hn16:n≤16:=by have:=ho.r16;omega
 obtain ⟨kn,hkn⟩:∃ kn,r.key.length=kn:=⟨_,rfl⟩
 have hr2:RR w0 (.slice aa an ac) (.slice ka kn kc) (.slice pa pn pc) (.slice ra n rc) r:=by rw [←hkn,←hn];exact hr
 have H:Hid (Ok r∧r.res.length=n):=⟨ho,hn⟩
 rw [hn,hkn]
 have HK:Hid (r.key.length=kn):=hkn
 have hk8:kn≤8:=by have:=ho.k8;omega
 obtain ⟨W1,hW1⟩:∃ W1,w.alloc (.cells #[.bool r.bg,.slice aa an ac,.slice ka kn kc,.slice pa pn pc,.bool r.en,.slice ra n rc,.int .i64 r.cu] 60)=W1:=⟨_,rfl⟩
 have HW:Hid (Below w.heap.size w W1∧W1.cell? ⟨w.heap.size,2,none⟩=some (.slice ka kn kc)∧RR w0 (.slice aa an ac) (.slice ka kn kc) (.slice pa pn pc) (.slice ra n rc) r∧Below w0.heap.size w0 W1):=by
  subst hW1
  have hb:Below w.heap.size w (w.alloc (.cells #[.bool r.bg,.slice aa an ac,.slice ka kn kc,.slice pa pn pc,.bool r.en,.slice ra n rc,.int .i64 r.cu] 60)):=(Below.refl _ w).alloc (Nat.le_refl _) _
  exact ⟨hb,by rw [cell_of (World.alloc_heap_new _ _)];rfl,hr2,hb0.trans (hb.mono hb0.size)⟩
 clear hr hr2 ho hn hkn hkc hrc hb0
 go_enter Tryz.func46,Tryz.ntmps46
 have x5:W1.cell? ⟨w.heap.size,5,none⟩=some (.slice ra n rc):=by subst hW1;rw [cell_of (World.alloc_heap_new _ _)];rfl
 have H0:Hid (ImgZ (ZB w0.heap.size w.heap.size) W1 (W1.alloc (.cells #[] 40)) (.slice (some ⟨W1.heap.size,0,none⟩) 0 0) ((img r).take 0)):=⟨⟨[],rfl,World.ownsRow_lit W1 _ 0 (Nat.le_refl _) (by unfold maxLen;omega) rfl,fun j hj=>by simp at hj⟩,(Below.refl _ W1).alloc (Nat.le_refl _) _⟩
 have HX5:Hid (W1.cell? ⟨w.heap.size,5,none⟩=some (.slice ra n rc)):=x5
 go_wp2
 clear x5
 go_loopw [3,4] (fun vv vi wr=>∃ k:Nat,vi = .int .i64 k∧k≤n∧Hid (ImgZ (ZB w0.heap.size w.heap.size) W1 wr vv ((img r).take k))) (fun _ vi _=>n - (intOf vi).toNat)
 case atStart=>exact ⟨0,rfl,by omega,H0.out⟩
 case round=>
  obtain ⟨k,rfl,hk,HB⟩:=hrel
  clear H0
  have x5:=cell_below HX5.out HB.out.2 (Nat.le_refl _)
  by_cases hlt:k<n
  · have hlt':(k:Int)<(n:Int):=by omega
    have hpos:(0:Int)≤(k:Int):=by omega
    have hkl:k<r.res.length:=by rw [H.out.2];exact hlt
    have x2:=cell_below HW.out.2.1 HB.out.2 (Nat.le_refl _)
    have hb0:Below w0.heap.size w0 wr:=HW.out.2.2.2.trans (HB.out.2.mono HW.out.2.2.2.size)
    obtain ⟨a5,c5,e5,_,h5⟩:=HW.out.2.2.1.r
    injection e5 with e5 e5b e5c
    clear e5b e5c
    obtain ⟨g,o,e6,hP⟩:=h5.resolve_left (by intro e;rw [e] at hkl;simp at hkl)
    subst e5
    subst e6
    obtain ⟨tv,p0,p1,p2,p3,hT⟩:=hP k hkl
    have hpc:=pc_ok (H.out.1.pc _ (List.getElem_mem hkl))
    have HS:Hid ((img r).take (k+1)=(img r).take k++[imgP r.key r.res[k]]):=img_succ r hkl
    obtain ⟨P,hPe⟩:∃ P,r.res[k]'hkl=P:=⟨_,rfl⟩
    rw [hPe] at p0 p1 p2 hT hpc HS
    have p0:=cell_below p0 hb0 (Nat.le_refl _)
    have p1:=cell_below p1 hb0 (Nat.le_refl _)
    have p2:=cell_below p2 hb0 (Nat.le_refl _)
    have p3:=cell_below p3 hb0 (Nat.le_refl _)
    obtain ⟨pk,pu,py,ptl⟩:=P
    simp only at p0 p1 p2 hT hpc
    obtain ⟨ta,tn,tc,rfl⟩:=hT.sl
    have HT:Hid (Rs w0 (.slice ta tn tc) ptl):=hT
    obtain ⟨va,vc,rfl⟩:=HB.out.1.form
    have HB0:Hid (Below w0.heap.size w0 wr∧w.heap.size≤wr.heap.size∧w0.heap.size≤W1.heap.size):=⟨hb0,Nat.le_trans HW.out.1.size HB.out.2.size,HW.out.2.2.2.size⟩
    clear hPe hP hT hb0
    rcases hpc with ⟨rfl,-,-,-⟩ | ⟨rfl,-,-,hy0,hy1⟩ | ⟨rfl,-,-,-,-⟩
    · clear x2
      have hrs:=one_new (wr.alloc (.cells #[.int .i64 1,.int .i64 pu,.int .i64 py,.slice ta tn tc] 64)) pu
      rw [World.size_alloc] at hrs
      have hap:Apt (.slice (some ⟨wr.heap.size+1,0,none⟩) 1 1) (.slice va ((img r).take k).length vc):=fun g o n c e hn hb=>by
       injection e with e1
       injection e1 with e2
       injection e2 with e3
       have:=(HB.out.1.blk hb).2
       omega
      have hlen:((img r).take k).length+1≤1000000:=by rw [List.length_take];have:=H.out.1.r16;simp [img];omega
      have hbs:=HB.out.2.size
      have hz:ZB w0.heap.size w.heap.size (.slice (some ⟨wr.heap.size+1,0,none⟩) 1 1):=fun g o n c e _=>by
       injection e with e1
       injection e1 with e2
       injection e2 with e3
       have:=HB0.out.2.1
       omega
      go_upto_region 4 with (first | (at_builtin;refine push_Zs rfl _ _ 34 rfl Tryz.underlying34 W1.heap.size _ ((img r).take k) rfl ((((HB.out.1.alloc _).alloc _).alloc _)) (wr.heap.size+1+1) 1 (.slice (some ⟨wr.heap.size+1,0,none⟩) 1 1) [(pu,pu)] rfl ?_ hrs hap hz hlen ?_ ?_;rotate_left 2;intro v6 w6 hO6 hb6) | fail)
      · have HF:Hid (ImgZ (ZB w0.heap.size w.heap.size) W1 w6 v6 ((img r).take (k+1))):=⟨by rw [HS.out];exact hO6,(((HB.out.2.alloc hbs _).alloc (by rw [World.size_alloc];omega) _).alloc (by rw [World.size_alloc,World.size_alloc];omega) _).trans hb6⟩
        obtain ⟨a6,c6,rfl⟩:=hO6.form
        clear hO6 hb6 HB hrs hap x5
        go_wp2
        exact ⟨⟨k+1,by go_num,by omega,HF⟩,by simp [intOf];omega⟩
      · omega
    · -- the same as at a place of the key
      obtain ⟨yn,rfl⟩:∃ yn:Nat,py=(yn:Int):=⟨py.toNat,by omega⟩
      have hyk:yn<r.key.length:=by omega
      have hykn:(yn:Int)<(kn:Int):=by have:=HK.out;omega
      have hy00:(0:Int)≤(yn:Int):=by omega
      obtain ⟨a7,c7,e7,_,h7⟩:=HW.out.2.2.1.k
      injection e7 with e7 e7b e7c
      clear e7b e7c
      obtain ⟨g2,o2,e8,hS⟩:=h7.resolve_left (by intro e;rw [e] at hyk;simp at hyk)
      subst e7
      subst e8
      obtain ⟨sv,k1,hsv⟩:=hS yn hyk
      have hka:imgP r.key ⟨2,pu,(yn:Int),ptl⟩=r.key[yn]:=by
       unfold imgP keyAt
       simp [hyk]
      have HSV:Hid (Rs w0 sv r.key[yn]):=hsv
      obtain ⟨sa,sn,sc,rfl⟩:=hsv.sl
      have k1:=cell_below k1 HB0.out.1 (Nat.le_refl _)
      have k1a:=cell_below k1 ((Below.refl _ wr).alloc (Nat.le_refl _) (.cells #[.int .i64 2,.int .i64 pu,.int .i64 yn,.slice ta tn tc] 64)) (Nat.le_refl _)
      have x2a:=cell_below x2 ((Below.refl _ wr).alloc (Nat.le_refl _) (.cells #[.int .i64 2,.int .i64 pu,.int .i64 yn,.slice ta tn tc] 64)) (Nat.le_refl _)
      have hbs:=HB.out.2.size
      have hap:Apt (.slice sa sn sc) (.slice va ((img r).take k).length vc):=apt_oldZ HSV.out HB.out.1 HB0.out.2.2
      have hrs:Rs ((wr.alloc (.cells #[.int .i64 2,.int .i64 pu,.int .i64 yn,.slice ta tn tc] 64)).alloc (.cells #[.slice sa sn sc] 40)) (.slice sa sn sc) (imgP r.key ⟨2,pu,(yn:Int),ptl⟩):=by
       rw [hka]
       exact HSV.out.below ((HB0.out.1.alloc HB0.out.1.size _).alloc (by rw [World.size_alloc];have:=HB0.out.1.size;omega) _) (Nat.le_refl _)
      have hlen:((img r).take k).length+1≤1000000:=by rw [List.length_take];have:=H.out.1.r16;simp [img];omega
      have hz:ZB w0.heap.size w.heap.size (.slice sa sn sc):=zb_old HSV.out
      clear hsv hS h7 hka
      go_upto_region 4 with (first | (at_builtin;refine push_Zs rfl _ _ 34 rfl Tryz.underlying34 W1.heap.size _ ((img r).take k) rfl (((HB.out.1.alloc _).alloc _)) (wr.heap.size+1) 1 (.slice sa sn sc) (imgP r.key ⟨2,pu,(yn:Int),ptl⟩) rfl ?_ hrs hap hz hlen ?_ ?_;rotate_left 2;intro v6 w6 hO6 hb6) | fail)
      · have HF:Hid (ImgZ (ZB w0.heap.size w.heap.size) W1 w6 v6 ((img r).take (k+1))):=⟨by rw [HS.out];exact hO6,((HB.out.2.alloc hbs _).alloc (by rw [World.size_alloc];omega) _).trans hb6⟩
        obtain ⟨a6,c6,rfl⟩:=hO6.form
        clear hO6 hb6 HB hrs hap x5
        go_wp2
        exact ⟨⟨k+1,by go_num,by omega,HF⟩,by simp [intOf];omega⟩
      · omega
    · clear x2
      have hbs:=HB.out.2.size
      have hap:Apt (.slice ta tn tc) (.slice va ((img r).take k).length vc):=apt_oldZ HT.out HB.out.1 HB0.out.2.2
      have hrs:Rs ((wr.alloc (.cells #[.int .i64 3,.int .i64 pu,.int .i64 py,.slice ta tn tc] 64)).alloc (.cells #[.slice ta tn tc] 40)) (.slice ta tn tc) (imgP r.key ⟨3,pu,py,ptl⟩):=
       HT.out.below ((HB0.out.1.alloc HB0.out.1.size _).alloc (by rw [World.size_alloc];have:=HB0.out.1.size;omega) _) (Nat.le_refl _)
      have hz:ZB w0.heap.size w.heap.size (.slice ta tn tc):=zb_old HT.out
      have hlen:((img r).take k).length+1≤1000000:=by rw [List.length_take];have:=H.out.1.r16;simp [img];omega
      go_upto_region 4 with (first | (at_builtin;refine push_Zs rfl _ _ 34 rfl Tryz.underlying34 W1.heap.size _ ((img r).take k) rfl (((HB.out.1.alloc _).alloc _)) (wr.heap.size+1) 1 (.slice ta tn tc) (imgP r.key ⟨3,pu,py,ptl⟩) rfl ?_ hrs hap hz hlen ?_ ?_;rotate_left 2;intro v6 w6 hO6 hb6) | fail)
      · have HF:Hid (ImgZ (ZB w0.heap.size w.heap.size) W1 w6 v6 ((img r).take (k+1))):=⟨by rw [HS.out];exact hO6,((HB.out.2.alloc hbs _).alloc (by rw [World.size_alloc];omega) _).trans hb6⟩
        obtain ⟨a6,c6,rfl⟩:=hO6.form
        clear hO6 hb6 HB hrs hap x5
        go_wp2
        exact ⟨⟨k+1,by go_num,by omega,HF⟩,by simp [intOf];omega⟩
      · omega
  · have hkn:Hid (k=n):=by show k=n;omega
    have HF':=HB.out
    rw [List.take_of_length_le (by simp [img];have:=H.out.2;have:=hkn.out;omega)] at HF'
    obtain ⟨va,vc,rfl⟩:=HF'.1.form
    have HF:Hid (ImgZ (ZB w0.heap.size w.heap.size) W1 wr (.slice va (img r).length vc) (img r)):=HF'
    clear HF' HB
    go_wp2
    go_ret
    exact ⟨_,rfl,HF.out.1.le HW.out.1.size,HW.out.1.trans (HF.out.2.mono HW.out.1.size)⟩
theorem rimageR_any (r:Rl) (av kv pv rv:Value) (w0 w:World) (hr:RR w0 av kv pv rv r) (hb0:Below w0.heap.size w0 w) (ho:Ok r) :
 Calls Tryz.prog 46 #[.agg #[.bool r.bg,av,kv,pv,.bool r.en,rv,.int .i64 r.cu]] w fun e w'=>∃ y1 y2 y3,e = .returned (.slice y1 y2 y3)∧Rob (fun k=>w0.heap.size≤k∧k<w.heap.size) w' (fun W=>SR W (.slice y1 y2 y3) (img r))∧Below w.heap.size w w':=by
 refine (rimageZ_any r av kv pv rv w0 w hr hb0 ho).mono ?_
 rintro e w' ⟨v,rfl,h1,h2⟩
 obtain ⟨a,c,rfl⟩:=h1.form
 exact ⟨_,_,_,rfl,h1.rob,h2⟩
end Go.Proofs
