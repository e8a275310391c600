/-
  Several texts in one (Xax Xcx Yrx Ysx Gmx R4x R5x).
-/
import Derived.Test.YtcfcjljapamcoaaGreatDoorMprx
import Derived.Test.YtcfcjljapamcoaaGreatDoorMgix
import Derived.Test.YtcfcjljapamcoaaGreatDoorMpmx
import Derived.Test.YtcfcjljapamcoaaGreatDoorMppx
import Derived.Test.YtcfcjljapamcoaaGreatDoorMpnx
import Derived.Test.YtcfcjljapamcoaaGreatDoorZ6x
namespace Go.Proofs
open Go.RowKit Go.Shelf
set_option maxRecDepth 100000
attribute [local go_sem] Oper.semAt_some
theorem inL_cons (x:Int × Int) (s:List (Int × Int)) (u:Int):inL (x::s) u=(inR x u || inL s u):=rfl
theorem inL_tail_low {x:Int × Int} {s:List (Int × Int)} (h:Up (x::s)) {u:Int} (hu:inL s u=true):x.2+1<u:=by
 obtain ⟨y,hy,h1⟩:=List.any_eq_true.1 hu
 have h2:=(inR_iff y u).1 h1
 have h3:=List.rel_of_pairwise_cons h.1 hy
 omega
theorem Up.tail {x:Int × Int} {s:List (Int × Int)} (h:Up (x::s)):Up s:=⟨(List.pairwise_cons.1 h.1).2,fun y hy=>h.2 y (List.mem_cons_of_mem _ hy)⟩
theorem up_unique:∀ (s t:List (Int × Int)),Up s→Up t→(∀ u,inL s u=true↔inL t u=true)→s=t
 | [],[],_,_,_=>rfl
 | [],y::t,_,ht,h=>by
  have:=(h y.1).2 (by rw [inL_cons,(inR_iff y y.1).2 ⟨Int.le_refl _,ht.2 y (by simp)⟩];rfl)
  simp [inL] at this
 | x::s,[],hs,_,h=>by
  have:=(h x.1).1 (by rw [inL_cons,(inR_iff x x.1).2 ⟨Int.le_refl _,hs.2 x (by simp)⟩];rfl)
  simp [inL] at this
 | x::s,y::t,hs,ht,h=>by
  have hx:=hs.2 x (by simp)
  have hy:=ht.2 y (by simp)
  have ins:∀ u,inL (x::s) u=true↔(x.1≤u∧u≤x.2)∨inL s u=true:=fun u=>by rw [inL_cons,Bool.or_eq_true,inR_iff]
  have int:∀ u,inL (y::t) u=true↔(y.1≤u∧u≤y.2)∨inL t u=true:=fun u=>by rw [inL_cons,Bool.or_eq_true,inR_iff]
  have h':∀ u,((x.1≤u∧u≤x.2)∨inL s u=true)↔((y.1≤u∧u≤y.2)∨inL t u=true):=fun u=>by rw [←ins,←int];exact h u
  have e1:x.1=y.1:=by
   have a1:=(h' x.1).1 (.inl ⟨by omega,hx⟩)
   have a2:=(h' y.1).2 (.inl ⟨by omega,hy⟩)
   have b1:y.1≤x.1:=by
    rcases a1 with a | a
    · omega
    · have:=inL_tail_low ht a;omega
   have b2:x.1≤y.1:=by
    rcases a2 with a | a
    · omega
    · have:=inL_tail_low hs a;omega
   omega
  have e2:x.2=y.2:=by
   have a1:=(h' x.2).1 (.inl ⟨hx,by omega⟩)
   have a2:=(h' y.2).2 (.inl ⟨hy,by omega⟩)
   have c1:x.2≤y.2:=by
    rcases Int.lt_or_le y.2 x.2 with hlt | hle
    · exfalso
      have:=(h' (y.2+1)).1 (.inl ⟨by omega,by omega⟩)
      rcases this with a | a
      · omega
      · have:=inL_tail_low ht a;omega
    · exact hle
   have c2:y.2≤x.2:=by
    rcases Int.lt_or_le x.2 y.2 with hlt | hle
    · exfalso
      have:=(h' (x.2+1)).2 (.inl ⟨by omega,by omega⟩)
      rcases this with a | a
      · omega
      · have:=inL_tail_low hs a;omega
    · exact hle
   omega
  have e:x=y:=Prod.ext e1 e2
  subst e
  rw [up_unique s t hs.tail ht.tail fun u => ?_]
  constructor
  · intro hu
    have hlow:=inL_tail_low hs hu
    rcases (h' u).1 (.inr hu) with a | a
    · omega
    · exact a
  · intro hu
    have hlow:=inL_tail_low ht hu
    rcases (h' u).2 (.inr hu) with a | a
    · omega
    · exact a
def plR (k:List (Int × Int)) (t:List (Int × Int)) (cu:Int):Rl:=⟨false,false,cu,[],[k],[],[⟨3,0,0,t⟩]⟩
def pl0:List Rl:=[plR [(97,99)] [(120,122)] 1]
def pl1:List Rl:=[plR [(97,99)] [(120,122)] 0]
theorem pl0_turn:pl0.map turnR=[plR [(120,122)] [(97,99)] 1]:=by decide +kernel
theorem pl0_chk:(chkW pl0).2=0:=by decide +kernel
theorem pl1_chk:(chkW pl1).2=0:=by decide +kernel
theorem pl0_wro (core:List (Int × Int)):wroE (plR [(97,99)] [(120,122)] 1) core=0:=by kernel_rfl
theorem pl1_wro (core:List (Int × Int)):wroE (plR [(97,99)] [(120,122)] 0) core=191:=by kernel_rfl
theorem ChkR.one {r:Rl} {core:List (Int × Int)} {n c:Int} (h:ChkR [r] core n c):n=0∧c=wroE r core:=by
 cases h with
 | wrong k r' h1 h2 h3=>
  obtain rfl:k=0:=by have:=(List.getElem?_eq_some_iff.1 h1).1;simpa using this
  simp at h1
  subst h1
  exact ⟨rfl,rfl⟩
 | clash k i r' x h1 h2 h3 h4 h5 h6 h7=>
  have:=(List.getElem?_eq_some_iff.1 h2).1
  simp at this
  omega
 | fine h1 h2=>exact ⟨rfl,(h1 r (by simp)).symm⟩
theorem pl0_trn {n c:Int} (h:TrnP pl0 n c):n=0∧c=0:=by
 rcases h with ⟨h1,_⟩ | ⟨_,core,_,_,h2⟩
 · exact absurd pl0_chk h1
 · have:=h2.one
   rw [pl0_wro] at this
   exact this
theorem pl1_trn {n c:Int} (h:TrnP pl1 n c):n=0∧c=191:=by
 rcases h with ⟨h1,_⟩ | ⟨_,core,_,_,h2⟩
 · exact absurd pl1_chk h1
 · have:=h2.one
   rw [pl1_wro] at this
   exact this
def plS:List (Int × Int):=[(0,119),(123,55295),(57344,1114111),(1114240,1114367)]
theorem pl0_over {s:List (Int × Int)} {n c:Int} (h:OvR pl0 s n c):s=plS∧n=0∧c=0:=by
 rcases h with ⟨h1,h2,_⟩ | ⟨_,t,h1,h2,h3⟩
 · exact absurd (pl0_trn h2).2 h1
 · have e:t=plS:=up_unique t plS h1 ⟨by simp [plS],by simp [plS]⟩ fun u=>by
    have e1:lsB pl0=[[(120,122)]]:=by decide +kernel
    have e2:lsG pl0=[[(97,99)]]:=by decide +kernel
    rw [h2,ovU,e1,e2]
    simp [inL,allU,plS,inR]
    omega
   subst e
   rcases h3 with ⟨h4,_⟩ | ⟨_,h5,h6,h7⟩
   · exact absurd h4 (by decide)
   · exact ⟨h5,h6,h7⟩
theorem al_old (w:World) (o:Obj) {i:Nat} {x:Obj} (h:w.heap[i]? = some x):(w.alloc o).heap[i]? = some x:=(Below.heap_alloc _ _ _ (Array.getElem?_eq_some_iff.1 h).1).trans h
theorem al_new (w:World) (o:Obj) {n:Nat} (h:w.heap.size=n):(w.alloc o).heap[n]? = some o:=by subst h;exact World.alloc_heap_new _ _
theorem pl_psr {W:World} {g:Nat} {k t:List (Int × Int)} {cu:Int} {kv rv:Value} (hb:W.heap[g]? = some (.cells #[.bool false,.slice none 0 0,kv,.slice none 0 0,.bool false,rv,.int .i64 cu] 60 (0,0))) (h:SR W kv [k]∧PR W rv [⟨3,0,0,t⟩]):PsR W (.slice (some ⟨g,0,none⟩) 1 1) [plR k t cu]:=by
 refine ⟨_,1,rfl,Nat.le_refl _,.inr ⟨g,0,rfl,fun j hj => ?_⟩⟩
 obtain rfl:j=0:=by simpa using hj
 have cel:∀ (i:Nat) (u:Value),([Value.bool false,.slice none 0 0,kv,.slice none 0 0,.bool false,rv,.int .i64 cu]:List Value)[i]? = some u→W.cell? ⟨g,0+0*7+i,none⟩=some u:=fun i u hu=>by
  rw [cell_of hb]
  simpa using hu
 exact ⟨_,_,_,_,cel 0 _ rfl,cel 1 _ rfl,cel 2 _ rfl,cel 3 _ rfl,cel 4 _ rfl,cel 5 _ rfl,cel 6 _ rfl,⟨⟨none,0,rfl,Nat.le_refl _,.inl rfl⟩,h.1,⟨none,0,rfl,Nat.le_refl _,.inl rfl⟩,h.2⟩⟩
def plW (w:World) (k1 k2 t1 t2 cu:Int):World:=(((((w.alloc (.cells #[.int .i64 k1,.int .i64 k2] 67)).alloc (.cells #[.slice (some ⟨w.heap.size,0,none⟩) 1 1] 40)).alloc (.cells #[.int .i64 t1,.int .i64 t2] 67)).alloc (.cells #[.int .i64 3,.int .i64 0,.int .i64 0,.slice (some ⟨w.heap.size+1+1,0,none⟩) 1 1] 64)).alloc (.cells #[.bool false,.slice none 0 0,.slice (some ⟨w.heap.size+1,0,none⟩) 1 1,.slice none 0 0,.bool false,.slice (some ⟨w.heap.size+1+1+1,0,none⟩) 1 1,.int .i64 cu] 60))
theorem plW_grown (w:World) (k1 k2 t1 t2 cu:Int):Grown w (plW w k1 k2 t1 t2 cu):=(((((Grown.refl w).alloc _).alloc _).alloc _).alloc _).alloc _
theorem plW_size (w:World) (k1 k2 t1 t2 cu:Int):(plW w k1 k2 t1 t2 cu).heap.size=w.heap.size+1+1+1+1+1:=by simp only [plW,World.size_alloc]
theorem plW_blk (w:World) (k1 k2 t1 t2 cu:Int):(plW w k1 k2 t1 t2 cu).heap[w.heap.size+1+1+1+1]? = some (.cells #[.bool false,.slice none 0 0,.slice (some ⟨w.heap.size+1,0,none⟩) 1 1,.slice none 0 0,.bool false,.slice (some ⟨w.heap.size+1+1+1,0,none⟩) 1 1,.int .i64 cu] 60 (0,0)):=al_new _ _ (by simp only [World.size_alloc])
theorem plW_parts (w:World) (k1 k2 t1 t2 cu:Int):Rob (fun k=>k<w.heap.size∨w.heap.size+1+1+1<k) (plW w k1 k2 t1 t2 cu) fun W=>SR W (.slice (some ⟨w.heap.size+1,0,none⟩) 1 1) [[(k1,k2)]]∧PR W (.slice (some ⟨w.heap.size+1+1+1,0,none⟩) 1 1) [⟨3,0,0,[(t1,t2)]⟩]:=fun W' hf=>by
 have hs:=plW_size w k1 k2 t1 t2 cu
 have tr:∀ (i:Nat) (x:Obj),(plW w k1 k2 t1 t2 cu).heap[i]? = some x→w.heap.size≤i→i≤w.heap.size+1+1+1→W'.heap[i]? = some x:=fun i x hx h1 h2=>(hf.block i (Array.getElem?_eq_some_iff.1 hx).1 fun e=>by omega).trans hx
 have b0:=tr w.heap.size (.cells #[.int .i64 k1,.int .i64 k2] 67 (0,0)) (al_old _ _ (al_old _ _ (al_old _ _ (al_old _ _ (al_new _ _ rfl))))) (by omega) (by omega)
 have b1:=tr (w.heap.size+1) (.cells #[.slice (some ⟨w.heap.size,0,none⟩) 1 1] 40 (0,0)) (al_old _ _ (al_old _ _ (al_old _ _ (al_new _ _ (by simp only [World.size_alloc]))))) (by omega) (by omega)
 have b2:=tr (w.heap.size+1+1) (.cells #[.int .i64 t1,.int .i64 t2] 67 (0,0)) (al_old _ _ (al_old _ _ (al_new _ _ (by simp only [World.size_alloc])))) (by omega) (by omega)
 have b3:=tr (w.heap.size+1+1+1) (.cells #[.int .i64 3,.int .i64 0,.int .i64 0,.slice (some ⟨w.heap.size+1+1,0,none⟩) 1 1] 64 (0,0)) (al_old _ _ (al_new _ _ (by simp only [World.size_alloc]))) (by omega) (by omega)
 have rs:∀ (g:Nat) (a b:Int),W'.heap[g]? = some (.cells #[.int .i64 a,.int .i64 b] 67 (0,0))→Rs W' (.slice (some ⟨g,0,none⟩) 1 1) [(a,b)]:=fun g a b hg=>by
  refine ⟨_,1,rfl,Nat.le_refl _,.inr ⟨g,0,rfl,fun j hj => ?_⟩⟩
  obtain rfl:j=0:=by simpa using hj
  exact ⟨by rw [cell_of hg];rfl,by rw [cell_of hg];rfl⟩
 refine ⟨⟨_,1,rfl,Nat.le_refl _,.inr ⟨_,0,rfl,fun j hj => ?_⟩⟩,⟨_,1,rfl,Nat.le_refl _,.inr ⟨_,0,rfl,fun j hj => ?_⟩⟩⟩
 · obtain rfl:j=0:=by simpa using hj
   exact ⟨_,by rw [cell_of b1];rfl,rs _ _ _ b0⟩
 · obtain rfl:j=0:=by simpa using hj
   exact ⟨_,by rw [cell_of b3];rfl,by rw [cell_of b3];rfl,by rw [cell_of b3];rfl,by rw [cell_of b3];rfl,rs _ _ _ b2⟩
def PlQ (w:World) (e:Ending) (w':World):Prop:=∃ g k r,e = .returned (.agg #[.slice (some ⟨g,0,none⟩) 1 1])∧w'.heap[g]? = some (.cells #[.bool false,.slice none 0 0,.slice (some ⟨k,0,none⟩) 1 1,.slice none 0 0,.bool false,.slice (some ⟨r,0,none⟩) 1 1,.int .i64 1] 60 (0,0))∧Rob (fun j=>j<w.heap.size∨j=g) w' (fun W=>SR W (.slice (some ⟨k,0,none⟩) 1 1) [[(97,99)]]∧PR W (.slice (some ⟨r,0,none⟩) 1 1) [⟨3,0,0,[(120,122)]⟩])∧w.heap.size≤g∧Below w.heap.size w w'
theorem ret_pl34 {tmps:Array Value} {W:World} {B:Nat} {x:Value} {R:Ending→World→Prop} (hp:tmps.getD 0 undef = .pointer (some ⟨B,0,none⟩)) (hb:W.heap[B]? = some (.cells #[x] 24 (0,0)))
 (K:R (.returned (.agg #[x])) W):bodyPost Tryz.prog Tryz.f34 R Exit.ret { tmps:=tmps,defers:=[] } W:=
 bodyPost_ret (v := .agg #[x]) (results_cell_row rfl tmps W B 24 _ _ _ hp hb Tryz.underlying24 rfl (by kernel_rfl)) rfl K
set_option maxHeartbeats 2000000 in
theorem plain34_any (w:World):Calls Tryz.prog 34 #[] w (PlQ w):=by
 obtain ⟨W1,hW1⟩:∃ W1,w.alloc (.cells #[.slice none 0 0] 24)=W1:=⟨_,rfl⟩
 have hs1:W1.heap.size=w.heap.size+1:=by rw [←hW1];simp only [World.size_alloc]
 have hb1:W1.heap[w.heap.size]? = some (.cells #[.slice none 0 0] 24 (0,0)):=by rw [←hW1];exact World.alloc_heap_new _ _
 have g1:Grown w W1:=by rw [←hW1];exact (Grown.refl w).alloc _
 obtain ⟨W6,hW6⟩:∃ W6,plW W1 97 99 120 122 1=W6:=⟨_,rfl⟩
 have g6:=plW_grown W1 97 99 120 122 1
 have k6:=plW_blk W1 97 99 120 122 1
 have p6:=plW_parts W1 97 99 120 122 1
 rw [hW6] at g6 k6 p6
 have hb6:W6.heap[w.heap.size]? = some (.cells #[.slice none 0 0] 24 (0,0)):=(g6.below.block _ (by omega)).trans hb1
 have c0:W6.cell? ⟨w.heap.size,0,none⟩=some (.slice none 0 0):=by rw [cell_of hb6];rfl
 have f0:W6.frozen? ⟨w.heap.size,0,none⟩=false:=free_of hb6
 rw [hs1] at k6 p6
 have HBB:Hid ((W6.setCell ⟨w.heap.size,0,none⟩ (.slice (some ⟨w.heap.size+1+1+1+1+1,0,none⟩) 1 1)).heap[w.heap.size]? = some (.cells #[.slice (some ⟨w.heap.size+1+1+1+1+1,0,none⟩) 1 1] 24 (0,0))):=by
  show _=_
  rw [set_heap hb6]
  rfl
 have HF:Hid (PlQ w (.returned (.agg #[.slice (some ⟨w.heap.size+1+1+1+1+1,0,none⟩) 1 1])) (W6.setCell ⟨w.heap.size,0,none⟩ (.slice (some ⟨w.heap.size+1+1+1+1+1,0,none⟩) 1 1))):=by
  refine ⟨_,_,_,rfl,(Below.heap_setCell W6 ⟨w.heap.size,0,none⟩ _ _ (show _≠w.heap.size by omega)).trans k6,?_,by omega,(g1.trans g6).below.setCell (Nat.le_refl _) _⟩
  exact (p6.fr (fr_set W6 w.heap.size 0 _) fun k _ e => .inl (by omega)).less fun k _ e=>by omega
 have hW6':(((((W1.alloc (.cells #[.int .i64 97,.int .i64 99] 67)).alloc (.cells #[.slice (some ⟨w.heap.size+1,0,none⟩) 1 1] 40)).alloc (.cells #[.int .i64 120,.int .i64 122] 67)).alloc (.cells #[.int .i64 3,.int .i64 0,.int .i64 0,.slice (some ⟨w.heap.size+1+1+1,0,none⟩) 1 1] 64)).alloc (.cells #[.bool false,.slice none 0 0,.slice (some ⟨w.heap.size+1+1,0,none⟩) 1 1,.slice none 0 0,.bool false,.slice (some ⟨w.heap.size+1+1+1+1,0,none⟩) 1 1,.int .i64 1] 60))=W6:=by
  have:=hW6
  unfold plW at this
  rw [hs1] at this
  exact this
 rw [←hW1] at hW6'
 clear hW6 hb6 k6 p6 g6 g1 hb1 hs1 hW1
 go_enter Tryz.func34,Tryz.ntmps34
 go_wp2
 exact ret_pl34 rfl HBB.out HF.out
end Go.Proofs
namespace Go.Proofs
open Go.RowKit Go.Shelf
set_option maxRecDepth 100000
attribute [local go_sem] Oper.semAt_some
end Go.Proofs
namespace Go.Proofs
open Go.RowKit Go.Shelf
set_option maxRecDepth 100000
attribute [local go_sem] Oper.semAt_some
end Go.Proofs
namespace Go.Proofs
open Go.RowKit Go.Shelf
set_option maxRecDepth 100000
attribute [local go_sem] Oper.semAt_some
end Go.Proofs
namespace Go.Proofs
open Go.RowKit
end Go.Proofs
namespace Go.Proofs
open Go.RowKit
end Go.Proofs
namespace Go.Proofs
open Go.RowKit Go.Shelf
set_option maxRecDepth 100000
attribute [local go_sem] Oper.semAt_some
theorem rest_alt {r:Rl} (ho:Ok r) (ht:telB r r.key.length=true) {k:Nat} (hk:k<r.key.length) :
 (lenU (r.key.getD k [])=1∧restP r (r.key.getD k []) k=⟨1,(rg (r.key.getD k []) 0).1,0,[]⟩) ∨
 (¬ lenU (r.key.getD k [])=1∧∃ (j:Nat) (q:Pc),spk r k r.res.length=[(j:Int)]∧r.res[j]? = some q∧((q.k=2∧restP r (r.key.getD k []) k=⟨2,0,j,[]⟩)∨(q.k=3∧restP r (r.key.getD k []) k=⟨3,0,j,r.key.getD k []⟩))):=by
 have hS:r.key[k]? = some (r.key.getD k []):=by rw [List.getD_eq_getElem?_getD,List.getElem?_eq_getElem hk];rfl
 have hplc:=telB_at ht hk hS
 obtain ⟨S,hSe⟩:∃ S,r.key.getD k []=S:=⟨_,rfl⟩
 rw [hSe] at hplc hS ⊢
 by_cases h1:lenU S=1
 · exact .inl ⟨h1,by rw [restP,if_pos h1]⟩
 · refine .inr ⟨h1,?_⟩
   have hone:(spk r k r.res.length).length=1:=by
    unfold plcB at hplc
    simpa [h1] using hplc
   obtain ⟨n,hn⟩:=List.length_eq_one_iff.1 hone
   obtain ⟨j,q,rfl,hj,hq,hk1,hqy⟩:=spk_one (r:=r) (p:=k) (n:=n) (by rw [hn];simp)
   refine ⟨j,q,hn,hq,?_⟩
   have he:restP r S k=if q.k=3 then ⟨3,0,j,S⟩ else ⟨2,0,j,[]⟩:=by
    rw [restP,if_neg h1,hn]
    simp only [List.head?_cons,Int.toNat_natCast,hq]
   rcases pc_ok (ho.pc q (List.mem_of_getElem? hq)) with ⟨e,_⟩ | ⟨e,_⟩ | ⟨e,_⟩
   · exact absurd e hk1
   · exact .inl ⟨e,by rw [he,if_neg (by omega)]⟩
   · exact .inr ⟨e,by rw [he,if_pos e]⟩
end Go.Proofs
