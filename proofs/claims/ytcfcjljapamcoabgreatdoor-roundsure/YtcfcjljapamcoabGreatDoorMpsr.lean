/-
  Several texts in one (Xar R2r RNr).
-/
import Derived.Test.YtcfcjljapamcoabGreatDoorMpqr
import Derived.Test.YtcfcjljapamcoabGreatDoorMpfr
import Derived.Test.YtcfcjljapamcoabGreatDoorR1r
namespace Go.Proofs
open Go.RowKit Go.Shelf
set_option maxRecDepth 100000
attribute [local go_sem] Oper.semAt_some
theorem inL_cons (x:Int × Int) (s:List (Int × Int)) (u:Int):inL (x::s) u=(inR x u || inL s u):=rfl
theorem inL_tail_low {x:Int × Int} {s:List (Int × Int)} (h:Up (x::s)) {u:Int} (hu:inL s u=true):x.2+1<u:=by
 obtain ⟨y,hy,h1⟩:=List.any_eq_true.1 hu
 have h2:=(inR_iff y u).1 h1
 have h3:=List.rel_of_pairwise_cons h.1 hy
 omega
theorem Up.tail {x:Int × Int} {s:List (Int × Int)} (h:Up (x::s)):Up s:=⟨(List.pairwise_cons.1 h.1).2,fun y hy=>h.2 y (List.mem_cons_of_mem _ hy)⟩
theorem up_unique:∀ (s t:List (Int × Int)),Up s→Up t→(∀ u,inL s u=true↔inL t u=true)→s=t
 | [],[],_,_,_=>rfl
 | [],y::t,_,ht,h=>by
  have:=(h y.1).2 (by rw [inL_cons,(inR_iff y y.1).2 ⟨Int.le_refl _,ht.2 y (by simp)⟩];rfl)
  simp [inL] at this
 | x::s,[],hs,_,h=>by
  have:=(h x.1).1 (by rw [inL_cons,(inR_iff x x.1).2 ⟨Int.le_refl _,hs.2 x (by simp)⟩];rfl)
  simp [inL] at this
 | x::s,y::t,hs,ht,h=>by
  have hx:=hs.2 x (by simp)
  have hy:=ht.2 y (by simp)
  have ins:∀ u,inL (x::s) u=true↔(x.1≤u∧u≤x.2)∨inL s u=true:=fun u=>by rw [inL_cons,Bool.or_eq_true,inR_iff]
  have int:∀ u,inL (y::t) u=true↔(y.1≤u∧u≤y.2)∨inL t u=true:=fun u=>by rw [inL_cons,Bool.or_eq_true,inR_iff]
  have h':∀ u,((x.1≤u∧u≤x.2)∨inL s u=true)↔((y.1≤u∧u≤y.2)∨inL t u=true):=fun u=>by rw [←ins,←int];exact h u
  have e1:x.1=y.1:=by
   have a1:=(h' x.1).1 (.inl ⟨by omega,hx⟩)
   have a2:=(h' y.1).2 (.inl ⟨by omega,hy⟩)
   have b1:y.1≤x.1:=by
    rcases a1 with a | a
    · omega
    · have:=inL_tail_low ht a;omega
   have b2:x.1≤y.1:=by
    rcases a2 with a | a
    · omega
    · have:=inL_tail_low hs a;omega
   omega
  have e2:x.2=y.2:=by
   have a1:=(h' x.2).1 (.inl ⟨hx,by omega⟩)
   have a2:=(h' y.2).2 (.inl ⟨hy,by omega⟩)
   have c1:x.2≤y.2:=by
    rcases Int.lt_or_le y.2 x.2 with hlt | hle
    · exfalso
      have:=(h' (y.2+1)).1 (.inl ⟨by omega,by omega⟩)
      rcases this with a | a
      · omega
      · have:=inL_tail_low ht a;omega
    · exact hle
   have c2:y.2≤x.2:=by
    rcases Int.lt_or_le x.2 y.2 with hlt | hle
    · exfalso
      have:=(h' (x.2+1)).2 (.inl ⟨by omega,by omega⟩)
      rcases this with a | a
      · omega
      · have:=inL_tail_low hs a;omega
    · exact hle
   omega
  have e:x=y:=Prod.ext e1 e2
  subst e
  rw [up_unique s t hs.tail ht.tail fun u => ?_]
  constructor
  · intro hu
    have hlow:=inL_tail_low hs hu
    rcases (h' u).1 (.inr hu) with a | a
    · omega
    · exact a
  · intro hu
    have hlow:=inL_tail_low ht hu
    rcases (h' u).2 (.inr hu) with a | a
    · omega
    · exact a
def plR (k:List (Int × Int)) (t:List (Int × Int)) (cu:Int):Rl:=⟨false,false,cu,[],[k],[],[⟨3,0,0,t⟩]⟩
def pl0:List Rl:=[plR [(97,99)] [(120,122)] 1]
theorem pl0_turn:pl0.map turnR=[plR [(120,122)] [(97,99)] 1]:=by decide +kernel
theorem pl0_chk:(chkW pl0).2=0:=by decide +kernel
theorem pl0_wro (core:List (Int × Int)):wroE (plR [(97,99)] [(120,122)] 1) core=0:=by kernel_rfl
theorem ChkR.one {r:Rl} {core:List (Int × Int)} {n c:Int} (h:ChkR [r] core n c):n=0∧c=wroE r core:=by
 cases h with
 | wrong k r' h1 h2 h3=>
  obtain rfl:k=0:=by have:=(List.getElem?_eq_some_iff.1 h1).1;simpa using this
  simp at h1
  subst h1
  exact ⟨rfl,rfl⟩
 | clash k i r' x h1 h2 h3 h4 h5 h6 h7=>
  have:=(List.getElem?_eq_some_iff.1 h2).1
  simp at this
  omega
 | fine h1 h2=>exact ⟨rfl,(h1 r (by simp)).symm⟩
theorem pl0_trn {n c:Int} (h:TrnP pl0 n c):n=0∧c=0:=by
 rcases h with ⟨h1,_⟩ | ⟨_,core,_,_,h2⟩
 · exact absurd pl0_chk h1
 · have:=h2.one
   rw [pl0_wro] at this
   exact this
def plS:List (Int × Int):=[(0,119),(123,55295),(57344,1114111),(1114240,1114367)]
theorem pl0_over {s:List (Int × Int)} {n c:Int} (h:OvR pl0 s n c):s=plS∧n=0∧c=0:=by
 rcases h with ⟨h1,h2,_⟩ | ⟨_,t,h1,h2,h3⟩
 · exact absurd (pl0_trn h2).2 h1
 · have e:t=plS:=up_unique t plS h1 ⟨by simp [plS],by simp [plS]⟩ fun u=>by
    have e1:lsB pl0=[[(120,122)]]:=by decide +kernel
    have e2:lsG pl0=[[(97,99)]]:=by decide +kernel
    rw [h2,ovU,e1,e2]
    simp [inL,allU,plS,inR]
    omega
   subst e
   rcases h3 with ⟨h4,_⟩ | ⟨_,h5,h6,h7⟩
   · exact absurd h4 (by decide)
   · exact ⟨h5,h6,h7⟩
theorem al_old (w:World) (o:Obj) {i:Nat} {x:Obj} (h:w.heap[i]? = some x):(w.alloc o).heap[i]? = some x:=(Below.heap_alloc _ _ _ (Array.getElem?_eq_some_iff.1 h).1).trans h
theorem al_new (w:World) (o:Obj) {n:Nat} (h:w.heap.size=n):(w.alloc o).heap[n]? = some o:=by subst h;exact World.alloc_heap_new _ _
theorem pl_psr {W:World} {g:Nat} {k t:List (Int × Int)} {cu:Int} {kv rv:Value} (hb:W.heap[g]? = some (.cells #[.bool false,.slice none 0 0,kv,.slice none 0 0,.bool false,rv,.int .i64 cu] 61 (0,0))) (h:SR W kv [k]∧PR W rv [⟨3,0,0,t⟩]):PsR W (.slice (some ⟨g,0,none⟩) 1 1) [plR k t cu]:=by
 refine ⟨_,1,rfl,Nat.le_refl _,.inr ⟨g,0,rfl,fun j hj => ?_⟩⟩
 obtain rfl:j=0:=by simpa using hj
 have cel:∀ (i:Nat) (u:Value),([Value.bool false,.slice none 0 0,kv,.slice none 0 0,.bool false,rv,.int .i64 cu]:List Value)[i]? = some u→W.cell? ⟨g,0+0*7+i,none⟩=some u:=fun i u hu=>by
  rw [cell_of hb]
  simpa using hu
 exact ⟨_,_,_,_,cel 0 _ rfl,cel 1 _ rfl,cel 2 _ rfl,cel 3 _ rfl,cel 4 _ rfl,cel 5 _ rfl,cel 6 _ rfl,⟨⟨none,0,rfl,Nat.le_refl _,.inl rfl⟩,h.1,⟨none,0,rfl,Nat.le_refl _,.inl rfl⟩,h.2⟩⟩
def plW (w:World) (k1 k2 t1 t2 cu:Int):World:=(((((w.alloc (.cells #[.int .i64 k1,.int .i64 k2] 55)).alloc (.cells #[.slice (some ⟨w.heap.size,0,none⟩) 1 1] 39)).alloc (.cells #[.int .i64 t1,.int .i64 t2] 55)).alloc (.cells #[.int .i64 3,.int .i64 0,.int .i64 0,.slice (some ⟨w.heap.size+1+1,0,none⟩) 1 1] 58)).alloc (.cells #[.bool false,.slice none 0 0,.slice (some ⟨w.heap.size+1,0,none⟩) 1 1,.slice none 0 0,.bool false,.slice (some ⟨w.heap.size+1+1+1,0,none⟩) 1 1,.int .i64 cu] 61))
theorem plW_grown (w:World) (k1 k2 t1 t2 cu:Int):Grown w (plW w k1 k2 t1 t2 cu):=(((((Grown.refl w).alloc _).alloc _).alloc _).alloc _).alloc _
theorem plW_size (w:World) (k1 k2 t1 t2 cu:Int):(plW w k1 k2 t1 t2 cu).heap.size=w.heap.size+1+1+1+1+1:=by simp only [plW,World.size_alloc]
theorem plW_blk (w:World) (k1 k2 t1 t2 cu:Int):(plW w k1 k2 t1 t2 cu).heap[w.heap.size+1+1+1+1]? = some (.cells #[.bool false,.slice none 0 0,.slice (some ⟨w.heap.size+1,0,none⟩) 1 1,.slice none 0 0,.bool false,.slice (some ⟨w.heap.size+1+1+1,0,none⟩) 1 1,.int .i64 cu] 61 (0,0)):=al_new _ _ (by simp only [World.size_alloc])
theorem plW_parts (w:World) (k1 k2 t1 t2 cu:Int):Rob (fun k=>k<w.heap.size∨w.heap.size+1+1+1<k) (plW w k1 k2 t1 t2 cu) fun W=>SR W (.slice (some ⟨w.heap.size+1,0,none⟩) 1 1) [[(k1,k2)]]∧PR W (.slice (some ⟨w.heap.size+1+1+1,0,none⟩) 1 1) [⟨3,0,0,[(t1,t2)]⟩]:=fun W' hf=>by
 have hs:=plW_size w k1 k2 t1 t2 cu
 have tr:∀ (i:Nat) (x:Obj),(plW w k1 k2 t1 t2 cu).heap[i]? = some x→w.heap.size≤i→i≤w.heap.size+1+1+1→W'.heap[i]? = some x:=fun i x hx h1 h2=>(hf.block i (Array.getElem?_eq_some_iff.1 hx).1 fun e=>by omega).trans hx
 have b0:=tr w.heap.size (.cells #[.int .i64 k1,.int .i64 k2] 55 (0,0)) (al_old _ _ (al_old _ _ (al_old _ _ (al_old _ _ (al_new _ _ rfl))))) (by omega) (by omega)
 have b1:=tr (w.heap.size+1) (.cells #[.slice (some ⟨w.heap.size,0,none⟩) 1 1] 39 (0,0)) (al_old _ _ (al_old _ _ (al_old _ _ (al_new _ _ (by simp only [World.size_alloc]))))) (by omega) (by omega)
 have b2:=tr (w.heap.size+1+1) (.cells #[.int .i64 t1,.int .i64 t2] 55 (0,0)) (al_old _ _ (al_old _ _ (al_new _ _ (by simp only [World.size_alloc])))) (by omega) (by omega)
 have b3:=tr (w.heap.size+1+1+1) (.cells #[.int .i64 3,.int .i64 0,.int .i64 0,.slice (some ⟨w.heap.size+1+1,0,none⟩) 1 1] 58 (0,0)) (al_old _ _ (al_new _ _ (by simp only [World.size_alloc]))) (by omega) (by omega)
 have rs:∀ (g:Nat) (a b:Int),W'.heap[g]? = some (.cells #[.int .i64 a,.int .i64 b] 55 (0,0))→Rs W' (.slice (some ⟨g,0,none⟩) 1 1) [(a,b)]:=fun g a b hg=>by
  refine ⟨_,1,rfl,Nat.le_refl _,.inr ⟨g,0,rfl,fun j hj => ?_⟩⟩
  obtain rfl:j=0:=by simpa using hj
  exact ⟨by rw [cell_of hg];rfl,by rw [cell_of hg];rfl⟩
 refine ⟨⟨_,1,rfl,Nat.le_refl _,.inr ⟨_,0,rfl,fun j hj => ?_⟩⟩,⟨_,1,rfl,Nat.le_refl _,.inr ⟨_,0,rfl,fun j hj => ?_⟩⟩⟩
 · obtain rfl:j=0:=by simpa using hj
   exact ⟨_,by rw [cell_of b1];rfl,rs _ _ _ b0⟩
 · obtain rfl:j=0:=by simpa using hj
   exact ⟨_,by rw [cell_of b3];rfl,by rw [cell_of b3];rfl,by rw [cell_of b3];rfl,by rw [cell_of b3];rfl,rs _ _ _ b2⟩
def PlQ (w:World) (e:Ending) (w':World):Prop:=∃ g k r,e = .returned (.agg #[.slice (some ⟨g,0,none⟩) 1 1])∧w'.heap[g]? = some (.cells #[.bool false,.slice none 0 0,.slice (some ⟨k,0,none⟩) 1 1,.slice none 0 0,.bool false,.slice (some ⟨r,0,none⟩) 1 1,.int .i64 1] 61 (0,0))∧Rob (fun j=>j<w.heap.size∨j=g) w' (fun W=>SR W (.slice (some ⟨k,0,none⟩) 1 1) [[(97,99)]]∧PR W (.slice (some ⟨r,0,none⟩) 1 1) [⟨3,0,0,[(120,122)]⟩])∧w.heap.size≤g∧Below w.heap.size w w'
end Go.Proofs
namespace Go.Proofs
open Go.RowKit Go.Shelf
set_option maxRecDepth 100000
attribute [local go_sem] Oper.semAt_some
theorem ret_pl60 {tmps:Array Value} {W:World} {B:Nat} {x:Value} {R:Ending→World→Prop} (hp:tmps.getD 0 undef = .pointer (some ⟨B,0,none⟩)) (hb:W.heap[B]? = some (.cells #[x] 24 (0,0)))
 (K:R (.returned (.agg #[x])) W):bodyPost Tryz.prog Tryz.f11 R Exit.ret { tmps:=tmps,defers:=[] } W:=
 bodyPost_ret (v := .agg #[x]) (results_cell_row rfl tmps W B 24 _ _ _ hp hb Tryz.underlying24 rfl (by kernel_rfl)) rfl K
set_option maxHeartbeats 2000000 in
theorem plain60_any (w:World):Calls Tryz.prog 11 #[] w (PlQ w):=by
 obtain ⟨W1,hW1⟩:∃ W1,w.alloc (.cells #[.slice none 0 0] 24)=W1:=⟨_,rfl⟩
 have hs1:W1.heap.size=w.heap.size+1:=by rw [←hW1];simp only [World.size_alloc]
 have hb1:W1.heap[w.heap.size]? = some (.cells #[.slice none 0 0] 24 (0,0)):=by rw [←hW1];exact World.alloc_heap_new _ _
 have g1:Grown w W1:=by rw [←hW1];exact (Grown.refl w).alloc _
 obtain ⟨W6,hW6⟩:∃ W6,plW W1 97 99 120 122 1=W6:=⟨_,rfl⟩
 have g6:=plW_grown W1 97 99 120 122 1
 have k6:=plW_blk W1 97 99 120 122 1
 have p6:=plW_parts W1 97 99 120 122 1
 rw [hW6] at g6 k6 p6
 have hb6:W6.heap[w.heap.size]? = some (.cells #[.slice none 0 0] 24 (0,0)):=(g6.below.block _ (by omega)).trans hb1
 have c0:W6.cell? ⟨w.heap.size,0,none⟩=some (.slice none 0 0):=by rw [cell_of hb6];rfl
 have f0:W6.frozen? ⟨w.heap.size,0,none⟩=false:=free_of hb6
 rw [hs1] at k6 p6
 have HBB:Hid ((W6.setCell ⟨w.heap.size,0,none⟩ (.slice (some ⟨w.heap.size+1+1+1+1+1,0,none⟩) 1 1)).heap[w.heap.size]? = some (.cells #[.slice (some ⟨w.heap.size+1+1+1+1+1,0,none⟩) 1 1] 24 (0,0))):=by
  show _=_
  rw [set_heap hb6]
  rfl
 have HF:Hid (PlQ w (.returned (.agg #[.slice (some ⟨w.heap.size+1+1+1+1+1,0,none⟩) 1 1])) (W6.setCell ⟨w.heap.size,0,none⟩ (.slice (some ⟨w.heap.size+1+1+1+1+1,0,none⟩) 1 1))):=by
  refine ⟨_,_,_,rfl,(Below.heap_setCell W6 ⟨w.heap.size,0,none⟩ _ _ (show _≠w.heap.size by omega)).trans k6,?_,by omega,(g1.trans g6).below.setCell (Nat.le_refl _) _⟩
  exact (p6.fr (fr_set W6 w.heap.size 0 _) fun k _ e => .inl (by omega)).less fun k _ e=>by omega
 have hW6':(((((W1.alloc (.cells #[.int .i64 97,.int .i64 99] 55)).alloc (.cells #[.slice (some ⟨w.heap.size+1,0,none⟩) 1 1] 39)).alloc (.cells #[.int .i64 120,.int .i64 122] 55)).alloc (.cells #[.int .i64 3,.int .i64 0,.int .i64 0,.slice (some ⟨w.heap.size+1+1+1,0,none⟩) 1 1] 58)).alloc (.cells #[.bool false,.slice none 0 0,.slice (some ⟨w.heap.size+1+1,0,none⟩) 1 1,.slice none 0 0,.bool false,.slice (some ⟨w.heap.size+1+1+1+1,0,none⟩) 1 1,.int .i64 1] 61))=W6:=by
  have:=hW6
  unfold plW at this
  rw [hs1] at this
  exact this
 rw [←hW1] at hW6'
 clear hW6 hb6 k6 p6 g6 g1 hb1 hs1 hW1
 go_enter Tryz.func11,Tryz.ntmps11
 go_wp2
 exact ret_pl60 rfl HBB.out HF.out
def tAbcd:ByteArray:=⟨#[97,98,99,100]⟩
def tAbxc:ByteArray:=⟨#[97,98,120,99]⟩
def tX:ByteArray:=⟨#[120]⟩
theorem pl0_abcd:mayE pl0 tAbcd=0∧mayE [plR [(120,122)] [(97,99)] 1] (runT pl0 tAbcd)=0∧runT [plR [(120,122)] [(97,99)] 1] (runT pl0 tAbcd)=tAbcd:=by decide +kernel
theorem pl0_abxc:mayE pl0 tAbxc=0∧mayE [plR [(120,122)] [(97,99)] 1] (runT pl0 tAbxc)=0∧runT [plR [(120,122)] [(97,99)] 1] (runT pl0 tAbxc)=⟨#[97,98,97,99]⟩:=by decide +kernel
theorem pl0_tb {s t:ByteArray} {c:Int} (h:TbR pl0 s t c) (h0:mayE pl0 s=0):t=runT [plR [(120,122)] [(97,99)] 1] (runT pl0 s)∧c=mayE [plR [(120,122)] [(97,99)] 1] (runT pl0 s):=by
 rcases h with ⟨n,h1,h2,_⟩ | ⟨_,⟨h1,_⟩ | ⟨_,h1,h2⟩⟩
 · exact absurd (pl0_trn h1).2 h2
 · exact absurd h0 h1
 · rw [pl0_turn] at h1 h2
   exact ⟨h1,h2⟩
theorem pl0_comes1 {b:Bool} {n c:Int} (h:ComR pl0 tAbcd b n c):b=true∧n=0∧c=0:=by
 obtain ⟨t,c0,h1,h2⟩:=h
 obtain ⟨rfl,rfl⟩:=pl0_tb h1 pl0_abcd.1
 rw [pl0_abcd.2.1,pl0_abcd.2.2] at h2
 rcases h2 with ⟨h2,_⟩ | ⟨_,h3,⟨_,h4,h5⟩ | ⟨h4,_⟩⟩
 · exact absurd rfl h2
 · exact ⟨h4,h5,h3⟩
 · exact absurd rfl h4
theorem com_abxc:Com ⟨#[97,98,97,99]⟩ tAbxc 2:=⟨by decide,by decide,fun i hi=>by
 match i,hi with
 | 0,_=>rfl
 | 1,_=>rfl,fun _ _=>by decide⟩
theorem pl0_comes2 {b:Bool} {n c:Int} (h:ComR pl0 tAbxc b n c):b=false∧n=2∧c=0:=by
 obtain ⟨t,c0,h1,h2⟩:=h
 obtain ⟨rfl,rfl⟩:=pl0_tb h1 pl0_abxc.1
 rw [pl0_abxc.2.1,pl0_abxc.2.2] at h2
 rcases h2 with ⟨h2,_⟩ | ⟨_,h3,⟨h4,_⟩ | ⟨_,h5,m,h6,h7⟩⟩
 · exact absurd rfl h2
 · exact absurd h4 (by decide)
 · obtain rfl:=h7.one com_abxc
   exact ⟨h5,h6,h3⟩
theorem pl0_sure1 {b:Bool} {c:Int} (h:SureR pl0 tAbcd b c):b=true∧c=0:=by
 obtain ⟨l,n,c0,h1,h2⟩:=h
 obtain ⟨rfl,rfl,rfl⟩:=pl0_over h1
 rcases h2 with ⟨h2,_⟩ | ⟨_,h2,_⟩ | ⟨_,_,h2,h3⟩
 · exact absurd rfl h2
 · exact absurd h2 (by decide)
 · exact ⟨h2.trans (by decide +kernel),h3⟩
theorem pl0_sure2 {b:Bool} {c:Int} (h:SureR pl0 tX b c):b=false∧c=0:=by
 obtain ⟨l,n,c0,h1,h2⟩:=h
 obtain ⟨rfl,rfl,rfl⟩:=pl0_over h1
 rcases h2 with ⟨h2,_⟩ | ⟨_,h2,_⟩ | ⟨_,_,h2,h3⟩
 · exact absurd rfl h2
 · exact absurd h2 (by decide)
 · exact ⟨h2.trans (by decide +kernel),h3⟩
set_option maxHeartbeats 8000000 in
theorem shown27_any (w:World) (hT:Tab w) (hz:0<w.heap.size):Calls Tryz.prog 5 #[] w fun e w'=>e = .returned (.bool true)∧Below w.heap.size w w':=by
 have HT:Hid (∀ W,Below w.heap.size w W→Tab W∧0<W.heap.size):=fun W hb=>⟨fun j v hv=>cell_below (hT j v hv) hb (Nat.le_refl _),Nat.lt_of_lt_of_le hz hb.size⟩
 clear hT hz
 go_enter Tryz.func5,Tryz.ntmps5
 go_wp2_with fail
 refine (plain60_any w).mono ?_
 rintro e w1 ⟨g1,k1,r1,rfl,hb1,hp1,hg1,hw1⟩
 have HC1:Hid (Calls Tryz.prog 7 #[.agg #[.slice (some ⟨g1,0,none⟩) 1 1],.string tAbcd] w1 (ComQ w1 pl0 tAbcd)):=comes_any _ pl0 _ w1 (HT.out w1 hw1).1 (HT.out w1 hw1).2 (pl_psr hb1 hp1.now)
 have H1:Hid (Below w.heap.size w w1):=hw1
 clear hb1 hp1 hg1 hw1
 go_wp2_with fail
 refine HC1.out.mono ?_
 rintro e w2 ⟨b2,n2,c2,rfl,hc2,hb2⟩
 obtain ⟨rfl,rfl,rfl⟩:=pl0_comes1 hc2
 have H2:Hid (Below w.heap.size w w2):=H1.out.trans (hb2.mono H1.out.size)
 clear hc2 hb2 HC1
 go_wp2_with fail
 refine (plain60_any w2).mono ?_
 rintro e w3 ⟨g3,k3,r3,rfl,hb3,hp3,hg3,hw3⟩
 have H3:Hid (Below w.heap.size w w3):=H2.out.trans (hw3.mono H2.out.size)
 have HC3:Hid (Calls Tryz.prog 7 #[.agg #[.slice (some ⟨g3,0,none⟩) 1 1],.string tAbxc] w3 (ComQ w3 pl0 tAbxc)):=comes_any _ pl0 _ w3 (HT.out w3 H3.out).1 (HT.out w3 H3.out).2 (pl_psr hb3 hp3.now)
 clear hb3 hp3 hg3 hw3
 go_wp2_with fail
 refine HC3.out.mono ?_
 rintro e w4 ⟨b4,n4,c4,rfl,hc4,hb4⟩
 obtain ⟨rfl,rfl,rfl⟩:=pl0_comes2 hc4
 have H4:Hid (Below w.heap.size w w4):=H3.out.trans (hb4.mono H3.out.size)
 clear hc4 hb4 HC3
 go_wp2_with fail
 refine (plain60_any w4).mono ?_
 rintro e w5 ⟨g5,k5,r5,rfl,hb5,hp5,hg5,hw5⟩
 have H5:Hid (Below w.heap.size w w5):=H4.out.trans (hw5.mono H4.out.size)
 have HC5:Hid (Calls Tryz.prog 6 #[.agg #[.slice (some ⟨g5,0,none⟩) 1 1],.string tAbcd] w5 (SureQ w5 pl0 tAbcd)):=sure_any _ pl0 _ w5 (HT.out w5 H5.out).1 (pl_psr hb5 hp5.now)
 clear hb5 hp5 hg5 hw5
 go_wp2_with fail
 refine HC5.out.mono ?_
 rintro e w6 ⟨b6,c6,rfl,hc6,hb6⟩
 obtain ⟨rfl,rfl⟩:=pl0_sure1 hc6
 have H6:Hid (Below w.heap.size w w6):=H5.out.trans (hb6.mono H5.out.size)
 clear hc6 hb6 HC5
 go_wp2_with fail
 refine (plain60_any w6).mono ?_
 rintro e w7 ⟨g7,k7,r7,rfl,hb7,hp7,hg7,hw7⟩
 have H7:Hid (Below w.heap.size w w7):=H6.out.trans (hw7.mono H6.out.size)
 have HC7:Hid (Calls Tryz.prog 6 #[.agg #[.slice (some ⟨g7,0,none⟩) 1 1],.string tX] w7 (SureQ w7 pl0 tX)):=sure_any _ pl0 _ w7 (HT.out w7 H7.out).1 (pl_psr hb7 hp7.now)
 clear hb7 hp7 hg7 hw7
 go_wp2_with fail
 refine HC7.out.mono ?_
 rintro e w8 ⟨b8,c8,rfl,hc8,hb8⟩
 obtain ⟨rfl,rfl⟩:=pl0_sure2 hc8
 have H8:Hid (Below w.heap.size w w8):=H7.out.trans (hb8.mono H7.out.size)
 clear hc8 hb8 HC7
 go_wp2
 go_ret
 exact ⟨rfl,H8.out⟩
end Go.Proofs
namespace Go.Proofs
open Go.RowKit Go.Shelf
set_option maxRecDepth 100000
attribute [local go_sem] Oper.semAt_some
set_option maxHeartbeats 2000000 in
theorem numbers4_any (w:World) (hT:Tab w):Calls Tryz.prog 4 #[] w fun e w'=>e = .returned (.bool true)∧Below w.heap.size w w':=by
 have HC:Hid (Calls Tryz.prog 5 #[] w fun e w'=>e = .returned (.bool true)∧Below w.heap.size w w'):=shown27_any w hT (cell_lt (hT 0 _ rfl))
 clear hT
 go_enter Tryz.func4,Tryz.ntmps4
 go_wp2_with fail
 refine HC.out.mono ?_
 rintro e w1 ⟨rfl,hb⟩
 have HF:Hid (Below w.heap.size w w1):=hb
 clear hb HC
 go_wp2
 go_ret
 exact ⟨rfl,HF.out⟩
end Go.Proofs
