/-
  Lines that came in, as the walks want them, however great.
-/
import Derived.Deep.SlicePairs
import Derived.SizedLaws
import Derived.Test.YtknaoahokopplaaGreatDoorMgek
import Derived.Test.YtknaoahokopplaaGreatDoorO4k
namespace Go.Proofs.YtknaoahokopplaaGreatDoor
open Go.ChangeShapes Go.WideShapes Go.ChangeAt Go.RowKit Go.WideMaps Go.WideElems Go.Deep
set_option maxRecDepth 100000
theorem cells3:Tryz.prog.cellsOf 3=1:=by kernel_rfl
theorem cells4:Tryz.prog.cellsOf 4=1:=by kernel_rfl
theorem cells9:Tryz.prog.cellsOf 9=1:=by kernel_rfl
theorem cells42:Tryz.prog.cellsOf 42=1:=by kernel_rfl
theorem cells44:Tryz.prog.cellsOf 44=10:=by kernel_rfl
theorem cells58:Tryz.prog.cellsOf 58=8:=by kernel_rfl
theorem bulk_pos {H:Type} (d:DataW H):1≤Rows.uptoBulk d:=by
 cases d with
 | lit l=>cases l <;> simp [Rows.uptoBulk]
 | _=>simp [Rows.uptoBulk]
theorem bulk_len {H:Type} : ∀ l:List (DataW H),l.length≤Rows.uptoBulkAll l
 | []=>by simp [Rows.uptoBulkAll]
 | d::r=>by
  have h1:=bulk_pos d
  have h2:=bulk_len r
  simp only [List.length_cons,Rows.uptoBulkAll]
  omega
theorem bulk_mem {H:Type} : ∀ (l:List (DataW H)) (d:DataW H),d∈l→Rows.uptoBulk d≤Rows.uptoBulkAll l
 | [],d,h=>by cases h
 | e::r,d,h=>by
  simp only [Rows.uptoBulkAll]
  rcases List.mem_cons.1 h with rfl | h
  · omega
  · have:=bulk_mem r d h
    omega
theorem add_add_at (a:Addr) (i j:Nat):(a.add i).add j=a.add (i+j):=by
 by_cases hi:i=0
 · subst hi
   simp [Addr.add]
 · by_cases hj:j=0
   · subst hj
     simp [Addr.add]
   · simp [Addr.add,hi,hj,Nat.add_assoc]
section
variable {H:Type} {enc:TypeId × Value→H} {W:World}
theorem row_of_read {α:Type} [Inhabited α] {t e:TypeId} {s B:Nat} (ht:Tryz.prog.underlying t=some (.slice e)) (hs:Tryz.prog.cellsOf e=s) (hpos:0<s) (R:List Value→α→Prop)
 (hR:∀ n cs x,DataW.trod enc Tryz.prog W 0 (fun _=>true) true n e cs=some x→Rows.uptoBulk x.1+1≤B→∃ y,R cs y) {fuel:Nat} {cs:List Value} {x:DataW H × List MemPlace} (hf:DataW.trod enc Tryz.prog W 0 (fun _=>true) true fuel t cs=some x) (hB:Rows.uptoBulk x.1≤B) :
 ∃ (a:Option Addr) (cap:Nat) (l:List α),cs=[.slice a l.length cap]∧l.length≤cap∧l.length≤maxLen∧l.length≤B∧(∀ y∈l,∃ cs',R cs' y)∧(l.length=0∨∃ g o,a=some ⟨g,o,none⟩∧∀ (j:Nat) (y:α),l[j]? = some y→∃ cs',R cs' y∧∀ i v,cs'[i]? = some v→W.cell? ⟨g,o+j*s+i,none⟩=some v):=by
 rcases open_slice ht hf with ⟨hcs,hx⟩ | ⟨a,len,cap,m,n,D,Pl,hcs,_,hl,hml,hm,hx,hcell⟩
 · exact ⟨none,0,[],by rw [hcs];rfl,Nat.le_refl _,by simp,by simp,(fun y h=>by cases h),Or.inl rfl⟩
 · simp only [if_true] at hm
   subst hm
   rw [hs] at hcell
   have hbulk:∀ i,i<len→Rows.uptoBulk (D i)+1≤B:=fun i hi=>by
    rw [hx] at hB
    simp only [Rows.uptoBulk] at hB
    have:=bulk_mem ((List.range len).map D) (D i) (List.mem_map.2 ⟨i,by simpa using hi,rfl⟩)
    omega
   have each:∀ i,i<len→∃ y:α,∃ cs',cs'.length=s∧R cs' y∧∀ k v,cs'[k]? = some v→W.cell? (a.add (i*s+k))=some v:=by
    intro i hi
    obtain ⟨cs',h1,h2⟩:=hcell i (by omega)
    obtain ⟨_,hlen,hc⟩:=World.cells?_some h1
    obtain ⟨y,hy⟩:=hR _ _ _ h2 (hbulk i hi)
    refine ⟨y,cs',hlen,hy,fun k v hv => ?_⟩
    have hk:=(List.getElem?_eq_some_iff.1 hv).1
    have:=hc k (by omega)
    rw [add_add_at] at this
    rw [this]
    exact hv
   obtain ⟨q,hq⟩:=choose_lt each
   have hlen:((List.range len).map q).length=len:=by simp
   have hbl:len≤B:=by
    rw [hx] at hB
    simp only [Rows.uptoBulk] at hB
    have:=bulk_len ((List.range len).map D)
    simp only [List.length_map,List.length_range] at this
    omega
   refine ⟨some a,m,(List.range len).map q,by rw [hlen,hcs],by rw [hlen];exact hl,by rw [hlen];exact Nat.le_trans hl hml,by rw [hlen];exact hbl,fun y hy => ?_,?_⟩
   · obtain ⟨i,hi,rfl⟩:=List.mem_map.1 hy
     obtain ⟨cs',_,h2,_⟩:=hq i (List.mem_range.1 hi)
     exact ⟨cs',h2⟩
   by_cases h0:len=0
   · exact .inl (by rw [hlen];exact h0)
   · obtain ⟨b,off,spot⟩:=a
     have hspot:spot=none:=by
      obtain ⟨cs',h1,h2,h3⟩:=hq 0 (by omega)
      have hlt:0<cs'.length:=by omega
      have:=h3 0 cs'[0] (List.getElem?_eq_getElem hlt)
      simpa [Addr.add] using World.cell?_spot this
     subst hspot
     refine .inr ⟨b,off,rfl,fun j y hj => ?_⟩
     have hjl:j<len:=by have:=(List.getElem?_eq_some_iff.1 hj).1;omega
     obtain ⟨cs',h1,h2,h3⟩:=hq j hjl
     have hy:q j=y:=by
      rw [List.getElem?_map,List.getElem?_range hjl] at hj
      simpa using hj
     refine ⟨cs',by rw [←hy];exact h2,fun i v hv => ?_⟩
     have:=h3 i v hv
     rw [Addr.add_lit] at this
     rw [Nat.add_assoc]
     exact this
instance:Inhabited MI:=⟨⟨0,0,⟨#[]⟩,none,0,0,0,0,false,0⟩⟩
instance:Inhabited It:=⟨.mk 0 0 ⟨#[]⟩ [] 0 0 false 0⟩
def ItR (W:World) (N:Nat) (cs:List Value) (y:MI × It):Prop:=cs=mi1 y.1∧RdM N W y.1 y.2∧Tz N y.2
structure RowR (W:World) (N:Nat) (A:Option Addr) (n c:Nat) (l:List It):Prop where
 rd:RdI N W A n l
 tz:∀ i∈l,Tz N i
 len:l.length≤N+1
 cap:n≤c
theorem all2_map {α β:Type} {R:α→β→Prop} : ∀ {l:List (α × β)},(∀ y∈l,R y.1 y.2)→All2 R (l.map Prod.fst) (l.map Prod.snd)
 | [],_=>trivial
 | y::l,h=>⟨h y (by simp),all2_map fun z hz=>h z (by simp [hz])⟩
theorem row_read (N:Nat) (hI:∀ fuel cs x,DataW.trod enc Tryz.prog W 0 (fun _=>true) true fuel 58 cs=some x→Rows.uptoBulk x.1≤N→∃ y,ItR W N cs y) {fuel:Nat} {cs:List Value} {x:DataW H × List MemPlace} (hf:DataW.trod enc Tryz.prog W 0 (fun _=>true) true fuel 42 cs=some x) (hB:Rows.uptoBulk x.1≤N+1) :
 ∃ A n c l,cs=[.slice A n c]∧RowR W N A n c l:=by
 obtain ⟨a,cap,l,hcs,h1,hm,hb,hmem,h2⟩:=row_of_read (B:=N+1) Tryz.underlying42 cells58 (by decide) (ItR W N) (fun n cs x h hx=>hI n cs x h (by omega)) hf hB
 refine ⟨a,_,cap,l.map Prod.snd,hcs,⟨l.map Prod.fst,⟨by simp,hm,h2.imp id ?_⟩,all2_map fun y hy => ?_⟩,fun i hi => ?_,by simpa using hb,h1⟩
 · rintro ⟨g,o,rfl,h⟩
   refine ⟨g,o,rfl,fun j x hj i v hv => ?_⟩
   rw [List.getElem?_map] at hj
   obtain ⟨y,hy,rfl⟩:=Option.map_eq_some_iff.1 hj
   obtain ⟨cs',⟨rfl,_⟩,h3⟩:=h j y hy
   exact h3 i v hv
 · obtain ⟨_,hR⟩:=hmem y hy
   exact hR.2.1
 · obtain ⟨y,hy,rfl⟩:=List.mem_map.1 hi
   obtain ⟨_,hR⟩:=hmem y hy
   exact hR.2.2
theorem item_read:∀ (N fuel:Nat) (cs:List Value) (x:DataW H × List MemPlace),DataW.trod enc Tryz.prog W 0 (fun _=>true) true fuel 58 cs=some x→Rows.uptoBulk x.1≤N→∃ y,ItR W N cs y
 | 0,_,_,x,_,hx=>by have:=bulk_pos x.1;omega
 | N+1,fuel,cs,x,hf,hx=>by
  obtain ⟨xs,k,hk,hxy,hcl,hxl,hff⟩:=DataW.trod_struct Tryz.underlying58 hf
  rw [cells58] at hcl
  match xs,hxl,cs,hcl with
  | [y0,y1,y2,y3,y4,y5,y6,y7],_,[v0,v1,v2,v3,v4,v5,v6,v7],_=>
   have g0:=hff 0 _ rfl
   have g1:=hff 1 _ rfl
   have g2:=hff 2 _ rfl
   have g3:=hff 3 _ rfl
   have g4:=hff 4 _ rfl
   have g5:=hff 5 _ rfl
   have g6:=hff 6 _ rfl
   have g7:=hff 7 _ rfl
   simp [cells3,cells4,cells9,cells42] at g0 g1 g2 g3 g4 g5 g6 g7
   obtain ⟨n0,e0,_,_⟩:=DataW.trod_int Tryz.underlying3 g0
   obtain ⟨n1,e1,_,_⟩:=DataW.trod_int Tryz.underlying3 g1
   obtain ⟨s2,e2,_,hs2⟩:=DataW.trod_string Tryz.underlying9 g2
   obtain ⟨n4,e4,_,_⟩:=DataW.trod_int Tryz.underlying3 g4
   obtain ⟨n5,e5,_,_⟩:=DataW.trod_int Tryz.underlying3 g5
   obtain ⟨b6,e6,_⟩:=DataW.trod_bool Tryz.underlying4 g6
   obtain ⟨n7,e7,_,_⟩:=DataW.trod_int Tryz.underlying3 g7
   have hb3:Rows.uptoBulk y3.1≤N+1:=by
    rw [hxy] at hx
    simp only [List.map_cons,List.map_nil,Rows.uptoBulk,Rows.uptoBulkAll] at hx
    omega
   have hb3':Rows.uptoBulk y3.1≤N:=by
    rw [hxy] at hx
    simp only [List.map_cons,List.map_nil,Rows.uptoBulk,Rows.uptoBulkAll] at hx
    omega
   obtain ⟨A,n,c,l,e3,hr⟩:=row_read N (item_read N) g3 hb3
   simp only [List.cons.injEq,and_true] at e0 e1 e2 e3 e4 e5 e6 e7
   subst e0 e1 e2 e3 e4 e5 e6 e7
   refine ⟨(⟨n0,n1,s2,A,n,c,n4,n5,b6,n7⟩,.mk n0 n1 s2 l n4 n5 b6 n7),rfl,⟨⟨rfl,rfl,rfl,rfl,rfl,rfl,rfl⟩,hr.rd⟩,hs2,hr.tz⟩
def LnR (W:World) (N:Nat) (cs:List Value) (y:ML × Ln):Prop:=cs=ml1 y.1∧RdLc N W y.1 y.2∧TzL N y.2
instance:Inhabited ML:=⟨noL⟩
instance:Inhabited Ln:=⟨⟨0,0,⟨#[]⟩,false,false,[],[],[],[],0⟩⟩
theorem line_read (N fuel:Nat) (cs:List Value) (x:DataW H × List MemPlace) (hf:DataW.trod enc Tryz.prog W 0 (fun _=>true) true fuel 44 cs=some x) (hx:Rows.uptoBulk x.1≤N+1):∃ y,LnR W N cs y:=by
 obtain ⟨xs,k,hk,hxy,hcl,hxl,hff⟩:=DataW.trod_struct Tryz.underlying44 hf
 rw [cells44] at hcl
 match xs,hxl,cs,hcl with
 | [y0,y1,y2,y3,y4,y5,y6,y7,y8,y9],_,[v0,v1,v2,v3,v4,v5,v6,v7,v8,v9],_=>
  have g0:=hff 0 _ rfl
  have g1:=hff 1 _ rfl
  have g2:=hff 2 _ rfl
  have g3:=hff 3 _ rfl
  have g4:=hff 4 _ rfl
  have g5:=hff 5 _ rfl
  have g6:=hff 6 _ rfl
  have g7:=hff 7 _ rfl
  have g8:=hff 8 _ rfl
  have g9:=hff 9 _ rfl
  simp [cells3,cells4,cells9,cells42] at g0 g1 g2 g3 g4 g5 g6 g7 g8 g9
  obtain ⟨n0,e0,_,_⟩:=DataW.trod_int Tryz.underlying3 g0
  obtain ⟨n1,e1,_,_⟩:=DataW.trod_int Tryz.underlying3 g1
  obtain ⟨s2,e2,_,hs2⟩:=DataW.trod_string Tryz.underlying9 g2
  obtain ⟨b3,e3,_⟩:=DataW.trod_bool Tryz.underlying4 g3
  obtain ⟨b4,e4,_⟩:=DataW.trod_bool Tryz.underlying4 g4
  obtain ⟨n9,e9,_,_⟩:=DataW.trod_int Tryz.underlying3 g9
  rw [hxy] at hx
  simp only [List.map_cons,List.map_nil,Rows.uptoBulk,Rows.uptoBulkAll] at hx
  obtain ⟨A5,m5,c5,l5,e5,r5⟩:=row_read N (item_read N) g5 (by omega)
  obtain ⟨A6,m6,c6,l6,e6,r6⟩:=row_read N (item_read N) g6 (by omega)
  obtain ⟨A7,m7,c7,l7,e7,r7⟩:=row_read N (item_read N) g7 (by omega)
  obtain ⟨A8,m8,c8,l8,e8,r8⟩:=row_read N (item_read N) g8 (by omega)
  simp only [List.cons.injEq,and_true] at e0 e1 e2 e3 e4 e5 e6 e7 e8 e9
  subst e0 e1 e2 e3 e4 e5 e6 e7 e8 e9
  exact ⟨(⟨n0,n1,s2,b3,b4,⟨A5,m5,c5⟩,⟨A6,m6,c6⟩,⟨A7,m7,c7⟩,⟨A8,m8,c8⟩,n9⟩,⟨n0,n1,s2,b3,b4,l5,l6,l7,l8,n9⟩),rfl,⟨⟨⟨rfl,rfl,rfl,rfl,rfl,rfl⟩,r5.rd,r6.rd,r7.rd,r8.rd⟩,r8.cap⟩,⟨hs2,r5.tz,r6.tz,r7.tz,r8.tz⟩⟩
theorem lines_readG {fuel:Nat} {cs:List Value} {x:DataW H × List MemPlace} (hf:DataW.trod enc Tryz.prog W 0 (fun _=>true) true fuel 29 cs=some x) :
 ∃ d A n c ls,3≤d∧cs=[.slice A n c]∧RdLz d W A n ls∧(∀ l∈ls,TzL d l)∧n≤9223372036854775807:=by
 obtain ⟨N,hN⟩:∃ N,N=Rows.uptoBulk x.1+3:=⟨_,rfl⟩
 obtain ⟨a,cap,l,hcs,h1,hm,hb,hmem,h2⟩:=row_of_read (B:=N+1) Tryz.underlying29 cells44 (by decide) (LnR W N) (fun n cs x h hx=>line_read N n cs x h (by omega)) hf (by omega)
 refine ⟨N,a,_,cap,l.map Prod.snd,by omega,hcs,⟨l.map Prod.fst,by simp,h2.imp id ?_,all2_map fun y hy => ?_⟩,fun i hi => ?_,hm⟩
 · rintro ⟨g,o,rfl,h⟩
   refine ⟨g,o,rfl,fun j x hj i v hv => ?_⟩
   rw [List.getElem?_map] at hj
   obtain ⟨y,hy,rfl⟩:=Option.map_eq_some_iff.1 hj
   obtain ⟨cs',⟨rfl,_⟩,h3⟩:=h j y hy
   exact h3 i v hv
 · obtain ⟨_,hR⟩:=hmem y hy
   exact hR.2.1
 · obtain ⟨y,hy,rfl⟩:=List.mem_map.1 hi
   obtain ⟨_,hR⟩:=hmem y hy
   exact hR.2.2
end
end Go.Proofs.YtknaoahokopplaaGreatDoor
