/-
  Several texts in one (Ycn Ydn).
-/
import Derived.Test.YtcfcjljapamcoaaGreatDoorMpdn
import Derived.Test.YtcfcjljapamcoaaGreatDoorMpgn
namespace Go.Proofs
open Go.RowKit Go.Shelf
structure WyC (w:World) (r:Rl) (av kv pv rv iv:Value):Prop where
 rr:RR w av kv pv rv r
 im:SR w iv (img r)
def wyv (r:Rl) (av kv pv rv iv:Value):List Value:=[.bool r.bg,av,kv,pv,.bool r.en,rv,.int .i64 r.cu,iv]
def WyAt (w:World) (g o:Nat) (r:Rl):Prop:=∃ av kv pv rv iv,(∀ (i:Nat) (v:Value),(wyv r av kv pv rv iv)[i]? = some v→w.cell? ⟨g,o+i,none⟩=some v)∧WyC w r av kv pv rv iv
def WyR (w:World) (v:Value) (rs:List Rl):Prop:=∃ (a:Option Addr) (cap:Nat),v = .slice a rs.length cap∧rs.length≤cap∧(rs=[]∨∃ g o,a=some ⟨g,o,none⟩∧∀ (j:Nat) (hj:j<rs.length),WyAt w g (o+j*8) rs[j])
theorem WyC.below {w w':World} {n:Nat} {r:Rl} {av kv pv rv iv:Value} (h:WyC w r av kv pv rv iv) (hb:Below n w w') (hn:w.heap.size≤n):WyC w' r av kv pv rv iv:=⟨h.rr.below hb hn,h.im.below hb hn⟩
theorem WyAt.below {w w':World} {n g o:Nat} {r:Rl} (h:WyAt w g o r) (hb:Below n w w') (hn:w.heap.size≤n):WyAt w' g o r:=by
 obtain ⟨av,kv,pv,rv,iv,h1,h2⟩:=h
 exact ⟨av,kv,pv,rv,iv,fun i v hv=>cell_below (h1 i v hv) hb hn,h2.below hb hn⟩
theorem WyR.below {w w':World} {n:Nat} {v:Value} {rs:List Rl} (h:WyR w v rs) (hb:Below n w w') (hn:w.heap.size≤n):WyR w' v rs:=by
 obtain ⟨a,cap,e,h1,h2⟩:=h
 exact ⟨a,cap,e,h1,h2.imp id fun ⟨g,o,e2,h3⟩=>⟨g,o,e2,fun j hj=>(h3 j hj).below hb hn⟩⟩
def waS (r:Rl):List (List (Int × Int)):=r.key++img r
theorem whole_one {u:Int} (h:wd u≠0):Whole (u,u):=by
 unfold Whole
 by_cases h1:1114240≤u∧u≤1114367
 · exact ⟨Int.le_refl _,by simp only;omega⟩
 · by_cases h2:(0≤u∧u<55296)∨(57343<u∧u≤1114111)
   · exact ⟨Int.le_refl _,by simp only;omega⟩
   · exact absurd (wd_no (by omega) (by omega)) h
theorem okS_one {u:Int} (h:wd u≠0):okS [(u,u)]=true:=by
 have hv:validB [(u,u)]=true:=(validB_iff _).2 ⟨by simp,by simp [Good];exact whole_one h⟩
 simp [okS,hv]
theorem okS_valid {l:List (Int × Int)} (h:okS l=true):validB l=true:=by
 unfold okS at h
 rw [Bool.and_eq_true] at h
 exact h.1
theorem okS_lenU {l:List (Int × Int)} (h:0<lenU l):okS l=true:=by
 cases hh:okS l with
 | true=>rfl
 | false=>rw [lenU_no hh] at h;omega
theorem img_ok {r:Rl} (ho:Ok r):∀ s∈img r,okS s=true:=by
 intro s hs
 obtain ⟨p,hp,rfl⟩:=List.mem_map.1 hs
 have hk:∀ y:Int,0≤y→y<r.key.length→okS (keyAt r.key y)=true:=fun y h0 h1=>by
  obtain ⟨yn,rfl⟩:∃ yn:Nat,y=(yn:Int):=⟨y.toNat,by omega⟩
  have hy:yn<r.key.length:=by omega
  unfold keyAt
  simp only [Int.toNat_natCast,List.getElem?_eq_getElem hy,Option.getD_some]
  exact List.all_eq_true.1 ho.kS _ (List.getElem_mem hy)
 rcases pc_ok (ho.pc p hp) with ⟨h1,h2,_,_⟩ | ⟨h1,_,_,h2,h3⟩ | ⟨h1,_,h2,h3,h4⟩
 · unfold imgP
   rw [if_pos h1]
   exact okS_one h2
 · unfold imgP
   rw [if_neg (by omega),if_pos h1]
   exact hk _ h2 h3
 · unfold imgP
   rw [if_neg (by omega),if_neg (by omega)]
   unfold matB at h4
   simp only [Bool.and_eq_true,decide_eq_true_eq] at h4
   exact okS_lenU (by rw [←h4.2];exact lenU_ok (hk _ h2 h3))
theorem waS_ok {r:Rl} (ho:Ok r):∀ s∈waS r,okS s=true:=by
 intro s hs
 rcases List.mem_append.1 hs with h | h
 · exact List.all_eq_true.1 ho.kS s h
 · exact img_ok ho s h
theorem okS_bdr {l:List (Int × Int)} (h:okS l=true):∀ x∈l,Bdr x:=fun x hx=>(((validB_iff l).1 (okS_valid h)).2.1 x hx).bd
theorem okS_512 {l:List (Int × Int)} (h:okS l=true):l.length≤512:=((validB_iff l).1 (okS_valid h)).1
theorem good_up {l:List (Int × Int)} (h:Good l):Up l:=⟨h.2.imp fun {x y} h=>by omega,fun x hx=>(h.1 x hx).1⟩
theorem okS_up {l:List (Int × Int)} (h:okS l=true):Up l:=good_up ((validB_iff l).1 (okS_valid h)).2
theorem waS_len {r:Rl} (ho:Ok r):(waS r).length≤24∧0<(waS r).length:=by
 have h1:=ho.k8
 have h2:=ho.r16
 have h3:=ho.k0
 unfold waS img
 rw [List.length_append,List.length_map]
 omega
def cntS (ls:List (List (Int × Int))) (u:Int):Int:=(ls.map (cntL · u)).sum
theorem cntS_snoc (ls:List (List (Int × Int))) (l:List (Int × Int)) (u:Int):cntS (ls++[l]) u=cntS ls u+cntL l u:=by simp [cntS]
theorem cntS_nonneg (ls:List (List (Int × Int))) (u:Int):0≤cntS ls u:=by
 induction ls with
 | nil=>simp [cntS]
 | cons l ls ih=>
  have h1:=cntL_nonneg l u
  have:cntS (l::ls) u=cntL l u+cntS ls u:=by simp [cntS]
  omega
theorem cntS_pos (ls:List (List (Int × Int))) (u:Int):0<cntS ls u↔∃ l∈ls,inL l u=true:=by
 induction ls with
 | nil=>simp [cntS]
 | cons l ls ih=>
  have h1:=cntL_nonneg l u
  have h2:=cntS_nonneg ls u
  have e:cntS (l::ls) u=cntL l u+cntS ls u:=by simp [cntS]
  rw [e]
  constructor
  · intro h
    by_cases hl:0<cntL l u
    · exact ⟨l,by simp,cntL_pos.1 hl⟩
    · obtain ⟨x,hx,hu⟩:=ih.1 (by omega)
      exact ⟨x,List.mem_cons_of_mem _ hx,hu⟩
  · rintro ⟨x,hx,hu⟩
    rcases List.mem_cons.1 hx with rfl | hx
    · have:=cntL_pos.2 hu;omega
    · have:=ih.2 ⟨x,hx,hu⟩;omega
end Go.Proofs
namespace Go.Proofs
open Go.RowKit Go.Shelf
set_option maxRecDepth 100000
attribute [local go_sem] Oper.semAt_some
def CoI (m:Nat) (W1 wr:World) (N:Nat) (ls:List (List (Int × Int))):Prop:=∃ c P,IMap wr m N (cntF c)∧Sums c P∧(∀ u,P u=cntS ls u)∧KeyB c∧(∀ k,-(N:Int)≤c k∧c k≤(N:Int))∧Tn m W1 wr
theorem CoI.start (w:World):CoI w.heap.size (w.alloc (.map #[] 0)) (w.alloc (.map #[] 0)) 0 []:=⟨fun _=>0,fun _=>0,made0 w,Sums.zero,fun u=>by simp [cntS],fun k h=>absurd rfl h,fun k=>⟨by simp,by simp⟩,Tn.refl _ _⟩
theorem CoI.lt {m:Nat} {W1 wr:World} {N:Nat} {ls:List (List (Int × Int))} (h:CoI m W1 wr N ls):m<wr.heap.size:=by
 obtain ⟨c,P,hI,_⟩:=h
 exact hI.lt
theorem CoI.tn {m:Nat} {W1 wr:World} {N:Nat} {ls:List (List (Int × Int))} (h:CoI m W1 wr N ls):Tn m W1 wr:=by
 obtain ⟨c,P,_,_,_,_,_,h⟩:=h
 exact h
theorem CoI.grown {m:Nat} {W1 wr w':World} {N:Nat} {ls:List (List (Int × Int))} (h:CoI m W1 wr N ls) (hg:Below wr.heap.size wr w'):CoI m W1 w' N ls:=by
 obtain ⟨c,P,hI,hS,hP,hk,hc,hT⟩:=h
 have hm:=hI.lt
 exact ⟨c,P,hI.kept fun o ho=>(hg.block m hm).trans ho,hS,hP,hk,hc,hT.trans ⟨hg.mono (Nat.le_of_lt hm),fun b _ hl=>hg.block b hl⟩⟩
theorem CoI.mono {m:Nat} {W1 wr:World} {N N':Nat} {ls:List (List (Int × Int))} (h:CoI m W1 wr N ls) (hN:N≤N'):CoI m W1 wr N' ls:=by
 obtain ⟨c,P,hI,hS,hP,hk,hc,hT⟩:=h
 exact ⟨c,P,hI.mono hN,hS,hP,hk,fun k=>by have:=hc k;omega,hT⟩
theorem CoI.add {m:Nat} {W1 wr:World} {N:Nat} {ls:List (List (Int × Int))} (h:CoI m W1 wr N ls) {v:Value} {l:List (Int × Int)} (hl:okS l=true) (hN:N≤400000000) (hR:∀ W',Tn m wr W'→Rs W' v l) :
 Calls Tryz.prog 81 #[.map (some m),v,.int .i64 1] wr fun e w'=>e = .returned (.tuple #[])∧CoI m W1 w' (N+1024) (ls++[l])∧Tn m wr w':=by
 obtain ⟨c,P,hI,hS,hP,hk,hc,hT⟩:=h
 have h5:=okS_512 hl
 refine (add_any wr m N c v l 1 hI (by omega) (by omega) ⟨by omega,by omega⟩ (okS_bdr hl) hR hc).mono ?_
 rintro e w' ⟨rfl,hI2,hT2⟩
 obtain ⟨Q,hQ,hq⟩:=Sums.addS 1 l (fun x hx=>(okS_bdr hl x hx).1) hS
 refine ⟨rfl,⟨_,Q,hI2.mono (by omega),hQ,fun u=>by rw [hq,hP,cntS_snoc];omega,KeyB.addS l hk (okS_bdr hl),fun k => ?_,hT.trans hT2⟩,hT2⟩
 have:=addS_bd' hc (l:=l) (t:=1) ⟨by omega,by omega⟩ k
 omega
theorem CoI.units {m:Nat} {W1 wr:World} {N:Nat} {ls:List (List (Int × Int))} (h:CoI m W1 wr N ls) (hN:N≤1000000000) (hb:∀ l∈ls,okS l=true) :
 Calls Tryz.prog 82 #[.map (some m)] wr fun e w'=>∃ v s,e = .returned v∧OwnR w' wr.heap.size v s∧Up s∧(∀ u,inL s u=true↔∃ l∈ls,inL l u=true)∧Below wr.heap.size wr w':=by
 obtain ⟨c,P,hI,hS,hP,hk,hc,hT⟩:=h
 have hout:∀ u,(u<0∨2000000<u)→P u=0:=fun u hu=>by
  rw [hP]
  have h1:=cntS_nonneg ls u
  have h2:¬ 0<cntS ls u:=fun hp=>by
   obtain ⟨l,hl,hx⟩:=(cntS_pos ls u).1 hp
   have:=cntL_out (okS_bdr (hb l hl)) hu
   have:=cntL_pos.2 hx
   omega
  omega
 refine (unitsT_any wr m N c P hI hN hc (fun k h0=>by have:=hk k h0;omega) hS (by rw [hout _ (.inr (by omega))];omega) (fun u hu=>by rw [hout _ (.inl (by omega))];omega)).mono ?_
 rintro e w' ⟨v,s,rfl,hO,hU,hu,hB⟩
 exact ⟨v,s,rfl,hO,hU,fun u=>by rw [hu,hP,cntS_pos],hB⟩
end Go.Proofs
