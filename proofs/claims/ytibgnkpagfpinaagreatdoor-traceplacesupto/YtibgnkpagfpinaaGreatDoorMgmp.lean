/-
  Several texts in one (Tr Ts Tj La Lc Ld Le Ig To).
-/
import Derived.RangeFuncNested
import Derived.RangeFuncBound
import Derived.RangeFuncCalls
import Derived.RangeFuncLeaves
import Derived.Shelf.Abstract
import Derived.Shelf.RegionOpen
import Derived.WalkKit
import Derived.WalkSpells
import Derived.WalkLawsBesides
import Derived.OwnWalkIn
import Derived.TacticsInMore
import Derived.LoopNIn
import Derived.LoopIn
import Derived.BigQuiet
import Derived.RegionIn
import Derived.Deep.QuietTactic
import Derived.Deep.RegionWith
import Derived.Lib.OthersKept
import Derived.Maps.AppendAt
import Derived.Lib.SmallJoins
import Derived.Shelf.SlSortCmp.QuietGrown
import Derived.Test.YtibgnkpagfpinaaGreatDoorMgkp
import Derived.Test.YtibgnkpagfpinaaGreatDoorMgdp
import Derived.Test.YtibgnkpagfpinaaGreatDoorMglp
import Derived.Sort.LoopGhostIn
import Derived.Deep.Upon
import Derived.Test.YtibgnkpagfpinaaGreatDoorMgcp
import Derived.Deep.AppendLies
import Derived.Deep.RegionLaw
import Derived.Deep.DeepCutAuto
import Derived.Deep.CutBlock
import Derived.Laws.OwnMore
import Derived.Laws.ResultCell
import Derived.Test.YtibgnkpagfpinaaGreatDoorMgfp
import Derived.Test.YtibgnkpagfpinaaGreatDoorMgbp
import Derived.Test.YtibgnkpagfpinaaGreatDoorWcp
import Derived.Test.YtibgnkpagfpinaaGreatDoorMap
import Derived.Test.YtibgnkpagfpinaaGreatDoorMgap
import Derived.Test.YtibgnkpagfpinaaGreatDoorUzp
import Derived.Deep.LoopGhost
import Derived.Deep.Onto
import Derived.Test.YtibgnkpagfpinaaGreatDoorTep
namespace Go.Proofs
open Go.RowKit Go.Shelf
set_option maxRecDepth 100000
attribute [local go_sem] Oper.semAt_some
attribute [local go_sem ↓] Go.wp_at_zero Go.wp_at_succ
theorem nxtW_K {rs:List Rl} {d dn lf:List Int} (hs:Sg (klI rs) d 0 rs.length) (hl:d.length=rs.length) (hall:(allE rs).2=0) (hck:∀ r∈rs,chk r=0) (hlf:lf≠[]):nxtW rs d dn lf=nxtK rs dn lf rs.length:=by
 cases lf with
 | nil=>exact absurd rfl hlf
 | cons u lr=>
  rw [nxtW_eq,nxt_best hs hl hall hck,nxtK_fd dn (u::lr) (fun r hr=>(chk_ok (hck r hr)).k0) _ (Nat.le_refl _)]
  unfold fdF
  rw [if_pos hall]
theorem AllU.inI {l:List Int} (h:AllU l):∀ x∈l,InI x:=fun x hx=>by
 have:=h x hx
 unfold wd at this
 unfold InI
 split at this <;> (try split at this) <;> (try split at this) <;> (try split at this) <;> (try split at this) <;> omega
structure PW (W0:World) (v:Value) (rs:List Rl) (st:St):Prop where
 tab:Tab W0
 z:0<W0.heap.size
 psr:PsR W0 v rs
 fin:Fin rs st
 all:(allE rs).2=0
 ck:∀ r∈rs,chk r=0
structure Wk (Z:Nat→Prop) (T:Nat) (W0 w:World) (B wb mb:Nat) (v lv:Value) (rs:List Rl) (d:List Int) (l0:List Int) (xs:List Stp) (dn lf:List Int) (N:Nat) (dv uv:Value) (n room:Nat) (uu:List Int) (f:Int→Option Value):Prop where
 blk:WKB w wb v lv (.map (some mb)) dv uv room
 map:IMap w mb N f
 fi:FI w B rs d f
 don:OwnI w B dv dn
 uni:OwnI w B uv uu
 ul:uu.length=n
 rm:room≤n
 lfe:uu.drop room=lf
 n3:n≤3000000
 ord:OwnI w B lv d
 oln:d.length=rs.length
 srt:Sg (klI rs) d 0 rs.length
 du:∀ b,dv.ownBlock=some b→uv.ownBlock≠some b
 lx:∀ b,lv.ownBlock=some b→dv.ownBlock≠some b∧uv.ownBlock≠some b
 fx:∀ u bv,f u=some bv→∀ b,bv.ownBlock=some b→dv.ownBlock≠some b∧uv.ownBlock≠some b
 bel:Below W0.heap.size W0 w
 b0:W0.heap.size≤B
 b1:B≤mb
 b2:B≤wb
 b3:B≤w.heap.size
 at3:G3 rs l0 xs dn lf
 nN:N=xs.length
 zt:∀ k,T≤k→Z k
 tw:T≤w.heap.size
 zb:∀ k,Z k→B≤k
 zw:Z wb
 zm:Z mb
 zd:∀ b,dv.ownBlock=some b→Z b
 zu:∀ b,uv.ownBlock=some b→Z b
 zl:∀ b,lv.ownBlock=some b→Z b
 zf:∀ u bv,f u=some bv→∀ b,bv.ownBlock=some b→Z b
theorem Wk.mapne {w:World} {mb N:Nat} {f:Int→Option Value} {B:Nat} {v:Value} {l:List Int} (hm:IMap w mb N f) (ho:OwnI w B v l) {b:Nat} (hb:v.ownBlock=some b):b≠mb:=fun e=>by
 obtain ⟨cur,hc⟩:=own_at ho hb
 obtain ⟨es,cc,he⟩:=hm.isMap
 rw [e,he] at hc
 cases hc
theorem FM.fx {w:World} {f f':Int→Option Value} (hM:FM w.heap.size f f') {X:Nat→Prop} (hX:∀ b,X b→b<w.heap.size) (h:∀ u bv,f u=some bv→∀ b,bv.ownBlock=some b→¬ X b):∀ u bv,f' u=some bv→∀ b,bv.ownBlock=some b→¬ X b:=fun u bv hu b hb hx=>by
 rcases hM u bv hu with h1 | h1
 · exact h u bv h1 b hb hx
 · have:=h1 b hb
   have:=hX b hx
   omega
theorem Wk.step {Z:Nat→Prop} {T:Nat} {W0 w w':World} {B wb mb:Nat} {v lv:Value} {rs:List Rl} {st:St} {d l0:List Int} {xs:List Stp} {dn lf:List Int} {N:Nat} {dv uv:Value} {n room:Nat} {uu:List Int} {f:Int→Option Value} (hP:PW W0 v rs st) (hl0:l0.length≤16384) (h:Wk Z T W0 w B wb mb v lv rs d l0 xs dn lf N dv uv n room uu f) (hlf:lf≠[]) {x:Array Value} {La bl:List Int} {took:Nat} {e:Ending} (hQ:SkQ w B wb mb N rs d dn uu v lv dv uv n room f x La bl took e w')
 (hLa:La=layd rs dn lf) (hbl:bl++lf.drop took=lefd rs dn lf) (_hb16:bl.length≤16) (htk:room+took≤n) (hx:x=(fs1 (stp rs dn lf)).toArray) :
 e = .returned (.agg (fs1 (stp rs dn lf)).toArray)∧(∃ dv' uv' n' room' uu' f',Wk Z T W0 w' B wb mb v lv rs d l0 (xs++[stp rs dn lf]) (dn++layd rs dn lf) (lefd rs dn lf) (N+1) dv' uv' n' room' uu' f')∧Fr w w' Z:=by
 obtain ⟨w3,f',W6,dv',w7,he,hNx,hFM,hRB,hO6,hbk,hF6,hS,hF7⟩:=hQ
 subst hx
 have hFw:Fr w w' Z:=by
  refine (((hNx.fr.mono fun k _ e => ?_).trans hF6 fun k _ e => ?_).trans hS.fr fun k _ e => ?_).trans hF7 fun k _ e => ?_
  · rw [e];exact h.zm
  · rcases e with e | e
    · rw [e];exact h.zw
    · exact h.zd k e
  · rcases e with e | e
    · rw [e];exact h.zw
    · exact h.zu k e
  · exact h.zt k (by have:=h.tw;omega)
 refine ⟨he,?_,?_⟩
 · obtain ⟨A,c,m,room',uu',hW7,hU7,hul,hrm,hdr,hm,hA⟩:=hS.ex
   have hs3:w.heap.size≤w3.heap.size:=hNx.fr.size
   have hs6:w3.heap.size≤W6.heap.size:=hF6.size
   have hs7:W6.heap.size≤w7.heap.size:=hS.fr.size
   have hdlt:∀ b,dv.ownBlock=some b→b<w.heap.size:=fun b hb=>(World.ownsRow.lt h.don b hb).2
   have hult:∀ b,uv.ownBlock=some b→b<w.heap.size:=fun b hb=>(World.ownsRow.lt h.uni b hb).2
   have hllt:∀ b,lv.ownBlock=some b→b<w.heap.size:=fun b hb=>(World.ownsRow.lt h.ord b hb).2
   have hwlt:wb<w.heap.size:=blk_lt h.blk
   have hmlt:mb<w.heap.size:=by obtain ⟨es,cc,he⟩:=h.map.isMap;exact blk_lt he
   -- how the whole moves: what is touched
   have hwm:wb≠mb:=fun e=>by
    obtain ⟨es,cc,he⟩:=h.map.isMap
    have h':=h.blk
    unfold WKB at h'
    rw [e,he] at h'
    cases h'
   have hbk':∀ b,dv'.ownBlock=some b→dv.ownBlock=some b∨w3.heap.size≤b:=fun b hb=>by
    rcases hbk with e1 | ⟨g,e1,e2⟩
    · exact .inl (by rw [←e1];exact hb)
    · rw [e1] at hb;injection hb with hb;exact .inr (by omega)
   have hA':∀ b,(Value.slice A m c).ownBlock=some b→uv.ownBlock=some b∨W6.heap.size≤b:=fun b hb=>by
    have e0:(Value.slice A m c).ownBlock=A.map (·.block):=by cases A <;> rfl
    rw [e0] at hb
    rcases hA with e1 | ⟨g,e1,e2⟩
    · exact .inl (by rw [←e1];exact hb)
    · rw [e1] at hb
      injection hb with hb
      exact .inr (by have hb:g=b:=hb;omega)
   have hd6lt:∀ b,dv'.ownBlock=some b→b<W6.heap.size:=fun b hb=>(World.ownsRow.lt hO6 b hb).2
   -- a frame from w3 to the end
   have hF37:Fr w3 w' fun k=>k=wb∨dv.ownBlock=some k∨uv.ownBlock=some k∨k=w.heap.size:=by
    refine ((hF6.mono fun k _ e => ?_).trans hS.fr fun k _ e => ?_).trans hF7 fun k _ e => .inr (.inr (.inr e))
    · rcases e with e | e
      · exact .inl e
      · exact .inr (.inl e)
    · rcases e with e | e
      · exact .inl e
      · exact .inr (.inr (.inl e))
   have hne0:∀ {b:Nat},b<w.heap.size→b≠w.heap.size:=fun hb e=>by omega
   have hfi3:FI w3 B rs d f':=hNx.fi
   have hm3:=hNx.map
   have hfx3:∀ u bv,f' u=some bv→∀ b,bv.ownBlock=some b→¬ (dv.ownBlock=some b∨uv.ownBlock=some b):=FM.fx hFM (fun b hb=>hb.elim (hdlt b) (hult b)) fun u bv hu b hb hx=>by
    have:=h.fx u bv hu b hb
    exact hx.elim this.1 this.2
   -- the list of a unit lies in no box of the walk,and not in the result's
   have hlst:∀ u bv,f' u=some bv→∀ b,bv.ownBlock=some b→¬ (b=wb∨dv.ownBlock=some b∨uv.ownBlock=some b∨b=w.heap.size):=fun u bv hu b hb hx=>by
    have hcell:=own_at (hfi3 u bv hu) hb
    obtain ⟨cur,hcell⟩:=hcell
    rcases hx with e | e | e | e
    · subst e
      have h3:=(hNx.fr.block b hwlt hwm).trans h.blk
      unfold WKB at h3
      rw [hcell] at h3
      injection h3 with h3
      injection h3 with _ h3 _
      cases h3
    · exact hfx3 u bv hu b hb (.inl e)
    · exact hfx3 u bv hu b hb (.inr e)
    · subst e
      obtain ⟨cs,hcs⟩:=hRB
      rw [hcell] at hcs
      injection hcs with hcs
      injection hcs with _ hcs _
      cases hcs
   have hfi':FI w' B rs d f':=fun u bv hu=>own_fr (hfi3 u bv hu) hF37 fun b hb=>hlst u bv hu b hb
   have hm':IMap w' mb (N+1) f':=hm3.kept fun o ho=>(hF37.block mb (blk_lt ho) fun e=>by
    rcases e with e | e | e | e
    · exact hwm e.symm
    · exact Wk.mapne h.map h.don e rfl
    · exact Wk.mapne h.map h.uni e rfl
    · omega).trans ho
   have hrne:w.heap.size<W6.heap.size:=by
    obtain ⟨cs,hcs⟩:=hRB
    have:=blk_lt hcs
    omega
   have hr3:w.heap.size<w3.heap.size:=by
    obtain ⟨cs,hcs⟩:=hRB
    exact blk_lt hcs
   have hdon:OwnI w' B dv' (dn++La):=own_fr (own_fr hO6 hS.fr fun b hb e=>by
    rcases e with e | e
    · rcases hbk' b hb with h1 | h1
      · exact h.blk.ne h.don h1 e
      · omega
    · rcases hbk' b hb with h1 | h1
      · exact h.du b h1 e
      · have:=hult b e;omega) hF7 fun b hb e=>by
    rcases hbk' b hb with h1 | h1
    · have:=hdlt b h1;omega
    · omega
   have hbw7:B≤w7.heap.size:=by have:=h.b3;omega
   have huni:OwnI w' B (.slice A m c) uu':=own_fr hU7 hF7 fun b hb e=>by
    rcases hA' b hb with h1 | h1
    · have:=hult b h1;omega
    · omega
   have hblk:WKB w' wb v lv (.map (some mb)) dv' (.slice A m c) room':=hW7.fr hF7 (by omega)
   have hord:OwnI w' B lv d:=own_fr (own_fr h.ord hNx.fr fun b hb e=>Wk.mapne h.map h.ord hb e) hF37 fun b hb e=>by
    rcases e with e | e | e | e
    · exact h.blk.ne h.ord hb e
    · exact (h.lx b hb).1 e
    · exact (h.lx b hb).2 e
    · have:=hllt b hb;omega
   have hdrop:uu'.drop room'=lefd rs dn lf:=by
    rw [hdr,←hbl,←h.lfe,List.drop_drop]
   have hG:=h.at3.snoc hlf
   have hn':m≤3000000:=by
    rcases hm with h1 | ⟨h1,h2⟩
    · rw [h1];exact h.n3
    · have hln:=(hG.lens hP.fin hP.ck)
      have e1:(lefd rs dn lf).length=bl.length+(n - (room+took)):=by
       rw [←hbl,List.length_append,←h.lfe,List.drop_drop,List.length_drop,h.ul]
      omega
   refine ⟨dv',.slice A m c,m,room',uu',f',hblk,hm',hfi',by rw [←hLa];exact hdon,huni,hul,hrm,hdrop,hn',hord,h.oln,h.srt,fun b hb e => ?_,fun b hb=>⟨fun e => ?_,fun e => ?_⟩,fun u bv hu b hb=>⟨fun e => ?_,fun e => ?_⟩,?_,h.b0,h.b1,h.b2,?_,hG,by simp [h.nN],h.zt,Nat.le_trans h.tw hFw.size,h.zb,h.zw,h.zm,fun b hb => ?_,fun b hb => ?_,h.zl,fun u bv hu b hb => ?_⟩
   · rcases hA' b e with h1 | h1
     · rcases hbk' b hb with h2 | h2
       · exact h.du b h2 h1
       · have:=hult b h1;omega
     · have:=hd6lt b hb;omega
   · have:=hllt b hb
     rcases hbk' b e with h2 | h2
     · exact (h.lx b hb).1 h2
     · omega
   · have:=hllt b hb
     rcases hA' b e with h2 | h2
     · exact (h.lx b hb).2 h2
     · omega
   · have hlt3:=(World.ownsRow.lt (hfi3 u bv hu) b hb).2
     rcases hbk' b e with h2 | h2
     · exact hfx3 u bv hu b hb (.inl h2)
     · omega
   · have hlt3:=(World.ownsRow.lt (hfi3 u bv hu) b hb).2
     rcases hA' b e with h2 | h2
     · exact hfx3 u bv hu b hb (.inr h2)
     · omega
   · exact h.bel.trans ((hFw.below (fun k hk=>h.zb k hk) h.b3).mono h.b0)
   · have:=hFw.size
     have:=h.b3
     omega
   · rcases hbk' b hb with h1 | h1
     · exact h.zd b h1
     · exact h.zt b (by have:=h.tw;omega)
   · rcases hA' b hb with h1 | h1
     · exact h.zu b h1
     · exact h.zt b (by have:=h.tw;omega)
   · rcases hFM u bv hu with h1 | h1
     · exact h.zf u bv h1 b hb
     · exact h.zt b (by have:=h.tw;have:=h1 b hb;omega)
 · exact hFw
theorem Wk.keep {Z:Nat→Prop} {T:Nat} {W0 X Y:World} {B wb mb:Nat} {v lv:Value} {rs:List Rl} {d l0:List Int} {xs:List Stp} {dn lf:List Int} {N:Nat} {dv uv:Value} {n room:Nat} {uu:List Int} {f:Int→Option Value} (h:Wk Z T W0 X B wb mb v lv rs d l0 xs dn lf N dv uv n room uu f) {b2:Nat} (hk:KAll Z b2 X Y) (hb:W0.heap.size≤b2):Wk Z T W0 Y B wb mb v lv rs d l0 xs dn lf N dv uv n room uu f:=by
 have own:∀ {v:Value} {l:List Int},OwnI X B v l→(∀ b,v.ownBlock=some b→Z b)→OwnI Y B v l:=fun {v l} ho hz=>by
  refine ⟨ho.1,ho.2.imp id fun ⟨g,cap,cur,e,h1,h2,h3⟩=>⟨g,cap,cur,e,h1,hk.same g _ (hz g (by rw [e];rfl)) h2,h3⟩⟩
 exact ⟨hk.same _ _ h.zw h.blk,h.map.kept fun o ho=>hk.same _ _ h.zm ho,fun u bv hu=>own (h.fi u bv hu) (h.zf u bv hu),own h.don h.zd,own h.uni h.zu,h.ul,h.rm,h.lfe,h.n3,own h.ord h.zl,h.oln,h.srt,h.du,h.lx,h.fx,h.bel.trans (hk.bel.mono hb),h.b0,h.b1,h.b2,Nat.le_trans h.b3 hk.bel.size,h.at3,h.nN,h.zt,Nat.le_trans h.tw hk.bel.size,h.zb,h.zw,h.zm,h.zd,h.zu,h.zl,h.zf⟩
def StepQ (Z:Nat→Prop) (T:Nat) (W0 w:World) (B wb mb:Nat) (v lv:Value) (rs:List Rl) (d l0:List Int) (xs:List Stp) (dn lf:List Int) (e:Ending) (w':World):Prop:=
 e = .returned (.agg (fs1 (stp rs dn lf)).toArray)∧(∃ dv' uv' n' room' uu' f',Wk Z T W0 w' B wb mb v lv rs d l0 (xs++[stp rs dn lf]) (dn++layd rs dn lf) (lefd rs dn lf) (xs.length+1) dv' uv' n' room' uu' f')∧Fr w w' Z
theorem step_any {Z:Nat→Prop} {T:Nat} {W0 w:World} {B wb mb:Nat} {v lv:Value} {rs:List Rl} {st:St} {d l0:List Int} {xs:List Stp} {dn lf:List Int} {N:Nat} {dv uv:Value} {n room:Nat} {uu:List Int} {f:Int→Option Value} (hP:PW W0 v rs st) (hl0:l0.length≤16384) (hu0:AllU l0) (h:Wk Z T W0 w B wb mb v lv rs d l0 xs dn lf N dv uv n room uu f) (hlf:lf≠[]) :
 Calls Tryz.prog 62 #[.pointer (some ⟨wb,0,none⟩)] w (StepQ Z T W0 w B wb mb v lv rs d l0 xs dn lf):=by
 have hlen:=h.at3.lens hP.fin hP.ck
 have hun:=(h.at3.k hP.ck).un hu0
 have hl0':=List.length_pos_iff.2 hlf
 have hll:lf.length=n - room:=by rw [←h.lfe,List.length_drop,h.ul]
 have hrn:room<n:=by omega
 obtain ⟨g,c,huv⟩:∃ g c,uv = .slice (some ⟨g,0,none⟩) n c:=by
  rcases h.uni.2 with ⟨_,e⟩ | ⟨g,cap,cur,e,_⟩
  · rw [h.ul] at e;omega
  · rw [h.ul] at e;exact ⟨g,cap,e⟩
 have hN:=h.nN
 have hall:=hP.all
 have hrl:rs.length≤1000000:=by have:=hP.fin.n;omega
 have hnx:=nxtW_K (dn:=dn) h.srt h.oln hall hP.ck hlf
 have hnlf:=nextS_ok hP.ck dn hl0'
 have hdr:∀ x∈d,0≤x∧x<(rs.length:Int):=fun x hx=>by
  obtain ⟨i,hi,rfl⟩:=List.getElem_of_mem hx
  have h1:=h.srt.r i (Nat.zero_le _) (by rw [←h.oln];exact hi)
  rw [bAt_in hi] at h1
  exact ⟨by have:=h1.1;omega,h1.2⟩
 have hk0:∀ r∈rs,0<r.key.length∧r.key.length≤1000000:=fun r hr=>by have h1:=chk_ok (hP.ck r hr);exact ⟨h1.k0,by have:=h1.k8;omega⟩
 have hW:=h
 subst huv
 have hmlt:mb<w.heap.size:=by obtain ⟨es,cc,he⟩:=h.map.isMap;exact blk_lt he
 have hdu:∀ b,dv.ownBlock=some b→b≠g:=fun b hb e=>h.du b hb (by rw [e];rfl)
 have hui:∀ x∈uu.drop room,InI x:=by rw [h.lfe];exact hun.1.inI
 rcases hnlf with ⟨h1,hok⟩ | ⟨i,hi,h1,h2,h3,hok⟩
 · obtain ⟨e1,e2,e3⟩:=stp_none h1
   have hs:=step_none hP.tab hP.z h.blk h.map (by omega) hP.psr h.bel (Nat.le_trans h.b0 h.b1) hk0 h.ord.ir (by rw [h.oln];exact hrl) hdr h.fi h.b3 h.don (by omega) h.uni h.ul hrn (by have:=h.n3;omega) hui hmlt (by have:=h.n3;omega) hdu (by rw [h.lfe,hnx,h1])
   rw [h.lfe] at hs
   refine hs.mono fun e w' hQ => ?_
   have:=hW.step hP hl0 hlf hQ e2.symm (by rw [e3];rfl) (by simp) (by omega) (by rw [e1,hll];rfl)
   rw [hN] at this
   exact this
 · obtain ⟨e1,e2,e3⟩:=stp_rule hi h1
   have hO:=chk_ok (hP.ck _ (List.getElem_mem hi))
   have ho:(outs rs[i] (lf.take rs[i].key.length)).length=rs[i].res.length:=by simp [outs]
   have q1:=hO.r16
   have q2:=hO.c0
   have q3:=hO.c1
   have hs:=step_rule hP.tab hP.z h.blk h.map (by omega) hP.psr h.bel (Nat.le_trans h.b0 h.b1) hk0 h.ord.ir (by rw [h.oln];exact hrl) hdr h.fi h.b3 h.don (by omega) h.uni h.ul hrn (by have:=h.n3;omega) hui hmlt (by have:=h.n3;omega) hdu hi (by rw [h.lfe,hnx,h1]) (by omega) (by rw [h.lfe];exact h3) hO rfl rfl rfl
   rw [h.lfe] at hs
   refine hs.mono fun e w' hQ => ?_
   have:=hW.step hP hl0 hlf hQ e2.symm e3.symm (by rw [List.length_drop,ho];omega) (by omega) (by
    have e4:(((outs rs[i] (lf.take rs[i].key.length)).take rs[i].cu.toNat).length:Int)=rs[i].cu:=by rw [List.length_take,ho];omega
    have e5:((outs rs[i] (lf.take rs[i].key.length)).drop rs[i].cu.toNat).length=(backP rs[i]).length:=by rw [List.length_drop,ho];simp [backP]
    rw [e1,hll,e4,e5]
    rfl)
   rw [hN] at this
   exact this
abbrev encS (x:Stp):Array Value:=#[.agg (fs1 x).toArray]
def WkAt (Z:Nat→Prop) (T:Nat) (W0 w:World) (B wb mb:Nat) (v lv:Value) (rs:List Rl) (d l0:List Int) (xs:List Stp) (dn lf:List Int):Prop:=∃ dv uv n room uu f,Wk Z T W0 w B wb mb v lv rs d l0 xs dn lf xs.length dv uv n room uu f
theorem Wk.nowl {Z:Nat→Prop} {T:Nat} {W0 w:World} {B wb mb:Nat} {v lv:Value} {rs:List Rl} {d l0:List Int} {xs:List Stp} {dn lf:List Int} {N:Nat} {dv uv:Value} {n room:Nat} {uu:List Int} {f:Int→Option Value} (h:Wk Z T W0 w B wb mb v lv rs d l0 xs dn lf N dv uv n room uu f) :
 Calls Tryz.prog 61 #[.pointer (some ⟨wb,4,none⟩)] w fun e w'=>w'=w.drew∧∃ A c,e = .returned (.slice A lf.length c):=by
 obtain ⟨A,c,huv⟩:=h.uni.sl
 subst huv
 have hnc:uu.length≤c∧(A=none→c=0):=by
  rcases h.uni.2 with ⟨e,_⟩ | ⟨g,cap,cur,e,_,_,h1,_⟩
  · injection e with e1 e2 e3
    exact ⟨by omega,fun _=>e3⟩
  · injection e with e1 e2 e3
    exact ⟨by omega,fun e=>by rw [e] at e1;cases e1⟩
 have hll:lf.length=uu.length - room:=by rw [←h.lfe,List.length_drop]
 refine (now_any h.blk (by rw [h.ul];exact h.rm) hnc.1 hnc.2).mono ?_
 rintro e w' ⟨rfl,rfl⟩
 exact ⟨rfl,_,_,by rw [hll]⟩
theorem Wk.drew {Z:Nat→Prop} {T:Nat} {W0 w:World} {B wb mb:Nat} {v lv:Value} {rs:List Rl} {d l0:List Int} {xs:List Stp} {dn lf:List Int} {N:Nat} {dv uv:Value} {n room:Nat} {uu:List Int} {f:Int→Option Value} (h:Wk Z T W0 w B wb mb v lv rs d l0 xs dn lf N dv uv n room uu f):Wk Z T W0 w.drew B wb mb v lv rs d l0 xs dn lf N dv uv n room uu f:=
 h.keep (KAll.grown (Grown.refl w).drew (Nat.le_trans h.b0 h.b3)) (Nat.le_refl _)
theorem fr_drew (w:World) (X:Nat→Prop):Fr w w.drew X:=fr_grown (Grown.refl w).drew X
set_option maxHeartbeats 4000000 in
theorem steps_seq {Z:Nat→Prop} {T:Nat} {W0 V:World} {B wb mb:Nat} {v lv:Value} {rs:List Rl} {st:St} {d l0:List Int} {xf:List Stp} {df:List Int} (hP:PW W0 v rs st) (hl0:l0.length≤16384) (hu0:AllU l0) (hf:G3 rs l0 xf df []) (h:WkAt Z T W0 V B wb mb v lv rs d l0 [] [] l0) {b:Nat} (hb:W0.heap.size≤b) (n l:Nat) (hn:1≤n) :
 SeqZ n 42 #[.pointer (some ⟨wb,0,none⟩)] #[] encS xf b Z (fun Y=>WkAt Z T W0 Y B wb mb v lv rs d l0 xf df []) V l:=by
 intro J Jx hJ hJx hY h0
 refine callsIn_of_wp Tryz.func42 rfl trivial ?_ rfl
 simp only [Tryz.ntmps42,List.size_toArray,List.length_cons,List.length_nil,Nat.reduceAdd,Nat.reduceSub,Array.replicate_succ,Array.replicate_zero,List.push_toArray,List.append_toArray,List.nil_append,List.cons_append]
 have HP:=Hid.mk' hP
 have HS:Hid (∀ {xs:List Stp} {dn lf:List Int},G3 rs l0 xs dn lf→(xs.length:Int)+lf.length≤64*l0.length):=fun {xs dn lf} hg=>by
  have:=hg.lens hP.fin hP.ck
  omega
 gi_wp2_with fail
 gi_loopg [] (64*l0.length+1) (fun f wr=>Hid (∃ xs dn lf,WkAt Z T W0 wr B wb mb v lv rs d l0 xs dn lf∧J xs wr∧64*l0.length+1≤f+xs.length))
 case atStart=>exact ⟨[],[],l0,h,h0,by simp⟩
 case round=>
  obtain ⟨xs,dn,lf,hW,hJr,hm⟩:=hrel.out
  obtain ⟨dv,uv,n',room,uu,f,hk⟩:=hW
  have hlen:=HS.out hk.at3
  by_cases hlf:lf=[]
  · subst hlf
    have HN:Hid (Calls Tryz.prog 61 #[.pointer (some ⟨wb,4,none⟩)] wr fun e w'=>w'=wr.drew∧∃ A c,e = .returned (.slice A 0 c)):=hk.nowl
    have HK:=Hid.mk' (And.intro hk hJr)
    clear hk hrel hm hJr
    gi_wp2_with (refine ⟨trivial,?_⟩;gi_at_call 61;refine (callsIn_wide.2 HN.out).mono ?_;rintro e w' ⟨rfl,A,c,rfl⟩)
    go_end0
    obtain ⟨hk,hJr⟩:=HK.out
    obtain ⟨e1,e2⟩:=hk.at3.one hf
    subst e1 e2
    exact ⟨⟨_,rfl⟩,.inl ⟨hJ _ _ _ hJr (fr_drew _ _),_,_,_,_,_,_,hk.drew⟩⟩
  · have hl1:=List.length_pos_iff.2 hlf
    have hl1I:(0:Int)<(lf.length:Int):=by omega
    have HN:Hid (Calls Tryz.prog 61 #[.pointer (some ⟨wb,4,none⟩)] wr fun e w'=>w'=wr.drew∧∃ A c,e = .returned (.slice A lf.length c)):=hk.nowl
    have HSt:Hid (Calls Tryz.prog 62 #[.pointer (some ⟨wb,0,none⟩)] wr.drew (StepQ Z T W0 wr.drew B wb mb v lv rs d l0 xs dn lf)):=step_any HP.out hl0 hu0 hk.drew hlf
    obtain ⟨x,hx⟩:∃ x,stp rs dn lf=x:=⟨_,rfl⟩
    have HXF:Hid (xs++[x] <+: xf):=by
     have hp:=(hk.at3.snoc hlf).prefix hf
     rw [hx] at hp
     show _ <+: _
     rw [hp]
     exact List.take_prefix _ _
    have HJD:Hid (∀ w4,Fr wr.drew w4 Z→J xs w4):=fun w4 hf4=>hJ _ _ _ hJr ((fr_drew _ _).trans hf4 fun _ _ e=>e)
    have HLen:Hid (xs.length+1≤64*l0.length∧64*l0.length+1≤gk+xs.length):=⟨by omega,hm⟩
    have HHf:=Hid.mk' hf
    unfold StepQ at HSt
    rw [hx] at HSt
    obtain ⟨ln,hln⟩:∃ ln,lf.length=ln:=⟨_,rfl⟩
    rw [hln] at HN hl1I hl1
    clear hk hrel hm hJr hlen hln hf hP
    gi_wp2_with (first
     | (refine ⟨trivial,?_⟩;gi_at_call 61;refine (callsIn_wide.2 HN.out).mono ?_;rintro e w' ⟨rfl,A,c,rfl⟩)
     | (refine ⟨trivial,?_⟩;gi_at_call 62;refine (callsIn_wide.2 HSt.out).mono ?_;rintro e w4 ⟨rfl,hw4,hf4⟩;have HW4:=Hid.mk' (And.intro hw4 hf4);obtain ⟨fn,tmps,assign,body,hy,hR⟩:=hY xs x w4 (HJD.out w4 hf4) HXF.out;dsimp only [encS] at hy;have HR:=Hid.mk' hR;clear hR hw4 hf4))
    refine HR.out.mono ?_
    rintro e W3 (⟨rfl,hJ3,hk3⟩ | ⟨rfl,hJx3,hk3⟩)
    · gi_wp2
      gi_roundg (gk - 1)
      case measure=>have:=HLen.out;omega
      case rel=>
       obtain ⟨⟨dv',uv',n2,room',uu',f',hw⟩,hf4⟩:=HW4.out
       refine ⟨xs++[x],dn++layd rs dn lf,lefd rs dn lf,⟨dv',uv',n2,room',uu',f',?_⟩,hJ3,by have:=HLen.out;simp;omega⟩
       rw [List.length_append]
       exact hw.keep hk3 hb
    · gi_wp2
      refine bodyPost_ret (results_none rfl _ _ _) rfl ?_
      exact ⟨⟨_,rfl⟩,.inr ⟨xs++[x],⟨HXF.out,by simp⟩,hJx3⟩⟩
def mayE (rs:List Rl) (s:ByteArray):Int:=if (chkW rs).2≠0 then (chkW rs).2 else if 16384<s.size then 2 else 0
set_option maxHeartbeats 4000000 in
theorem may_any (v:Value) (rs:List Rl) (s:ByteArray) (w:World) (hT:Tab w) (h:PsR w v rs):Calls Tryz.prog 40 #[.agg #[v],.string s] w fun e w'=>e = .returned (.int .i64 (mayE rs s))∧Below w.heap.size w w':=by
 have HC:Hid (∀ W,Grown w W→Calls Tryz.prog 58 #[.agg #[v]] W fun e w'=>e = .returned (.tuple #[.int .i64 (chkW rs).1,.int .i64 (chkW rs).2])∧Below w.heap.size w w'):=fun W g=>(wcheck_any v rs W (hT.grown g) (h.grown g)).mono fun e w' h=>⟨h.1,g.below.trans (h.2.mono g.size)⟩
 obtain ⟨v1,v2,v3,hv⟩:IsSl v:=by obtain ⟨a,b,e,_⟩:=h;exact ⟨_,_,_,e⟩
 subst hv
 unfold mayE
 generalize chkW rs=c at HC ⊢
 obtain ⟨c1,c2⟩:=c
 have HC2:Hid (∀ W,Grown w W→Calls Tryz.prog 58 #[.agg #[.slice v1 v2 v3]] W fun e w'=>e = .returned (.tuple #[.int .i64 c1,.int .i64 c2])∧Below w.heap.size w w'):=HC.out
 clear HC h hT
 by_cases h1:c2=0
 · subst h1
   by_cases h2:16384<s.size
   · have h3:(16384:Int)<(s.size:Int):=by omega
     go_enter Tryz.func40,Tryz.ntmps40
     go_wp2_with (go_at_call 58;refine (HC2.out _ (by (repeat (first | exact Grown.refl _ | refine Grown.alloc ?_ _ | refine Grown.drew ?_)))).mono ?_;rintro e w2 ⟨rfl,hb⟩)
     go_ret
     exact ⟨by simp,hb⟩
   · have h3:¬ (16384:Int)<(s.size:Int):=by omega
     go_enter Tryz.func40,Tryz.ntmps40
     go_wp2_with (go_at_call 58;refine (HC2.out _ (by (repeat (first | exact Grown.refl _ | refine Grown.alloc ?_ _ | refine Grown.drew ?_)))).mono ?_;rintro e w2 ⟨rfl,hb⟩)
     go_ret
     exact ⟨by simp,hb⟩
 · have h4:(c2 == 0)=false:=by simpa using h1
   go_enter Tryz.func40,Tryz.ntmps40
   go_wp2_with (go_at_call 58;refine (HC2.out _ (by (repeat (first | exact Grown.refl _ | refine Grown.alloc ?_ _ | refine Grown.drew ?_)))).mono ?_;rintro e w2 ⟨rfl,hb⟩)
   go_ret
   exact ⟨by simp,hb⟩
def fea (rs:List Rl):Bool:=(wgh rs).1.isSome
theorem fea_iff {rs:List Rl} : fea rs=true↔∃ st c,wgh rs=(some st,c):=by
 unfold fea
 cases h:wgh rs with
 | mk o c=>cases o <;> simp
theorem chkW_fea {rs:List Rl} (h:fea rs=true):chkW rs=(0,0):=by
 obtain ⟨st,c,hw⟩:=fea_iff.1 h
 have hF:=wgh_fin hw
 unfold wgh at hw
 unfold chkW wgh
 split at hw
 · injection hw with h1;cases h1
 · rename_i h0
   rw [if_neg h0]
   split at hw
   · injection hw with h1;cases h1
   · split at hw
     · injection hw with h1;cases h1
     · rfl
theorem fea_chk {rs:List Rl} (h:fea rs=false):(chkW rs).2≠0:=by
 unfold fea at h
 cases hw:wgh rs with
 | mk o c=>
  cases o with
  | none=>rw [chkW,hw];exact wgh_none hw
  | some st=>rw [hw] at h;cases h
theorem wgh_zero2 {rs:List Rl} (h:fea rs=true):∃ st,wgh rs=(some st,0,0):=by
 obtain ⟨st,c,hw⟩:=fea_iff.1 h
 have hc:=chkW_fea h
 rw [chkW,hw] at hc
 simp only at hc
 exact ⟨st,by rw [hw,hc]⟩
theorem fea_all {rs:List Rl} {st:St} (hw:wgh rs=(some st,0,0)):(allE rs).2=0:=by
 unfold wgh at hw
 by_cases h0:(allE rs).2≠0
 · rw [if_pos h0] at hw;injection hw with h1;cases h1
 · exact Classical.not_not.1 h0
def joinS (l:List Int):ByteArray:=match joinB l with | some t=>⟨t.toArray⟩ | none=>⟨#[]⟩
def joinE (l:List Int):Int:=match joinB l with | some _=>0 | none=>11
theorem joinRes_eq (l:List Int):JoinRes (joinB l) = .tuple #[.string (joinS l),.int .i64 (joinE l)]:=by
 unfold JoinRes joinS joinE
 cases joinB l <;> rfl
end Go.Proofs
