/-
  Several texts in one (Zg Zh Zi Zj Zl Zk Zv Pa Tw Pb).
-/
import Derived.RangeFuncNested
import Derived.RangeFuncBound
import Derived.RangeFuncCalls
import Derived.RangeFuncLeaves
import Derived.Shelf.Abstract
import Derived.Shelf.RegionOpen
import Derived.WalkKit
import Derived.WalkSpells
import Derived.WalkLawsBesides
import Derived.OwnWalkIn
import Derived.TacticsInMore
import Derived.LoopNIn
import Derived.LoopIn
import Derived.BigQuiet
import Derived.RegionIn
import Derived.Deep.QuietTactic
import Derived.Deep.RegionWith
import Derived.Lib.OthersKept
import Derived.Maps.AppendAt
import Derived.Lib.SmallJoins
import Derived.Shelf.SlSortCmp.QuietGrown
import Derived.RangeFuncWrites
import Derived.RangeFuncBox
import Derived.Maps.OwnIn
import Derived.Test.YtibgnkpagfpinaaGreatDoorMgpp
import Derived.Test.YtibgnkpagfpinaaGreatDoorGxp
import Derived.Test.YtibgnkpagfpinaaGreatDoorMgip
import Derived.Test.YtibgnkpagfpinaaGreatDoorMgop
import Derived.Deep.AppendLies
import Derived.Deep.RegionLaw
namespace Go.Proofs
open Go.RowKit Go.Shelf
set_option maxRecDepth 100000
attribute [local go_sem] Oper.semAt_some
attribute [local go_sem ↓] Go.wp_at_zero Go.wp_at_succ
theorem take_succ_iff {a b:List Bk} {i:Nat} (ha:i<a.length) (hb:i<b.length):a.take (i+1)=b.take (i+1)↔a.take i=b.take i∧a[i]=b[i]:=by
 rw [List.take_succ_eq_append_getElem ha,List.take_succ_eq_append_getElem hb]
 constructor
 · intro h
   have hl:(a.take i).length=(b.take i).length:=by simp;omega
   have:=List.append_inj h hl
   exact ⟨this.1,by simpa using this.2⟩
 · rintro ⟨h1,h2⟩
   rw [h1,h2]
set_option maxHeartbeats 2000000 in
theorem same_walk (va:Option Addr) (na ca:Nat) (vb:Option Addr) (nb cb:Nat) (la lb:List Bk) (w:World) (ha:KR w (.slice va na ca) la) (hb:KR w (.slice vb nb cb) lb) (hna:la.length=na) (hnb:lb.length=nb) (hn:na≤1000000) :
 Calls Tryz.prog 24 #[.slice va na ca,.slice vb nb cb] w fun e w'=>e = .returned (.bool (decide (la=lb)))∧Grown w w':=by
 have HA:=Hid.mk' ha
 have HB:=Hid.mk' hb
 have HNA:=Hid.mk' hna
 have HNB:=Hid.mk' hnb
 have hnI:(na:Int)≤1000000:=by omega
 clear ha hb hna hnb
 by_cases hne:na=nb
 · subst hne
   obtain ⟨r,hr⟩:∃ r,decide (la=lb)=r:=⟨_,rfl⟩
   have HR0:=Hid.mk' hr
   rw [hr]
   clear hr
   go_enter Tryz.func24,Tryz.ntmps24
   go_wp2
   go_loopg [13] na (fun q s13 wr=>∃ i:Nat,s13 = .int .i64 (i:Int)∧i≤na∧na - i≤q∧Hid (Grown w wr∧la.take i=lb.take i))
   case atStart=>exact ⟨0,rfl,by omega,by omega,Grown.refl _,rfl⟩
   case round=>
    obtain ⟨i,rfl,hi1,hi2,HR⟩:=hrel
    have hiI:(i:Int)≤1000000:=by omega
    by_cases hil:i<na
    · have hilI:(i:Int)<(na:Int):=by omega
      have hia:i<la.length:=by rw [HNA.out];exact hil
      have hib:i<lb.length:=by rw [HNB.out];exact hil
      obtain ⟨ga,oa,hva,x0,x1,x2,x3⟩:=kr_cell HA.out hia
      obtain ⟨gb,ob,hvb,y0,y1,y2,y3⟩:=kr_cell HB.out hib
      subst hva
      subst hvb
      have x0:=HR.out.1.cellv x0
      have x1:=HR.out.1.cellv x1
      have x2:=HR.out.1.cellv x2
      have x3:=HR.out.1.cellv x3
      have y0:=HR.out.1.cellv y0
      have y1:=HR.out.1.cellv y1
      have y2:=HR.out.1.cellv y2
      have y3:=HR.out.1.cellv y3
      have HST:=Hid.mk' (take_succ_iff hia hib)
      obtain ⟨⟨p0,p1,p2,p3⟩,hp⟩:∃ p,la[i]=p:=⟨_,rfl⟩
      obtain ⟨⟨q0,q1,q2,q3⟩,hq⟩:∃ q,lb[i]=q:=⟨_,rfl⟩
      rw [hp] at x0 x1 x2 x3
      rw [hq] at y0 y1 y2 y3
      simp only at x0 x1 x2 x3 y0 y1 y2 y3
      have HRG:Hid (la[i]=(p0,p1,p2,p3)∧lb[i]=(q0,q1,q2,q3)):=⟨hp,hq⟩
      clear hp hq
      by_cases h0:p0=q0
      · by_cases h1:p1=q1
        · by_cases h2:p2=q2
          · by_cases h3:p3=q3
            · have HE:Hid (la.take (i+1)=lb.take (i+1)):=HST.out.2 ⟨HR.out.2,by rw [HRG.out.1,HRG.out.2,h0,h1,h2,h3]⟩
              have HG:=Hid.mk' HR.out.1
              clear HR HST HRG
              subst h0
              subst h1
              subst h2
              subst h3
              go_wp2
              go_big_quiet (fail)
              go_wp2
              go_roundg (na - (i+1))
              case measure=>omega
              case rel=>exact ⟨i+1,rfl,by omega,Nat.le_refl _,HG.out.drewN _,HE.out⟩
            · skip
              have h3':=h3
              clear h3
              have HF:Hid (r=false):=by
               show r=false
               rw [←HR0.out,decide_eq_false_iff_not]
               intro e
               have h3:=HRG.out.1
               have h4:=HRG.out.2
               rw [List.getElem_of_eq e hia,h4] at h3
               injection h3 with h5 h6
               injection h6 with h6 h7
               injection h7 with h7 h8
               exact h3' h8.symm
              have HG:=Hid.mk' HR.out.1
              clear HR HST HRG HR0
              go_wp2
              go_big_quiet (fail)
              go_wp2
              go_ret
              exact ⟨by rw [HF.out];rfl,HG.out.drewN _⟩
          · skip
            have HF:Hid (r=false):=by
             show r=false
             rw [←HR0.out,decide_eq_false_iff_not]
             intro e
             have h3:=HRG.out.1
             have h4:=HRG.out.2
             rw [List.getElem_of_eq e hia,h4] at h3
             injection h3 with h5 h6
             injection h6 with h6 h7
             injection h7 with h7 h8
             exact h2 h7.symm
            have HG:=Hid.mk' HR.out.1
            clear HR HST HRG HR0
            go_wp2
            go_big_quiet (fail)
            go_wp2
            go_ret
            exact ⟨by rw [HF.out];rfl,HG.out.drewN _⟩
        · skip
          have HF:Hid (r=false):=by
           show r=false
           rw [←HR0.out,decide_eq_false_iff_not]
           intro e
           have h3:=HRG.out.1
           have h4:=HRG.out.2
           rw [List.getElem_of_eq e hia,h4] at h3
           injection h3 with h5 h6
           injection h6 with h6 h7
           injection h7 with h7 h8
           exact h1 h6.symm
          have HG:=Hid.mk' HR.out.1
          clear HR HST HRG HR0
          go_wp2
          go_big_quiet (fail)
          go_wp2
          go_ret
          exact ⟨by rw [HF.out];rfl,HG.out.drewN _⟩
      · skip
        have HF:Hid (r=false):=by
         show r=false
         rw [←HR0.out,decide_eq_false_iff_not]
         intro e
         have h3:=HRG.out.1
         have h4:=HRG.out.2
         rw [List.getElem_of_eq e hia,h4] at h3
         injection h3 with h5 h6
         injection h6 with h6 h7
         injection h7 with h7 h8
         exact h0 h5.symm
        have HG:=Hid.mk' HR.out.1
        clear HR HST HRG HR0
        go_wp2
        go_big_quiet (fail)
        go_wp2
        go_ret
        exact ⟨by rw [HF.out];rfl,HG.out.drewN _⟩
    · have hie:i=na:=by omega
      subst hie
      have hge:¬ (i:Int)<(i:Int):=by omega
      have HT:Hid (r=true):=by
       show r=true
       rw [←HR0.out,decide_eq_true_eq]
       have:=HR.out.2
       rw [List.take_of_length_le (by have:=HNA.out;omega),List.take_of_length_le (by have:=HNB.out;omega)] at this
       exact this
      have HG:=Hid.mk' HR.out.1
      clear HR HR0
      go_wp2
      go_ret
      exact ⟨by rw [HT.out];rfl,HG.out⟩
 · have hd:decide (la=lb)=false:=by
    rw [decide_eq_false_iff_not]
    intro e
    have h1:=HNA.out
    have h2:=HNB.out
    rw [e] at h1
    omega
   rw [hd]
   have hneI:¬ (na:Int)=(nb:Int):=by omega
   clear hd
   go_enter Tryz.func24,Tryz.ntmps24
   go_wp2
   go_ret
   exact ⟨rfl,Grown.refl _⟩
theorem heap_new2 (w:World) (o1 o2:Obj):((w.alloc o1).alloc o2).heap[w.heap.size+1]? = some o2:=by
 have:=heap_alloc_new (w.alloc o1) o2
 simpa using this
def upB (l:List Bk) (s r:Int):Bk:=(sAt l l.length,s,rAt l l.length,r)
set_option maxHeartbeats 1000000 in
theorem upTo_walk (a:Option Addr) (n c:Nat) (l:List Bk) (s r:Int) (base:Nat) (w:World) (h:OwnK w base (.slice a n c) l) (hn:l.length=n) (hb:n≤4000000) (hbase:base≤w.heap.size) :
 Calls Tryz.prog 39 #[.slice a n c,.int .i64 s,.int .i64 r] w fun e w'=>∃ gg cap,e = .returned (.slice (some ⟨gg,0,none⟩) (n+1) cap)∧OwnK w' base (.slice (some ⟨gg,0,none⟩) (n+1) cap) (l++[upB l s r])∧Fr w w' (fun k=>(Value.slice a n c).ownBlock=some k)∧(some gg=(Value.slice a n c).ownBlock∨w.heap.size≤gg):=by
 have HO:=Hid.mk' h
 have hnI:(n:Int)≤4000000:=by omega
 have HN:=Hid.mk' hn
 by_cases hz:n=0
 · have hl:l=[]:=List.eq_nil_of_length_eq_zero (by omega)
   subst hl
   subst hz
   have HP:Hid (OwnK ((w.alloc (.cells #[.int .i64 0,.int .i64 0,.int .i64 0,.int .i64 0] 44)).alloc (.cells #[.int .i64 0,.int .i64 s,.int .i64 0,.int .i64 r] 44)) base (.slice a 0 c) []):=World.ownsRow.alloc (World.ownsRow.alloc h _) _
   clear h hn
   go_enter Tryz.func39,Tryz.ntmps39
   go_wp2_with (at_builtin;go_must (refine push_K rfl _ _ rfl base (.slice a 0 c) [] rfl HP.out _ _ (0,s,0,r) rfl (heap_new2 _ _ _) (by simp) (by simp;omega) ?_;intro gg cap w' q1 q2 q3;have HQ:=Hid.mk' (And.intro q1 (And.intro q2 q3));clear q1 q2 q3))
   go_ret
   obtain ⟨q1,q2,q3⟩:=HQ.out
   have g2:Grown w ((w.alloc (.cells #[.int .i64 0,.int .i64 0,.int .i64 0,.int .i64 0] 44)).alloc (.cells #[.int .i64 0,.int .i64 s,.int .i64 0,.int .i64 r] 44)):=((Grown.refl _).alloc _).alloc _
   exact ⟨gg,cap,rfl,q1,(fr_grown g2 _).trans (fr_by q2) fun _ _ e=>e,q3.imp id fun e=>by rw [e];exact g2.size⟩
 · obtain ⟨m,hm⟩:∃ m,n=m+1:=⟨n - 1,by omega⟩
   obtain ⟨g,o,hae,k0,k1,k2,k3⟩:=kr_cell (OwnK.kr h) (j:=m) (by omega)
   subst hae
   obtain ⟨hr1,hs1⟩:=rAt_last (hn.trans hm)
   obtain ⟨⟨p0,p1,p2,p3⟩,hp⟩:∃ p,l[m]'(by omega)=p:=⟨_,rfl⟩
   rw [hp] at k0 k1 k2 k3 hr1 hs1
   simp only at k0 k1 k2 k3 hr1 hs1
   have HU:Hid (upB l s r=(p1,s,p3,r)):=by show _=_;unfold upB;rw [hr1,hs1]
   have hzI:¬ (n:Int)=0:=by omega
   have hpI:(0:Int)<(n:Int):=by omega
   have hmI:(n:Int) - 1=(m:Int):=by omega
   have hmn:(m:Int)<(n:Int):=by omega
   have hm0:(m:Int)≤4000000:=by omega
   have k0:=cell_up k0 (.cells #[.int .i64 0,.int .i64 0,.int .i64 0,.int .i64 0] 44)
   have k1:=cell_up k1 (.cells #[.int .i64 0,.int .i64 0,.int .i64 0,.int .i64 0] 44)
   have k2:=cell_up k2 (.cells #[.int .i64 0,.int .i64 0,.int .i64 0,.int .i64 0] 44)
   have k3:=cell_up k3 (.cells #[.int .i64 0,.int .i64 0,.int .i64 0,.int .i64 0] 44)
   have HP:Hid (∀ o1 o2,OwnK ((w.alloc o1).alloc o2) base (.slice (some ⟨g,o,none⟩) n c) l):=fun o1 o2=>World.ownsRow.alloc (World.ownsRow.alloc h o1) o2
   clear h hn hm hp hr1 hs1
   go_enter Tryz.func39,Tryz.ntmps39
   go_wp2_with (at_builtin;go_must (refine push_K rfl _ _ rfl base (.slice (some ⟨g,o,none⟩) n c) l rfl (HP.out _ _) _ _ (p1,s,p3,r) rfl (heap_new2 _ _ _) (by have:=HN.out;omega) (by simp;omega) ?_;intro gg cap w' q1 q2 q3;have HQ:=Hid.mk' (And.intro q1 (And.intro q2 q3));clear q1 q2 q3))
   go_ret
   obtain ⟨q1,q2,q3⟩:=HQ.out
   rw [HN.out] at q1
   rw [HU.out,HN.out]
   exact ⟨gg,cap,rfl,q1,(fr_grown (((Grown.refl _).alloc _).alloc _) _).trans (fr_by q2) fun _ _ e=>e,q3.imp id fun e=>by rw [e];simp;omega⟩
theorem srcs_app (l:List Bk) (b:Bk):srcs (l++[b])=srcs l++[b.2.1]:=by simp [srcs]
theorem ress_app (l:List Bk) (b:Bk):ress (l++[b])=ress l++[b.2.2.2]:=by simp [ress]
theorem sAt_app {l:List Bk} {b:Bk} {j:Nat} (h:j≤l.length):sAt (l++[b]) j=sAt l j:=by
 unfold sAt
 rw [srcs_app,List.getD_eq_getElem?_getD,List.getElem?_append_left (by rw [srcs_len];omega),←List.getD_eq_getElem?_getD]
theorem rAt_app {l:List Bk} {b:Bk} {j:Nat} (h:j≤l.length):rAt (l++[b]) j=rAt l j:=by
 unfold rAt
 rw [ress_app,List.getD_eq_getElem?_getD,List.getElem?_append_left (by rw [ress_len];omega),←List.getD_eq_getElem?_getD]
theorem sAt_end (l:List Bk) (b:Bk):sAt (l++[b]) (l.length+1)=b.2.1∧rAt (l++[b]) (l.length+1)=b.2.2.2:=by
 constructor
 · rw [sAt_succ (by simp)];simp
 · rw [rAt_succ (by simp)];simp
theorem Join.app {l:List Bk} {b:Bk} (h:Join l) (hb:okB (sAt l l.length) (rAt l l.length) b):Join (l++[b]):=fun j hj _=>by
 by_cases e:j<l.length
 · rw [sAt_app (by omega),rAt_app (by omega),List.getElem_append_left e]
   exact h j e e
 · have:j=l.length:=by simp at hj;omega
   subst this
   rw [sAt_app (Nat.le_refl _),rAt_app (Nat.le_refl _)]
   simpa using hb
theorem rs_cell {w:World} {a:Option Addr} {n c:Nat} {l:List (Int × Int)} (h:Rs w (.slice a n c) l) {j:Nat} (hj:j<l.length):∃ g o,a=some ⟨g,o,none⟩∧w.cell? ⟨g,o+j*2,none⟩=some (.int .i64 l[j].1)∧w.cell? ⟨g,o+j*2+1,none⟩=some (.int .i64 l[j].2):=by
 obtain ⟨a',c',e,_,hh⟩:=h
 injection e with e1 _ _
 obtain ⟨g,o,e2,hrd⟩:=hh.resolve_left (fun e=>by rw [e] at hj;simp at hj)
 have:=hrd j hj
 rw [rg_lt hj] at this
 exact ⟨g,o,e1.trans e2,this⟩
theorem wrap_id {x:Int} (h1 : -9223372036854775808≤x) (h2:x≤9223372036854775807):IntKind.i64.wrap x=x:=IntWalk.i64_in _ ⟨by omega,by omega⟩
def lfO (bk:List Int) (s:ByteArray) (p:Nat):List Int:=bk.reverse++intsU (unitsN s s.size p)
structure TK (W:World) (tb base:Nat) (rv:Value) (s:ByteArray) (p:Nat) (bv:Value) (bk:List Int) (dn:Int):Prop where
 blk:W.heap[tb]? = some (.cells #[rv,.string (s.extract p s.size),bv,.int .i64 dn] 77 (0,0))
 own:OwnI W base bv bk
 pl:p≤s.size
 ne:∀ b,bv.ownBlock=some b→b≠tb
theorem TK.fr {W W':World} {tb base:Nat} {rv:Value} {s:ByteArray} {p:Nat} {bv:Value} {bk:List Int} {dn:Int} (h:TK W tb base rv s p bv bk dn) {D:Nat→Prop} (hf:Fr W W' D) (h1:¬ D tb) (h2:∀ b,bv.ownBlock=some b→¬ D b):TK W' tb base rv s p bv bk dn:=⟨(hf.block _ (blk_lt h.blk) h1).trans h.blk,own_fr h.own hf h2,h.pl,h.ne⟩
theorem uw_in (s:ByteArray) (p:Nat) (hp:p<s.size):p+uw s p≤s.size:=by
 by_cases h:1<uw s p
 · exact (uw_many s p h).1
 · omega
theorem ext_ext (s:ByteArray) (p k:Nat) (_hk:p+k≤s.size):(s.extract p s.size).extract k (s.extract p s.size).size=s.extract (p+k) s.size:=by
 apply ByteArray.ext
 apply Array.ext'
 have h1:(s.extract p s.size).data.toList=s.data.toList.drop p:=by rw [Lib.extract_to_end]
 rw [Lib.extract_to_end,h1,List.drop_drop,Lib.extract_to_end]
theorem OwnI.front {w:World} {base g n c:Nat} {l:List Int} {u:Int} (h:OwnI w base (.slice (some ⟨g,0,none⟩) (n+1) c) (l++[u])) (hl:l.length=n):OwnI w base (.slice (some ⟨g,0,none⟩) n c) l:=by
 subst hl
 refine ⟨by simp [ints],?_⟩
 rcases h.2 with ⟨e,_⟩ | ⟨g',cap,cur,e,h1,h2,h3,h4,h5,h6⟩
 · cases e
 · injection e with e1 e2 e3
   injection e1 with e1
   injection e1 with e1 _ _
   subst e1
   subst e3
   refine .inr ⟨g,c,cur,rfl,h1,h2,by simp at h3;omega,h4,h5,?_⟩
   have h7:=congrArg (List.take (l.length*1)) h6
   rw [List.take_take,ints_append] at h7
   simp at h7
   rw [Nat.mul_one]
   rw [h7,List.take_append_of_le_length (by simp [ints])]
   exact List.take_of_length_le (by simp [ints])
def FstQ (W:World) (tb base:Nat) (rv:Value) (s:ByteArray) (p:Nat) (bv:Value) (bk:List Int) (dn:Int) (e:Ending) (W':World):Prop:=∃ u p' bv' bk',e = .returned (.int .i64 u)∧TK W' tb base rv s p' bv' bk' dn∧lfO bk s p=u::lfO bk' s p'∧Fr W W' (fun k=>k=tb)∧p≤p'∧bk'.length=bk.length - 1∧∀ b,bv'.ownBlock=some b→bv.ownBlock=some b
set_option maxHeartbeats 2000000 in
theorem first_back {W:World} {tb base:Nat} {rv:Value} {s:ByteArray} {p g m c:Nat} {l:List Int} {u dn:Int} (h:TK W tb base rv s p (.slice (some ⟨g,0,none⟩) (m+1) c) (l++[u]) dn) (hl:l.length=m) (hm:m≤4000000):Calls Tryz.prog 89 #[.pointer (some ⟨tb,0,none⟩)] W (FstQ W tb base rv s p (.slice (some ⟨g,0,none⟩) (m+1) c) (l++[u]) dn):=by
 have c2:W.cell? ⟨tb,2,none⟩=some (.slice (some ⟨g,0,none⟩) (m+1) c):=by rw [cell_of h.blk];rfl
 have f2:W.frozen? ⟨tb,2,none⟩=false:=free_of h.blk
 have cu:W.cell? ⟨g,m,none⟩=some (.int .i64 u):=by
  have:=World.ownsRow.cellAt (n:=m+1) (by have:=h.own;unfold OwnI at this;rw [List.length_append,hl] at this;exact this) m (by omega)
  rw [this,ints_append,List.getElem?_append_right (by simp [ints,hl])]
  simp [ints,hl]
 have hmI:(m:Int)≤4000000:=by omega
 have hmc:m+1≤c:=by
  rcases h.own.2 with ⟨e,_⟩ | ⟨g',cap,cur,e,_,_,h3,_⟩
  · cases e
  · injection e with _ _ e3;subst e3;simp at h3;omega
 have HH:=Hid.mk' h
 clear h
 go_enter Tryz.func89,Tryz.ntmps89
 go_wp2
 go_ret
 have hb:=HH.out.blk
 refine ⟨u,p,.slice (some ⟨g,0,none⟩) m c,l,rfl,⟨by rw [set_heap hb];rfl,own_fr (HH.out.own.front hl) (fr_set _ _ _ _) (fun b hb e=>HH.out.ne b hb e),HH.out.pl,HH.out.ne⟩,by simp [lfO],fr_set _ _ _ _,Nat.le_refl _,by simp,fun b hb=>hb⟩
set_option maxHeartbeats 2000000 in
theorem first_src {W:World} {tb base:Nat} {rv:Value} {s:ByteArray} {p:Nat} {a:Option Addr} {c:Nat} {dn:Int} (h:TK W tb base rv s p (.slice a 0 c) [] dn) (hp:p<s.size) (hs:s.size≤4000000):Calls Tryz.prog 89 #[.pointer (some ⟨tb,0,none⟩)] W (FstQ W tb base rv s p (.slice a 0 c) [] dn):=by
 have c1:W.cell? ⟨tb,1,none⟩=some (.string (s.extract p s.size)):=by rw [cell_of h.blk];rfl
 have c2:W.cell? ⟨tb,2,none⟩=some (.slice a 0 c):=by rw [cell_of h.blk];rfl
 have hes:(s.extract p s.size).size=s.size - p:=by simp [ByteArray.size_extract]
 have hf2:(firstU (s.extract p s.size)).2=(uw s p:Int):=by
  have hz:(s.extract p s.size).size=(s.size - p - 1)+1:=by omega
  unfold firstU units
  rw [hz,unitsN_step _ _ 0 (by omega),uAt_tail s p hp]
  exact wd_uAt s p
 have HF:Hid (Calls Tryz.prog 22 #[.string (s.extract p s.size)] W fun e w'=>e = .returned (.tuple #[.int .i64 (uAt s p:Int),.int .i64 (uw s p:Int)])∧Below W.heap.size W w'):=by
  have:=first_any (s.extract p s.size) W (by unfold maxLen;omega)
  rw [firstU_tail s p hp,hf2] at this
  exact this
 have huw:=uw_in s p hp
 have hup:=uw_pos s p
 obtain ⟨k,hk⟩:∃ k,uw s p=k:=⟨_,rfl⟩
 have HE:=Hid.mk' (ext_ext s p k (by omega))
 have HU:Hid (lfO [] s p=(uAt s p:Int)::lfO [] s (p+k)):=by
  show _=_
  unfold lfO
  rw [units_next s p hp,hk]
  rfl
 obtain ⟨u,hu⟩:∃ u:Int,(uAt s p:Int)=u:=⟨_,rfl⟩
 rw [hk,hu] at HF
 rw [hu] at HU
 obtain ⟨r,hr⟩:∃ r,s.extract p s.size=r:=⟨_,rfl⟩
 rw [hr] at c1 HF HE hes
 rw [hes] at HE
 have hkI:(k:Int)≤(r.size:Int):=by omega
 have HH:=Hid.mk' h
 have HP:Hid (p+k≤s.size):=by show _≤_;omega
 clear h hf2 hu hk huw hup hr
 go_enter Tryz.func89,Tryz.ntmps89
 go_wp2_with (go_at_call 22;refine HF.out.mono ?_;rintro e w1 ⟨rfl,hb1⟩;have hB1:=(hb1.block _ (blk_lt HH.out.blk)).trans HH.out.blk;have d1:w1.cell? ⟨tb,1,none⟩=some (.string r):=cell_below c1 hb1 (Nat.le_refl _);have e1:w1.frozen? ⟨tb,1,none⟩=false:=free_of hB1;have HB1:=Hid.mk' hb1;clear hb1 hB1)
 go_ret
 have hb:=(HB1.out.block _ (blk_lt HH.out.blk)).trans HH.out.blk
 have f1:Fr W w1 (fun k=>k=tb):=fr_below HB1.out (Nat.le_refl _) _
 refine ⟨u,p+k,.slice a 0 c,[],rfl,⟨?_,own_fr (HH.out.own.below HB1.out (Nat.le_refl _)) (fr_set _ _ _ _) (fun b hb e=>HH.out.ne b hb e),HP.out,HH.out.ne⟩,HU.out,f1.trans (fr_set _ _ _ _) fun _ _ e=>e,by omega,rfl,fun b hb=>hb⟩
 rw [set_heap hb,←HE.out]
 rfl
theorem clean_any {W:World} {tb base:Nat} {rv:Value} {s:ByteArray} {p:Nat} {bv:Value} {bk:List Int} {dn:Int} (h:TK W tb base rv s p bv bk dn):Calls Tryz.prog 38 #[.pointer (some ⟨tb,0,none⟩)] W fun e w'=>e = .returned (.bool (decide (bk=[])))∧w'=W:=by
 have c2:W.cell? ⟨tb,2,none⟩=some bv:=by rw [cell_of h.blk];rfl
 obtain ⟨a,c,hv⟩:=h.own.sl
 subst hv
 obtain ⟨n,hn⟩:∃ n,bk.length=n:=⟨_,rfl⟩
 have e:decide (bk=[])=decide ((n:Int)=0):=by
  rw [decide_eq_decide,←List.length_eq_zero_iff,hn];omega
 rw [e]
 rw [hn] at c2
 clear h hn e
 go_enter Tryz.func38,Tryz.ntmps38
 go_wp2
 go_ret
 exact ⟨by first | rfl | simp,rfl⟩
theorem first_any' {W:World} {tb base:Nat} {rv:Value} {s:ByteArray} {p:Nat} {bv:Value} {bk:List Int} {dn:Int} (h:TK W tb base rv s p bv bk dn) (hne:lfO bk s p≠[]) (hb:bk.length≤4000000) (hs:s.size≤4000000):Calls Tryz.prog 89 #[.pointer (some ⟨tb,0,none⟩)] W (FstQ W tb base rv s p bv bk dn):=by
 by_cases hbk:bk=[]
 · subst hbk
   obtain ⟨a,c,hv⟩:=h.own.sl
   subst hv
   refine first_src h ?_ hs
   rcases Nat.lt_or_ge p s.size with e | e
   · exact e
   · exact absurd (by unfold lfO;rw [unitsN_end s _ p (by omega)];rfl) hne
 · obtain ⟨l,u,rfl⟩:∃ l u,bk=l++[u]:=⟨bk.dropLast,bk.getLast hbk,(List.dropLast_concat_getLast hbk).symm⟩
   rcases h.own.2 with ⟨e,h0⟩ | ⟨g,cap,cur,e,_⟩
   · simp at h0
   · subst e
     rw [List.length_append,List.length_singleton] at h ⊢
     exact first_back h rfl (by simp at hb;omega)
def TkQ (W:World) (tb base:Nat) (rv:Value) (s:ByteArray) (p:Nat) (bv:Value) (bk:List Int) (dn:Int) (n:Nat) (e:Ending) (W':World):Prop:=∃ tv p' bv' bk',e = .returned tv∧OwnI W' W.heap.size tv ((lfO bk s p).take n)∧TK W' tb base rv s p' bv' bk' dn∧lfO bk' s p'=(lfO bk s p).drop n∧Fr W W' (fun k=>k=tb)∧p≤p'∧(∀ b,bv'.ownBlock=some b→bv.ownBlock=some b)∧bk'.length=bk.length - n
set_option maxHeartbeats 4000000 in
theorem take_any {W:World} {tb base:Nat} {rv:Value} {s:ByteArray} {p:Nat} {bv:Value} {bk:List Int} {dn:Int} (h:TK W tb base rv s p bv bk dn) (n:Nat) (hn:n≤(lfO bk s p).length) (hb:bk.length≤3000000) (hs:s.size≤90000):Calls Tryz.prog 55 #[.pointer (some ⟨tb,0,none⟩),.int .i64 (n:Int)] W (TkQ W tb base rv s p bv bk dn n):=by
 have hll:(lfO bk s p).length≤3900000:=by
  have h1:(intsU (unitsN s s.size p)).length≤s.size:=by rw [intsU_length];exact units_len_N s _ _
  unfold lfO
  rw [List.length_append,List.length_reverse]
  omega
 have hnI:(n:Int)≤3900000:=by omega
 have HL:=Hid.mk' (And.intro hn hll)
 have HH:=Hid.mk' h
 have htb:=blk_lt h.blk
 have hbn:=h.ne
 have HBB:Hid (∀ b,bv.ownBlock=some b→b<W.heap.size):=fun b hb=>(World.ownsRow.lt h.own b hb).2
 clear h
 go_enter Tryz.func55,Tryz.ntmps55
 go_wp2
 go_loopg [5,7] n (fun q s5 s7 wr=>∃ (i:Nat) (ta:Option Addr) (tc:Nat) (p':Nat) (bv':Value) (bk':List Int),s5 = .slice ta i tc∧s7 = .int .i64 (i:Int)∧i≤n∧n - i≤q∧Hid (OwnI wr W.heap.size (.slice ta i tc) ((lfO bk s p).take i)∧TK wr tb base rv s p' bv' bk' dn∧lfO bk' s p'=(lfO bk s p).drop i∧Fr W wr (fun k=>k=tb)∧p≤p'∧(∀ b,bv'.ownBlock=some b→bv.ownBlock=some b)∧bk'.length=bk.length - i))
 case atStart=>exact ⟨0,none,0,p,bv,bk,rfl,rfl,by omega,by omega,OwnI.nil _ _,HH.out,rfl,Fr.refl _ _,Nat.le_refl _,fun _ h=>h,rfl⟩
 case round=>
  obtain ⟨i,ta,tc,p',bv',bk',rfl,rfl,hi1,hi2,HR⟩:=hrel
  have hiI:(i:Int)≤3900000:=by omega
  by_cases hil:i<n
  · have hilI:(i:Int)<(n:Int):=by omega
    obtain ⟨r1,r2,r3,r4,r5,r6,r7⟩:=HR.out
    have hne:lfO bk' s p'≠[]:=by
     rw [r3]
     intro e
     have h1:=congrArg List.length e
     rw [List.length_drop,List.length_nil] at h1
     have h2:=HL.out.1
     omega
    have HF:=Hid.mk' (first_any' r2 hne (by omega) (by omega))
    have HRR:Hid (OwnI wr W.heap.size (.slice ta i tc) ((lfO bk s p).take i)∧lfO bk' s p'=(lfO bk s p).drop i∧Fr W wr (fun k=>k=tb)∧p≤p'∧(∀ b,bv'.ownBlock=some b→bv.ownBlock=some b)∧bk'.length=bk.length - i):=⟨r1,r3,r4,r5,r6,r7⟩
    clear r1 r2 r3 r4 r5 r6 r7 HR hne
    go_wp2_with (first
     | (go_at_call 89
        refine HF.out.mono ?_
        rintro e w1 ⟨u,p2,bv2,bk2,rfl,t1,t2,t3,t4,t6,t5⟩
        have HT:=Hid.mk' (And.intro t1 (And.intro t2 (And.intro t3 (And.intro t4 (And.intro t6 t5)))))
        have HO:Hid (OwnI (w1.alloc (.cells #[.int .i64 u] 3)) W.heap.size (.slice ta i tc) ((lfO bk s p).take i)):=OwnI.alloc (own_fr HRR.out.1 t3 fun b hb e=>by have:=(World.ownsRow.lt HRR.out.1 b hb).1;have e:b=tb:=e;omega) _
        clear t1 t2 t3 t4 t5 t6)
     | (at_builtin
        go_must (refine app_I3 rfl _ _ rfl W.heap.size (.slice ta i tc) _ ((lfO bk s p).take i) [u] rfl HO.out rfl (ir_lone (heap_alloc_new _ _)) (by have:=HL.out.2;simp;omega) (by have:=HRR.out.2.2.1.size;have:=HT.out.2.2.1.size;simp;omega) ?_
                 intro v' w2 q1 q2 q3
                 have HQ:=Hid.mk' (And.intro q1 q2)
                 obtain ⟨va,vc,hve⟩:=OwnI.sl q1
                 have hlen:((lfO bk s p).take i++[u]).length=i+1:=by rw [List.length_append,List.length_take,List.length_singleton];have:=HL.out.1;omega
                 rw [hlen] at hve
                 subst hve
                 clear q1 q2 q3 hlen)))
    go_wp2
    go_roundg (n - (i+1))
    case measure=>omega
    case rel=>
     obtain ⟨x1,x2,x3,x4,x5,x6⟩:=HRR.out
     obtain ⟨t1,t2,t3,t4,t6,t5⟩:=HT.out
     obtain ⟨q1,q2⟩:=HQ.out
     have g1:Grown w1 (w1.alloc (.cells #[.int .i64 u] 3)):=(Grown.refl _).alloc _
     have fq:Fr w1 w2 (fun k=>(Value.slice ta i tc).ownBlock=some k):=(fr_grown g1 _).trans (fr_by q2) fun _ _ e=>e
     have hdrop:(lfO bk s p).drop i=u::lfO bk2 s p2:=by rw [←x2];exact t2
     have htake:(lfO bk s p).take (i+1)=(lfO bk s p).take i++[u]:=by
      have hl:i<(lfO bk s p).length:=by have:=HL.out.1;omega
      have h0:=List.drop_eq_getElem_cons hl
      rw [hdrop] at h0
      injection h0 with h0 _
      rw [List.take_succ_eq_append_getElem hl,h0]
     refine ⟨i+1,va,vc,p2,bv2,bk2,rfl,rfl,by omega,Nat.le_refl _,by rw [htake];exact q1,t1.fr fq (fun e => ?_) (fun b hb e => ?_),?_,?_,by omega,fun b hb=>x5 b (t5 b hb),?_⟩
     · have:=(World.ownsRow.lt x1 _ e).1;omega
     · have h1:=(World.ownsRow.lt x1 _ e).1
       have h2:=HBB.out b (x5 b (t5 b hb))
       omega
     · have:=congrArg (List.drop 1) hdrop
       rw [List.drop_drop] at this
       simpa [Nat.add_comm] using this.symm
     · exact (x3.trans t3 fun _ _ e=>e).trans fq fun k hk e=>absurd (World.ownsRow.lt x1 _ e).1 (by omega)
     · omega
  · have hie:n=i:=by omega
    subst hie
    have hge:¬ (n:Int)<(n:Int):=by omega
    go_wp2
    go_ret
    obtain ⟨r1,r2,r3,r4,r5,r6,r7⟩:=HR.out
    exact ⟨_,p',bv',bk',rfl,r1,r2,r3,r4,r5,r6,r7⟩
structure JC (dep:Nat→List Nat) (val:Nat→Option Value) (f:Nat→Value→Value) (S:Nat) (W0:World) (R:Value→World→Prop) (p:Nat→Bool) (vs:Nat→Value) (W:World):Prop where
 v:∀ i x,i<S→val i=some x→p i=true→vs i=x
 n:p S=false→W=W0∧∀ j,S<j→p j=false
 s:p S=true→(∀ k,k<S→p k=true)∧R (vs S) W
 a:∀ i,S<i→p i=true→vs i=f i (vs S)
 c:∀ i j,i<S→j∈dep i→p i=true→p j=true
section JC
variable {dep:Nat→List Nat} {val:Nat→Option Value} {f:Nat→Value→Value} {S:Nat} {W0:World} {R:Value→World→Prop} {p:Nat→Bool} {vs:Nat→Value} {W:World}
theorem JC.start (dep:Nat→List Nat) (val:Nat→Option Value) (f:Nat→Value→Value) (S:Nat) (W0:World) (R:Value→World→Prop):JC dep val f S W0 R (fun _=>false) (fun _=>undef) W0:=⟨fun _ _ _ _ h=>(by cases h),fun _=>⟨rfl,fun _ _=>rfl⟩,fun h=>(by cases h),fun _ _ h=>(by cases h),fun _ _ _ _ h=>(by cases h)⟩
theorem JC.same (h:JC dep val f S W0 R p vs W) (i:Nat) (hi:i<S) (hpi:p i=false):W=W0:=by
 refine (h.n ?_).1
 cases e:p S with
 | false=>rfl
 | true=>have:=(h.s e).1 i hi;rw [hpi] at this;cases this
theorem JC.up (h:JC dep val f S W0 R p vs W) (i:Nat) (hi:S<i) (hpi:p i=true):p S=true:=by
 cases e:p S with
 | true=>rfl
 | false=>have:=(h.n e).2 i hi;rw [hpi] at this;cases this
theorem JC.pure (h:JC dep val f S W0 R p vs W) (i:Nat) {x:Value} (hi:i<S) (hpi:p i=false) (hx:val i=some x) (hd:∀ j,j∈dep i→p j=true):JC dep val f S W0 R (fun j=>p j || j == i) (fun j=>if j=i then x else vs j) W:=by
 have hS:p S=false:=by
  cases e:p S with
  | false=>rfl
  | true=>have:=(h.s e).1 i hi;rw [hpi] at this;cases this
 have e:(S == i)=false:=by simp;omega
 refine ⟨fun j y hj hy hp => ?_,fun hp=>⟨(h.n hS).1,fun j hj => ?_⟩,fun hp => ?_,fun j hj hp => ?_,fun j k hj hk hp => ?_⟩
 · by_cases ej:j=i
   · subst ej;rw [if_pos rfl];rw [hx] at hy;injection hy
   · rw [if_neg ej];exact h.v j y hj hy (by simpa [ej] using hp)
 · have:(j == i)=false:=by simp;omega
   rw [this,Bool.or_false];exact (h.n hS).2 j hj
 · rw [e,Bool.or_false,hS] at hp;cases hp
 · have e2:(j == i)=false:=by simp;omega
   rw [e2,Bool.or_false,(h.n hS).2 j hj] at hp;cases hp
 · by_cases ej:j=i
   · subst ej;simp [hd k hk]
   · simp [h.c j k hj hk (by simpa [ej] using hp)]
theorem JC.called (h:JC dep val f S W0 R p vs W) (hS:p S=false) (hall:∀ k,k<S→p k=true) {x:Value} {W':World} (hr:R x W'):JC dep val f S W0 R (fun j=>p j || j == S) (fun j=>if j=S then x else vs j) W':=by
 refine ⟨fun j y hj hy hp => ?_,fun hp => ?_,fun _=>⟨fun k hk=>by simp [hall k hk],by rw [if_pos rfl];exact hr⟩,fun j hj hp => ?_,fun j k hj hk hp=>(by have ej:j≠S:=(by omega);simp [h.c j k hj hk (by simpa [ej] using hp)])⟩
 · have ej:j≠S:=by omega
   rw [if_neg ej];exact h.v j y hj hy (by simpa [ej] using hp)
 · simp at hp
 · have e2:(j == S)=false:=by simp;omega
   rw [e2,Bool.or_false,(h.n hS).2 j hj] at hp;cases hp
theorem JC.after (h:JC dep val f S W0 R p vs W) (i:Nat) (hi:S<i) {k:Nat} (hk:p k=true) (hkS:S≤k:=by decide):JC dep val f S W0 R (fun j=>p j || j == i) (fun j=>if j=i then f i (vs S) else vs j) W:=by
 have hS:p S=true:=by
  rcases Nat.lt_or_ge S k with e | e
  · exact h.up k e hk
  · have:k=S:=by omega
    rw [←this];exact hk
 have eS:S≠i:=by omega
 refine ⟨fun j y hj hy hp => ?_,fun hp => ?_,fun _=>⟨fun k hk=>by simp [(h.s hS).1 k hk],by rw [if_neg eS];exact (h.s hS).2⟩,fun j hj hp => ?_,fun j k hj hk hp=>by have ej:j≠i:=(by omega);simp [h.c j k hj hk (by simpa [ej] using hp)]⟩
 · have ej:j≠i:=by omega
   rw [if_neg ej];exact h.v j y hj hy (by simpa [ej] using hp)
 · rw [hS] at hp;simp at hp
 · rw [if_neg eS]
   by_cases ej:j=i
   · subst ej;rw [if_pos rfl]
   · rw [if_neg ej];exact h.a j hj (by simpa [ej] using hp)
end JC
theorem dep_all {l:List Nat} {P p:Nat→Bool} (hdep:∀ j,P j=true→p j=true) (h:l.all P=true):∀ j,j∈l→p j=true:=fun j hj=>hdep j (List.all_eq_true.1 h j hj)
def met (hs:List Int) (t:Int):Option Nat:=hs.findIdx? (· == t)
structure PQ (hs ts:List Int) (t a b:Int) (p q:Nat):Prop where
 pq:p≤q
 ql:q<hs.length
 hp:hs.getD p 0≤t
 hq:t≤hs.getD q 0
 ha:a=ts.getD p 0
 hb:b=ts.getD q 0
 lo:∀ j,j<hs.length→hs.getD j 0<t→j≤p
 hi:∀ j,j<hs.length→t<hs.getD j 0→q≤j
 way:(q=p+1∧hs.getD p 0<t∧t<hs.getD q 0)∨(hs.getD p 0=t∧hs.getD q 0=t∧(∀ j,j<p→hs.getD j 0<t)∧(∀ j,q<j→j<hs.length→t<hs.getD j 0))
theorem Rise.at' {hs:List Int} (h:Rise hs) {i j:Nat} (hj:j<hs.length) (hij:i≤j):hs.getD i 0≤hs.getD j 0:=by
 rw [getD_lt hj,getD_lt (by omega)];exact h i j (by omega) hj hij
theorem Acr.pq {hs ts:List Int} {t a b:Int} (h:Acr hs ts t a b) (hr:Rise hs) (h0:0<hs.length) (ht0:0≤t) (ht1:t≤hs.getD (hs.length - 1) 0):∃ p q,PQ hs ts t a b p q:=by
 rcases h with ⟨e,_⟩ | ⟨_,_,i,i0,i1,i2,i3,i4,i5⟩ | ⟨_,_,i,k,i0,i1,i2,i3,i4,i5,i6,i7⟩
 · rcases e with e | e | e <;> omega
 · refine ⟨i - 1,i,by omega,i1,by omega,by omega,i4,i5,fun j hj hlt => ?_,fun j hj hlt => ?_,.inl ⟨by omega,i2,i3⟩⟩
   · rcases Nat.lt_or_ge (i - 1) j with e | e
     · have:=hr.at' (i:=i) (j:=j) hj (by omega);omega
     · exact e
   · rcases Nat.lt_or_ge j i with e | e
     · have:=hr.at' (i:=j) (j:=i - 1) (by omega) (by omega);omega
     · exact e
 · refine ⟨i,k,i0,i1,by omega,by omega,i6,i7,fun j hj hlt => ?_,fun j hj hlt => ?_,.inr ⟨i2,i3,i4,i5⟩⟩
   · rcases Nat.lt_or_ge i j with e | e
     · have:=hr.at' (i:=i) (j:=j) hj (by omega);omega
     · exact e
   · rcases Nat.lt_or_ge j k with e | e
     · have:=hr.at' (i:=j) (j:=k) i1 (by omega);omega
     · exact e
def brd (l:List Bk):List (Int × Int):=l.map fun b=>(b.2.1,b.2.2.2)
theorem kbs_cells {w:World} {g o:Nat} {b:List Bk} (h:∀ (j:Nat) (hj:j<b.length),KAt w g (o+j*4) b[j]) {i:Nat} {u:Value} (hu:(kbs b)[i]? = some u):w.cell? ⟨g,o+i,none⟩=some u:=by
 have hi:i<b.length*4:=by rw [←kbs_len];exact (List.getElem?_eq_some_iff.1 hu).1
 have hj:i / 4<b.length:=by omega
 have h4:i % 4<4:=Nat.mod_lt _ (by decide)
 have e:i=i / 4*4+i % 4:=by omega
 have hu':=hu
 rw [e,kbs_at b hj _ h4] at hu'
 obtain ⟨k0,k1,k2,k3⟩:=h _ hj
 have hc:i % 4=0∨i % 4=1∨i % 4=2∨i % 4=3:=by omega
 rcases hc with c | c | c | c <;> rw [c] at hu' e
 · have:o+i=o+i / 4*4:=by omega
   rw [this,k0];exact hu'
 · have:o+i=o+i / 4*4+1:=by omega
   rw [this,k1];exact hu'
 · have:o+i=o+i / 4*4+2:=by omega
   rw [this,k2];exact hu'
 · have:o+i=o+i / 4*4+3:=by omega
   rw [this,k3];exact hu'
theorem app_K {ops:Array Oper} {rest:List Oper} {o:Oper} {a:Act} {Q:Exit→Act→World→Prop} {w:World} (hgd:o.guard=none) (s x:Operand)
 (ho:o.op = .call { callee := .builtin .append,args:=#[s,x],argTypes:=#[32,32] })
 (base:Nat) (v:Value) (l b k:List Bk) (hk:l++b=k) (hs:a.eval s=v) (hown:OwnK w base v l) (hv:v ≠ .slice none 0 0) (ad:Addr) (m c:Nat) (hx:a.eval x = .slice (some ad) m c)
 (hr:KR w (.slice (some ad) m c) b) (hl:l.length+b.length≤1000000000) (hbase:base≤w.heap.size)
 (h:∀ g N cap w',N=k.length→OwnK w' base (.slice (some ⟨g,0,none⟩) N cap) k→w.grownBy w' v.ownBlock→wpList Tryz.prog ops Q rest (a.put o.dst (.slice (some ⟨g,0,none⟩) N cap)) w'):wpList Tryz.prog ops Q (o::rest) a w:=by
 subst hk
 obtain ⟨i0,hi,hz0,hz1,hz2⟩:=info_parts infoK
 obtain ⟨a',c',e,_,hb⟩:=hr
 injection e with e1 e2 e3
 subst e2
 refine wpList_append_own w hgd s x 32 ho base 44 i0 (.agg #[.int .i64 0,.int .i64 0,.int .i64 0,.int .i64 0]) 4 32 Tryz.underlying32 hi hz0 hz1 hz2 rfl (by decide) v l.length (kbs l) hs hown ad b.length c (kbs b) hx (kbs_len b) ?_ (kbs_one b) (by unfold maxLen;omega) (by omega) hbase (fun v' w' h2 h3 h4 => ?_)
 · intro j u hj
   rcases hb with hb | ⟨g,o',e2,hR⟩
   · subst hb;simp [kbs] at hj
   · rw [e2] at e1
     injection e1 with e1
     subst e1
     have hadd:(⟨g,o',none⟩:Addr).add j=⟨g,o'+j,none⟩:=by unfold Addr.add;split <;> simp_all
     rw [hadd]
     exact kbs_cells hR hj
 · have hO:OwnK w' base v' (l++b):=by
    unfold OwnK
    rw [List.length_append,kbs_append];exact h2
   rcases hO.2 with ⟨e,_⟩ | ⟨g,cap,cur,e,_,_,hcp,_⟩
   · exact absurd (h4.1 e).1 hv
   · subst e
     exact h g _ cap w' rfl hO h3
theorem own_emptyK (w:World):OwnK (w.alloc (.cells #[] 44)) w.heap.size (.slice (some ⟨w.heap.size,0,none⟩) 0 0) []:=by
 refine ⟨by decide,.inr ⟨w.heap.size,0,#[],rfl,Nat.le_refl _,heap_alloc_new _ _,Nat.le_refl _,by decide,rfl,rfl⟩⟩
def LK (W:World) (base:Nat) (ov:Value) (l:List Bk):Prop:=∃ g cap,ov = .slice (some ⟨g,0,none⟩) l.length cap∧l.length+2≤cap∧OwnK W base (.slice (some ⟨g,0,none⟩) (l.length+2) cap) (l++[(-77,0,0,0),(0,0,0,-78)])
theorem LK.below {W W':World} {base n:Nat} {ov:Value} {l:List Bk} (h:LK W base ov l) (hb:Below n W W') (hn:W.heap.size≤n):LK W' base ov l:=by
 obtain ⟨g,cap,h1,h2,h3⟩:=h
 exact ⟨g,cap,h1,h2,h3.below hb hn⟩
theorem LK.kr {W:World} {base:Nat} {ov:Value} {l:List Bk} (h:LK W base ov l):KR W ov l:=by
 obtain ⟨g,cap,rfl,h2,h3⟩:=h
 obtain ⟨a',c',e,h4,h5⟩:=h3.kr
 injection e with e1 e2 e3
 refine ⟨_,cap,rfl,by omega,?_⟩
 rcases h5 with h5 | ⟨g',o',e4,h5⟩
 · have:=congrArg List.length h5;simp at this
 · rw [←e1] at e4
   refine .inr ⟨g',o',e4,fun j hj => ?_⟩
   have:=h5 j (by simp;omega)
   rw [List.getElem_append_left hj] at this
   exact this
theorem kr_two {W:World} {g:Nat} (h:W.heap[g]? = some (.cells #[.int .i64 (-77),.int .i64 0,.int .i64 0,.int .i64 0,.int .i64 0,.int .i64 0,.int .i64 0,.int .i64 (-78)] 44 (0,0))):KR W (.slice (some ⟨g,0,none⟩) 2 2) [(-77,0,0,0),(0,0,0,-78)]:=⟨_,2,rfl,Nat.le_refl _,.inr ⟨g,0,rfl,fun j hj=>by
      have:j=0∨j=1:=by simp at hj;omega
      rcases this with rfl | rfl <;> (refine ⟨?_,?_,?_,?_⟩ <;> (rw [cell_of h];rfl))⟩⟩
theorem own_capK {W:World} {base g N c:Nat} {k:List Bk} (h:OwnK W base (.slice (some ⟨g,0,none⟩) N c) k):k.length≤c:=by
 rcases h.2 with ⟨e,_⟩ | ⟨_,_,_,e,_,_,h1,_⟩
 · cases e
 · injection e with _ e2 e3
   omega
theorem kr_len {w:World} {a:Option Addr} {n c:Nat} {l:List Bk} (h:KR w (.slice a n c) l):n=l.length:=by
 obtain ⟨a',c',e,_,_⟩:=h
 injection e with e1 e2 e3
set_option maxHeartbeats 4000000 in
theorem lent_some (ad:Addr) (n c:Nat) (l:List Bk) (w:World) (hr:KR w (.slice (some ad) n c) l) (hl:l.length=n) (hn:n≤1000000) :
 Calls Tryz.prog 10 #[.slice (some ad) n c] w fun e w'=>∃ ov,e = .returned ov∧LK w' w.heap.size ov l∧Below w.heap.size w w':=by
 have HN:Hid (l.length=n):=hl
 have HR:Hid (∀ ob,KR (w.alloc ob) (.slice (some ad) n c) l):=fun ob=>hr.grown ((Grown.refl _).alloc ob)
 have hnI:(n:Int)≤1000000:=by omega
 have hn0:(0:Int)≤(n:Int):=by omega
 clear hr hl
 go_enter Tryz.func10,Tryz.ntmps10
 go_wp2_with (at_builtin;go_must (first
  | (refine app_K rfl _ _ rfl w.heap.size _ [] l l rfl rfl (own_emptyK w) (by intro e;cases e) ad n c rfl (HR.out _) (by rw [HN.out];simp;omega) (by simp) ?_;intro g1 N1 c1 w1 hN1 hO1 hB1;rw [HN.out] at hN1;obtain rfl:n=N1:=hN1.symm)
  | (refine app_K rfl _ _ rfl w.heap.size (.slice (some ⟨g1,0,none⟩) n c1) l [(-77,0,0,0),(0,0,0,-78)] (l++[(-77,0,0,0),(0,0,0,-78)]) rfl rfl (World.ownsRow.alloc hO1 _) (by intro e;cases e) ⟨w1.heap.size,0,none⟩ 2 2 rfl (kr_two (heap_alloc_new _ _)) (by rw [HN.out];simp;omega) (by have:=hB1.size;simp at this;simp;omega) ?_;intro g2 N2 c2 w2 hN2 hO2 hB2;have hcc:=own_capK hO2;rw [List.length_append,HN.out] at hN2 hcc;obtain rfl:N2=n+2:=hN2;have hcI:(n:Int)≤(c2:Int):=Int.ofNat_le.2 (Nat.le_trans (Nat.le_add_right _ _) hcc))))
 go_ret
 refine ⟨_,rfl,⟨g2,c2,by rw [HN.out];rfl,by rw [HN.out];exact hcc,by rw [HN.out];exact hO2⟩,?_⟩
 have f1:Fr w w1 (fun k=>k=w.heap.size):=((fr_grown ((Grown.refl w).alloc _) _).trans (fr_by hB1) fun _ _ e=>by have e:some w.heap.size=some _:=e;injection e with e;exact e.symm)
 have f2:Fr w1 w2 (fun k=>k=g1):=((fr_grown ((Grown.refl w1).alloc _) _).trans (fr_by hB2) fun _ _ e=>by have e:some g1=some _:=e;injection e with e;exact e.symm)
 have hg1:=(World.ownsRow.lt hO1 g1 rfl).1
 have b1:=f1.below (base:=w.heap.size) (fun k e=>by have e:k=w.heap.size:=e;omega) (Nat.le_refl _)
 exact b1.trans (f2.below (fun k e=>by have e:k=g1:=e;omega) b1.size)
theorem app_no {ops:Array Oper} {rest:List Oper} {o:Oper} {ac:Act} {Q:Exit→Act→World→Prop} {w:World} (hgd:o.guard=none) (s x:Operand)
 (ho:o.op = .call { callee := .builtin .append,args:=#[s,x],argTypes:=#[32,32] }) (g:Nat) (hs:ac.eval s = .slice (some ⟨g,0,none⟩) 0 0) (hx:ac.eval x = .slice none 0 0)
 (h:wpList Tryz.prog ops Q rest (ac.put o.dst (.slice (some ⟨g,0,none⟩) 0 0)) w):wpList Tryz.prog ops Q (o::rest) ac w:=by
 refine wpList_plain hgd fun K hK => ?_
 obtain ⟨i0,hi0,hz0,hz1,hz2⟩:=info_parts infoK
 have hr2:=run_append_nothing (P:=Tryz.prog) w 32 32 o.type 44 i0 Tryz.underlying32 hi0 (some ⟨g,0,none⟩) 0 0 (Nat.le_refl _) (.slice none 0 0) ⟨.inl ⟨44,Tryz.underlying32⟩,fun w'=>by simp [Builtin.lenOf,go_sem],by simp [Builtin.firstCells,go_sem],by simp [Builtin.firstCells,go_sem],by simp,by simp⟩
 unfold Oper.wp execOp
 simp only [ho,resolve,invoke,builtin,Sem.run_bind,Sem.run_pure,Result.andThen_ok,List.map_toArray,List.map_cons,List.map_nil,hs,hx,hr2]
 exact hK _ _ h
set_option maxHeartbeats 4000000 in
theorem lent_nil (w:World):Calls Tryz.prog 10 #[.slice none 0 0] w fun e w'=>∃ ov,e = .returned ov∧LK w' w.heap.size ov []∧Below w.heap.size w w':=by
 go_enter Tryz.func10,Tryz.ntmps10
 go_wp2_with (at_builtin;go_must (first
  | (refine app_no rfl _ _ rfl w.heap.size rfl rfl ?_)
  | (refine app_K rfl _ _ rfl w.heap.size (.slice (some ⟨w.heap.size,0,none⟩) 0 0) [] [(-77,0,0,0),(0,0,0,-78)] [(-77,0,0,0),(0,0,0,-78)] rfl rfl (World.ownsRow.alloc (own_emptyK w) _) (by intro e;cases e) ⟨w.heap.size+1,0,none⟩ 2 2 (by simp [go_sem]) (kr_two (by have:=heap_alloc_new (w.alloc (.cells #[] 44)) (.cells #[.int .i64 (-77),.int .i64 0,.int .i64 0,.int .i64 0,.int .i64 0,.int .i64 0,.int .i64 0,.int .i64 (-78)] 44);simpa using this)) (by decide) (by simp;omega) ?_;intro g2 N2 c2 w2 hN2 hO2 hB2;have hcc:=own_capK hO2;obtain rfl:N2=2:=hN2;have hcI:(0:Int)≤(c2:Int):=by omega)))
 go_ret
 have f2:Fr w w2 (fun k=>k=w.heap.size):=((fr_grown (((Grown.refl w).alloc _).alloc _) _).trans (fr_by hB2) fun _ _ e=>by have e:some w.heap.size=some _:=e;injection e with e;exact e.symm)
 exact ⟨_,rfl,⟨g2,c2,rfl,hcc,hO2⟩,f2.below (base:=w.heap.size) (fun k e=>by have e:k=w.heap.size:=e;omega) (Nat.le_refl _)⟩
theorem lent_any (v:Value) (l:List Bk) (w:World) (hr:KR w v l) (hN:v = .slice none 0 0∨∃ ad n c,v = .slice (some ad) n c) (hn:l.length≤1000000) :
 Calls Tryz.prog 10 #[v] w fun e w'=>∃ ov,e = .returned ov∧LK w' w.heap.size ov l∧Below w.heap.size w w':=by
 rcases hN with rfl | ⟨ad,n,c,rfl⟩
 · obtain rfl:l=[]:=List.eq_nil_of_length_eq_zero (kr_len hr).symm
   exact lent_nil w
 · obtain rfl:=kr_len hr
   exact lent_some ad _ c l w hr rfl hn
theorem KAt.of {w:World} {g o:Nat} {b:Bk} {L:List Bk} (h:∀ (j:Nat) (hj:j<L.length),KAt w g (o+j*4) L[j]) {j:Nat} (hj:L[j]? = some b):KAt w g (o+j*4) b:=by
 obtain ⟨hj',e⟩:=List.getElem?_eq_some_iff.1 hj
 subst e
 exact h j hj'
set_option maxHeartbeats 8000000 in
theorem still_any (ov:Value) (va:Option Addr) (n vc:Nat) (l:List Bk) (base:Nat) (w:World) (ho:LK w base ov l) (hv:KR w (.slice va n vc) l) (hl:l.length=n) (hn:n≤1000000) :
 Calls Tryz.prog 15 #[ov,.slice va n vc] w fun e w'=>e = .returned (.bool true)∧Below w.heap.size w w':=by
 have HK:=Hid.mk' ho.kr
 have HV:=Hid.mk' hv
 obtain ⟨g,cap,rfl,hc,hO⟩:=ho
 have HO:=Hid.mk' hO
 have HL:=Hid.mk' hl
 rw [hl] at hc HK
 simp only [hl] at hO ⊢
 obtain ⟨a',c',e,_,hr⟩:=hO.kr
 injection e with e1 e2 e3
 obtain ⟨g',o',e4,hr⟩:=hr.resolve_left (fun e=>by have:=congrArg List.length e;simp at this)
 rw [e4] at e1
 injection e1 with e1
 injection e1 with e1 e5
 subst e1
 subst e5
 obtain ⟨x0,x1,x2,x3⟩:=KAt.of hr (j:=n) (b:=(-77,0,0,0)) (by rw [←hl];simp)
 obtain ⟨y0,y1,y2,y3⟩:=KAt.of hr (j:=n+1) (b:=(0,0,0,-78)) (by rw [←hl];simp)
 simp only [Nat.zero_add] at x0 x1 x2 x3 y0 y1 y2 y3
 have hnI:(n:Int)≤1000000:=by omega
 have hn0:(0:Int)≤(n:Int):=by omega
 have hcI:(n:Int)+2≤(cap:Int):=by omega
 have hcI0:(n:Int)≤(cap:Int):=by omega
 have hlt:(n:Int)<(n:Int)+2:=by omega
 have hlt2:(n:Int)+1<(n:Int)+2:=by omega
 have HS:Hid (Calls Tryz.prog 24 #[.slice (some ⟨g,0,none⟩) n cap,.slice va n vc] w fun e w'=>e = .returned (.bool true)∧Grown w w'):=by
  have:=same_walk (some ⟨g,0,none⟩) n cap va n vc l l w HK.out HV.out HL.out HL.out hn
  exact Hid.mk' (by simpa using this)
 clear hO hr hv hl hc e2 e3 e4
 go_enter Tryz.func15,Tryz.ntmps15
 go_wp2_with (go_at_call 24;refine HS.out.mono ?_;rintro e w1 ⟨rfl,hg1⟩;have x0:=hg1.cellv x0;have x1:=hg1.cellv x1;have x2:=hg1.cellv x2;have x3:=hg1.cellv x3;have y0:=hg1.cellv y0;have y1:=hg1.cellv y1;have y2:=hg1.cellv y2;have y3:=hg1.cellv y3)
 go_ret
 exact ⟨rfl,hg1.below⟩
theorem rsx_at {W:World} {g:Nat} {a:Int} (h:W.heap[g]? = some (.cells #[.int .i64 a,.int .i64 a] 97 (0,0))):Rs W (.slice (some ⟨g,0,none⟩) 1 1) [(a,a)]:=by
 refine ⟨_,1,rfl,Nat.le_refl _,.inr ⟨g,0,rfl,fun j hj => ?_⟩⟩
 obtain rfl:j=0:=by simp at hj;omega
 rw [cell_of h,cell_of h]
 exact ⟨rfl,rfl⟩
theorem alloc_at {W:World} {o:Obj} {k:Nat} (h:k=W.heap.size):(W.alloc o).heap[k]? = some o:=by subst h;exact heap_alloc_new _ _
theorem alloc_up {W:World} {o ob:Obj} {k:Nat} (h:W.heap[k]? = some ob):(W.alloc o).heap[k]? = some ob:=(((Grown.refl W).alloc o).below.block k (blk_lt h)).trans h
def OwnP (w:World) (base:Nat) (v:Value) (l:List (Int × Int)):Prop:=w.ownsRow base 70 2 v l.length (fl l)
theorem fl_append (l k:List (Int × Int)):fl (l++k)=fl l++fl k:=by simp [fl]
theorem OwnP.rs {w:World} {base:Nat} {v:Value} {l:List (Int × Int)} (h:OwnP w base v l):Rs w v l:=by
 rcases h.2 with ⟨rfl,h0⟩ | ⟨g,cap,cur,rfl,_,_,hc,_⟩
 · have:l=[]:=List.eq_nil_of_length_eq_zero h0
   subst this
   exact ⟨none,0,rfl,Nat.le_refl _,.inl rfl⟩
 · refine ⟨_,cap,rfl,hc,.inr ⟨g,0,rfl,fun j hj => ?_⟩⟩
   have h1:=World.ownsRow.cells h rfl
   have:=fl_at l hj
   have a1:=h1 _ _ this.1
   have a2:=h1 _ _ this.2
   rw [add_zero_at] at a1 a2
   rw [Nat.zero_add]
   exact ⟨a1,a2⟩
theorem OwnP.form {w:World} {base:Nat} {v:Value} {l:List (Int × Int)} (h:OwnP w base v l):∃ a c,v = .slice a l.length c:=by
 rcases h.2 with ⟨e,h0⟩ | ⟨g,cap,cur,e,_⟩
 · exact ⟨none,0,by rw [e,h0]⟩
 · exact ⟨_,cap,e⟩
theorem OwnP.below {w w':World} {base n:Nat} {v:Value} {l:List (Int × Int)} (h:OwnP w base v l) (hb:Below n w w') (hn:w.heap.size≤n):OwnP w' base v l:=own_fr h (fr_below hb hn fun _=>False) fun _ _ e=>e
theorem info70:(Tryz.prog.info? 70).map (fun i=>(i.zero,i.size,i.bytes))=some (some (.agg #[.int .i64 0,.int .i64 0]),2,16):=by kernel_rfl
theorem own_oneP (w:World):OwnP (w.alloc (.cells #[.int .i64 0,.int .i64 0] 70)) w.heap.size (.slice (some ⟨w.heap.size,0,none⟩) 1 1) [(0,0)]:=by
 refine ⟨by decide,.inr ⟨w.heap.size,1,#[.int .i64 0,.int .i64 0],rfl,Nat.le_refl _,heap_alloc_new _ _,Nat.le_refl _,by decide,rfl,rfl⟩⟩
theorem step_P {ops:Array Oper} {o:Oper} {a:Act} {K:Act→World→Prop} {Q:Exit→Act→World→Prop} {E:Prop} {w:World} (hgd:o.guard=none) (s x:Operand)
 (ho:o.op = .call { callee := .builtin .append,args:=#[s,x],argTypes:=#[66,66] })
 (base:Nat) (v:Value) (l:List (Int × Int)) (hs:a.eval s=v) (hown:OwnP w base v l) (g c:Nat) (p q:Int) (hx:a.eval x = .slice (some ⟨g,0,none⟩) 1 c)
 (hp:w.cell? ⟨g,0,none⟩=some (.int .i64 p)) (hq:w.cell? ⟨g,1,none⟩=some (.int .i64 q)) (hl:l.length+1≤1000000000) (hbase:base≤w.heap.size)
 (h:∀ v' w',OwnP w' base v' (l++[(p,q)])→Below base w w'→K (a.put o.dst v') w'):if Region.wanted o (yielded ops a.tmps)=true then Oper.wp Tryz.prog o a w K Q else E:=by
 obtain ⟨i0,hi,hz0,hz1,hz2⟩:=info_parts info70
 refine step_append_lies w hgd s x 66 ho base 70 i0 (.agg #[.int .i64 0,.int .i64 0]) 2 16 Tryz.underlying66 hi hz0 hz1 hz2 rfl (by decide) v l.length (fl l) hs hown ⟨g,0,none⟩ 1 c (fl [(p,q)]) hx rfl ?_ (fl_one _) (by omega) (by unfold maxLen;omega) (by omega) hbase _ rfl (fun g' cap w' h2 h3 _ _=>h _ w' ?_ ((Below.refl _ w).grown h3 hbase (fun k hk=>(World.ownsRow.lt hown k hk).1)))
 · intro j u hj
   match j,hj with
   | 0,hj=>simp [fl] at hj;subst hj;exact hp
   | 1,hj=>simp [fl] at hj;subst hj;exact hq
   | n+2,hj=>simp [fl] at hj
 · unfold OwnP
   rw [fl_append,List.length_append]
   exact h2
def brs (l:List Bk):List (Int × Int):=(0,0)::brd l
theorem brs_len (l:List Bk):(brs l).length=l.length+1:=by simp [brs,brd]
theorem brs_at {l:List Bk} {j:Nat} (h:j<(brs l).length):(brs l)[j]=(sAt l j,rAt l j):=by
 rw [brs_len] at h
 cases j with
 | zero=>rfl
 | succ j=>rw [sAt_succ (by omega),rAt_succ (by omega)];simp [brs,brd]
theorem brs_take {l:List Bk} {j:Nat} (h:j<l.length):(brs l).take (j+1+1)=(brs l).take (j+1)++[(l[j].2.1,l[j].2.2.2)]:=by
 rw [List.take_succ_eq_append_getElem (by rw [brs_len];omega),brs_at (by rw [brs_len];omega),sAt_succ h,rAt_succ h]
def RbQ (w:World) (l:List Bk) (e:Ending) (w':World):Prop:=∃ v b,e = .returned (.tuple #[v,.bool b])∧((Join l∧b=true∧Rs w' v (brs l))∨(¬ Join l∧b=false∧v = .slice none 0 0))∧Below w.heap.size w w'
theorem no_join {l:List Bk} {i:Nat} (hi:i<l.length) (h:¬ okB (sAt l i) (rAt l i) l[i]):¬ Join l:=fun hj=>h (hj i hi hi)
set_option maxHeartbeats 8000000 in
theorem rborders_walk (a:Option Addr) (n c:Nat) (l:List Bk) (w:World) (h:KR w (.slice a n c) l) (hl:l.length=n) (hn:n≤1000000):Calls Tryz.prog 33 #[.slice a n c] w (RbQ w l):=by
 have HK:=Hid.mk' h
 have HN:=Hid.mk' hl
 have hnI:(n:Int)≤1000000:=by omega
 clear h hl
 go_enter Tryz.func33,Tryz.ntmps33
 go_wp2
 go_loopg [4,5] n (fun q s4 s5 wr=>∃ (i:Nat) (oa:Option Addr) (oc:Nat),s4 = .slice oa (i+1) oc∧s5 = .int .i64 (i:Int)∧i≤n∧n - i≤q∧Hid (OwnP wr w.heap.size (.slice oa (i+1) oc) ((brs l).take (i+1))∧Below w.heap.size w wr∧Jn l i))
 case atStart=>exact ⟨0,_,1,rfl,rfl,by omega,by omega,own_oneP w,((Grown.refl w).alloc _).below,Jn.zero l⟩
 case round=>
  obtain ⟨i,oa,oc,rfl,rfl,hi1,hi2,HR⟩:=hrel
  have hiI:(i:Int)≤1000000:=by omega
  by_cases hil:i<n
  · have hilI:(i:Int)<(n:Int):=by omega
    have hl':i<l.length:=by rw [HN.out];exact hil
    have hiJ:(i:Int)+1 - 1=(i:Int):=by omega
    have hcast:(((i+1:Nat):Int)) - 1=(i:Int):=by omega
    have hlt1:(i:Int)<((i+1:Nat):Int):=by omega
    -- the last border
    have hrs:=HR.out.1.rs
    have htk:((brs l).take (i+1)).length=i+1:=by rw [List.length_take,brs_len];omega
    obtain ⟨g,o,hae,c0,c1⟩:=rs_cell hrs (j:=i) (by rw [htk];omega)
    subst hae
    rw [List.getElem_take,brs_at (by rw [brs_len];omega)] at c0 c1
    obtain ⟨S,hS⟩:∃ S,sAt l i=S:=⟨_,rfl⟩
    obtain ⟨R,hR⟩:∃ R,rAt l i=R:=⟨_,rfl⟩
    simp only [hS] at c0
    simp only [hR] at c1
    -- the block
    obtain ⟨g',o',hae',k0,k1,k2,k3⟩:=kr_cell HK.out hl'
    subst hae'
    have k0:=cell_below k0 HR.out.2.1 (Nat.le_refl _)
    have k1:=cell_below k1 HR.out.2.1 (Nat.le_refl _)
    have k2:=cell_below k2 HR.out.2.1 (Nat.le_refl _)
    have k3:=cell_below k3 HR.out.2.1 (Nat.le_refl _)
    obtain ⟨⟨p0,p1,p2,p3⟩,hp⟩:∃ p,l[i]=p:=⟨_,rfl⟩
    rw [hp] at k0 k1 k2 k3
    simp only at k0 k1 k2 k3
    have HP:Hid (l[i]=(p0,p1,p2,p3)∧sAt l i=S∧rAt l i=R):=⟨hp,hS,hR⟩
    have HBAD:Hid (¬ (p0=S∧p2=R∧p0<p1∧p2≤p3)→¬ Join l):=fun hno=>no_join hl' (fun ho=>hno (by
     unfold okB at ho
     rw [HP.out.1,HP.out.2.1,HP.out.2.2] at ho
     exact ho))
    have u0:=cell_up k0 (.cells #[.int .i64 S,.int .i64 R] 70)
    have u1:=cell_up k1 (.cells #[.int .i64 S,.int .i64 R] 70)
    have u2:=cell_up k2 (.cells #[.int .i64 S,.int .i64 R] 70)
    have u3:=cell_up k3 (.cells #[.int .i64 S,.int .i64 R] 70)
    clear hp hS hR hrs htk
    by_cases q0:p0=S
    · by_cases q1:p2=R
      · by_cases q2:p1≤p0
        · have b0:(p0 != S)=false:=by simpa using q0
          have b0':(p0 == S)=true:=by simpa using q0
          have b1:(p2 != R)=false:=by simpa using q1
          have b1':(p2 == R)=true:=by simpa using q1
          have HQ:Hid (p0=S∧p2=R):=⟨q0,q1⟩
          clear q0 q1
          go_wp2
          go_big_quiet (fail)
          go_wp2
          refine bodyPost_ret (v := .tuple #[.slice none 0 0,.bool false]) (by simp [results,Tryz.f33,go_sem]) rfl ?_
          exact ⟨_,_,rfl,.inr ⟨HBAD.out (fun h=>by omega),rfl,rfl⟩,HR.out.2.1.trans ((((Grown.refl wr).alloc _).drewN _).below.mono HR.out.2.1.size)⟩
        · have d2:decide (p1≤p0)=false:=by simpa using q2
          have d2':p0<p1:=by omega
          by_cases q3:p3<p2
          · have b0:(p0 != S)=false:=by simpa using q0
            have b0':(p0 == S)=true:=by simpa using q0
            have b1:(p2 != R)=false:=by simpa using q1
            have b1':(p2 == R)=true:=by simpa using q1
            have HQ:Hid (p0=S∧p2=R):=⟨q0,q1⟩
            clear q0 q1
            go_wp2
            go_big_quiet (fail)
            go_wp2
            refine bodyPost_ret (v := .tuple #[.slice none 0 0,.bool false]) (by simp [results,Tryz.f33,go_sem]) rfl ?_
            exact ⟨_,_,rfl,.inr ⟨HBAD.out (fun h=>by omega),rfl,rfl⟩,HR.out.2.1.trans ((((Grown.refl wr).alloc _).drewN _).below.mono HR.out.2.1.size)⟩
          · have d3:decide (p3<p2)=false:=by simpa using q3
            have b0:(p0 != S)=false:=by simpa using q0
            have b0':(p0 == S)=true:=by simpa using q0
            have b1:(p2 != R)=false:=by simpa using q1
            have b1':(p2 == R)=true:=by simpa using q1
            have HJ:Hid (Jn l (i+1)):=(Jn.succ hl').2 ⟨HR.out.2.2,by unfold okB;rw [HP.out.1,HP.out.2.1,HP.out.2.2];exact ⟨q0,q1,by simp only;omega,by simp only;omega⟩⟩
            have HTK:Hid ((brs l).take (i+1+1)=(brs l).take (i+1)++[(p1,p3)]):=by
             have:=brs_take hl'
             rw [HP.out.1] at this
             exact this
            have HL1:Hid (((brs l).take (i+1)).length=i+1):=by show _=_;rw [List.length_take,brs_len];omega
            clear q0 q1 HBAD
            have HW:Hid (∀ W,Grown wr W→OwnP W w.heap.size (.slice (some ⟨g,o,none⟩) (i+1) oc) ((brs l).take (i+1))∧w.heap.size≤W.heap.size):=fun W hg=>⟨HR.out.1.below hg.below (Nat.le_refl _),by have:=HR.out.2.1.size;have:=hg.size;omega⟩
            have HF:Hid (∀ v' W w',Grown wr W→OwnP w' w.heap.size v' ((brs l).take (i+1)++[(p1,p3)])→Below w.heap.size W w'→∃ a c,v' = .slice a (i+1+1) c∧OwnP w' w.heap.size (.slice a (i+1+1) c) ((brs l).take (i+1+1))∧Below w.heap.size w w'):=fun v' W w' hg h1 h2=>by
             obtain ⟨a,c,hf⟩:=h1.form
             rw [←HTK.out] at h1 hf
             have e:((brs l).take (i+1+1)).length=i+1+1:=by rw [List.length_take,brs_len];omega
             rw [e] at hf
             exact ⟨a,c,hf,by rw [←hf];exact h1,(HR.out.2.1.trans (hg.below.mono HR.out.2.1.size)).trans h2⟩
            go_wp2
            go_big_quiet (fail)
            go_wp2
            go_region_law (refine step_P rfl (.tmp 65) (.tmp 77) rfl w.heap.size (.slice (some ⟨g,o,none⟩) (i+1) oc) ((brs l).take (i+1)) rfl (HW.out _ (by (repeat (first | exact Grown.refl _ | refine Grown.alloc ?_ _ | refine Grown.drew ?_ | refine Grown.drewN ?_ _ | refine Grown.quiet ?_ _ _)))).1 _ _ p1 p3 rfl (by exact (cell_of (alloc_at (by simp))).trans rfl) (by exact (cell_of (alloc_at (by simp))).trans rfl) (by have:=HL1.out;omega) (HW.out _ (by (repeat (first | exact Grown.refl _ | refine Grown.alloc ?_ _ | refine Grown.drew ?_ | refine Grown.drewN ?_ _ | refine Grown.quiet ?_ _ _)))).2 ?_;intro v2 w2 hO2 hB2;obtain ⟨na,nc,hv2,hO3,hB3⟩:=HF.out _ _ _ (by (repeat (first | exact Grown.refl _ | refine Grown.alloc ?_ _ | refine Grown.drew ?_ | refine Grown.drewN ?_ _ | refine Grown.quiet ?_ _ _))) hO2 hB2;subst hv2;have HO3:=Hid.mk' (And.intro hO3 hB3);clear hO2 hB2 hO3 hB3)
            all_goals
             go_wp2
             go_roundg (n - (i+1))
             case measure=>omega
             case rel=>exact ⟨i+1,na,nc,rfl,rfl,by omega,Nat.le_refl _,HO3.out.1,HO3.out.2,HJ.out⟩
      · have b0:(p0 != S)=false:=by simpa using q0
        have b0':(p0 == S)=true:=by simpa using q0
        have b1:(p2 != R)=true:=by simpa using q1
        have b1':(p2 == R)=false:=by simpa using q1
        have HQ:Hid (¬ p2=R):=q1
        clear q0 q1
        go_wp2
        go_big_quiet (fail)
        go_wp2
        refine bodyPost_ret (v := .tuple #[.slice none 0 0,.bool false]) (by simp [results,Tryz.f33,go_sem]) rfl ?_
        exact ⟨_,_,rfl,.inr ⟨HBAD.out (fun h=>HQ.out (by first | exact h.2.1 | exact h.1)),rfl,rfl⟩,HR.out.2.1.trans ((((Grown.refl wr).alloc _).drewN _).below.mono HR.out.2.1.size)⟩
    · have b0:(p0 != S)=true:=by simpa using q0
      have b0':(p0 == S)=false:=by simpa using q0
      have HQ:Hid (¬ p0=S):=q0
      clear q0
      go_wp2
      go_big_quiet (fail)
      go_wp2
      refine bodyPost_ret (v := .tuple #[.slice none 0 0,.bool false]) (by simp [results,Tryz.f33,go_sem]) rfl ?_
      exact ⟨_,_,rfl,.inr ⟨HBAD.out (fun h=>HQ.out (by first | exact h.2.1 | exact h.1)),rfl,rfl⟩,HR.out.2.1.trans ((((Grown.refl wr).alloc _).drewN _).below.mono HR.out.2.1.size)⟩
  · have hilI:¬ (i:Int)<(n:Int):=by omega
    go_wp2
    refine bodyPost_ret (v := .tuple #[.slice oa (i+1) oc,.bool true]) (by simp [results,Tryz.f33,go_sem]) rfl ?_
    have e:i=l.length:=by rw [HN.out];omega
    refine ⟨_,_,rfl,.inl ⟨?_,rfl,?_⟩,HR.out.2.1⟩
    · have:=HR.out.2.2;rw [e] at this;exact this
    · have:=HR.out.1.rs
      rw [List.take_of_length_le (by rw [brs_len];omega)] at this
      exact this
theorem rborders_any (v:Value) (l:List Bk) (w:World) (h:KR w v l) (hn:l.length≤1000000):Calls Tryz.prog 33 #[v] w (RbQ w l):=by
 have h':=h
 obtain ⟨a,c,rfl,_⟩:=h
 exact rborders_walk a _ c l w h' rfl hn
end Go.Proofs
