/-
  Several texts in one (Eg El Em En Eo Fa Fb Ha Hb).
-/
import Derived.RangeFuncNested
import Derived.RangeFuncBound
import Derived.RangeFuncCalls
import Derived.RangeFuncLeaves
import Derived.Shelf.Abstract
import Derived.Shelf.RegionOpen
import Derived.WalkKit
import Derived.WalkSpells
import Derived.WalkLawsBesides
import Derived.OwnWalkIn
import Derived.TacticsInMore
import Derived.LoopNIn
import Derived.LoopIn
import Derived.BigQuiet
import Derived.RegionIn
import Derived.Deep.QuietTactic
import Derived.Deep.RegionWith
import Derived.Lib.OthersKept
import Derived.Maps.AppendAt
import Derived.Lib.SmallJoins
import Derived.Shelf.SlSortCmp.QuietGrown
import Derived.Deep.LoopGhost
import Derived.Scope
import Derived.Test.YtcfcjljapamcoabGreatDoorMgar
import Derived.Deep.AppendLies
import Derived.Deep.RegionLaw
namespace Go.Proofs
open Go.RowKit Go.Shelf
set_option maxRecDepth 100000
attribute [local go_sem] Oper.semAt_some
attribute [local go_sem ↓] Go.wp_at_zero Go.wp_at_succ
theorem look_le (st:St):∀ (k n m:Nat),look st k n=some m→n≤m∧m<n+k
 | 0,n,m,h=>by simp [look] at h
 | k+1,n,m,h=>by
  unfold look at h
  split at h
  · cases h;omega
  · have:=look_le st k (n+1) m h;omega
def SeQ (w0:World) (sp m1 ga m2:Nat) (bv:Value) (uvs:List Value) (rv:Value) (rs:List Rl) (cs:List Int) (us:List (List (Int × Int))) (R1:Bool) (R2:St) (e:Ending) (w':World):Prop:=
 ∃ ln',e = .returned (.bool R1)∧Sc w' w0 sp m1 ga m2 (tws R2.ws) (tws R2.ws) bv uvs rv rs R2 ln'∧OkSt cs us R2
set_option maxHeartbeats 8000000 in
theorem settle_any {W w0:World} {sp m1 ga m2:Nat} {bv:Value} {uvs:List Value} {rv:Value} {rs:List Rl} {st:St} {ln:Int→Option Value} {cs:List Int} {us:List (List (Int × Int))} (last F:Nat) (hS:Sc W w0 sp m1 ga m2 (tws st.ws) (tws st.ws) bv uvs rv rs st ln) (hO:OkSt cs us st) (hcl:cs.length=rs.length) (hn:last<rs.length) (hK:Kok rs) (hu:∀ u∈us,u.length≤512) (hF:64*cs.length<F+tws st.ws) :
 Calls Tryz.prog 76 #[.pointer (some ⟨sp,0,none⟩),.int .i64 last] W (SeQ w0 sp m1 ga m2 bv uvs rv rs cs us (settleP rs last F st).1 (settleP rs last F st).2):=by
 obtain ⟨R,hR⟩:∃ R,settleP rs last F st=R:=⟨_,rfl⟩
 rw [hR]
 obtain ⟨R1,R2⟩:=R
 simp only
 have HK:Hid (Kok rs):=hK
 have HU:Hid (∀ u∈us,u.length≤512):=hu
 have HCL:Hid (cs.length=rs.length∧last<rs.length∧rs.length≤256):=⟨hcl,hn,hK.n⟩
 have hlI:(last:Int)≤256:=by have:=hK.n;omega
 have hl0:(0:Int)≤(last:Int):=by omega
 have H0:Hid (∃ st ln,Sc W w0 sp m1 ga m2 (tws st.ws) (tws st.ws) bv uvs rv rs st ln∧OkSt cs us st∧settleP rs last F st=(R1,R2)∧64*cs.length<F+tws st.ws):=⟨st,ln,hS,hO,hR,hF⟩
 clear hS hO hR hF hu hK hcl hn
 go_enter Tryz.func76,Tryz.ntmps76
 go_wp2
 refine wp_scope_straight ?_
 go_wp2
 refine wp_label ?_
 go_wp2
 go_loopg [] F (fun f wr=>Hid (∃ st ln,Sc wr w0 sp m1 ga m2 (tws st.ws) (tws st.ws) bv uvs rv rs st ln∧OkSt cs us st∧settleP rs last f st=(R1,R2)∧64*cs.length<f+tws st.ws))
 case atStart=>exact H0
 case round=>
  clear H0
  obtain ⟨wo,rfl⟩:∃ wo,wo=wr:=⟨_,rfl⟩
  obtain ⟨s0,l0,hS,hO,hR,hF⟩:=hrel.out
  clear hrel
  obtain ⟨f,rfl⟩:∃ f,gk=f+1:=by
   have h1:=tws_bound s0.ws (fun i hi=>(hO.wb i (by rw [←hO.wl];exact hi)).2)
   rw [hO.wl] at h1
   exact ⟨gk - 1,by omega⟩
  have HS:Hid (Sc wo w0 sp m1 ga m2 (tws s0.ws) (tws s0.ws) bv uvs rv rs s0 l0):=hS
  have HO:Hid (OkSt cs us s0):=hO
  have HF:Hid (64*cs.length<f+1+tws s0.ws):=hF
  have HR:Hid (settleP rs last (f+1) s0=(R1,R2)):=hR
  obtain ⟨na,hna⟩:∃ na,cs.length=na:=⟨_,rfl⟩
  have HNA:Hid (cs.length=na):=hna
  have hlast:(last:Int)<(na:Int):=by have:=HCL.out;omega
  have hnaI:(na:Int)≤256:=by have:=HCL.out;omega
  have d1:wo.cell? ⟨sp,1,none⟩=some (.map (some m1)):=by rw [cell_of hS.blk];simp
  have d2:wo.cell? ⟨sp,2,none⟩=some (.slice (some ⟨ga,0,none⟩) na na):=by rw [cell_of hS.blk];simp [hO.al,hna]
  clear hS hO hR hF hna
  go_wp2
  go_loopw [8] (fun vi wx=>∃ k:Nat,vi = .int .i64 k∧k≤last+1∧Hid (look s0 (last+1) 0=look s0 (last+1 - k) k)∧Grown wo wx) (fun vi _=>last+1 - (intOf vi).toNat)
  case atStart=>exact ⟨0,rfl,by omega,rfl,Grown.refl _⟩
  case round=>
   obtain ⟨k,rfl,hk,HL,hG⟩:=hrel
   have hk0:(0:Int)≤(k:Int):=by omega
   by_cases hlt:k<last+1
   · have hlt':(k:Int)<(last:Int)+1:=by omega
     have hkn:k<cs.length:=by have:=HCL.out;omega
     have hSx:=HS.out.grown hG
     have hab:=HO.out.ab hkn
     have hwb:=HO.out.wb k hkn
     have hka:k<s0.aq.length:=by rw [HO.out.al];exact hkn
     have hkw:k<s0.ws.length:=by rw [HO.out.wl];exact hkn
     have e2:=hG.cellv d2
     have e1:=hG.cellv d1
     have ya:wr.cell? ⟨ga,k,none⟩=some (.int .i64 (at0 s0.aq k)):=by rw [cell_of hSx.asb];simp [ints,at0,hka]
     have hlk:(Instr.lookup 81 (.map (some m1)) (.int .i64 k) false).run Tryz.prog wr.drew = .ok (.int .i64 (at0 s0.ws k)) wr.drew:=by
      have:=(hSx.grown (Grown.refl _).drew).wm.look (t:=81) (e:=3) Tryz.underlying81 (zero3 _) (k:=(k:Int)) ⟨by omega,by omega⟩
      rw [this,wsF_nat hkw]
      rfl
     have hkna:(k:Int)<(na:Int):=by omega
     have HL2:Hid (look s0 (last+1) 0=if 64<at0 s0.aq k∨at0 s0.ws k<at0 s0.aq k then some k else look s0 (last+1 - (k+1)) (k+1)):=by
      show _=_
      rw [HL.out,show last+1 - k=(last+1 - (k+1))+1 by omega,look]
     have HLC:Hid (64 ≥ at0 s0.aq k→at0 s0.ws k<at0 s0.aq k→∀ wz,Grown wo wz→Calls Tryz.prog 101 #[.pointer (some ⟨sp,0,none⟩),.int .i64 k] wz fun e w'=>∃ ln',e = .returned (.tuple #[])∧Sc w' w0 sp m1 ga m2 (tws s0.ws+1) (tws s0.ws+1) bv uvs rv rs (liftP rs k s0) ln'):=fun h1 h2 wz hz=>by
      have hb:=tws_bound s0.ws (fun i hi=>(HO.out.wb i (by rw [←HO.out.wl];exact hi)).2)
      rw [HO.out.wl] at hb
      have hc:=HCL.out
      exact lift_any k (HS.out.grown hz) HO.out hc.1 (by omega) HK.out HU.out (by omega) (by omega) h2 h1
     obtain ⟨aa,haa⟩:∃ aa,at0 s0.aq k=aa:=⟨_,rfl⟩
     obtain ⟨ww,hww⟩:∃ ww,at0 s0.ws k=ww:=⟨_,rfl⟩
     have HAW:Hid (at0 s0.aq k=aa∧at0 s0.ws k=ww):=⟨haa,hww⟩
     rw [haa] at hab ya HL2 HLC
     rw [hww] at hwb hlk HL2 HLC
     clear hSx HL haa hww hka hkw
     by_cases hc1:64<aa
     · as_aux_lemma=>
        have HE:Hid (R1=false∧R2=s0):=by
         have h1:=HL2.out
         rw [if_pos (.inl hc1)] at h1
         have h2:=HR.out
         rw [settleP,h1] at h2
         simp only at h2
         rw [if_pos (by rw [HAW.out.1];exact hc1)] at h2
         injection h2 with h3 h4
         exact ⟨h3.symm,h4.symm⟩
        clear HL2 HLC HR HF
        go_wp2
        go_ret
        refine ⟨l0,by rw [HE.out.1];rfl,?_,?_⟩
        · rw [HE.out.2];exact HS.out.grown hG
        · rw [HE.out.2];exact HO.out
     · by_cases hc2:ww<aa
       · as_aux_lemma=>
          have HE:Hid (settleP rs last f (liftP rs k s0)=(R1,R2)):=by
           have h1:=HL2.out
           rw [if_pos (.inr hc2)] at h1
           have h2:=HR.out
           rw [settleP,h1] at h2
           simp only at h2
           rw [if_neg (by rw [HAW.out.1];exact hc1)] at h2
           exact h2
          have HOL:Hid (OkSt cs us (liftP rs k s0)∧tws s0.ws+1≤tws (liftP rs k s0).ws):=by
           refine ⟨HO.out.lift rs hkn (by rw [HAW.out.1,HAW.out.2];exact hc2) (by rw [HAW.out.1];omega),?_⟩
           rw [liftP_ws]
           have:=tws_set s0.ws k (at0 s0.aq k) (by rw [HO.out.wl];exact hkn)
           rw [HAW.out.1,HAW.out.2] at this
           rw [HAW.out.1]
           omega
          have HCC:Hid (∀ wz,Grown wo wz→Calls Tryz.prog 101 #[.pointer (some ⟨sp,0,none⟩),.int .i64 k] wz fun e w'=>∃ ln',e = .returned (.tuple #[])∧Sc w' w0 sp m1 ga m2 (tws s0.ws+1) (tws s0.ws+1) bv uvs rv rs (liftP rs k s0) ln'):=HLC.out (by omega) hc2
          clear HL2 HLC HR
          go_wp2
          go_region
          go_wp2_with (go_at_call 101;refine (HCC.out _ hG.drew).mono ?_;rintro e w' ⟨ln',rfl,hS'⟩)
          go_roundg f
          case measure=>omega
          case rel=>exact ⟨liftP rs k s0,ln',hS'.mono HOL.out.2 HOL.out.2,HOL.out.1,HE.out,by have h1:=HOL.out.2;have h2:=HF.out;omega⟩
       · as_aux_lemma=>
          have HL3:Hid (look s0 (last+1) 0=look s0 (last+1 - (k+1)) (k+1)):=by
           show _=_
           rw [HL2.out,if_neg (fun h=>h.elim hc1 hc2)]
          clear HL2 HLC HR HF
          go_wp2
          go_region
          go_wp2
          exact ⟨⟨k+1,by go_num,by omega,HL3,hG.drew⟩,by simp [intOf];omega⟩
   · as_aux_lemma=>
      have hge:¬ (k:Int)<(last:Int)+1:=by omega
      have HE:Hid (R1=true∧R2=s0):=by
       have h1:=HL.out
       rw [show last+1 - k=0 by omega,look] at h1
       have h2:=HR.out
       rw [settleP,h1] at h2
       injection h2 with h3 h4
       exact ⟨h3.symm,h4.symm⟩
      clear HL HR HF
      go_wp2
      go_ret
      refine ⟨l0,by rw [HE.out.1];rfl,?_,?_⟩
      · rw [HE.out.2];exact HS.out.grown hG
      · rw [HE.out.2];exact HO.out
theorem wsum_pbs (n i:Nat):∀ l:List Pc,wsum (pbs n l) i=if n=i then ((pbs n l).length:Int) else 0
 | []=>by simp [pbs,wsum]
 | p::l=>by
  have ih:=wsum_pbs n i l
  simp only [pbs]
  split
  · exact ih
  · simp only [wsum,ih,List.length_cons]
    split <;> omega
theorem wsum_bkI (rs:List Rl) (i:Nat):∀ k,wsum (bkI rs k) i=if i<k then ((pbs i ((rs[i]?.map backP).getD [])).length:Int) else 0
 | 0=>by simp [bkI,wsum]
 | k+1=>by
  rw [bkI,wsum_append,wsum_bkI rs i k,wsum_pbs]
  by_cases h1:i<k
  · rw [if_pos h1,if_neg (by omega),if_pos (by omega)];omega
  · rw [if_neg h1]
    by_cases h2:k=i
    · subst h2;rw [if_pos rfl,if_pos (by omega)];omega
    · rw [if_neg h2,if_neg (by omega)];omega
theorem pbs_mem {n:Nat} : ∀ {l:List Pc} {b:Pb},b∈pbs n l→b.r=n∧b.wt=1∧∃ p∈l,b.us=mayB p
 | [],b,h=>by simp [pbs] at h
 | p::l,b,h=>by
  simp only [pbs] at h
  split at h
  · obtain ⟨h1,h2,q,h3,h4⟩:=pbs_mem h
    exact ⟨h1,h2,q,List.mem_cons_of_mem _ h3,h4⟩
  · rcases List.mem_cons.1 h with rfl | h
    · exact ⟨rfl,rfl,p,List.mem_cons_self,rfl⟩
    · obtain ⟨h1,h2,q,h3,h4⟩:=pbs_mem h
      exact ⟨h1,h2,q,List.mem_cons_of_mem _ h3,h4⟩
theorem bkI_mem {rs:List Rl} : ∀ {k:Nat} {b:Pb},b∈bkI rs k→b.r<k∧b.wt=1∧∃ r∈rs,∃ p∈backP r,b.us=mayB p
 | 0,b,h=>by simp [bkI] at h
 | k+1,b,h=>by
  rw [bkI] at h
  rcases List.mem_append.1 h with h | h
  · obtain ⟨h1,h2,h3⟩:=bkI_mem h
    exact ⟨by omega,h2,h3⟩
  · obtain ⟨h1,h2,p,h3,h4⟩:=pbs_mem h
    refine ⟨by omega,h2,?_⟩
    cases hk:rs[k]? with
    | none=>rw [hk] at h3;simp at h3
    | some r=>
     rw [hk] at h3
     exact ⟨r,List.mem_of_getElem? hk,p,by simpa using h3,h4⟩
def csI (rs:List Rl):List Int:=(List.range rs.length).map fun i=>at0 (stK rs rs.length).aq i - wsum (bkI rs rs.length) i
theorem csI_len (rs:List Rl):(csI rs).length=rs.length:=by simp [csI]
theorem csI_at {rs:List Rl} {i:Nat} (h:i<rs.length):at0 (csI rs) i=at0 (stK rs rs.length).aq i - wsum (bkI rs rs.length) i:=by
 rw [at0_lt (by rw [csI_len];exact h)]
 simp [csI]
theorem stK_all (rs:List Rl):stK rs rs.length=⟨List.replicate rs.length 1,rs.map askI,bkI rs rs.length⟩:=by simp [stK]
theorem okSt_start {rs:List Rl} (hO:∀ r∈rs,Ok r) (hn:rs.length≤256):OkSt (csI rs) ((bkI rs rs.length).map Pb.us) (stK rs rs.length):=by
 have hl:=csI_len rs
 refine ⟨by omega,by rw [stK_all];simp [hl],by rw [stK_all];simp [hl],fun i hi => ?_,fun b hb => ?_,?_,fun i hi => ?_,fun i hi => ?_,by rw [stK_all]⟩
 · rw [hl] at hi
   rw [stK_all]
   simp [at0,hi]
 · rw [stK_all] at hb
   obtain ⟨h1,h2,_⟩:=bkI_mem hb
   omega
 · rw [stK_all]
   have:=bkI_len (fun r hr=>(hO r hr).r16) rs.length
   show (bkI rs rs.length).length≤4096
   omega
 · rw [hl] at hi
   rw [csI_at hi,wsum_bkI,if_pos hi,stK_all,List.getElem?_eq_getElem hi]
   have hr:=hO _ (List.getElem_mem hi)
   have h1:=pbs_len i (backP rs[i])
   have h2:(backP rs[i]).length≤16:=by have:=hr.r16;simp [backP];omega
   have h3:=hr.k8
   have h4:at0 (rs.map askI) i=askI rs[i]:=by simp [at0,hi]
   show -100≤at0 (rs.map askI) i - _∧at0 (rs.map askI) i - _≤100
   rw [h4]
   unfold askI
   simp only [Option.map_some,Option.getD_some]
   omega
 · rw [hl] at hi
   rw [csI_at hi,stK_all]
   simp only
   omega
theorem mayB_len {r:Rl} (hO:Ok r) {p:Pc} (hp:p∈backP r):(mayB p).length≤512:=by
 unfold mayB
 split
 · rename_i h3
   rcases pc_ok (hO.pc p (List.mem_of_mem_drop hp)) with ⟨h1,_⟩ | ⟨h1,_⟩ | ⟨_,_,_,_,hm⟩
   · omega
   · omega
   · unfold matB at hm
     simp only [Bool.and_eq_true] at hm
     exact ((validB_iff _).1 hm.1).1
 · simp
theorem us_len {rs:List Rl} (hO:∀ r∈rs,Ok r):∀ u∈(bkI rs rs.length).map Pb.us,u.length≤512:=fun u hu=>by
 obtain ⟨b,hb,rfl⟩:=List.mem_map.1 hu
 obtain ⟨_,_,r,hr,p,hp,e⟩:=bkI_mem hb
 rw [e]
 exact mayB_len (hO r hr) hp
theorem kok_of {rs:List Rl} (hO:∀ r∈rs,Ok r) (hn:rs.length≤256):Kok rs:=by
 refine ⟨fun r hr=>(hO r hr).k0,fun r hr => ?_,hn⟩
 have h0:=(hO r hr).k0
 have:=List.all_eq_true.1 (hO r hr).kS _ (List.getElem_mem h0)
 unfold okS at this
 simp only [Bool.and_eq_true] at this
 have e:keyAt r.key 0=r.key[0]:=by simp [keyAt,h0]
 rw [e]
 exact ((validB_iff _).1 this.1).1
theorem fstR_ok:∀ {rs:List Rl} {k:Nat},(fstR rs k).2=0→∀ r∈rs,chk r=0
 | [],_,_,r,h=>by cases h
 | q::l,k,h,r,hr=>by
  unfold fstR at h
  by_cases hq:chk q=0
  · rw [if_pos hq] at h
    rcases List.mem_cons.1 hr with rfl | hr
    · exact hq
    · exact fstR_ok h r hr
  · rw [if_neg hq] at h
    exact absurd h hq
theorem allE_ok {rs:List Rl} (h:(allE rs).2=0):rs.length≤256∧∀ r∈rs,Ok r:=by
 unfold allE at h
 by_cases hn:256<rs.length
 · rw [if_pos hn] at h;cases h
 · rw [if_neg hn] at h
   exact ⟨by omega,fun r hr=>chk_ok (fstR_ok h r hr)⟩
def fstC:List Rl→Nat→Option Nat
 | [],_=>none
 | r::l,k=>if copB r then some k else fstC l (k+1)
def settleAll (rs:List Rl):Nat→Nat→St→Option Nat × St
 | 0,_,st=>(none,st)
 | k+1,n,st=>if (settleP rs n (64*rs.length+1) st).1 then settleAll rs k (n+1) (settleP rs n (64*rs.length+1) st).2 else (some n,(settleP rs n (64*rs.length+1) st).2)
def wgh (rs:List Rl):Option St × Int × Int:=
 if (allE rs).2≠0 then (none,(allE rs).1,(allE rs).2)
 else match fstC rs 0 with
  | some n=>(none,(n:Int),80)
  | none=>match settleAll rs rs.length 0 (stK rs rs.length) with
   | (some n,_)=>(none,(n:Int),81)
   | (none,st)=>(some st,0,0)
theorem tws_ones (n:Nat):tws (List.replicate n 1)=n:=by
 induction n with
 | zero=>rfl
 | succ n ih=>rw [List.replicate_succ,tws,ih];simp;omega
def Sca (w':World) (B:Nat) (sp:Nat) (rv:Value) (rs:List Rl) (st:St):Prop:=
 ∃ w0 m1 ga m2 N1 N2 bv uvs ln,B≤w0.heap.size∧Sc w' w0 sp m1 ga m2 N1 N2 bv uvs rv rs st ln∧OkSt (csI rs) ((bkI rs rs.length).map Pb.us) st
def WgQ (w:World) (rv:Value) (rs:List Rl) (e:Ending) (w':World):Prop:=
 Below w.heap.size w w'∧((∃ c,(wgh rs)=(none,c)∧e = .returned (.tuple #[.pointer none,.int .i64 c.1,.int .i64 c.2]))∨∃ st sp,wgh rs=(some st,0,0)∧e = .returned (.tuple #[.pointer (some ⟨sp,0,none⟩),.int .i64 0,.int .i64 0])∧Sca w' w.heap.size sp rv rs st)
theorem box_cell {w wr:World} {rv:Value} (hb:Below (w.heap.size+1) (w.alloc (.cells #[rv] 24)) wr):wr.cell? ⟨w.heap.size,0,none⟩=some rv:=by
 rw [hb.cell (p:=⟨w.heap.size,0,none⟩) (by simp),cell_of (heap_alloc_new w _)]
 rfl
theorem box_below {w wr:World} {ob:Obj} (hb:Below (w.heap.size+1) (w.alloc ob) wr):Below w.heap.size w wr:=(((Grown.refl w).alloc ob).below).trans (hb.mono (Nat.le_succ _))
structure WL (w:World) (rv:Value) (rs:List Rl) (sp m1 ga m2:Nat) (bv:Value) (uvs:List Value) (w0:World) (E:Option Nat × St) (k:Nat) (wr:World):Prop where
 h:∃ st ln,settleAll rs (rs.length - k) k st=E∧Sc wr w0 sp m1 ga m2 (tws st.ws) (tws st.ws) bv uvs rv rs st ln∧OkSt (csI rs) ((bkI rs rs.length).map Pb.us) st
 b:Below (w.heap.size+1) (w.alloc (.cells #[rv] 24)) w0
theorem WL.below {w:World} {rv:Value} {rs:List Rl} {sp m1 ga m2:Nat} {bv:Value} {uvs:List Value} {w0:World} {E:Option Nat × St} {k:Nat} {wr:World} (h:WL w rv rs sp m1 ga m2 bv uvs w0 E k wr):Below (w.heap.size+1) (w.alloc (.cells #[rv] 24)) wr:=by
 obtain ⟨st,ln,_,hS,_⟩:=h.h
 refine h.b.trans (hS.bel.mono ?_)
 have:=h.b.size
 simpa using this
set_option maxHeartbeats 8000000 in
theorem weighed_any (rv:Value) (rs:List Rl) (w:World) (hT:Tab w) (h:PsR w rv rs):Calls Tryz.prog 48 #[.agg #[rv]] w (WgQ w rv rs):=by
 have HP:Hid (∀ W,Below w.heap.size w W→PsR W rv rs):=fun W hW=>h.below hW (Nat.le_refl _)
 have HTT:Hid (∀ W,Below w.heap.size w W→Tab W):=fun W hW=>hT.below hW hT.pos
 have HA:Hid (∀ W,Grown w W→Calls Tryz.prog 73 #[.agg #[rv]] W fun e w'=>e = .returned (.tuple #[.int .i64 (allE rs).1,.int .i64 (allE rs).2])∧Grown W w'):=fun W hW=>all_any rv rs W (hT.grown hW) (h.grown hW)
 obtain ⟨ra,rc,rfl,_,hrr⟩:=h
 obtain ⟨n,hn⟩:∃ n,rs.length=n:=⟨_,rfl⟩
 have HN:Hid (rs.length=n):=hn
 rw [hn] at HP HA ⊢
 obtain ⟨e1,he1⟩:∃ e1,(allE rs).1=e1:=⟨_,rfl⟩
 obtain ⟨e2,he2⟩:∃ e2,(allE rs).2=e2:=⟨_,rfl⟩
 have HE:Hid ((allE rs).1=e1∧(allE rs).2=e2):=⟨he1,he2⟩
 rw [he1,he2] at HA
 clear hT hn he1 he2 hrr
 by_cases hq:e2=0
 · subst hq
   have HOK:=allE_ok HE.out.2
   have HO:Hid (∀ r∈rs,Ok r):=HOK.2
   have hn256:n≤256:=by rw [←HN.out];exact HOK.1
   have hnI:(n:Int)≤256:=by omega
   clear HOK
   obtain ⟨C,hC⟩:∃ C,fstC rs 0=C:=⟨_,rfl⟩
   have HC:Hid (fstC rs 0=C):=hC
   clear hC
   go_enter Tryz.func48,Tryz.ntmps48
   go_wp2_with fail
   refine (HA.out _ ((Grown.refl _).alloc _)).mono ?_
   rintro e w1 ⟨rfl,hG1⟩
   have HB1:Hid (Below (w.heap.size+1) (w.alloc (.cells #[.slice ra n rc] 24)) w1):=by have:=hG1.below;simpa [Hid] using this
   have d0:w1.cell? ⟨w.heap.size,0,none⟩=some (.slice ra n rc):=box_cell HB1.out
   clear hG1 HA
   go_wp2
   go_loopw [23] (fun vi wr=>∃ k:Nat,vi = .int .i64 k∧k≤n∧Hid (fstC (rs.drop k) k=C)∧Hid (Below (w.heap.size+1) (w.alloc (.cells #[.slice ra n rc] 24)) wr)) (fun vi _=>n - (intOf vi).toNat)
   case atStart=>exact ⟨0,rfl,by omega,HC,HB1⟩
   case round=>
    obtain ⟨k,rfl,hk,HF,HB⟩:=hrel
    clear HB1 d0
    have hk0:(0:Int)≤(k:Int):=by omega
    by_cases hlt:k<n
    · have hlt':(k:Int)<(n:Int):=by omega
      have hkl:k<rs.length:=by rw [HN.out];exact hlt
      obtain ⟨a',c',e',_,hPr⟩:=HP.out wr (box_below HB.out)
      obtain ⟨g,o,ha',hRA⟩:=hPr.resolve_left (fun e=>by rw [e] at hkl;simp at hkl)
      injection e' with q1 q2 q3
      clear q2 q3
      rw [ha'] at q1
      subst q1
      obtain ⟨av,kv,pv,rv',r0,r1,r2,r3,r4,r5,r6,hRR⟩:=hRA k hkl
      have hOk:=HO.out _ (List.getElem_mem hkl)
      have HCC:Hid (∀ ob,Calls Tryz.prog 74 #[.agg #[.bool rs[k].bg,av,kv,pv,.bool rs[k].en,rv',.int .i64 rs[k].cu]] (wr.alloc ob) fun e w'=>e = .returned (.bool (copB rs[k]))∧Below (w.heap.size+1) (w.alloc (.cells #[.slice (some ⟨g,o,none⟩) n rc] 24)) w'):=fun ob=>by
       have hg:Grown wr (wr.alloc ob):=(Grown.refl _).alloc ob
       refine (copies_any rs[k] av kv pv rv' (wr.alloc ob) (hRR.grown hg) hOk).mono ?_
       rintro e w' ⟨rfl,hb⟩
       refine ⟨rfl,HB.out.trans ((hg.below.trans (hb.mono hg.size)).mono ?_)⟩
       have:=HB.out.size
       simpa using this
      have hF2:=HF.out
      rw [drop_rl hkl] at hF2
      unfold fstC at hF2
      obtain ⟨a1,n1,c1,rfl⟩:=hRR.a.sl
      obtain ⟨a2,n2,c2,rfl⟩:=hRR.k.sl
      obtain ⟨a3,n3,c3,rfl⟩:=hRR.p.sl
      obtain ⟨a5,n5,c5,rfl⟩:=hRR.r.sl
      generalize copB rs[k]=cb at HCC hF2
      generalize rs[k].bg=xb at *
      generalize rs[k].en=xe at *
      generalize rs[k].cu=xc at *
      clear hRR hRA hPr ha' hOk HF HB
      cases cb with
      | true=>
       as_aux_lemma=>
        have HX:Hid (C=some k):=by show C=some k;simpa using hF2.symm
        clear hF2
        go_wp2_with (go_at_call 74;refine (HCC.out _).mono ?_;rintro e w' ⟨rfl,hb⟩)
        refine bodyPost_ret (v := .tuple #[.pointer none,.int .i64 k,.int .i64 80]) (by simp [results,Tryz.f48,go_sem]) rfl ⟨box_below hb,.inl ⟨((k:Int),80),?_,rfl⟩⟩
        unfold wgh
        rw [if_neg (by rw [HE.out.2];simp),HC.out,HX.out]
      | false=>
       as_aux_lemma=>
        have HX:Hid (fstC (rs.drop (k+1)) (k+1)=C):=by show _=C;simpa using hF2
        clear hF2
        go_wp2_with (go_at_call 74;refine (HCC.out _).mono ?_;rintro e w' ⟨rfl,hb⟩)
        exact ⟨⟨k+1,by go_num,by omega,HX,hb⟩,by simp [intOf];omega⟩
    · have hge:¬ (k:Int)<(n:Int):=by omega
      have HX:Hid (C=none):=by
       have:=HF.out
       rw [List.drop_eq_nil_of_le (by rw [HN.out];omega),fstC] at this
       exact this.symm
      have d0:wr.cell? ⟨w.heap.size,0,none⟩=some (.slice ra n rc):=box_cell HB.out
      have HNS:Hid (Calls Tryz.prog 75 #[.slice ra n rc] wr (NsQ wr (.slice ra n rc) rs)):=newScale_any _ rs wr (HP.out wr (box_below HB.out)) HO.out (by rw [HN.out];exact hn256)
      clear HF
      go_wp2_with fail
      refine HNS.out.mono ?_
      rintro e w2 ⟨sp,m1,ga,m2,bv,uvs,rfl,hS2⟩
      have hwl:tws (stK rs rs.length).ws=rs.length:=by rw [stK_all];exact tws_ones _
      obtain ⟨E,hE⟩:∃ E,settleAll rs rs.length 0 (stK rs rs.length)=E:=⟨_,rfl⟩
      have HSE:Hid (settleAll rs rs.length 0 (stK rs rs.length)=E):=hE
      have HW0:Hid (WL w (.slice ra n rc) rs sp m1 ga m2 bv uvs wr E 0 w2):=by
       refine ⟨⟨stK rs rs.length,fun _=>none,by rw [Nat.sub_zero];exact hE,hS2.mono (by rw [hwl];exact Nat.le_refl _) (Nat.zero_le _),okSt_start HO.out (by rw [HN.out];exact hn256)⟩,HB.out⟩
      have d2:w2.cell? ⟨w.heap.size,0,none⟩=some (.slice ra n rc):=box_cell HW0.out.below
      have HK:Hid (Kok rs):=kok_of HO.out (by rw [HN.out];exact hn256)
      have HU:Hid (∀ u∈(bkI rs rs.length).map Pb.us,u.length≤512):=us_len HO.out
      have HBW:Hid (Below (w.heap.size+1) (w.alloc (.cells #[.slice ra n rc] 24)) wr):=HB
      obtain ⟨wn,hwn⟩:∃ wn,wn=wr:=⟨_,rfl⟩
      rw [←hwn] at HW0 HBW
      clear hE hS2 hwl HNS d0 HB hwn
      go_wp2
      go_loopw [38] (fun vi wx=>∃ k:Nat,vi = .int .i64 k∧k≤n∧Hid (WL w (.slice ra n rc) rs sp m1 ga m2 bv uvs wn E k wx)) (fun vi _=>n - (intOf vi).toNat)
      case atStart=>exact ⟨0,rfl,by omega,HW0⟩
      case round=>
       obtain ⟨k,rfl,hk,HW⟩:=hrel
       clear HW0 d2
       have hk0:(0:Int)≤(k:Int):=by omega
       by_cases hlt:k<n
       · have hlt':(k:Int)<(n:Int):=by omega
         have hkl:k<rs.length:=by rw [HN.out];exact hlt
         obtain ⟨st,ln,hA,hS,hO⟩:=HW.out.h
         have HCC:Hid (Calls Tryz.prog 76 #[.pointer (some ⟨sp,0,none⟩),.int .i64 k] wr (SeQ wn sp m1 ga m2 bv uvs (.slice ra n rc) rs (csI rs) ((bkI rs rs.length).map Pb.us) (settleP rs k (64*rs.length+1) st).1 (settleP rs k (64*rs.length+1) st).2)):=
          settle_any k (64*rs.length+1) hS hO (csI_len rs) hkl HK.out HU.out (by rw [csI_len];omega)
         rw [show rs.length - k=(rs.length - (k+1))+1 by omega,settleAll] at hA
         obtain ⟨R1,hR1⟩:∃ R1,(settleP rs k (64*rs.length+1) st).1=R1:=⟨_,rfl⟩
         obtain ⟨R2,hR2⟩:∃ R2,(settleP rs k (64*rs.length+1) st).2=R2:=⟨_,rfl⟩
         rw [hR1,hR2] at HCC hA
         clear hS hO hR1 hR2 HW
         cases R1 with
         | true=>
          as_aux_lemma=>
           have HA2:Hid (settleAll rs (rs.length - (k+1)) (k+1) R2=E):=by show _=E;simpa using hA
           clear hA
           go_wp2_with (go_at_call 76;refine HCC.out.mono ?_;rintro e w' ⟨ln',rfl,hS',hO'⟩)
           exact ⟨⟨k+1,by go_num,by omega,⟨R2,ln',HA2.out,hS',hO'⟩,HBW.out⟩,by simp [intOf];omega⟩
         | false=>
          as_aux_lemma=>
           have HA2:Hid (E=(some k,R2)):=by show E=_;simpa using hA.symm
           clear hA
           go_wp2_with (go_at_call 76;refine HCC.out.mono ?_;rintro e w' ⟨ln',rfl,hS',hO'⟩)
           have hb:Below w.heap.size w w':=(box_below HBW.out).trans (hS'.bel.mono (box_below HBW.out).size)
           refine bodyPost_ret (v := .tuple #[.pointer none,.int .i64 k,.int .i64 81]) (by simp [results,Tryz.f48,go_sem]) rfl ⟨hb,.inl ⟨((k:Int),81),?_,rfl⟩⟩
           unfold wgh
           rw [if_neg (by rw [HE.out.2];simp),HC.out,HX.out]
           simp only
           rw [HSE.out,HA2.out]
       · as_aux_lemma=>
          have hge:¬ (k:Int)<(n:Int):=by omega
          go_wp2
          obtain ⟨st,ln,hA,hS,hO⟩:=HW.out.h
          rw [show rs.length - k=0 by have:=HN.out;omega,settleAll] at hA
          have hb:Below w.heap.size w wr:=(box_below HBW.out).trans (hS.bel.mono (box_below HBW.out).size)
          refine bodyPost_ret (v := .tuple #[.pointer (some ⟨sp,0,none⟩),.int .i64 0,.int .i64 0]) (by simp [results,Tryz.f48,go_sem]) rfl ⟨hb,.inr ⟨st,sp,?_,rfl,wn,m1,ga,m2,_,_,bv,uvs,ln,(box_below HBW.out).size,hS,hO⟩⟩
          unfold wgh
          rw [if_neg (by rw [HE.out.2];simp),HC.out,HX.out]
          simp only
          rw [HSE.out,←hA]
 · have hq':(e2 != 0)=true:=by simpa using hq
   go_enter Tryz.func48,Tryz.ntmps48
   go_wp2_with (go_at_call 73;refine (HA.out _ ((Grown.refl _).alloc _)).mono ?_;rintro e w1 ⟨rfl,hG1⟩)
   refine bodyPost_ret (v := .tuple #[.pointer none,.int .i64 e1,.int .i64 e2]) (by simp [results,Tryz.f48,go_sem]) rfl ⟨(((Grown.refl w).alloc _).trans hG1).below,.inl ⟨(e1,e2),?_,rfl⟩⟩
   unfold wgh
   rw [if_pos (by rw [HE.out.2];exact hq),HE.out.1,HE.out.2]
def wgtK (rs:List Rl) (ws:List Int) (u:Int):Nat→Int
 | 0=>1
 | k+1=>if wgtK rs ws u k<at0 ws k∧hasB (fstS rs k) u=true then at0 ws k else wgtK rs ws u k
def chkW (rs:List Rl):Int × Int:=(wgh rs).2
theorem wgh_some {rs:List Rl} {st:St} {c:Int × Int} (h:wgh rs=(some st,c)):rs.length≤256∧∀ r∈rs,Ok r:=by
 unfold wgh at h
 by_cases h0:(allE rs).2≠0
 · rw [if_pos h0] at h;injection h with h1;cases h1
 · exact allE_ok (Classical.not_not.1 h0)
theorem wgh_none {rs:List Rl} {c:Int × Int} (h:wgh rs=(none,c)):c.2≠0:=by
 unfold wgh at h
 by_cases h0:(allE rs).2≠0
 · rw [if_pos h0] at h;injection h with _ h1;rw [←h1];exact h0
 · rw [if_neg h0] at h
   split at h
   · injection h with _ h1;rw [←h1];simp
   · split at h
     · injection h with _ h1;rw [←h1];simp
     · injection h with h1;cases h1
set_option maxHeartbeats 2000000 in
theorem wcheck_any (rv:Value) (rs:List Rl) (w:World) (hT:Tab w) (h:PsR w rv rs):Calls Tryz.prog 30 #[.agg #[rv]] w fun e w'=>e = .returned (.tuple #[.int .i64 (chkW rs).1,.int .i64 (chkW rs).2])∧Below w.heap.size w w':=by
 have HC:Hid (∀ ob,Calls Tryz.prog 48 #[.agg #[rv]] (w.alloc ob) fun e w'=>∃ p,e = .returned (.tuple #[.pointer p,.int .i64 (chkW rs).1,.int .i64 (chkW rs).2])∧Below w.heap.size w w'):=fun ob=>by
  have hg:Grown w (w.alloc ob):=(Grown.refl _).alloc ob
  refine (weighed_any rv rs (w.alloc ob) (hT.grown hg) (h.grown hg)).mono ?_
  rintro e w' ⟨hb,⟨c,h1,rfl⟩ | ⟨st,sp,h1,rfl,_⟩⟩
  · exact ⟨none,by unfold chkW;rw [h1],hg.below.trans (hb.mono hg.size)⟩
  · exact ⟨_,by unfold chkW;rw [h1],hg.below.trans (hb.mono hg.size)⟩
 generalize (chkW rs).1=c1 at HC ⊢
 generalize (chkW rs).2=c2 at HC ⊢
 obtain ⟨ra,rc,rfl,_,_⟩:=h
 go_enter Tryz.func30,Tryz.ntmps30
 go_wp2_with (go_at_call 48;refine (HC.out _).mono ?_;rintro e w' ⟨p,rfl,hb⟩)
 exact bodyPost_ret (v := .tuple #[.int .i64 c1,.int .i64 c2]) (by simp [results,Tryz.f30,go_sem]) rfl ⟨rfl,hb⟩
theorem touch_of:∀ (a b:List (Int × Int)) (u:Int),Good a→Good b→hasU a u→hasU b u→touchL a b=true
 | [],_,u,_,_,h,_=>by obtain ⟨x,hx,_⟩:=h;simp at hx
 | x::a,[],u,_,_,_,h=>by obtain ⟨y,hy,_⟩:=h;simp at hy
 | x::a,y::b,u,ha,hb,h1,h2=>by
  have ga:Good a:=⟨fun z hz=>ha.1 z (List.mem_cons_of_mem _ hz),(List.pairwise_cons.1 ha.2).2⟩
  have gb:Good b:=⟨fun z hz=>hb.1 z (List.mem_cons_of_mem _ hz),(List.pairwise_cons.1 hb.2).2⟩
  have aa:=(List.pairwise_cons.1 ha.2).1
  have bb:=(List.pairwise_cons.1 hb.2).1
  have wx:=(whole_iff _ _).1 (ha.1 x List.mem_cons_self)
  have wy:=(whole_iff _ _).1 (hb.1 y List.mem_cons_self)
  rw [touch_cons]
  obtain ⟨p,hp,hp1,hp2⟩:=h1
  obtain ⟨q,hq,hq1,hq2⟩:=h2
  by_cases c1:x.2<y.1
  · rw [if_pos c1]
    refine touch_of a (y::b) u ga hb ?_ ⟨q,hq,hq1,hq2⟩
    rcases List.mem_cons.1 hp with rfl | hp
    · exfalso
      rcases List.mem_cons.1 hq with rfl | hq
      · omega
      · have:=bb q hq;omega
    · exact ⟨p,hp,hp1,hp2⟩
  · rw [if_neg c1]
    by_cases c2:y.2<x.1
    · rw [if_pos c2]
      refine touch_of (x::a) b u ha gb ⟨p,hp,hp1,hp2⟩ ?_
      rcases List.mem_cons.1 hq with rfl | hq
      · exfalso
        rcases List.mem_cons.1 hp with rfl | hp
        · omega
        · have:=aa p hp;omega
      · exact ⟨q,hq,hq1,hq2⟩
    · rw [if_neg c2]
termination_by a b=>a.length+b.length
theorem bump_rs (w:Int) (st:St) (i:Nat):(bump w st i).bk.map Pb.r=st.bk.map Pb.r:=by
 unfold bump
 cases hb:st.bk[i]? with
 | none=>rfl
 | some b=>
  simp only
  split
  · simp only
    obtain ⟨hi,hbi⟩:=List.getElem?_eq_some_iff.1 hb
    rw [List.map_set]
    refine List.ext_getElem (by simp) fun j h1 h2 => ?_
    rw [List.getElem_set]
    split
    · rename_i e;subst e;simp [hbi]
    · rfl
  · rfl
theorem bumps_rs (w:Int):∀ (l:List Nat) (st:St),(l.foldl (bump w) st).bk.map Pb.r=st.bk.map Pb.r
 | [],_=>rfl
 | i::l,st=>by rw [List.foldl_cons,bumps_rs w l,bump_rs]
theorem bump_us (w:Int) (st:St) (i:Nat):(bump w st i).bk.map Pb.us=st.bk.map Pb.us:=by
 unfold bump
 cases hb:st.bk[i]? with
 | none=>rfl
 | some b=>
  simp only
  split
  · exact map_us_set hb
  · rfl
theorem bumps_us (w:Int):∀ (l:List Nat) (st:St),(l.foldl (bump w) st).bk.map Pb.us=st.bk.map Pb.us
 | [],_=>rfl
 | i::l,st=>by rw [List.foldl_cons,bumps_us w l,bump_us]
def wtAt (bk:List Pb) (j:Nat):Int:=(bk[j]?.map Pb.wt).getD 0
theorem bump_wt (w:Int) (st:St) (i j:Nat):wtAt (bump w st i).bk j=if j=i∧j<st.bk.length∧wtAt st.bk j<w then w else wtAt st.bk j:=by
 unfold bump
 cases hb:st.bk[i]? with
 | none=>
  rw [if_neg]
  rintro ⟨rfl,h,_⟩
  rw [List.getElem?_eq_getElem h] at hb
  cases hb
 | some b=>
  obtain ⟨hi,hbi⟩:=List.getElem?_eq_some_iff.1 hb
  simp only
  by_cases hlt:b.wt<w
  · rw [if_pos hlt]
    show wtAt (st.bk.set i _) j=_
    by_cases e:i=j
    · subst e
      have hw:wtAt st.bk i<w:=by unfold wtAt;rw [hb];simpa using hlt
      rw [if_pos ⟨rfl,hi,hw⟩]
      unfold wtAt
      simp [hi]
    · rw [if_neg (fun h=>e h.1.symm)]
      unfold wtAt
      simp [e]
  · rw [if_neg hlt,if_neg]
    rintro ⟨rfl,_,h⟩
    unfold wtAt at h
    rw [hb] at h
    simp at h
    omega
theorem bumps_wt (w:Int):∀ (l:List Nat) (st:St) (j:Nat),wtAt (l.foldl (bump w) st).bk j=if j∈l∧j<st.bk.length∧wtAt st.bk j<w then w else wtAt st.bk j
 | [],st,j=>by simp
 | i::l,st,j=>by
  have hlen:(bump w st i).bk.length=st.bk.length:=by simpa using congrArg List.length (bump_rs w st i)
  rw [List.foldl_cons,bumps_wt w l,hlen,bump_wt]
  by_cases e:j=i
  · subst e
    by_cases h:j<st.bk.length∧wtAt st.bk j<w
    · have h1:(if j=j∧j<st.bk.length∧wtAt st.bk j<w then w else wtAt st.bk j)=w:=if_pos ⟨rfl,h⟩
      rw [h1,if_neg (fun x=>by omega),if_pos ⟨List.mem_cons_self,h⟩]
    · have h1:(if j=j∧j<st.bk.length∧wtAt st.bk j<w then w else wtAt st.bk j)=wtAt st.bk j:=if_neg (fun x=>h x.2)
      rw [h1,if_neg (fun x=>h x.2),if_neg (fun x=>h x.2)]
  · have h1:(if j=i∧j<st.bk.length∧wtAt st.bk j<w then w else wtAt st.bk j)=wtAt st.bk j:=if_neg (fun x=>e x.1)
    rw [h1]
    by_cases h:j∈l∧j<st.bk.length∧wtAt st.bk j<w
    · rw [if_pos h,if_pos ⟨List.mem_cons_of_mem _ h.1,h.2⟩]
    · rw [if_neg h,if_neg]
      rintro ⟨h2,h3⟩
      rcases List.mem_cons.1 h2 with h2 | h2
      · exact e h2
      · exact h ⟨h2,h3⟩
theorem mem_lean {rs:List Rl} {bk:List Pb} {n j:Nat} : j∈leanL rs bk n↔j<bk.length∧touchL (fstS rs n) (usAt bk j)=true:=by
 unfold leanL
 rw [List.mem_filter,List.mem_range]
theorem lift_wt (rs:List Rl) (n:Nat) (st:St) (j:Nat):wtAt (liftP rs n st).bk j=if (j<st.bk.length∧touchL (fstS rs n) (usAt st.bk j)=true)∧wtAt st.bk j<at0 st.aq n then at0 st.aq n else wtAt st.bk j:=by
 unfold liftP
 rw [bumps_wt]
 simp only [mem_lean]
 by_cases h:(j<st.bk.length∧touchL (fstS rs n) (usAt st.bk j)=true)∧wtAt st.bk j<at0 st.aq n
 · rw [if_pos h,if_pos ⟨h.1,h.1.1,h.2⟩]
 · rw [if_neg h,if_neg (fun x=>h ⟨x.1,x.2.2⟩)]
theorem lift_us (rs:List Rl) (n:Nat) (st:St):(liftP rs n st).bk.map Pb.us=st.bk.map Pb.us:=bumps_us _ _ _
theorem lift_rs (rs:List Rl) (n:Nat) (st:St):(liftP rs n st).bk.map Pb.r=st.bk.map Pb.r:=bumps_rs _ _ _
theorem lift_len (rs:List Rl) (n:Nat) (st:St):(liftP rs n st).bk.length=st.bk.length:=by simpa using congrArg List.length (lift_us rs n st)
def Snd (rs:List Rl) (N:Nat) (st:St):Prop:=∀ i j,i<N→j<st.bk.length→touchL (fstS rs i) (usAt st.bk j)=true→at0 st.ws i≤wtAt st.bk j
theorem Snd.lift {rs:List Rl} {N n:Nat} {st:St} (h:Snd rs N st) (hn:n<st.ws.length) (h1:at0 st.ws n<at0 st.aq n):Snd rs N (liftP rs n st):=by
 intro i j hi hj ht
 rw [lift_len] at hj
 rw [usAt_eq (lift_us rs n st),←usAt_eq rfl] at ht
 rw [liftP_ws,at0_set hn,lift_wt]
 have h0:=h i j hi hj ht
 by_cases e:i=n
 · subst e
   rw [if_pos rfl]
   by_cases hc:wtAt st.bk j<at0 st.aq i
   · rw [if_pos ⟨⟨hj,ht⟩,hc⟩];omega
   · rw [if_neg (fun x=>hc x.2)];omega
 · rw [if_neg e]
   split <;> omega
theorem look_none {st:St} : ∀ {k n:Nat},look st k n=none→∀ i,n≤i→i<n+k→at0 st.aq i≤64∧at0 st.aq i≤at0 st.ws i
 | 0,n,_,i,h1,h2=>by omega
 | k+1,n,h,i,h1,h2=>by
  unfold look at h
  split at h
  · cases h
  · rename_i hc
    by_cases e:i=n
    · subst e;omega
    · exact look_none h i (by omega) (by omega)
theorem look_some {st:St} : ∀ {k n m:Nat},look st k n=some m→64<at0 st.aq m∨at0 st.ws m<at0 st.aq m
 | 0,n,m,h=>by simp [look] at h
 | k+1,n,m,h=>by
  unfold look at h
  split at h
  · rename_i hc;cases h;exact hc
  · exact look_some h
structure Run (rs:List Rl) (cs:List Int) (us:List (List (Int × Int))) (rk:List Nat) (st:St):Prop where
 ok:OkSt cs us st
 sn:Snd rs cs.length st
 rk:st.bk.map Pb.r=rk
theorem Run.lift {rs:List Rl} {cs:List Int} {us:List (List (Int × Int))} {rk:List Nat} {st:St} (h:Run rs cs us rk st) {n:Nat} (hn:n<cs.length) (h1:at0 st.ws n<at0 st.aq n) (h2:at0 st.aq n≤64):Run rs cs us rk (liftP rs n st):=
 ⟨h.ok.lift rs hn h1 h2,h.sn.lift (by rw [h.ok.wl];exact hn) h1,(lift_rs rs n st).trans h.rk⟩
theorem settle_sound {rs:List Rl} {cs:List Int} {us:List (List (Int × Int))} {rk:List Nat} {last:Nat} (hl:last<cs.length):∀ (F:Nat) (st:St),Run rs cs us rk st→64*cs.length<F+tws st.ws→Run rs cs us rk (settleP rs last F st).2∧((settleP rs last F st).1=true→look (settleP rs last F st).2 (last+1) 0=none)
 | 0,st,h,hF=>by
  exfalso
  have hb:=tws_bound st.ws (fun i hi=>(h.ok.wb i (by rw [←h.ok.wl];exact hi)).2)
  rw [h.ok.wl] at hb
  omega
 | F+1,st,h,hF=>by
  unfold settleP
  cases hk:look st (last+1) 0 with
  | none=>exact ⟨h,fun _=>hk⟩
  | some n=>
   simp only
   have hle:=look_le st _ _ _ hk
   have hs:=look_some hk
   by_cases h64:64<at0 st.aq n
   · rw [if_pos h64]
     exact ⟨h,fun e=>by cases e⟩
   · rw [if_neg h64]
     have h1:at0 st.ws n<at0 st.aq n:=hs.resolve_left h64
     have hn:n<cs.length:=by omega
     refine settle_sound hl F _ (h.lift hn h1 (by omega)) ?_
     rw [liftP_ws]
     have h3:=tws_set st.ws n (at0 st.aq n) (by rw [h.ok.wl];exact hn)
     have h4:=(h.ok.wb n hn).1
     omega
theorem settleAll_sound {rs:List Rl} {cs:List Int} {us:List (List (Int × Int))} {rk:List Nat} (hc:cs.length=rs.length):∀ (k n:Nat) (st:St),n+k=rs.length→Run rs cs us rk st→(k=0→0<n→look st n 0=none)→∀ R,settleAll rs k n st=(none,R)→Run rs cs us rk R∧(0<rs.length→look R rs.length 0=none)
 | 0,n,st,hn,h,h0,R,e=>by
  simp only [settleAll] at e
  cases e
  refine ⟨h,fun hp => ?_⟩
  have:=h0 rfl (by omega)
  rw [←hn,Nat.add_zero]
  exact this
 | k+1,n,st,hn,h,_,R,e=>by
  have hs:=settle_sound (last:=n) (by omega) (64*rs.length+1) st h (by rw [hc];omega)
  rw [settleAll] at e
  by_cases ht:(settleP rs n (64*rs.length+1) st).1=true
  · rw [if_pos ht] at e
    exact settleAll_sound hc k (n+1) _ (by omega) hs.1 (fun _ _=>hs.2 ht) R e
  · rw [if_neg ht] at e
    cases e
theorem run_start {rs:List Rl} (hO:∀ r∈rs,Ok r) (hn:rs.length≤256):Run rs (csI rs) ((bkI rs rs.length).map Pb.us) ((bkI rs rs.length).map Pb.r) (stK rs rs.length):=by
 refine ⟨okSt_start hO hn,fun i j hi hj _ => ?_,by rw [stK_all]⟩
 rw [csI_len] at hi
 rw [stK_all] at hj ⊢
 simp only at hj ⊢
 have h1:at0 (List.replicate rs.length 1) i=1:=by simp [at0,hi]
 have h2:wtAt (bkI rs rs.length) j=1:=by
  unfold wtAt
  rw [List.getElem?_eq_getElem hj]
  exact (bkI_mem (List.getElem_mem hj)).2.1
 omega
structure Fin (rs:List Rl) (st:St):Prop where
 n:rs.length≤256
 ok:∀ r∈rs,Ok r
 cp:∀ r∈rs,copB r=false
 run:Run rs (csI rs) ((bkI rs rs.length).map Pb.us) ((bkI rs rs.length).map Pb.r) st
 en:∀ i,i<rs.length→at0 st.aq i≤at0 st.ws i
theorem fstC_none:∀ {rs:List Rl} {k:Nat},fstC rs k=none→∀ r∈rs,copB r=false
 | [],_,_,r,h=>by cases h
 | q::l,k,h,r,hr=>by
  unfold fstC at h
  by_cases hq:copB q=true
  · rw [if_pos hq] at h;cases h
  · rw [if_neg hq] at h
    rcases List.mem_cons.1 hr with rfl | hr
    · simpa using hq
    · exact fstC_none h r hr
theorem wgh_chk {rs:List Rl} {st:St} {c:Int × Int} (h:wgh rs=(some st,c)):∀ r∈rs,chk r=0:=by
 unfold wgh at h
 by_cases h0:(allE rs).2≠0
 · rw [if_pos h0] at h;injection h with h1;cases h1
 · have h1:=Classical.not_not.1 h0
   unfold allE at h1
   by_cases hn:256<rs.length
   · rw [if_pos hn] at h1;cases h1
   · rw [if_neg hn] at h1
     exact fstR_ok h1
theorem wgh_fin {rs:List Rl} {st:St} {c:Int × Int} (h:wgh rs=(some st,c)):Fin rs st:=by
 have hok:=wgh_some h
 unfold wgh at h
 by_cases h0:(allE rs).2≠0
 · rw [if_pos h0] at h;injection h with h1;cases h1
 · rw [if_neg h0] at h
   cases hC:fstC rs 0 with
   | some n=>rw [hC] at h;injection h with h1;cases h1
   | none=>
    rw [hC] at h
    simp only at h
    obtain ⟨o,R,hR⟩:∃ o R,settleAll rs rs.length 0 (stK rs rs.length)=(o,R):=⟨_,_,rfl⟩
    rw [hR] at h
    cases o with
    | some n=>injection h with h1;cases h1
    | none=>
     injection h with h1 _
     injection h1 with h1
     subst h1
     have hs:=settleAll_sound (csI_len rs) rs.length 0 _ (by omega) (run_start hok.2 hok.1) (fun _ h=>by omega) R hR
     refine ⟨hok.1,hok.2,fstC_none hC,hs.1,fun i hi => ?_⟩
     exact (look_none (hs.2 (by omega)) i (Nat.zero_le _) (by omega)).2
theorem wgtK_mono {rs:List Rl} {ws:List Int} {u:Int} (k:Nat):wgtK rs ws u k≤wgtK rs ws u (k+1):=by
 rw [wgtK]
 split
 · rename_i h;omega
 · exact Int.le_refl _
theorem wgtK_one {rs:List Rl} {ws:List Int} {u:Int} : ∀ k,1≤wgtK rs ws u k
 | 0=>by simp [wgtK]
 | k+1=>Int.le_trans (wgtK_one k) (wgtK_mono k)
theorem wgtK_ge {rs:List Rl} {ws:List Int} {u:Int} : ∀ {n i:Nat},i<n→hasB (fstS rs i) u=true→at0 ws i≤wgtK rs ws u n
 | n+1,i,hi,h=>by
  by_cases e:i=n
  · subst e
    rw [wgtK]
    by_cases hc:wgtK rs ws u i<at0 ws i
    · rw [if_pos ⟨hc,h⟩];exact Int.le_refl _
    · rw [if_neg (fun x=>hc x.1)];omega
  · exact Int.le_trans (wgtK_ge (by omega) h) (wgtK_mono n)
theorem wgtK_is {rs:List Rl} {ws:List Int} {u:Int} : ∀ n,wgtK rs ws u n=1∨∃ i,i<n∧hasB (fstS rs i) u=true∧wgtK rs ws u n=at0 ws i
 | 0 => .inl rfl
 | n+1=>by
  rw [wgtK]
  by_cases hc:wgtK rs ws u n<at0 ws n∧hasB (fstS rs n) u=true
  · rw [if_pos hc];exact .inr ⟨n,by omega,hc.2,rfl⟩
  · rw [if_neg hc]
    rcases wgtK_is n with h | ⟨i,hi,h1,h2⟩
    · exact .inl h
    · exact .inr ⟨i,by omega,h1,h2⟩
theorem mayB_good {r:Rl} (hO:Ok r) {p:Pc} (hp:p∈backP r) (h2:p.k≠2):Good (mayB p):=by
 rcases pc_ok (hO.pc p (List.mem_of_mem_drop hp)) with ⟨h1,hw,_⟩ | ⟨h1,_⟩ | ⟨h1,_,_,_,hm⟩
 · unfold mayB
   rw [if_neg (by omega)]
   refine ⟨fun x hx => ?_,by simp⟩
   simp at hx
   subst hx
   rw [whole_iff]
   unfold wd at hw
   split at hw
   · omega
   · split at hw
     · omega
     · exact absurd rfl hw
 · exact absurd h1 h2
 · unfold mayB
   rw [if_pos h1]
   unfold matB at hm
   simp only [Bool.and_eq_true] at hm
   exact ((validB_iff _).1 hm.1).2
theorem pbs_mem2 {n:Nat} : ∀ {l:List Pc} {b:Pb},b∈pbs n l→∃ p∈l,p.k≠2∧b.us=mayB p
 | [],b,h=>by simp [pbs] at h
 | p::l,b,h=>by
  simp only [pbs] at h
  split at h
  · obtain ⟨q,h1,h2⟩:=pbs_mem2 h
    exact ⟨q,List.mem_cons_of_mem _ h1,h2⟩
  · rename_i h2
    rcases List.mem_cons.1 h with rfl | h
    · exact ⟨p,List.mem_cons_self,h2,rfl⟩
    · obtain ⟨q,h1,h2⟩:=pbs_mem2 h
      exact ⟨q,List.mem_cons_of_mem _ h1,h2⟩
theorem bkI_good {rs:List Rl} (hO:∀ r∈rs,Ok r):∀ {k:Nat} {b:Pb},b∈bkI rs k→Good b.us
 | 0,b,h=>by simp [bkI] at h
 | k+1,b,h=>by
  rw [bkI] at h
  rcases List.mem_append.1 h with h | h
  · exact bkI_good hO h
  · obtain ⟨p,h1,h2,h3⟩:=pbs_mem2 h
    cases hk:rs[k]? with
    | none=>rw [hk] at h1;simp at h1
    | some r=>
     rw [hk] at h1
     rw [h3]
     exact mayB_good (hO r (List.mem_of_getElem? hk)) (by simpa using h1) h2
theorem key_good {rs:List Rl} (hO:∀ r∈rs,Ok r) {i:Nat} (hi:i<rs.length):Good (fstS rs i):=by
 have h:=hO _ (List.getElem_mem hi)
 have h0:=h.k0
 have:=List.all_eq_true.1 h.kS _ (List.getElem_mem h0)
 unfold okS at this
 simp only [Bool.and_eq_true] at this
 rw [fstS_at hi,show keyAt rs[i].key 0=rs[i].key[0] by simp [keyAt,h0]]
 exact ((validB_iff _).1 this.1).2
theorem Fin.us_good {rs:List Rl} {st:St} (h:Fin rs st) {j:Nat} (hj:j<st.bk.length):Good (usAt st.bk j):=by
 have hu:=h.run.ok.uss
 have hl:st.bk.length=(bkI rs rs.length).length:=by simpa using congrArg List.length hu
 rw [usAt_eq hu]
 simp only [List.getElem?_map]
 rw [List.getElem?_eq_getElem (by omega)]
 exact bkI_good h.ok (List.getElem_mem _)
def gs (g:List (Int × Int)→Int):List Pb→Nat→Int
 | [],_=>0
 | b::l,n=>(if b.r=n then g b.us else 0)+gs g l n
theorem gs_append (g:List (Int × Int)→Int) (l k:List Pb) (n:Nat):gs g (l++k) n=gs g l n+gs g k n:=by
 induction l with
 | nil=>simp [gs]
 | cons b l ih=>simp only [List.cons_append,gs,ih];omega
theorem gs_le {g:List (Int × Int)→Int} : ∀ {l:List Pb},(∀ b∈l,g b.us≤b.wt)→∀ n,gs g l n≤wsum l n
 | [],_,n=>by simp [gs,wsum]
 | b::l,h,n=>by
  have h1:=gs_le (fun x hx=>h x (List.mem_cons_of_mem _ hx)) n
  have h2:=h b List.mem_cons_self
  simp only [gs,wsum]
  split <;> omega
theorem gs_same {g:List (Int × Int)→Int} : ∀ {l k:List Pb},l.map Pb.r=k.map Pb.r→l.map Pb.us=k.map Pb.us→∀ n,gs g l n=gs g k n
 | [],[],_,_,n=>rfl
 | [],_::_,h,_,n=>by simp at h
 | _::_,[],h,_,n=>by simp at h
 | b::l,c::k,h1,h2,n=>by
  simp only [List.map_cons,List.cons.injEq] at h1 h2
  simp only [gs,h1.1,h2.1,gs_same h1.2 h2.2 n]
theorem gs_pbs (g:List (Int × Int)→Int) (n i:Nat) (h:n≠i):∀ l:List Pc,gs g (pbs n l) i=0
 | []=>rfl
 | p::l=>by
  simp only [pbs]
  split
  · exact gs_pbs g n i h l
  · simp only [gs,gs_pbs g n i h l]
    rw [if_neg h]
    omega
theorem gs_bkI (g:List (Int × Int)→Int) (rs:List Rl) (i:Nat):∀ k,gs g (bkI rs k) i=if i<k then gs g (pbs i ((rs[i]?.map backP).getD [])) i else 0
 | 0=>by simp [bkI,gs]
 | k+1=>by
  rw [bkI,gs_append,gs_bkI g rs i k]
  by_cases h1:i<k
  · rw [if_pos h1,gs_pbs g k i (by omega),if_pos (by omega)];omega
  · rw [if_neg h1]
    by_cases h2:k=i
    · subst h2;rw [if_pos (by omega)];omega
    · rw [gs_pbs g k i h2,if_neg (by omega)];omega
def copN:List Pc→Int
 | []=>0
 | p::l=>(if p.k=2 then 1 else 0)+copN l
theorem pbs_cop (n:Nat):∀ l:List Pc,((pbs n l).length:Int)+copN l=l.length
 | []=>rfl
 | p::l=>by
  have ih:=pbs_cop n l
  simp only [pbs,copN]
  split
  · simp only [List.length_cons];omega
  · simp only [List.length_cons];omega
theorem csI_val {rs:List Rl} {i:Nat} (hi:i<rs.length):at0 (csI rs) i=2 - (rs[i].key.length:Int)+copN (backP rs[i]):=by
 rw [csI_at hi,wsum_bkI,if_pos hi,stK_all,List.getElem?_eq_getElem hi]
 have h4:at0 (rs.map askI) i=askI rs[i]:=by simp [at0,hi]
 have h5:=pbs_cop i (backP rs[i])
 simp only [Option.map_some,Option.getD_some]
 rw [h4]
 unfold askI
 omega
theorem Hid.mk' {p:Prop} (h:p):Hid p:=h
theorem OwnI.sl {w:World} {base:Nat} {v:Value} {l:List Int} (h:OwnI w base v l):∃ a c,v = .slice a l.length c:=by
 obtain ⟨a,c,e,_⟩:=h.ir
 exact ⟨a,c,e⟩
end Go.Proofs
