/-
  What is wanted besides (En Ep Fd Fe Gj Gq Lb Le Oa Pg Tu Uc2 Uj2 Uk2).
-/
import Derived.RangeFuncNested
import Derived.RangeFuncBound
import Derived.RangeFuncCalls
import Derived.RangeFuncLeaves
import Derived.Shelf.Abstract
import Derived.Shelf.RegionOpen
import Derived.WalkKit
import Derived.WalkSpells
import Derived.WalkLawsBesides
import Derived.OwnWalkIn
import Derived.TacticsInMore
import Derived.LoopNIn
import Derived.LoopIn
import Derived.BigQuiet
import Derived.RegionIn
import Derived.Deep.QuietTactic
import Derived.Deep.RegionWith
import Derived.Lib.OthersKept
import Derived.Maps.AppendAt
import Derived.Lib.SmallJoins
import Derived.Shelf.SlSortCmp.QuietGrown
import Derived.RangeFuncWrites
import Derived.Carry
import Derived.Test.YtaemgkemlifadaaGreatDoorVas
import Derived.Test.YtaemgkemlifadaaGreatDoorUas
import Derived.Test.YtaemgkemlifadaaGreatDoorUzs
import Derived.Test.YtaemgkemlifadaaGreatDoorTds
import Derived.Test.YtaemgkemlifadaaGreatDoorBqs
import Derived.Test.YtaemgkemlifadaaGreatDoorShelfs
import Derived.Test.YtaemgkemlifadaaGreatDoorVbs
import Derived.Test.YtaemgkemlifadaaGreatDoorVcs
import Derived.Test.YtaemgkemlifadaaGreatDoorVds
import Derived.Test.YtaemgkemlifadaaGreatDoorVes
import Derived.Test.YtaemgkemlifadaaGreatDoorWas
import Derived.Test.YtaemgkemlifadaaGreatDoorWbs
import Derived.Test.YtaemgkemlifadaaGreatDoorWcs
import Derived.Test.YtaemgkemlifadaaGreatDoorWds
import Derived.Test.YtaemgkemlifadaaGreatDoorWes
import Derived.Test.YtaemgkemlifadaaGreatDoorMgas
import Derived.Test.YtaemgkemlifadaaGreatDoorMgbs
import Derived.Test.YtaemgkemlifadaaGreatDoorMgcs
import Derived.Test.YtaemgkemlifadaaGreatDoorMgds
import Derived.Test.YtaemgkemlifadaaGreatDoorMas
import Derived.Test.YtaemgkemlifadaaGreatDoorMges
import Derived.Test.YtaemgkemlifadaaGreatDoorTes
import Derived.Test.YtaemgkemlifadaaGreatDoorMgfs
import Derived.Test.YtaemgkemlifadaaGreatDoorMggs
import Derived.Test.YtaemgkemlifadaaGreatDoorMghs
import Derived.Test.YtaemgkemlifadaaGreatDoorMgis
import Derived.Test.YtaemgkemlifadaaGreatDoorSfs
import Derived.Test.YtaemgkemlifadaaGreatDoorMgjs
import Derived.Test.YtaemgkemlifadaaGreatDoorXzs
import Derived.Test.YtaemgkemlifadaaGreatDoorXys
import Derived.Test.YtaemgkemlifadaaGreatDoorXws
import Derived.Test.YtaemgkemlifadaaGreatDoorMgks
import Derived.Test.YtaemgkemlifadaaGreatDoorRas
import Derived.Test.YtaemgkemlifadaaGreatDoorRbs
import Derived.Test.YtaemgkemlifadaaGreatDoorRcs
import Derived.Test.YtaemgkemlifadaaGreatDoorMgls
import Derived.Test.YtaemgkemlifadaaGreatDoorGrs
import Derived.Test.YtaemgkemlifadaaGreatDoorGis
import Derived.Test.YtaemgkemlifadaaGreatDoorGms
import Derived.Test.YtaemgkemlifadaaGreatDoorGfs
import Derived.Test.YtaemgkemlifadaaGreatDoorVxs
import Derived.Test.YtaemgkemlifadaaGreatDoorWxs
import Derived.Test.YtaemgkemlifadaaGreatDoorWfs
import Derived.Test.YtaemgkemlifadaaGreatDoorMgms
import Derived.Test.YtaemgkemlifadaaGreatDoorMgns
import Derived.Test.YtaemgkemlifadaaGreatDoorMgos
import Derived.Test.YtaemgkemlifadaaGreatDoorMgps
import Derived.Test.YtaemgkemlifadaaGreatDoorMgqs
import Derived.Test.YtaemgkemlifadaaGreatDoorTns
import Derived.Test.YtaemgkemlifadaaGreatDoorMgrs
import Derived.Test.YtaemgkemlifadaaGreatDoorMgss
import Derived.Test.YtaemgkemlifadaaGreatDoorXps
namespace Go.Proofs
open Go.RowKit Go.Shelf
set_option maxRecDepth 100000
attribute [local go_sem] Oper.semAt_some
attribute [local go_sem ↓] Go.wp_at_zero Go.wp_at_succ
theorem wgtK_bound {rs:List Rl} {ws:List Int} {u:Int} (h:∀ i,i<rs.length→1≤at0 ws i∧at0 ws i≤64):∀ k,k≤rs.length→1≤wgtK rs ws u k∧wgtK rs ws u k≤64
 | 0,_=>by simp [wgtK]
 | k+1,hk=>by
  have h1:=wgtK_bound (u:=u) h k (by omega)
  have h2:=h k (by omega)
  unfold wgtK
  split
  · exact h2
  · exact h1
theorem G3.next {rs:List Rl} {l0:List Int} {xs xf:List Stp} {d l df:List Int} (h:G3 rs l0 xs d l) (hf:G3 rs l0 xf df []) (hl:l≠[]):∃ hk:xs.length<xf.length,xf[xs.length]=stp rs d l:=by
 have hs:=h.snoc hl
 unfold G3 at h hf hs
 have hlt:xs.length<xf.length:=by
  rcases Nat.lt_or_ge xs.length xf.length with h1 | h1
  · exact h1
  · have:=go3_stay (rs:=rs) (l0:=l0) (k:=xf.length) (by rw [hf]) (xs.length - xf.length)
    rw [show xf.length+(xs.length - xf.length)=xs.length by omega,h,hf] at this
    injection this with _ e
    injection e with _ e
    exact absurd e hl
 refine ⟨hlt,?_⟩
 have hp:=go3_pre rs l0 (xs++[stp rs d l]).length (xf.length - (xs.length+1))
 rw [show (xs++[stp rs d l]).length+(xf.length - (xs.length+1))=xf.length by simp;omega,hf,hs] at hp
 obtain ⟨t,ht⟩:=hp
 have:xf=(xs++[stp rs d l])++t:=ht.symm
 subst this
 simp
def LRu.rl (r:LRu):Rl:=⟨r.bg,r.en,r.cu,r.a.2.map Prod.snd,r.k.2.map Prod.snd,r.p.2.map Prod.snd,r.q.2.map Prod.fst⟩
theorem plc_of {L:List Int} (hp:L.Pairwise (· < ·)) (h0:0∈L) {u:Int} (hu:0≤u):plc L u<L.length∧bAt L (plc L u)≤u∧∀ v∈L,v≤u→v≤bAt L (plc L u):=by
 have hpos:=List.length_pos_of_mem h0
 have hz:bAt L 0≤u:=by
  obtain ⟨q,hq,e⟩:=List.getElem_of_mem h0
  have h1:=rise_le hp (Nat.zero_le q) hq
  rw [bAt_lt hq,e] at h1
  omega
 have hs:=plcF_spec L u L.length 0 L.length (by omega) hpos (Nat.le_refl _) hz (.inl rfl)
 rw [←plc] at hs
 refine ⟨hs.1,hs.2.1,fun v hv hvu => ?_⟩
 obtain ⟨q,hq,e⟩:=List.getElem_of_mem hv
 have e':bAt L q=v:=by rw [bAt_lt hq,e]
 rcases Nat.lt_or_ge (plc L u) q with hlt | hge
 · rcases hs.2.2 with h3 | h3
   · omega
   · have:=rise_le hp (show plc L u+1≤q by omega) hq
     omega
 · rw [←e']
   exact rise_le hp hge hs.1
theorem wgtK_congr {rs:List Rl} {ws:List Int} {u v:Int} : ∀ n,(∀ i,i<n→hasB (fstS rs i) u=hasB (fstS rs i) v)→wgtK rs ws u n=wgtK rs ws v n
 | 0,_=>rfl
 | n+1,h=>by
  rw [wgtK,wgtK,wgtK_congr n fun i hi=>h i (by omega),h n (by omega)]
theorem Fx.weight {rs:List Rl} {L W:List Int} (h:Fx rs L W) (hB:∀ st,Fin rs st→WB rs st L W) (hS:Srt (0::bords rs) L) {st:St} (hw:wgh rs=(some st,0,0)) {u:Int} (hu:0≤u):bAt W (plc L u)=wK rs st u:=by
 have hF:=wgh_fin hw
 have hA:(allE rs).2=0:=by
  unfold wgh at hw
  by_cases h0:(allE rs).2≠0
  · rw [if_pos h0] at hw;injection hw with h1;cases h1
  · exact Classical.not_not.1 h0
 obtain ⟨st2,hw2,hle⟩:=h.fea hS hA hF.cp
 rw [hw] at hw2
 injection hw2 with hw2
 injection hw2 with hw2
 subst hw2
 have h0L:(0:Int)∈L:=(hS.m 0).2 (by simp)
 obtain ⟨hk,hb,hlast⟩:=plc_of hS.p h0L hu
 have hmem:∀ i,i<rs.length→∀ x∈fstS rs i,(x.1≤u∧u≤x.2↔x.1≤bAt L (plc L u)∧bAt L (plc L u)≤x.2):=fun i hi x hx=>by
  obtain ⟨m1,m2⟩:=fst_mem hi hx
  have m1:x.1∈L:=(hS.m _).2 (List.mem_cons_of_mem _ m1)
  have m2:x.2+1∈L:=(hS.m _).2 (List.mem_cons_of_mem _ m2)
  constructor
  · rintro ⟨a1,a2⟩
    exact ⟨hlast _ m1 a1,by omega⟩
  · rintro ⟨a1,a2⟩
    refine ⟨by omega,?_⟩
    by_cases hc:u≤x.2
    · exact hc
    · have:=hlast _ m2 (by omega)
      omega
 have hcong:wK rs st u=wK rs st (bAt L (plc L u)):=by
  unfold wK
  refine wgtK_congr _ fun i hi => ?_
  unfold hasB
  congr 1
  refine decide_eq_decide.2 ⟨?_,?_⟩
  · rintro ⟨x,hx,h1⟩
    exact ⟨x,hx,(hmem i hi x hx).1 h1⟩
  · rintro ⟨x,hx,h1⟩
    exact ⟨x,hx,(hmem i hi x hx).2 h1⟩
 have h1:=((hB st hF).b _ hk).2
 have h2:wK rs st u≤bAt W (plc L u):=by
  unfold wK
  rcases wgtK_is (rs:=rs) (ws:=st.ws) (u:=u) rs.length with e | ⟨i,hi,h1,e⟩
  · rw [e];exact (h.b _ hk).1
  · rw [e]
    unfold hasB at h1
    simp only [Bool.and_eq_true,decide_eq_true_eq] at h1
    obtain ⟨x,hx,h2⟩:=h1.2
    obtain ⟨b1,b2⟩:=(hmem i hi x hx).1 h2
    have m1:x.1∈L:=(hS.m _).2 (List.mem_cons_of_mem _ (fst_mem hi hx).1)
    have hpl:plc L x.1≤plc L u:=by
     rcases Nat.lt_or_ge (plc L u) (plc L x.1) with hlt | hlt
     · have:=rise_lt hS.p hlt (plc_lt x.1 (by omega))
       rw [plc_at hS.p m1] at this
       omega
     · exact hlt
    have h3:=h.f i hi x hx _ hpl hk b2
    have h4:=hle i hi
    have h5:=(h.b _ hk).1
    omega
 rw [hcong] at h2 ⊢
 omega
def sumW (rs:List Rl) (ws:List Int):List (Nat × Nat)→Int
 | []=>0
 | x::l=>wgtK rs ws (x.2:Int) rs.length+sumW rs ws l
theorem sumW_snoc (rs:List Rl) (ws:List Int) (l:List (Nat × Nat)) (x:Nat × Nat):sumW rs ws (l++[x])=sumW rs ws l+wgtK rs ws (x.2:Int) rs.length:=by
 induction l with
 | nil=>simp [sumW]
 | cons y l ih=>simp only [List.cons_append,sumW,ih];omega
theorem sumW_bound {rs:List Rl} {ws:List Int} (h:∀ i,i<rs.length→1≤at0 ws i∧at0 ws i≤64):∀ l,0≤sumW rs ws l∧sumW rs ws l≤64*l.length
 | []=>by simp [sumW]
 | x::l=>by
  have h1:=sumW_bound h l
  have h2:=wgtK_bound (u:=(x.2:Int)) h rs.length (Nat.le_refl _)
  simp only [sumW,List.length_cons]
  omega
def bndP (rs:List Rl) (s:ByteArray):Int:=match (wgh rs).1 with
 | none=>0
 | some st=>sumW rs st.ws (units s)
theorem sumW_at {rs:List Rl} {ws:List Int} {l:List (Nat × Nat)} {k:Nat} (hk:k<l.length):sumW rs ws (l.take (k+1))=sumW rs ws (l.take k)+wgtK rs ws ((l[k].2:Nat):Int) rs.length:=by
 rw [List.take_add_one,List.getElem?_eq_getElem hk]
 exact sumW_snoc rs ws _ _
set_option maxHeartbeats 8000000 in
theorem rbound_any (v:Value) (rs:List Rl) (s:ByteArray) (w:World) (h:PsR w v rs) (hs:s.size≤4398046511104):Calls Tryz.prog 16 #[.agg #[v],.string s] w fun e w'=>e = .returned (.int .i64 (bndP rs s))∧Below w.heap.size w w':=by
 have HC9:Hid (∀ V,Below w.heap.size w V→Calls Tryz.prog 17 #[.agg #[v]] V fun e w'=>e = .returned (.tuple #[.int .i64 (chkW rs).1,.int .i64 (chkW rs).2])∧Below V.heap.size V w'):=fun V hb=>rchkA v rs V (h.below hb (Nat.le_refl _))
 have HCu:Hid (∀ V,Calls Tryz.prog 15 #[.string s] V fun e w'=>∃ v,e = .returned v∧IR w' v (intsU (units s))∧Below V.heap.size V w'):=fun V=>rcut_any s V hs
 have HGR:Hid (∀ V,Grown w V→Below w.heap.size w V):=fun V hg=>hg.below
 have HPP:Hid (∀ V,Below w.heap.size w V→PsR V v rs):=fun V hb=>h.below hb (Nat.le_refl _)
 obtain ⟨ra,rc,hv,hx1,hx2⟩:=h
 subst hv
 clear hx1 hx2
 obtain ⟨n,hN⟩:∃ n,rs.length=n:=⟨_,rfl⟩
 rw [hN] at HC9 HPP ⊢
 clear hN
 cases hf:fea rs with
 | false=>
  have h2:=fea_chk hf
  have hz:bndP rs s=0:=by
   unfold fea at hf
   unfold bndP
   cases hw:(wgh rs).1 with
   | none=>rfl
   | some st=>rw [hw] at hf;cases hf
  rw [hz]
  generalize (chkW rs).1=C1 at HC9
  generalize (chkW rs).2=C2 at HC9 h2
  have h3:(C2 != 0)=true:=by simpa using h2
  clear HCu hz
  go_enter Tryz.func16,Tryz.ntmps16
  go_wp2_with (go_at_call 17;refine (HC9.out _ (HGR.out _ ((Grown.refl _).alloc _))).mono ?_;rintro e w1 ⟨rfl,hb1⟩)
  go_ret
  exact ⟨rfl,(((Grown.refl _).alloc _).below).trans (hb1.mono (by simp))⟩
 | true=>
  obtain ⟨st,hw⟩:=wgh_zero2 hf
  have hF:=wgh_fin hw
  rw [chkW_fea hf] at HC9
  have HL:Hid (∀ V,Below w.heap.size w V→Calls Tryz.prog 37 #[.slice ra n rc] V (LeA V rs)):=fun V hb=>leastA _ rs V (HPP.out V hb) (fea_all hw) hF.cp
  have hbp:bndP rs s=sumW rs st.ws (units s):=by unfold bndP;rw [hw]
  rw [hbp]
  have HWK:Hid (∀ L W,Srt (0::bords rs) L→Fx rs L W→(∀ st,Fin rs st→WB rs st L W)→∀ u:Nat,bAt W (plc L u)=wgtK rs st.ws u rs.length):=fun L W h1 h2 h3 u=>h2.weight h3 h1 hw (by omega)
  have HSB:Hid (∀ k,0≤sumW rs st.ws ((units s).take k)∧sumW rs st.ws ((units s).take k)≤64*((units s).take k).length):=fun k=>sumW_bound (fun i hi=>hF.ws_in hi) _
  have HWB2:Hid (∀ u:Nat,1≤wgtK rs st.ws u rs.length∧wgtK rs st.ws u rs.length≤64):=fun u=>hF.wK_in u
  obtain ⟨us,hus⟩:∃ us,units s=us:=⟨_,rfl⟩
  have hul:us.length≤s.size:=by rw [←hus];exact units_len s
  rw [hus] at HCu HSB ⊢
  clear hbp hF hus hw
  go_enter Tryz.func16,Tryz.ntmps16
  go_wp2_with fail
  refine (HC9.out _ (HGR.out _ ((Grown.refl _).alloc _))).mono ?_
  rintro e w1 ⟨rfl,hb1⟩
  have HB1:Hid (Below w.heap.size w w1):=(((Grown.refl _).alloc _).below).trans (hb1.mono (by simp))
  have c1:w1.cell? ⟨w.heap.size,0,none⟩=some (.slice ra n rc):=cell_below (by simp) hb1 (Nat.le_refl _)
  clear hb1
  go_wp2_with fail
  refine (HL.out _ HB1.out).mono ?_
  rintro e w3 ⟨lv,wv,⟨l1,l2,l3,rfl⟩,⟨q1,q2,q3,rfl⟩,rfl,hb3,hX⟩
  obtain ⟨L,W,hIL,hIW,hLn,hS,hFx,hWB⟩:=hX hf
  have hval:=HWK.out L W hS hFx hWB
  have hpos:0<L.length:=List.length_pos_of_mem ((hS.m 0).2 (by simp))
  have hlW:=hFx.e
  have HB3:Hid (Below w.heap.size w w3):=HB1.out.trans (hb3.mono HB1.out.size)
  have HIL:Hid (IR w3 (.slice l1 l2 l3) L):=hIL
  have HIW:Hid (IR w3 (.slice q1 q2 q3) W):=hIW
  have hqn:q2=L.length:=by obtain ⟨_,_,e,_⟩:=hIW;injection e with _ e2 _;omega
  subst hqn
  have HVAL:Hid (∀ u:Nat,bAt W (plc L u)=wgtK rs st.ws u rs.length):=hval
  have HLN:Hid (0<L.length∧L.length≤4500000∧W.length=L.length):=⟨hpos,hLn,hlW⟩
  clear hIL hIW hS hFx hWB hval hX hb3 HWK hLn HL HC9 c1 hlW hpos
  go_wp2_with fail
  obtain ⟨w4,hw4⟩:∃ w4,w4=w3.alloc (.cells #[.slice l1 l2 l3,.slice q1 L.length q3] 93):=⟨_,rfl⟩
  have HG4:Hid (Grown w3 w4):=by rw [hw4];exact (Grown.refl _).alloc _
  obtain ⟨sp,hsp⟩:∃ sp,w3.heap.size=sp:=⟨_,rfl⟩
  have d1:w4.cell? ⟨sp,0,none⟩=some (.slice l1 l2 l3):=by rw [hw4,←hsp];simp
  have d2:w4.cell? ⟨sp,1,none⟩=some (.slice q1 L.length q3):=by rw [hw4,←hsp];simp
  rw [←hw4,hsp]
  clear hw4 hsp
  refine (HCu.out _).mono ?_
  rintro e w5 ⟨uv,rfl,hIU,hb5⟩
  have e1:=cell_below d1 hb5 (Nat.le_refl _)
  have e2:=cell_below d2 hb5 (Nat.le_refl _)
  have HB5:Hid (Below w.heap.size w w5):=(HB3.out.trans (HG4.out.below.mono HB3.out.size)).trans (hb5.mono (by have:=HB3.out.size;have:=HG4.out.size;omega))
  have HIL5:Hid (IR w5 (.slice l1 l2 l3) L):=(HIL.out.grown HG4.out).below hb5 (Nat.le_refl _)
  have HIW5:Hid (IR w5 (.slice q1 L.length q3) W):=(HIW.out.grown HG4.out).below hb5 (Nat.le_refl _)
  have HIU:Hid (IR w5 uv (intsU us)):=hIU
  obtain ⟨u1,u3,huv,hx1,hx2⟩:=hIU
  subst huv
  clear hx1 hx2 hb5 d1 d2 HIL HIW HG4
  obtain ⟨M,hM⟩:∃ M,(intsU us).length=M:=⟨_,rfl⟩
  have HM:Hid (us.length=M):=(by rw [←hM];simp [intsU]:us.length=M)
  have hMI:(M:Int)≤4398046511104:=by have:=HM.out;omega
  rw [hM] at HIU ⊢
  clear hM hul
  go_wp2
  go_loopw [10,11] (fun v8 v9 wr=>∃ k:Nat,v8 = .int .i64 (sumW rs st.ws (us.take k))∧v9 = .int .i64 k∧k≤M∧Grown w5 wr) (fun _ v9 _=>M - (intOf v9).toNat)
  case atStart=>exact ⟨0,rfl,rfl,by omega,by (repeat (first | exact Grown.refl _ | refine Grown.alloc ?_ _ | refine Grown.drew ?_ | refine Grown.drewN ?_ _ | refine Grown.quiet ?_ _ _))⟩
  case round=>
   obtain ⟨k,rfl,rfl,hk,hG⟩:=hrel
   have hk0:(0:Int)≤(k:Int):=by omega
   by_cases hlt:k<M
   · have hltI:(k:Int)<(M:Int):=by omega
     have hku:k<us.length:=by rw [HM.out];exact hlt
     have hkI:k<(intsU us).length:=by simp [intsU];exact hku
     obtain ⟨ug,uo,hua,cu⟩:=ir_cell (HIU.out.grown hG) (j:=k) hkI
     have hbu:bAt (intsU us) k=((us[k].2:Nat):Int):=by simp [bAt,intsU,hku]
     rw [hbu] at cu
     subst hua
     obtain ⟨u,hu⟩:∃ u,us[k].2=u:=⟨_,rfl⟩
     have hsum:=sumW_at (rs:=rs) (ws:=st.ws) hku
     rw [hu] at cu hsum
     have hp:=plc_lt (l:=L) (u:Int) HLN.out.1
     obtain ⟨qg,qo,hq,cq⟩:=ir_cell (HIW5.out.grown hG) (j:=plc L u) (by have:=HLN.out.2.2;omega)
     subst hq
     rw [HVAL.out u] at cq
     have hW1:=HWB2.out u
     have hS1:=HSB.out k
     have hS2:((us.take k).length:Int)≤M:=by simp;omega
     have HC:Hid (∀ m os,Calls Tryz.prog 38 #[.slice l1 l2 l3,.int .i64 u] (Go.Sort.grow (wr.drewN m) os) fun e w'=>e = .returned (.int .i64 (plc L u))∧Grown (Go.Sort.grow (wr.drewN m) os) w'):=fun m os=>(place_any _ L u _ ((HIL5.out.grown hG).grown ((Grown.refl wr).quiet m os)) (by have:=HLN.out.2.1;omega)).mono fun e w' ⟨h1,h2⟩=>⟨h1,by rw [h2];exact Grown.refl _⟩
     generalize plc L u=pl at HC hp cq
     have hpI:(pl:Int)<(L.length:Int):=by omega
     have hp0:(0:Int)≤(pl:Int):=by omega
     have HSM:Hid (sumW rs st.ws (us.take (k+1))=sumW rs st.ws (us.take k)+wgtK rs st.ws u rs.length):=hsum
     generalize wgtK rs st.ws u rs.length=x at cq hW1 HSM
     generalize sumW rs st.ws (us.take k)=S at hS1 HSM
     have hSx:0≤S+x∧S+x≤9000000000000000000:=by omega
     have d0:=fun m os=>((Grown.refl wr).quiet m os).cellv cq
     have d1:=fun m os=>((Grown.refl wr).quiet m os).cellv (hG.cellv e1)
     have d2:=fun m os=>((Grown.refl wr).quiet m os).cellv (hG.cellv e2)
     have d3:=fun m os=>((Grown.refl wr).quiet m os).cellv cu
     clear hsum hbu
     go_wp2
     refine wp_region_quiet_grown mixed (by kernel_rfl) ?_
     repeat (go_big_quiet_step ((go_at_call 38;exact grown_of (HC.out _ _))))
     refine wpQuiet_nil ?_
     intro _ hw'
     obtain ⟨⟨nq,osq⟩,hw''⟩:=hw'
     subst hw''
     go_wp2
     exact ⟨⟨k+1,by rw [HSM.out],by go_num,by omega,hG.trans ((Grown.refl wr).quiet _ _)⟩,by simp [intOf];omega⟩
   · have hge:¬ (k:Int)<(M:Int):=by omega
     have hkM:k=us.length:=by have:=HM.out;omega
     have HRR:Hid (sumW rs st.ws (us.take k)=sumW rs st.ws us):=by rw [hkM,List.take_length];exact rfl
     clear hkM
     go_wp2
     go_ret
     exact ⟨by rw [HRR.out];rfl,HB5.out.trans (hG.below.mono HB5.out.size)⟩
theorem sumW_wS (rs:List Rl) (st:St):∀ l:List (Nat × Nat),sumW rs st.ws l=wS rs st (intsU l)
 | []=>rfl
 | x::l=>by
  rw [sumW,sumW_wS rs st l]
  rfl
structure FitN (rs:List Rl) (st:St) (l0:List Int) (pre:List Stp) (x:Stp) (dn lf:List Int):Prop where
 d:x.d=(dn.length:Int)
 l:x.l=(lf.length:Int)
 l1:1≤(lf.length:Int)
 m:(pre.length:Int)+1≤wS rs st l0
 nx:∃ dn' lf',G3 rs l0 (pre++[x]) dn' lf'∧(dn'.length:Int)=dn.length+x.a∧(lf'.length:Int)=lf.length+(x.b - x.t)
 k:(x.r = -1∧x.t=1∧x.a=1∧x.b=0)∨∃ (i:Nat) (hi:i<rs.length),x.r=i∧x.t=rs[i].key.length∧x.a=rs[i].cu∧x.a+x.b=rs[i].res.length∧1≤x.t∧x.t≤lf.length∧0≤x.a∧0≤x.b
theorem backP_length {r:Rl} (h:Ok r):(r.cu:Int)+(backP r).length=r.res.length:=by
 have h1:=h.c0
 have h2:=h.c1
 simp only [backP,List.length_drop]
 omega
theorem fit_next {rs:List Rl} {st:St} (hF:Fin rs st) (hc:∀ r∈rs,chk r=0) {l0 df dn lf:List Int} {xf pre:List Stp} {x:Stp} (h:G3 rs l0 pre dn lf) (hf:G3 rs l0 xf df []) (hp:pre++[x] <+: xf):FitN rs st l0 pre x dn lf:=by
 have hl:lf≠[]:=fun e=>by
  subst e
  have:=(h.one hf).1
  subst this
  have h1:=hp.length_le
  simp at h1
  omega
 obtain ⟨hk,hx⟩:=h.next hf hl
 have hx2:xf[pre.length]=x:=by
  obtain ⟨t,rfl⟩:=hp
  simp
 rw [hx] at hx2
 subst hx2
 have hl0:0<lf.length:=List.length_pos_iff.2 hl
 have hs:=h.snoc hl
 have hle:=(hs.lens hF hc).1
 simp only [List.length_append,List.length_singleton] at hle
 rcases nextS_ok hc dn hl0 with ⟨h1,_⟩ | ⟨i,hi,h1,h2,h3,_⟩
 · obtain ⟨e1,e2,e3⟩:=stp_none h1
   rw [e2,e3] at hs
   refine ⟨by rw [e1],by rw [e1],by omega,by omega,⟨_,_,hs,?_,?_⟩,.inl (by rw [e1];exact ⟨rfl,rfl,rfl,rfl⟩)⟩
   · rw [e1,List.length_append,List.length_take]
     simp only
     omega
   · rw [e1,List.length_drop]
     simp only
     omega
 · obtain ⟨e1,e2,e3⟩:=stp_rule hi h1
   have hO:=chk_ok (hc _ (List.getElem_mem hi))
   have hb:=backP_length hO
   have q0:=hO.c0
   have q1:=hO.c1
   have q2:=hO.k0
   have ho:(outs rs[i] (lf.take rs[i].key.length)).length=rs[i].res.length:=by simp [outs]
   rw [e2,e3] at hs
   refine ⟨by rw [e1],by rw [e1],by omega,by omega,⟨_,_,hs,?_,?_⟩,.inr ⟨i,hi,by rw [e1],by rw [e1],by rw [e1],by rw [e1];exact hb,by rw [e1];simp only;omega,by rw [e1];simp only;omega,by rw [e1];exact q0,by rw [e1];simp only;omega⟩⟩
   · rw [e1,List.length_append,List.length_take,ho]
     simp only
     omega
   · rw [e1,List.length_append,List.length_drop,List.length_drop,ho]
     simp only
     omega
def plainB (o:Oper):Bool:=match o.op with
 | .move _ | .assign _ | .pick .. | .load .. | .fieldAddr .. | .indexAddr .. | .binOp .. | .unOp .. => true
 | .call c=>(match c.callee with | .builtin .len=>true | _=>false)
 | _=>false
theorem and_no {α:Type} {r:Result α} {g:α→Value} {w':World} {f:FuncId} {args:Array Value} : (r.andThen fun a w'=>Result.ok (Next.value (g a)) w') ≠ .ok (.enter f args) w':=by
 cases r <;> simp [Result.andThen]
theorem plain_defer {o:Oper} (h:plainB o=true):∀ c,o.op ≠ .defer c:=fun c e=>by
 simp [plainB,e] at h
theorem plain_about {P:Program} {o:Oper} (h:plainB o=true) (w:World) (ρ:Operand→Value):o.about P w ρ=none:=by
 unfold Oper.about
 unfold plainB at h
 split
 · rename_i c hc
   rw [hc] at h
   simp only at h
   split at h
   · rename_i hb
     simp [resolve,hb,Target.leads]
   · cases h
 · rfl
theorem plain_enter {P:Program} {o:Oper} (h:plainB o=true) (w w':World) (ρ:Operand→Value) (f:FuncId) (args:Array Value):(execOp ρ o).run P w ≠ .ok (.enter f args) w':=by
 unfold plainB at h
 unfold execOp
 cases ho:o.op <;> rw [ho] at h <;> first | (cases h;done) | skip
 case call c=>
  simp only at h
  split at h
  · rename_i hb
    simp only [resolve,hb,Sem.run_bind,Sem.run_pure,Result.andThen_ok,invoke,builtin]
    exact and_no (g:=id)
  · cases h
 all_goals simp only [Sem.run_bind,Sem.run_pure]
 all_goals first | exact and_no | exact and_no (g:=id) | simp
theorem wpIn_of_quiet {F:Fence} {n:Nat} {P:Program} {C:World→Prop} {o:Oper} (hp:plainB o=true) {a:Act} {K:Act→Prop} {K':Act→World→Prop} {Q':Exit→Act→World→Prop} {w:World} (hw:C w) (h:∀ a w',C w'→K a→K' a w') (hh:o.quiet P a C K):o.wpIn F n P a w K' Q':=by
 obtain ⟨v,h1,h2⟩:=hh
 have h3:=h1 w hw
 have hne:=plain_enter (P:=P) hp w
 unfold Oper.quietAt at h3
 refine ⟨fun f hf=>(by rw [plain_about hp] at hf;cases hf),?_⟩
 have e:o.semAt F.round a.eval=execOp a.eval o:=by
  cases F.round with
  | none=>rfl
  | some l=>exact Oper.semAt_some l _ _ (plain_defer hp)
 rw [e]
 have hne2:=fun w' f args=>hne w' a.eval f args
 generalize (execOp a.eval o).run P w=r at *
 cases r with
 | ok n w'=>
  cases n <;> simp only [Oper.quietUpon] at h3 <;> simp only [Oper.uponIn]
  case value u=>
   obtain ⟨e1,e2⟩:=h3
   rw [e1,e2]
   exact h _ _ hw h2
  case skip=>
   obtain ⟨e1,e2⟩:=h3
   rw [e1,←e2]
   exact h _ _ hw h2
  case enter f args=>exact absurd rfl (hne2 w' f args)
 | halt x w'=>simp only [Oper.quietUpon] at h3
theorem wpOpIn_of_qOp {F:Fence} {n:Nat} {P:Program} {ops:Array Oper} {C:World→Prop} (hp:∀ (i:Nat) (o:Oper),ops[i]? = some o→plainB o=true) {i:Nat} {a:Act} {K:Act→Prop} {K':Act→World→Prop} {Q':Exit→Act→World→Prop} {w:World} (hC:C w) (h:∀ a w',C w'→K a→K' a w') (hh:qOp P ops C i K a):wpOpIn F n P ops Q' i K' a w:=by
 unfold qOp at hh
 unfold wpOpIn
 split
 · rename_i ho;simp only [ho] at hh;exact h _ _ hC hh
 · rename_i o ho
   simp only [ho] at hh
   split
   · rename_i hw;simp only [hw,if_true] at hh;exact wpIn_of_quiet (hp i o ho) hC h hh
   · rename_i hw;simp only [hw] at hh;exact ⟨fun f hf=>(by rw [plain_about (hp i o ho)] at hf;cases hf),h _ _ hC hh⟩
theorem wpAnyIn_of_q {F:Fence} {n:Nat} {P:Program} {md:Region.Mode} {ops:Array Oper} {C:World→Prop} (hp:∀ (i:Nat) (o:Oper),ops[i]? = some o→plainB o=true) {Q:Act→Prop} {Q':Exit→Act→World→Prop} (hQ:∀ a w,C w→Q a→Q' .normal a w):∀ (fuel:Nat) (listed:Array Bool) (a:Act) (w:World),C w →
 wpAnyQ P md ops C Q fuel listed a→wpAnyIn F n P md ops Q' fuel listed a w
 | 0,_,_,_,hw,h=>⟨h.1,hQ _ _ hw h.2⟩
 | fuel+1,_,_,_,hw,h=>⟨fun h0=>hQ _ _ hw (h.1 h0),fun i hi=>wpOpIn_of_qOp hp hw (fun a' w' hw'=>wpAnyIn_of_q hp hQ fuel _ a' w' hw') (h.2 i hi)⟩
theorem wpIn_region_plain {F:Fence} {n:Nat} {P:Program} {id:Nat} {Q:Exit→Act→World→Prop} {a:Act} {w:World} {l:List Oper} (hm:P.follows .mixedOrders=true) (hB:Region.lexB .any l.toArray=true) (hp:l.all plainB=true)
 (h:wpQuiet P l.toArray (fun w'=>∃ p:GrownBy,w'=Go.Sort.grow (w.drewN p.n) p.os) (fun a'=>∀ w',(∃ p:GrownBy,w'=Go.Sort.grow (w.drewN p.n) p.os)→Q .normal a' w') l a):(Code.region id l.toArray true).wpIn F n P Q a w:=by
 simp only [Region.lexB,Bool.and_eq_true] at hB
 refine wpIn_region_any hm (wpAnyIn_of_q (C:=fun w'=>∃ p:GrownBy,w'=Go.Sort.grow (w.drewN p.n) p.os) (fun i o ho=>List.all_eq_true.1 hp o (List.mem_of_getElem? (by simpa using ho))) (Q:=fun a'=>∀ w',(∃ p:GrownBy,w'=Go.Sort.grow (w.drewN p.n) p.os)→Q .normal a' w') (fun _ w' hw' h=>h w' hw') _ _ _ _ ⟨⟨1,#[]⟩,by rw [Go.Sort.grow_empty];rfl⟩ ?_)
 have:=wpAnyQ_lex (C:=fun w'=>∃ p:GrownBy,w'=Go.Sort.grow (w.drewN p.n) p.os) (md := .any) hB.1 l 0 (Array.replicate l.toArray.size false) a (by simp) (by simpa using hB.2) (by simpa using h)
 simpa using this
theorem wpOpIn_step {F:Fence} {n:Nat} {P:Program} {ops:Array Oper} {Q:Exit→Act→World→Prop} {i:Nat} {o:Oper} {a:Act} {w:World} {K:Act→World→Prop} (ho:ops[i]? = some o) (h:∀ K':Act→World→Prop,(∀ a w,K a w→K' a w)→if Region.wanted o (yielded ops a.tmps)=true then o.wpIn F n P a w K' Q else (∀ f,o.about P w a.eval=some f→F.fn f)∧K' (a.put o.dst undef) w):wpOpIn F n P ops Q i K a w:=by
 unfold wpOpIn
 simp only [ho]
 exact h K fun _ _ h=>h
def IStepI (F:Fence) (n:Nat) (P:Program) (ops:Array Oper) (Q:Exit→Act→World→Prop) (J:(Nat→Bool)→(Nat→Value)→World→Prop) (a0:Act) (i:Nat) (o:Oper):Prop:=
 ∀ (a:Act) (w:World) (p:Nat→Bool) (vs:Nat→Value),J p vs w→(∀ j,(o.after.any fun e=>Region.binds .any e && e.on == j)=true→p j=true)→p i=false→(∀ (j:Nat) (oj:Oper) (d:Tmp),p j=true→ops[j]? = some oj→oj.dst=some d→a.tmps.getD d undef=vs j)→(∀ d,(ops.all fun p => !decide (p.dst=some d))=true→a.tmps.getD d undef=a0.tmps.getD d undef) →
  ∀ K:Act→World→Prop,(∀ v w',J (fun j=>p j || j == i) (fun j=>if j=i then v else vs j) w'→K (a.put o.dst v) w')→if Region.wanted o (yielded ops a.tmps)=true then o.wpIn F n P a w K Q else (∀ f,o.about P w a.eval=some f→F.fn f)∧K (a.put o.dst undef) w
def IStepsI (F:Fence) (n:Nat) (P:Program) (ops:Array Oper) (Q:Exit→Act→World→Prop) (J:(Nat→Bool)→(Nat→Value)→World→Prop) (a0:Act):List Oper→Nat→Prop
 | [],_=>True
 | o::l,k=>IStepI F n P ops Q J a0 k o∧IStepsI F n P ops Q J a0 l (k+1)
theorem istepsI_at {F:Fence} {n:Nat} {P:Program} {ops:Array Oper} {Q:Exit→Act→World→Prop} {J:(Nat→Bool)→(Nat→Value)→World→Prop} {a0:Act} : ∀ (l:List Oper) (k:Nat),IStepsI F n P ops Q J a0 l k→∀ (i:Nat) (o:Oper),l[i]? = some o→IStepI F n P ops Q J a0 (k+i) o
 | [],_,_,i,o,h=>by simp at h
 | x::l,k,hs,i,o,h=>by
  cases i with
  | zero=>simp at h;subst h;exact hs.1
  | succ i=>
   have:=istepsI_at l (k+1) hs.2 i o (by simpa using h)
   rwa [show k+1+i=k+(i+1) by omega] at this
theorem wpAnyIn_inv {F:Fence} {n:Nat} {P:Program} {ops:Array Oper} {Q:Exit→Act→World→Prop} {J:(Nat→Bool)→(Nat→Value)→World→Prop} {a0:Act} (hd:Once ops) (he:Early ops) (hsz:∀ (i:Nat) (o:Oper) (d:Tmp),ops[i]? = some o→o.dst=some d→d<a0.tmps.size)
 (hst:∀ (i:Nat) (o:Oper),ops[i]? = some o→IStepI F n P ops Q J a0 i o) (hfin:∀ vs w,J (fun j=>decide (j<ops.size)) vs w→Q .normal (putL vs ops.toList 0 a0) w) :
 ∀ (fuel:Nat) (listed:Array Bool) (w:World) (l m:List Nat) (vs:Nat→Value),m.length=fuel→(l++m).Perm (List.range ops.size)→(∀ i,i<ops.size→listed.getD i true=decide (i∈l))→listed.size=ops.size→J (fun j=>decide (j∈l)) vs w →
  wpAnyIn F n P .any ops Q fuel listed (l.foldl (put1 ops vs) a0) w:=by
 have fin:∀ (l m:List Nat) (vs:Nat→Value) (w:World),m=[]→(l++m).Perm (List.range ops.size)→J (fun j=>decide (j∈l)) vs w→Q .normal (l.foldl (put1 ops vs) a0) w:=by
  intro l m vs w hm hp hj
  subst hm
  rw [List.append_nil] at hp
  rw [hp.foldl_eq' (fun x _ y _ z=>put1_comm hd x y z)]
  have:List.range ops.size=List.range' 0 ops.toList.length:=by rw [Array.length_toList,List.range_eq_range']
  rw [this,fold_range vs ops ops.toList 0 a0 (fun j=>by simp)]
  refine hfin vs w ?_
  have e:(fun j=>decide (j<ops.size))=fun j=>decide (j∈l):=by
   funext j
   rw [decide_eq_decide,hp.mem_iff,List.mem_range]
  rw [e]
  exact hj
 have nodup:∀ (l m:List Nat),(l++m).Perm (List.range ops.size)→(l++m).Nodup:=fun l m hp=>hp.nodup_iff.2 List.nodup_range
 have stuck:∀ (l m:List Nat) (listed:Array Bool),(l++m).Perm (List.range ops.size)→(∀ i,i<ops.size→listed.getD i true=decide (i∈l))→listed.size=ops.size→Region.ready .any ops listed=[]→m=[]:=by
  intro l m listed hp hl hs hr
  have all:∀ i,i<ops.size→i∈l:=by
   intro i
   induction i using Nat.strongRecOn with
   | _ i ih=>
    intro hi
    refine Classical.byContradiction fun hn => ?_
    have hmem:i∈Region.ready .any ops listed:=by
     rw [mem_ready]
     refine ⟨by rw [hl i hi];simp [hn],ops[i],by simp [hi],fun e hme hb => ?_⟩
     have hlt:=he i ops[i] (by simp [hi]) e hme hb
     have h1:=ih e.on hlt (by omega)
     have h2:=hl e.on (by omega)
     rw [decide_eq_true h1] at h2
     have h3:e.on<listed.size:=by omega
     simpa [h3] using h2
    rw [hr] at hmem
    cases hmem
  cases m with
  | nil=>rfl
  | cons x m=>
   have hx:x<ops.size:=by
    have:x∈List.range ops.size:=hp.mem_iff.1 (by simp)
    simpa using this
   have h1:=all x hx
   have h2:=nodup l (x::m) hp
   rw [List.nodup_append] at h2
   exact absurd rfl (h2.2.2 x h1 x (by simp))
 intro fuel
 induction fuel with
 | zero=>
  intro listed w l m vs hm hp hl hs hj
  have hm0:=List.eq_nil_of_length_eq_zero hm
  refine ⟨?_,fin l m vs w hm0 hp hj⟩
  rw [List.eq_nil_iff_forall_not_mem]
  intro j hjr
  rw [mem_ready] at hjr
  obtain ⟨h1,o,ho,_⟩:=hjr
  have hlt:=(Array.getElem?_eq_some_iff.1 ho).1
  rw [hl j hlt] at h1
  subst hm0
  rw [List.append_nil] at hp
  exact absurd (hp.mem_iff.2 (by simpa using hlt)) (of_decide_eq_false h1)
 | succ fuel ih=>
  intro listed w l m vs hm hp hl hs hj
  refine ⟨fun hr=>fin l m vs w (stuck l m listed hp hl hs hr) hp hj,fun i hir => ?_⟩
  rw [mem_ready] at hir
  obtain ⟨h1,o,ho,hall⟩:=hir
  have hlt:=(Array.getElem?_eq_some_iff.1 ho).1
  rw [hl i hlt] at h1
  have hil:i ∉ l:=of_decide_eq_false h1
  have him:i∈m:=by
   have:i∈l++m:=hp.mem_iff.2 (by simpa using hlt)
   rw [List.mem_append] at this
   exact this.resolve_left hil
  refine wpOpIn_step ho (fun K hK=>hst i o ho _ w (fun j=>decide (j∈l)) vs hj ?_ (decide_eq_false hil) ?_ ?_ K (fun v w' hv=>hK _ _ ?_))
  · intro j hja
    rw [Array.any_eq_true'] at hja
    obtain ⟨e,hme,h2⟩:=hja
    simp only [Bool.and_eq_true,beq_iff_eq] at h2
    obtain ⟨hb,rfl⟩:=h2
    have h3:=hall e hme hb
    have hlt2:=he i o ho e hme hb
    have h4:=hl e.on (by omega)
    have h5:e.on<listed.size:=by omega
    have h6:listed.getD e.on true=true:=by simpa [h5] using h3
    rw [h6] at h4
    exact h4.symm
  · intro j oj d hjl hoj hod
    exact fold_get hd (of_decide_eq_true hjl) hoj hod (hsz j oj d hoj hod)
  · intro d hfree
    refine fold_other (fun k p hp2 h2 => ?_) a0
    rw [Array.all_eq_true_iff_forall_mem] at hfree
    have:=hfree p (Array.mem_of_getElem? hp2)
    simp [h2] at this
  · let us:Nat→Value:=fun j=>if j=i then v else vs j
    have hus:∀ j∈l,us j=vs j:=fun j hjl=>by
     show (if j=i then v else vs j)=vs j
     rw [if_neg (fun e=>hil (by rw [←e];exact hjl))]
    have hui:us i=v:=by show (if i=i then v else vs i)=v;rw [if_pos rfl]
    have e1:(l.foldl (put1 ops vs) a0).put o.dst v=(l++[i]).foldl (put1 ops us) a0:=by
     rw [List.foldl_append,fold_congr hus]
     show _=put1 ops us _ i
     unfold put1
     rw [ho,hui]
    rw [e1]
    refine ih (listed.setIfInBounds i true) w' (l++[i]) (m.erase i) us (by rw [List.length_erase_of_mem him];omega) ?_ ?_ (by simpa using hs) ?_
    · rw [List.append_assoc]
      exact (List.Perm.append_left l (List.perm_cons_erase him).symm).trans hp
    · intro j hjn
      by_cases hji:j=i
      · subst hji
        have h5:j<listed.size:=by omega
        simp [h5]
      · have h5:j<listed.size:=by omega
        have:=hl j hjn
        simp only [Array.getD_eq_getD_getElem?] at this ⊢
        rw [Array.getElem?_setIfInBounds_ne (fun e=>hji e.symm),this]
        simp [hji]
    · have e2:(fun j=>decide (j∈l++[i]))=fun j=>decide (j∈l) || j == i:=by
       funext j
       by_cases hji:j=i
       · subst hji;simp
       · simp [hji]
      rw [e2]
      exact hv
theorem wpIn_region_inv {F:Fence} {n:Nat} {P:Program} {id:Nat} {l:List Oper} {Q:Exit→Act→World→Prop} {a0:Act} {w0:World} (hm:P.follows .mixedOrders=true) (h1:onceB l=true) (h2:earlyB 0 l=true) (h3:(l.all fun o=>match o.dst with | none=>true | some d=>decide (d<a0.tmps.size))=true)
 (J:(Nat→Bool)→(Nat→Value)→World→Prop) (h0:J (fun _=>false) (fun _=>undef) w0.drew) (hst:IStepsI F n P l.toArray Q J a0 l 0) (hfin:∀ vs w,J (fun j=>decide (j<l.length)) vs w→Q .normal (putL vs l 0 a0) w):(Code.region id l.toArray true).wpIn F n P Q a0 w0:=by
 refine wpIn_region_any hm ?_
 have h:=wpAnyIn_inv (F:=F) (n:=n) (P:=P) (ops:=l.toArray) (Q:=Q) (J:=J) (a0:=a0) (once_of h1) (early_of h2) (fun i o d ho hod=>by
  have:=List.all_eq_true.1 h3 o (List.mem_of_getElem? (by simpa using ho))
  rw [hod] at this
  exact of_decide_eq_true this) (fun i o ho=>by
  have:=istepsI_at l 0 hst i o (by simpa using ho)
  rwa [Nat.zero_add] at this) (fun vs w hj=>hfin vs w (by simpa using hj))
  l.toArray.size (Array.replicate l.toArray.size false) w0.drew [] (List.range l.toArray.size) (fun _=>undef) (by simp) (by simp) (fun i hi=>by simp at hi;simp [hi]) (by simp) (by simpa using h0)
 exact h
theorem unitsN_fuel (b:ByteArray):∀ k p,b.size≤p+k→unitsN b (k+1) p=unitsN b k p
 | 0,p,h=>by rw [unitsN_end b 1 p (by omega),unitsN_end b 0 p (by omega)]
 | k+1,p,h=>by
  by_cases hp:p<b.size
  · rw [unitsN_step b (k+1) p hp,unitsN_step b k p hp,unitsN_fuel b k (p+uw b p) (by have:=uw_pos b p;omega)]
  · rw [unitsN_end b _ p hp,unitsN_end b _ p hp]
theorem cont_le {s:ByteArray} : ∀ m,1+m≤s.size→(∀ k,1≤k→k≤m→(s.get! k).toNat / 64=2)→(unitsN s s.size (1+m)).length≤(unitsN s s.size 1).length
 | 0,_,_=>Nat.le_refl _
 | m+1,hs,h=>by
  have ih:=cont_le (s:=s) m (by omega) (fun k h1 h2=>h k h1 (by omega))
  have e:=units_next s (1+m) (by omega)
  rw [one_of_cont (h (1+m) (by omega) (by omega))] at e
  rw [e,List.length_cons] at ih
  rw [←Nat.add_assoc]
  omega
theorem units_put_le {u:Int} (hu:wd u≠0) (b:ByteArray):(intsU (units (put u++b))).length≤1+(intsU (units b)).length:=by
 by_cases hr:isRn u
 · rw [rune_split hr,List.length_cons];omega
 · have hst:1114240≤u∧u≤1114367:=by
    by_cases a:1114240≤u∧u≤1114367
    · exact a
    · unfold isRn at hr
      exact absurd (wd_no (by omega) (by omega)) hu
   have h1:(put u).size=1:=by rw [put_stray hst];rfl
   obtain ⟨a,ha⟩:∃ a,put u=a:=⟨_,rfl⟩
   rw [ha] at h1 ⊢
   obtain ⟨s,hs⟩:∃ s,a++b=s:=⟨_,rfl⟩
   have hz:s.size=1+b.size:=by rw [←hs,ByteArray.size_append,h1]
   have hright:(unitsN s s.size 1).length=(units b).length:=by
    have:=congrArg List.length (nums_right a b s.size 0)
    rw [h1,hs] at this
    simp only [nums,List.length_map,Nat.add_zero] at this
    rw [this,hz,Nat.add_comm 1,unitsN_fuel b b.size 0 (by omega)]
    rfl
   rw [hs,intsU_length,intsU_length]
   unfold units
   rw [units_next s 0 (by omega),List.length_cons,Nat.zero_add]
   have hle:(unitsN s s.size (uw s 0)).length≤(unitsN s s.size 1).length:=by
    have hp:=uw_pos s 0
    by_cases h2:1<uw s 0
    · obtain ⟨q1,_,q3⟩:=uw_many s 0 h2
      have:=cont_le (s:=s) (uw s 0 - 1) (by omega) (fun k k1 k2=>by have:=q3 k k1 (by omega);rwa [Nat.zero_add] at this)
      rwa [show 1+(uw s 0 - 1)=uw s 0 by omega] at this
    · rw [show uw s 0=1 by omega];exact Nat.le_refl _
   rw [hright] at hle
   unfold units at hle
   omega
theorem join_few:∀ {l:List Int} {t:List UInt8},joinB l=some t→(intsU (units ⟨t.toArray⟩)).length≤l.length∧t.length≤4*l.length
 | [],t,h=>by
  injection h with h
  subst h
  exact ⟨Nat.le_of_eq (by decide +kernel),Nat.le_refl _⟩
 | u::l,t,h=>by
  by_cases hu:wd u=0
  · simp [joinB,hu] at h
  · rw [joinB_step hu] at h
    cases e:joinB l with
    | none=>rw [e] at h;cases h
    | some t'=>
     rw [e] at h
     injection h with h
     subst h
     obtain ⟨ih1,ih2⟩:=join_few e
     have h1:(⟨((put u).data.toList++t').toArray⟩:ByteArray)=put u++⟨t'.toArray⟩:=ba_ext (by simp)
     have h2:=units_put_le hu ⟨t'.toArray⟩
     have h3:=put_size_le u
     rw [Lib.size_eq] at h3
     rw [h1,List.length_append,List.length_cons]
     exact ⟨by omega,by omega⟩
theorem few_any {rs:List Rl} {s:ByteArray} (hE:mayE rs s=0):((intsU (units (runT rs s))).length:Int)≤(endOf rs s).2.length∧((runT rs s).size:Int)≤4*(endOf rs s).2.length∧(runT rs s).size≤4398046511104:=by
 obtain ⟨st,hw,hss,hF,_,hck,hend⟩:=may_ok hE
 obtain ⟨u1,u2,u3⟩:=hend.lens hF hck
 have hl:(intsU (units s)).length≤16384:=by rw [intsU_length];have:=units_len s;omega
 unfold runT
 rw [if_pos hE]
 unfold joinS
 cases e:joinB (endOf rs s).2 with
 | none=>exact ⟨by have:(intsU (units ⟨#[]⟩)).length=0:=by decide +kernel
                   simp only;omega,by show ((0:Nat):Int)≤_;omega,by show 0≤_;omega⟩
 | some t=>
  obtain ⟨h1,h2⟩:=join_few e
  have h3:(⟨t.toArray⟩:ByteArray).size=t.length:=by rw [Lib.size_eq]
  simp only
  rw [h3]
  exact ⟨by omega,by omega,by omega⟩
theorem max_len:maxLen=9223372036854775807:=rfl
set_option maxHeartbeats 1000000 in
theorem more_any (n k:Int) (w:World) (hn:0≤n) (hk:0≤k):Calls Tryz.prog 21 #[.int .i64 n,.int .i64 k] w fun e w'=>∃ m,e = .returned (.int .i64 m)∧0≤m∧m≤2147483648∧w'=w:=by
 by_cases h1:2147483647<n
 · go_enter Tryz.func21,Tryz.ntmps21
   go_wp2
   exact bodyPost_ret (v := .int .i64 2147483648) (by simp [results,Tryz.f21,go_sem]) rfl ⟨_,rfl,by decide,by decide,rfl⟩
 · by_cases h2:2147483647 - n<k
   · go_enter Tryz.func21,Tryz.ntmps21
     go_wp2
     exact bodyPost_ret (v := .int .i64 2147483648) (by simp [results,Tryz.f21,go_sem]) rfl ⟨_,rfl,by decide,by decide,rfl⟩
   · have h3:k≤2147483647:=by omega
     go_enter Tryz.func21,Tryz.ntmps21
     go_wp2
     exact bodyPost_ret (v := .int .i64 (n+k)) (by simp [results,Tryz.f21,go_sem]) rfl ⟨_,rfl,by omega,by omega,rfl⟩
set_option maxHeartbeats 2000000 in
theorem setsItems_any (n:Int) (v:Value) (ls:List (List (Int × Int))) (w:World) (h:SR w v ls) (hn:0≤n) (hl:ls.length≤maxLen):Calls Tryz.prog 20 #[.int .i64 n,v] w fun e w'=>∃ m,e = .returned (.int .i64 m)∧0≤m∧m≤2147483648∧w'=w:=by
 obtain ⟨a,c,rfl,_,hr⟩:=h
 have HR:Hid (ls=[]∨∃ g o,a=some ⟨g,o,none⟩∧SRd w g o ls):=hr
 obtain ⟨N,hN⟩:∃ N,ls.length=N:=⟨_,rfl⟩
 have HN:Hid (ls.length=N):=hN
 rw [hN] at hl ⊢
 rw [max_len] at hl
 have hlI:(N:Int)≤9223372036854775807:=by omega
 have hN0:(0:Int)≤(N:Int):=by omega
 have HM:Hid (∀ n k:Int,0≤n→0≤k→Calls Tryz.prog 21 #[.int .i64 n,.int .i64 k] w fun e w'=>∃ m,e = .returned (.int .i64 m)∧0≤m∧m≤2147483648∧w'=w):=fun n k h1 h2=>more_any n k w h1 h2
 clear hN hr
 go_enter Tryz.func20,Tryz.ntmps20
 go_wp2_with fail
 refine (HM.out n N hn hN0).mono ?_
 rintro e w' ⟨m0,rfl,hm0,hm1,hw⟩
 obtain rfl:=hw.symm
 go_wp2
 go_loopw [0,5] (fun vn vi wr=>∃ (k:Nat) (m:Int),vi = .int .i64 k∧vn = .int .i64 m∧k≤N∧0≤m∧m≤2147483648∧wr=w) (fun _ vi _=>N - (intOf vi).toNat)
 case atStart=>exact ⟨0,m0,rfl,rfl,by omega,hm0,hm1,rfl⟩
 case round=>
  obtain ⟨k,m,rfl,rfl,hk,hm,hm',rfl⟩:=hrel
  have hk0:(0:Int)≤(k:Int):=by omega
  by_cases hlt:k<N
  · have hlt':(k:Int)<(N:Int):=by omega
    by_cases hb:m≤2147483647
    · as_aux_lemma=>
       have hkl:k<ls.length:=by rw [HN.out];exact hlt
       obtain ⟨g,o,rfl,hd⟩:=HR.out.resolve_left (fun e=>by rw [e] at hkl;simp at hkl)
       obtain ⟨sv,hs,hsr⟩:=hd k hkl
       obtain ⟨s1,s2,s3,rfl⟩:=hsr.sl
       have hs0:(0:Int)≤(s2:Int):=by omega
       clear hd hsr HR
       go_wp2_with fail
       refine (HM.out m s2 hm hs0).mono ?_
       rintro e w' ⟨m2,rfl,h2,h3,hw⟩
       obtain rfl:=hw.symm
       go_wp2
       exact ⟨⟨k+1,m2,by go_num,rfl,by omega,h2,h3,by first | rfl | trivial⟩,by simp [intOf];omega⟩
    · as_aux_lemma=>
       go_wp2
       exact bodyPost_ret (v := .int .i64 m) (by simp [results,Tryz.f20,go_sem]) rfl ⟨_,rfl,hm,hm',rfl⟩
  · as_aux_lemma=>
     have hge:¬ (k:Int)<(N:Int):=by omega
     go_wp2
     exact bodyPost_ret (v := .int .i64 m) (by simp [results,Tryz.f20,go_sem]) rfl ⟨_,rfl,hm,hm',rfl⟩
theorem pc_at {w:World} {g o:Nat} {ps:List Pc} (h:PRd w g o ps) {j:Nat} (hj:j<ps.length):∃ tv,w.cell? ⟨g,o+j*4,none⟩=some (.int .i64 ps[j].k)∧w.cell? ⟨g,o+j*4+1,none⟩=some (.int .i64 ps[j].u)∧w.cell? ⟨g,o+j*4+2,none⟩=some (.int .i64 ps[j].y)∧w.cell? ⟨g,o+j*4+3,none⟩=some tv∧Rs w tv ps[j].tl:=h j hj
def BeyQ (w:World) (e:Ending) (w':World):Prop:=∃ b:Bool,e = .returned (.bool b)∧Grown w w'
set_option maxHeartbeats 8000000 in
theorem beyond_any (v:Value) (rs:List Rl) (w:World) (h:PsR w v rs) (hl:rs.length≤maxLen) (hz:∀ r∈rs,Go.Proofs.YtaemgkemlifadaaGreatDoor.Lz r):Calls Tryz.prog 7 #[.agg #[v]] w (BeyQ w):=by
 have HP:Hid (∀ W,Grown w W→PsR W v rs):=fun W hW=>h.grown hW
 have HZ:Hid (∀ r∈rs,Go.Proofs.YtaemgkemlifadaaGreatDoor.Lz r):=hz
 obtain ⟨ra,rc,rfl,_,_⟩:=h
 obtain ⟨N,hN⟩:∃ N,rs.length=N:=⟨_,rfl⟩
 have HN:Hid (rs.length=N):=hN
 rw [hN] at hl HP ⊢
 rw [max_len] at hl
 have hlI:(N:Int)≤9223372036854775807:=by omega
 have hN0:(0:Int)≤(N:Int):=by omega
 clear hN hz
 go_enter Tryz.func7,Tryz.ntmps7
 go_wp2
 go_loopw [3,4] (fun vn vi wr=>∃ (k:Nat) (m:Int),vi = .int .i64 k∧vn = .int .i64 m∧k≤N∧0≤m∧m≤9223372036854775807∧Grown (w.alloc (.cells #[.slice ra N rc] 24)) wr) (fun _ vi _=>N - (intOf vi).toNat)
 case atStart=>exact ⟨0,N,rfl,rfl,by omega,by omega,by omega,Grown.refl _⟩
 case round=>
  obtain ⟨k,m,rfl,rfl,hk,hm,hm',hG⟩:=hrel
  have hk0:(0:Int)≤(k:Int):=by omega
  have c0:=hG.cellv (a:=⟨w.heap.size,0,none⟩) (v := .slice ra N rc) (by simp)
  by_cases hlt:k<N
  · have hlt':(k:Int)<(N:Int):=by omega
    by_cases hb:m≤2147483647
    · have hkl:k<rs.length:=by rw [HN.out];exact hlt
      have hG0:Grown w wr:=((Grown.refl w).alloc _).trans hG
      have hLz:=HZ.out _ (List.getElem_mem hkl)
      obtain ⟨a',c',e',_,hPr⟩:=HP.out wr hG0
      obtain ⟨g,o,ha',hRA⟩:=hPr.resolve_left (fun e=>by rw [e] at hkl;simp at hkl)
      injection e' with q1 q2 q3
      clear q2 q3
      rw [ha'] at q1
      subst q1
      obtain ⟨av,kv,pv,rv,r0,r1,r2,r3,r4,r5,r6,hR⟩:=hRA k hkl
      have HRA:Hid (∀ W,Grown wr W→SR W av rs[k].ante∧SR W kv rs[k].key∧SR W pv rs[k].post∧PR W rv rs[k].res):=fun W hW=>⟨hR.a.grown hW,hR.k.grown hW,hR.p.grown hW,hR.r.grown hW⟩
      have HL:Hid (rs[k].ante.length≤maxLen∧rs[k].key.length≤maxLen∧rs[k].post.length≤maxLen∧rs[k].res.length≤maxLen):=⟨hLz.na,hLz.nk,hLz.np,hLz.nr⟩
      obtain ⟨a1,n1,c1,rfl⟩:=hR.a.sl
      obtain ⟨a2,n2,c2,rfl⟩:=hR.k.sl
      obtain ⟨a3,n3,c3,rfl⟩:=hR.p.sl
      obtain ⟨a5,c5,hrv,_,hrr⟩:=hR.r
      subst hrv
      have HRR:Hid (rs[k].res=[]∨∃ g o,a5=some ⟨g,o,none⟩∧PRd wr g o rs[k].res):=hrr
      obtain ⟨n5,hn5⟩:∃ n5,rs[k].res.length=n5:=⟨_,rfl⟩
      have HN5:Hid (rs[k].res.length=n5):=hn5
      rw [hn5] at r5 HRA HL
      have hn5I:(n5:Int)≤9223372036854775807:=by have:=HL.out.2.2.2;rw [max_len] at this;omega
      have hn50:(0:Int)≤(n5:Int):=by omega
      have HG:Hid (Grown (w.alloc (.cells #[.slice (some ⟨g,o,none⟩) N rc] 24)) wr):=hG
      generalize rs[k].bg=xb at *
      generalize rs[k].en=xe at *
      generalize rs[k].cu=xc at *
      obtain ⟨W5,hW5⟩:∃ W5,W5=wr.alloc (.cells #[.bool xb,.slice a1 n1 c1,.slice a2 n2 c2,.slice a3 n3 c3,.bool xe,.slice a5 n5 c5,.int .i64 xc] 53):=⟨_,rfl⟩
      have hG5:Grown wr W5:=by rw [hW5];exact (Grown.refl _).alloc _
      have HS1:Hid (∀ m:Int,0≤m→Calls Tryz.prog 20 #[.int .i64 m,.slice a1 n1 c1] W5 fun e w'=>∃ x,e = .returned (.int .i64 x)∧0≤x∧x≤2147483648∧w'=W5):=fun m h=>setsItems_any m _ _ W5 (HRA.out W5 hG5).1 h HL.out.1
      have HS2:Hid (∀ m:Int,0≤m→Calls Tryz.prog 20 #[.int .i64 m,.slice a2 n2 c2] W5 fun e w'=>∃ x,e = .returned (.int .i64 x)∧0≤x∧x≤2147483648∧w'=W5):=fun m h=>setsItems_any m _ _ W5 (HRA.out W5 hG5).2.1 h HL.out.2.1
      have HS3:Hid (∀ m:Int,0≤m→Calls Tryz.prog 20 #[.int .i64 m,.slice a3 n3 c3] W5 fun e w'=>∃ x,e = .returned (.int .i64 x)∧0≤x∧x≤2147483648∧w'=W5):=fun m h=>setsItems_any m _ _ W5 (HRA.out W5 hG5).2.2.1 h HL.out.2.2.1
      have HM:Hid (∀ n k:Int,0≤n→0≤k→Calls Tryz.prog 21 #[.int .i64 n,.int .i64 k] W5 fun e w'=>∃ m,e = .returned (.int .i64 m)∧0≤m∧m≤2147483648∧w'=W5):=fun n k h1 h2=>more_any n k W5 h1 h2
      have HPR:Hid (rs[k].res=[]∨∃ g o,a5=some ⟨g,o,none⟩∧PRd W5 g o rs[k].res):=HRR.out.imp id fun ⟨g,o,h1,h2⟩=>⟨g,o,h1,h2.grown hG5⟩
      have b5:W5.heap[wr.heap.size]? = some (.cells #[.bool xb,.slice a1 n1 c1,.slice a2 n2 c2,.slice a3 n3 c3,.bool xe,.slice a5 n5 c5,.int .i64 xc] 53 (0,0)):=by rw [hW5];exact heap_alloc_new _ _
      have p1:W5.cell? ⟨wr.heap.size,1,none⟩=some (.slice a1 n1 c1):=by rw [cell_of b5];rfl
      have p2:W5.cell? ⟨wr.heap.size,2,none⟩=some (.slice a2 n2 c2):=by rw [cell_of b5];rfl
      have p3:W5.cell? ⟨wr.heap.size,3,none⟩=some (.slice a3 n3 c3):=by rw [cell_of b5];rfl
      have p5:W5.cell? ⟨wr.heap.size,5,none⟩=some (.slice a5 n5 c5):=by rw [cell_of b5];rfl
      have HG5:Hid (Grown wr W5):=hG5
      clear hR hrr hn5 hRA hPr ha' hG hG5 b5 HRA HRR hLz hG0
      go_wp2_with fail
      rw [←hW5]
      clear hW5 r0 r1 r2 r3 r4 r5 r6 c0
      refine (HS1.out m hm).mono ?_
      rintro e w' ⟨m1,rfl,h10,h11,hw⟩
      obtain rfl:=hw.symm
      go_wp2_with fail
      refine (HS2.out m1 h10).mono ?_
      rintro e w' ⟨m2,rfl,h20,h21,hw⟩
      obtain rfl:=hw.symm
      go_wp2_with fail
      refine (HS3.out m2 h20).mono ?_
      rintro e w' ⟨m3,rfl,h30,h31,hw⟩
      obtain rfl:=hw.symm
      go_wp2_with fail
      refine (HM.out m3 n5 h30 hn50).mono ?_
      rintro e w' ⟨m4,rfl,h40,h41,hw⟩
      obtain rfl:=hw.symm
      obtain ⟨wo,hwo⟩:∃ wo,wo=wr:=⟨_,rfl⟩
      rw [←hwo]
      rw [←hwo] at p1 p2 p3 p5 HG HG5
      clear HS1 HS2 HS3 hwo
      go_wp2
      go_loopw [3,6] (fun vn vj wx=>∃ (j:Nat) (x:Int),vj = .int .i64 j∧vn = .int .i64 x∧j≤n5∧0≤x∧x≤2147483648∧wx=W5) (fun _ vj _=>n5 - (intOf vj).toNat)
      case atStart=>exact ⟨0,m4,rfl,rfl,by omega,h40,h41,rfl⟩
      case round=>
       obtain ⟨j,x,rfl,rfl,hj,hx,hx',hwx⟩:=hrel
       obtain rfl:=hwx.symm
       have hj0:(0:Int)≤(j:Int):=by omega
       have HK:Hid (k+1≤N∧n5 - j ≥ 0):=⟨hlt,by omega⟩
       by_cases hjl:j<n5
       · have hjl':(j:Int)<(n5:Int):=by omega
         by_cases hxb:x≤2147483647
         · as_aux_lemma=>
            have hjr:j<rs[k].res.length:=by rw [HN5.out];exact hjl
            obtain ⟨pg,po,rfl,hd⟩:=HPR.out.resolve_left (fun e=>by rw [e] at hjr;simp at hjr)
            obtain ⟨tv,_,_,_,x3,hrs⟩:=pc_at hd hjr
            obtain ⟨t1,t2,t3,rfl⟩:=hrs.sl
            have ht0:(0:Int)≤(t2:Int):=by omega
            clear hd hrs HPR
            go_wp2_with fail
            refine (HM.out x t2 hx ht0).mono ?_
            rintro e w' ⟨m5,rfl,h50,h51,hw⟩
            obtain rfl:=hw.symm
            go_wp2
            exact ⟨⟨j+1,m5,by go_num,rfl,by omega,h50,h51,by first | rfl | trivial⟩,by simp [intOf];omega⟩
         · as_aux_lemma=>
            go_wp2
            exact ⟨⟨k+1,x,by go_num,rfl,hlt,hx,by omega,HG.out.trans HG5.out⟩,by simp [intOf];omega⟩
       · as_aux_lemma=>
          have hge:¬ (j:Int)<(n5:Int):=by omega
          go_wp2
          exact ⟨⟨k+1,x,by go_num,rfl,hlt,hx,by omega,HG.out.trans HG5.out⟩,by simp [intOf];omega⟩
    · as_aux_lemma=>
       go_wp2
       go_ret
       exact ⟨_,rfl,((Grown.refl w).alloc _).trans hG⟩
  · as_aux_lemma=>
     have hge:¬ (k:Int)<(N:Int):=by omega
     go_wp2
     go_ret
     exact ⟨_,rfl,((Grown.refl w).alloc _).trans hG⟩
theorem rep193:(Array.replicate 193 undef:Array Value)=#[undef,undef,undef,undef,undef,undef,undef,undef,undef,undef,undef,undef,undef,undef,undef,undef,undef,undef,undef,undef,undef,undef,undef,undef,undef,undef,undef,undef,undef,undef,undef,undef,undef,undef,undef,undef,undef,undef,undef,undef,undef,undef,undef,undef,undef,undef,undef,undef,undef,undef,undef,undef,undef,undef,undef,undef,undef,undef,undef,undef,undef,undef,undef,undef,undef,undef,undef,undef,undef,undef,undef,undef,undef,undef,undef,undef,undef,undef,undef,undef,undef,undef,undef,undef,undef,undef,undef,undef,undef,undef,undef,undef,undef,undef,undef,undef,undef,undef,undef,undef,undef,undef,undef,undef,undef,undef,undef,undef,undef,undef,undef,undef,undef,undef,undef,undef,undef,undef,undef,undef,undef,undef,undef,undef,undef,undef,undef,undef,undef,undef,undef,undef,undef,undef,undef,undef,undef,undef,undef,undef,undef,undef,undef,undef,undef,undef,undef,undef,undef,undef,undef,undef,undef,undef,undef,undef,undef,undef,undef,undef,undef,undef,undef,undef,undef,undef,undef,undef,undef,undef,undef,undef,undef,undef,undef,undef,undef,undef,undef,undef,undef,undef,undef,undef,undef,undef,undef,undef,undef,undef,undef,undef,undef]:=by kernel_rfl
def FewU (rs:List Rl) (s:ByteArray):Prop:=((intsU (units (runT rs s))).length:Int)≤(endOf rs s).2.length∧((runT rs s).size:Int)≤4*(endOf rs s).2.length∧(runT rs s).size≤4398046511104
def FitI (rs:List Rl) (l0:List Int) (W3:World) (B9 B10 B12:Nat) (bd:Int) (pre:List Stp) (W:World):Prop:=Below W3.heap.size W3 W∧∃ dn lf,G3 rs l0 pre dn lf∧W.heap[B9]? = some (.cells #[.int .i64 dn.length] 3 (0,0))∧W.heap[B10]? = some (.cells #[.int .i64 lf.length] 3 (0,0))∧W.heap[B10+1]? = some (.cells #[.int .i64 pre.length] 3 (0,0))∧W.heap[B12]? = some (.cells #[.int .i64 bd] 3 (0,0))
theorem FitI.stab {rs:List Rl} {l0:List Int} {W3:World} {B9 B10 B12:Nat} {bd:Int} {pre:List Stp} {X Y:World} {h:Nat} (hi:FitI rs l0 W3 B9 B10 B12 bd pre X) (hf:Fr X Y fun k=>h+2≤k∨h≤k) (h1:W3.heap.size≤h) (h2:B9<h) (h3:B10+1<h) (h4:B12<h):FitI rs l0 W3 B9 B10 B12 bd pre Y:=by
 obtain ⟨q,dn,lf,g,q1,q2,q3,q4⟩:=hi
 exact ⟨q.trans (hf.below (fun k hk=>by omega) q.size),dn,lf,g,(hf.block _ (blk_lt q1) (by omega)).trans q1,(hf.block _ (blk_lt q2) (by omega)).trans q2,(hf.block _ (blk_lt q3) (by omega)).trans q3,(hf.block _ (blk_lt q4) (by omega)).trans q4⟩
theorem FitI.done {rs:List Rl} {l0 dn' lf':List Int} {W3 X V:World} {B9 B10 B12 h:Nat} {bd D L M m1 d1 l1:Int} {pre:List Stp} {x:Stp} (hI:Below W3.heap.size W3 X) (h9:X.heap[B9]? = some (.cells #[.int .i64 D] 3 (0,0))) (h10:X.heap[B10]? = some (.cells #[.int .i64 L] 3 (0,0))) (h11:X.heap[B10+1]? = some (.cells #[.int .i64 M] 3 (0,0))) (h12:X.heap[B12]? = some (.cells #[.int .i64 bd] 3 (0,0)))
 (hg:Grown (X.setCell ⟨B10+1,0,none⟩ (.int .i64 m1)) V) (hm:m1=(pre++[x]).length) (hG:G3 rs l0 (pre++[x]) dn' lf') (e5:(dn'.length:Int)=d1) (e6:(lf'.length:Int)=l1) (b1:W3.heap.size≤B9) (b2:B9<B10) (b3:B10+1<B12) (b4:B12<h) :
 KAll (fun k=>h+2≤k∨h≤k) W3.heap.size X ((V.setCell ⟨B9,0,none⟩ (.int .i64 d1)).setCell ⟨B10,0,none⟩ (.int .i64 l1))∧FitI rs l0 W3 B9 B10 B12 bd (pre++[x]) ((V.setCell ⟨B9,0,none⟩ (.int .i64 d1)).setCell ⟨B10,0,none⟩ (.int .i64 l1)):=by
 subst hm e5 e6
 have hy:∀ k,k≠B10+1→(X.setCell ⟨B10+1,0,none⟩ (.int .i64 ((pre++[x]).length:Int))).heap[k]? = X.heap[k]? := fun k hk=>Below.heap_setCell X ⟨B10+1,0,none⟩ _ k hk
 have hv:∀ (k:Nat) (o:Obj),k≠B10+1→X.heap[k]? = some o→V.heap[k]? = some o:=fun k o hk ho=>(hg.below.block k (blk_lt ((hy k hk).trans ho))).trans ((hy k hk).trans ho)
 have v11:V.heap[B10+1]? = some (.cells #[.int .i64 ((pre++[x]).length:Int)] 3 (0,0)):=by
  have:=set_heap (j:=0) (u := .int .i64 ((pre++[x]).length:Int)) h11
  exact (hg.below.block _ (blk_lt this)).trans this
 have v9:=hv _ _ (by omega) h9
 have v10:=hv _ _ (by omega) h10
 have v12:=hv _ _ (by omega) h12
 have hbX:Below W3.heap.size X V:=(Below.setCell (p:=⟨B10+1,0,none⟩) (Below.refl W3.heap.size X) (by show _≤B10+1;omega) _).trans (hg.below.mono (by have:=hI.size;simpa using this))
 have hbF:Below W3.heap.size X ((V.setCell ⟨B9,0,none⟩ (.int .i64 (dn'.length:Int))).setCell ⟨B10,0,none⟩ (.int .i64 (lf'.length:Int))):=Below.setCell (p:=⟨B10,0,none⟩) (Below.setCell (p:=⟨B9,0,none⟩) hbX b1 _) (by show _≤B10;omega) _
 have hF:∀ k,k≠B9→k≠B10→((V.setCell ⟨B9,0,none⟩ (.int .i64 (dn'.length:Int))).setCell ⟨B10,0,none⟩ (.int .i64 (lf'.length:Int))).heap[k]? = V.heap[k]? := fun k h1 h2=>(Below.heap_setCell _ ⟨B10,0,none⟩ _ k h2).trans (Below.heap_setCell _ ⟨B9,0,none⟩ _ k h1)
 refine ⟨⟨hbF,fun k o hk ho=>(hF k (by omega) (by omega)).trans (hv k o (by omega) ho)⟩,hI.trans hbF,dn',lf',hG,?_,?_,(hF _ (by omega) (by omega)).trans v11,(hF _ (by omega) (by omega)).trans v12⟩
 · exact (Below.heap_setCell _ ⟨B10,0,none⟩ _ B9 (by show B9≠B10;omega)).trans (set_heap v9)
 · exact set_heap ((Below.heap_setCell _ ⟨B9,0,none⟩ _ B10 (by show B10≠B9;omega)).trans v10)
theorem wanted_of {o:Oper} {ops:Array Oper} {t:Array Value} {j T:Nat} {b:Bool} (hg:o.guard=some (j,b)) (hj:((ops[j]?).bind (·.dst))=some T) (h:t.getD T undef = .bool b):Region.wanted o (yielded ops t)=true:=by
 have ht:t[T]? = some (.bool b):=by
  rw [Array.getD_eq_getD_getElem?] at h
  cases e:t[T]? with
  | none=>rw [e] at h;cases h
  | some v=>rw [e] at h;simp at h;rw [h]
 unfold Region.wanted
 rw [hg]
 simp only [yielded,hj,Option.bind_some,ht]
 simp
def val28 (tx:ByteArray) (m dl:Nat):Nat→Option Value
 | 0=>some (.int .i64 0)
 | 1=>some (.bool true)
 | 2=>some (.bool true)
 | 3=>some (.string tx)
 | 5=>some (.int .i64 m)
 | 6=>some (.int .i64 dl)
 | 7=>some (.bool true)
 | 8=>some (.bool true)
 | 9=>some (.bool true)
 | 10=>some (.string tx)
 | 11=>some (.int .i64 tx.size)
 | 12=>some (.int .i64 dl)
 | 13=>some (.int .i64 (4*dl))
 | 14=>some (.bool true)
 | 15=>some (.bool true)
 | _=>none
structure J28 (W8:World) (r:Nat) (tx:ByteArray) (m dl:Nat) (p:Nat→Bool) (vs:Nat→Value) (W:World):Prop where
 v:∀ i x,val28 tx m dl i=some x→p i=true→vs i=x
 c:p 4=true→∃ y1 y3,vs 4 = .slice y1 m y3
 fr:Fr W8 W (fun k=>k=r)
 box:W.heap[r]? = some (.cells #[.bool (p 16)] 4 (0,0))
theorem J28.put {W8:World} {r:Nat} {tx:ByteArray} {m dl:Nat} {p:Nat→Bool} {vs:Nat→Value} {W:World} (h:J28 W8 r tx m dl p vs W) (i:Nat) {x:Value} (hx:val28 tx m dl i=some x) (h4:i≠4) (h16:i≠16):J28 W8 r tx m dl (fun j=>p j || j == i) (fun j=>if j=i then x else vs j) W:=by
 refine ⟨fun j y hy hp => ?_,fun hp => ?_,h.fr,?_⟩
 · by_cases e:j=i
   · subst e;rw [hx] at hy;injection hy with hy;simp [hy]
   · rw [if_neg e];exact h.v j y hy (by simpa [e] using hp)
 · rw [if_neg (Ne.symm h4)];exact h.c (by simpa [Ne.symm h4] using hp)
 · have:(p 16 || 16 == i)=p 16:=by simp [Ne.symm h16]
   rw [this];exact h.box
theorem J28.keep {W8:World} {r:Nat} {tx:ByteArray} {m dl:Nat} {p:Nat→Bool} {vs:Nat→Value} {W:World} (h:J28 W8 r tx m dl p vs W) {B:Nat} {o:Obj} (hB:W8.heap[B]? = some o) (hr:B≠r):W.heap[B]? = some o:=(h.fr.block B (blk_lt hB) hr).trans hB
set_option maxHeartbeats 16000000 in
theorem fits_law (v:Value) (rs:List Rl) (s:ByteArray) (w:World) (hT:Tab w) (hP:PsR w v rs) (hl:rs.length≤maxLen) (hz:∀ r∈rs,Go.Proofs.YtaemgkemlifadaaGreatDoor.Lz r) :
 Calls Tryz.prog 5 #[.agg #[v],.string s] w fun e w'=>e = .returned (.bool true)∧Below w.heap.size w w':=by
 have HP:Hid (∀ W,Below w.heap.size w W→PsR W v rs):=fun W hb=>hP.below hb (Nat.le_refl _)
 have HB:Hid (∀ W,Grown w W→Calls Tryz.prog 7 #[.agg #[v]] W (BeyQ W)):=fun W hg=>beyond_any v rs W (hP.grown hg) hl hz
 have HSh:Hid (∀ W,Below w.heap.size w W→Calls Tryz.prog 8 #[] W fun e w'=>e = .returned (.bool true)∧Below W.heap.size W w'):=fun W hb=>shown_any W (hT.below hb hT.pos) (Nat.lt_of_lt_of_le hT.pos hb.size)
 have H10:Hid (∀ W,Below w.heap.size w W→Calls Tryz.prog 10 #[.agg #[v],.string s] W fun e w'=>e = .returned (.tuple #[.string (runT rs s),.int .i64 (mayE rs s)])∧Below W.heap.size W w'):=fun W hb=>run_any v rs s W (hT.below hb hT.pos) (Nat.lt_of_lt_of_le hT.pos hb.size) (hP.below hb (Nat.le_refl _))
 have H13:Hid (∀ W,Below w.heap.size w W→Calls Tryz.prog 13 #[.agg #[v],.string s] W (StpQ W rs s)):=fun W hb=>steps_any v rs s W (hT.below hb hT.pos) (hP.below hb (Nat.le_refl _))
 have HTab:=Hid.mk' hT
 have HFew:Hid (mayE rs s=0→FewU rs s):=fun h=>few_any h
 obtain ⟨va,vc,hv,hx1,hx2⟩:=hP
 clear hx1 hx2
 obtain ⟨n,hn⟩:∃ n,rs.length=n:=⟨_,rfl⟩
 have HN:Hid (rs.length=n):=hn
 rw [hn] at hv hl
 subst hv
 clear hT hn hz
 refine (callsIn_wide (n:=6)).1 ?_
 refine callsIn_of_wp_marks Tryz.func5 rfl trivial ?_ rfl
 simp only [Tryz.ntmps5,List.size_toArray,List.length_cons,List.length_nil,Nat.reduceAdd,Nat.reduceSub]
 rw [rep193]
 simp only [List.append_toArray,List.nil_append,List.cons_append]
 obtain ⟨W0,hW0⟩:∃ W0,W0=(w.alloc (.cells #[.slice va n vc] 24)).alloc (.cells #[.bool false] 4):=⟨_,rfl⟩
 have HG0:Hid (Grown w W0):=by show Grown _ _;rw [hW0];exact ((Grown.refl _).alloc _).alloc _
 have hr0:W0.heap[w.heap.size+1]? = some (.cells #[.bool false] 4 (0,0)):=by rw [hW0];have:=heap_alloc_new (w.alloc (.cells #[.slice va n vc] 24)) (.cells #[.bool false] 4);simpa using this
 have hb0:W0.heap[w.heap.size]? = some (.cells #[.slice va n vc] 24 (0,0)):=by rw [hW0];exact (Below.heap_alloc _ _ _ (by simp)).trans (heap_alloc_new w _)
 gi_wp2_with fail
 rw [←hW0]
 clear hW0
 refine ⟨trivial,?_⟩
 refine (callsIn_wide.2 (HB.out W0 HG0.out)).mono ?_
 rintro e W1 ⟨bb,rfl,hg1⟩
 have hr1:=(hg1.below.block _ (blk_lt hr0)).trans hr0
 have hb1:=(hg1.below.block _ (blk_lt hb0)).trans hb0
 have HB1:Hid (Below w.heap.size w W1):=HG0.out.below.trans (hg1.below.mono HG0.out.size)
 clear hg1 HB HG0 hr0 hb0
 cases bb with
 | true=>
  have f1:W1.frozen? ⟨w.heap.size+1,0,none⟩=false:=free_of hr1
  have c1:W1.cell? ⟨w.heap.size+1,0,none⟩=some (.bool false):=by rw [cell_of hr1];rfl
  have hr2:(W1.setCell ⟨w.heap.size+1,0,none⟩ (.bool true)).heap[w.heap.size+1]? = some (.cells #[.bool true] 4 (0,0)):=(set_heap hr1).trans rfl
  have c0:(W1.setCell ⟨w.heap.size+1,0,none⟩ (.bool true)).cell? ⟨w.heap.size+1,0,none⟩=some (.bool true):=(cell_of hr2).trans rfl
  have HE1:Hid (Below w.heap.size w (W1.setCell ⟨w.heap.size+1,0,none⟩ (.bool true))):=Below.setCell (p:=⟨w.heap.size+1,0,none⟩) HB1.out (by simp) _
  gi_wp2
  refine ⟨.bool true,?_,rfl,HE1.out⟩
  have hr:Tryz.f5.results=#[.cell 4 4]:=rfl
  simp only [results,hr]
  simp [go_sem,c0]
 | false=>
  gi_wp2_with fail
  refine ⟨trivial,?_⟩
  refine (callsIn_wide.2 (HSh.out W1 HB1.out)).mono ?_
  rintro e W2 ⟨rfl,hg2⟩
  have hr2:=(hg2.block _ (blk_lt hr1)).trans hr1
  have hb2:=(hg2.block _ (blk_lt hb1)).trans hb1
  have HB2:Hid (Below w.heap.size w W2):=HB1.out.trans (hg2.mono HB1.out.size)
  have d2:W2.cell? ⟨w.heap.size,0,none⟩=some (.slice va n vc):=by rw [cell_of hb2];rfl
  clear hg2 HB1 HSh hr1 hb1
  gi_wp2_with fail
  refine ⟨trivial,?_⟩
  refine (callsIn_wide.2 (H13.out W2 HB2.out)).mono ?_
  rintro e W3 ⟨hg3,hs3⟩
  have hr3:=(hg3.block _ (blk_lt hr2)).trans hr2
  have hb3:=(hg3.block _ (blk_lt hb2)).trans hb2
  have HB3:Hid (Below w.heap.size w W3):=HB2.out.trans (hg3.mono HB2.out.size)
  have d3:W3.cell? ⟨w.heap.size,0,none⟩=some (.slice va n vc):=by rw [cell_of hb3];rfl
  clear hg3 HB2 H13 hr2 hb2 d2
  rcases hs3 with ⟨hne,rfl⟩ | ⟨he0,b1,b2,vv,rfl,hlb1,hlb2,hx1,hx2,hrob⟩
  · obtain ⟨E,hE⟩:∃ E,mayE rs s=E:=⟨_,rfl⟩
    have hrt:runT rs s=⟨#[]⟩:=by unfold runT;rw [if_neg hne]
    rw [hE] at hne H10
    rw [hrt] at H10
    have hne2:(E != 0)=true:=by simpa using hne
    gi_wp2_with fail
    refine ⟨trivial,?_⟩
    refine (callsIn_wide.2 (H10.out W3 HB3.out)).mono ?_
    rintro e W4 ⟨rfl,hg4⟩
    have hr4:=(hg4.block _ (blk_lt hr3)).trans hr3
    have HB4:Hid (Below w.heap.size w W4):=HB3.out.trans (hg4.mono HB3.out.size)
    have f4:W4.frozen? ⟨w.heap.size+1,0,none⟩=false:=free_of hr4
    have c4:W4.cell? ⟨w.heap.size+1,0,none⟩=some (.bool false):=by rw [cell_of hr4];rfl
    have hnf:∀ W,(binOp .eql 40 .nilFunc .nilFunc).run Tryz.prog W = .ok (.bool true) W:=fun W=>by kernel_rfl
    have hr2:(W4.setCell ⟨w.heap.size+1,0,none⟩ (.bool true)).heap[w.heap.size+1]? = some (.cells #[.bool true] 4 (0,0)):=(set_heap hr4).trans rfl
    have c0:(W4.setCell ⟨w.heap.size+1,0,none⟩ (.bool true)).cell? ⟨w.heap.size+1,0,none⟩=some (.bool true):=(cell_of hr2).trans rfl
    have HE1:Hid (Below w.heap.size w (W4.setCell ⟨w.heap.size+1,0,none⟩ (.bool true))):=Below.setCell (p:=⟨w.heap.size+1,0,none⟩) HB4.out (by simp) _
    clear hg4 hr3 hb3 d3 HB3 H10 hr4 hr2 hrt hE
    gi_wp2
    refine ⟨.bool true,?_,rfl,HE1.out⟩
    have hr:Tryz.f5.results=#[.cell 4 4]:=rfl
    simp only [results,hr]
    simp [go_sem,c0]
  · have hnf:∀ W,(binOp .eql 40 (.func (.func 35) #[] #[.pointer (some ⟨b1,0,none⟩),.pointer (some ⟨b2,0,none⟩)]) .nilFunc).run Tryz.prog W = .ok (.bool false) W:=fun W=>by kernel_rfl
    obtain ⟨st,hM⟩:=made_of HTab.out HTab.out.pos HB3.out he0 hx1 hx2 hrob.now
    have HM:=Hid.mk' hM
    have HE0:=Hid.mk' he0
    rw [he0] at H10
    clear hM hx1 hx2 hrob hlb1 hlb2 he0
    gi_wp2_with fail
    refine ⟨trivial,?_⟩
    refine (callsIn_wide.2 (H10.out W3 HB3.out)).mono ?_
    rintro e W4 ⟨rfl,hg4⟩
    have HB4:Hid (Below W3.heap.size W3 W4):=hg4
    have HR3:=Hid.mk' hr3
    have HD:Hid (∀ V,Below W3.heap.size W3 V→V.heap[w.heap.size]? = some (.cells #[.slice va n vc] 24 (0,0))):=fun V hb=>(hb.block _ (blk_lt hb3)).trans hb3
    clear hg4 H10 hr3 hb3 d3
    obtain ⟨tx,htx⟩:∃ tx,runT rs s=tx:=⟨_,rfl⟩
    have HTX:=Hid.mk' htx
    obtain ⟨st2,hw2,hss2,hF2,_,hck2,hend2⟩:=may_ok HE0.out
    have HMO:=Hid.mk' (And.intro hss2 (And.intro hF2 (And.intro hck2 hend2)))
    have HBD:Hid (bndP rs s=wS rs st2 (intsU (units s))):=by show _=_;unfold bndP;rw [hw2];exact sumW_wS rs st2 (units s)
    have hss3:=hss2
    clear hw2 hss2 hF2 hck2 hend2
    obtain ⟨l0,hl0⟩:∃ l0,intsU (units s)=l0:=⟨_,rfl⟩
    have HL0:=Hid.mk' hl0
    have hll:l0.length≤16384:=by rw [←hl0,intsU_length];have:=units_len s;omega
    have HCu:Hid (∀ W,Calls Tryz.prog 15 #[.string s] W fun e w'=>∃ v,e = .returned v∧IR w' v l0∧Below W.heap.size W w'):=fun W=>by rw [←hl0];exact rcut_any s W (by omega)
    rw [htx]
    clear hl0 htx
    obtain ⟨X9,hX9⟩:∃ X9,X9=W4.alloc (.cells #[.int .i64 0] 3):=⟨_,rfl⟩
    obtain ⟨B9,hB9⟩:∃ B9,B9=W4.heap.size:=⟨_,rfl⟩
    have H9:Hid (W3.heap.size≤B9∧Below W3.heap.size W3 X9∧X9.heap[B9]? = some (.cells #[.int .i64 0] 3 (0,0))∧X9.heap.size=B9+1):=by
     rw [hX9,hB9]
     exact ⟨HB4.out.size,HB4.out.trans ((((Grown.refl W4).alloc _).below).mono HB4.out.size),heap_alloc_new _ _,by simp⟩
    gi_wp2_with fail
    rw [←hX9,←hB9]
    clear hX9 hB9 HB4
    refine ⟨trivial,?_⟩
    refine (callsIn_wide.2 (HCu.out X9)).mono ?_
    rintro e W5 ⟨lv,rfl,hI5,hg5⟩
    obtain ⟨y1,y2,y3,hlv⟩:=hI5.sl
    subst hlv
    have hy2:l0.length=y2:=(ir_len hI5).1
    have HY2:=Hid.mk' hy2
    have hy16:(y2:Int)≤16384:=by omega
    have H5:Hid (W3.heap.size≤B9∧Below W3.heap.size W3 W5∧W5.heap[B9]? = some (.cells #[.int .i64 0] 3 (0,0))∧B9+1≤W5.heap.size):=by
     obtain ⟨q1,q2,q3,q4⟩:=H9.out
     exact ⟨q1,q2.trans (hg5.mono q2.size),(hg5.block _ (blk_lt q3)).trans q3,by have:=hg5.size;omega⟩
    clear hI5 hg5 hy2 HCu H9
    obtain ⟨X11,hX11⟩:∃ X11,X11=(W5.alloc (.cells #[.int .i64 y2] 3)).alloc (.cells #[.int .i64 0] 3):=⟨_,rfl⟩
    obtain ⟨B10,hB10⟩:∃ B10,B10=W5.heap.size:=⟨_,rfl⟩
    have H11:Hid (W3.heap.size≤B9∧B9<B10∧Below W3.heap.size W3 X11∧X11.heap[B9]? = some (.cells #[.int .i64 0] 3 (0,0))∧X11.heap[B10]? = some (.cells #[.int .i64 y2] 3 (0,0))∧X11.heap[B10+1]? = some (.cells #[.int .i64 0] 3 (0,0))∧X11.heap.size=B10+2):=by
     obtain ⟨q1,q2,q3,q4⟩:=H5.out
     have hg:Grown W5 X11:=by rw [hX11];exact ((Grown.refl _).alloc _).alloc _
     refine ⟨q1,by omega,q2.trans (hg.below.mono q2.size),(hg.below.block _ (blk_lt q3)).trans q3,?_,?_,by rw [hX11,hB10];simp⟩
     · rw [hX11,hB10];exact (Below.heap_alloc _ _ _ (by simp)).trans (heap_alloc_new W5 _)
     · have:=heap_alloc_new (W5.alloc (.cells #[.int .i64 y2] 3)) (.cells #[.int .i64 0] 3)
       rw [hX11,hB10];simpa using this
    have d5:((W5.alloc (.cells #[.int .i64 y2] 3)).alloc (.cells #[.int .i64 0] 3)).cell? ⟨w.heap.size,0,none⟩=some (.slice va n vc):=by rw [←hX11,cell_of (HD.out X11 H11.out.2.2.1)];rfl
    have HBnd:Hid (∀ V,Below W3.heap.size W3 V→Calls Tryz.prog 16 #[.agg #[.slice va n vc],.string s] V fun e w'=>e = .returned (.int .i64 (bndP rs s))∧Below V.heap.size V w'):=fun V hb=>rbound_any _ rs s V (HP.out V (HB3.out.trans (hb.mono HB3.out.size))) (by omega)
    gi_wp2_with fail
    rw [←hX11,←hB10]
    clear hX11 hB10 H5 d5
    refine ⟨trivial,?_⟩
    refine (callsIn_wide.2 (HBnd.out X11 H11.out.2.2.1)).mono ?_
    rintro e W6 ⟨rfl,hg6⟩
    rw [HBD.out,HL0.out]
    obtain ⟨bd,hbd⟩:∃ bd,wS rs st2 l0=bd:=⟨_,rfl⟩
    have HBd:=Hid.mk' hbd
    rw [hbd]
    clear hbd HBnd
    obtain ⟨WL,hWL⟩:∃ WL,WL=W6.alloc (.cells #[.int .i64 bd] 3):=⟨_,rfl⟩
    obtain ⟨B12,hB12⟩:∃ B12,B12=W6.heap.size:=⟨_,rfl⟩
    obtain ⟨h,hh⟩:∃ h,h=B12+1:=⟨_,rfl⟩
    have HL:Hid (W3.heap.size≤B9∧B9<B10∧B10+1<B12∧Below W3.heap.size W3 WL∧WL.heap[B9]? = some (.cells #[.int .i64 0] 3 (0,0))∧WL.heap[B10]? = some (.cells #[.int .i64 y2] 3 (0,0))∧WL.heap[B10+1]? = some (.cells #[.int .i64 0] 3 (0,0))∧WL.heap[B12]? = some (.cells #[.int .i64 bd] 3 (0,0))∧WL.heap.size=h∧h=B12+1):=by
     obtain ⟨q1,q2,q3,q4,q5,q6,q7⟩:=H11.out
     have hg:Below X11.heap.size X11 WL:=by rw [hWL];exact hg6.trans ((((Grown.refl W6).alloc _).below).mono hg6.size)
     have hz6:=hg6.size
     refine ⟨q1,q2,by omega,q3.trans (hg.mono q3.size),(hg.block _ (blk_lt q4)).trans q4,(hg.block _ (blk_lt q5)).trans q5,(hg.block _ (blk_lt q6)).trans q6,?_,?_,hh⟩
     · rw [hWL,hB12];exact heap_alloc_new W6 _
     · rw [hWL,hh,hB12];simp
    gi_wp2
    rw [←hWL,←hB12]
    clear hWL hB12 hh H11 hg6
    have hVs:∀ r:Loop,((WL.alloc (.deferred (some []))).alloc (.loop r)).heap.size=h+2:=fun r=>by simp [HL.out.2.2.2.2.2.2.2.2.1]
    refine wpIn_overR (enc:=encS) (by omega) (gf:=35) (pa:=#[]) (lb:=#[.pointer (some ⟨b1,0,none⟩),.pointer (some ⟨b2,0,none⟩)]) rfl (enters_of Tryz.func35 (by kernel_rfl) rfl) (xf:=(endOf rs s).1) (b:=W3.heap.size) (h:=h) (Z:=fun k=>h+2≤k) (E:=fun _=>True) HL.out.2.2.2.2.2.2.2.2.1.symm (by have:=HL.out;omega) (by omega) (by omega)
     (fun r=>by
      have:=steps1_seq (V:=(WL.alloc (.deferred (some []))).alloc (.loop r)) HM.out (HL.out.2.2.2.1.trans ((((Grown.refl WL).alloc _).alloc _).below.mono (HL.out.2.2.2.1.size))) 5 (h+1) (by omega)
      rw [hVs r] at this
      exact this)
     (fun _ _ _=>trivial) (fun _=>rfl)
     (FitI rs l0 W3 B9 B10 B12 bd) (fun _ _ _=>False)
     (fun pre X Y hX hf=>hX.stab hf (by have:=HL.out;omega) (by have:=HL.out;omega) (by have:=HL.out;omega) (by have:=HL.out;omega))
     (fun _ _ _ _ hX _=>hX) ⟨HL.out.2.2.2.1,[],l0,G3.nil _ _,HL.out.2.2.2.2.1,by rw [HY2.out];exact HL.out.2.2.2.2.2.1,HL.out.2.2.2.2.2.2.1,HL.out.2.2.2.2.2.2.2.1⟩ ?round ?done ?stop
    case stop=>
     rintro D c pre W _ _ h _
     exact h.elim
    case done=>
     rintro DD W hDD ⟨hI,dn,lf,hG,h9,h10,h11,h12⟩ _ hK
     obtain ⟨rfl,rfl⟩:dn=(endOf rs s).2∧lf=[]:=by
      have he:=HMO.out.2.2.2
      rw [HL0.out] at he
      unfold G3 at hG he
      rw [hG] at he
      injection he with _ he
      injection he with h1 h2
      exact ⟨h1,h2⟩
     have hR:W.heap[w.heap.size+1]? = some (.cells #[.bool false] 4 (0,0)):=(hI.block _ (blk_lt HR3.out)).trans HR3.out
     obtain ⟨z1,z2,z3⟩:=HFew.out HE0.out
     rw [HTX.out] at z1 z2 z3
     obtain ⟨dl,hdl⟩:∃ dl,(endOf rs s).2.length=dl:=⟨_,rfl⟩
     obtain ⟨m,hm⟩:∃ m,(intsU (units tx)).length=m:=⟨_,rfl⟩
     rw [hdl] at z1 z2 h9
     rw [hm] at z1
     have HCt:Hid (∀ V,Calls Tryz.prog 15 #[.string tx] V fun e w'=>∃ y1 y3,e = .returned (.slice y1 m y3)∧Below V.heap.size V w'):=fun V=>(rcut_any tx V z3).mono (by
      rintro e w' ⟨v,rfl,hv,hb⟩
      obtain ⟨y1,y2,y3,rfl⟩:=hv.sl
      have:=(ir_len hv).1
      rw [hm] at this
      subst this
      exact ⟨y1,y3,rfl,hb⟩)
     have hdlb:(dl:Int)≤16777216:=by
      obtain ⟨u1,u2,u3⟩:=hG.lens HMO.out.2.1 HMO.out.2.2.1
      omega
     have nr9:B9≠w.heap.size+1:=by have:=HL.out;have:=blk_lt HR3.out;omega
     have nr10:B10≠w.heap.size+1:=by have:=HL.out;have:=blk_lt HR3.out;omega
     have hmx:Tryz.prog.follows .mixedOrders=true:=by kernel_rfl
     have HK:=Hid.mk' (And.intro hK (And.intro hI hR))
     clear hG hm hdl h11 h12 hK HM HFew HTX HE0 HMO HBD HL0 HY2 HBd
     have zz1:decide ((m:Int)≤(dl:Int))=true:=by simpa using z1
     have zz2:decide ((tx.size:Int)≤4*(dl:Int))=true:=by simpa using z2
     gi_wp2
     refine wpIn_region_inv hmx (by kernel_rfl) (by kernel_rfl) (by kernel_rfl) (J28 W (w.heap.size+1) tx m dl) ?_ ⟨?_,?_,?_,?_,?_,?_,?_,?_,?_,?_,?_,?_,?_,?_,?_,?_,?_,trivial⟩ ?_
     · exact ⟨fun _ _ _ h=>(by cases h),fun h=>(by cases h),fr_grown (((Grown.refl W)).drew) _,hR⟩
     · as_aux_lemma=>
        intro a wx p vs hJ hdep hpi hval hfr K hK
        rw [if_pos (show Region.wanted _ _=true from rfl)]
        have d0:a.tmps.getD 10 undef=(.pointer (some ⟨B10,0,none⟩)):=hfr 10 (by kernel_rfl)
        have cc:wx.cell? ⟨B10,0,none⟩=some (.int .i64 0):=by rw [cell_of (hJ.keep h10 nr10)];rfl
        have hJ':=hJ.put 0 rfl (by decide) (by decide)
        clear hval hfr hdep hJ
        simp only [Array.getD_eq_getD_getElem?] at d0
        go_simp
        exact hK _ _ hJ'
     · as_aux_lemma=>
        intro a wx p vs hJ hdep hpi hval hfr K hK
        rw [if_pos (show Region.wanted _ _=true from rfl)]
        have d0:a.tmps.getD 179 undef=(.int .i64 0):=(hval 0 _ 179 (hdep 0 (by kernel_rfl)) (by rfl) rfl).trans (hJ.v 0 _ rfl (hdep 0 (by kernel_rfl)))
        have hJ':=hJ.put 1 rfl (by decide) (by decide)
        clear hval hfr hdep hJ
        simp only [Array.getD_eq_getD_getElem?] at d0
        go_simp
        exact hK _ _ hJ'
     · as_aux_lemma=>
        intro a wx p vs hJ hdep hpi hval hfr K hK
        rw [if_pos (show Region.wanted _ _=true from rfl)]
        have d0:a.tmps.getD 180 undef=(.bool true):=(hval 1 _ 180 (hdep 1 (by kernel_rfl)) (by rfl) rfl).trans (hJ.v 1 _ rfl (hdep 1 (by kernel_rfl)))
        have hJ':=hJ.put 2 rfl (by decide) (by decide)
        clear hval hfr hdep hJ
        simp only [Array.getD_eq_getD_getElem?] at d0
        go_simp
        exact hK _ _ hJ'
     · as_aux_lemma=>
        intro a wx p vs hJ hdep hpi hval hfr K hK
        have dg:a.tmps.getD 181 undef=(.bool true):=(hval 2 _ 181 (hdep 2 (by kernel_rfl)) (by rfl) rfl).trans (hJ.v 2 _ rfl (hdep 2 (by kernel_rfl)))
        rw [if_pos (wanted_of rfl rfl dg)]
        have d0:a.tmps.getD 7 undef=(.string tx):=hfr 7 (by kernel_rfl)
        have hJ':=hJ.put 3 rfl (by decide) (by decide)
        clear hval hfr hdep hJ
        simp only [Array.getD_eq_getD_getElem?] at d0
        go_simp
        exact hK _ _ hJ'
     · as_aux_lemma=>
        intro a wx p vs hJ hdep hpi hval hfr K hK
        have dg:a.tmps.getD 181 undef=(.bool true):=(hval 2 _ 181 (hdep 2 (by kernel_rfl)) (by rfl) rfl).trans (hJ.v 2 _ rfl (hdep 2 (by kernel_rfl)))
        rw [if_pos (wanted_of rfl rfl dg)]
        have d0:a.tmps.getD 182 undef=(.string tx):=(hval 3 _ 182 (hdep 3 (by kernel_rfl)) (by rfl) rfl).trans (hJ.v 3 _ rfl (hdep 3 (by kernel_rfl)))
        have HCx:=Hid.mk' (HCt.out wx)
        have HJ:=Hid.mk' hJ
        clear hval hfr hdep hJ
        simp only [Array.getD_eq_getD_getElem?] at d0
        go_simp
        refine ⟨trivial,?_⟩
        refine (callsIn_wide.2 HCx.out).mono ?_
        rintro e w' ⟨y1,y3,rfl,hb⟩
        refine hK _ _ ⟨fun j y hy hp => ?_,fun _=>⟨y1,y3,by simp⟩,HJ.out.fr.trans (fr_below hb (Nat.le_refl _) _) (fun _ _ e=>e),?_⟩
        · by_cases e:j=4
          · subst e;cases hy
          · rw [if_neg e];exact HJ.out.v j y hy (by simpa [e] using hp)
        · have:(p 16 || (16:Nat) == 4)=p 16:=by simp
          rw [this]
          exact (hb.block _ (blk_lt HJ.out.box)).trans HJ.out.box
     · as_aux_lemma=>
        intro a wx p vs hJ hdep hpi hval hfr K hK
        have dg:a.tmps.getD 181 undef=(.bool true):=(hval 2 _ 181 (hdep 2 (by kernel_rfl)) (by rfl) rfl).trans (hJ.v 2 _ rfl (hdep 2 (by kernel_rfl)))
        rw [if_pos (wanted_of rfl rfl dg)]
        have q4:=hdep 4 (by kernel_rfl)
        obtain ⟨y1,y3,hy4⟩:=hJ.c q4
        have d0:a.tmps.getD 183 undef = .slice y1 m y3:=(hval 4 _ 183 q4 (by rfl) rfl).trans hy4
        have hJ':=hJ.put 5 rfl (by decide) (by decide)
        clear hval hfr hdep hJ
        simp only [Array.getD_eq_getD_getElem?] at d0
        go_simp
        exact hK _ _ hJ'
     · as_aux_lemma=>
        intro a wx p vs hJ hdep hpi hval hfr K hK
        have dg:a.tmps.getD 181 undef=(.bool true):=(hval 2 _ 181 (hdep 2 (by kernel_rfl)) (by rfl) rfl).trans (hJ.v 2 _ rfl (hdep 2 (by kernel_rfl)))
        rw [if_pos (wanted_of rfl rfl dg)]
        have d0:a.tmps.getD 9 undef=(.pointer (some ⟨B9,0,none⟩)):=hfr 9 (by kernel_rfl)
        have cc:wx.cell? ⟨B9,0,none⟩=some (.int .i64 (dl:Int)):=by rw [cell_of (hJ.keep h9 nr9)];rfl
        have hJ':=hJ.put 6 rfl (by decide) (by decide)
        clear hval hfr hdep hJ
        simp only [Array.getD_eq_getD_getElem?] at d0
        go_simp
        exact hK _ _ hJ'
     · as_aux_lemma=>
        intro a wx p vs hJ hdep hpi hval hfr K hK
        have dg:a.tmps.getD 181 undef=(.bool true):=(hval 2 _ 181 (hdep 2 (by kernel_rfl)) (by rfl) rfl).trans (hJ.v 2 _ rfl (hdep 2 (by kernel_rfl)))
        rw [if_pos (wanted_of rfl rfl dg)]
        have d0:a.tmps.getD 184 undef=(.int .i64 (m:Int)):=(hval 5 _ 184 (hdep 5 (by kernel_rfl)) (by rfl) rfl).trans (hJ.v 5 _ rfl (hdep 5 (by kernel_rfl)))
        have d1:a.tmps.getD 185 undef=(.int .i64 (dl:Int)):=(hval 6 _ 185 (hdep 6 (by kernel_rfl)) (by rfl) rfl).trans (hJ.v 6 _ rfl (hdep 6 (by kernel_rfl)))
        have hJ':=hJ.put 7 rfl (by decide) (by decide)
        clear hval hfr hdep hJ
        simp only [Array.getD_eq_getD_getElem?] at d0 d1
        go_simp
        exact hK _ _ hJ'
     · as_aux_lemma=>
        intro a wx p vs hJ hdep hpi hval hfr K hK
        rw [if_pos (show Region.wanted _ _=true from rfl)]
        have d0:a.tmps.getD 181 undef=(.bool true):=(hval 2 _ 181 (hdep 2 (by kernel_rfl)) (by rfl) rfl).trans (hJ.v 2 _ rfl (hdep 2 (by kernel_rfl)))
        have d1:a.tmps.getD 186 undef=(.bool true):=(hval 7 _ 186 (hdep 7 (by kernel_rfl)) (by rfl) rfl).trans (hJ.v 7 _ rfl (hdep 7 (by kernel_rfl)))
        have hJ':=hJ.put 8 rfl (by decide) (by decide)
        clear hval hfr hdep hJ
        simp only [Array.getD_eq_getD_getElem?] at d0 d1
        go_simp
        exact hK _ _ hJ'
     · as_aux_lemma=>
        intro a wx p vs hJ hdep hpi hval hfr K hK
        rw [if_pos (show Region.wanted _ _=true from rfl)]
        have d0:a.tmps.getD 187 undef=(.bool true):=(hval 8 _ 187 (hdep 8 (by kernel_rfl)) (by rfl) rfl).trans (hJ.v 8 _ rfl (hdep 8 (by kernel_rfl)))
        have hJ':=hJ.put 9 rfl (by decide) (by decide)
        clear hval hfr hdep hJ
        simp only [Array.getD_eq_getD_getElem?] at d0
        go_simp
        exact hK _ _ hJ'
     · as_aux_lemma=>
        intro a wx p vs hJ hdep hpi hval hfr K hK
        have dg:a.tmps.getD 188 undef=(.bool true):=(hval 9 _ 188 (hdep 9 (by kernel_rfl)) (by rfl) rfl).trans (hJ.v 9 _ rfl (hdep 9 (by kernel_rfl)))
        rw [if_pos (wanted_of rfl rfl dg)]
        have d0:a.tmps.getD 7 undef=(.string tx):=hfr 7 (by kernel_rfl)
        have hJ':=hJ.put 10 rfl (by decide) (by decide)
        clear hval hfr hdep hJ
        simp only [Array.getD_eq_getD_getElem?] at d0
        go_simp
        exact hK _ _ hJ'
     · as_aux_lemma=>
        intro a wx p vs hJ hdep hpi hval hfr K hK
        have dg:a.tmps.getD 188 undef=(.bool true):=(hval 9 _ 188 (hdep 9 (by kernel_rfl)) (by rfl) rfl).trans (hJ.v 9 _ rfl (hdep 9 (by kernel_rfl)))
        rw [if_pos (wanted_of rfl rfl dg)]
        have d0:a.tmps.getD 189 undef=(.string tx):=(hval 10 _ 189 (hdep 10 (by kernel_rfl)) (by rfl) rfl).trans (hJ.v 10 _ rfl (hdep 10 (by kernel_rfl)))
        have hJ':=hJ.put 11 rfl (by decide) (by decide)
        clear hval hfr hdep hJ
        simp only [Array.getD_eq_getD_getElem?] at d0
        go_simp
        exact hK _ _ hJ'
     · as_aux_lemma=>
        intro a wx p vs hJ hdep hpi hval hfr K hK
        have dg:a.tmps.getD 188 undef=(.bool true):=(hval 9 _ 188 (hdep 9 (by kernel_rfl)) (by rfl) rfl).trans (hJ.v 9 _ rfl (hdep 9 (by kernel_rfl)))
        rw [if_pos (wanted_of rfl rfl dg)]
        have d0:a.tmps.getD 9 undef=(.pointer (some ⟨B9,0,none⟩)):=hfr 9 (by kernel_rfl)
        have cc:wx.cell? ⟨B9,0,none⟩=some (.int .i64 (dl:Int)):=by rw [cell_of (hJ.keep h9 nr9)];rfl
        have hJ':=hJ.put 12 rfl (by decide) (by decide)
        clear hval hfr hdep hJ
        simp only [Array.getD_eq_getD_getElem?] at d0
        go_simp
        exact hK _ _ hJ'
     · as_aux_lemma=>
        intro a wx p vs hJ hdep hpi hval hfr K hK
        have dg:a.tmps.getD 188 undef=(.bool true):=(hval 9 _ 188 (hdep 9 (by kernel_rfl)) (by rfl) rfl).trans (hJ.v 9 _ rfl (hdep 9 (by kernel_rfl)))
        rw [if_pos (wanted_of rfl rfl dg)]
        have d0:a.tmps.getD 191 undef=(.int .i64 (dl:Int)):=(hval 12 _ 191 (hdep 12 (by kernel_rfl)) (by rfl) rfl).trans (hJ.v 12 _ rfl (hdep 12 (by kernel_rfl)))
        have hwr:IntKind.i64.wrap (4*(dl:Int))=4*(dl:Int):=IntWalk.i64_in _ (by omega)
        have hJ':=hJ.put 13 rfl (by decide) (by decide)
        clear hval hfr hdep hJ
        simp only [Array.getD_eq_getD_getElem?] at d0
        go_simp
        exact hK _ _ hJ'
     · as_aux_lemma=>
        intro a wx p vs hJ hdep hpi hval hfr K hK
        have dg:a.tmps.getD 188 undef=(.bool true):=(hval 9 _ 188 (hdep 9 (by kernel_rfl)) (by rfl) rfl).trans (hJ.v 9 _ rfl (hdep 9 (by kernel_rfl)))
        rw [if_pos (wanted_of rfl rfl dg)]
        have d0:a.tmps.getD 190 undef=(.int .i64 (tx.size:Int)):=(hval 11 _ 190 (hdep 11 (by kernel_rfl)) (by rfl) rfl).trans (hJ.v 11 _ rfl (hdep 11 (by kernel_rfl)))
        have d1:a.tmps.getD 192 undef=(.int .i64 (4*(dl:Int))):=(hval 13 _ 192 (hdep 13 (by kernel_rfl)) (by rfl) rfl).trans (hJ.v 13 _ rfl (hdep 13 (by kernel_rfl)))
        have hJ':=hJ.put 14 rfl (by decide) (by decide)
        clear hval hfr hdep hJ
        simp only [Array.getD_eq_getD_getElem?] at d0 d1
        go_simp
        exact hK _ _ hJ'
     · as_aux_lemma=>
        intro a wx p vs hJ hdep hpi hval hfr K hK
        rw [if_pos (show Region.wanted _ _=true from rfl)]
        have d0:a.tmps.getD 188 undef=(.bool true):=(hval 9 _ 188 (hdep 9 (by kernel_rfl)) (by rfl) rfl).trans (hJ.v 9 _ rfl (hdep 9 (by kernel_rfl)))
        have d1:a.tmps.getD 193 undef=(.bool true):=(hval 14 _ 193 (hdep 14 (by kernel_rfl)) (by rfl) rfl).trans (hJ.v 14 _ rfl (hdep 14 (by kernel_rfl)))
        have hJ':=hJ.put 15 rfl (by decide) (by decide)
        clear hval hfr hdep hJ
        simp only [Array.getD_eq_getD_getElem?] at d0 d1
        go_simp
        exact hK _ _ hJ'
     · as_aux_lemma=>
        intro a wx p vs hJ hdep hpi hval hfr K hK
        rw [if_pos (show Region.wanted _ _=true from rfl)]
        have d0:a.tmps.getD 4 undef=(.pointer (some ⟨w.heap.size+1,0,none⟩)):=hfr 4 (by kernel_rfl)
        have d1:a.tmps.getD 194 undef=(.bool true):=(hval 15 _ 194 (hdep 15 (by kernel_rfl)) (by rfl) rfl).trans (hJ.v 15 _ rfl (hdep 15 (by kernel_rfl)))
        have hbx:=hJ.box
        rw [hpi] at hbx
        have hfz:wx.frozen? ⟨w.heap.size+1,0,none⟩=false:=free_of hbx
        have hcz:wx.cell? ⟨w.heap.size+1,0,none⟩=some (.bool false):=by rw [cell_of hbx];rfl
        have HJ:=Hid.mk' (And.intro hJ hbx)
        clear hval hfr hdep hJ hbx
        simp only [Array.getD_eq_getD_getElem?] at d0 d1
        go_simp
        refine hK undef _ ⟨fun j y hy hp => ?_,fun hp => ?_,HJ.out.1.fr.trans ⟨rfl,rfl,rfl,by simp,fun k _ hn=>Below.heap_setCell wx ⟨w.heap.size+1,0,none⟩ _ k hn⟩ (fun _ _ e=>e),?_⟩
        · by_cases e:j=16
          · subst e;cases hy
          · rw [if_neg e];exact HJ.out.1.v j y hy (by simpa [e] using hp)
        · exact HJ.out.1.c (by simpa using hp)
        · have:(p 16 || (16:Nat) == 16)=true:=by simp
          rw [this]
          exact (set_heap HJ.out.2).trans rfl
     · intro vs wf hJ
       have hbx:=hJ.box
       have hwf:Below w.heap.size w wf:=(HB3.out.trans (HK.out.2.1.mono HB3.out.size)).trans (hJ.fr.below (base:=w.heap.size) (fun k hk=>by have hk:k=w.heap.size+1:=hk;omega) (by have:=HB3.out.size;have:=HK.out.2.1.size;omega))
       have hKf:wf.heap[DD]? = some (.deferred (some [])):=hJ.keep HK.out.1 (by have:=HL.out;have:=blk_lt HR3.out;omega)
       have hne:w.heap.size+1≠DD:=by have:=HL.out;have:=blk_lt HR3.out;omega
       have hR3:(wf.putObj DD (.deferred none)).heap[w.heap.size+1]? = some (.cells #[.bool true] 4 (0,0)):=(World.putObj_heap_other hne).trans (by rw [hbx];simp)
       have c0:(wf.putObj DD (.deferred none)).cell? ⟨w.heap.size+1,0,none⟩=some (.bool true):=(cell_of hR3).trans rfl
       have hbl:=belowK_b (w:=w) (Nat.le_refl _) wf DD (.deferred (some [])) (.deferred none) (by have:=HL.out;have:=HB3.out.size;omega) hKf rfl rfl
       have HF:=Hid.mk' (And.intro hwf hbl)
       rw [putL_eq]
       simp only [putsL,List.set_cons_zero,List.set_cons_succ,Nat.zero_add,Nat.reduceAdd]
       clear hJ hbx hwf hbl hR3
       gi_wp2
       refine ⟨by simp,.inl ⟨_,_,rfl,run_takeDeferred hKf,?_⟩⟩
       refine ⟨.bool true,?_,rfl,HF.out.1.trans HF.out.2⟩
       have hr:Tryz.f5.results=#[.cell 4 4]:=rfl
       simp only [results,hr]
       simp [go_sem,c0]
    case round=>
     intro l pre x W hpre hW
     obtain ⟨xr,xd,xl,xt,xa,xb⟩:=x
     rw [show (#[50]:Array Tmp).zip (encS ⟨xr,xd,xl,xt,xa,xb⟩)=#[(50,Value.agg (fs1 ⟨xr,xd,xl,xt,xa,xb⟩).toArray)] from zip1 _ _]
     unfold fs1
     gi_wp2
     refine ⟨(Grown.refl _).alloc _,?_⟩
     rintro X ⟨hI1,dn,lf,hG,h9,h10,h11,h12⟩ hXs hXk
     have hcx:X.heap[W.heap.size]? = some (.cells #[.int .i64 xr,.int .i64 xd,.int .i64 xl,.int .i64 xt,.int .i64 xa,.int .i64 xb] 47 (0,0)):=by rw [hXk _ (by omega)];exact heap_alloc_new W _
     have hFN:=fit_next HMO.out.2.1 HMO.out.2.2.1 hG (by have:=HMO.out.2.2.2;rw [HL0.out] at this;exact this) hpre
     obtain ⟨e1,e2,e3,e4,⟨dn',lf',hG',e5,e6⟩,e7⟩:=hFN
     rw [HBd.out] at e4
     simp only at e1 e2 e5 e6 e7
     subst e1 e2
     obtain ⟨u1,u2,u3⟩:=hG.lens HMO.out.2.1 HMO.out.2.2.1
     have v1:(dn.length:Int)≤16777216:=by omega
     have v2:(lf.length:Int)≤1048576:=by omega
     have v3:(pre.length:Int)≤1048576:=by omega
     have dX:X.heap[w.heap.size]? = some (.cells #[.slice va n vc] 24 (0,0)):=HD.out X hI1
     have hPX:=HP.out X (HB3.out.trans (hI1.mono HB3.out.size))
     have HZX:Hid (W.heap.size+1=X.heap.size):=by rw [hXs];simp [Hid]
     have HFD:Hid (∀ V,Grown (X.setCell ⟨B10+1,0,none⟩ (.int .i64 ((pre.length:Int)+1))) V→KAll (fun k=>h+2≤k∨h≤k) W3.heap.size X ((V.setCell ⟨B9,0,none⟩ (.int .i64 ((dn.length:Int)+xa))).setCell ⟨B10,0,none⟩ (.int .i64 ((lf.length:Int)+(xb - xt))))∧FitI rs l0 W3 B9 B10 B12 bd (pre++[⟨xr,dn.length,lf.length,xt,xa,xb⟩]) ((V.setCell ⟨B9,0,none⟩ (.int .i64 ((dn.length:Int)+xa))).setCell ⟨B10,0,none⟩ (.int .i64 ((lf.length:Int)+(xb - xt))))):=fun V hg=>FitI.done hI1 h9 h10 h11 h12 hg (by simp) hG' e5 e6 HL.out.1 HL.out.2.1 HL.out.2.2.1 (by have:=HL.out;omega)
     obtain ⟨Y,hY⟩:∃ Y,Y=X.setCell ⟨B10+1,0,none⟩ (.int .i64 ((pre.length:Int)+1)):=⟨_,rfl⟩
     have hyk:∀ k,k≠B10+1→Y.heap[k]? = X.heap[k]? := fun k hk=>by rw [hY];exact Below.heap_setCell X ⟨B10+1,0,none⟩ _ k hk
     have hlt:=HL.out
     have hbz:=HB3.out.size
     have hxz:=HZX.out
     have hx12:=blk_lt h12
     have hx3:=blk_lt HR3.out
     have y9:=(hyk B9 (by omega)).trans h9
     have y10:=(hyk B10 (by omega)).trans h10
     have y12:=(hyk B12 (by omega)).trans h12
     have yd:=(hyk w.heap.size (by omega)).trans dX
     have ycx:=(hyk W.heap.size (by omega)).trans hcx
     have y11:Y.heap[B10+1]? = some (.cells #[.int .i64 ((pre.length:Int)+1)] 3 (0,0)):=by rw [hY];exact set_heap h11
     have hPY:PsR Y (.slice va n vc) rs:=by
      rw [hY]
      exact HP.out _ (HB3.out.trans ((Below.setCell (p:=⟨B10+1,0,none⟩) hI1 (by show _≤B10+1;omega) _).mono hbz))
     have HPY:=Hid.mk' hPY
     have c11:X.cell? ⟨B10+1,0,none⟩=some (.int .i64 pre.length):=by rw [cell_of h11];rfl
     have f11:X.frozen? ⟨B10+1,0,none⟩=false:=free_of h11
     clear hXk hXs hG hG' hI1 u1 u2 u3 hpre hyk hlt hbz hxz hx12 hx3 e5 e6 h9 h10 h11 h12 dX hcx hPX hPY
     have HYX:=Hid.mk' hY
     rw [←hY] at HFD
     generalize dn.length=D at *
     generalize lf.length=L at *
     generalize pre.length=M at *
     have k0:Y.cell? ⟨W.heap.size,0,none⟩=some (.int .i64 xr):=by rw [cell_of ycx];rfl
     have k1:Y.cell? ⟨W.heap.size,1,none⟩=some (.int .i64 D):=by rw [cell_of ycx];rfl
     have k2:Y.cell? ⟨W.heap.size,2,none⟩=some (.int .i64 L):=by rw [cell_of ycx];rfl
     have k3:Y.cell? ⟨W.heap.size,3,none⟩=some (.int .i64 xt):=by rw [cell_of ycx];rfl
     have k4:Y.cell? ⟨W.heap.size,4,none⟩=some (.int .i64 xa):=by rw [cell_of ycx];rfl
     have k5:Y.cell? ⟨W.heap.size,5,none⟩=some (.int .i64 xb):=by rw [cell_of ycx];rfl
     have c9:Y.cell? ⟨B9,0,none⟩=some (.int .i64 D):=by rw [cell_of y9];rfl
     have c10:Y.cell? ⟨B10,0,none⟩=some (.int .i64 L):=by rw [cell_of y10];rfl
     have cy11:Y.cell? ⟨B10+1,0,none⟩=some (.int .i64 ((M:Int)+1)):=by rw [cell_of y11];rfl
     have c12:Y.cell? ⟨B12,0,none⟩=some (.int .i64 bd):=by rw [cell_of y12];rfl
     have c2:Y.cell? ⟨w.heap.size,0,none⟩=some (.slice va n vc):=by rw [cell_of yd];rfl
     have f9:Y.frozen? ⟨B9,0,none⟩=false:=free_of y9
     have f10:Y.frozen? ⟨B10,0,none⟩=false:=free_of y10
     have HY9:=Hid.mk' (And.intro y9 (And.intro y10 ycx))
     have n1:B9≠B10:=by have:=HL.out;omega
     have n2:W.heap.size≠B9:=by have:=HL.out;have:=HZX.out;have:=blk_lt y12;have:=blk_lt ycx;omega
     clear y9 y10 y11 y12 yd ycx
     subst hY
     rcases e7 with ⟨rfl,rfl,rfl,rfl⟩ | ⟨i,hi,rfl,rfl,rfl,g1,g2,g3,g4,g5⟩
     · as_aux_lemma=>
        gi_wp2
        generalize X.setCell ⟨B10+1,0,none⟩ (.int .i64 ((M:Int)+1))=Y at *
        have q0:=fun m os=>((Grown.refl Y).quiet m os).cellv k0
        have hmx:Tryz.prog.follows .mixedOrders=true:=by kernel_rfl
        refine wpIn_region_plain hmx (by kernel_rfl) (by kernel_rfl) ?_
        repeat (go_big_quiet_step (fail))
        refine wpQuiet_nil ?_
        intro _ hw'
        obtain ⟨⟨nq,osq⟩,hw''⟩:=hw'
        subst hw''
        have hgv:Grown Y (Go.Sort.grow (Y.drewN nq) osq):=(Grown.refl Y).quiet nq osq
        have HV:=Hid.mk' (HFD.out _ hgv)
        have v9:=(hgv.below.block _ (blk_lt HY9.out.1)).trans HY9.out.1
        have v10:=(hgv.below.block _ (blk_lt HY9.out.2.1)).trans HY9.out.2.1
        have vcx:=(hgv.below.block _ (blk_lt HY9.out.2.2)).trans HY9.out.2.2
        generalize Go.Sort.grow (Y.drewN nq) osq=V at *
        have j9:V.cell? ⟨B9,0,none⟩=some (.int .i64 D):=by rw [cell_of v9];rfl
        have j4:V.cell? ⟨W.heap.size,4,none⟩=some (.int .i64 1):=by rw [cell_of vcx];rfl
        have g9:V.frozen? ⟨B9,0,none⟩=false:=free_of v9
        have t10:=(Below.heap_setCell V ⟨B9,0,none⟩ (.int .i64 (D+1)) B10 (Ne.symm n1)).trans v10
        have tcx:=(Below.heap_setCell V ⟨B9,0,none⟩ (.int .i64 (D+1)) W.heap.size n2).trans vcx
        have j10:(V.setCell ⟨B9,0,none⟩ (.int .i64 (D+1))).cell? ⟨B10,0,none⟩=some (.int .i64 L):=by rw [cell_of t10];rfl
        have j3:(V.setCell ⟨B9,0,none⟩ (.int .i64 (D+1))).cell? ⟨W.heap.size,3,none⟩=some (.int .i64 1):=by rw [cell_of tcx];rfl
        have j5:(V.setCell ⟨B9,0,none⟩ (.int .i64 (D+1))).cell? ⟨W.heap.size,5,none⟩=some (.int .i64 0):=by rw [cell_of tcx];rfl
        have g10:(V.setCell ⟨B9,0,none⟩ (.int .i64 (D+1))).frozen? ⟨B10,0,none⟩=false:=free_of t10
        clear hgv v9 v10 vcx t10 tcx HFD HY9 k0 k1 k2 k3 k4 k5 c9 c10 cy11 c12 c2 f9 f10
        gi_wp2
        exact HV.out
     · have hin:(i:Int)<(n:Int):=by have:=HN.out;omega
       have hi0:(0:Int)≤(i:Int):=by omega
       obtain ⟨a',c',e',_,hPq⟩:=HPY.out
       obtain ⟨g,o,ha',hP2⟩:=hPq.resolve_left (fun e=>by rw [e] at hi;simp at hi)
       injection e' with ee1 ee2 ee3
       clear ee2 ee3
       rw [ha'] at ee1
       subst ee1
       obtain ⟨av,kv,pv,rv,q0,q1,q2,q3,q4,q5,q6,hR⟩:=hP2 i hi
       obtain ⟨ka,kc,hkv,_,_⟩:=hR.k
       obtain ⟨ra,rc,hrv,_,_⟩:=hR.r
       clear hR hP2 hPq ha' q0 q1 q3 q4 HPY
       have hOk:=chk_ok (HMO.out.2.2.1 _ (List.getElem_mem hi))
       have hrn:(rs[i].res.length:Int)≤16:=by have:=hOk.r16;omega
       have hkn:(rs[i].key.length:Int)≤8:=by have:=hOk.k8;omega
       clear hOk
       generalize rs[i].key.length=kn at *
       generalize rs[i].res.length=rn at *
       generalize rs[i].cu=cu at *
       subst hkv hrv
       have hgb:(cu+xb != (rn:Int))=false:=by simp [g1]
       have hxb:xb≤16:=by omega
       have hcu:cu≤16:=by omega
       have HG1:=Hid.mk' g1
       clear g1
       as_aux_lemma=>
        gi_wp2
        generalize X.setCell ⟨B10+1,0,none⟩ (.int .i64 ((M:Int)+1))=Y at *
        have p0:=fun m os=>((Grown.refl Y).quiet m os).cellv k0
        have p2:=fun m os=>((Grown.refl Y).quiet m os).cellv c2
        have p3:=fun m os=>((Grown.refl Y).quiet m os).cellv k3
        have p4:=fun m os=>((Grown.refl Y).quiet m os).cellv k4
        have p5:=fun m os=>((Grown.refl Y).quiet m os).cellv k5
        have r2:=fun m os=>((Grown.refl Y).quiet m os).cellv q2
        have r5:=fun m os=>((Grown.refl Y).quiet m os).cellv q5
        have r6:=fun m os=>((Grown.refl Y).quiet m os).cellv q6
        clear q2 q5 q6
        have hmx:Tryz.prog.follows .mixedOrders=true:=by kernel_rfl
        refine wpIn_region_plain hmx (by kernel_rfl) (by kernel_rfl) ?_
        repeat (go_big_quiet_step (fail))
        refine wpQuiet_nil ?_
        intro _ hw'
        obtain ⟨⟨nq,osq⟩,hw''⟩:=hw'
        subst hw''
        clear p0 p2 p3 p4 p5 r2 r5 r6
        have hgv:Grown Y (Go.Sort.grow (Y.drewN nq) osq):=(Grown.refl Y).quiet nq osq
        have HV:=Hid.mk' (HFD.out _ hgv)
        have v9:=(hgv.below.block _ (blk_lt HY9.out.1)).trans HY9.out.1
        have v10:=(hgv.below.block _ (blk_lt HY9.out.2.1)).trans HY9.out.2.1
        have vcx:=(hgv.below.block _ (blk_lt HY9.out.2.2)).trans HY9.out.2.2
        generalize Go.Sort.grow (Y.drewN nq) osq=V at *
        have j9:V.cell? ⟨B9,0,none⟩=some (.int .i64 D):=by rw [cell_of v9];rfl
        have j4:V.cell? ⟨W.heap.size,4,none⟩=some (.int .i64 cu):=by rw [cell_of vcx];rfl
        have g9:V.frozen? ⟨B9,0,none⟩=false:=free_of v9
        have t10:=(Below.heap_setCell V ⟨B9,0,none⟩ (.int .i64 (D+cu)) B10 (Ne.symm n1)).trans v10
        have tcx:=(Below.heap_setCell V ⟨B9,0,none⟩ (.int .i64 (D+cu)) W.heap.size n2).trans vcx
        have j10:(V.setCell ⟨B9,0,none⟩ (.int .i64 (D+cu))).cell? ⟨B10,0,none⟩=some (.int .i64 L):=by rw [cell_of t10];rfl
        have j3:(V.setCell ⟨B9,0,none⟩ (.int .i64 (D+cu))).cell? ⟨W.heap.size,3,none⟩=some (.int .i64 kn):=by rw [cell_of tcx];rfl
        have j5:(V.setCell ⟨B9,0,none⟩ (.int .i64 (D+cu))).cell? ⟨W.heap.size,5,none⟩=some (.int .i64 xb):=by rw [cell_of tcx];rfl
        have g10:(V.setCell ⟨B9,0,none⟩ (.int .i64 (D+cu))).frozen? ⟨B10,0,none⟩=false:=free_of t10
        clear hgv v9 v10 vcx t10 tcx HFD HY9 k0 k1 k2 k3 k4 k5 c9 c10 cy11 c12 c2 f9 f10
        gi_wp2
        exact HV.out
end Go.Proofs
