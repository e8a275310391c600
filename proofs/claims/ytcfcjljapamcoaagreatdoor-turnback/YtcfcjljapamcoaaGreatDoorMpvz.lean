/-
  Several texts in one (Tnz Mgpz S0z S3z).
-/
import Derived.RangeFuncNested
import Derived.RangeFuncBound
import Derived.RangeFuncCalls
import Derived.RangeFuncLeaves
import Derived.Shelf.Abstract
import Derived.Shelf.RegionOpen
import Derived.WalkKit
import Derived.WalkSpells
import Derived.WalkLawsBesides
import Derived.OwnWalkIn
import Derived.TacticsInMore
import Derived.LoopNIn
import Derived.LoopIn
import Derived.BigQuiet
import Derived.RegionIn
import Derived.Deep.QuietTactic
import Derived.Lib.OthersKept
import Derived.Maps.AppendAt
import Derived.Lib.IndexBytes
import Derived.Lib.SmallJoins
import Derived.Deep.RegionWith
import Derived.ArgAppend
import Derived.Laws.CopyOwn
import Derived.Laws.MakeOwn
import Derived.Test.YtcfcjljapamcoaaGreatDoorTex
import Derived.Test.YtcfcjljapamcoaaGreatDoorMgox
import Derived.Test.YtcfcjljapamcoaaGreatDoorMglx
import Derived.Shelf.SlSortCmp.QuietGrown
import Derived.Deep.Upon
import Derived.Test.YtcfcjljapamcoaaGreatDoorMgnx
import Derived.Test.YtcfcjljapamcoaaGreatDoorMgmx
import Derived.Test.YtcfcjljapamcoaaGreatDoorMpsx
import Derived.Test.YtcfcjljapamcoaaGreatDoorMptx
import Derived.Test.YtcfcjljapamcoaaGreatDoorMprx
namespace Go.Proofs
open Go.RowKit Go.Shelf
set_option maxRecDepth 100000
theorem metB_iff {a b:List (Int × Int)} (ha:∀ x∈a,x.1≤x.2) (hb:∀ x∈b,x.1≤x.2):metB a b=true↔∃ u,inL a u=true∧inL b u=true:=by
 unfold metB inL
 simp only [List.any_eq_true,Bool.and_eq_true,decide_eq_true_eq,inR_iff]
 constructor
 · rintro ⟨y,hy,x,hx,h1,h2⟩
   have:=ha x hx
   have:=hb y hy
   by_cases h3:x.1≤y.1
   · exact ⟨y.1,⟨x,hx,h3,h2⟩,y,hy,by omega,by omega⟩
   · exact ⟨x.1,⟨x,hx,by omega,by omega⟩,y,hy,by omega,h1⟩
 · rintro ⟨u,⟨x,hx,h1,h2⟩,y,hy,h3,h4⟩
   exact ⟨y,hy,x,hx,by omega,by omega⟩
theorem good_cons {x:Int × Int} {l:List (Int × Int)} : Good (x::l)↔Whole x∧Good l∧∀ y∈l,x.2+2≤y.1:=by
 unfold Good
 rw [List.pairwise_cons]
 constructor
 · rintro ⟨h1,h2,h3⟩
   exact ⟨h1 x (by simp),⟨fun y hy=>h1 y (by simp [hy]),h3⟩,h2⟩
 · rintro ⟨h1,⟨h2,h3⟩,h4⟩
   refine ⟨fun y hy => ?_,h4,h3⟩
   rw [List.mem_cons] at hy
   rcases hy with rfl | hy
   · exact h1
   · exact h2 y hy
theorem has_above {x:Int × Int} {l:List (Int × Int)} (h:Good (x::l)) {u:Int} (hu:hasU l u):x.2+2≤u:=by
 obtain ⟨y,hy,h1,_⟩:=hu
 have:=(good_cons.1 h).2.2 y hy
 omega
attribute [local go_sem] Oper.semAt_some
theorem row_below5 {w w':World} {base n:Nat} {e:TypeId} {v:Value} {k:Nat} {xs:List Value} (h:w.ownsRow base e 1 v k xs) (hb:Below n w w') (hn:w.heap.size≤n):w'.ownsRow base e 1 v k xs:=by
 refine ⟨h.1,?_⟩
 rcases h.2 with h | ⟨g,cap,cur,rfl,h1,h2,h3⟩
 · exact .inl h
 · have:g<w.heap.size:=(Array.getElem?_eq_some_iff.1 h2).1
   exact .inr ⟨g,cap,cur,rfl,h1,(hb.block g (by omega)).trans h2,h3⟩
theorem wd_pos_size (u:Int) (h:wd u≠0):0<(put u).size:=by
 by_cases a:1114240≤u∧u≤1114367
 · rw [put_stray a];exact Nat.one_pos
 · by_cases b:(0≤u∧u<55296)∨(57343<u∧u≤1114111)
   · rw [put_rune b]
     obtain ⟨c,rfl⟩:∃ c:Nat,u=c:=⟨u.toNat,by omega⟩
     by_cases h1:c<128
     · rw [enc1 c h1,size_lit];simp
     · by_cases h2:c<2048
       · rw [enc2 c (by omega) h2,size_lit];simp
       · by_cases h3:c<65536
         · rw [enc3 c (by omega) h3 (by omega),size_lit];simp
         · rw [enc4 c (by omega) (by omega),size_lit];simp
   · exact absurd (wd_no (by omega) (by omega)) h
theorem bc_append (a b:List UInt8):bc (a++b)=bc a++bc b:=by simp [bc]
theorem bc_length (a:List UInt8):(bc a).length=a.length:=by simp [bc]
set_option maxHeartbeats 4000000 in
theorem rjoin_any (v:Value) (l:List Int) (w:World) (hv:Ints w v l) (hl:l.length≤4398046511104) :
 Calls Tryz.prog 91 #[v] w fun e w'=>e = .returned (JoinRes (joinB l))∧Below w.heap.size w w':=by
 obtain ⟨i0,hi0,hz0,hz1,hz2⟩:=uinfo_parts info5
 obtain ⟨a,cap,rfl,hc⟩:=hv
 obtain ⟨n,hn⟩:∃ n,l.length=n:=⟨_,rfl⟩
 have HN:Hid (l.length=n):=hn
 rw [hn] at hl ⊢
 obtain ⟨R,hR⟩:∃ R,joinB l=R:=⟨_,rfl⟩
 rw [hR]
 have HC:Hid (l=[]∨∃ g o,a=some ⟨g,o,none⟩∧∀ j,j<l.length→w.cell? ⟨g,o+j,none⟩=some (.int .i64 (l[j]?.getD 0))):=hc
 have HR:Hid (joinB l=R):=hR
 clear hc hR hn
 go_enter Tryz.func91,Tryz.ntmps91
 go_wp2_with fail
 go_loopw [4,5] (fun vo vi wr=>∃ (k:Nat) (acc:List UInt8),vi = .int .i64 k∧k≤n∧acc.length≤4*k∧wr.ownsRow w.heap.size 5 1 vo acc.length (bc acc)∧Hid (R=(joinB (l.drop k)).map (acc ++ ·))∧Below w.heap.size w wr) (fun _ vi _=>n - (intOf vi).toNat)
 case atStart=>
  refine ⟨0,[],rfl,Nat.zero_le _,Nat.zero_le _,World.ownsRow_lit w _ 0 (Nat.le_refl _) (by unfold maxLen;omega) rfl,?_,(Below.refl _ _).alloc (Nat.le_refl _) _⟩
  show R=(joinB l).map ([] ++ ·)
  rw [HR.out];cases R <;> rfl
 case round=>
  clear HR
  obtain ⟨k,acc,rfl,hk,hacc,hO,hJ,hb⟩:=hrel
  have HO:Hid (wr.ownsRow w.heap.size 5 1 u4 acc.length (bc acc)):=hO
  have HB:Hid (Below w.heap.size w wr):=hb
  clear hO hb
  by_cases hlt:k<n
  · have hk2:k<l.length:=by rw [HN.out];exact hlt
    obtain ⟨g,o,rfl,hcell⟩:=HC.out.resolve_left (fun e=>by rw [e] at hk2;simp at hk2)
    have hcx:=hcell k hk2
    have hgw:g<w.heap.size:=by
     obtain ⟨ob,ho,_⟩:=cells_of_cell hcx
     exact (Array.getElem?_eq_some_iff.1 ho).1
    have hc1:=(HB.out.cell (p:=⟨g,o+k,none⟩) hgw).trans hcx
    have hJ1:=hJ.out
    rw [List.drop_eq_getElem_cons hk2] at hJ1
    have hget:l[k]?.getD 0=l[k]:=by simp [hk2]
    rw [hget] at hc1
    generalize l[k]=u at hc1 hJ1
    clear hcell hcx hget hJ HC
    have hlt':(k:Int)<(n:Int):=by omega
    by_cases hw:wd u=0
    · as_aux_lemma=>
       have HRN:Hid (R=none):=by show R=none;rw [hJ1];simp [joinB,hw]
       have cW:Hid (∀ W:World,Calls Tryz.prog 90 #[.int .i64 u] W fun e w'=>e = .returned (.int .i64 0)∧w'=W):=fun W=>by have:=rwidth_any u W;rw [hw] at this;exact this
       clear hJ1 hw
       go_wp2_with (go_at_call 90;refine (cW.out _).mono ?_;rintro e w' ⟨rfl,rfl⟩)
       go_ret2
       exact ⟨by rw [HRN.out];rfl,HB.out⟩
    · as_aux_lemma=>
       have HJ2:Hid (R=(joinB (l.drop (k+1))).map ((acc++(put u).data.toList) ++ ·)):=by
        show R=_
        rw [hJ1,joinB_step hw,Option.map_map]
        congr 1
        funext t
        simp
       have hps:=put_size_le u
       have hp0:=wd_pos_size u hw
       have hw0:(wd u == 0)=false:=beq_eq_false_iff_ne.2 hw
       have cW:Hid (∀ W:World,Calls Tryz.prog 90 #[.int .i64 u] W fun e w'=>e = .returned (.int .i64 (wd u))∧w'=W):=fun W=>rwidth_any u W
       generalize wd u=d at *
       clear hJ1 hw
       go_wp2_with (go_at_call 90;refine (cW.out _).mono ?_;rintro e w' ⟨rfl,rfl⟩)
       refine (bytes_any _ _).mono ?_
       rintro e w2 ⟨v2,rfl,ho2,hb2⟩
       obtain ⟨m,hm⟩:∃ m,(put u).size=m:=⟨_,rfl⟩
       rw [hm] at ho2 hps hp0
       obtain ⟨g2,c2,rfl⟩:=Joins.ownsRow_form ho2 hp0
       have hO2:w2.ownsRow w.heap.size 5 1 u4 acc.length (bc acc):=row_below5 HO.out hb2 (Nat.le_refl _)
       have hB2:Below w.heap.size w w2:=HB.out.trans (hb2.mono HB.out.size)
       have HM:Hid ((put u).data.toList.length=m):=by show _=_;rw [←Lib.size_eq,hm]
       have hz:=hB2.size
       clear hb2 cW HO
       go_wp2_with (at_builtin;go_must (refine wpList_append_own _ rfl _ _ 153 rfl w.heap.size 5 i0 (.int .u8 0) 1 1 Tryz.underlying153 hi0 hz0 hz1 hz2 rfl (by decide) _ _ _ rfl hO2 ⟨g2,0,none⟩ m c2 (bc (put u).data.toList) rfl (by rw [bc_length,HM.out];omega) (fun j x hx=>ho2.cells rfl j x hx) (by intro x hx;simp [bc] at hx;obtain ⟨b,_,rfl⟩:=hx;rfl) (by unfold maxLen;omega) (by omega) (by omega) ?_);intro v' w3 hown' hgrow _)
       have hB3:Below w.heap.size w w3:=hB2.trans ((Below.refl _ w2).grown hgrow hz (fun j e=>(World.ownsRow.lt hO2 j e).1))
       exact ⟨⟨k+1,acc++(put u).data.toList,by go_num,by omega,by rw [List.length_append,HM.out];omega,by rw [bc_append,List.length_append,HM.out];exact hown',HJ2,hB3⟩,by simp [intOf];omega⟩
  · as_aux_lemma=>
     have hkn:k=n:=by omega
     have hRR:R=some acc:=by
      have:=hJ.out
      rw [List.drop_of_length_le (by rw [HN.out,hkn];exact Nat.le_refl _)] at this
      rw [this];simp [joinB]
     subst hRR
     have hcv:=conv_row wr _ u4 acc HO.out
     clear hJ HC
     go_wp2
     go_ret2
     exact ⟨rfl,HB.out⟩
end Go.Proofs
namespace Go.Proofs
open Go.RowKit Go.Shelf
set_option maxRecDepth 100000
attribute [local go_sem] Oper.semAt_some
attribute [local go_sem ↓] Go.wp_at_zero Go.wp_at_succ
def joinS (l:List Int):ByteArray:=match joinB l with | some t=>⟨t.toArray⟩ | none=>⟨#[]⟩
def joinE (l:List Int):Int:=match joinB l with | some _=>0 | none=>11
theorem joinRes_eq (l:List Int):JoinRes (joinB l) = .tuple #[.string (joinS l),.int .i64 (joinE l)]:=by
 unfold JoinRes joinS joinE
 cases joinB l <;> rfl
set_option maxHeartbeats 4000000 in
theorem rtext_any (v:Value) (l:List Int) (w:World) (hv:IR w v l) (hl:l.length≤4398046511104):Calls Tryz.prog 58 #[v] w fun e w'=>e = .returned (.string (joinS l))∧Below w.heap.size w w':=by
 have HJ:Hid (∀ W,Grown w W→Calls Tryz.prog 91 #[v] W fun e w'=>e = .returned (.tuple #[.string (joinS l),.int .i64 (joinE l)])∧Below w.heap.size w w'):=fun W g=>(rjoin_any v l W (hv.grown g).ints hl).mono fun e w' h=>⟨by rw [h.1,joinRes_eq],g.below.trans (h.2.mono g.size)⟩
 obtain ⟨v1,v2,v3,rfl⟩:=hv.sl
 clear hv hl
 go_enter Tryz.func58,Tryz.ntmps58
 go_wp2_with (go_at_call 91;refine (HJ.out _ (by (repeat (first | exact Grown.refl _ | refine Grown.alloc ?_ _ | refine Grown.drew ?_)))).mono ?_;rintro e w2 ⟨rfl,hb⟩)
 go_ret
 exact ⟨rfl,hb⟩
theorem unit_at {s:ByteArray} {p:Nat} (_hp:p<s.size):wd (uAt s p:Int)≠0:=by
 rw [wd_uAt]
 have:=uw_pos s p
 omega
theorem units_all (s:ByteArray):AllU (intsU (units s)):=by
 have:∀ k p,∀ x∈unitsN s k p,wd (x.2:Int)≠0:=by
  intro k
  induction k with
  | zero=>intro p x hx;simp [unitsN] at hx
  | succ k ih=>
   intro p x hx
   by_cases hp:p<s.size
   · rw [unitsN_step s k p hp] at hx
     rcases List.mem_cons.1 hx with rfl | hx
     · exact unit_at hp
     · exact ih _ x hx
   · rw [unitsN_end s _ p hp] at hx;simp at hx
 intro u hu
 obtain ⟨x,hx,rfl⟩:=List.mem_map.1 hu
 exact this _ _ x hx
def endOf (rs:List Rl) (s:ByteArray):List Stp × List Int:=match (wgh rs).1 with
 | some st=>((fin3 rs st (intsU (units s))).1,(fin3 rs st (intsU (units s))).2.1)
 | none=>([],[])
theorem may_ok {rs:List Rl} {s:ByteArray} (h:mayE rs s=0):∃ st,wgh rs=(some st,0,0)∧s.size≤16384∧Fin rs st∧(allE rs).2=0∧(∀ r∈rs,chk r=0)∧G3 rs (intsU (units s)) (endOf rs s).1 (endOf rs s).2 []:=by
 unfold mayE at h
 by_cases h1:(chkW rs).2≠0
 · rw [if_pos h1] at h;exact absurd h h1
 · rw [if_neg h1] at h
   by_cases h2:16384<s.size
   · rw [if_pos h2] at h;cases h
   · have hfe:fea rs=true:=by
      cases e:fea rs with
      | true=>rfl
      | false=>exact absurd (fea_chk e) h1
     obtain ⟨st,hw⟩:=wgh_zero2 hfe
     have hF:=wgh_fin hw
     have hc:=wgh_chk hw
     refine ⟨st,hw,by omega,hF,fea_all hw,hc,?_⟩
     have:=fin3_G3 hF hc (intsU (units s))
     unfold endOf
     rw [hw]
     exact this
def runT (rs:List Rl) (s:ByteArray):ByteArray:=if mayE rs s=0 then joinS (endOf rs s).2 else ⟨#[]⟩
end Go.Proofs
namespace Go.Proofs
open Go.RowKit Go.Shelf
set_option maxRecDepth 100000
theorem set_one_u {S:List (Int × Int)} (h:okS S=true) (h1:lenU S=1):∃ u,S=[(u,u)]:=by
 have hv:=(validB_iff S).1 (okS_valid h)
 have hl:tot S=1:=by
  unfold lenU at h1
  rwa [if_pos (okS_valid h)] at h1
 match S,h,hv,hl with
 | [],h,_,_=>simp [okS] at h
 | [x],_,_,hl=>
  simp [tot] at hl
  exact ⟨x.1,by rw [show x=(x.1,x.2) from rfl,show x.2=x.1 by omega]⟩
 | x::y::l,_,hv,hl=>
  exfalso
  have hw:∀ z∈x::y::l,z.1≤z.2:=fun z hz=>(hv.2.1 z hz).1
  have hp:∀ l:List (Int × Int),(∀ z∈l,z.1≤z.2)→0≤tot l:=by
   intro l
   induction l with
   | nil=>intro _;exact Int.le_refl _
   | cons z l ih=>
    intro h
    rw [tot_cons]
    have h1:=h z (by simp)
    have h2:=ih fun z hz=>h z (List.mem_cons_of_mem _ hz)
    omega
  rw [tot_cons,tot_cons] at hl
  have h1:=hw x (by simp)
  have h2:=hw y (by simp)
  have h3:=hp l fun z hz=>hw z (List.mem_cons_of_mem _ (List.mem_cons_of_mem _ hz))
  omega
theorem hasB_one {u v:Int} (h:hasB [(u,u)] v=true):v=u:=by
 unfold hasB at h
 simp [hasU] at h
 omega
theorem rest_alt2 {r:Rl} (ho:Ok r) (ht:telB r r.key.length=true) {k:Nat} (hk:k<r.key.length) :
 (lenU (r.key.getD k [])=1∧restP r (r.key.getD k []) k=⟨1,(rg (r.key.getD k []) 0).1,0,[]⟩) ∨
 (¬ lenU (r.key.getD k [])=1∧∃ (j:Nat) (q:Pc),r.res[j]? = some q∧q.y=k∧((q.k=2∧restP r (r.key.getD k []) k=⟨2,0,j,[]⟩)∨(q.k=3∧restP r (r.key.getD k []) k=⟨3,0,j,r.key.getD k []⟩))):=by
 rcases rest_alt ho ht hk with h | ⟨h1,j,q,h2,h3,h4⟩
 · exact .inl h
 · obtain ⟨i,q',e,_,hq',_,hy⟩:=spk_one (r:=r) (p:=k) (n:=(j:Int)) (by rw [h2];simp)
   obtain rfl:j=i:=by omega
   rw [h3] at hq'
   injection hq' with hq'
   subst hq'
   exact .inr ⟨h1,j,q,h3,hy,h4⟩
theorem key_ok {r:Rl} (ho:Ok r) {k:Nat} (hk:k<r.key.length):okS (r.key.getD k [])=true:=by
 rw [List.getD_eq_getElem?_getD,List.getElem?_eq_getElem hk]
 exact List.all_eq_true.1 ho.kS _ (List.getElem_mem hk)
theorem img_at {r:Rl} {j:Nat} {q:Pc} (h:r.res[j]? = some q):keyAt (img r) j=imgP r.key q:=by
 unfold keyAt img
 simp [h]
theorem stB_at {ls:List (List (Int × Int))} {us:List Int} (h:stB ls us=true) {k:Nat} (hk:k<ls.length):hasB (keyAt ls k) (unitAt us k)=true:=by
 have hl:=st_len h
 simp only [stB,Bool.and_eq_true,List.all_eq_true] at h
 have h2:=h.2 (ls[k],us[k]'(by omega)) (by
  have:(ls.zip us)[k]'(by simp;omega)=(ls[k],us[k]'(by omega)):=by simp
  rw [←this]
  exact List.getElem_mem _)
 have e1:keyAt ls k=ls[k]:=by unfold keyAt;simp [hk]
 have e2:unitAt us k=us[k]'(by omega):=by unfold unitAt;simp [show k<us.length by omega]
 rw [e1,e2]
 exact h2
theorem may_small {rs:List Rl} {s:ByteArray} (h:(chkW rs).2=0) (hs:s.size≤16384):mayE rs s=0:=by
 unfold mayE
 rw [if_neg (by rw [h];simp),if_neg (by omega)]
end Go.Proofs
namespace Go.Proofs
open Go.RowKit Go.Shelf
set_option maxRecDepth 100000
theorem nth_has:∀ (l:List (Int × Int)) (n v:Int),0≤n→nthL l n=some v→hasU l v
 | [],n,v,_,h=>by simp [nthL] at h
 | x::r,n,v,h0,h=>by
  unfold nthL at h
  by_cases hn:n<x.2 - x.1+1
  · rw [if_pos hn] at h
    cases h
    exact (hasU_cons _ _ _).2 (.inl ⟨by omega,by omega⟩)
  · rw [if_neg hn] at h
    by_cases h1:0≤n - (x.2 - x.1+1)
    · exact (hasU_cons _ _ _).2 (.inr (nth_has r _ v h1 h))
    · omega
theorem nth_mono:∀ (l:List (Int × Int)),Good l→∀ (n m u v:Int),0≤n→n<m→nthL l n=some u→nthL l m=some v→u<v
 | [],_,n,m,u,v,_,_,h,_=>by simp [nthL] at h
 | x::r,hG,n,m,u,v,h0,hnm,hu,hv=>by
  unfold nthL at hu hv
  by_cases h1:n<x.2 - x.1+1
  · rw [if_pos h1] at hu
    cases hu
    by_cases h2:m<x.2 - x.1+1
    · rw [if_pos h2] at hv
      cases hv
      omega
    · rw [if_neg h2] at hv
      have:=has_above hG (nth_has r _ v (by omega) hv)
      omega
  · rw [if_neg h1] at hu
    rw [if_neg (by omega)] at hv
    exact nth_mono r (good_cons.1 hG).2.1 (n - (x.2 - x.1+1)) (m - (x.2 - x.1+1)) u v (by omega) (by omega) hu hv
theorem place_nth {l:List (Int × Int)} (h:Good l) {n v:Int} (h0:0≤n) (hv:nthL l n=some v):placeU l v=n:=by
 obtain ⟨h1,h2⟩:=nth_place h (nth_has l n v h0 hv)
 rcases Int.lt_trichotomy (placeU l v) n with h3 | h3 | h3
 · have:=nth_mono l h _ _ _ _ h2 h3 h1 hv;omega
 · exact h3
 · have:=nth_mono l h _ _ _ _ h0 h3 hv h1;omega
theorem Paired.symm {f t:List (Int × Int)} (h:Paired f t):Paired t f:=⟨h.vt,h.vf,by have:=h.p;have:=h.e;omega,h.e.symm⟩
theorem part_back {f t:List (Int × Int)} (h:Paired f t) {u:Int} (hu:hasU f u):partU t f (partU f t u)=u:=by
 have hf:=(validB_iff f).1 h.vf
 have ht:=(validB_iff t).1 h.vt
 obtain ⟨h1,h2⟩:=part_some h hu
 obtain ⟨a1,a2⟩:=nth_place hf.2 hu
 have h3:=place_nth ht.2 a2 h1
 obtain ⟨b1,_⟩:=part_some h.symm h2
 rw [h3,a1] at b1
 exact (Option.some.inj b1).symm
def InC (rs:List Rl) (u:Int):Prop:=∃ l∈rs.flatMap waS,inL l u=true
structure Bck (rs:List Rl):Prop where
 ok:∀ r∈rs,Ok r∧Bk r
 an:∀ r∈rs,∀ A∈r.ante,∀ u,inL A u=true→¬ InC rs u
 po:∀ r∈rs,∀ A∈r.post,∀ u,inL A u=true→¬ InC rs u
 nc:∀ x∈rs,∀ y∈rs,mtB (img x) (img y) (min (img x).length (img y).length)=true→x.key=y.key∧x.res=y.res
theorem metB_swap (a b:List (Int × Int)):metB a b=metB b a:=by
 rw [Bool.eq_iff_iff]
 unfold metB
 simp only [List.any_eq_true,Bool.and_eq_true,decide_eq_true_eq]
 constructor
 · rintro ⟨y,hy,x,hx,h1,h2⟩
   exact ⟨x,hx,y,hy,h2,h1⟩
 · rintro ⟨y,hy,x,hx,h1,h2⟩
   exact ⟨x,hx,y,hy,h2,h1⟩
theorem mtB_swap (a b:List (List (Int × Int))) (k:Nat):mtB a b k=mtB b a k:=by
 unfold mtB
 congr 1
 funext i
 cases a[i]? <;> cases b[i]? <;> simp [metB_swap]
theorem cls_two {x y:Rl} (h:clsE x y=0) (hm:mtB (img x) (img y) (min (img x).length (img y).length)=true):x.key=y.key∧x.res=y.res:=by
 unfold clsE at h
 rw [if_neg (by rw [hm];simp)] at h
 by_cases h1:(img x).length≠(img y).length
 · rw [if_pos h1] at h;cases h
 · rw [if_neg h1] at h
   by_cases h2:decide (x.key=y.key∧x.res=y.res)=false
   · rw [if_pos h2] at h;cases h
   · simpa using h2
theorem okS_rises {A:List (Int × Int)} (h:okS A=true):∀ x∈A,x.1≤x.2:=fun x hx=>(((validB_iff A).1 (okS_valid h)).2.1 x hx).1
theorem TrnP.bck {rs:List Rl} {n:Int} (h:TrnP rs n 0):Bck rs:=by
 have hbk:=h.bk
 rcases h with ⟨h1,_,h2⟩ | ⟨h1,core,hU,hcore,h2⟩
 · exact absurd h2.symm h1
 · obtain ⟨hw,hnc⟩:=h2.fine0
   have hno:∀ (r:Rl) (L:List (List (Int × Int))),L.all okS=true→L.any (metB core)=false→∀ A∈L,∀ u,inL A u=true→¬ InC rs u:=fun r L hok hm A hA u hu hc=>by
    have h3:metB core A=true:=(metB_iff hU.2 (okS_rises (List.all_eq_true.1 hok A hA))).2 ⟨u,(hcore u).2 hc,hu⟩
    have:L.any (metB core)=true:=List.any_eq_true.2 ⟨A,hA,h3⟩
    rw [hm] at this
    cases this
   refine ⟨hbk.2.2.1,fun r hr=>hno r _ (hbk.2.2.1 r hr).1.aS (wroE_bk (hw r hr)).2.1,fun r hr=>hno r _ (hbk.2.2.1 r hr).1.pS (wroE_bk (hw r hr)).2.2,fun x hx y hy hm => ?_⟩
   obtain ⟨i,hi,rfl⟩:=List.mem_iff_getElem.1 hx
   obtain ⟨j,hj,rfl⟩:=List.mem_iff_getElem.1 hy
   rcases Nat.lt_trichotomy i j with e | e | e
   · exact cls_two (hnc j _ hj (List.getElem?_eq_getElem hj) i _ e (List.getElem?_eq_getElem hi)) hm
   · subst e
     exact ⟨rfl,rfl⟩
   · have:=cls_two (hnc i _ hi (List.getElem?_eq_getElem hi) j _ e (List.getElem?_eq_getElem hj)) (by rw [mtB_swap,Nat.min_comm];exact hm)
     exact ⟨this.1.symm,this.2.symm⟩
theorem hasB_inL {S:List (Int × Int)} {u:Int} (h:hasB S u=true):inL S u=true:=by
 unfold hasB at h
 simp only [Bool.and_eq_true,decide_eq_true_eq] at h
 obtain ⟨x,hx,h1,h2⟩:=h.2
 exact List.any_eq_true.2 ⟨x,hx,(inR_iff x u).2 ⟨h1,h2⟩⟩
theorem inL_hasB {S:List (Int × Int)} {u:Int} (hS:okS S=true) (h:inL S u=true):hasB S u=true:=by
 obtain ⟨x,hx,h1⟩:=List.any_eq_true.1 h
 have:=(inR_iff x u).1 h1
 unfold hasB
 rw [okS_valid hS]
 simp only [Bool.true_and,decide_eq_true_eq]
 exact ⟨x,hx,this.1,this.2⟩
theorem fits_mt {a b:List (List (Int × Int))} {l:List Int} (ha:stB a (l.take a.length)=true) (hb:stB b (l.take b.length)=true):mtB a b (min a.length b.length)=true:=by
 unfold mtB
 rw [List.all_eq_true]
 intro i hi
 have hi:=List.mem_range.1 hi
 have hia:i<a.length:=by omega
 have hib:i<b.length:=by omega
 rw [List.getElem?_eq_getElem hia,List.getElem?_eq_getElem hib]
 have h1:=stB_at ha hia
 have h2:=stB_at hb hib
 have e1:unitAt (l.take a.length) (i:Nat)=l[i]?.getD 0:=by unfold unitAt;simp [List.getElem?_take_of_lt hia]
 have e2:unitAt (l.take b.length) (i:Nat)=l[i]?.getD 0:=by unfold unitAt;simp [List.getElem?_take_of_lt hib]
 have k1:keyAt a (i:Nat)=a[i]:=by unfold keyAt;simp [hia]
 have k2:keyAt b (i:Nat)=b[i]:=by unfold keyAt;simp [hib]
 rw [e1,k1] at h1
 rw [e2,k2] at h2
 unfold hasB at h1 h2
 simp only [Bool.and_eq_true,decide_eq_true_eq] at h1 h2
 obtain ⟨x,hx,x1,x2⟩:=h1.2
 obtain ⟨y,hy,y1,y2⟩:=h2.2
 show metB a[i] b[i]=true
 unfold metB
 simp only [List.any_eq_true,Bool.and_eq_true,decide_eq_true_eq]
 exact ⟨y,hy,x,hx,by omega,by omega⟩
theorem paired_pc {r:Rl} (ho:Ok r) {q:Pc} (hq:q∈r.res) (hk:q.k=3):∃ y:Nat,q.y=y∧y<r.key.length∧Paired (keyAt r.key y) q.tl:=by
 rcases pc_ok (ho.pc q hq) with ⟨e,_⟩ | ⟨e,_⟩ | ⟨e,_,e3,e4,e5⟩
 · omega
 · omega
 · obtain ⟨y,hy⟩:∃ y:Nat,q.y=y:=⟨q.y.toNat,by omega⟩
   have hyl:y<r.key.length:=by omega
   have hkey:okS (keyAt r.key y)=true:=by
    have:=key_ok ho hyl
    unfold keyAt
    rwa [List.getD_eq_getElem?_getD] at this
   rw [hy] at e5
   simp only [matB,Bool.and_eq_true,decide_eq_true_eq] at e5
   exact ⟨y,hy,hyl,okS_valid hkey,e5.1,lenU_ok hkey,e5.2⟩
theorem hasB_hasU {S:List (Int × Int)} {u:Int} (h:hasB S u=true):hasU S u:=by
 unfold hasB at h
 simp only [Bool.and_eq_true,decide_eq_true_eq] at h
 exact h.2
theorem wrt_in {r:Rl} (ho:Ok r) {K:List Int} (hK:stB r.key K=true) {q:Pc} (hq:q∈r.res):hasB (imgP r.key q) (wrt r.key K q)=true:=by
 have hok:okS (imgP r.key q)=true:=img_ok ho _ (List.mem_map.2 ⟨q,hq,rfl⟩)
 rcases pc_ok (ho.pc q hq) with ⟨e,_⟩ | ⟨e,_,_,e3,e4⟩ | ⟨e,_⟩
 · have e1:imgP r.key q=[(q.u,q.u)]:=by unfold imgP;rw [if_pos e]
   have e2:wrt r.key K q=q.u:=by unfold wrt;rw [if_neg (by omega),if_neg (by omega)]
   refine inL_hasB hok ?_
   rw [e1,e2]
   simp [inL,inR]
 · have e1:imgP r.key q=keyAt r.key q.y:=by unfold imgP;rw [if_neg (by omega),if_pos e]
   have e2:wrt r.key K q=unitAt K q.y:=by unfold wrt;rw [if_neg (by omega),if_pos e]
   obtain ⟨y,hy⟩:∃ y:Nat,q.y=y:=⟨q.y.toNat,by omega⟩
   rw [e1,e2,hy]
   exact stB_at hK (by omega)
 · obtain ⟨y,hy,hyl,hp⟩:=paired_pc ho hq e
   have e1:imgP r.key q=q.tl:=by unfold imgP;rw [if_neg (by omega),if_neg (by omega)]
   have e2:wrt r.key K q=partU (keyAt r.key y) q.tl (unitAt K y):=by unfold wrt;rw [if_pos e,hy]
   have h1:=(part_some hp (hasB_hasU (stB_at hK hyl))).2
   rw [e1] at hok ⊢
   rw [e2]
   unfold hasB
   rw [okS_valid hok]
   simpa using h1
theorem outs_len (r:Rl) (K:List Int):(outs r K).length=r.res.length:=by simp [outs]
theorem outs_img {r:Rl} (ho:Ok r) {K:List Int} (hK:stB r.key K=true):stB (img r) (outs r K)=true:=by
 unfold stB
 rw [Bool.and_eq_true,decide_eq_true_eq]
 refine ⟨by rw [img_len,outs_len],?_⟩
 rw [List.all_eq_true]
 rintro ⟨a,b⟩ h
 obtain ⟨n,hn,he⟩:=List.mem_iff_getElem.1 h
 have hn':n<r.res.length:=by simp [img,outs] at hn;exact hn
 simp only [img,outs,List.getElem_zip,List.getElem_map,Prod.mk.injEq] at he
 obtain ⟨rfl,rfl⟩:=he
 exact wrt_in ho hK (List.getElem_mem hn')
theorem outs_back {r:Rl} (ho:Ok r) (hb:Bk r) {K:List Int} (hK:stB r.key K=true):outs (turnR r) (outs r K)=K:=by
 have hl:=st_len hK
 refine List.ext_getElem (by rw [outs_len];show (resT r r.key.length).length=_;rw [resT_len];exact hl) fun p h1 h2 => ?_
 have hp:p<r.key.length:=by omega
 have e:(outs (turnR r) (outs r K))[p]=wrt (img r) (outs r K) (restP r (r.key.getD p []) p):=by
  simp [outs,turnR,resT]
 rw [e]
 have hu:K[p]=unitAt K p:=by unfold unitAt;simp [h2]
 have hkp:r.key.getD p []=keyAt r.key p:=by unfold keyAt;rw [List.getD_eq_getElem?_getD];rfl
 have hst:=stB_at hK hp
 have hok:=key_ok ho hp
 have ou:∀ (j:Nat) (q:Pc),r.res[j]? = some q→unitAt (outs r K) j=wrt r.key K q:=fun j q hq=>by
  unfold unitAt outs
  simp [hq]
 rcases rest_alt2 ho hb.tl hp with ⟨h3,h4⟩ | ⟨h3,j,q,h4,h5,⟨h6,h7⟩ | ⟨h6,h7⟩⟩
 · rw [h4,hu]
   rw [hkp] at hok h3 ⊢
   obtain ⟨u,hS⟩:=set_one_u hok h3
   rw [hS] at hst ⊢
   exact (hasB_one hst).symm
 · rw [h7,hu]
   show unitAt (outs r K) (j:Nat)=_
   rw [ou j q h4]
   unfold wrt
   rw [if_neg (by omega),if_pos h6,h5]
 · rw [h7,hu]
   obtain ⟨y,hy,_,hpr⟩:=paired_pc ho (List.mem_of_getElem? h4) h6
   obtain rfl:y=p:=by omega
   have e1:keyAt (img r) (j:Nat)=q.tl:=by rw [img_at h4];unfold imgP;rw [if_neg (by omega),if_neg (by omega)]
   have e2:unitAt (outs r K) (j:Nat)=partU (keyAt r.key y) q.tl (unitAt K y):=by
    rw [ou j q h4]
    unfold wrt
    rw [if_pos h6,hy]
   show partU (keyAt (img r) (j:Nat)) (r.key.getD y []) (unitAt (outs r K) (j:Nat))=_
   rw [e1,e2,hkp]
   exact part_back hpr (hasB_hasU hst)
end Go.Proofs
