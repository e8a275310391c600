/-
  Several texts in one (Na Nb Nc Nd Ne Th Ti Tp Tq Id Ia Ib Ie Pg Tk Tl Oa9 Rv If Tr Ts Tj Lb).
-/
import Derived.RangeFuncNested
import Derived.RangeFuncBound
import Derived.RangeFuncCalls
import Derived.RangeFuncLeaves
import Derived.Shelf.Abstract
import Derived.Shelf.RegionOpen
import Derived.WalkKit
import Derived.WalkSpells
import Derived.WalkLawsBesides
import Derived.OwnWalkIn
import Derived.TacticsInMore
import Derived.LoopNIn
import Derived.LoopIn
import Derived.BigQuiet
import Derived.RegionIn
import Derived.Deep.QuietTactic
import Derived.Deep.RegionWith
import Derived.Lib.OthersKept
import Derived.Maps.AppendAt
import Derived.Lib.SmallJoins
import Derived.Shelf.SlSortCmp.QuietGrown
import Derived.Test.YtcfcjljapamcoaaGreatDoorMpbx
import Derived.Test.YtcfcjljapamcoaaGreatDoorMpdx
import Derived.Test.YtcfcjljapamcoaaGreatDoorMgjx
import Derived.Deep.Upon
import Derived.Test.YtcfcjljapamcoaaGreatDoorMgmx
import Derived.Test.YtcfcjljapamcoaaGreatDoorMpux
import Derived.Test.YtcfcjljapamcoaaGreatDoorMpex
import Derived.Test.YtcfcjljapamcoaaGreatDoorMpqx
import Derived.Test.YtcfcjljapamcoaaGreatDoorMgex
import Derived.Test.YtcfcjljapamcoaaGreatDoorMgbx
import Derived.Deep.DeepCutAuto
import Derived.Deep.CutBlock
import Derived.Test.YtcfcjljapamcoaaGreatDoorMglx
import Derived.Test.YtcfcjljapamcoaaGreatDoorMgdx
import Derived.Test.YtcfcjljapamcoaaGreatDoorMgax
import Derived.Test.YtcfcjljapamcoaaGreatDoorMppx
import Derived.RangeFuncWrites
import Derived.RangeFuncBox
import Derived.Test.YtcfcjljapamcoaaGreatDoorMptx
import Derived.Deep.AppendLies
import Derived.Sort.LoopGhostIn
import Derived.Test.YtcfcjljapamcoaaGreatDoorMgcx
namespace Go.Proofs
open Go.RowKit Go.Shelf
set_option maxRecDepth 100000
attribute [local go_sem] Oper.semAt_some
attribute [local go_sem ↓] Go.wp_at_zero Go.wp_at_succ
def wS (rs:List Rl) (st:St):List Int→Int
 | []=>0
 | u::l=>wK rs st u+wS rs st l
theorem wS_append (rs:List Rl) (st:St) (l k:List Int):wS rs st (l++k)=wS rs st l+wS rs st k:=by
 induction l with
 | nil=>simp [wS]
 | cons u l ih=>simp only [List.cons_append,wS,ih];omega
open Classical in
noncomputable def gmx (rs:List Rl) (st:St) (P:Int→Prop):Nat→Int
 | 0=>0
 | n+1=>if ∃ u,P u∧wK rs st u=((n+1:Nat):Int) then ((n+1:Nat):Int) else gmx rs st P n
theorem gmx_ge {rs:List Rl} {st:St} {P:Int→Prop} {u:Int} (hu:P u):∀ n:Nat,wK rs st u≤n→1≤wK rs st u→wK rs st u≤gmx rs st P n
 | 0,h,h1=>by omega
 | n+1,h,h1=>by
  rw [gmx]
  split
  · exact h
  · rename_i hn
    refine gmx_ge hu n ?_ h1
    by_cases e:wK rs st u=((n+1:Nat):Int)
    · exact absurd ⟨u,hu,e⟩ hn
    · omega
theorem gmx_is {rs:List Rl} {st:St} {P:Int→Prop} : ∀ n:Nat,gmx rs st P n=0∨∃ u,P u∧wK rs st u=gmx rs st P n
 | 0 => .inl rfl
 | n+1=>by
  rw [gmx]
  split
  · rename_i h
    obtain ⟨u,h1,h2⟩:=h
    exact .inr ⟨u,h1,h2⟩
  · exact gmx_is n
noncomputable def gG (rs:List Rl) (st:St) (s:List (Int × Int)):Int:=gmx rs st (hasU s) 64
theorem gG_ge {rs:List Rl} {st:St} (h:Fin rs st) {s:List (Int × Int)} {u:Int} (hu:hasU s u):wK rs st u≤gG rs st s:=gmx_ge hu 64 (h.wK_in u).2 (h.wK_in u).1
theorem gG_le {rs:List Rl} {st:St} (h:Fin rs st) {j:Nat} (hj:j<st.bk.length):gG rs st (usAt st.bk j)≤wtAt st.bk j:=by
 have hpos:1≤wtAt st.bk j:=by
  unfold wtAt
  rw [List.getElem?_eq_getElem hj]
  exact (h.run.ok.pb _ (List.getElem_mem hj)).2.1
 rcases gmx_is (rs:=rs) (st:=st) (P:=hasU (usAt st.bk j)) 64 with e | ⟨u,h1,h2⟩
 · unfold gG;omega
 · unfold gG
   rw [←h2]
   exact h.unit_leK hj h1
def cys:List Pc→List Nat
 | []=>[]
 | p::l=>if p.k=2 then p.y.toNat::cys l else cys l
theorem cys_len (l:List Pc):((cys l).length:Int)=copN l:=by
 induction l with
 | nil=>rfl
 | cons p l ih=>
  simp only [cys,copN]
  split
  · simp only [List.length_cons];omega
  · omega
theorem cys_mem:∀ {l:List Pc} {y:Nat},y∈cys l→∃ p∈l,p.k=2∧p.y.toNat=y
 | p::l,y,h=>by
  simp only [cys] at h
  split at h
  · rename_i hk
    rcases List.mem_cons.1 h with rfl | h
    · exact ⟨p,List.mem_cons_self,hk,rfl⟩
    · obtain ⟨q,h1,h2⟩:=cys_mem h
      exact ⟨q,List.mem_cons_of_mem _ h1,h2⟩
  · obtain ⟨q,h1,h2⟩:=cys_mem h
    exact ⟨q,List.mem_cons_of_mem _ h1,h2⟩
theorem cpW_no:∀ (l:List Pc) (c:List Bool),c.length=8→(∀ p∈l,p.k=2→p.y.toNat<8)→cpW c l=false→(cys l).Nodup∧∀ y∈cys l,(c[y]?).getD false=false
 | [],c,_,_,_=>⟨List.nodup_nil,by simp [cys]⟩
 | p::l,c,hc,h8,h=>by
  rw [cpW] at h
  rw [cys]
  by_cases hk:p.k=2
  · rw [if_neg (by omega)] at h
    rw [if_pos hk]
    have hy8:=h8 p List.mem_cons_self hk
    by_cases hy:(c[p.y.toNat]?).getD false=true
    · rw [if_pos hy] at h;cases h
    · rw [if_neg hy] at h
      obtain ⟨h1,h2⟩:=cpW_no l (c.set p.y.toNat true) (by simp [hc]) (fun q hq=>h8 q (List.mem_cons_of_mem _ hq)) h
      have hne:∀ z∈cys l,z≠p.y.toNat∧(c[z]?).getD false=false:=fun z hz=>by
       have:=h2 z hz
       rw [List.getElem?_set] at this
       by_cases e:p.y.toNat=z
       · rw [if_pos e,if_pos (by omega)] at this
         simp at this
       · rw [if_neg e] at this
         exact ⟨fun e2=>e e2.symm,this⟩
      refine ⟨List.nodup_cons.2 ⟨fun hm=>(hne _ hm).1 rfl,h1⟩,fun y hy' => ?_⟩
      rcases List.mem_cons.1 hy' with rfl | hy'
      · simpa using hy
      · exact (hne y hy').2
  · rw [if_pos hk] at h
    rw [if_neg hk]
    exact cpW_no l c hc (fun q hq=>h8 q (List.mem_cons_of_mem _ hq)) h
def sF (F:Nat→Int):List Nat→Int
 | []=>0
 | y::l=>F y+sF F l
def sR (F:Nat→Int):Nat→Int
 | 0=>0
 | n+1=>sR F n+F n
theorem sF_same {F G:Nat→Int} : ∀ (l:List Nat),(∀ y∈l,F y=G y)→sF F l=sF G l
 | [],_=>rfl
 | y::l,h=>by
  rw [sF,sF,h y List.mem_cons_self,sF_same l fun z hz=>h z (List.mem_cons_of_mem _ hz)]
theorem sR_nonneg {F:Nat→Int} (h:∀ j,0≤F j):∀ n,0≤sR F n
 | 0=>Int.le_refl _
 | n+1=>by have:=sR_nonneg h n;have:=h n;rw [sR];omega
theorem sR_without (F:Nat→Int) (y:Nat):∀ n,sR (fun j=>if j=y then 0 else F j) n=sR F n - if y<n then F y else 0
 | 0=>by simp [sR]
 | n+1=>by
  rw [sR,sR,sR_without F y n]
  by_cases e:n=y
  · subst e
    rw [if_pos rfl,if_neg (by omega),if_pos (by omega)]
    omega
  · rw [if_neg e]
    by_cases h:y<n
    · rw [if_pos h,if_pos (by omega)];omega
    · rw [if_neg h,if_neg (by omega)];omega
theorem nodup_sum {n:Nat} : ∀ (l:List Nat) (F:Nat→Int),(∀ j,0≤F j)→l.Nodup→(∀ y∈l,y<n)→sF F l≤sR F n
 | [],F,h,_,_=>sR_nonneg h n
 | y::l,F,h,hn,hy=>by
  have hn2:=List.nodup_cons.1 hn
  have ih:=nodup_sum l (fun j=>if j=y then 0 else F j) (fun j=>by by_cases e:j=y <;> simp [e,h]) hn2.2 (fun z hz=>hy z (List.mem_cons_of_mem _ hz))
  rw [sR_without,if_pos (hy y List.mem_cons_self)] at ih
  rw [sF,sF_same l (G:=fun j=>if j=y then 0 else F j) fun z hz=>by
   have:z≠y:=fun e=>hn2.1 (e ▸ hz)
   simp [this]]
  omega
theorem sR_shift (F:Nat→Int):∀ n,sR F (n+1)=F 0+sR (fun j=>F (j+1)) n
 | 0=>by simp [sR]
 | n+1=>by rw [sR,sR_shift F n,sR];omega
theorem wS_sR (rs:List Rl) (st:St):∀ us:List Int,wS rs st us=sR (fun j=>wK rs st (us[j]?.getD 0)) us.length
 | []=>rfl
 | u::us=>by
  rw [List.length_cons,sR_shift,wS,wS_sR rs st us]
  simp
theorem sR_minus (F:Nat→Int):∀ n,sR (fun j=>if j=0 then 0 else F j - 1) (n+1)=sR F (n+1) - F 0 - n
 | 0=>by simp [sR]
 | n+1=>by
  have e:sR F (n+1+1)=sR F (n+1)+F (n+1):=rfl
  rw [sR,sR_minus F n,if_neg (by omega),e]
  omega
theorem back_sum {rs:List Rl} {st:St} (n:Nat) (us:List Int) (f:Pc→Int) (G:List (Int × Int)→Int):∀ l:List Pc,(∀ p∈l,(p.k≠2→wK rs st (f p)≤G (mayB p))∧(p.k=2→f p=us[p.y.toNat]?.getD 0))→wS rs st (l.map f)≤gs G (pbs n l) n+sF (fun j=>wK rs st (us[j]?.getD 0)) (cys l)
 | [],_=>by simp [wS,pbs,gs,cys,sF]
 | p::l,h=>by
  have ih:=back_sum n us f G l fun q hq=>h q (List.mem_cons_of_mem _ hq)
  have hp:=h p List.mem_cons_self
  rw [List.map_cons,wS]
  simp only [pbs,cys]
  by_cases hk:p.k=2
  · rw [if_pos hk,if_pos hk,sF,hp.2 hk]
    omega
  · rw [if_neg hk,if_neg hk]
    have:=hp.1 hk
    simp only [gs,if_pos]
    omega
theorem sF_minus (F:Nat→Int):∀ l:List Nat,(∀ y∈l,y≠0)→sF (fun j=>if j=0 then 0 else F j - 1) l=sF F l - l.length
 | [],_=>by simp [sF]
 | y::l,h=>by
  rw [sF,sF,sF_minus F l fun z hz=>h z (List.mem_cons_of_mem _ hz),if_neg (h y List.mem_cons_self),List.length_cons]
  omega
theorem Fin.light {rs:List Rl} {st:St} (h:Fin rs st) {i:Nat} (hi:i<rs.length) {us:List Int} (hl:layB rs[i] us=true):wS rs st ((backP rs[i]).map (wrt rs[i].key us))+1≤wS rs st us:=by
 have hO:=h.ok _ (List.getElem_mem hi)
 have hst:stB rs[i].key us=true:=by simp only [layB,Bool.and_eq_true] at hl;exact hl.2
 have hlen:=st_len hst
 have hk0:=hO.k0
 have hw:=fun p (hp:p∈backP rs[i])=>wr_any hl (List.mem_of_mem_drop hp)
 have h1:=back_sum (rs:=rs) (st:=st) i us (wrt rs[i].key us) (gG rs st) (backP rs[i]) fun p hp=>by
  have w:=hw p hp
  refine ⟨fun h2=>gG_ge h ?_,fun h2 => ?_⟩
  · rcases w.k with k | k | k
    · rw [w.k1 k,mayB,if_neg (by omega)]
      exact ⟨(p.u,p.u),by simp,Int.le_refl _,Int.le_refl _⟩
    · exact absurd k h2
    · rw [mayB,if_pos k]
      have:=w.k3 k
      simp only [hasB,Bool.and_eq_true,decide_eq_true_eq] at this
      exact this.2
  · obtain ⟨j,hj,h3,h4⟩:=w.k2 h2
    rw [h3,←h4]
    simp [hj]
 have h2:=h.gen (gG rs st) (fun j hj=>gG_le h hj) hi
 have hcp:=h.cp _ (List.getElem_mem hi)
 have hy:∀ p∈backP rs[i],p.k=2→p.y.toNat<us.length:=fun p hp k=>by
  obtain ⟨j,hj,h3,_⟩:=(hw p hp).k2 k
  omega
 have hn:=cpW_no (backP rs[i]) _ (by simp) (fun p hp k=>by have:=hy p hp k;have:=hO.k8;omega) hcp
 have hne:∀ y∈cys (backP rs[i]),y≠0:=fun y hy e=>by
  have:=hn.2 y hy
  subst e
  simp at this
 have hlt:∀ y∈cys (backP rs[i]),y<us.length:=fun y hy'=>by
  obtain ⟨p,hp,k,e⟩:=cys_mem hy'
  rw [←e]
  exact hy p hp k
 have h3:=nodup_sum (n:=us.length) (cys (backP rs[i])) (fun j=>if j=0 then 0 else wK rs st (us[j]?.getD 0) - 1) (fun j=>by
  have:=(h.wK_in (us[j]?.getD 0)).1
  by_cases e:j=0
  · simp [e]
  · simp only [e,if_false];omega) hn.1 hlt
 rw [sF_minus _ _ hne,cys_len] at h3
 obtain ⟨n,hn'⟩:∃ n,us.length=n+1:=⟨us.length - 1,by omega⟩
 rw [hn',sR_minus (fun j=>wK rs st (us[j]?.getD 0)) n,←hn',←wS_sR] at h3
 have h4:at0 st.ws i≤wK rs st (us[0]?.getD 0):=by
  refine Fin.wK_ge hi ?_
  have:=st_at hst hk0 (by omega)
  rw [fstS_at hi,show keyAt rs[i].key 0=rs[i].key[0] by simp [keyAt,hk0]]
  rw [List.getElem?_eq_getElem (by omega)]
  exact this
 omega
def stF (r:Rl) (d l:List Int):Bool:=
 if l.length<r.key.length+r.post.length∨d.length<r.ante.length then false
 else if (r.bg=true∧r.ante.length<d.length)∨(r.en=true∧r.key.length+r.post.length<l.length) then false
 else (stB r.key (l.take r.key.length) && stB r.post ((l.drop r.key.length).take r.post.length)) && stB r.ante (d.drop (d.length - r.ante.length))
theorem stF_key {r:Rl} {d l:List Int} (h:stF r d l=true):r.key.length≤l.length∧stB r.key (l.take r.key.length)=true:=by
 unfold stF at h
 split at h
 · cases h
 · rename_i h1
   split at h
   · cases h
   · simp only [Bool.and_eq_true] at h
     exact ⟨by omega,h.1.1⟩
theorem ir_mid {w:World} {g o N c k n:Nat} {l:List Int} (h:IR w (.slice (some ⟨g,o,none⟩) N c) l) (hk:k≤n) (hn:n≤N):IR w (.slice (some ⟨g,o+k,none⟩) (n - k) (c - k)) ((l.drop k).take (n - k)):=ir_take (ir_drop h (by omega)) (by omega)
theorem ir_zero {w:World} {A:Option Addr} {l:List Int} (h:l=[]):IR w (.slice A 0 0) l:=by
 subst h
 exact ⟨A,0,rfl,Nat.le_refl _,.inl rfl⟩
theorem ir_len {w:World} {a:Option Addr} {n c:Nat} {l:List Int} (h:IR w (.slice a n c) l):l.length=n∧n≤c:=by
 obtain ⟨a',c',e,h1,_⟩:=h
 injection e with e1 e2 e3
 omega
set_option maxHeartbeats 8000000 in
theorem rstF_any (r:Rl) (av kv pv rv dv lv:Value) (d l:List Int) (w:World) (h:RR w av kv pv rv r) (hd:IR w dv d) (hl:IR w lv l) (hO:Ok r) (hdn:d.length≤1000000000) (hdw:dv = .slice none 0 0∨∃ g o n c,dv = .slice (some ⟨g,o,none⟩) n c) (hln:l.length≤1000000000) :
 Calls Tryz.prog 118 #[.agg #[.bool r.bg,av,kv,pv,.bool r.en,rv,.int .i64 r.cu],dv,lv] w fun e w'=>e = .returned (.bool (stF r d l))∧Grown w w':=by
 have HS1:Hid (∀ V (x:Value),Grown w V→IR w x (l.take r.key.length)→Calls Tryz.prog 148 #[x,kv] V fun e w'=>e = .returned (.bool (stB r.key (l.take r.key.length)))∧Grown V w'):=fun V x hg hx=>rstands_any kv x r.key _ V (h.k.grown hg) (hx.grown hg) (by have:=hO.k8;omega) hO.kS
 have HS2:Hid (∀ V (x:Value),Grown w V→IR w x ((l.drop r.key.length).take r.post.length)→Calls Tryz.prog 148 #[x,pv] V fun e w'=>e = .returned (.bool (stB r.post ((l.drop r.key.length).take r.post.length)))∧Grown V w'):=fun V x hg hx=>rstands_any pv x r.post _ V (h.p.grown hg) (hx.grown hg) (by have:=hO.p8;omega) hO.pS
 have HS3:Hid (∀ V (x:Value),Grown w V→IR w x (d.drop (d.length - r.ante.length))→Calls Tryz.prog 148 #[x,av] V fun e w'=>e = .returned (.bool (stB r.ante (d.drop (d.length - r.ante.length))))∧Grown V w'):=fun V x hg hx=>rstands_any av x r.ante _ V (h.a.grown hg) (hx.grown hg) (by have:=hO.a8;omega) hO.aS
 have HID:Hid (IR w dv d):=hd
 have HIL:Hid (IR w lv l):=hl
 obtain ⟨da,dc,hdv,hdc,_⟩:=hd
 subst hdv
 have HDW:Hid ((da=none∧dc=0)∨∃ g o,da=some ⟨g,o,none⟩):=by
  rcases hdw with h1 | ⟨g,o,n,c,h1⟩
  · injection h1 with h1 h2 h3;exact .inl ⟨h1,h3⟩
  · injection h1 with h1;exact .inr ⟨g,o,h1⟩
 clear hdw
 obtain ⟨la,lc,hlv,hlc,_⟩:=hl
 subst hlv
 obtain ⟨aa,ac,hav,hx1,hx2⟩:=h.a
 subst hav
 clear hx1 hx2
 obtain ⟨ka,kc,hkv,hx1,hx2⟩:=h.k
 subst hkv
 clear hx1 hx2
 obtain ⟨pa,pc,hpv,hx1,hx2⟩:=h.p
 subst hpv
 clear hx1 hx2
 obtain ⟨ra,rn,rc,rfl⟩:=h.r.sl
 have hk0:=hO.k0
 have hk8:=hO.k8
 have hp8:=hO.p8
 have ha8:=hO.a8
 obtain ⟨B1,hB1⟩:∃ B1,stB r.key (l.take r.key.length)=B1:=⟨_,rfl⟩
 obtain ⟨B2,hB2⟩:∃ B2,stB r.post ((l.drop r.key.length).take r.post.length)=B2:=⟨_,rfl⟩
 obtain ⟨B3,hB3⟩:∃ B3,stB r.ante (d.drop (d.length - r.ante.length))=B3:=⟨_,rfl⟩
 rw [hB1] at HS1
 rw [hB2] at HS2
 rw [hB3] at HS3
 unfold stF
 rw [hB1,hB2,hB3]
 clear h hO hB1 hB2 hB3
 obtain ⟨kn,hkn⟩:∃ kn,r.key.length=kn:=⟨_,rfl⟩
 obtain ⟨pn,hpn⟩:∃ pn,r.post.length=pn:=⟨_,rfl⟩
 obtain ⟨an,han⟩:∃ an,r.ante.length=an:=⟨_,rfl⟩
 obtain ⟨ln,hln'⟩:∃ ln,l.length=ln:=⟨_,rfl⟩
 obtain ⟨dn,hdn'⟩:∃ dn,d.length=dn:=⟨_,rfl⟩
 rw [hkn] at HS1 HS2 hk0 hk8 ⊢
 rw [hpn] at HS2 hp8 ⊢
 rw [han] at HS3 ha8 ⊢
 rw [hln'] at HIL hlc hln ⊢
 rw [hdn'] at HID HS3 hdc hdn ⊢
 obtain ⟨xb,hxb⟩:∃ xb,r.bg=xb:=⟨_,rfl⟩
 obtain ⟨xe,hxe⟩:∃ xe,r.en=xe:=⟨_,rfl⟩
 obtain ⟨xc,hxc⟩:∃ xc,r.cu=xc:=⟨_,rfl⟩
 rw [hxb,hxe,hxc]
 have HLN:Hid (l.length=ln∧d.length=dn):=⟨hln',hdn'⟩
 clear hkn hpn han hln' hdn' hxb hxe hxc
 have i1:(0:Int)<(kn:Int):=by omega
 have i2:(kn:Int)≤8:=by omega
 have i3:(pn:Int)≤8:=by omega
 have i4:(an:Int)≤8:=by omega
 have i5:(ln:Int)≤1000000000:=by omega
 have i6:(dn:Int)≤1000000000:=by omega
 obtain ⟨W0,hW0⟩:∃ W0,W0=w.alloc (.cells #[.bool xb,.slice aa an ac,.slice ka kn kc,.slice pa pn pc,.bool xe,.slice ra rn rc,.int .i64 xc] 60):=⟨_,rfl⟩
 have HG0:Hid (Grown w W0):=by show Grown _ _;rw [hW0];exact (Grown.refl _).alloc _
 have f0:W0.cell? ⟨w.heap.size,0,none⟩=some (.bool xb):=by rw [hW0];simp
 have f1:W0.cell? ⟨w.heap.size,1,none⟩=some (.slice aa an ac):=by rw [hW0];simp
 have f2:W0.cell? ⟨w.heap.size,2,none⟩=some (.slice ka kn kc):=by rw [hW0];simp
 have f3:W0.cell? ⟨w.heap.size,3,none⟩=some (.slice pa pn pc):=by rw [hW0];simp
 have f4:W0.cell? ⟨w.heap.size,4,none⟩=some (.bool xe):=by rw [hW0];simp
 by_cases c1:ln<kn+pn
 · as_aux_lemma=>
    have c1':(ln:Int)<(kn:Int)+(pn:Int):=by omega
    rw [if_pos (.inl c1)]
    go_enter Tryz.func118,Tryz.ntmps118
    go_wp2
    go_ret
    exact ⟨rfl,(Grown.refl _).alloc _⟩
 have c1':¬ (ln:Int)<(kn:Int)+(pn:Int):=by omega
 have c1d:decide ((ln:Int)<(kn:Int)+(pn:Int))=false:=by simp;omega
 by_cases c2:dn<an
 · as_aux_lemma=>
    have c2':(dn:Int)<(an:Int):=by omega
    rw [if_pos (.inr c2)]
    go_enter Tryz.func118,Tryz.ntmps118
    go_wp2
    go_ret
    exact ⟨rfl,(Grown.refl _).alloc _⟩
 have c2':¬ (dn:Int)<(an:Int):=by omega
 have c2d:decide ((dn:Int)<(an:Int))=false:=by simp;omega
 have c2e:decide (dn<an)=false:=by simp;omega
 rw [if_neg (by omega)]
 by_cases c3:(xb=true∧an<dn)∨(xe=true∧kn+pn<ln)
 · rw [if_pos c3]
   rcases c3 with ⟨h1,h2⟩ | ⟨h1,h2⟩
   · as_aux_lemma=>
      subst h1
      have h2':(an:Int)<(dn:Int):=by omega
      go_enter Tryz.func118,Tryz.ntmps118
      go_wp2
      go_ret
      exact ⟨rfl,(Grown.refl _).alloc _⟩
   · subst h1
     have h2':(kn:Int)+(pn:Int)<(ln:Int):=by omega
     cases xb with
     | false=>
      as_aux_lemma=>
       go_enter Tryz.func118,Tryz.ntmps118
       go_wp2
       go_ret
       exact ⟨rfl,(Grown.refl _).alloc _⟩
     | true=>
      by_cases h3:an<dn
      · as_aux_lemma=>
         have h3':(an:Int)<(dn:Int):=by omega
         go_enter Tryz.func118,Tryz.ntmps118
         go_wp2
         go_ret
         exact ⟨rfl,(Grown.refl _).alloc _⟩
      · as_aux_lemma=>
         have h3':¬ (an:Int)<(dn:Int):=by omega
         have h3d:decide ((an:Int)<(dn:Int))=false:=by simp;omega
         have h3e:decide (an<dn)=false:=by simp;omega
         go_enter Tryz.func118,Tryz.ntmps118
         go_wp2
         go_ret
         exact ⟨rfl,(Grown.refl _).alloc _⟩
 rw [if_neg c3]
 have HCut:Hid (∀ (P:Prop),P→P):=fun _ h=>h
 have HA:Hid (∀ (V:World),Grown W0 V→Grown w V):=fun V hg=>HG0.out.trans hg
 obtain ⟨lg,lo,hla⟩:∃ lg lo,la=some ⟨lg,lo,none⟩:=by
  obtain ⟨a',c',e,_,hr⟩:=HIL.out
  obtain ⟨g,o,h1,_⟩:=hr.resolve_left (fun e2=>by have:=HLN.out.1;rw [e2] at this;simp at this;omega)
  injection e with e1
  exact ⟨g,o,e1.trans h1⟩
 subst hla
 have j1:(kn:Int)≤(ln:Int):=by omega
 have j2:(kn:Int)≤(kn:Int)+(pn:Int):=by omega
 have j3:(kn:Int)+(pn:Int)≤(lc:Int):=by omega
 have j4:(kn:Int)≤(lc:Int):=by omega
 have j5:(kn:Int)+(pn:Int)≤(ln:Int):=by omega
 have j6:(ln:Int)≤(lc:Int):=by omega
 have HC1:Hid (∀ m os,Calls Tryz.prog 148 #[.slice (some ⟨lg,lo,none⟩) kn lc,.slice ka kn kc] (Go.Sort.grow (W0.drewN m) os) fun e w'=>e = .returned (.bool B1)∧Grown (Go.Sort.grow (W0.drewN m) os) w'):=fun m os=>HS1.out _ _ (HG0.out.quiet m os) (ir_take HIL.out (by omega))
 have g1:=fun m os=>((Grown.refl W0).quiet m os).cellv f1
 have g2:=fun m os=>((Grown.refl W0).quiet m os).cellv f2
 have g3:=fun m os=>((Grown.refl W0).quiet m os).cellv f3
 go_enter Tryz.func118,Tryz.ntmps118
 go_upto_region 6 with fail
 rw [←hW0]
 go_cut [48] (fun s wx=>s = .bool false∧wx=W0)
 case first=>
  cases xb with
  | false=>
   cases xe with
   | false=>
    go_wp2
    go_meet
    exact ⟨rfl,by first | rfl | exact hW0.symm⟩
   | true=>
    have h5:¬ (kn:Int)+(pn:Int)<(ln:Int):=fun h=>c3 (.inr ⟨rfl,by omega⟩)
    have h6:decide ((kn:Int)+(pn:Int)<(ln:Int))=false:=by simpa using h5
    go_wp2
    go_meet
    exact ⟨rfl,by first | rfl | exact hW0.symm⟩
  | true=>
   have h7:¬ (an:Int)<(dn:Int):=fun h=>c3 (.inl ⟨rfl,by omega⟩)
   have h8:decide ((an:Int)<(dn:Int))=false:=by simpa using h7
   have h9:decide (an<dn)=false:=by simp;omega
   cases xe with
   | false=>
    go_wp2
    go_meet
    exact ⟨rfl,by first | rfl | exact hW0.symm⟩
   | true=>
    have h5:¬ (kn:Int)+(pn:Int)<(ln:Int):=fun h=>c3 (.inr ⟨rfl,by omega⟩)
    have h6:decide ((kn:Int)+(pn:Int)<(ln:Int))=false:=by simpa using h5
    go_wp2
    go_meet
    exact ⟨rfl,by first | rfl | exact hW0.symm⟩
 obtain ⟨hcs,hcw⟩:=hcut
 subst hcs
 have hcw2:=hcw.symm
 clear hcw
 subst hcw2
 clear c3 hW0
 cases B1 with
 | false=>
  clear HS1 HS2 HS3
  go_wp2
  refine wp_region_quiet_grown mixed (by kernel_rfl) ?_
  iterate 6 (go_big_quiet_step ((go_at_call 148;exact grown_of (HC1.out _ _))))
  repeat (go_big_quiet_step (fail))
  refine wpQuiet_nil ?_
  intro _ hw'
  obtain ⟨⟨nq,osq⟩,hw''⟩:=hw'
  subst hw''
  go_wp2
  go_ret
  exact ⟨rfl,HG0.out.quiet _ _⟩
 | true=>
  by_cases hk:kn=lc
  · have hz:=i1
    have hpn0:pn=0:=by omega
    subst hpn0
    have hkE:kn=lc:=hk
    have HC2:Hid (∀ m os,Calls Tryz.prog 148 #[.slice (some ⟨lg,lo,none⟩) 0 0,.slice pa 0 pc] (Go.Sort.grow (W0.drewN m) os) fun e w'=>e = .returned (.bool B2)∧Grown (Go.Sort.grow (W0.drewN m) os) w'):=fun m os=>HS2.out _ _ (HG0.out.quiet m os) (ir_zero (by simp))
    subst hkE
    cases B2 with
    | false=>
     clear HS1 HS2 HS3
     go_wp2
     refine wp_region_quiet_grown mixed (by kernel_rfl) ?_
     iterate 6 (go_big_quiet_step ((go_at_call 148;exact grown_of (HC1.out _ _))))
     iterate 8 (go_big_quiet_step ((go_at_call 148;exact grown_of (HC2.out _ _))))
     repeat (go_big_quiet_step (fail))
     refine wpQuiet_nil ?_
     intro _ hw'
     obtain ⟨⟨nq,osq⟩,hw''⟩:=hw'
     subst hw''
     go_wp2
     go_ret
     exact ⟨rfl,HG0.out.quiet _ _⟩
    | true=>
     have j8:((dn - an:Nat):Int)=(dn:Int) - (an:Int):=by omega
     obtain ⟨e9,he9⟩:∃ e9,dn - an=e9:=⟨_,rfl⟩
     rw [he9] at j8
     have j9:=j8.symm
     have j10:(e9:Int)≤(dn:Int):=by omega
     have j11:(e9:Int)≤(dc:Int):=by omega
     have j12:(0:Int)≤(e9:Int):=by omega
     have j13:(dn:Int)≤(dc:Int):=by omega
     clear j8
     by_cases hd0:e9=dc
     · have HC3:Hid (∀ m os,Calls Tryz.prog 148 #[.slice da 0 0,.slice aa an ac] (Go.Sort.grow (W0.drewN m) os) fun e w'=>e = .returned (.bool B3)∧Grown (Go.Sort.grow (W0.drewN m) os) w'):=fun m os=>HS3.out _ _ (HG0.out.quiet m os) (ir_zero (by rw [he9];exact List.drop_eq_nil_of_le (by have:=HLN.out.2;omega)))
       have han0:an=0:=by omega
       have hde:dn=dc:=by omega
       clear HS1 HS2 HS3 he9
       subst hd0
       subst han0
       obtain rfl:=hde
       go_wp2
       refine wp_region_quiet_grown mixed (by kernel_rfl) ?_
       iterate 6 (go_big_quiet_step ((go_at_call 148;exact grown_of (HC1.out _ _))))
       iterate 8 (go_big_quiet_step ((go_at_call 148;exact grown_of (HC2.out _ _))))
       iterate 11 (go_big_quiet_step ((go_at_call 148;exact grown_of (HC3.out _ _))))
       repeat (go_big_quiet_step (fail))
       refine wpQuiet_nil ?_
       intro _ hw'
       obtain ⟨⟨nq,osq⟩,hw''⟩:=hw'
       subst hw''
       go_wp2
       go_ret
       exact ⟨by simp,HG0.out.quiet _ _⟩
     · obtain ⟨dg,dO,hda⟩:∃ dg dO,da=some ⟨dg,dO,none⟩:=by
        rcases HDW.out with ⟨_,h2⟩ | h2
        · omega
        · exact h2
       subst hda
       have HC3:Hid (∀ m os,Calls Tryz.prog 148 #[.slice (some ⟨dg,dO+e9,none⟩) an (dc - e9),.slice aa an ac] (Go.Sort.grow (W0.drewN m) os) fun e w'=>e = .returned (.bool B3)∧Grown (Go.Sort.grow (W0.drewN m) os) w'):=fun m os=>HS3.out _ _ (HG0.out.quiet m os) (by
        have:=ir_drop HID.out (n:=e9) (by omega)
        rw [show dn - e9=an by omega] at this
        rw [he9]
        exact this)
       have hdI:((e9:Int) == (dc:Int))=false:=by simp;omega
       have hdJ:dn - e9=an:=by omega
       clear HS1 HS2 HS3 he9
       go_wp2
       refine wp_region_quiet_grown mixed (by kernel_rfl) ?_
       iterate 6 (go_big_quiet_step ((go_at_call 148;exact grown_of (HC1.out _ _))))
       iterate 8 (go_big_quiet_step ((go_at_call 148;exact grown_of (HC2.out _ _))))
       iterate 11 (go_big_quiet_step ((go_at_call 148;exact grown_of (HC3.out _ _))))
       repeat (go_big_quiet_step (fail))
       refine wpQuiet_nil ?_
       intro _ hw'
       obtain ⟨⟨nq,osq⟩,hw''⟩:=hw'
       subst hw''
       go_wp2
       go_ret
       exact ⟨by simp,HG0.out.quiet _ _⟩
  · have hz:=i1
    have hkI:((kn:Int) == (lc:Int))=false:=by simp;omega
    have HC2:Hid (∀ m os,Calls Tryz.prog 148 #[.slice (some ⟨lg,lo+kn,none⟩) pn (lc - kn),.slice pa pn pc] (Go.Sort.grow (W0.drewN m) os) fun e w'=>e = .returned (.bool B2)∧Grown (Go.Sort.grow (W0.drewN m) os) w'):=fun m os=>HS2.out _ _ (HG0.out.quiet m os) (by
     have:=ir_mid HIL.out (k:=kn) (n:=kn+pn) (by omega) (by omega)
     rw [show kn+pn - kn=pn by omega] at this
     exact this)
    cases B2 with
    | false=>
     clear HS1 HS2 HS3
     go_wp2
     refine wp_region_quiet_grown mixed (by kernel_rfl) ?_
     iterate 6 (go_big_quiet_step ((go_at_call 148;exact grown_of (HC1.out _ _))))
     iterate 8 (go_big_quiet_step ((go_at_call 148;exact grown_of (HC2.out _ _))))
     repeat (go_big_quiet_step (fail))
     refine wpQuiet_nil ?_
     intro _ hw'
     obtain ⟨⟨nq,osq⟩,hw''⟩:=hw'
     subst hw''
     go_wp2
     go_ret
     exact ⟨rfl,HG0.out.quiet _ _⟩
    | true=>
     have j8:((dn - an:Nat):Int)=(dn:Int) - (an:Int):=by omega
     obtain ⟨e9,he9⟩:∃ e9,dn - an=e9:=⟨_,rfl⟩
     rw [he9] at j8
     have j9:=j8.symm
     have j10:(e9:Int)≤(dn:Int):=by omega
     have j11:(e9:Int)≤(dc:Int):=by omega
     have j12:(0:Int)≤(e9:Int):=by omega
     have j13:(dn:Int)≤(dc:Int):=by omega
     clear j8
     by_cases hd0:e9=dc
     · have HC3:Hid (∀ m os,Calls Tryz.prog 148 #[.slice da 0 0,.slice aa an ac] (Go.Sort.grow (W0.drewN m) os) fun e w'=>e = .returned (.bool B3)∧Grown (Go.Sort.grow (W0.drewN m) os) w'):=fun m os=>HS3.out _ _ (HG0.out.quiet m os) (ir_zero (by rw [he9];exact List.drop_eq_nil_of_le (by have:=HLN.out.2;omega)))
       have han0:an=0:=by omega
       have hde:dn=dc:=by omega
       clear HS1 HS2 HS3 he9
       subst hd0
       subst han0
       obtain rfl:=hde
       go_wp2
       refine wp_region_quiet_grown mixed (by kernel_rfl) ?_
       iterate 6 (go_big_quiet_step ((go_at_call 148;exact grown_of (HC1.out _ _))))
       iterate 8 (go_big_quiet_step ((go_at_call 148;exact grown_of (HC2.out _ _))))
       iterate 11 (go_big_quiet_step ((go_at_call 148;exact grown_of (HC3.out _ _))))
       repeat (go_big_quiet_step (fail))
       refine wpQuiet_nil ?_
       intro _ hw'
       obtain ⟨⟨nq,osq⟩,hw''⟩:=hw'
       subst hw''
       go_wp2
       go_ret
       exact ⟨by simp,HG0.out.quiet _ _⟩
     · obtain ⟨dg,dO,hda⟩:∃ dg dO,da=some ⟨dg,dO,none⟩:=by
        rcases HDW.out with ⟨_,h2⟩ | h2
        · omega
        · exact h2
       subst hda
       have HC3:Hid (∀ m os,Calls Tryz.prog 148 #[.slice (some ⟨dg,dO+e9,none⟩) an (dc - e9),.slice aa an ac] (Go.Sort.grow (W0.drewN m) os) fun e w'=>e = .returned (.bool B3)∧Grown (Go.Sort.grow (W0.drewN m) os) w'):=fun m os=>HS3.out _ _ (HG0.out.quiet m os) (by
        have:=ir_drop HID.out (n:=e9) (by omega)
        rw [show dn - e9=an by omega] at this
        rw [he9]
        exact this)
       have hdI:((e9:Int) == (dc:Int))=false:=by simp;omega
       have hdJ:dn - e9=an:=by omega
       clear HS1 HS2 HS3 he9
       go_wp2
       refine wp_region_quiet_grown mixed (by kernel_rfl) ?_
       iterate 6 (go_big_quiet_step ((go_at_call 148;exact grown_of (HC1.out _ _))))
       iterate 8 (go_big_quiet_step ((go_at_call 148;exact grown_of (HC2.out _ _))))
       iterate 11 (go_big_quiet_step ((go_at_call 148;exact grown_of (HC3.out _ _))))
       repeat (go_big_quiet_step (fail))
       refine wpQuiet_nil ?_
       intro _ hw'
       obtain ⟨⟨nq,osq⟩,hw''⟩:=hw'
       subst hw''
       go_wp2
       go_ret
       exact ⟨by simp,HG0.out.quiet _ _⟩
def kl (rs:List Rl) (i:Int):Nat:=((rs[i.toNat]?).map fun r=>r.key.length).getD 0
def nxtK (rs:List Rl) (d l:List Int):Nat→Int
 | 0 => -1
 | k+1=>if ((rs[k]?).map fun r=>stF r d l).getD false=true∧(nxtK rs d l k<0∨kl rs (nxtK rs d l k)<kl rs k) then (k:Int) else nxtK rs d l k
theorem nxtK_is (rs:List Rl) (d l:List Int):∀ k,k≤rs.length→nxtK rs d l k = -1∨∃ i:Nat,∃ hi:i<rs.length,i<k∧nxtK rs d l k=i∧stF rs[i] d l=true
 | 0,_ => .inl rfl
 | k+1,hk=>by
  rw [nxtK]
  split
  · rename_i h
    refine .inr ⟨k,by omega,by omega,rfl,?_⟩
    have:=h.1
    rw [List.getElem?_eq_getElem (by omega)] at this
    simpa using this
  · rcases nxtK_is rs d l k (by omega) with h | ⟨i,hi,h1,h2⟩
    · exact .inl h
    · exact .inr ⟨i,hi,by omega,h2⟩
set_option maxHeartbeats 8000000 in
theorem rnext_any (v dv lv:Value) (rs:List Rl) (d l:List Int) (w:World) (h:PsR w v rs) (hO:∀ r∈rs,Ok r) (hn:rs.length≤256) (hd:IR w dv d) (hl:IR w lv l) (hdn:d.length≤1000000000) (hdw:dv = .slice none 0 0∨∃ g o n c,dv = .slice (some ⟨g,o,none⟩) n c) (hln:l.length≤1000000000) :
 Calls Tryz.prog 92 #[.agg #[v],dv,lv] w fun e w'=>e = .returned (.int .i64 (nxtK rs d l rs.length))∧Grown w w':=by
 have HP:Hid (∀ V,Grown w V→PsR V v rs):=fun V hg=>h.grown hg
 have HO:Hid (∀ r∈rs,Ok r):=hO
 have HS:Hid (∀ (V:World) (r:Rl) (av kv pv rv:Value),Grown w V→RR V av kv pv rv r→Ok r→Calls Tryz.prog 118 #[.agg #[.bool r.bg,av,kv,pv,.bool r.en,rv,.int .i64 r.cu],dv,lv] V fun e w'=>e = .returned (.bool (stF r d l))∧Grown V w'):=fun V r av kv pv rv hg hr ho=>rstF_any r av kv pv rv dv lv d l V hr (hd.grown hg) (hl.grown hg) ho hdn hdw hln
 obtain ⟨d1,d2,d3,rfl⟩:=hd.sl
 obtain ⟨l1,l2,l3,rfl⟩:=hl.sl
 obtain ⟨ra,rc,hv,hx1,hx2⟩:=h
 subst hv
 clear hx1 hx2 hd hl hdn hdw hln hO
 obtain ⟨n,hN⟩:∃ n,rs.length=n:=⟨_,rfl⟩
 have HN:Hid (rs.length=n):=hN
 have hnI:(n:Int)≤256:=by omega
 rw [hN] at HP ⊢
 obtain ⟨R,hR⟩:∃ R,nxtK rs d l n=R:=⟨_,rfl⟩
 have HR:Hid (nxtK rs d l n=R):=hR
 rw [hR]
 clear hN hn hR
 go_enter Tryz.func92,Tryz.ntmps92
 go_wp2
 obtain ⟨wA,hwA⟩:∃ wA,wA=w.alloc (.cells #[.slice ra n rc] 24):=⟨_,rfl⟩
 have HGA:Hid (Grown w wA):=by show Grown _ _;rw [hwA];exact (Grown.refl _).alloc _
 have cA:wA.cell? ⟨w.heap.size,0,none⟩=some (.slice ra n rc):=by rw [hwA];simp
 try rw [←hwA]
 clear hwA
 go_loopw [7,8] (fun vb vi wr=>∃ (k:Nat) (b:Int),vi = .int .i64 k∧vb = .int .i64 b∧k≤n∧Hid (b=nxtK rs d l k)∧Grown wA wr) (fun _ vi _=>n - (intOf vi).toNat)
 case atStart=>exact ⟨0,-1,rfl,rfl,by omega,rfl,Grown.refl _⟩
 case round=>
  obtain ⟨k,b,rfl,rfl,hk,HB,hG⟩:=hrel
  have hk0:(0:Int)≤(k:Int):=by omega
  have c0:=hG.cellv cA
  by_cases hlt:k<n
  · have hlt':(k:Int)<(n:Int):=by omega
    have hkl:k<rs.length:=by rw [HN.out];exact hlt
    obtain ⟨a',c',e',_,hP⟩:=HP.out wr (HGA.out.trans hG)
    obtain ⟨g,o,ha',hP2⟩:=hP.resolve_left (fun e=>by rw [e] at hkl;simp at hkl)
    injection e' with e1 e2 e3
    clear e2 e3
    rw [ha'] at e1
    subst e1
    obtain ⟨av,kv,pv,rv,q0,q1,q2,q3,q4,q5,q6,hR⟩:=hP2 k hkl
    have HC0:=fun (V:World) (hg:Grown wr V)=>HS.out V rs[k] av kv pv rv (HGA.out.trans (hG.trans hg)) (hR.grown hg) (HO.out _ (List.getElem_mem hkl))
    have hnx:nxtK rs d l (k+1)=if stF rs[k] d l=true∧(b<0∨kl rs b<rs[k].key.length) then (k:Int) else b:=by
     have e:kl rs (k:Int)=rs[k].key.length:=by simp [kl,hkl]
     rw [nxtK,List.getElem?_eq_getElem hkl,HB.out,e]
     simp
    obtain ⟨S,hS⟩:∃ S,stF rs[k] d l=S:=⟨_,rfl⟩
    rw [hS] at HC0 hnx
    have HC:Hid (∀ m os,Calls Tryz.prog 118 #[.agg #[.bool rs[k].bg,av,kv,pv,.bool rs[k].en,rv,.int .i64 rs[k].cu],.slice d1 d2 d3,.slice l1 l2 l3] (Go.Sort.grow (wr.drewN m) os) fun e w'=>e = .returned (.bool S)∧Grown (Go.Sort.grow (wr.drewN m) os) w'):=fun m os=>HC0 _ ((Grown.refl wr).quiet m os)
    have hbi:=nxtK_is rs d l k (by omega)
    rw [←HB.out] at hbi
    obtain ⟨ka,kc,hkv,hx1,hx2⟩:=hR.k
    clear hx1 hx2
    obtain ⟨kn,hkn⟩:∃ kn,rs[k].key.length=kn:=⟨_,rfl⟩
    rw [hkn] at hkv hnx
    subst hkv
    obtain ⟨a1,a2,a3,rfl⟩:=hR.a.sl
    obtain ⟨p1,p2,p3,rfl⟩:=hR.p.sl
    obtain ⟨r1,r2,r3,rfl⟩:=hR.r.sl
    generalize rs[k].bg=xb at q0 HC
    generalize rs[k].en=xe at q4 HC
    generalize rs[k].cu=xc at q6 HC
    have k0:=fun m os=>((Grown.refl wr).quiet m os).cellv c0
    have p0:=fun m os=>((Grown.refl wr).quiet m os).cellv q0
    have p1:=fun m os=>((Grown.refl wr).quiet m os).cellv q1
    have p2:=fun m os=>((Grown.refl wr).quiet m os).cellv q2
    have p3:=fun m os=>((Grown.refl wr).quiet m os).cellv q3
    have p4:=fun m os=>((Grown.refl wr).quiet m os).cellv q4
    have p5:=fun m os=>((Grown.refl wr).quiet m os).cellv q5
    have p6:=fun m os=>((Grown.refl wr).quiet m os).cellv q6
    have HGW:Hid (∀ m os,Grown wA (Go.Sort.grow (wr.drewN m) os)):=fun m os=>hG.quiet m os
    have HKL:Hid (∀ i:Nat,i<n→∃ kn' ka' kc',(∀ m os,(Go.Sort.grow (wr.drewN m) os).cell? ⟨g,o+i*7+2,none⟩=some (.slice ka' kn' kc'))∧kl rs (i:Int)=kn'):=fun i hi=>by
     have hil:i<rs.length:=by rw [HN.out];exact hi
     obtain ⟨_,kv',_,_,_,_,z2,_,_,_,_,hR'⟩:=hP2 i hil
     obtain ⟨ka',kc',hkv',_,_⟩:=hR'.k
     exact ⟨_,ka',kc',fun m os=>by rw [←hkv'];exact ((Grown.refl wr).quiet m os).cellv z2,by simp [kl,hil]⟩
    have HNX:=Hid.mk' hnx
    have HBI:=Hid.mk' hbi
    clear HC0 hR hP hP2 ha' hS hnx hbi hkn q0 q1 q2 q3 q4 q5 q6 HB hG
    cases S with
    | false=>
     as_aux_lemma=>
      have HX:Hid (b=nxtK rs d l (k+1)):=by rw [HNX.out];simp [Hid]
      clear HNX HKL HBI
      go_wp2
      refine wp_region_quiet_grown mixed (by kernel_rfl) ?_
      repeat (go_big_quiet_step ((go_at_call 118;exact grown_of (HC.out _ _))))
      refine wpQuiet_nil ?_
      intro _ hw'
      obtain ⟨⟨nq,osq⟩,hw''⟩:=hw'
      subst hw''
      go_wp2
      exact ⟨⟨k+1,b,by go_num,rfl,by omega,HX,HGW.out _ _⟩,by simp [intOf];omega⟩
    | true=>
     by_cases hb:b<0
     · as_aux_lemma=>
        have HX:Hid ((k:Int)=nxtK rs d l (k+1)):=by rw [HNX.out];simp [Hid,hb]
        clear HNX HKL HBI
        go_wp2
        refine wp_region_quiet_grown mixed (by kernel_rfl) ?_
        repeat (go_big_quiet_step ((go_at_call 118;exact grown_of (HC.out _ _))))
        refine wpQuiet_nil ?_
        intro _ hw'
        obtain ⟨⟨nq,osq⟩,hw''⟩:=hw'
        subst hw''
        go_wp2
        exact ⟨⟨k+1,k,by go_num,rfl,by omega,HX,HGW.out _ _⟩,by simp [intOf];omega⟩
     · obtain ⟨bi,hbi⟩:∃ bi:Nat,b=(bi:Int):=⟨b.toNat,by omega⟩
       subst hbi
       have hbn:bi<n:=by
        rcases HBI.out with h1 | ⟨i,_,h2,h3,_⟩
        · omega
        · omega
       have hbnI:(bi:Int)<(n:Int):=by omega
       have hb0:(0:Int)≤(bi:Int):=by omega
       have hbd:decide ((bi:Int)<0)=false:=by simp
       obtain ⟨kn',ka',kc',z2,hz⟩:=HKL.out bi hbn
       have HNY:=Hid.mk' (by have:=HNX.out;rw [hz] at this;exact this)
       clear HNX HKL HBI hz
       by_cases hgt:kn'<kn
       · as_aux_lemma=>
          have hgtI:(kn':Int)<(kn:Int):=by omega
          have HX:Hid ((k:Int)=nxtK rs d l (k+1)):=by rw [HNY.out];simp [Hid,hgt]
          clear HNY
          go_wp2
          refine wp_region_quiet_grown mixed (by kernel_rfl) ?_
          repeat (go_big_quiet_step ((go_at_call 118;exact grown_of (HC.out _ _))))
          refine wpQuiet_nil ?_
          intro _ hw'
          obtain ⟨⟨nq,osq⟩,hw''⟩:=hw'
          subst hw''
          go_wp2
          exact ⟨⟨k+1,k,by go_num,rfl,by omega,HX,HGW.out _ _⟩,by simp [intOf];omega⟩
       · as_aux_lemma=>
          have hgtI:¬ (kn':Int)<(kn:Int):=by omega
          have hgtD:decide ((kn':Int)<(kn:Int))=false:=by simp;omega
          have hgtE:decide (kn'<kn)=false:=by simp;omega
          have HX:Hid ((bi:Int)=nxtK rs d l (k+1)):=by rw [HNY.out,if_neg (by simp;omega)];rfl
          clear HNY
          go_wp2
          refine wp_region_quiet_grown mixed (by kernel_rfl) ?_
          repeat (go_big_quiet_step ((go_at_call 118;exact grown_of (HC.out _ _))))
          refine wpQuiet_nil ?_
          intro _ hw'
          obtain ⟨⟨nq,osq⟩,hw''⟩:=hw'
          subst hw''
          go_wp2
          exact ⟨⟨k+1,bi,by go_num,rfl,by omega,HX,HGW.out _ _⟩,by simp [intOf];omega⟩
  · as_aux_lemma=>
     have hge:¬ (k:Int)<(n:Int):=by omega
     have HQ:Hid (b=R):=by
      have:k=n:=by omega
      rw [HB.out,this];exact HR.out
     clear HB
     go_wp2
     go_ret
     exact ⟨by rw [HQ.out];rfl,HGA.out.trans hG⟩
structure Stp where
 (r d l t a b:Int)
def stepL (rs:List Rl) (l:List Int) (x:Stp):List Int:=
 if x.r<0 then l.drop 1 else match rs[x.r.toNat]? with
 | none=>[]
 | some r=>(backP r).map (wrt r.key (l.take x.t.toNat))++l.drop x.t.toNat
def OkStp (rs:List Rl) (l:List Int) (x:Stp):Prop:=
 (x.r = -1∧x.t=1∧x.a=1∧0<l.length)∨∃ (i:Nat) (hi:i<rs.length),x.r=i∧x.t=rs[i].key.length∧rs[i].key.length≤l.length∧layB rs[i] (l.take rs[i].key.length)=true∧x.a=rs[i].cu
def AllU (l:List Int):Prop:=∀ u∈l,wd u≠0
theorem AllU.append {l k:List Int} (h:AllU l) (h2:AllU k):AllU (l++k):=fun u hu=>(List.mem_append.1 hu).elim (h u) (h2 u)
theorem stepL_rule {rs:List Rl} {l:List Int} {x:Stp} {i:Nat} (hi:i<rs.length) (h1:x.r=i) (h2:x.t=rs[i].key.length):stepL rs l x=(backP rs[i]).map (wrt rs[i].key (l.take rs[i].key.length))++l.drop rs[i].key.length:=by
 unfold stepL
 rw [if_neg (by omega),h1,h2]
 simp [hi]
theorem back_units {r:Rl} {us:List Int} (hl:layB r us=true):AllU ((backP r).map (wrt r.key us)):=fun u hu=>by
 obtain ⟨p,hp,rfl⟩:=List.mem_map.1 hu
 exact (wr_any hl (List.mem_of_mem_drop hp)).w
theorem OkStp.light {rs:List Rl} {st:St} (h:Fin rs st) {l:List Int} {x:Stp} (hx:OkStp rs l x):wS rs st (stepL rs l x)+1≤wS rs st l:=by
 rcases hx with ⟨h1,h2,h3,h4⟩ | ⟨i,hi,h1,h2,h3,h4,h5⟩
 · unfold stepL
   rw [if_pos (by omega)]
   match l,h4 with
   | u::l,_=>
    rw [List.drop_one,List.tail_cons,wS]
    have:=(h.wK_in u).1
    omega
 · rw [stepL_rule hi h1 h2,wS_append]
   have:=h.light hi h4
   have e:wS rs st l=wS rs st (l.take rs[i].key.length)+wS rs st (l.drop rs[i].key.length):=by rw [←wS_append,List.take_append_drop]
   omega
theorem OkStp.units {rs:List Rl} {l:List Int} {x:Stp} (hx:OkStp rs l x) (hu:AllU l):AllU (stepL rs l x):=by
 rcases hx with ⟨h1,h2,h3,h4⟩ | ⟨i,hi,h1,h2,h3,h4,h5⟩
 · unfold stepL
   rw [if_pos (by omega)]
   exact fun u h=>hu u (List.mem_of_mem_drop h)
 · rw [stepL_rule hi h1 h2]
   exact (back_units h4).append fun u h=>hu u (List.mem_of_mem_drop h)
def lft (rs:List Rl) (l:List Int) (xs:List Stp):List Int:=xs.foldl (stepL rs) l
theorem lft_snoc (rs:List Rl) (l:List Int) (xs:List Stp) (x:Stp):lft rs l (xs++[x])=stepL rs (lft rs l xs) x:=by simp [lft]
def GoOk (rs:List Rl) (l:List Int) (xs:List Stp):Prop:=∀ (i:Nat) (h:i<xs.length),OkStp rs (lft rs l (xs.take i)) xs[i]
theorem GoOk.nil (rs:List Rl) (l:List Int):GoOk rs l []:=fun i h=>by simp at h
theorem GoOk.snoc {rs:List Rl} {l:List Int} {xs:List Stp} {x:Stp} (h:GoOk rs l xs) (hx:OkStp rs (lft rs l xs) x):GoOk rs l (xs++[x]):=fun i hi=>by
 by_cases e:i<xs.length
 · have:=h i e
   rw [List.take_append_of_le_length (by omega),List.getElem_append_left e]
   exact this
 · have e2:i=xs.length:=by rw [List.length_append,List.length_singleton] at hi;omega
   subst e2
   simpa using hx
theorem lft_succ (rs:List Rl) (l:List Int) (xs:List Stp) {i:Nat} (h:i<xs.length):lft rs l (xs.take (i+1))=stepL rs (lft rs l (xs.take i)) xs[i]:=by
 rw [List.take_add_one,List.getElem?_eq_getElem h]
 exact lft_snoc rs l _ _
theorem GoOk.weight {rs:List Rl} {st:St} (hF:Fin rs st) {l:List Int} {xs:List Stp} (h:GoOk rs l xs):∀ i,i≤xs.length→(i:Int)+wS rs st (lft rs l (xs.take i))≤wS rs st l
 | 0,_=>by simp [lft]
 | i+1,hi=>by
  have ih:=h.weight hF i (by omega)
  have:=(h i (by omega)).light hF
  rw [lft_succ rs l xs (by omega)]
  omega
theorem wS_len {rs:List Rl} {st:St} (h:Fin rs st):∀ l:List Int,(l.length:Int)≤wS rs st l∧wS rs st l≤64*l.length
 | []=>by simp [wS]
 | u::l=>by
  have:=wS_len h l
  have:=h.wK_in u
  rw [wS,List.length_cons]
  omega
def sumA:List Stp→Int
 | []=>0
 | x::l=>x.a+sumA l
theorem sumA_snoc (l:List Stp) (x:Stp):sumA (l++[x])=sumA l+x.a:=by
 induction l with
 | nil=>simp [sumA]
 | cons y l ih=>simp only [List.cons_append,sumA,ih];omega
theorem nextS_ok {rs:List Rl} (hc:∀ r∈rs,chk r=0) (d:List Int) {l:List Int} (hl:0<l.length) :
 (nxtK rs d l rs.length = -1∧OkStp rs l ⟨-1,d.length,l.length,1,1,0⟩)∨∃ (i:Nat) (hi:i<rs.length),nxtK rs d l rs.length=i∧rs[i].key.length≤l.length∧layB rs[i] (l.take rs[i].key.length)=true∧OkStp rs l ⟨i,d.length,l.length,rs[i].key.length,rs[i].cu,(backP rs[i]).length⟩:=by
 rcases nxtK_is rs d l rs.length (Nat.le_refl _) with h | ⟨i,hi,_,h1,h2⟩
 · exact .inl ⟨h,.inl ⟨rfl,rfl,rfl,hl⟩⟩
 · have h3:=stF_key h2
   have h4:layB rs[i] (l.take rs[i].key.length)=true:=by
    simp only [layB,Bool.and_eq_true,decide_eq_true_eq]
    exact ⟨hc _ (List.getElem_mem hi),h3.2⟩
   exact .inr ⟨i,hi,h1,h3.1,h4,.inr ⟨i,hi,rfl,rfl,h3.1,h4,rfl⟩⟩
def ruleN (rs:List Rl) (d l:List Int):Option Rl:=if nxtK rs d l rs.length<0 then none else rs[(nxtK rs d l rs.length).toNat]?
def stp (rs:List Rl) (d l:List Int):Stp:=match ruleN rs d l with
 | none=>⟨-1,d.length,l.length,1,1,0⟩
 | some r=>⟨nxtK rs d l rs.length,d.length,l.length,r.key.length,r.cu,(backP r).length⟩
def layd (rs:List Rl) (d l:List Int):List Int:=match ruleN rs d l with
 | none=>l.take 1
 | some r=>(outs r (l.take r.key.length)).take r.cu.toNat
def lefd (rs:List Rl) (d l:List Int):List Int:=match ruleN rs d l with
 | none=>l.drop 1
 | some r=>(outs r (l.take r.key.length)).drop r.cu.toNat++l.drop r.key.length
def go3 (rs:List Rl) (l0:List Int):Nat→List Stp × List Int × List Int
 | 0=>([],[],l0)
 | k+1=>if (go3 rs l0 k).2.2=[] then go3 rs l0 k else ((go3 rs l0 k).1++[stp rs (go3 rs l0 k).2.1 (go3 rs l0 k).2.2],(go3 rs l0 k).2.1++layd rs (go3 rs l0 k).2.1 (go3 rs l0 k).2.2,lefd rs (go3 rs l0 k).2.1 (go3 rs l0 k).2.2)
def G3 (rs:List Rl) (l0:List Int) (xs:List Stp) (d l:List Int):Prop:=go3 rs l0 xs.length=(xs,d,l)
theorem G3.nil (rs:List Rl) (l0:List Int):G3 rs l0 [] [] l0:=rfl
theorem G3.snoc {rs:List Rl} {l0:List Int} {xs:List Stp} {d l:List Int} (h:G3 rs l0 xs d l) (hl:l≠[]):G3 rs l0 (xs++[stp rs d l]) (d++layd rs d l) (lefd rs d l):=by
 unfold G3 at h ⊢
 rw [List.length_append,List.length_singleton,go3,h]
 simp only []
 rw [if_neg hl]
theorem go3_stay {rs:List Rl} {l0:List Int} {k:Nat} (h:(go3 rs l0 k).2.2=[]):∀ m,go3 rs l0 (k+m)=go3 rs l0 k
 | 0=>rfl
 | m+1=>by
  have ih:=go3_stay h m
  rw [←Nat.add_assoc,go3,ih,if_pos h]
theorem G3.one {rs:List Rl} {l0:List Int} {xs xs':List Stp} {d d':List Int} (h:G3 rs l0 xs d []) (h':G3 rs l0 xs' d' []):xs=xs'∧d=d':=by
 unfold G3 at h h'
 have key:∀ (a b:Nat),a≤b→(go3 rs l0 a).2.2=[]→go3 rs l0 b=go3 rs l0 a:=fun a b hab h0=>by
  have:=go3_stay h0 (b - a)
  rwa [show a+(b - a)=b by omega] at this
 have e:(xs,d,([]:List Int))=(xs',d',[]):=by
  rcases Nat.le_total xs.length xs'.length with hl | hl
  · have:=key _ _ hl (by rw [h])
    rw [h,h'] at this
    exact this.symm
  · have:=key _ _ hl (by rw [h'])
    rw [h,h'] at this
    exact this
 injection e with e1 e2
 injection e2 with e2 _
 exact ⟨e1,e2⟩
theorem ruleN_is {rs:List Rl} (d l:List Int):(ruleN rs d l=none∧nxtK rs d l rs.length = -1)∨∃ (i:Nat) (hi:i<rs.length),nxtK rs d l rs.length=i∧ruleN rs d l=some rs[i]:=by
 rcases nxtK_is rs d l rs.length (Nat.le_refl _) with h | ⟨i,hi,_,h1,_⟩
 · exact .inl ⟨by unfold ruleN;rw [if_pos (by omega)],h⟩
 · exact .inr ⟨i,hi,h1,by unfold ruleN;rw [if_neg (by omega),h1];simp [hi]⟩
theorem stp_none {rs:List Rl} {d l:List Int} (h:nxtK rs d l rs.length = -1):stp rs d l=⟨-1,d.length,l.length,1,1,0⟩∧layd rs d l=l.take 1∧lefd rs d l=l.drop 1:=by
 have e:ruleN rs d l=none:=by unfold ruleN;rw [if_pos (by omega)]
 unfold stp layd lefd
 rw [e]
 exact ⟨rfl,rfl,rfl⟩
theorem stp_rule {rs:List Rl} {d l:List Int} {i:Nat} (hi:i<rs.length) (h:nxtK rs d l rs.length=i):stp rs d l=⟨i,d.length,l.length,rs[i].key.length,rs[i].cu,(backP rs[i]).length⟩∧layd rs d l=(outs rs[i] (l.take rs[i].key.length)).take rs[i].cu.toNat∧lefd rs d l=(outs rs[i] (l.take rs[i].key.length)).drop rs[i].cu.toNat++l.drop rs[i].key.length:=by
 have e:ruleN rs d l=some rs[i]:=by unfold ruleN;rw [if_neg (by omega),h];simp [hi]
 unfold stp layd lefd
 rw [e,h]
 exact ⟨rfl,rfl,rfl⟩
structure G3K (rs:List Rl) (l0:List Int) (k:Nat) (p:List Stp × List Int × List Int):Prop where
 ok:GoOk rs l0 p.1
 lf:lft rs l0 p.1=p.2.2
 dn:(p.2.1.length:Int)=sumA p.1
 d16:p.2.1.length≤16*p.1.length
 un:AllU l0→AllU p.2.2∧AllU p.2.1
 k:p.1.length=k∨p.1.length≤k∧p.2.2=[]
theorem stp_ok {rs:List Rl} (hc:∀ r∈rs,chk r=0) (d:List Int) {l:List Int} (hl:l≠[]):OkStp rs l (stp rs d l)∧stepL rs l (stp rs d l)=lefd rs d l∧(layd rs d l).length=(stp rs d l).a∧(layd rs d l).length≤16∧(AllU l→AllU (layd rs d l)):=by
 have hl0:=List.length_pos_iff.2 hl
 rcases nextS_ok hc d hl0 with ⟨h,hok⟩ | ⟨i,hi,h,h2,h3,hok⟩
 · obtain ⟨e1,e2,e3⟩:=stp_none h
   rw [e1,e2,e3]
   refine ⟨hok,by unfold stepL;rw [if_pos (show (-1:Int)<0 by decide)],by simp;omega,by simp;omega,fun hu u h=>hu u (List.mem_of_mem_take h)⟩
 · obtain ⟨e1,e2,e3⟩:=stp_rule hi h
   rw [e1,e2,e3]
   have hO:=chk_ok (hc _ (List.getElem_mem hi))
   have ho:(outs rs[i] (l.take rs[i].key.length)).length=rs[i].res.length:=by simp [outs]
   have q1:=hO.r16
   have q2:=hO.c0
   have q3:=hO.c1
   have e4:((outs rs[i] (l.take rs[i].key.length)).take rs[i].cu.toNat).length=rs[i].cu.toNat:=by rw [List.length_take,ho];omega
   refine ⟨hok,?_,by rw [e4];show _=rs[i].cu;omega,by rw [e4];omega,fun hu u h => ?_⟩
   · rw [stepL_rule hi rfl rfl]
     simp [outs,backP,List.map_drop]
   · obtain ⟨p,hp,rfl⟩:=List.mem_map.1 (List.mem_of_mem_take h)
     exact (wr_any h3 hp).w
theorem go3_ok {rs:List Rl} (hc:∀ r∈rs,chk r=0) (l0:List Int):∀ k,G3K rs l0 k (go3 rs l0 k)
 | 0=>⟨GoOk.nil _ _,rfl,rfl,by simp [go3],fun h=>⟨h,fun u hu=>by simp [go3] at hu⟩,.inl rfl⟩
 | k+1=>by
  have ih:=go3_ok hc l0 k
  rw [go3]
  by_cases hl:(go3 rs l0 k).2.2=[]
  · rw [if_pos hl]
    exact ⟨ih.ok,ih.lf,ih.dn,ih.d16,ih.un,.inr ⟨by rcases ih.k with h | h <;> omega,hl⟩⟩
  · rw [if_neg hl]
    obtain ⟨h1,h2,h3,h4,h5⟩:=stp_ok hc (go3 rs l0 k).2.1 hl
    have hk:(go3 rs l0 k).1.length=k:=ih.k.resolve_right fun h=>hl h.2
    refine ⟨ih.ok.snoc (by rw [ih.lf];exact h1),by rw [lft_snoc,ih.lf];exact h2,?_,?_,fun hu => ?_,.inl (by simp [hk])⟩
    · have:=ih.dn
      rw [sumA_snoc,List.length_append]
      omega
    · have:=ih.d16
      simp only [List.length_append,List.length_singleton]
      omega
    · have:=ih.un hu
      refine ⟨?_,this.2.append (h5 this.1)⟩
      show AllU (lefd rs _ _)
      rw [←h2]
      exact h1.units this.1
theorem G3.k {rs:List Rl} (hc:∀ r∈rs,chk r=0) {l0:List Int} {xs:List Stp} {d l:List Int} (h:G3 rs l0 xs d l):G3K rs l0 xs.length (xs,d,l):=by
 have:=go3_ok hc l0 xs.length
 unfold G3 at h
 rwa [h] at this
theorem G3.lens {rs:List Rl} {st:St} (hF:Fin rs st) (hc:∀ r∈rs,chk r=0) {l0:List Int} {xs:List Stp} {d l:List Int} (h:G3 rs l0 xs d l):(xs.length:Int)+l.length≤wS rs st l0∧wS rs st l0≤64*l0.length∧d.length≤16*xs.length:=by
 have hk:=h.k hc
 have h1:=hk.ok.weight hF xs.length (Nat.le_refl _)
 have e:lft rs l0 (xs.take xs.length)=l:=by rw [List.take_length];exact hk.lf
 rw [e] at h1
 have h2:=(wS_len hF l0).2
 have h3:=(wS_len hF l).1
 exact ⟨by omega,h2,hk.d16⟩
def fin3 (rs:List Rl) (st:St) (l0:List Int):List Stp × List Int × List Int:=go3 rs l0 (wS rs st l0).toNat
theorem fin3_end {rs:List Rl} {st:St} (hF:Fin rs st) (hc:∀ r∈rs,chk r=0) (l0:List Int):(fin3 rs st l0).2.2=[]:=by
 unfold fin3
 have hk:=go3_ok hc l0 (wS rs st l0).toNat
 rcases hk.k with h | h
 · have h1:=hk.ok.weight hF _ (Nat.le_refl _)
   rw [List.take_length,hk.lf,h] at h1
   have h2:=(wS_len hF l0).1
   have h3:=(wS_len hF (go3 rs l0 (wS rs st l0).toNat).2.2).1
   exact List.eq_nil_of_length_eq_zero (by omega)
 · exact h.2
theorem fin3_G3 {rs:List Rl} {st:St} (hF:Fin rs st) (hc:∀ r∈rs,chk r=0) (l0:List Int):G3 rs l0 (fin3 rs st l0).1 (fin3 rs st l0).2.1 []:=by
 have he:=fin3_end hF hc l0
 have hk:=go3_ok hc l0 (wS rs st l0).toNat
 unfold G3
 have key:go3 rs l0 (fin3 rs st l0).1.length=fin3 rs st l0:=by
  have:∀ K,go3 rs l0 (go3 rs l0 K).1.length=go3 rs l0 K:=fun K=>by
   induction K with
   | zero=>rfl
   | succ K ih=>
    by_cases hl:(go3 rs l0 K).2.2=[]
    · have e:go3 rs l0 (K+1)=go3 rs l0 K:=by rw [go3,if_pos hl]
      rw [e,ih]
    · have hK:=(go3_ok hc l0 K).k.resolve_right fun h=>hl h.2
      have e:(go3 rs l0 (K+1)).1.length=K+1:=by rw [go3,if_neg hl];simp [hK]
      rw [e]
  exact this _
 rw [key]
 rcases hX:fin3 rs st l0 with ⟨a,b,c⟩
 rw [hX] at he
 simp only at he
 rw [he]
def fs1 (x:Stp):List Value:=[.int .i64 x.r,.int .i64 x.d,.int .i64 x.l,.int .i64 x.t,.int .i64 x.a,.int .i64 x.b]
def fs (xs:List Stp):List Value:=xs.flatMap fs1
theorem fs_append (l k:List Stp):fs (l++k)=fs l++fs k:=by simp [fs]
theorem fs_one (l:List Stp):∀ u∈fs l,u.oneCell'=true:=by
 intro u hu
 simp only [fs,List.mem_flatMap] at hu
 obtain ⟨x,_,hx⟩:=hu
 simp only [fs1,List.mem_cons,List.not_mem_nil,or_false] at hx
 rcases hx with rfl | rfl | rfl | rfl | rfl | rfl <;> rfl
def OwnS (w:World) (base:Nat) (v:Value) (l:List Stp):Prop:=w.ownsRow base 130 6 v l.length (fs l)
theorem OwnS.nil (w:World) (base:Nat):OwnS w base (.slice none 0 0) []:=World.ownsRow_nil _ _ _ _
theorem OwnS.below {w w':World} {base n:Nat} {v:Value} {l:List Stp} (h:OwnS w base v l) (hb:Below n w w') (hn:w.heap.size≤n):OwnS w' base v l:=by
 refine ⟨h.1,?_⟩
 rcases h.2 with h1 | ⟨g,cap,cur,h1,h2,h3,h4⟩
 · exact .inl h1
 · exact .inr ⟨g,cap,cur,h1,h2,blk_below h3 hb (by have:=blk_lt h3;omega),h4⟩
theorem OwnS.turn {w w':World} {base:Nat} {v:Value} {l:List Stp} (h:OwnS w base v l) (hk:∀ b,base≤b→w'.heap[b]? = w.heap[b]?):OwnS w' base v l:=by
 refine ⟨h.1,?_⟩
 rcases h.2 with h1 | ⟨g,cap,cur,h1,h2,h3,h4⟩
 · exact .inl h1
 · exact .inr ⟨g,cap,cur,h1,h2,(hk g h2).trans h3,h4⟩
theorem row_blk {w:World} {base size n:Nat} {e:TypeId} {v:Value} {xs:List Value} (h:w.ownsRow base e size v n xs):v.ownBlock=none∨∃ g cur,v.ownBlock=some g∧base≤g∧w.heap[g]? = some (.cells cur e (0,0)):=by
 rcases h.2 with ⟨rfl,_⟩ | ⟨g,cap,cur,rfl,h2,h3,_⟩
 · exact .inl rfl
 · exact .inr ⟨g,cur,rfl,h2,h3⟩
structure GS (w1:World) (op:Nat) (wr:World) (uv sv lv:Value) (d:List Int) (xs:List Stp) (l:List Int):Prop where
 blk:wr.heap[op]? = some (.cells #[uv,sv] 101 (0,0))
 own:OwnI wr (op+1) uv d
 ows:OwnS wr (op+1) sv xs
 lef:IR wr lv l
 lap:l≠[]→∀ g,lv.ownBlock=some g→g≠op∧uv.ownBlock≠some g∧sv.ownBlock≠some g∧g<wr.heap.size
 bel:Below op w1 wr
theorem ir_some {w:World} {v:Value} {l:List Int} (h:IR w v l) (hl:l≠[]):∃ g o n c,v = .slice (some ⟨g,o,none⟩) n c∧l.length=n∧n≤c∧IRd w g o l:=by
 obtain ⟨a,c,rfl,hc,hr⟩:=h
 obtain ⟨g,o,rfl,hd⟩:=hr.resolve_left hl
 exact ⟨g,o,_,c,rfl,rfl,hc,hd⟩
theorem ir_turn {w w':World} {v:Value} {l:List Int} (h:IR w v l) (hk:l≠[]→∀ g,v.ownBlock=some g→w'.heap[g]? = w.heap[g]?):IR w' v l:=by
 by_cases hl:l=[]
 · subst hl
   obtain ⟨a,c,rfl,hc,_⟩:=h
   exact ⟨a,c,rfl,hc,.inl rfl⟩
 · obtain ⟨g,o,n,c,rfl,h1,h2,hd⟩:=ir_some h hl
   exact ⟨_,c,by rw [h1],by omega,.inr ⟨g,o,rfl,fun j hj=>(cell_same (hk hl g rfl)).trans (hd j hj)⟩⟩
theorem GS.grown {w1:World} {op:Nat} {wr wr':World} {uv sv lv:Value} {d:List Int} {xs:List Stp} {l:List Int} (h:GS w1 op wr uv sv lv d xs l) (k:Grown wr wr'):GS w1 op wr' uv sv lv d xs l:=
 ⟨blk_below h.blk k.below (blk_lt h.blk),h.own.below k.below (Nat.le_refl _),h.ows.below k.below (Nat.le_refl _),h.lef.grown k,fun hl g hg=>by
  obtain ⟨a,b,c,e⟩:=h.lap hl g hg
  exact ⟨a,b,c,Nat.lt_of_lt_of_le e k.size⟩,h.bel.trans (k.below.mono (by have:=h.bel.size;have:=blk_lt h.blk;omega))⟩
theorem GS.apart {w1:World} {op:Nat} {wr:World} {uv sv lv:Value} {d:List Int} {xs:List Stp} {l:List Int} (h:GS w1 op wr uv sv lv d xs l):(uv.ownBlock=none∨uv.ownBlock≠sv.ownBlock)∧uv.ownBlock≠some op∧sv.ownBlock≠some op∧(∀ g,uv.ownBlock=some g→g<wr.heap.size)∧(∀ g,sv.ownBlock=some g→g<wr.heap.size):=by
 have h1:=row_blk h.own
 have h2:=row_blk h.ows
 refine ⟨?_,?_,?_,?_,?_⟩
 · rcases h1 with h1 | ⟨g,cur,h1,_,h3⟩
   · exact .inl h1
   · refine .inr fun e => ?_
     rcases h2 with h2 | ⟨g',cur',h2,_,h4⟩
     · rw [h1,h2] at e;cases e
     · rw [h1,h2] at e
       injection e with e
       subst e
       rw [h3] at h4
       injection h4 with h4
       injection h4 with _ h4
       cases h4
 · intro e
   rcases h1 with h1 | ⟨g,cur,h1,h5,_⟩
   · rw [h1] at e;cases e
   · rw [h1] at e;injection e with e;omega
 · intro e
   rcases h2 with h2 | ⟨g,cur,h2,h5,_⟩
   · rw [h2] at e;cases e
   · rw [h2] at e;injection e with e;omega
 · intro g hg
   rcases h1 with h1 | ⟨g',cur,h1,_,h3⟩
   · rw [h1] at hg;cases hg
   · rw [h1] at hg;injection hg with hg;subst hg;exact blk_lt h3
 · intro g hg
   rcases h2 with h2 | ⟨g',cur,h2,_,h3⟩
   · rw [h2] at hg;cases hg
   · rw [h2] at hg;injection hg with hg;subst hg;exact blk_lt h3
theorem GS.unit {w1:World} {op:Nat} {wr w2:World} {uv sv lv:Value} {d e:List Int} {xs:List Stp} {l:List Int} (h:GS w1 op wr uv sv lv d xs l) {g n cap:Nat} (ho:w2.ownsRow (op+1) 3 1 (.slice (some ⟨g,0,none⟩) n cap) n (ints (d++e))) (hn:n=(d++e).length) (hg:wr.grownBy w2 uv.ownBlock) (hG:uv.ownBlock=some g∨g=wr.heap.size) :
 GS w1 op (w2.setCell ⟨op,0,none⟩ (.slice (some ⟨g,0,none⟩) n cap)) (.slice (some ⟨g,0,none⟩) n cap) sv lv (d++e) xs l:=by
 obtain ⟨ap1,ap2,ap3,ap4,ap5⟩:=h.apart
 have hop:=blk_lt h.blk
 have hsz:w2.heap.size≤(w2.setCell ⟨op,0,none⟩ (.slice (some ⟨g,0,none⟩) n cap)).heap.size:=by simp
 have hb:w2.heap[op]? = some (.cells #[uv,sv] 101 (0,0)):=(hg.block op hop (fun x=>ap2 x.symm)).trans h.blk
 have ht:∀ b,op+1≤b→(w2.setCell ⟨op,0,none⟩ (.slice (some ⟨g,0,none⟩) n cap)).heap[b]? = w2.heap[b]? := fun b hb=>turns_set _ _ _ _ b (by omega)
 refine ⟨by rw [set_heap hb];rfl,?_,?_,?_,fun hl g' hg' => ?_,?_⟩
 · exact OwnI.turn (l:=d++e) (by unfold OwnI;rw [←hn];exact ho) ht
 · refine OwnS.turn (World.ownsRow.kept h.ows hg ?_) ht
   rcases ap1 with ap1 | ap1
   · rw [ap1]
     cases hs:sv.ownBlock with
     | none=>exact .inl rfl
     | some x=>exact .inr (by simp)
   · exact .inr fun x=>ap1 x.symm
 · refine ir_turn h.lef fun hl g' hg' => ?_
   obtain ⟨q1,q2,q3,q4⟩:=h.lap hl g' hg'
   rw [turns_set _ _ _ _ g' q1]
   exact hg.block g' q4 (fun x=>q2 x.symm)
 · obtain ⟨q1,q2,q3,q4⟩:=h.lap hl g' hg'
   refine ⟨q1,fun x => ?_,q3,by have:=hg.size;omega⟩
   have e1:g=g':=by simpa [Value.ownBlock] using x
   rcases hG with hG | hG
   · rw [e1] at hG;exact q2 hG
   · omega
 · exact ((h.bel.grown hg (by have:=h.bel.size;have:=hg.size;omega) (fun k hk=>by
    rcases row_blk h.own with h1 | ⟨g',_,h1,h2,_⟩
    · rw [h1] at hk;cases hk
    · rw [h1] at hk;injection hk with hk;omega)).setCell (Nat.le_refl _) _)
theorem GS.step {w1:World} {op:Nat} {wr w2:World} {uv sv lv:Value} {d:List Int} {xs e:List Stp} {l:List Int} (h:GS w1 op wr uv sv lv d xs l) {g n cap:Nat} (ho:w2.ownsRow (op+1) 130 6 (.slice (some ⟨g,0,none⟩) n cap) n (fs (xs++e))) (hn:n=(xs++e).length) (hg:wr.grownBy w2 sv.ownBlock) (hG:sv.ownBlock=some g∨g=wr.heap.size) :
 GS w1 op (w2.setCell ⟨op,1,none⟩ (.slice (some ⟨g,0,none⟩) n cap)) uv (.slice (some ⟨g,0,none⟩) n cap) lv d (xs++e) l:=by
 obtain ⟨ap1,ap2,ap3,ap4,ap5⟩:=h.apart
 have hop:=blk_lt h.blk
 have hsz:w2.heap.size≤(w2.setCell ⟨op,1,none⟩ (.slice (some ⟨g,0,none⟩) n cap)).heap.size:=by simp
 have hb:w2.heap[op]? = some (.cells #[uv,sv] 101 (0,0)):=(hg.block op hop (fun x=>ap3 x.symm)).trans h.blk
 have ht:∀ b,op+1≤b→(w2.setCell ⟨op,1,none⟩ (.slice (some ⟨g,0,none⟩) n cap)).heap[b]? = w2.heap[b]? := fun b hb=>turns_set _ _ _ _ b (by omega)
 refine ⟨by rw [set_heap hb];rfl,?_,?_,?_,fun hl g' hg' => ?_,?_⟩
 · exact OwnI.turn (World.ownsRow.kept h.own hg ap1) ht
 · exact OwnS.turn (l:=xs++e) (by unfold OwnS;rw [←hn];exact ho) ht
 · refine ir_turn h.lef fun hl g' hg' => ?_
   obtain ⟨q1,q2,q3,q4⟩:=h.lap hl g' hg'
   rw [turns_set _ _ _ _ g' q1]
   exact hg.block g' q4 (fun x=>q3 x.symm)
 · obtain ⟨q1,q2,q3,q4⟩:=h.lap hl g' hg'
   refine ⟨q1,q2,fun x => ?_,by have:=hg.size;omega⟩
   have e1:g=g':=by simpa [Value.ownBlock] using x
   rcases hG with hG | hG
   · rw [e1] at hG;exact q3 hG
   · omega
 · exact ((h.bel.grown hg (by have:=h.bel.size;have:=hg.size;omega) (fun k hk=>by
    rcases row_blk h.ows with h1 | ⟨g',_,h1,h2,_⟩
    · rw [h1] at hk;cases hk
    · rw [h1] at hk;injection hk with hk;omega)).setCell (Nat.le_refl _) _)
theorem GS.left {w1:World} {op:Nat} {wr:World} {uv sv lv lv':Value} {d:List Int} {xs:List Stp} {l l':List Int} (h:GS w1 op wr uv sv lv d xs l) (hi:IR wr lv' l') (ha:l'≠[]→∀ g,lv'.ownBlock=some g→g≠op∧uv.ownBlock≠some g∧sv.ownBlock≠some g∧g<wr.heap.size):GS w1 op wr uv sv lv' d xs l':=
 ⟨h.blk,h.own,h.ows,hi,ha,h.bel⟩
theorem sinfo49:(Tryz.prog.info? 130).map (fun i=>(i.zero,i.size,i.bytes))=some (some (.agg #[.int .i64 0,.int .i64 0,.int .i64 0,.int .i64 0,.int .i64 0,.int .i64 0]),6,48):=by kernel_rfl
theorem push_St {ops:Array Oper} {rest:List Oper} {o:Oper} {a:Act} {Q:Exit→Act→World→Prop} {w w1:World} {op:Nat} {uv sv lv:Value} {d:List Int} {xs:List Stp} {l:List Int} (hgd:o.guard=none) (s x:Operand)
 (ho:o.op = .call { callee := .builtin .append,args:=#[s,x],argTypes:=#[99,99] }) (hs:a.eval s=sv) (h:GS w1 op w uv sv lv d xs l) (gb c:Nat) (y:Stp) (hx:a.eval x = .slice (some ⟨gb,0,none⟩) 1 c)
 (hc:w.heap[gb]? = some (.cells (fs1 y).toArray 130 (0,0))) (hl:xs.length+1≤1000000000)
 (hK:∀ g cap w2,w2.ownsRow (op+1) 130 6 (.slice (some ⟨g,0,none⟩) (xs.length+1) cap) (xs.length+1) (fs (xs++[y]))→w.grownBy w2 sv.ownBlock→(sv.ownBlock=some g∨g=w.heap.size)→wpList Tryz.prog ops Q rest (a.put o.dst (.slice (some ⟨g,0,none⟩) (xs.length+1) cap)) w2):wpList Tryz.prog ops Q (o::rest) a w:=by
 obtain ⟨i0,hi,hz0,hz1,hz2⟩:=info_parts sinfo49
 have hown:=h.ows
 unfold OwnS at hown
 refine wpList_plain hgd fun _ hK2=>wp_append_lies w s x 99 ho (op+1) 130 i0 _ 6 48 Tryz.underlying99 hi hz0 hz1 hz2 rfl (by decide) sv xs.length (fs xs) hs hown ⟨gb,0,none⟩ 1 c (fs [y]) hx rfl ?_ (fs_one _) (by omega) (by unfold maxLen;omega) (by omega) (by have:=blk_lt h.blk;omega) _ rfl fun g cap w' h2 h3 h4 _=>hK2 _ _ (hK g cap w' (by rw [fs_append];exact h2) h3 h4)
 intro j u hj
 rw [add_at,Nat.zero_add,cell_of hc]
 simpa [fs] using hj
structure UP (w1:World) (op:Nat) (w:World) (uv sv lv:Value) (d':List Int) (xs:List Stp) (l:List Int) (uv':Value) (w2:World):Prop where
 gs:GS w1 op (w2.setCell ⟨op,0,none⟩ uv') uv' sv lv d' xs l
 sl:IsSl uv'
 c:w2.cell? ⟨op,0,none⟩=some uv
 f:w2.frozen? ⟨op,0,none⟩=false
 k:∀ b,b<w.heap.size→b≠op→uv.ownBlock≠some b→(w2.setCell ⟨op,0,none⟩ uv').heap[b]? = w.heap[b]?
theorem GS.up {w1:World} {op:Nat} {wr w2:World} {uv sv lv:Value} {d e:List Int} {xs:List Stp} {l:List Int} (h:GS w1 op wr uv sv lv d xs l) {g n cap:Nat} (ho:w2.ownsRow (op+1) 3 1 (.slice (some ⟨g,0,none⟩) n cap) n (ints (d++e))) (hn:n=(d++e).length) (hg:wr.grownBy w2 uv.ownBlock) (hG:uv.ownBlock=some g∨g=wr.heap.size):UP w1 op wr uv sv lv (d++e) xs l (.slice (some ⟨g,0,none⟩) n cap) w2:=by
 have hb:w2.heap[op]? = some (.cells #[uv,sv] 101 (0,0)):=(hg.block op (blk_lt h.blk) (fun x=>h.apart.2.1 x.symm)).trans h.blk
 exact ⟨h.unit ho hn hg hG,⟨_,_,_,rfl⟩,by rw [cell_of hb];simp,free_of hb,fun b h1 h2 h3=>(turns_set _ _ _ _ b h2).trans (hg.block b h1 (fun x=>h3 x.symm))⟩
theorem GS.same {w1:World} {op:Nat} {wr:World} {uv sv lv:Value} {d:List Int} {xs:List Stp} {l:List Int} (h:GS w1 op wr uv sv lv d xs l):UP w1 op wr uv sv lv d xs l uv wr:=by
 have ht:∀ b,op+1≤b→(wr.setCell ⟨op,0,none⟩ uv).heap[b]? = wr.heap[b]? := fun b hb=>turns_set _ _ _ _ b (by omega)
 refine ⟨⟨by rw [set_heap h.blk];rfl,h.own.turn ht,h.ows.turn ht,ir_turn h.lef fun hl g hg=>turns_set _ _ _ _ g (h.lap hl g hg).1,fun hl g hg => ?_,h.bel.setCell (Nat.le_refl _) _⟩,?_,by rw [cell_of h.blk];simp,free_of h.blk,fun b _ h2 _=>turns_set _ _ _ _ b h2⟩
 · obtain ⟨a,b,c,e⟩:=h.lap hl g hg
   exact ⟨a,b,c,by simpa using e⟩
 · obtain ⟨a,c,e⟩:=h.own.sl
   exact ⟨a,_,c,e⟩
theorem step_unit {ops:Array Oper} {o:Oper} {a:Act} {K:Act→World→Prop} {Q:Exit→Act→World→Prop} {E:Prop} {w w1:World} {op:Nat} {uv sv lv:Value} {d:List Int} {xs:List Stp} {l:List Int} (hgd:o.guard=none) (s x:Operand)
 (ho:o.op = .call { callee := .builtin .append,args:=#[s,x],argTypes:=#[49,49] }) (hs:a.eval s=uv) (h:GS w1 op w uv sv lv d xs l) (gb c:Nat) (p:Int) (hx:a.eval x = .slice (some ⟨gb,0,none⟩) 1 c)
 (hp:w.cell? ⟨gb,0,none⟩=some (.int .i64 p)) (hl:d.length+1≤1000000000)
 (hK:∀ uv' w2,UP w1 op w uv sv lv (d++[p]) xs l uv' w2→K (a.put o.dst uv') w2):if Region.wanted o (yielded ops a.tmps)=true then Oper.wp Tryz.prog o a w K Q else E:=by
 obtain ⟨i0,hi,hz0,hz1,hz2⟩:=info_parts iinfo3
 refine step_append_lies w hgd s x 49 ho (op+1) 3 i0 (.int .i64 0) 1 8 Tryz.underlying49 hi hz0 hz1 hz2 rfl (by decide) uv d.length (ints d) hs h.own ⟨gb,0,none⟩ 1 c (ints [p]) hx rfl ?_ (ints_one _) (by omega) (by unfold maxLen;omega) (by omega) (by have:=blk_lt h.blk;omega) _ rfl fun g cap w' h2 h3 h4 _=>hK _ w' (h.up (by rw [ints_append];exact h2) (by simp) h3 h4)
 intro j u hj
 match j,hj with
 | 0,hj=>simp [ints] at hj;subst hj;exact hp
theorem push_units {ops:Array Oper} {rest:List Oper} {o:Oper} {a:Act} {Q:Exit→Act→World→Prop} {w w1:World} {op:Nat} {uv sv lv:Value} {d:List Int} {xs:List Stp} {l:List Int} (hgd:o.guard=none) (s x:Operand)
 (ho:o.op = .call { callee := .builtin .append,args:=#[s,x],argTypes:=#[49,49] }) (hs:a.eval s=uv) (h:GS w1 op w uv sv lv d xs l) (e:List Int) (xv:Value) (hx:a.eval x=xv) (hi:IR w xv e) (hl:d.length+e.length≤1000000000)
 (hK:∀ uv' w2,UP w1 op w uv sv lv (d++e) xs l uv' w2→wpList Tryz.prog ops Q rest (a.put o.dst uv') w2):wpList Tryz.prog ops Q (o::rest) a w:=by
 obtain ⟨i0,hi0,hz0,hz1,hz2⟩:=info_parts iinfo3
 by_cases he:e=[]
 · subst he
   rw [List.append_nil] at hK
   obtain ⟨A,c,rfl⟩:=ir_nil hi
   obtain ⟨ua,uc,huv⟩:=h.own.sl
   have hle:d.length≤uc:=by obtain ⟨_,c',e',h1,_⟩:=h.own.ir;rw [huv] at e';injection e' with _ _ e3;omega
   refine wpList_plain hgd fun _ hK2 => ?_
   have hr:=run_append_nothing (P:=Tryz.prog) w 49 49 o.type 3 i0 Tryz.underlying49 hi0 ua d.length uc hle (.slice A 0 c) ?_
   · unfold Oper.wp execOp
     simp only [ho,resolve,invoke,builtin,Sem.run_bind,Sem.run_pure,Result.andThen_ok,List.map_toArray,List.map_cons,List.map_nil,hs,hx,huv,hr]
     exact hK2 _ _ (by rw [←huv];exact hK uv w h.same)
   · exact ⟨.inl ⟨3,Tryz.underlying49⟩,fun w'=>by cases A <;> simp [Builtin.lenOf,go_sem],by cases A <;> simp [Builtin.firstCells,go_sem],by cases A <;> simp [Builtin.firstCells,go_sem],by simp,by simp⟩
 · obtain ⟨g,o',n,c,rfl,h1,h2,hd⟩:=ir_some hi he
   refine wpList_append_lies w hgd s x 49 ho (op+1) 3 i0 (.int .i64 0) 1 8 Tryz.underlying49 hi0 hz0 hz1 hz2 rfl (by decide) uv d.length (ints d) hs h.own ⟨g,o',none⟩ n c (ints e) hx (by rw [ints_length];omega) ?_ (ints_one _) (by have:=List.length_pos_iff.2 he;omega) (by unfold maxLen;omega) (by omega) (by have:=blk_lt h.blk;omega) _ rfl fun g cap w' h2 h3 h4 _=>hK _ w' (h.up (by rw [ints_append];exact h2) (by rw [List.length_append];omega) h3 h4)
   intro j u hj
   simp only [ints,List.getElem?_map,Option.map_eq_some_iff] at hj
   obtain ⟨y,hy,rfl⟩:=hj
   obtain ⟨hj1,hj2⟩:=List.getElem?_eq_some_iff.1 hy
   rw [add_at,hd j hj1,hj2]
structure SP (w1:World) (op:Nat) (w:World) (uv sv lv:Value) (d:List Int) (xs':List Stp) (l:List Int) (sv':Value) (w2:World):Prop where
 gs:GS w1 op (w2.setCell ⟨op,1,none⟩ sv') uv sv' lv d xs' l
 sl:IsSl sv'
 c:w2.cell? ⟨op,1,none⟩=some sv
 f:w2.frozen? ⟨op,1,none⟩=false
theorem push_step {ops:Array Oper} {rest:List Oper} {o:Oper} {a:Act} {Q:Exit→Act→World→Prop} {w w1:World} {op:Nat} {uv sv lv:Value} {d:List Int} {xs:List Stp} {l:List Int} (hgd:o.guard=none) (s x:Operand)
 (ho:o.op = .call { callee := .builtin .append,args:=#[s,x],argTypes:=#[99,99] }) (hs:a.eval s=sv) (h:GS w1 op w uv sv lv d xs l) (gb c:Nat) (y:Stp) (hx:a.eval x = .slice (some ⟨gb,0,none⟩) 1 c)
 (hc:w.heap[gb]? = some (.cells (fs1 y).toArray 130 (0,0))) (hl:xs.length+1≤1000000000)
 (hK:∀ sv' w2,SP w1 op w uv sv lv d (xs++[y]) l sv' w2→wpList Tryz.prog ops Q rest (a.put o.dst sv') w2):wpList Tryz.prog ops Q (o::rest) a w:=
 push_St hgd s x ho hs h gb c y hx hc hl fun g cap w2 h1 h2 h3=>hK _ w2 (by
  have hb:w2.heap[op]? = some (.cells #[uv,sv] 101 (0,0)):=(h2.block op (blk_lt h.blk) (fun x=>h.apart.2.2.1 x.symm)).trans h.blk
  exact ⟨h.step h1 (by simp) h2 h3,⟨_,_,_,rfl⟩,by rw [cell_of hb];simp,free_of hb⟩)
def mayE (rs:List Rl) (s:ByteArray):Int:=if (chkW rs).2≠0 then (chkW rs).2 else if 16384<s.size then 2 else 0
structure Fx (rs:List Rl) (L W:List Int):Prop where
 e:W.length=L.length
 b:∀ k,k<L.length→1≤bAt W k∧bAt W k≤64
 f:∀ (i:Nat) (hi:i<rs.length) (x:Int × Int),x∈fstS rs i→∀ k,plc L x.1≤k→k<L.length→bAt L k≤x.2→wnt L W rs[i]≤bAt W k
theorem touch_ov:∀ (a b:List (Int × Int)),touchL a b=true→∃ x∈a,∃ y∈b,x.1≤y.2∧y.1≤x.2
 | [],b,h=>by cases b <;> simp [touchL,touchF] at h
 | x::a,[],h=>by simp [touchL,touchF] at h
 | x::a,y::b,h=>by
  rw [touch_cons] at h
  split at h
  · obtain ⟨p,hp,q,hq,h1⟩:=touch_ov a (y::b) h
    exact ⟨p,List.mem_cons_of_mem _ hp,q,hq,h1⟩
  · split at h
    · obtain ⟨p,hp,q,hq,h1⟩:=touch_ov (x::a) b h
      exact ⟨p,hp,q,List.mem_cons_of_mem _ hq,h1⟩
    · exact ⟨x,List.mem_cons_self,y,List.mem_cons_self,by omega,by omega⟩
termination_by a b=>a.length+b.length
theorem grK_ge {L W:List Int} {hi:Int} (hS:L.Pairwise (· < ·)):∀ (f p:Nat) (n:Int) (k:Nat),p≤k→k<L.length→bAt L k≤hi→k<p+f→bAt W k≤grK L W hi f p n
 | 0,p,n,k,h1,_,_,h2=>by omega
 | f+1,p,n,k,h1,hk,hl,h2=>by
  rw [grK,if_pos ⟨by omega,Int.le_trans (rise_le hS h1 hk) hl⟩]
  by_cases e:p=k
  · subst e
    refine Int.le_trans ?_ (grK_mono f _ _)
    split <;> omega
  · exact grK_ge hS f (p+1) _ k (by omega) hk hl (by omega)
theorem grt_mono {L W:List Int} : ∀ (s:List (Int × Int)) (n:Int),n≤s.foldl (gr1 L W) n
 | [],n=>Int.le_refl n
 | x::s,n=>by
  rw [List.foldl_cons]
  exact Int.le_trans (grK_mono _ _ _) (grt_mono s _)
theorem grt_ge {L W:List Int} (hS:L.Pairwise (· < ·)):∀ (s:List (Int × Int)) (n:Int) (x:Int × Int),x∈s→∀ k,plc L x.1≤k→k<L.length→bAt L k≤x.2→bAt W k≤s.foldl (gr1 L W) n
 | [],n,x,h,k,_,_,_=>by cases h
 | y::s,n,x,h,k,h1,h2,h3=>by
  rw [List.foldl_cons]
  rcases List.mem_cons.1 h with rfl | h
  · exact Int.le_trans (grK_ge hS _ _ _ k h1 h2 h3 (by omega)) (grt_mono s _)
  · exact grt_ge hS s _ x h k h1 h2 h3
theorem grt_one_le {L W:List Int} (hS:L.Pairwise (· < ·)) {u:Int} (hu:u∈L) (h0:0≤bAt W (plc L u)):grt L W [(u,u)]≤bAt W (plc L u):=by
 refine grt_le _ h0 fun x hx j h1 h2 h3 => ?_
 simp at hx
 subst hx
 have ha:=plc_at hS hu
 by_cases e:plc L u=j
 · rw [e];exact Int.le_refl _
 · have:=rise_lt hS (show plc L u<j by simp at h1;omega) h2
   simp at h3
   omega
theorem bkI_may {rs:List Rl} : ∀ {k:Nat} {b:Pb},b∈bkI rs k→∃ r∈rs,∃ p∈backP r,p.k≠2∧b.us=mayB p
 | 0,b,hb=>by simp [bkI] at hb
 | k+1,b,hb=>by
  rw [bkI] at hb
  rcases List.mem_append.1 hb with hb | hb
  · exact bkI_may hb
  · obtain ⟨p,h1,h2,h3⟩:=pbs_mem2 hb
    cases hk:rs[k]? with
    | none=>rw [hk] at h1;simp at h1
    | some r=>
     rw [hk] at h1
     exact ⟨r,List.mem_of_getElem? hk,p,by simpa using h1,h2,h3⟩
theorem kind_ok {rs:List Rl} (hO:∀ r∈rs,Ok r) {r:Rl} (hr:r∈rs) {p:Pc} (hp:p∈backP r):p.k=1∨p.k=2∨p.k=3:=by
 rcases pc_ok ((hO r hr).pc p (List.mem_of_mem_drop hp)) with ⟨h1,_⟩ | ⟨h1,_⟩ | ⟨h1,_⟩ <;> omega
theorem mayB_some {r:Rl} (hO:Ok r) {p:Pc} (hp:p∈backP r) (h2:p.k≠2):mayB p≠[]:=by
 rcases pc_ok (hO.pc p (List.mem_of_mem_drop hp)) with ⟨h1,hw,_⟩ | ⟨h1,_⟩ | ⟨h1,_,h3,h4,hm⟩
 · unfold mayB
   rw [if_neg (by omega)]
   simp
 · exact absurd h1 h2
 · unfold mayB
   rw [if_pos h1]
   unfold matB at hm
   simp only [Bool.and_eq_true,decide_eq_true_eq] at hm
   have hy:p.y.toNat<r.key.length:=by omega
   have hk:keyAt r.key p.y=r.key[p.y.toNat]:=by simp [keyAt,hy]
   have:=lenU_ok (List.all_eq_true.1 hO.kS _ (List.getElem_mem hy))
   intro e
   rw [e,hk] at hm
   have h0:=hm.2
   rw [h0] at this
   simp [lenU,tot] at this
theorem gs_of {L W:List Int} {rs:List Rl} (hO:∀ r∈rs,Ok r) (hS:Srt (0::bords rs) L) (hW:∀ k,k<L.length→1≤bAt W k) {r:Rl} (hr:r∈rs) (n:Nat):∀ l:List Pc,(∀ p∈l,p∈backP r)→gs (grt L W) (pbs n l) n≤pcS L W l
 | [],_=>by simp [pcS,pbs,gs]
 | p::l,hl=>by
  have ih:=gs_of (W:=W) hO hS hW hr n l fun q hq=>hl q (List.mem_cons_of_mem _ hq)
  have hp:=hl p List.mem_cons_self
  simp only [pcS,pbs]
  rcases kind_ok hO hr hp with h1 | h1 | h1
  · rw [if_neg (by omega)]
    have hm:p.u∈L:=(hS.m _).2 (List.mem_cons_of_mem _ (mem_may hr hp (.inl h1) (x:=(p.u,p.u)) (by rw [mayB,if_neg (by omega)];simp)))
    have h0:=hW _ (plc_lt p.u (List.length_pos_of_mem hm))
    have:=grt_one_le (W:=W) hS.p hm (by omega)
    have e:mayB p=[(p.u,p.u)]:=by unfold mayB;rw [if_neg (by omega)]
    simp only [gs,if_pos,e]
    rw [pcW,if_pos h1]
    omega
  · rw [if_pos h1,pcW,if_neg (by omega),if_neg (by omega)];omega
  · rw [if_neg (by omega)]
    have e:mayB p=p.tl:=by unfold mayB;rw [if_pos h1]
    simp only [gs,if_pos,e]
    rw [pcW,if_neg (by omega),if_pos h1]
    omega
theorem wsum_gs {g:List (Int × Int)→Int} : ∀ {l:List Pb},(∀ b∈l,b.wt≤g b.us)→∀ n,wsum l n≤gs g l n
 | [],_,n=>by simp [gs,wsum]
 | b::l,h,n=>by
  have h1:=wsum_gs (fun x hx=>h x (List.mem_cons_of_mem _ hx)) n
  have h2:=h b List.mem_cons_self
  simp only [gs,wsum]
  split <;> omega
def wntI (L W:List Int) (rs:List Rl) (i:Nat):Int:=(rs[i]?.map (wnt L W)).getD 0
theorem wntI_at {L W:List Int} {rs:List Rl} {i:Nat} (h:i<rs.length):wntI L W rs i=wnt L W rs[i]:=by simp [wntI,h]
theorem fst_mem {rs:List Rl} {i:Nat} (hi:i<rs.length) {x:Int × Int} (hx:x∈fstS rs i):x.1∈bords rs∧x.2+1∈bords rs:=by
 rw [fstS_at hi] at hx
 exact ⟨mem_bords (List.getElem_mem hi) (List.mem_append_left _ (List.mem_flatMap.2 ⟨x,hx,by simp⟩)),mem_bords (List.getElem_mem hi) (List.mem_append_left _ (List.mem_flatMap.2 ⟨x,hx,by simp⟩))⟩
theorem Fx.fea {rs:List Rl} {L W:List Int} (h:Fx rs L W) (hS:Srt (0::bords rs) L) (hA:(allE rs).2=0) (hcp:∀ r∈rs,copB r=false) :
 ∃ st,wgh rs=(some st,0,0)∧∀ i (hi:i<rs.length),at0 st.ws i≤max 1 (wnt L W rs[i]):=by
 have hok:=allE_ok hA
 have hO:=hok.2
 have hpos:0<L.length:=List.length_pos_of_mem ((hS.m 0).2 (by simp))
 have husb:∀ j,j<(bkI rs rs.length).length→∃ r∈rs,∃ p∈backP r,p.k≠2∧(((bkI rs rs.length).map Pb.us)[j]?).getD []=mayB p:=fun j hj=>by
  obtain ⟨r,hr,p,hp,h2,e⟩:=bkI_may (List.getElem_mem hj)
  refine ⟨r,hr,p,hp,h2,?_⟩
  rw [List.getElem?_map,List.getElem?_eq_getElem hj]
  simpa using e
 have hmL:∀ {r:Rl} (_:r∈rs) {p:Pc} (_:p∈backP r) (_:p.k≠2) {y:Int × Int} (_:y∈mayB p),y.1∈L∧y.1≤y.2:=fun {r} hr {p} hp h2 {y} hy=>
  ⟨(hS.m _).2 (List.mem_cons_of_mem _ (mem_may hr hp (by have:=kind_ok hO hr hp;omega) hy)),((mayB_good (hO r hr) hp h2).1 y hy).1⟩
 have hsol:Sol rs (csI rs) ((bkI rs rs.length).map Pb.us) ((bkI rs rs.length).map Pb.r) (fun i=>max 1 (wntI L W rs i)) (fun j=>grt L W ((((bkI rs rs.length).map Pb.us)[j]?).getD [])):=by
  refine ⟨fun i j hi hj hT => ?_,fun st2 h1 h2 h3 i hi => ?_,fun i hi => ?_⟩
  · rw [csI_len] at hi
    simp only [List.length_map] at hj
    obtain ⟨r,hr,p,hp,h2,e⟩:=husb j hj
    rw [e] at hT ⊢
    obtain ⟨x,hx,y,hy,h4,h5⟩:=touch_ov _ _ hT
    have hxw:=((key_good hO hi).1 x hx).1
    obtain ⟨hyL,hyw⟩:=hmL hr hp h2 hy
    have hxL:x.1∈L:=(hS.m _).2 (List.mem_cons_of_mem _ (fst_mem hi hx).1)
    obtain ⟨u,hu,hux,huy,hu1,hu2⟩:∃ u∈L,x.1≤u∧y.1≤u∧u≤x.2∧u≤y.2:=by
     by_cases hc:x.1≤y.1
     · exact ⟨y.1,hyL,hc,Int.le_refl _,h5,hyw⟩
     · exact ⟨x.1,hxL,Int.le_refl _,by omega,hxw,h4⟩
    have hk:=plc_lt u hpos
    have hku:=plc_at hS.p hu
    have hge:∀ v∈L,v≤u→plc L v≤plc L u:=fun v hv hvu=>by
     have hv1:=plc_at hS.p hv
     rcases Nat.lt_or_ge (plc L u) (plc L v) with hlt | hlt
     · have:=rise_lt hS.p hlt (plc_lt v hpos)
       omega
     · exact hlt
    have h6:=h.f i hi x hx (plc L u) (hge _ hxL hux) hk (by omega)
    have h7:=grt_ge (W:=W) hS.p (mayB p) 0 y hy (plc L u) (hge _ hyL huy) hk (by omega)
    have h8:=(h.b _ hk).1
    have h9:bAt W (plc L u)≤grt L W (mayB p):=h7
    show max 1 (wntI L W rs i)≤grt L W (mayB p)
    rw [wntI_at hi]
    omega
  · rw [csI_len] at hi
    have h4:wsum st2.bk i≤gs (grt L W) st2.bk i:=wsum_gs (fun b hb=>by
     obtain ⟨j,hj,rfl⟩:=List.getElem_of_mem hb
     have hl2:st2.bk.length=(bkI rs rs.length).length:=by simpa using congrArg List.length h1
     have:=h3 j (by simp;omega)
     unfold wtAt at this
     rw [List.getElem?_eq_getElem hj,←h1,List.getElem?_map,List.getElem?_eq_getElem hj] at this
     simpa using this) i
    have h5:gs (grt L W) st2.bk i=gs (grt L W) (pbs i (backP rs[i])) i:=by
     rw [gs_same h2 h1,gs_bkI,if_pos hi,List.getElem?_eq_getElem hi]
     rfl
    have h6:=gs_of (W:=W) hO hS (fun k hk=>(h.b k hk).1) (List.getElem_mem hi) i (backP rs[i]) fun p hp=>hp
    show at0 (csI rs) i+wsum st2.bk i≤max 1 (wntI L W rs i)
    rw [csI_val hi,wntI_at hi]
    unfold wnt
    omega
  · rw [csI_len] at hi
    show max 1 (wntI L W rs i)≤64
    rw [wntI_at hi]
    have hne:fstS rs i≠[]:=by
     have hr:=hO _ (List.getElem_mem hi)
     have h0:=hr.k0
     have:=List.all_eq_true.1 hr.kS _ (List.getElem_mem h0)
     rw [fstS_at hi,show keyAt rs[i].key 0=rs[i].key[0] by simp [keyAt,h0]]
     intro e
     rw [e] at this
     simp [okS] at this
    obtain ⟨x,hx⟩:=List.exists_mem_of_ne_nil _ hne
    have hxL:x.1∈L:=(hS.m _).2 (List.mem_cons_of_mem _ (fst_mem hi hx).1)
    have hk:=plc_lt x.1 hpos
    have h1:=h.f i hi x hx (plc L x.1) (Nat.le_refl _) hk (by rw [plc_at hS.p hxL];exact ((key_good hO hi).1 x hx).1)
    have h2:=(h.b _ hk).2
    omega
 have hbd:Bd (csI rs) ((bkI rs rs.length).map Pb.us) (fun i=>max 1 (wntI L W rs i)) (fun j=>grt L W ((((bkI rs rs.length).map Pb.us)[j]?).getD [])) (stK rs rs.length):=by
  refine ⟨fun i hi => ?_,fun j hj => ?_⟩
  · rw [csI_len] at hi
    have h2:at0 (stK rs rs.length).ws i=1:=by
     rw [stK_all]
     simp [at0,hi]
    show at0 _ i≤max 1 _
    omega
  · simp only [List.length_map] at hj
    have h2:wtAt (stK rs rs.length).bk j=1:=by
     rw [stK_all]
     show wtAt (bkI rs rs.length) j=1
     unfold wtAt
     rw [List.getElem?_eq_getElem hj]
     exact (bkI_mem (List.getElem_mem hj)).2.1
    obtain ⟨r,hr,p,hp,h3,e⟩:=husb j hj
    show wtAt _ j≤grt L W _
    rw [e,h2]
    obtain ⟨y,hy⟩:=List.exists_mem_of_ne_nil _ (mayB_some (hO r hr) hp h3)
    obtain ⟨hyL,hyw⟩:=hmL hr hp h3 hy
    have hk:=plc_lt y.1 hpos
    have:=grt_ge (W:=W) hS.p (mayB p) 0 y hy (plc L y.1) (Nat.le_refl _) hk (by rw [plc_at hS.p hyL];exact hyw)
    exact Int.le_trans (h.b _ hk).1 this
 have hres:=settleAll_least hsol (csI_len _) rs.length 0 _ (by omega) (run_start hO hok.1) hbd
 obtain ⟨o,R,hR⟩:∃ o R,settleAll rs rs.length 0 (stK rs rs.length)=(o,R):=⟨_,_,rfl⟩
 rw [hR] at hres
 obtain ⟨h1,h2⟩:=hres
 simp only at h1
 subst h1
 refine ⟨R,by rw [wgh_of hA hcp,hR],fun i hi => ?_⟩
 have:=h2.w i (by rw [csI_len];exact hi)
 rw [←wntI_at hi]
 exact this
end Go.Proofs
