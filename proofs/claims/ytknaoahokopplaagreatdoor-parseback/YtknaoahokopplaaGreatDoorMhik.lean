/-
  Several texts in one (U1k N7k N8k N9k).
-/
import Derived.Test.YtknaoahokopplaaGreatDoorMhhk
import Derived.Test.YtknaoahokopplaaGreatDoorMgzk
import Derived.Test.YtknaoahokopplaaGreatDoorMhgk
namespace Go.Proofs
open Go.RowKit Go.Shelf
set_option maxRecDepth 100000
attribute [local go_sem] Oper.semAt_some
theorem ckLn_none {d:Nat} {l:Ln} (h:ckLn d l=none):stL (lnM l)=true∧ckRw (ckI d 62) l.ante=none∧ckRw (ckI d 62) l.key=none∧ckRw (ckI d 62) l.post=none∧ckRw (ckI d 386) l.res=none:=by
 unfold ckLn at h
 by_cases hs:stL (lnM l)=true
 · rw [if_pos hs] at h
   refine ⟨hs,?_⟩
   cases h1:ckRw (ckI d 62) l.ante with
   | some e=>rw [h1] at h;cases h
   | none=>
    rw [h1] at h
    cases h2:ckRw (ckI d 62) l.key with
    | some e=>rw [h2] at h;cases h
    | none=>
     rw [h2] at h
     cases h3:ckRw (ckI d 62) l.post with
     | some e=>rw [h3] at h;cases h
     | none=>
      rw [h3] at h
      exact ⟨rfl,rfl,rfl,h⟩
 · rw [if_neg hs] at h
   cases h
def RdLc (d:Nat) (w:World) (m:ML) (l:Ln):Prop:=RdLn d w m l∧m.s4.n≤m.s4.c
def RdLz (d:Nat) (w:World) (A:Option Addr) (n:Nat) (ls:List Ln):Prop:=∃ ms,n=ms.length∧(n=0∨∃ g z,A=some ⟨g,z,none⟩∧ReadsL w g z ms)∧All2 (RdLc d w) ms ls
theorem RdLc.ck {d:Nat} {w w':World} {m:ML} {l:Ln} (h:RdLc d w m l) (k:CK w w'):RdLc d w' m l:=⟨h.1.ck k,h.2⟩
theorem RdLz.rd {d:Nat} {w:World} {A:Option Addr} {n:Nat} {ls:List Ln} (h:RdLz d w A n ls):RdLs d w A n ls:=
 h.imp fun _ q=>⟨q.1,q.2.1,q.2.2.mono fun _ _ r=>r.1⟩
theorem RdLz.ck {d:Nat} {w w':World} {A:Option Addr} {n:Nat} {ls:List Ln} (h:RdLz d w A n ls) (k:CK w w'):RdLz d w' A n ls:=
 h.imp fun _ q=>⟨q.1,q.2.1.imp id fun ⟨g,z,e,r⟩=>⟨g,z,e,fun j x hj i v hv=>k _ _ (r j x hj i v hv)⟩,q.2.2.mono fun _ _ r=>r.ck k⟩
theorem sideW_len (bg en:Bool) (an ky po:List It):(sideW bg en an ky po).length≤an.length+ky.length+po.length+4:=by
 unfold sideW
 simp only [List.length_append,List.length_map]
 have e:∀ (c:Bool) (x:ByteArray),(if c then [x] else []).length≤1:=by intro c x;cases c <;> simp
 have h1:=e bg ⟨#[94]⟩
 have h2:=e (bg || decide (0<an.length)) ⟨#[123]⟩
 have h3:=e (en || decide (0<po.length)) ⟨#[125]⟩
 have h4:=e en ⟨#[36]⟩
 omega
theorem resW_len (q:Nat) (l:List It):(resW q l).length≤2*l.length+2:=by
 unfold resW
 have h1:(l.take q).length≤l.length:=by rw [List.length_take];omega
 have h2:(l.drop q).length≤l.length:=by rw [List.length_drop];omega
 simp only [List.length_append,List.length_map,List.length_cons,List.length_nil]
 split
 · simp only [List.length_append,List.length_map,List.length_cons,List.length_nil];omega
 · simp only [List.length_nil];omega
theorem mem_ite {c:Bool} {x y:ByteArray} (h:x∈(if c then [y] else [])):x=y:=by
 cases c with
 | true=>simpa using h
 | false=>simp at h
theorem sideW_small {B:Nat} (hB:1≤B) {bg en:Bool} {an ky po:List It} (h1:∀ x∈an.map texS,x.size≤B) (h2:∀ x∈ky.map texS,x.size≤B) (h3:∀ x∈po.map texS,x.size≤B):∀ x∈sideW bg en an ky po,x.size≤B:=by
 intro x hx
 unfold sideW at hx
 simp only [List.mem_append] at hx
 rcases hx with (((((h | h) | h) | h) | h) | h) | h
 · rw [mem_ite h];exact hB
 · exact h1 x h
 · rw [mem_ite h];exact hB
 · exact h2 x h
 · rw [mem_ite h];exact hB
 · exact h3 x h
 · rw [mem_ite h];exact hB
theorem resW_small {B:Nat} (hB:1≤B) {q:Nat} {l:List It} (h:∀ x∈l.map texS,x.size≤B):∀ x∈resW q l,x.size≤B:=by
 intro x hx
 unfold resW at hx
 simp only [List.mem_append] at hx
 rcases hx with (h1 | h1) | h1
 · obtain ⟨i,hi,rfl⟩:=List.mem_map.1 h1
   exact h _ (List.mem_map.2 ⟨i,List.mem_of_mem_take hi,rfl⟩)
 · split at h1
   · rcases List.mem_append.1 h1 with h2 | h2
     · rw [List.mem_singleton.1 h2];exact hB
     · obtain ⟨i,hi,rfl⟩:=List.mem_map.1 h2
       exact h _ (List.mem_map.2 ⟨i,List.mem_of_mem_drop hi,rfl⟩)
   · simp at h1
 · rw [List.mem_singleton.1 h1];exact hB
theorem lineWords_any {d:Nat} {w:World} {m:ML} {l:Ln} (h:RdLc d w m l) (hc:ckLn d l=none) (hE:Env w):Calls Tryz.prog 38 #[mla m] w (LwQ w (lineW l))∧(lineW l).length≤5000∧∀ x∈lineW l,x.size≤156000:=by
 obtain ⟨⟨hP,r1,r2,r3,r4⟩,hcap⟩:=h
 obtain ⟨hs,y1,y2,y3,y4⟩:=ckLn_none hc
 have q1:=ckRw_none y1
 have q2:=ckRw_none y2
 have q3:=ckRw_none y3
 have q4:=ckRw_none y4
 clear y1 y2 y3 y4
 obtain ⟨k,a,t,bg,en,an,ky,po,rs,cur⟩:=l
 obtain ⟨mk,ma,mt,mbg,men,⟨A1,n1,c1⟩,⟨A2,n2,c2⟩,⟨A3,n3,c3⟩,⟨A4,n4,c4⟩,mcur⟩:=m
 obtain ⟨h1,h2,h3,h4,h5,h6⟩:=hP
 simp only at h1 h2 h3 h4 h5 h6 r1 r2 r3 r4 q1 q2 q3 q4 hcap
 subst h1 h2 h3 h4 h5 h6
 by_cases hk3:mk=3
 · subst hk3
   have e:lineW ⟨3,ma,mt,mbg,men,an,ky,po,rs,mcur⟩=[⟨#[116,104,101,110]⟩,⟨#[59]⟩]:=if_pos rfl
   rw [e]
   refine ⟨lineWords_3 ma mt mbg men _ _ _ _ mcur w,by simp,fun x hx => ?_⟩
   simp at hx
   rcases hx with rfl | rfl <;> decide
 · by_cases hk1:mk=1
   · subst hk1
     have hs:(nameOk mt && (decide (ky.length=1) && noRuleB (lnM ⟨1,ma,mt,mbg,men,an,ky,po,rs,mcur⟩)))=true:=hs
     simp only [Bool.and_eq_true,decide_eq_true_eq] at hs
     have ht:=nameOk_small hs.1
     have hl:ky.length=1:=hs.2.1
     have e:lineW ⟨1,ma,mt,mbg,men,an,ky,po,rs,mcur⟩=[(⟨#[36]⟩:ByteArray)++mt,⟨#[61]⟩,texS (ky.headD nIt),⟨#[59]⟩]:=by
      unfold lineW
      rw [if_neg (show ¬ (1:Int)=3 by decide),if_pos rfl]
     rw [e]
     have hz:=row_small r2 q2.2
     obtain ⟨ms,hR,hA⟩:=r2
     have hlm:=hA.length
     match ky,hl,ms,hA,hR with
     | [p],_,[m1],hA,hR=>
      obtain ⟨hn,_,hr0⟩:=hR
      have hn:n2=1:=hn
      have hr0:n2=0∨∃ g z,A2=some ⟨g,z,none⟩∧ReadsI w g z [m1]:=hr0
      obtain ⟨g,z,rfl,hr⟩:=hr0.resolve_left (by omega)
      have hcell:∀ i v,(mi1 m1)[i]? = some v→w.cell? ⟨g,z+i,none⟩=some v:=fun i v hv=>by
       have:=hr 0 m1 rfl i v hv
       rwa [Nat.zero_mul,Nat.add_zero] at this
      refine ⟨lineWords_1 ma mt mbg men _ _ _ g z n2 c2 mcur w m1 (texS p) (by omega) (by omega) hcell (fun W hW=>text_any (hA.1.ck (ck_below hW)) (q2.2 p List.mem_cons_self) (hE.below hW)),by simp,fun x hx => ?_⟩
      simp at hx
      rcases hx with rfl | rfl | rfl | rfl
      · rw [ByteArray.size_append]
        have:(⟨#[36]⟩:ByteArray).size=1:=rfl
        omega
      · decide
      · exact hz _ (List.mem_map.2 ⟨p,List.mem_cons_self,rfl⟩)
      · decide
   · have hk2:mk=2:=by
      apply Classical.byContradiction
      intro hk2
      have:stL (lnM ⟨mk,ma,mt,mbg,men,an,ky,po,rs,mcur⟩)=false:=by
       unfold stL
       exact (if_neg hk3).trans ((if_neg hk1).trans (if_neg hk2))
      rw [this] at hs
      cases hs
     subst hk2
     have hs:(emptyB mt && (decide (0≤mcur) && decide (mcur≤(rs.length:Int))))=true:=hs
     simp only [Bool.and_eq_true,decide_eq_true_eq] at hs
     obtain ⟨q,rfl⟩:∃ q:Nat,mcur=(q:Int):=⟨mcur.toNat,by omega⟩
     have e4:=r4.len
     have hq:q≤n4:=by omega
     have e:lineW ⟨2,ma,mt,mbg,men,an,ky,po,rs,(q:Int)⟩=sideW mbg men an ky po++[⟨#[62]⟩]++resW q rs:=by
      unfold lineW
      rw [if_neg (show ¬ (2:Int)=3 by decide),if_neg (show ¬ (2:Int)=1 by decide)]
      rfl
     rw [e]
     have l1:=sideW_len mbg men an ky po
     have l2:=resW_len q rs
     have b1:∀ x∈sideW mbg men an ky po,x.size≤156000:=sideW_small (by omega) (row_small r1 q1.2) (row_small r2 q2.2) (row_small r3 q3.2)
     have b2:∀ x∈resW q rs,x.size≤156000:=resW_small (by omega) (row_small r4 q4.2)
     refine ⟨lineWords_2 2 ma (by decide) (by decide) mt mbg men _ _ _ _ (q:Int) w _ _ (by omega) (by omega)
      (fun W hW=>sideWords_any d 2 ma mt mbg men A1 A2 A3 n1 n2 n3 c1 c2 c3 _ _ an ky po W (hE.below hW) ⟨r1.ck (ck_below hW),q1⟩ ⟨r2.ck (ck_below hW),q2⟩ ⟨r3.ck (ck_below hW),q3⟩)
      (fun W hW=>resultWords_any d 2 ma mt mbg men _ _ _ A4 n4 c4 q rs W (hE.below hW) ⟨r4.ck (ck_below hW),q4⟩ hq hcap),?_,?_⟩
     · simp only [List.length_append,List.length_cons,List.length_nil]
       omega
     · intro x hx
       simp only [List.mem_append,List.mem_singleton] at hx
       rcases hx with (hx | rfl) | hx
       · exact b1 x hx
       · decide
       · exact b2 x hx
noncomputable def lineB (l:Ln):List UInt8:=(jnB (lineW l)).data.toList++[10]
noncomputable def outS (ls:List Ln):List UInt8:=(ls.map lineB).flatten
noncomputable def printS (d:Nat) (ls:List Ln):ByteArray × Int:=if ckAll d ls=0 then (if 32768<(outS ls).length then (⟨#[]⟩,2) else (⟨(outS ls).toArray⟩,0)) else (⟨#[]⟩,ckAll d ls)
theorem outS_take {ls:List Ln} {k:Nat} {l:Ln} (h:ls[k]? = some l):outS (ls.take (k+1))=outS (ls.take k)++lineB l:=by
 obtain ⟨hk,e⟩:=List.getElem?_eq_some_iff.1 h
 unfold outS
 rw [List.take_succ_eq_append_getElem hk,e]
 simp
theorem outS_le (ls:List Ln) (k:Nat):(outS (ls.take k)).length≤(outS ls).length:=by
 have:outS ls=outS (ls.take k)++outS (ls.drop k):=by
  unfold outS
  rw [←List.flatten_append,←List.map_append,List.take_append_drop]
 rw [this,List.length_append]
 omega
theorem ckAll_each {d:Nat} {ls:List Ln} (hz:∀ l∈ls,∀ c,ckLn d l=some c→c≠0) (h:ckAll d ls=0):∀ l∈ls,ckLn d l=none:=by
 unfold ckAll at h
 cases hf:ls.findSome? (ckLn d) with
 | none=>rwa [List.findSome?_eq_none_iff] at hf
 | some c=>
  rw [hf] at h
  obtain ⟨l,hl,he⟩:=List.exists_of_findSome?_eq_some hf
  exact absurd h (hz l hl c he)
theorem ckI_nz:∀ (d may:Nat) (i:It) (c:Int),ckI d may i=some c→c=50∨c=51∨c=52
 | d,may,i,c,h=>by
  rw [ckI_eq] at h
  unfold ckB at h
  split at h
  · split at h
    · match d,h with
      | d+1,h=>
       have h:ckRw (ckI d 78) i.ps=some c:=h
       unfold ckRw at h
       split at h
       · cases h;simp
       · obtain ⟨p,_,hp⟩:=List.exists_of_findSome?_eq_some h
         exact ckI_nz d 78 p c hp
    · split at h
      · match d,h with
        | d+1,h=>
         have h:ckRw (ckI d 60) i.ps=some c:=h
         unfold ckRw at h
         split at h
         · cases h;simp
         · obtain ⟨p,_,hp⟩:=List.exists_of_findSome?_eq_some h
           exact ckI_nz d 60 p c hp
      · split at h
        · split at h
          · cases h
          · cases h;simp
        · cases h
  · cases h;simp
theorem ckRw_nz {d may:Nat} {l:List It} {c:Int} (h:ckRw (ckI d may) l=some c):c=50∨c=51∨c=52:=by
 unfold ckRw at h
 split at h
 · cases h;simp
 · obtain ⟨p,_,hp⟩:=List.exists_of_findSome?_eq_some h
   exact ckI_nz d may p c hp
theorem ckLn_nz {d:Nat} {l:Ln} {c:Int} (h:ckLn d l=some c):c=50∨c=51∨c=52:=by
 unfold ckLn at h
 split at h
 · cases h1:ckRw (ckI d 62) l.ante with
   | some e=>rw [h1] at h;cases h;exact ckRw_nz h1
   | none=>
    rw [h1] at h
    cases h2:ckRw (ckI d 62) l.key with
    | some e=>rw [h2] at h;cases h;exact ckRw_nz h2
    | none=>
     rw [h2] at h
     cases h3:ckRw (ckI d 62) l.post with
     | some e=>rw [h3] at h;cases h;exact ckRw_nz h3
     | none=>
      rw [h3] at h
      exact ckRw_nz h
 · cases h;simp
theorem ckAll_ok {d:Nat} {ls:List Ln} (h:ckAll d ls=0):∀ l∈ls,ckLn d l=none:=
 ckAll_each (fun l _ c hc e=>by rcases ckLn_nz hc with rfl | rfl | rfl <;> exact absurd e (by decide)) h
end Go.Proofs
namespace Go.Proofs
open Go.RowKit Go.Shelf
abbrev WP2:=List UInt8 × List TW
noncomputable def pT (i:It):WP2:=((texS i).data.toList,tokT i)
abbrev pS (c:UInt8) (n:Int):WP2:=([c],[sgT n])
noncomputable def lineP (l:Ln):List WP2:=
 if l.k=1 then [(36::l.t.data.toList,[⟨2,0,⟨#[36]⟩++l.t,0⟩]),pS 61 21,pT (l.key.headD nIt)]
 else (((((((if l.bg then [pS 94 15] else [])++l.ante.map pT)++(if l.bg || decide (0<l.ante.length) then [pS 123 12] else []))++l.key.map pT)++(if l.en || decide (0<l.post.length) then [pS 125 13] else []))++l.post.map pT)++(if l.en then [pS 36 16] else []))++[pS 62 10]++((l.res.take l.cur.toNat).map pT++(if l.cur.toNat<l.res.length then [pS 124 14]++(l.res.drop l.cur.toNat).map pT else []))
def thenB:ByteArray:=⟨#[116,104,101,110]⟩
noncomputable def tokLn (l:Ln):List TW:=(if l.k=3 then [⟨2,0,thenB,0⟩] else (lineP l).flatMap Prod.snd)++[sgT 11]
theorem map_pT (l:List It):(l.map pT).map Prod.fst=l.map fun i=>(texS i).data.toList:=by
 rw [List.map_map]
 rfl
theorem lineP_words (l:Ln) (h3:l.k≠3):(lineW l).map (·.data.toList)=(lineP l).map Prod.fst++[[59]]:=by
 unfold lineW lineP
 rw [if_neg h3]
 by_cases h1:l.k=1
 · rw [if_pos h1,if_pos h1]
   simp [pT,ByteArray.data_append]
 · rw [if_neg h1,if_neg h1]
   unfold sideW resW
   have hm:∀ (x:List It),(x.map texS).map (·.data.toList)=(x.map pT).map Prod.fst:=fun x=>by
    rw [map_pT,List.map_map]
    rfl
   simp only [List.map_append,hm,List.append_assoc]
   congr 1
   · cases l.bg <;> rfl
   congr 1
   congr 1
   · cases (l.bg || decide (0<l.ante.length)) <;> rfl
   congr 1
   congr 1
   · cases (l.en || decide (0<l.post.length)) <;> rfl
   congr 1
   congr 1
   · cases l.en <;> rfl
   congr 1
   congr 1
   congr 1
   by_cases hq:l.cur.toNat<l.res.length
   · rw [if_pos hq,if_pos hq,List.map_append,List.map_append,hm]
     rfl
   · rw [if_neg hq,if_neg hq]
     rfl
theorem join_end:∀ (ws:List (List UInt8)),ws≠[]→Lib.join (ws++[[59]]) [32]=Lib.join ws [32]++[32,59]
 | [],h=>absurd rfl h
 | [x],_=>by
  rw [List.singleton_append,join_cons2,Lib.join_one,Lib.join_one]
 | x::y::l,_=>by
  have:=join_end (y::l) (by simp)
  rw [List.cons_append,List.cons_append,join_cons2,join_cons2,←List.cons_append,this]
  simp
theorem jn_list (ws:List ByteArray):(jnB ws).data.toList=Lib.join (ws.map (·.data.toList)) [32]:=rfl
theorem wd_var {t:ByteArray} (h:nameOk t=true):WdOk (36::t.data.toList) [⟨2,0,⟨#[36]⟩++t,0⟩]:=by
 obtain ⟨n1,n2,n3⟩:=nameOk_list h
 refine ⟨fun L ts hL hr => ?_,fun L _=>⟨pastN_stop (by decide) (by decide) _,fun e=>absurd (Option.some.inj e) (by decide)⟩⟩
 have:=RunL.var (fresh:=false) t.data.toList n1 n2 n3 (fun c hc=>(hL c hc).1) hr
 rw [show (36::t.data.toList:List UInt8)=[36]++t.data.toList from rfl,lit_app] at this
 exact this
def DpL (d:Nat) (l:Ln):Prop:=(∀ i∈l.ante,Dp d i)∧(∀ i∈l.key,Dp d i)∧(∀ i∈l.post,Dp d i)∧∀ i∈l.res,Dp d i
theorem ckLn_noneN {d:Nat} {l:Ln} (h:ckLn d l=none):stL (lnM l)=true∧ckRw (ckI d 62) l.ante=none∧ckRw (ckI d 62) l.key=none∧ckRw (ckI d 62) l.post=none∧ckRw (ckI d 386) l.res=none:=by
 unfold ckLn at h
 split at h
 · rename_i hs
   rw [Option.or_eq_none_iff,Option.or_eq_none_iff,Option.or_eq_none_iff] at h
   exact ⟨hs,h.1,h.2.1,h.2.2.1,h.2.2.2⟩
 · cases h
theorem stL_kind {m:ML} (h:stL m=true):m.k=3∨m.k=1∨m.k=2:=by
 unfold stL at h
 split at h
 · exact .inl ‹_›
 · split at h
   · exact .inr (.inl ‹_›)
   · split at h
     · exact .inr (.inr ‹_›)
     · cases h
theorem lineP_ok {d:Nat} {l:Ln} (h:ckLn d l=none) (hD:DpL d l) (h3:l.k≠3):lineP l≠[]∧∀ w∈lineP l,WdOk w.1 w.2:=by
 obtain ⟨hs,c1,c2,c3,c4⟩:=ckLn_noneN h
 have row:∀ {may:Nat} {x:List It},ckRw (ckI d may) x=none→(∀ i∈x,Dp d i)→∀ w∈x.map pT,WdOk w.1 w.2:=fun hc hd w hw=>by
  obtain ⟨i,hi,rfl⟩:=List.mem_map.1 hw
  exact wd_tex i (TOk.of ((ckRw_noneN hc).2 i hi) (hd i hi))
 have sg:∀ {b:Bool} {c:UInt8} {n:Int},WdOk [c] [sgT n]→∀ w∈(if b then [pS c n] else []),WdOk w.1 w.2:=fun {b} {c} {n} hc w hw=>by
  cases b with
  | true=>obtain rfl:=List.mem_singleton.1 hw;exact hc
  | false=>cases hw
 unfold lineP
 by_cases h1:l.k=1
 · rw [if_pos h1]
   refine ⟨by simp,fun w hw => ?_⟩
   unfold stL lnM at hs
   simp only at hs
   rw [if_neg h3,if_pos h1] at hs
   simp only [Bool.and_eq_true,decide_eq_true_eq] at hs
   simp only [List.mem_cons,List.mem_nil_iff,or_false] at hw
   rcases hw with rfl | rfl | rfl
   · exact wd_var hs.1
   · exact wd_sign 11 61 (by decide) ⟨by decide,by decide⟩ (by decide) (by decide)
   · cases hk:l.key with
     | nil=>rw [hk] at hs;exact absurd hs.2.1 (by simp)
     | cons x r=>exact row c2 hD.2.1 _ (by rw [hk];simp)
 · rw [if_neg h1]
   refine ⟨by simp,fun w hw => ?_⟩
   simp only [List.mem_append] at hw
   rcases hw with (((((((hw | hw) | hw) | hw) | hw) | hw) | hw) | hw) | hw | hw
   · exact sg (wd_sign 5 94 (by decide) ⟨by decide,by decide⟩ (by decide) (by decide)) w hw
   · exact row c1 hD.1 w hw
   · exact sg (wd_sign 2 123 (by decide) ⟨by decide,by decide⟩ (by decide) (by decide)) w hw
   · exact row c2 hD.2.1 w hw
   · exact sg (wd_sign 3 125 (by decide) ⟨by decide,by decide⟩ (by decide) (by decide)) w hw
   · exact row c3 hD.2.2.1 w hw
   · exact sg (wd_sign 6 36 (by decide) ⟨by decide,by decide⟩ (by decide) (by decide)) w hw
   · obtain rfl:=List.mem_singleton.1 hw
     exact wd_sign 0 62 (by decide) ⟨by decide,by decide⟩ (by decide) (by decide)
   · exact row c4 hD.2.2.2 w (List.map_subset _ (List.take_subset _ _) hw)
   · split at hw
     · rcases List.mem_append.1 hw with hw | hw
       · obtain rfl:=List.mem_singleton.1 hw
         exact wd_sign 4 124 (by decide) ⟨by decide,by decide⟩ (by decide) (by decide)
       · exact row c4 hD.2.2.2 w (List.map_subset _ (List.drop_subset _ _) hw)
     · cases hw
theorem lineB_run {d:Nat} {l:Ln} (h:ckLn d l=none) (hD:DpL d l) {rest:List UInt8} {ts:List TW} (hr:RunL rest true ts):RunL (lineB l++rest) true (tokLn l++ts):=by
 unfold lineB tokLn
 rw [jn_list]
 by_cases h3:l.k=3
 · rw [if_pos h3]
   unfold lineW
   rw [if_pos h3]
   have r1:=RunL.sign (fresh:=false) 1 59 (by decide) ⟨by decide,by decide⟩ (fun e=>absurd e (by decide)) (fun e=>absurd e (by decide)) (L:=10::rest) (ts:=ts) hr.line
   have hE:endsB ⟨([116,104,101,110]++32::59::10::rest:List UInt8).toArray⟩=true:=by
    rw [ends_lit]
    simp [Lib.hasPrefix,pastN,isWs]
   exact RunL.tok (w:=[116,104,101,110]) (rest:=32::59::10::rest) (t:=[116,104,101,110]) (pastN_stop (by decide) (by decide) _) (by decide) (.thn rfl hE) r1.blank
 · rw [if_neg h3]
   obtain ⟨k1,k2⟩:=lineP_ok h hD h3
   have:=line_run (lineP l) k1 k2 hr
   rw [lineP_words l h3,join_end _ (by simpa using k1)]
   simpa using this
theorem outS_run {d:Nat} : ∀ {ls:List Ln},(∀ l∈ls,ckLn d l=none∧DpL d l)→RunL (outS ls) true (ls.flatMap tokLn)
 | [],_ => .fin
 | l::ls,h=>by
  have:=lineB_run (h l (by simp)).1 (h l (by simp)).2 (outS_run fun x hx=>h x (List.mem_cons_of_mem _ hx))
  rw [List.flatMap_cons]
  exact this
end Go.Proofs
namespace Go.Proofs
open Go.RowKit Go.Shelf
theorem loop_len (bs:ByteArray):∀ (n i:Nat) (r:List UInt8),bs.size - i=n→r.length≤(ByteArray.toList.loop bs i r).length
 | 0,i,r,h=>by
  unfold ByteArray.toList.loop
  rw [if_neg (by omega)]
  simp
 | n+1,i,r,h=>by
  unfold ByteArray.toList.loop
  rw [if_pos (by omega)]
  have:=loop_len bs n (i+1) (bs.get! i::r) (by omega)
  simp only [List.length_cons] at this
  omega
theorem bytes_nil {t:ByteArray} (h:t.toList=[]):t=⟨#[]⟩:=by
 by_cases h0:t.size=0
 · obtain ⟨d⟩:=t
   have:d.size=0:=h0
   rw [Array.eq_empty_of_size_eq_zero this]
 · exfalso
   unfold ByteArray.toList at h
   unfold ByteArray.toList.loop at h
   rw [if_pos (by omega)] at h
   have:=loop_len t (t.size - 1) (0+1) [t.get! 0] (by omega)
   rw [h] at this
   simp at this
def mk0 (x:TW):Tok:=⟨x.k,0,0,x.u,x.t,x.n⟩
theorem same_mk0 {t:Tok} {x:TW} (h:IsTW t x):SameT t (mk0 x):=h
theorem ts_mk0:∀ {a:List Tok} {b:List TW},All2 IsTW a b→TS a (b.map mk0)
 | [],[],_=>trivial
 | _::_,_::_,h=>⟨same_mk0 h.1,ts_mk0 h.2⟩
theorem leaf_eq {k u:Int} {t:ByteArray} {ps:List It} {lo hi:Int} {nt:Bool} {key:Int} (h:stI (itM (.mk k u t ps lo hi nt key))=true) :
 (k=1→It.mk k u t ps lo hi nt key = .mk 1 u ⟨#[]⟩ [] 0 0 false 0)∧(k=2∨k=3→It.mk k u t ps lo hi nt key = .mk k 0 t [] 0 0 false 0)∧(k=4→It.mk k u t ps lo hi nt key = .mk 4 0 ⟨#[]⟩ [] 0 0 false 0)∧(k=5→It.mk k u t ps lo hi nt key = .mk 5 0 ⟨#[]⟩ ps 0 0 nt 0)∧(k=6→It.mk k u t ps lo hi nt key = .mk 6 0 ⟨#[]⟩ [] lo hi false 0)∧(k=7→It.mk k u t ps lo hi nt key = .mk 7 0 ⟨#[]⟩ [] 0 0 false key)∧(k=8→∃ p,It.mk k u t ps lo hi nt key = .mk 8 0 ⟨#[]⟩ [p] 0 0 false key):=by
 have hn:(⟨#[]⟩:ByteArray).toList=[]:=by simp
 unfold stI itM at h
 simp only at h
 refine ⟨fun e => ?_,fun e => ?_,fun e => ?_,fun e => ?_,fun e => ?_,fun e => ?_,fun e => ?_⟩
 · subst e
   simp [blankB,hn] at h
   obtain ⟨-,⟨⟨⟨⟨h1,h2⟩,h3⟩,h4⟩,h5⟩,h6⟩:=h
   rw [bytes_nil h1,h2,h3,h4,h5,h6]
 · rcases e with rfl | rfl
   all_goals
    simp [blankB,hn] at h
    obtain ⟨-,⟨⟨⟨⟨h1,h2⟩,h3⟩,h4⟩,h5⟩,h6⟩:=h
    rw [h1,h2,h3,h4,h5,h6]
 · subst e
   simp [blankB,hn] at h
   obtain ⟨⟨⟨⟨⟨⟨h0,h1⟩,h2⟩,h3⟩,h4⟩,h5⟩,h6⟩:=h
   rw [h0,bytes_nil h1,h2,h3,h4,h5,h6]
 · subst e
   simp [blankB,hn] at h
   obtain ⟨⟨⟨⟨h0,h1⟩,h3⟩,h4⟩,h6⟩:=h
   rw [h0,bytes_nil h1,h3,h4,h6]
 · subst e
   simp [blankB,hn] at h
   obtain ⟨-,⟨⟨⟨h0,h1⟩,h2⟩,h5⟩,h6⟩:=h
   rw [h0,bytes_nil h1,h2,h5,h6]
 · subst e
   simp [blankB,hn] at h
   obtain ⟨-,⟨⟨⟨⟨h0,h1⟩,h2⟩,h3⟩,h4⟩,h5⟩:=h
   rw [h0,bytes_nil h1,h2,h3,h4,h5]
 · subst e
   simp [blankB,hn] at h
   obtain ⟨⟨-,h2⟩,⟨⟨⟨h0,h1⟩,h3⟩,h4⟩,h5⟩:=h
   obtain ⟨p,rfl⟩:=List.length_eq_one_iff.1 h2
   exact ⟨p,by rw [h0,bytes_nil h1,h3,h4,h5]⟩
end Go.Proofs
namespace Go.Proofs
open Go.RowKit Go.Shelf
theorem byte_app (c:UInt8) (t:ByteArray):byteAt (⟨#[c]⟩++t) 0=c.toNat:=by
 unfold byteAt
 rw [ByteArray.data_append,Array.getD_eq_getD_getElem?,Array.getElem?_append_left (by simp)]
 rfl
theorem bare_var (t:ByteArray):(⟨#[36]⟩++t:ByteArray).extract 1 (⟨#[36]⟩++t:ByteArray).size=t:=by
 apply ByteArray.ext
 apply Array.toList_inj.1
 rw [ext_any,ByteArray.data_append,ByteArray.size_append]
 have hz:t.data.toList.length=t.size:=by rw [Array.length_toList];rfl
 have h1:(⟨#[36]⟩:ByteArray).size=1:=rfl
 rw [h1,show 1+t.size - 1=t.data.toList.length by omega,Array.toList_append]
 exact List.take_of_length_le (Nat.le_refl t.data.toList.length)
theorem bare_cls (t:ByteArray):(⟨#[58]⟩++t++⟨#[58]⟩:ByteArray).extract 1 ((⟨#[58]⟩++t++⟨#[58]⟩:ByteArray).size - 1)=t:=by
 apply ByteArray.ext
 apply Array.toList_inj.1
 rw [ext_any,ByteArray.data_append,ByteArray.data_append,ByteArray.size_append,ByteArray.size_append]
 have hz:t.data.toList.length=t.size:=by rw [Array.length_toList];rfl
 have h1:(⟨#[58]⟩:ByteArray).size=1:=rfl
 rw [h1,show 1+t.size+1 - 1 - 1=t.data.toList.length by omega]
 simp
theorem leaf_read (e:Int) (may:Nat) {sets:List Tok→Res (List It)} {pairs:List Tok→Res It} {i:It} (hk:hasK may i.knd=true) (hs:stI (itM i)=true) (h5:i.knd≠5) (h8:i.knd≠8) (hb:may.testBit 6=true→may.testBit 1=true) (h6:i.knd=6→i.rng=true) {r:List Tok} (hr:nxt r≠20) (hr2:nxt r≠22):itemT e may sets pairs ((tokL i).map mk0++r) = .ok i r:=by
 obtain ⟨k,u,t,ps,lo,hi,nt,key⟩:=i
 obtain ⟨q1,q2,q4,_,q6,q7,_⟩:=leaf_eq hs
 simp only [It.knd] at hk h5 h8
 have hbits:=hk
 unfold hasK at hbits
 simp only [Bool.and_eq_true,decide_eq_true_eq] at hbits
 obtain ⟨b0,b1,b2⟩:=hbits
 have hcase:k=1∨k=2∨k=3∨k=4∨k=6∨k=7:=by omega
 rcases hcase with rfl | rfl | rfl | rfl | rfl | rfl
 · rw [q1 rfl]
   have hb1:may.testBit 1=true:=b2
   simp [tokL,mk0,itemT,restT,which,begun,hb1,hr]
 · rw [q2 (.inl rfl)]
   have hb1:may.testBit 2=true:=b2
   have hw:which (mk0 ⟨2,0,⟨#[36]⟩++t,0⟩)=36:=by unfold which mk0;rw [if_pos rfl,byte_app];rfl
   have hbn:bareN (mk0 ⟨2,0,⟨#[36]⟩++t,0⟩)=t:=by
    unfold bareN
    rw [hw,if_neg (by decide)]
    exact bare_var t
   simp [tokL,itemT,restT,hw,hbn,begun,hb1]
 · rw [q2 (.inr rfl)]
   have hb1:may.testBit 3=true:=b2
   have hw:which (mk0 ⟨2,0,⟨#[58]⟩++t++⟨#[58]⟩,0⟩)=58:=by
    unfold which mk0
    rw [if_pos rfl,show (⟨#[58]⟩++t++⟨#[58]⟩:ByteArray)=⟨#[58]⟩++(t++⟨#[58]⟩) from ByteArray.append_assoc,byte_app]
    rfl
   have hbn:bareN (mk0 ⟨2,0,⟨#[58]⟩++t++⟨#[58]⟩,0⟩)=t:=by
    unfold bareN
    rw [hw,if_pos rfl]
    exact bare_cls t
   simp [tokL,itemT,restT,hw,hbn,begun,hb1]
 · rw [q4 rfl]
   have hb1:may.testBit 4=true:=b2
   simp [tokL,mk0,itemT,restT,which,begun,hb1]
 · rw [q6 rfl]
   have hb6:may.testBit 6=true:=b2
   have hb1:=hb hb6
   have hg:isRng lo hi=true:=h6 rfl
   simp [tokL,mk0,itemT,restT,which,begun,hb1,hb6,nxt,upToT,hg]
 · rw [q7 rfl]
   have hb7:may.testBit 7=true:=b2
   simp [tokL,mk0,itemT,restT,which,begun,hb7,hr2]
end Go.Proofs
