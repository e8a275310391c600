/-
  What the pieces of a rule's result may be, with what is told of where the sets lie.
-/
import Derived.Test.YtcfcjljapamcoabGreatDoorMpgr
import Derived.Test.YtcfcjljapamcoabGreatDoorMghr
namespace Go.Proofs
open Go.RowKit Go.Shelf
set_option maxRecDepth 100000
attribute [local go_sem] Oper.semAt_some
def ZB (B0 B1:Nat) (u:Value):Prop:=∀ g o n c,u = .slice (some ⟨g,o,none⟩) n c→n≠0→g<B0∨B1≤g
theorem zb_old {w0:World} {B1:Nat} {u:Value} {l:List (Int × Int)} (h:Rs w0 u l):ZB w0.heap.size B1 u:=fun g o n c e hn=>by
 subst e
 exact .inl (rs_lt h hn)
def OwnZ (Z:Value→Prop) (w:World) (base:Nat) (v:Value) (ls:List (List (Int × Int))):Prop:=∃ vs,vs.length=ls.length∧w.ownsRow base 39 1 v vs.length vs∧∀ (j:Nat) (hj:j<ls.length),∃ u,vs[j]? = some u∧Rs w u ls[j]∧Apt u v∧Z u
theorem OwnZ.nil (Z:Value→Prop) (w:World) (base:Nat):OwnZ Z w base (.slice none 0 0) []:=⟨[],rfl,World.ownsRow_nil _ _ _ _,fun j hj=>by cases hj⟩
theorem OwnZ.below {Z:Value→Prop} {w w':World} {base n:Nat} {v:Value} {ls:List (List (Int × Int))} (h:OwnZ Z w base v ls) (hb:Below n w w') (hn:w.heap.size≤n):OwnZ Z w' base v ls:=by
 obtain ⟨vs,h0,h1,h2⟩:=h
 refine ⟨vs,h0,⟨h1.1,?_⟩,fun j hj => ?_⟩
 · rcases h1.2 with h | ⟨g,cap,cur,rfl,k1,k2,k3⟩
   · exact .inl h
   · have:g<w.heap.size:=(Array.getElem?_eq_some_iff.1 k2).1
     exact .inr ⟨g,cap,cur,rfl,k1,(hb.block g (by omega)).trans k2,k3⟩
 · obtain ⟨u,e,hu,ha⟩:=h2 j hj
   exact ⟨u,e,hu.below hb hn,ha⟩
theorem OwnZ.alloc {Z:Value→Prop} {w:World} {base:Nat} {v:Value} {ls:List (List (Int × Int))} (h:OwnZ Z w base v ls) (o:Obj):OwnZ Z (w.alloc o) base v ls:=h.below ((Below.refl _ w).alloc (Nat.le_refl _) o) (Nat.le_refl _)
theorem OwnZ.form {Z:Value→Prop} {w:World} {base:Nat} {v:Value} {ls:List (List (Int × Int))} (h:OwnZ Z w base v ls):∃ a c,v = .slice a ls.length c:=by
 obtain ⟨vs,h0,h1,_⟩:=h
 rcases h1.2 with ⟨rfl,e⟩ | ⟨g,cap,cur,rfl,_⟩
 · exact ⟨none,0,by rw [←h0,e]⟩
 · exact ⟨_,cap,by rw [←h0]⟩
theorem OwnZ.blk {Z:Value→Prop} {w:World} {base:Nat} {v:Value} {ls:List (List (Int × Int))} (h:OwnZ Z w base v ls) {b:Nat} (hb:v.ownBlock=some b):base≤b∧b<w.heap.size:=by
 obtain ⟨vs,h0,h1,_⟩:=h
 exact (World.ownsRow.lt h1 b hb)
theorem OwnZ.sr {Z:Value→Prop} {w:World} {base:Nat} {v:Value} {ls:List (List (Int × Int))} (h:OwnZ Z w base v ls):SR w v ls:=by
 obtain ⟨vs,h0,h1,h2⟩:=h
 rcases h1.2 with ⟨rfl,e⟩ | ⟨g,cap,cur,rfl,_,_,hc,_⟩
 · have:ls=[]:=List.eq_nil_of_length_eq_zero (by omega)
   subst this
   exact ⟨none,0,rfl,Nat.le_refl _,.inl rfl⟩
 · refine ⟨_,cap,by rw [h0],by omega,.inr ⟨g,0,rfl,fun j hj => ?_⟩⟩
   obtain ⟨u,e,hu,_⟩:=h2 j hj
   have:=World.ownsRow.cells h1 rfl j u e
   rw [add_zero_at] at this
   rw [Nat.zero_add]
   exact ⟨u,this,hu⟩
theorem push_Zs {Z:Value→Prop} {ops:Array Oper} {rest:List Oper} {o:Oper} {a:Act} {Q:Exit→Act→World→Prop} {w:World} (hgd:o.guard=none) (s x:Operand) (t:TypeId)
 (ho:o.op = .call { callee := .builtin .append,args:=#[s,x],argTypes:=#[t,t] }) (ht:Tryz.prog.underlying t=some (.slice 39))
 (base:Nat) (v:Value) (ls:List (List (Int × Int))) (hs:a.eval s=v) (hown:OwnZ Z w base v ls) (g c:Nat) (u:Value) (l:List (Int × Int)) (hx:a.eval x = .slice (some ⟨g,0,none⟩) 1 c)
 (hp:w.cell? ⟨g,0,none⟩=some u) (hu:Rs w u l) (ha:Apt u v) (hz:Z u) (hl:ls.length+1≤1000000) (hbase:base≤w.heap.size)
 (h:∀ v' w',OwnZ Z w' base v' (ls++[l])→Below base w w'→wpList Tryz.prog ops Q rest (a.put o.dst v') w'):wpList Tryz.prog ops Q (o::rest) a w:=by
 obtain ⟨vs,h0,h1,h2⟩:=hown
 obtain ⟨i0,hi,hz0,hz1,hz2⟩:=info_parts iinfo40
 obtain ⟨ua,un,uc,hue⟩:=hu.sl
 refine wpList_append_own_at w hgd s x t ho base 39 i0 (.slice none 0 0) 1 24 ht hi hz0 hz1 hz2 rfl (by decide) v vs.length vs hs h1 ⟨g,0,none⟩ 1 c [u] hx rfl ?_ (fun y hy=>by simp at hy;subst hy;rw [hue];rfl) (by unfold maxLen;omega) (by omega) hbase (fun v' w' k2 k3 _ k5=>h v' w' ?_ ((Below.refl _ w).grown k3 hbase (fun k hk=>(World.ownsRow.lt h1 k hk).1)))
 · intro j y hj
   match j,hj with
   | 0,hj=>simp at hj;subst hj;exact hp
 · have hap:∀ (y:Value) (m:List (Int × Int)),Rs w y m→Apt y v→Rs w' y m∧Apt y v':=fun y m hy hay=>by
    refine ⟨hy.same fun g o n c e hn hg => ?_,fun g o n c e hn => ?_⟩
    · exact grown_block k3 hg fun hk=>hay g o n c e hn hk
    · rcases k5 with k5 | k5
      · rw [k5];exact hay g o n c e hn
      · rw [k5]
        intro e2
        have hgs:g<w.heap.size:=by
         obtain ⟨a2,cap,e3,_,h3⟩:=hy
         rw [e] at e3
         injection e3 with e4 e5 e6
         rcases h3 with h3 | ⟨g2,o2,e7,hr⟩
         · rw [h3] at e5;exact absurd e5 hn
         · rw [e7] at e4
           injection e4 with e8
           injection e8 with e9
           subst e9
           exact hr.lt (fun e=>hn (by rw [e5,e];rfl))
        injection e2 with e2
        omega
   refine ⟨vs++[u],by simp [h0],by rw [List.length_append];exact k2,fun j hj => ?_⟩
   rw [List.length_append,List.length_singleton] at hj
   by_cases hjl:j<ls.length
   · obtain ⟨y,e,hy,hay,hzy⟩:=h2 j hjl
     rw [List.getElem?_append_left (by omega),List.getElem_append_left hjl]
     exact ⟨y,e,(hap y _ hy hay).1,(hap y _ hy hay).2,hzy⟩
   · obtain rfl:j=ls.length:=by omega
     rw [List.getElem?_append_right (by omega),List.getElem_append_right (by omega)]
     exact ⟨u,by simp [h0],by simpa using (hap u l hu ha).1,(hap u l hu ha).2,hz⟩
where
 grown_block {w w':World} {row:Option Nat} {g:Nat} (hk:w.grownBy w' row) (hg:g<w.heap.size) (hne:row≠some g):w'.heap[g]? = w.heap[g]? := hk.block g hg (Ne.symm hne)
def ImgZ (Z:Value→Prop) (w0 w:World) (v:Value) (ls:List (List (Int × Int))):Prop:=OwnZ Z w w0.heap.size v ls∧Below w0.heap.size w0 w
theorem OwnZ.le {Z:Value→Prop} {w:World} {base base':Nat} {v:Value} {ls:List (List (Int × Int))} (h:OwnZ Z w base v ls) (hb:base'≤base):OwnZ Z w base' v ls:=by
 obtain ⟨vs,h0,h1,h2⟩:=h
 exact ⟨vs,h0,Joins.ownsRow_le h1 hb,h2⟩
theorem apt_oldZ {Z:Value→Prop} {w0 w1 w:World} {u v:Value} {l:List (Int × Int)} {ls:List (List (Int × Int))} (hu:Rs w1 u l) (hv:OwnZ Z w w0.heap.size v ls) (hle:w1.heap.size≤w0.heap.size):Apt u v:=fun g o n c e hn hb=>by
 subst e
 have h1:=rs_lt hu hn
 have h2:=(hv.blk hb).1
 omega
set_option maxHeartbeats 4000000 in
theorem imageZ_any (r:Rl) (av kv pv rv:Value) (w0 w:World) (hr:RR w0 av kv pv rv r) (hb0:Below w0.heap.size w0 w) (ho:Ok r) :
 Calls Tryz.prog 31 #[.agg #[.bool r.bg,av,kv,pv,.bool r.en,rv,.int .i64 r.cu]] w fun e w'=>∃ v,e = .returned v∧ImgZ (ZB w0.heap.size w.heap.size) w w' v (img r):=by
 obtain ⟨n,hn⟩:∃ n,r.res.length=n:=⟨_,rfl⟩
 obtain ⟨aa,an,ac,rfl⟩:=hr.a.sl
 obtain ⟨ka,kc,rfl,hkc,_⟩:=hr.k
 obtain ⟨pa,pn,pc,rfl⟩:=hr.p.sl
 obtain ⟨ra,rc,rfl,hrc,_⟩:=hr.r
 have hn16:n≤16:=by have:=ho.r16;omega
 obtain ⟨kn,hkn⟩:∃ kn,r.key.length=kn:=⟨_,rfl⟩
 have hr2:RR w0 (.slice aa an ac) (.slice ka kn kc) (.slice pa pn pc) (.slice ra n rc) r:=by rw [←hkn,←hn];exact hr
 have H:Hid (Ok r∧r.res.length=n):=⟨ho,hn⟩
 rw [hn,hkn]
 have HK:Hid (r.key.length=kn):=hkn
 have hk8:kn≤8:=by have:=ho.k8;omega
 obtain ⟨W1,hW1⟩:∃ W1,w.alloc (.cells #[.bool r.bg,.slice aa an ac,.slice ka kn kc,.slice pa pn pc,.bool r.en,.slice ra n rc,.int .i64 r.cu] 61)=W1:=⟨_,rfl⟩
 have HW:Hid (Below w.heap.size w W1∧W1.cell? ⟨w.heap.size,2,none⟩=some (.slice ka kn kc)∧RR w0 (.slice aa an ac) (.slice ka kn kc) (.slice pa pn pc) (.slice ra n rc) r∧Below w0.heap.size w0 W1):=by
  subst hW1
  have hb:Below w.heap.size w (w.alloc (.cells #[.bool r.bg,.slice aa an ac,.slice ka kn kc,.slice pa pn pc,.bool r.en,.slice ra n rc,.int .i64 r.cu] 61)):=(Below.refl _ w).alloc (Nat.le_refl _) _
  exact ⟨hb,by rw [cell_of (World.alloc_heap_new _ _)];rfl,hr2,hb0.trans (hb.mono hb0.size)⟩
 clear hr hr2 ho hn hkn hkc hrc hb0
 go_enter Tryz.func31,Tryz.ntmps31
 have x5:W1.cell? ⟨w.heap.size,5,none⟩=some (.slice ra n rc):=by subst hW1;rw [cell_of (World.alloc_heap_new _ _)];rfl
 go_wp2
 go_loopw [3,9] (fun vv vi wr=>∃ k:Nat,vi = .int .i64 k∧k≤n∧Hid (ImgZ (ZB w0.heap.size w.heap.size) W1 wr vv ((img r).take k))) (fun _ vi _=>n - (intOf vi).toNat)
 case atStart=>exact ⟨0,rfl,by omega,OwnZ.nil _ _ _,Below.refl _ _⟩
 case round=>
  obtain ⟨k,rfl,hk,HB⟩:=hrel
  by_cases hlt:k<n
  · have hlt':(k:Int)<(n:Int):=by omega
    have hpos:(0:Int)≤(k:Int):=by omega
    have hkl:k<r.res.length:=by rw [H.out.2];exact hlt
    have x2:=cell_below HW.out.2.1 HB.out.2 (Nat.le_refl _)
    have hb0:Below w0.heap.size w0 wr:=HW.out.2.2.2.trans (HB.out.2.mono HW.out.2.2.2.size)
    obtain ⟨a5,c5,e5,_,h5⟩:=HW.out.2.2.1.r
    injection e5 with e5 e5b e5c
    clear e5b e5c
    obtain ⟨g,o,e6,hP⟩:=h5.resolve_left (by intro e;rw [e] at hkl;simp at hkl)
    subst e5
    subst e6
    obtain ⟨tv,p0,p1,p2,p3,hT⟩:=hP k hkl
    have hpc:=pc_ok (H.out.1.pc _ (List.getElem_mem hkl))
    have HS:Hid ((img r).take (k+1)=(img r).take k++[imgP r.key r.res[k]]):=img_succ r hkl
    obtain ⟨P,hPe⟩:∃ P,r.res[k]'hkl=P:=⟨_,rfl⟩
    rw [hPe] at p0 p1 p2 hT hpc HS
    have p0:=cell_below p0 hb0 (Nat.le_refl _)
    have p1:=cell_below p1 hb0 (Nat.le_refl _)
    have p2:=cell_below p2 hb0 (Nat.le_refl _)
    have p3:=cell_below p3 hb0 (Nat.le_refl _)
    obtain ⟨pk,pu,py,ptl⟩:=P
    simp only at p0 p1 p2 hT hpc
    obtain ⟨ta,tn,tc,rfl⟩:=hT.sl
    have HT:Hid (Rs w0 (.slice ta tn tc) ptl):=hT
    obtain ⟨va,vc,rfl⟩:=HB.out.1.form
    have HB0:Hid (Below w0.heap.size w0 wr∧w.heap.size≤wr.heap.size∧w0.heap.size≤W1.heap.size):=⟨hb0,Nat.le_trans HW.out.1.size HB.out.2.size,HW.out.2.2.2.size⟩
    clear hPe hP hT hb0
    rcases hpc with ⟨rfl,-,-,-⟩ | ⟨rfl,-,-,hy0,hy1⟩ | ⟨rfl,-,-,-,-⟩
    · clear x2
      have hrs:=one_new (wr.alloc (.cells #[.int .i64 1,.int .i64 pu,.int .i64 py,.slice ta tn tc] 58)) pu
      rw [World.size_alloc] at hrs
      have hap:Apt (.slice (some ⟨wr.heap.size+1,0,none⟩) 1 1) (.slice va ((img r).take k).length vc):=fun g o n c e hn hb=>by
       injection e with e1
       injection e1 with e2
       injection e2 with e3
       have:=(HB.out.1.blk hb).2
       omega
      have hlen:((img r).take k).length+1≤1000000:=by rw [List.length_take];have:=H.out.1.r16;simp [img];omega
      have hbs:=HB.out.2.size
      have hz:ZB w0.heap.size w.heap.size (.slice (some ⟨wr.heap.size+1,0,none⟩) 1 1):=fun g o n c e _=>by
       injection e with e1
       injection e1 with e2
       injection e2 with e3
       have:=HB0.out.2.1
       omega
      go_upto_region 12 with (first | (at_builtin;refine push_Zs rfl _ _ 56 rfl Tryz.underlying56 W1.heap.size _ ((img r).take k) rfl ((((HB.out.1.alloc _).alloc _).alloc _)) (wr.heap.size+1+1) 1 (.slice (some ⟨wr.heap.size+1,0,none⟩) 1 1) [(pu,pu)] rfl ?_ hrs hap hz hlen ?_ ?_;rotate_left 2;intro v6 w6 hO6 hb6) | fail)
      · have HF:Hid (ImgZ (ZB w0.heap.size w.heap.size) W1 w6 v6 ((img r).take (k+1))):=⟨by rw [HS.out];exact hO6,(((HB.out.2.alloc hbs _).alloc (by rw [World.size_alloc];omega) _).alloc (by rw [World.size_alloc,World.size_alloc];omega) _).trans hb6⟩
        obtain ⟨a6,c6,rfl⟩:=hO6.form
        clear hO6 hb6 HB hrs hap
        go_wp2
        exact ⟨⟨k+1,by go_num,by omega,HF⟩,by simp [intOf];omega⟩
      · omega
    · -- the same as at a place of the key
      obtain ⟨yn,rfl⟩:∃ yn:Nat,py=(yn:Int):=⟨py.toNat,by omega⟩
      have hyk:yn<r.key.length:=by omega
      have hykn:(yn:Int)<(kn:Int):=by have:=HK.out;omega
      have hy00:(0:Int)≤(yn:Int):=by omega
      obtain ⟨a7,c7,e7,_,h7⟩:=HW.out.2.2.1.k
      injection e7 with e7 e7b e7c
      clear e7b e7c
      obtain ⟨g2,o2,e8,hS⟩:=h7.resolve_left (by intro e;rw [e] at hyk;simp at hyk)
      subst e7
      subst e8
      obtain ⟨sv,k1,hsv⟩:=hS yn hyk
      have hka:imgP r.key ⟨2,pu,(yn:Int),ptl⟩=r.key[yn]:=by
       unfold imgP keyAt
       simp [hyk]
      have HSV:Hid (Rs w0 sv r.key[yn]):=hsv
      obtain ⟨sa,sn,sc,rfl⟩:=hsv.sl
      have k1:=cell_below k1 HB0.out.1 (Nat.le_refl _)
      have k1a:=cell_below k1 ((Below.refl _ wr).alloc (Nat.le_refl _) (.cells #[.int .i64 2,.int .i64 pu,.int .i64 yn,.slice ta tn tc] 58)) (Nat.le_refl _)
      have x2a:=cell_below x2 ((Below.refl _ wr).alloc (Nat.le_refl _) (.cells #[.int .i64 2,.int .i64 pu,.int .i64 yn,.slice ta tn tc] 58)) (Nat.le_refl _)
      have hbs:=HB.out.2.size
      have hap:Apt (.slice sa sn sc) (.slice va ((img r).take k).length vc):=apt_oldZ HSV.out HB.out.1 HB0.out.2.2
      have hrs:Rs ((wr.alloc (.cells #[.int .i64 2,.int .i64 pu,.int .i64 yn,.slice ta tn tc] 58)).alloc (.cells #[.slice sa sn sc] 39)) (.slice sa sn sc) (imgP r.key ⟨2,pu,(yn:Int),ptl⟩):=by
       rw [hka]
       exact HSV.out.below ((HB0.out.1.alloc HB0.out.1.size _).alloc (by rw [World.size_alloc];have:=HB0.out.1.size;omega) _) (Nat.le_refl _)
      have hlen:((img r).take k).length+1≤1000000:=by rw [List.length_take];have:=H.out.1.r16;simp [img];omega
      have hz:ZB w0.heap.size w.heap.size (.slice sa sn sc):=zb_old HSV.out
      clear hsv hS h7 hka
      go_upto_region 12 with (first | (at_builtin;refine push_Zs rfl _ _ 56 rfl Tryz.underlying56 W1.heap.size _ ((img r).take k) rfl (((HB.out.1.alloc _).alloc _)) (wr.heap.size+1) 1 (.slice sa sn sc) (imgP r.key ⟨2,pu,(yn:Int),ptl⟩) rfl ?_ hrs hap hz hlen ?_ ?_;rotate_left 2;intro v6 w6 hO6 hb6) | fail)
      · have HF:Hid (ImgZ (ZB w0.heap.size w.heap.size) W1 w6 v6 ((img r).take (k+1))):=⟨by rw [HS.out];exact hO6,((HB.out.2.alloc hbs _).alloc (by rw [World.size_alloc];omega) _).trans hb6⟩
        obtain ⟨a6,c6,rfl⟩:=hO6.form
        clear hO6 hb6 HB hrs hap
        go_wp2
        exact ⟨⟨k+1,by go_num,by omega,HF⟩,by simp [intOf];omega⟩
      · omega
    · clear x2
      have hbs:=HB.out.2.size
      have hap:Apt (.slice ta tn tc) (.slice va ((img r).take k).length vc):=apt_oldZ HT.out HB.out.1 HB0.out.2.2
      have hrs:Rs ((wr.alloc (.cells #[.int .i64 3,.int .i64 pu,.int .i64 py,.slice ta tn tc] 58)).alloc (.cells #[.slice ta tn tc] 39)) (.slice ta tn tc) (imgP r.key ⟨3,pu,py,ptl⟩):=
       HT.out.below ((HB0.out.1.alloc HB0.out.1.size _).alloc (by rw [World.size_alloc];have:=HB0.out.1.size;omega) _) (Nat.le_refl _)
      have hz:ZB w0.heap.size w.heap.size (.slice ta tn tc):=zb_old HT.out
      have hlen:((img r).take k).length+1≤1000000:=by rw [List.length_take];have:=H.out.1.r16;simp [img];omega
      go_upto_region 12 with (first | (at_builtin;refine push_Zs rfl _ _ 56 rfl Tryz.underlying56 W1.heap.size _ ((img r).take k) rfl (((HB.out.1.alloc _).alloc _)) (wr.heap.size+1) 1 (.slice ta tn tc) (imgP r.key ⟨3,pu,py,ptl⟩) rfl ?_ hrs hap hz hlen ?_ ?_;rotate_left 2;intro v6 w6 hO6 hb6) | fail)
      · have HF:Hid (ImgZ (ZB w0.heap.size w.heap.size) W1 w6 v6 ((img r).take (k+1))):=⟨by rw [HS.out];exact hO6,((HB.out.2.alloc hbs _).alloc (by rw [World.size_alloc];omega) _).trans hb6⟩
        obtain ⟨a6,c6,rfl⟩:=hO6.form
        clear hO6 hb6 HB hrs hap
        go_wp2
        exact ⟨⟨k+1,by go_num,by omega,HF⟩,by simp [intOf];omega⟩
      · omega
  · have hkn:Hid (k=n):=by show k=n;omega
    have HF':=HB.out
    rw [List.take_of_length_le (by simp [img];have:=H.out.2;have:=hkn.out;omega)] at HF'
    obtain ⟨va,vc,rfl⟩:=HF'.1.form
    have HF:Hid (ImgZ (ZB w0.heap.size w.heap.size) W1 wr (.slice va (img r).length vc) (img r)):=HF'
    clear HF' HB
    go_wp2
    go_ret
    exact ⟨_,rfl,HF.out.1.le HW.out.1.size,HW.out.1.trans (HF.out.2.mono HW.out.1.size)⟩
theorem OwnZ.rob {w w':World} {B0:Nat} {v:Value} {ls:List (List (Int × Int))} (h:OwnZ (ZB B0 w.heap.size) w' w.heap.size v ls):Rob (fun k=>B0≤k∧k<w.heap.size) w' fun W=>SR W v ls:=fun W hf=>by
 obtain ⟨vs,h0,h1,h2⟩:=h
 rcases h1.2 with ⟨rfl,e⟩ | ⟨g,cap,cur,rfl,hg,k2,hc,_⟩
 · have:ls=[]:=List.eq_nil_of_length_eq_zero (by omega)
   subst this
   exact ⟨none,0,rfl,Nat.le_refl _,.inl rfl⟩
 · refine ⟨_,cap,by rw [h0],by omega,.inr ⟨g,0,rfl,fun j hj => ?_⟩⟩
   obtain ⟨u,e,hu,_,hz⟩:=h2 j hj
   have:=World.ownsRow.cells h1 rfl j u e
   rw [add_zero_at] at this
   rw [Nat.zero_add]
   have hgl:g<w'.heap.size:=(Array.getElem?_eq_some_iff.1 k2).1
   refine ⟨u,(cell_eqb (a:=⟨g,j,none⟩) (hf.block g hgl (fun e=>by omega))).trans this,hu.same fun g2 o2 n2 c2 e2 hn2 hg2=>hf.block g2 hg2 fun e => ?_⟩
   have:=hz g2 o2 n2 c2 e2 hn2
   omega
theorem imageR_any (r:Rl) (av kv pv rv:Value) (w0 w:World) (hr:RR w0 av kv pv rv r) (hb0:Below w0.heap.size w0 w) (ho:Ok r) :
 Calls Tryz.prog 31 #[.agg #[.bool r.bg,av,kv,pv,.bool r.en,rv,.int .i64 r.cu]] w fun e w'=>∃ y1 y2 y3,e = .returned (.slice y1 y2 y3)∧Rob (fun k=>w0.heap.size≤k∧k<w.heap.size) w' (fun W=>SR W (.slice y1 y2 y3) (img r))∧Below w.heap.size w w':=by
 refine (imageZ_any r av kv pv rv w0 w hr hb0 ho).mono ?_
 rintro e w' ⟨v,rfl,h1,h2⟩
 obtain ⟨a,c,rfl⟩:=h1.form
 exact ⟨_,_,_,rfl,h1.rob,h2⟩
end Go.Proofs
