/-
  Several texts in one (Xjv Xkv).
-/
import Derived.Test.YtcfcjljapamcoaaGreatDoorXiv
import Derived.Test.YtcfcjljapamcoaaGreatDoorMgdv
import Derived.Test.YtcfcjljapamcoaaGreatDoorMgcv
namespace Go.Proofs
open Go.RowKit Go.Shelf
theorem any_congr {α:Type} {l:List α} {p q:α→Bool} (h:∀ x∈l,p x=q x):l.any p=l.any q:=by
 induction l with
 | nil=>rfl
 | cons x l ih=>rw [List.any_cons,List.any_cons,h x (by simp),ih fun y hy=>h y (by simp [hy])]
theorem bool_iff {a b:Bool} (h:a=true↔b=true):a=b:=by
 cases a <;> cases b <;> simp_all
theorem cmeet_core {rs:List Rl} (ho:∀ r∈rs,Ok r) {core s:List (Int × Int)} (hc:Up core) (hi:∀ u,inL core u=true↔∃ l∈rs.flatMap waS,inL l u=true) (hs:Up s):cmeet rs s=metB core s:=by
 apply bool_iff
 rw [metB_iff hc.2 hs.2]
 unfold cmeet wmeet
 rw [List.any_eq_true]
 constructor
 · rintro ⟨r,hr,h⟩
   obtain ⟨l,hl,h⟩:=List.any_eq_true.1 h
   obtain ⟨u,h1,h2⟩:=(metB_iff (okS_up (waS_ok (ho r hr) l hl)).2 hs.2).1 h
   exact ⟨u,(hi u).2 ⟨l,List.mem_flatMap.2 ⟨r,hr,hl⟩,h1⟩,h2⟩
 · rintro ⟨u,h1,h2⟩
   obtain ⟨l,hl,h3⟩:=(hi u).1 h1
   obtain ⟨r,hr,hlr⟩:=List.mem_flatMap.1 hl
   exact ⟨r,hr,List.any_eq_true.2 ⟨l,hlr,(metB_iff (okS_up (waS_ok (ho r hr) l hlr)).2 hs.2).2 ⟨u,h3,h2⟩⟩⟩
theorem metB_comm {a b:List (Int × Int)} (ha:Up a) (hb:Up b):metB a b=metB b a:=by
 apply bool_iff
 rw [metB_iff ha.2 hb.2,metB_iff hb.2 ha.2]
 exact ⟨fun ⟨u,h1,h2⟩=>⟨u,h2,h1⟩,fun ⟨u,h1,h2⟩=>⟨u,h2,h1⟩⟩
theorem ral_wro {rs:List Rl} (ho:∀ r∈rs,Ok r) {core:List (Int × Int)} (hc:Up core) (hi:∀ u,inL core u=true↔∃ l∈rs.flatMap waS,inL l u=true) {r:Rl} (hr:Ok r):ralE rs r=wroE r core:=by
 unfold ralE wroE
 have e1:(img r).any (fun l=>metB l straysL)=(img r).any (metB straysL):=any_congr fun l hl=>metB_comm (okS_up (img_ok hr l hl)) straysL_up
 have e2:r.ante.any (cmeet rs)=r.ante.any (metB core):=any_congr fun l hl=>cmeet_core ho hc hi (okS_up (List.all_eq_true.1 hr.aS l hl))
 have e3:r.post.any (cmeet rs)=r.post.any (metB core):=any_congr fun l hl=>cmeet_core ho hc hi (okS_up (List.all_eq_true.1 hr.pS l hl))
 rw [e1,e2,e3,img_len]
 by_cases h1:r.res.length=0∨r.cu<r.res.length
 · rw [if_pos h1,if_pos (h1.elim .inl fun h => .inr (.inl h))]
 · rw [if_neg h1]
   by_cases h2:(img r).any (metB straysL)=true
   · rw [if_pos h2,if_pos (.inr (.inr h2))]
   · have h12:¬ (r.res.length=0∨r.cu<r.res.length∨(img r).any (metB straysL)=true):=fun h=>h.elim (fun h=>h1 (.inl h)) fun h=>h.elim (fun h=>h1 (.inr h)) h2
     rw [if_neg h2,if_neg h12]
     by_cases h3:8<r.res.length
     · rw [if_pos h3,if_pos h3]
     · rw [if_neg h3,if_neg h3]
       by_cases h4:telB r r.key.length=false
       · rw [if_pos h4,if_pos h4]
       · rw [if_neg h4,if_neg h4]
         by_cases h5:r.ante.any (metB core)=true
         · rw [if_pos h5,if_pos (.inl h5)]
         · rw [if_neg h5]
           by_cases h6:r.post.any (metB core)=true
           · rw [if_pos h6,if_pos (.inr h6)]
           · rw [if_neg h6,if_neg (fun h=>h.elim h5 h6)]
theorem ChkG.toR {f:Rl→Int} {rs:List Rl} {core:List (Int × Int)} (he:∀ r∈rs,f r=wroE r core) {n c:Int} (h:ChkG f rs n c):ChkR rs core n c:=by
 cases h with
 | wrong k r h1 h2 h3=>
  have e:=he r (List.mem_of_getElem? h1)
  rw [e] at h3 ⊢
  exact ChkR.wrong k r h1 (fun i x hi hx=>by rw [←he x (List.mem_of_getElem? hx)];exact h2 i x hi hx) h3
 | clash k i r x h1 h2 h3 h4 h5 h6 h7=>exact ChkR.clash k i r x (fun y hy=>by rw [←he y hy];exact h1 y hy) h2 h3 h4 h5 h6 h7
 | fine h1 h2=>exact ChkR.fine (fun y hy=>by rw [←he y hy];exact h1 y hy) h2
theorem ChkR.det {rs:List Rl} {core:List (Int × Int)} {n c n' c':Int} (h:ChkR rs core n c) (h':ChkR rs core n' c'):n=n'∧c=c':=by
 have eqr:∀ {k:Nat} {r r':Rl},rs[k]? = some r→rs[k]? = some r'→r=r':=fun h1 h2=>by
  have:=h1.symm.trans h2
  injection this
 cases h with
 | wrong k r h1 h2 h3=>
  cases h' with
  | wrong k' r' g1 g2 g3=>
   have:k=k':=by
    rcases Nat.lt_trichotomy k k' with h | h | h
    · exact absurd (g2 k r h h1) h3
    · exact h
    · exact absurd (h2 k' r' h g1) g3
   subst this
   obtain rfl:=eqr h1 g1
   exact ⟨rfl,rfl⟩
  | clash k' i r' x g1 g2 g3 g4 g5 g6 g7=>exact absurd (g1 r (List.mem_of_getElem? h1)) h3
  | fine g1 g2=>exact absurd (g1 r (List.mem_of_getElem? h1)) h3
 | clash k i r x h1 h2 h3 h4 h5 h6 h7=>
  cases h' with
  | wrong k' r' g1 g2 g3=>exact absurd (h1 r' (List.mem_of_getElem? g1)) g3
  | clash k' i' r' x' g1 g2 g3 g4 g5 g6 g7=>
   have:k=k':=by
    rcases Nat.lt_trichotomy k k' with h | h | h
    · exact absurd (g5 k r h h2 i x h4 h3) h7
    · exact h
    · exact absurd (h5 k' r' h g2 i' x' g4 g3) g7
   subst this
   obtain rfl:=eqr h2 g2
   have:i=i':=by
    rcases Nat.lt_trichotomy i i' with h | h | h
    · exact absurd (g6 i x h h3) h7
    · exact h
    · exact absurd (h6 i' x' h g3) g7
   subst this
   obtain rfl:=eqr h3 g3
   exact ⟨rfl,rfl⟩
  | fine g1 g2=>
   have hk:=(List.getElem?_eq_some_iff.1 h2).1
   exact absurd (g2 k r hk h2 i x h4 h3) h7
 | fine h1 h2=>
  cases h' with
  | wrong k' r' g1 g2 g3=>exact absurd (h1 r' (List.mem_of_getElem? g1)) g3
  | clash k' i' r' x' g1 g2 g3 g4 g5 g6 g7=>
   have hk:=(List.getElem?_eq_some_iff.1 g2).1
   exact absurd (h2 k' r' hk g2 i' x' g4 g3) g7
  | fine g1 g2=>exact ⟨rfl,rfl⟩
theorem trn_rch {rs:List Rl} {n c n' c':Int} (h:TrnP rs n c) (h':RchP rs n' c'):n=n'∧c=c':=by
 rcases h with ⟨h1,h2,h3⟩ | ⟨h1,core,h2,h3,h4⟩
 · rcases h' with ⟨_,g2,g3⟩ | ⟨g1,_⟩
   · exact ⟨h2.trans g2.symm,h3.trans g3.symm⟩
   · exact absurd g1 h1
 · rcases h' with ⟨g1,_⟩ | ⟨g1,g2⟩
   · exact absurd h1 g1
   · have ho:=(chkW_zero h1).2
     exact h4.det (g2.toR fun r hr=>ral_wro ho h2 h3 (ho r hr))
theorem RchP.bk {rs:List Rl} {n:Int} (h:RchP rs n 0):n=0∧(chkW rs).2=0∧(∀ r∈rs,Ok r)∧rs.length≤256∧∀ r∈rs,ralE rs r=0:=by
 rcases h with ⟨h1,_,h2⟩ | ⟨h1,h2⟩
 · exact absurd h2.symm h1
 · have h3:=chkW_zero h1
   refine ⟨?_,h1,h3.2,h3.1,?_⟩
   · generalize hc:(0:Int)=c at h2
     cases h2 with
     | wrong k r g1 g2 g3=>exact absurd hc.symm g3
     | clash k i r x g1 g2 g3 g4 g5 g6 g7=>exact absurd hc.symm g7
     | fine g1 g2=>exact hc
   · generalize hc:(0:Int)=c at h2
     cases h2 with
     | wrong k r g1 g2 g3=>exact absurd hc.symm g3
     | clash k i r x g1 g2 g3 g4 g5 g6 g7=>exact absurd hc.symm g7
     | fine g1 g2=>exact fun r hr=>by rw [←hc];exact g1 r hr
theorem ralE_bk {rs:List Rl} {r:Rl} (ho:Ok r) (h:ralE rs r=0):Bk r:=by
 unfold ralE at h
 by_cases h1:r.res.length=0∨r.cu<r.res.length
 · rw [if_pos h1] at h;cases h
 rw [if_neg h1] at h
 by_cases h2:(img r).any (fun l=>metB l straysL)=true
 · rw [if_pos h2] at h;cases h
 rw [if_neg h2] at h
 by_cases h3:8<r.res.length
 · rw [if_pos h3] at h;cases h
 rw [if_neg h3] at h
 by_cases h4:telB r r.key.length=false
 · rw [if_pos h4] at h;cases h
 have hl:=img_len r
 refine ⟨by omega,by omega,by omega,?_,by simpa using h4⟩
 rw [←any_congr fun l hl=>metB_comm (okS_up (img_ok ho l hl)) straysL_up]
 simpa using h2
end Go.Proofs
namespace Go.Proofs
open Go.RowKit Go.Shelf
set_option maxRecDepth 100000
attribute [local go_sem] Oper.semAt_some
theorem sumK_append (c:Int→Int) (a b:List Int) (x:Int):sumK c (a++b) x=sumK c a x+sumK c b x:=by
 induction a with
 | nil=>simp [sumK_nil]
 | cons k a ih=>rw [List.cons_append,sumK_cons,sumK_cons,ih];omega
theorem bAt_inj {L:List Int} (h:L.Pairwise (· < ·)) {i j:Nat} (hi:i<L.length) (hj:j<L.length) (e:bAt L i=bAt L j):i=j:=by
 rw [bAt_lt hi,bAt_lt hj] at e
 rcases Nat.lt_trichotomy i j with h1 | h1 | h1
 · have:=List.pairwise_iff_getElem.1 h i j hi hj h1;omega
 · exact h1
 · have:=List.pairwise_iff_getElem.1 h j i hj hi h1;omega
def cumS (c:Int→Int) (L:List Int) (j:Nat):Int:=((L.take (j+1)).map c).sum
theorem cumS_succ (c:Int→Int) {L:List Int} {j:Nat} (hj:j+1<L.length):cumS c L (j+1)=cumS c L j+c (bAt L (j+1)):=by
 unfold cumS
 rw [List.take_succ_eq_append_getElem hj,List.map_append,List.sum_append,bAt_lt hj]
 simp
theorem cumS_sum {c:Int→Int} {L:List Int} (h:L.Pairwise (· < ·)) {j:Nat} (hj:j<L.length):cumS c L j=sumK c L (bAt L j):=by
 have hsplit:L=L.take (j+1)++L.drop (j+1):=(List.take_append_drop _ _).symm
 have e:sumK c L (bAt L j)=sumK c (L.take (j+1)) (bAt L j)+sumK c (L.drop (j+1)) (bAt L j):=by
  rw [←sumK_append,←hsplit]
 rw [e,sumK_all (fun k hk => ?_),sumK_small (fun k hk => ?_),cumS]
 · omega
 · obtain ⟨i,hi,rfl⟩:=List.getElem_of_mem hk
   rw [List.getElem_drop,bAt_lt hj]
   have hi':j+1+i<L.length:=by have:=hi;rw [List.length_drop] at this;omega
   exact List.pairwise_iff_getElem.1 h j (j+1+i) hj hi' (by omega)
 · obtain ⟨i,hi,rfl⟩:=List.getElem_of_mem hk
   have hi':i<j+1:=by have:=hi;rw [List.length_take] at this;omega
   rw [List.getElem_take,bAt_lt hj]
   rcases Nat.lt_or_ge i j with h1 | h1
   · have:=List.pairwise_iff_getElem.1 h i j (by omega) hj h1;omega
   · have:i=j:=by omega
     subst this
     exact Int.le_refl _
theorem cumS_cnt {l:List (Int × Int)} {L:List Int} (h:L.Pairwise (· < ·)) (hin:∀ x∈l,x.1∈L∧x.2+1∈L) (hx:∀ x∈l,x.1≤x.2) {j:Nat} (hj:j<L.length):cumS (addS (fun _=>0) l 1) L j=cntL l (bAt L j):=by
 rw [cumS_sum h hj]
 obtain ⟨Q,hQ,hq⟩:=Sums.addS 1 l hx Sums.zero
 have hk:Keys (addS (fun _=>0) l 1) L:=by
  refine ⟨h.imp fun {a b} hab=>by omega,fun k hk => ?_⟩
  have:∀ (l:List (Int × Int)) (c:Int→Int),(∀ x∈l,x.1∈L∧x.2+1∈L)→(∀ k,c k≠0→k∈L)→∀ k,addS c l 1 k≠0→k∈L:=by
   intro l
   induction l with
   | nil=>intro c _ hc k hk;exact hc k hk
   | cons x l ih=>
    intro c hin hc k hk
    refine ih _ (fun y hy=>hin y (by simp [hy])) (fun k hk => ?_) k hk
    have hk:addC (addC c x.1 1) (x.2+1) (-1) k≠0:=hk
    unfold addC at hk
    by_cases h2:k=x.2+1
    · rw [h2];exact (hin x (by simp)).2
    · rw [if_neg h2] at hk
      by_cases h1:k=x.1
      · rw [h1];exact (hin x (by simp)).1
      · rw [if_neg h1] at hk
        exact hc k hk
  exact this l _ hin (fun k h=>absurd rfl h) k hk
 rw [hQ.2 L hk,hq]
 omega
def gF (c:Int→Int) (L:List Int):Nat→Value:=fun j => .int .i64 (if j<L.length then c (bAt L j) else 0)
theorem gF_upd {c:Int→Int} {L:List Int} (h:L.Pairwise (· < ·)) {x:Int} (hx:x∈L) (t:Int):updF (gF c L) (plc L x) (.int .i64 (c x+t))=gF (addC c x t) L:=by
 have hlt:=plc_lt x (List.length_pos_of_mem hx)
 have hat:=plc_at h hx
 funext j
 unfold updF gF addC
 by_cases hj:j=plc L x
 · subst hj
   rw [if_pos rfl,if_pos hlt,if_pos hat,hat]
 · rw [if_neg hj]
   by_cases hl:j<L.length
   · rw [if_pos hl,if_pos hl,if_neg fun e=>hj (bAt_inj h hl hlt (e.trans hat.symm))]
   · rw [if_neg hl,if_neg hl]
theorem gF_at {c:Int→Int} {L:List Int} (h:L.Pairwise (· < ·)) {x:Int} (hx:x∈L):gF c L (plc L x) = .int .i64 (c x):=by
 unfold gF
 rw [if_pos (plc_lt x (List.length_pos_of_mem hx)),plc_at h hx]
def CntR (w:World) (v:Value) (L:List Int) (l:List (Int × Int)):Prop:=∃ g,v = .slice (some ⟨g,0,none⟩) (L.length+1) (L.length+1)∧∀ j,j<L.length→w.cell? ⟨g,j,none⟩=some (.int .i64 (cntL l (bAt L j)))
theorem CntR.below {w w':World} {n:Nat} {v:Value} {L:List Int} {l:List (Int × Int)} (h:CntR w v L l) (hb:Below n w w') (hn:w.heap.size≤n):CntR w' v L l:=by
 obtain ⟨g,e,h1⟩:=h
 exact ⟨g,e,fun j hj=>cell_below (h1 j hj) hb hn⟩
theorem cntL_le (l:List (Int × Int)) (u:Int):cntL l u≤l.length:=by
 unfold cntL
 have:=List.length_filter_le (inR · u) l
 omega
theorem RowB.zero {w:World} {n:Nat} : RowB (w.alloc (.cells (ints (List.replicate n 0)).toArray 3)) w.heap.size 3 (fun _ => .int .i64 0) n:=by
 refine ⟨_,World.alloc_heap_new _ _,fun j hj => ?_⟩
 simp [ints,hj]
set_option maxHeartbeats 8000000 in
theorem counts_any (av lv:Value) (L:List Int) (l:List (Int × Int)) (w:World) (hL:IR w av L) (hl:Rs w lv l) (hp:L.Pairwise (· < ·)) (hm:L.length≤900000) (hn:l.length≤900000) (hin:∀ x∈l,x.1∈L∧x.2+1∈L) (hx:∀ x∈l,Bdr x) :
 Calls Tryz.prog 80 #[av,lv] w fun e w'=>∃ y1 y2 y3,e = .returned (.slice y1 y2 y3)∧CntR w' (.slice y1 y2 y3) L l∧Below w.heap.size w w':=by
 have HPL:Hid (∀ W u,Below w.heap.size w W→Calls Tryz.prog 88 #[av,.int .i64 u] W fun e w'=>e = .returned (.int .i64 (plc L u))∧w'=W):=fun W u hb=>place_any av L u W (hL.below hb (Nat.le_refl _)) (by omega)
 obtain ⟨a1,a3,rfl,ha3,_⟩:=hL
 obtain ⟨b1,b3,rfl,hb3,hbr⟩:=hl
 obtain ⟨m,hmm⟩:∃ m,L.length=m:=⟨_,rfl⟩
 obtain ⟨n,hnn⟩:∃ n,l.length=n:=⟨_,rfl⟩
 have hmk:=make_zero (m+1) (by omega)
 have H:Hid (L.length=m∧l.length=n∧L.Pairwise (· < ·)∧(∀ x∈l,x.1∈L∧x.2+1∈L)∧(∀ x∈l,Bdr x)∧(l=[]∨∃ g o,b1=some ⟨g,o,none⟩∧Reads w g o l)):=⟨hmm,hnn,hp,hin,hx,hbr⟩
 rw [hmm] at HPL hm ha3 ⊢
 rw [hnn] at hn hb3 ⊢
 have ecast:((m+1:Nat):Int)=(m:Int)+1:=by omega
 rw [ecast] at hmk
 have HM:=hidT hmk
 have H0:Hid (RowB (w.alloc (.cells (ints (List.replicate (m+1) 0)).toArray 3)) w.heap.size 3 (gF (addS (fun _=>0) (l.take 0) 1) L) (m+1)∧Below w.heap.size w (w.alloc (.cells (ints (List.replicate (m+1) 0)).toArray 3))):=by
  refine ⟨?_,(Below.refl _ w).alloc (Nat.le_refl _) _⟩
  have:=RowB.zero (w:=w) (n:=m+1)
  have e:gF (addS (fun _=>0) (l.take 0) 1) L=fun _ => .int .i64 0:=by
   funext j
   simp [gF,addS]
  rw [e]
  exact this
 clear hp hin hx hbr hmm hnn ecast
 go_enter Tryz.func80,Tryz.ntmps80
 go_wp2
 clear hmk
 go_loopw [6] (fun vi wr=>∃ k:Nat,vi = .int .i64 k∧k≤n∧Hid (RowB wr w.heap.size 3 (gF (addS (fun _=>0) (l.take k) 1) L) (m+1)∧Below w.heap.size w wr)) (fun vi _=>n - (intOf vi).toNat)
 case atStart=>exact ⟨0,rfl,by omega,H0.out⟩
 case round=>
  obtain ⟨k,rfl,hk,HB⟩:=hrel
  clear H0
  by_cases hlt:k<n
  · have hlt':(k:Int)<(n:Int):=by omega
    have hpos:(0:Int)≤(k:Int):=by omega
    have hkl:k<l.length:=by rw [H.out.2.1];exact hlt
    obtain ⟨g,o,rfl,hR⟩:=H.out.2.2.2.2.2.resolve_left (by rintro rfl;simp at hkl)
    obtain ⟨c1,c2⟩:=hR k hkl
    have hmem:rg l k∈l:=by rw [rg_lt hkl];exact List.getElem_mem hkl
    have hin:=H.out.2.2.2.1 _ hmem
    have hbd:=H.out.2.2.2.2.1 _ hmem
    have hsucc:=addS_succ (fun _=>0) l 1 hkl
    obtain ⟨p,q,hpq⟩:∃ p q,rg l k=(p,q):=⟨_,_,rfl⟩
    rw [hpq] at c1 c2 hin hbd hsucc
    simp only at c1 c2 hin hsucc
    have hp0:0≤p:=hbd.2.1
    have hq0:p≤q:=hbd.1
    have hq2:q≤2000000:=hbd.2.2
    have c1:=cell_below c1 HB.out.2 (Nat.le_refl _)
    have c2:=cell_below c2 HB.out.2 (Nat.le_refl _)
    obtain ⟨c,hc⟩:∃ c,addS (fun _=>0) (l.take k) 1=c:=⟨_,rfl⟩
    rw [hc] at hsucc
    have hbound:∀ x,-2000000≤c x∧c x≤2000000:=fun x=>by
     have h1:=addS_bd' (c:=fun _=>0) (N:=0) (fun _=>⟨by simp,by simp⟩) (l:=l.take k) (t:=1) ⟨by omega,by omega⟩ x
     rw [hc,List.length_take] at h1
     have h2:=H.out.2.1
     omega
    have hrow:=HB.out.1
    rw [hc] at hrow
    obtain ⟨i1,hi1⟩:∃ i1,plc L p=i1:=⟨_,rfl⟩
    obtain ⟨i2,hi2⟩:∃ i2,plc L (q+1)=i2:=⟨_,rfl⟩
    have hl1:i1<m:=by rw [←hi1,←H.out.1];exact plc_lt _ (List.length_pos_of_mem hin.1)
    have hl2:i2<m:=by rw [←hi2,←H.out.1];exact plc_lt _ (List.length_pos_of_mem hin.2)
    have z1:=hrow.cell (j:=i1) (by omega)
    have f1:wr.frozen? ⟨w.heap.size,i1,none⟩=false:=hrow.free
    rw [←hi1,gF_at H.out.2.2.1 hin.1,hi1] at z1
    have hset:=hrow.set i1 (.int .i64 (c p+1))
    rw [←hi1,gF_upd H.out.2.2.1 hin.1,hi1] at hset
    obtain ⟨W2,hW2⟩:∃ W2,wr.setCell ⟨w.heap.size,i1,none⟩ (.int .i64 (c p+1))=W2:=⟨_,rfl⟩
    have hb2:Below w.heap.size w W2:=by rw [←hW2];exact HB.out.2.setCell (Nat.le_refl _) _
    have d2:W2.cell? ⟨g,o+k*2+1,none⟩=some (.int .i64 q):=cell_below (hR k hkl).2 hb2 (Nat.le_refl _) |>.trans (by rw [hpq])
    rw [hW2] at hset
    have z2:=hset.cell (j:=i2) (by omega)
    have f2:W2.frozen? ⟨w.heap.size,i2,none⟩=false:=hset.free
    rw [←hi2,gF_at H.out.2.2.1 hin.2,hi2] at z2
    obtain ⟨d,hd⟩:∃ d,addC c p 1 (q+1)=d:=⟨_,rfl⟩
    have hdb : -2000001≤d∧d≤2000001:=by
     rw [←hd]
     unfold addC
     have:=hbound (q+1)
     split <;> omega
    have hcb:=hbound p
    have hset2:=hset.set i2 (.int .i64 (d + -1))
    rw [←hd,←hi2,gF_upd H.out.2.2.1 hin.2,←hsucc,hi2,hd] at hset2
    rw [hd] at z2
    have HF:Hid (RowB (W2.setCell ⟨w.heap.size,i2,none⟩ (.int .i64 (d - 1))) w.heap.size 3 (gF (addS (fun _=>0) (l.take (k+1)) 1) L) (m+1)∧Below w.heap.size w (W2.setCell ⟨w.heap.size,i2,none⟩ (.int .i64 (d - 1)))):=⟨by rw [show d - 1=d + -1 by omega];exact hset2,hb2.setCell (Nat.le_refl _) _⟩
    have HP1:Hid (Calls Tryz.prog 88 #[.slice a1 m a3,.int .i64 p] wr fun e w'=>e = .returned (.int .i64 i1)∧w'=wr):=by
     have:=HPL.out wr p HB.out.2
     rw [hi1] at this
     exact this
    have HP2:Hid (Calls Tryz.prog 88 #[.slice a1 m a3,.int .i64 (q+1)] W2 fun e w'=>e = .returned (.int .i64 i2)∧w'=W2):=by
     have:=HPL.out W2 (q+1) hb2
     rw [hi2] at this
     exact this
    obtain ⟨C,hC⟩:∃ C,c p=C:=⟨_,rfl⟩
    rw [hC] at z1 hW2 hcb
    have hl1':(i1:Int)<(m:Int)+1:=by omega
    have hl2':(i2:Int)<(m:Int)+1:=by omega
    have hl10:(0:Int)≤(i1:Int):=by omega
    have hl20:(0:Int)≤(i2:Int):=by omega
    have hrg:Hid (rg l k=(p,q)):=hpq
    clear hset hset2 hrow hbound hsucc hc hin hbd hmem hd hi1 hi2 hpq hb2 hC HB hR hkl
    go_wp2_with fail
    refine HP1.out.mono ?_
    rintro e w1 ⟨rfl,rfl⟩
    clear HP1
    go_wp2_with fail
    refine HP2.out.mono ?_
    rintro e w2 ⟨rfl,rfl⟩
    clear HP2
    go_wp2
    exact ⟨⟨k+1,by go_num,by omega,HF⟩,by simp [intOf];omega⟩
  · have HS0:Hid (∃ F,RowB wr w.heap.size 3 F (m+1)∧(∀ j,j<m→F j = .int .i64 (if j<0+1 then cumS (addS (fun _=>0) l 1) L j else addS (fun _=>0) l 1 (bAt L j)))∧(0+1≤m→F m = .int .i64 0)):=by
     have e:l.take k=l:=List.take_of_length_le (by rw [H.out.2.1];omega)
     have h1:=HB.out.1
     rw [e] at h1
     refine ⟨_,h1,fun j hj => ?_,fun _ => ?_⟩
     · unfold gF
       rw [if_pos (by rw [H.out.1];exact hj)]
       by_cases h0:j<0+1
       · obtain rfl:j=0:=by omega
         rw [if_pos h0]
         have hl:0<L.length:=by rw [H.out.1];exact hj
         unfold cumS
         rw [List.take_succ_eq_append_getElem hl]
         simp [bAt_lt hl]
       · rw [if_neg h0]
     · unfold gF
       rw [if_neg (by rw [H.out.1];omega)]
    have HW:Hid (Below w.heap.size w wr):=HB.out.2
    have HCB:Hid (∀ j,j<m→(0≤cumS (addS (fun _=>0) l 1) L j∧cumS (addS (fun _=>0) l 1) L j≤2000000)∧(-2000000≤addS (fun _=>0) l 1 (bAt L j)∧addS (fun _=>0) l 1 (bAt L j)≤2000000)∧cumS (addS (fun _=>0) l 1) L j=cntL l (bAt L j)):=fun j hj=>by
     have h1:=cumS_cnt (j:=j) H.out.2.2.1 H.out.2.2.2.1 (fun x hx=>(H.out.2.2.2.2.1 x hx).1) (by rw [H.out.1];exact hj)
     have h2:=cntL_nonneg l (bAt L j)
     have h3:=cntL_le l (bAt L j)
     have h4:=addS_bd' (c:=fun _=>0) (N:=0) (fun _=>⟨by simp,by simp⟩) (l:=l) (t:=1) ⟨by omega,by omega⟩ (bAt L j)
     have h5:=H.out.2.1
     exact ⟨⟨by omega,by omega⟩,⟨by omega,by omega⟩,h1⟩
    clear HB
    go_wp2
    go_loopw [7] (fun vi wx=>∃ j:Nat,vi = .int .i64 ((j:Int)+1)∧j≤m∧Hid ((∃ F,RowB wx w.heap.size 3 F (m+1)∧(∀ i,i<m→F i = .int .i64 (if i<j+1 then cumS (addS (fun _=>0) l 1) L i else addS (fun _=>0) l 1 (bAt L i)))∧(j+1≤m→F m = .int .i64 0))∧Below w.heap.size w wx)) (fun vi _=>m+1 - (intOf vi).toNat)
    case atStart=>exact ⟨0,rfl,by omega,HS0.out,HW.out⟩
    case round=>
     obtain ⟨j,rfl,hj,HJ⟩:=hrel
     clear HS0 HW
     by_cases hjm:j<m
     · have hjm':(j:Int)+1<(m:Int)+1:=by omega
       have hjpos:(0:Int)≤(j:Int):=by omega
       obtain ⟨⟨F,hrow,hF,hFm⟩,hb⟩:=HJ.out
       have hB:=HCB.out j hjm
       obtain ⟨X,hX,hXb,hXn⟩:∃ X,F (j+1) = .int .i64 X∧(-2000000≤X∧X≤2000000)∧(j+1<m→X=addS (fun _=>0) l 1 (bAt L (j+1))):=by
        by_cases h1:j+1<m
        · refine ⟨_,by rw [hF (j+1) h1,if_neg (by omega)],(HCB.out (j+1) h1).2.1,fun _=>rfl⟩
        · refine ⟨0,?_,by omega,fun h=>absurd h h1⟩
          have:j+1=m:=by omega
          rw [this]
          exact hFm (by omega)
       obtain ⟨Y,hY⟩:∃ Y,cumS (addS (fun _=>0) l 1) L j=Y:=⟨_,rfl⟩
       have hYF:F j = .int .i64 Y:=by rw [hF j hjm,if_pos (by omega),hY]
       rw [hY] at hB
       have hYb:=hB.1
       have zX:=hrow.cell (j:=j+1) (by omega)
       have zY:=hrow.cell (j:=j) (by omega)
       have fX:wr.frozen? ⟨w.heap.size,j+1,none⟩=false:=hrow.free
       rw [hX] at zX
       rw [hYF] at zY
       have hset:=hrow.set (j+1) (.int .i64 (X+Y))
       have HF:Hid ((∃ F,RowB (wr.setCell ⟨w.heap.size,j+1,none⟩ (.int .i64 (X+Y))) w.heap.size 3 F (m+1)∧(∀ i,i<m→F i = .int .i64 (if i<j+1+1 then cumS (addS (fun _=>0) l 1) L i else addS (fun _=>0) l 1 (bAt L i)))∧(j+1+1≤m→F m = .int .i64 0))∧Below w.heap.size w (wr.setCell ⟨w.heap.size,j+1,none⟩ (.int .i64 (X+Y)))):=by
        refine ⟨⟨_,hset,fun i hi => ?_,fun h => ?_⟩,hb.setCell (Nat.le_refl _) _⟩
        · unfold updF
          by_cases h1:i=j+1
          · subst h1
            rw [if_pos rfl,if_pos (by omega),cumS_succ _ (by rw [H.out.1];exact hi),hY,hXn hi]
            congr 1
            omega
          · rw [if_neg h1,hF i hi]
            by_cases h2:i<j+1
            · rw [if_pos h2,if_pos (by omega)]
            · rw [if_neg h2,if_neg (by omega)]
        · unfold updF
          rw [if_neg (by omega)]
          exact hFm (by omega)
       have hw1:wrap64 ((j:Int)+1 - 1)=(j:Int):=by
        have:(j:Int)+1 - 1=(j:Int):=by omega
        rw [this]
        exact Go.IntWalk.wrap64_in _ ⟨by omega,by omega⟩
       clear hrow hF hFm hb hB hX hXn hY hYF hset HJ
       go_upto_region 10 with fail
       go_region
       all_goals
        go_wp2
        refine ⟨⟨j+1,by go_num,by omega,?_⟩,by simp [intOf];omega⟩
        exact ⟨HF.out.1,HF.out.2.drew⟩
     · have hjm':¬ (j:Int)+1<(m:Int)+1:=by omega
       have HF:Hid (CntR wr (.slice (some ⟨w.heap.size,0,none⟩) (m+1) (m+1)) L l∧Below w.heap.size w wr):=by
        obtain ⟨⟨F,hrow,hF,_⟩,hb⟩:=HJ.out
        refine ⟨⟨w.heap.size,by rw [H.out.1],fun i hi => ?_⟩,hb⟩
        have hi':i<m:=by rw [←H.out.1];exact hi
        rw [hrow.cell (by omega),hF i hi',if_pos (by omega),(HCB.out i hi').2.2]
       clear HJ
       go_wp2
       go_ret
       exact ⟨_,_,_,rfl,HF.out.1,HF.out.2⟩
end Go.Proofs
