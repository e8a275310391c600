/-
  lost 51: the units that may stay and begin an image.
-/
import Derived.Test.YtcfcjljapamcoabGreatDoorMpor
namespace Go.Proofs
open Go.RowKit Go.Shelf
set_option maxRecDepth 100000
attribute [local go_sem] Oper.semAt_some
def CoJ (m:Nat) (wr:World) (N:Nat) (ls:List (List (Int × Int))):Prop:=CoI m wr wr N ls
theorem CoI.j {m:Nat} {V wr:World} {N:Nat} {ls:List (List (Int × Int))} (h:CoI m V wr N ls):CoJ m wr N ls:=by
 obtain ⟨c,P,hI,hS,hP,hk,hc,_⟩:=h
 exact ⟨c,P,hI,hS,hP,hk,hc,Tn.refl _ _⟩
theorem CoJ.other {m m':Nat} {wr w':World} {N:Nat} {ls:List (List (Int × Int))} (h:CoJ m' wr N ls) (hT:Tn m wr w') (hne:m'≠m):CoJ m' w' N ls:=by
 obtain ⟨c,P,hI,hS,hP,hk,hc,_⟩:=h
 have hm:=hI.lt
 exact ⟨c,P,hI.kept fun o ho=>(hT.2 m' hne hm).trans ho,hS,hP,hk,hc,Tn.refl _ _⟩
theorem CoJ.grown {m:Nat} {wr w':World} {N:Nat} {ls:List (List (Int × Int))} (h:CoJ m wr N ls) (hg:Below wr.heap.size wr w'):CoJ m w' N ls:=(CoI.grown h hg).j
def imgF (r:Rl):List (Int × Int):=(img r).getD 0 []
def keyF (r:Rl):List (Int × Int):=r.key.getD 0 []
def lsB (rs:List Rl):List (List (Int × Int)):=rs.map imgF
def lsG (rs:List Rl):List (List (Int × Int)):=(rs.filter freeB).map keyF
structure LoI (m:Nat) (w wr:World) (rs:List Rl) (k:Nat):Prop where
 c1:CoJ m wr (k*1024) (lsB (rs.take k))
 c2:CoJ (m+1) wr (k*1024) (lsG (rs.take k))
 bel:Below m w wr
theorem LoI.start (w:World) (rs:List Rl):LoI w.heap.size w ((w.alloc (.map #[] 0)).alloc (.map #[] 0)) rs 0:=by
 have h1:=(CoI.start w).j
 have h2:=(CoI.start (w.alloc (.map #[] 0))).j
 rw [World.size_alloc] at h2
 exact ⟨by simpa [lsB] using h1.grown ((Below.refl _ _).alloc (Nat.le_refl _) _),by simpa [lsG] using h2,((Below.refl _ w).alloc (Nat.le_refl _) _).alloc (by simp) _⟩
theorem lsB_snoc {rs:List Rl} {k:Nat} (hk:k<rs.length):lsB (rs.take (k+1))=lsB (rs.take k)++[imgF rs[k]]:=by
 unfold lsB
 rw [List.take_succ_eq_append_getElem hk,List.map_append]
 rfl
theorem lsG_snoc {rs:List Rl} {k:Nat} (hk:k<rs.length):lsG (rs.take (k+1))=lsG (rs.take k)++if freeB rs[k] then [keyF rs[k]] else []:=by
 unfold lsG
 rw [List.take_succ_eq_append_getElem hk,List.filter_append,List.map_append]
 by_cases h:freeB rs[k]=true
 · rw [if_pos h];simp [h]
 · rw [if_neg h];simp [h]
def LosQ (w:World) (rs:List Rl) (e:Ending) (w':World):Prop:=∃ v s,e = .returned v∧OwnR w' w.heap.size v s∧Up s∧(∀ u,inL s u=true↔((∃ l∈lsB rs,inL l u=true)∧¬ ∃ l∈lsG rs,inL l u=true))∧Below w.heap.size w w'
theorem imgF_in {r:Rl} (h:r.res≠[]):imgF r∈img r:=by
 have hl:0<(img r).length:=by simp [img];exact List.length_pos_iff.2 h
 unfold imgF
 rw [List.getD_eq_getElem?_getD,List.getElem?_eq_getElem hl]
 exact List.getElem_mem hl
theorem keyF_in {r:Rl} (ho:Ok r):keyF r∈r.key:=by
 have hl:0<r.key.length:=ho.k0
 unfold keyF
 rw [List.getD_eq_getElem?_getD,List.getElem?_eq_getElem hl]
 exact List.getElem_mem hl
theorem lsB_ok {rs:List Rl} (ho:∀ r∈rs,Ok r) (hi:∀ r∈rs,r.res≠[]):∀ l∈lsB rs,okS l=true:=by
 intro l hl
 obtain ⟨r,hr,rfl⟩:=List.mem_map.1 hl
 exact img_ok (ho r hr) _ (imgF_in (hi r hr))
theorem lsG_ok {rs:List Rl} (ho:∀ r∈rs,Ok r):∀ l∈lsG rs,okS l=true:=by
 intro l hl
 obtain ⟨r,hr,rfl⟩:=List.mem_map.1 hl
 have hm:=(List.mem_filter.1 hr).1
 exact List.all_eq_true.1 (ho r hm).kS _ (keyF_in (ho r hm))
theorem SR.first {w:World} {v:Value} {ls:List (List (Int × Int))} (h:SR w v ls) (h0:ls≠[]):∃ g o c sv,v = .slice (some ⟨g,o,none⟩) ls.length c∧w.cell? ⟨g,o,none⟩=some sv∧Rs w sv (ls.getD 0 []):=by
 obtain ⟨a,c,rfl,hc,h3⟩:=h
 obtain ⟨g,o,rfl,hr⟩:=h3.resolve_left h0
 have hl:0<ls.length:=List.length_pos_iff.2 h0
 obtain ⟨sv,h1,h2⟩:=hr 0 hl
 refine ⟨g,o,c,sv,rfl,by simpa using h1,?_⟩
 rw [List.getD_eq_getElem?_getD,List.getElem?_eq_getElem hl]
 exact h2
set_option maxHeartbeats 8000000 in
theorem lost_any (w:World) (v:Value) (rs:List Rl) (h:WyR w v rs) (hn:rs.length≤256) (ho:∀ r∈rs,Ok r) (hi:∀ r∈rs,r.res≠[]):Calls Tryz.prog 24 #[v] w (LosQ w rs):=by
 obtain ⟨a,cap,rfl,hcap,hr⟩:=h
 obtain ⟨n,hnn⟩:∃ n,rs.length=n:=⟨_,rfl⟩
 have H:Hid (rs.length=n∧(∀ r∈rs,Ok r)∧(∀ r∈rs,r.res≠[])∧(rs=[]∨∃ g o,a=some ⟨g,o,none⟩∧∀ (j:Nat) (hj:j<rs.length),WyAt w g (o+j*8) rs[j])):=⟨hnn,ho,hi,hr⟩
 have H0:Hid (LoI w.heap.size w ((w.alloc (.map #[] 0)).alloc (.map #[] 0)) rs 0):=LoI.start w rs
 have hmm := @run_makeMap Tryz.prog
 rw [hnn] at hn ⊢
 obtain ⟨W1,hW1⟩:∃ W1,W1=(w.alloc (.map #[] 0)).alloc (.map #[] 0):=⟨_,rfl⟩
 rw [←hW1] at H0
 clear ho hr hnn hcap hi
 go_enter Tryz.func24,Tryz.ntmps24
 go_wp2
 rw [←hW1]
 clear hW1
 go_loopw [11] (fun vi wr=>∃ k:Nat,vi = .int .i64 k∧k≤n∧Hid (LoI w.heap.size w wr rs k)) (fun vi _=>n - (intOf vi).toNat)
 case atStart=>exact ⟨0,rfl,by omega,H0⟩
 case round=>
  obtain ⟨k,rfl,hk,HB⟩:=hrel
  obtain ⟨wo,hwo⟩:∃ x,x=wr:=⟨_,rfl⟩
  subst hwo
  clear H0
  by_cases hlt:k<n
  · have hlt':(k:Int)<(n:Int):=by omega
    have hpos:(0:Int)≤(k:Int):=by omega
    have hkl:k<rs.length:=by rw [H.out.1];exact hlt
    obtain ⟨g,o,rfl,hr⟩:=H.out.2.2.2.resolve_left (by intro e;rw [e] at hkl;simp at hkl)
    obtain ⟨av,kv,pv,rv,iv,hc,hwc⟩:=hr k hkl
    have hok:=H.out.2.1 _ (List.getElem_mem hkl)
    have hir:=H.out.2.2.1 _ (List.getElem_mem hkl)
    have hs1:=lsB_snoc hkl
    have hs2:=lsG_snoc hkl
    obtain ⟨r,hre⟩:∃ r,rs[k]'hkl=r:=⟨_,rfl⟩
    rw [hre] at hc hwc hok hir hs1 hs2
    have hbo:=HB.out.bel
    have q:=fun i v hv=>cell_below (hc i v hv) hbo (Nat.le_refl _)
    have q0:=q 0 _ rfl
    have q1:=q 1 _ rfl
    have q2:=q 2 _ rfl
    have q3:=q 3 _ rfl
    have q4:=q 4 _ rfl
    have q5:=q 5 _ rfl
    have q6:=q 6 _ rfl
    have q7:=q 7 _ rfl
    simp only [Nat.add_zero] at q0
    have hi0:img r≠[]:=fun e=>by have:=imgF_in hir;rw [e] at this;simp at this
    have hk0:r.key≠[]:=fun e=>by have:=keyF_in hok;rw [e] at this;simp at this
    have hwcc:=hwc
    obtain ⟨aa,an,ac,rfl⟩:=hwc.rr.a.sl
    obtain ⟨kg,ko,kc,ks,rfl,hkc,hks⟩:=hwc.rr.k.first hk0
    obtain ⟨pa,pn,pc,rfl⟩:=hwc.rr.p.sl
    obtain ⟨ra,rn,rc,rfl⟩:=hwc.rr.r.sl
    obtain ⟨ig,io,ic,is,rfl,hic,his⟩:=hwc.im.first hi0
    obtain ⟨kn,hkn⟩:∃ kn,r.key.length=kn:=⟨_,rfl⟩
    obtain ⟨im,him⟩:∃ im,(img r).length=im:=⟨_,rfl⟩
    have hkn0:(0:Int)<(kn:Int):=by have:=List.length_pos_iff.2 hk0;omega
    have him0:(0:Int)<(im:Int):=by have:=List.length_pos_iff.2 hi0;omega
    rw [hkn] at q2
    rw [him] at q7
    have hwf:WyC w r (.slice aa an ac) (.slice (some ⟨kg,ko,none⟩) kn kc) (.slice pa pn pc) (.slice ra rn rc) (.slice (some ⟨ig,io,none⟩) im ic):=by rw [←hkn,←him];exact hwcc
    obtain ⟨W6,hW6⟩:∃ W6,wo.alloc (.cells #[.bool r.bg,.slice aa an ac,.slice (some ⟨kg,ko,none⟩) kn kc,.slice pa pn pc,.bool r.en,.slice ra rn rc,.int .i64 r.cu,.slice (some ⟨ig,io,none⟩) im ic] 79)=W6:=⟨_,rfl⟩
    have hb6:Below wo.heap.size wo W6:=by rw [←hW6];exact (Below.refl _ wo).alloc (Nat.le_refl _) _
    have hk6:W6.heap[wo.heap.size]? = some (.cells #[.bool r.bg,.slice aa an ac,.slice (some ⟨kg,ko,none⟩) kn kc,.slice pa pn pc,.bool r.en,.slice ra rn rc,.int .i64 r.cu,.slice (some ⟨ig,io,none⟩) im ic] 79 (0,0)):=by rw [←hW6];exact World.alloc_heap_new _ _
    have hl6:=(Array.getElem?_eq_some_iff.1 hk6).1
    have hmo:w.heap.size+1<wo.heap.size:=by obtain ⟨c,P,hI,_⟩:=HB.out.c2;exact hI.lt
    have HL6:Hid (CoJ w.heap.size W6 (k*1024) (lsB (rs.take k))∧CoJ (w.heap.size+1) W6 (k*1024) (lsG (rs.take k))∧Below w.heap.size w W6∧w.heap.size+1<wo.heap.size∧wo.heap.size<W6.heap.size):=⟨HB.out.c1.grown hb6,HB.out.c2.grown hb6,hbo.trans (hb6.mono hbo.size),hmo,hl6⟩
    have HBK:Hid (∀ W:World,W.heap[wo.heap.size]? = W6.heap[wo.heap.size]? → W.heap[wo.heap.size]? = some (.cells #[.bool r.bg,.slice aa an ac,.slice (some ⟨kg,ko,none⟩) kn kc,.slice pa pn pc,.bool r.en,.slice ra rn rc,.int .i64 r.cu,.slice (some ⟨ig,io,none⟩) im ic] 79 (0,0))):=fun W hW=>hW.trans hk6
    have HS:Hid (lsB (rs.take (k+1))=lsB (rs.take k)++[imgF r]∧lsG (rs.take (k+1))=lsG (rs.take k)++(if freeB r then [keyF r] else [])):=⟨hs1,hs2⟩
    have HW:Hid (WyC w r (.slice aa an ac) (.slice (some ⟨kg,ko,none⟩) kn kc) (.slice pa pn pc) (.slice ra rn rc) (.slice (some ⟨ig,io,none⟩) im ic)∧Ok r∧Rs w ks (keyF r)∧w.cell? ⟨kg,ko,none⟩=some ks∧okS (imgF r)=true∧okS (keyF r)=true):=⟨hwf,hok,hks,hkc,img_ok hok _ (imgF_in hir),List.all_eq_true.1 hok.kS _ (keyF_in hok)⟩
    have x7:W6.cell? ⟨wo.heap.size,7,none⟩=some (.slice (some ⟨ig,io,none⟩) im ic):=by rw [cell_of hk6];rfl
    have y0:=cell_below hic HL6.out.2.2.1 (Nat.le_refl _)
    obtain ⟨s1,s2,s3,rfl⟩:=his.sl
    obtain ⟨k1,k2,k3,rfl⟩:=hks.sl
    have HA:Hid (Calls Tryz.prog 33 #[.map (some w.heap.size),.slice s1 s2 s3,.int .i64 1] W6 fun e w'=>e = .returned (.tuple #[])∧CoI w.heap.size W6 w' (k*1024+1024) (lsB (rs.take (k+1)))∧Tn w.heap.size W6 w'):=by
     rw [HS.out.1]
     exact CoI.add (W1:=W6) HL6.out.1 HW.out.2.2.2.2.1 (by omega) (fun W' hT=>his.below (HL6.out.2.2.1.trans hT.1) (Nat.le_refl _))
    obtain ⟨F,hF⟩:∃ F,freeB r=F:=⟨_,rfl⟩
    have HF:Hid (freeB r=F):=hF
    clear q hc hwc hwcc hwf hok hr hre hbo hb6 hk6 hl6 hmo hs1 hs2 hir hi0 hk0 hkn him hic his hkc hks HB hF hkl
    go_wp2_with fail
    refine HA.out.mono ?_
    rintro e w2 ⟨rfl,hC2,hT2⟩
    have HL2:Hid (CoJ w.heap.size w2 (k*1024+1024) (lsB (rs.take (k+1)))∧CoJ (w.heap.size+1) w2 (k*1024) (lsG (rs.take k))∧Below w.heap.size w w2):=⟨hC2.j,HL6.out.2.1.other hT2 (by omega),HL6.out.2.2.1.trans hT2.1⟩
    have hbk2:=HBK.out w2 (hT2.2 _ (by have:=HL6.out.2.2.2.1;omega) HL6.out.2.2.2.2)
    have HBK2:Hid (w2.heap[wo.heap.size]? = some (.cells #[.bool r.bg,.slice aa an ac,.slice (some ⟨kg,ko,none⟩) kn kc,.slice pa pn pc,.bool r.en,.slice ra rn rc,.int .i64 r.cu,.slice (some ⟨ig,io,none⟩) im ic] 79 (0,0))):=hbk2
    have z0:w2.cell? ⟨wo.heap.size,0,none⟩=some (.bool r.bg):=by rw [cell_of hbk2];rfl
    have z1:w2.cell? ⟨wo.heap.size,1,none⟩=some (.slice aa an ac):=by rw [cell_of hbk2];rfl
    have z2:w2.cell? ⟨wo.heap.size,2,none⟩=some (.slice (some ⟨kg,ko,none⟩) kn kc):=by rw [cell_of hbk2];rfl
    have z3:w2.cell? ⟨wo.heap.size,3,none⟩=some (.slice pa pn pc):=by rw [cell_of hbk2];rfl
    have z4:w2.cell? ⟨wo.heap.size,4,none⟩=some (.bool r.en):=by rw [cell_of hbk2];rfl
    have z5:w2.cell? ⟨wo.heap.size,5,none⟩=some (.slice ra rn rc):=by rw [cell_of hbk2];rfl
    have z6:w2.cell? ⟨wo.heap.size,6,none⟩=some (.int .i64 r.cu):=by rw [cell_of hbk2];rfl
    have z7:w2.cell? ⟨wo.heap.size,7,none⟩=some (.slice (some ⟨ig,io,none⟩) im ic):=by rw [cell_of hbk2];rfl
    have HFR:Hid (Calls Tryz.prog 35 #[wyVal r (.slice aa an ac) (.slice (some ⟨kg,ko,none⟩) kn kc) (.slice pa pn pc) (.slice ra rn rc) (.slice (some ⟨ig,io,none⟩) im ic)] w2 fun e w'=>e = .returned (.bool F)∧Below w2.heap.size w2 w'):=by
     have:=free_any r _ _ _ _ _ w2 (HW.out.1.below HL2.out.2.2 (Nat.le_refl _)) HW.out.2.1
     rw [HF.out] at this
     exact this
    unfold wyVal at HFR
    clear hC2 hT2 hbk2 HA x7 y0 HL6 HBK q0 q1 q2 q3 q4 q5 q6 q7 hW6
    go_wp2_with fail
    refine HFR.out.mono ?_
    rintro e w3 ⟨rfl,hb3⟩
    clear HFR
    have hsz:wo.heap.size<w2.heap.size:=blk_lt HBK2.out
    have HL3:Hid (CoJ w.heap.size w3 (k*1024+1024) (lsB (rs.take (k+1)))∧CoJ (w.heap.size+1) w3 (k*1024) (lsG (rs.take k))∧Below w.heap.size w w3):=⟨HL2.out.1.grown hb3,HL2.out.2.1.grown hb3,HL2.out.2.2.trans (hb3.mono HL2.out.2.2.size)⟩
    have hbk3:w3.heap[wo.heap.size]? = some (.cells #[.bool r.bg,.slice aa an ac,.slice (some ⟨kg,ko,none⟩) kn kc,.slice pa pn pc,.bool r.en,.slice ra rn rc,.int .i64 r.cu,.slice (some ⟨ig,io,none⟩) im ic] 79 (0,0)):=(hb3.block _ hsz).trans HBK2.out
    have z2':w3.cell? ⟨wo.heap.size,2,none⟩=some (.slice (some ⟨kg,ko,none⟩) kn kc):=by rw [cell_of hbk3];rfl
    have y2:=cell_below HW.out.2.2.2.1 HL3.out.2.2 (Nat.le_refl _)
    clear hb3 hsz hbk3 HL2 HBK2 z0 z1 z2 z3 z4 z5 z6 z7
    cases F with
    | true=>
     have HA2:Hid (Calls Tryz.prog 33 #[.map (some (w.heap.size+1)),.slice k1 k2 k3,.int .i64 1] w3 fun e w'=>e = .returned (.tuple #[])∧CoI (w.heap.size+1) w3 w' (k*1024+1024) (lsG (rs.take (k+1)))∧Tn (w.heap.size+1) w3 w'):=by
      rw [HS.out.2,if_pos HF.out]
      exact CoI.add (W1:=w3) HL3.out.2.1 HW.out.2.2.2.2.2 (by omega) (fun W' hT=>HW.out.2.2.1.below (HL3.out.2.2.trans (hT.1.mono (by omega))) (Nat.le_refl _))
     go_wp2_with fail
     refine HA2.out.mono ?_
     rintro e w4 ⟨rfl,hC4,hT4⟩
     have HN:Hid (LoI w.heap.size w w4 rs (k+1)):=⟨by have:=HL3.out.1.other hT4 (by omega);rw [Nat.add_mul,Nat.one_mul];exact this,by rw [Nat.add_mul,Nat.one_mul];exact hC4.j,HL3.out.2.2.trans (hT4.1.mono (by omega))⟩
     clear hC4 hT4 HA2 z2' y2 HL3
     go_wp2
     exact ⟨⟨k+1,by go_num,by omega,HN⟩,by simp [intOf];omega⟩
    | false=>
     have HN:Hid (LoI w.heap.size w w3 rs (k+1)):=⟨by have:=HL3.out.1;rw [Nat.add_mul,Nat.one_mul];exact this,by
      have:=HL3.out.2.1
      rw [HS.out.2,if_neg (by rw [HF.out];simp),List.append_nil,Nat.add_mul,Nat.one_mul]
      exact CoI.mono this (by omega),HL3.out.2.2⟩
     clear z2' y2 HL3
     go_wp2
     exact ⟨⟨k+1,by go_num,by omega,HN⟩,by simp [intOf];omega⟩
  · have HF:Hid (LoI w.heap.size w wo rs n):=by
     have:=HB.out
     rw [show k=n by omega] at this
     exact this
    have hT1:rs.take n=rs:=List.take_of_length_le (by rw [H.out.1];exact Nat.le_refl _)
    have H1:Hid (Calls Tryz.prog 34 #[.map (some w.heap.size)] wo fun e w'=>∃ v s,e = .returned v∧OwnR w' wo.heap.size v s∧Up s∧(∀ u,inL s u=true↔∃ l∈lsB rs,inL l u=true)∧Below wo.heap.size wo w'):=by
     have h1:=HF.out.c1
     rw [hT1] at h1
     exact CoI.units h1 (by omega) (lsB_ok H.out.2.1 H.out.2.2.1)
    have H2:Hid (∀ W,Below wo.heap.size wo W→Calls Tryz.prog 34 #[.map (some (w.heap.size+1))] W fun e w'=>∃ v s,e = .returned v∧OwnR w' W.heap.size v s∧Up s∧(∀ u,inL s u=true↔∃ l∈lsG rs,inL l u=true)∧Below W.heap.size W w'):=fun W hb=>by
     have h1:=HF.out.c2.grown hb
     rw [hT1] at h1
     exact CoI.units h1 (by omega) (lsG_ok H.out.2.1)
    clear HB hT1
    go_wp2_with fail
    refine H1.out.mono ?_
    rintro e w3 ⟨v3,s3,rfl,hO3,hU3,hu3,hB3⟩
    obtain ⟨va,vc,rfl,_⟩:=hO3.rs
    have H3:Hid (OwnR w3 wo.heap.size (.slice va s3.length vc) s3∧Up s3∧(∀ u,inL s3 u=true↔∃ l∈lsB rs,inL l u=true)∧Below wo.heap.size wo w3):=⟨hO3,hU3,hu3,hB3⟩
    obtain ⟨n3,hn3⟩:∃ n3,s3.length=n3:=⟨_,rfl⟩
    rw [hn3] at H3 ⊢
    have HN3:Hid (s3.length=n3):=hn3
    clear hO3 hU3 hu3 hB3 H1 hn3
    go_wp2_with fail
    refine (H2.out w3 H3.out.2.2.2).mono ?_
    rintro e w4 ⟨v4,s4,rfl,hO4,hU4,hu4,hB4⟩
    obtain ⟨xa,xc,rfl,_⟩:=hO4.rs
    have HL:Hid (Calls Tryz.prog 22 #[.slice va n3 vc,.slice xa s4.length xc] w4 (LesQ w4 s3 s4)):=by
     have hb1:∀ {rs':List (List (Int × Int))} {s:List (Int × Int)},(∀ l∈rs',okS l=true)→Up s→(∀ u,inL s u=true↔∃ l∈rs',inL l u=true)→(∀ u,inL s u=true→0≤u∧u≤1114367):=fun hk hU hu u h=>by
      obtain ⟨l,hl,hx⟩:=(hu u).1 h
      have hg:=((validB_iff l).1 (okS_valid (hk l hl))).2
      obtain ⟨x,hx,h1⟩:=List.any_eq_true.1 hx
      unfold inR at h1
      simp at h1
      have h2:=(hg.1 x hx).2
      omega
     have hbd:∀ {s:List (Int × Int)},Up s→(∀ u,inL s u=true→0≤u∧u≤1114367)→∀ x∈s,Bdr x:=fun {s} hU hu x hx=>by
      obtain ⟨j,hj,rfl⟩:=List.mem_iff_getElem.1 hx
      have h1:=up_at hU hj
      rw [rg_lt hj] at h1
      have i1:=hu s[j].1 (List.any_eq_true.2 ⟨_,List.getElem_mem hj,by unfold inR;simp;omega⟩)
      have i2:=hu s[j].2 (List.any_eq_true.2 ⟨_,List.getElem_mem hj,by unfold inR;simp;omega⟩)
      unfold Bdr
      omega
     have u3:=hb1 (lsB_ok H.out.2.1 H.out.2.2.1) H3.out.2.1 H3.out.2.2.1
     have u4:=hb1 (lsG_ok H.out.2.1) hU4 hu4
     have hr3:=H3.out.1.rs
     exact less_any w4 _ _ s3 s4 (hr3.below hB4 (Nat.le_refl _)) hO4.rs (up_len H3.out.2.1 u3) (up_len hU4 u4) (hbd H3.out.2.1 u3) (hbd hU4 u4) H3.out.2.1 hU4
    have H4:Hid ((∀ u,inL s4 u=true↔∃ l∈lsG rs,inL l u=true)∧Below w3.heap.size w3 w4):=⟨hu4,hB4⟩
    obtain ⟨n4,hn4⟩:∃ n4,s4.length=n4:=⟨_,rfl⟩
    rw [hn4] at HL ⊢
    clear hO4 hU4 hu4 hB4 H2 hn4
    go_wp2_with fail
    refine HL.out.mono ?_
    rintro e w5 ⟨v5,s5,rfl,hO5,hU5,hu5,hB5⟩
    obtain ⟨ya,yc,rfl,_⟩:=hO5.rs
    have hbw:Below w.heap.size w w4:=by
     have h1:=HF.out.bel
     have h2:=h1.trans (H3.out.2.2.2.mono h1.size)
     exact h2.trans (H4.out.2.mono h2.size)
    have HQ:Hid (LosQ w rs (.returned (.slice ya s5.length yc)) w5):=⟨_,s5,rfl,hO5.le hbw.size,hU5,fun u=>by
     rw [hu5,H3.out.2.2.1,←Bool.not_eq_true,H4.out.1],hbw.trans (hB5.mono hbw.size)⟩
    clear hO5 hU5 hu5 hB5 HL hbw
    go_wp2
    go_ret
    exact HQ.out
end Go.Proofs
