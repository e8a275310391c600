/-
  back 38, walked.
-/
import Derived.Test.YtcfcjljapamcoabGreatDoorZ4r
namespace Go.Proofs
open Go.RowKit Go.Shelf
set_option maxRecDepth 100000
attribute [local go_sem] Oper.semAt_some
theorem telB_at {r:Rl} {n k:Nat} (h:telB r n=true) (hk:k<n) {S:List (Int × Int)} (hS:r.key[k]? = some S):plcB r S k=true:=by
 unfold telB at h
 have:=List.all_eq_true.1 h k (List.mem_range.2 hk)
 rw [hS] at this
 exact this
theorem rest_old (r:Rl) (av kv pv rv iv:Value) (w0 W:World) (hT:Tab w0) (h:WyC w0 r av kv pv rv iv) (hb:Below w0.heap.size w0 W) (ho:Ok r) (ht:telB r r.key.length=true) (k:Nat) (hk:k<r.key.length) :
 Calls Tryz.prog 61 #[wyVal r av kv pv rv iv,.int .i64 k] W fun e w'=>∃ y:PV,y.c=restP r (r.key.getD k []) k∧e = .returned (.agg #[.int .i64 y.c.k,.int .i64 y.c.u,.int .i64 y.c.y,y.tv])∧Rs w0 y.tv y.c.tl∧Below W.heap.size W w':=by
 have hS:r.key[k]? = some (r.key.getD k []):=by rw [List.getD_eq_getElem?_getD,List.getElem?_eq_getElem hk];rfl
 refine (restores_any r av kv pv rv iv k (r.key.getD k []) W (fun j v hv=>cell_below (hT j v hv) hb (Nat.le_refl _)) (h.below hb (Nat.le_refl _)) ho hS (telB_at ht hk hS)).mono ?_
 rintro e w' ⟨tv,rfl,h1,h2⟩
 refine ⟨⟨restP r (r.key.getD k []) k,tv⟩,rfl,rfl,?_,h2⟩
 show Rs w0 tv (restP r (r.key.getD k []) k).tl
 rcases h1 with ⟨rfl,h1⟩ | ⟨h1,g,o,n,cc,e,hc⟩
 · rw [h1]
   exact ⟨none,0,rfl,Nat.le_refl _,.inl rfl⟩
 · rw [h1]
   obtain ⟨a,c,e2,_,h3⟩:=h.rr.k
   obtain ⟨g2,o2,e3,hr⟩:=h3.resolve_left (by intro e;rw [e] at hk;simp at hk)
   obtain ⟨sv,hs1,hs2⟩:=hr k hk
   rw [e2,e3] at e
   injection e with e4 e5 e6
   injection e4 with e7
   injection e7 with e8 e9
   subst e8 e9
   have:=(cell_below hs1 hb (Nat.le_refl _)).symm.trans hc
   injection this with this
   subst this
   rw [List.getD_eq_getElem?_getD,List.getElem?_eq_getElem hk]
   exact hs2
set_option maxHeartbeats 8000000 in
theorem back_any (r:Rl) (av kv pv rv iv:Value) (w0 w:World) (hT:Tab w0) (h:WyC w0 r av kv pv rv iv) (hb0:Below w0.heap.size w0 w) (ho:Ok r) (ht:telB r r.key.length=true) :
 Calls Tryz.prog 41 #[wyVal r av kv pv rv iv] w (BackQ w0 w r av pv iv):=by
 have HC0:Hid (∀ W k,Below w0.heap.size w0 W→k<r.key.length→Calls Tryz.prog 61 #[wyVal r av kv pv rv iv,.int .i64 k] W fun e w'=>∃ y:PV,y.c=restP r (r.key.getD k []) k∧e = .returned (.agg #[.int .i64 y.c.k,.int .i64 y.c.u,.int .i64 y.c.y,y.tv])∧Rs w0 y.tv y.c.tl∧Below W.heap.size W w'):=fun W k hb hk=>rest_old r av kv pv rv iv w0 W hT h hb ho ht k hk
 obtain ⟨aa,an,ac,rfl⟩:=h.rr.a.sl
 obtain ⟨ka,kc,rfl,hkc,hkr⟩:=h.rr.k
 obtain ⟨pa,pn,pc,rfl⟩:=h.rr.p.sl
 obtain ⟨ra,rn,rc,rfl⟩:=h.rr.r.sl
 obtain ⟨ia,im,ic,rfl⟩:=h.im.sl
 obtain ⟨n,hn⟩:∃ n,r.key.length=n:=⟨_,rfl⟩
 unfold wyVal at HC0 ⊢
 have hn8:n≤8:=by have:=ho.k8;omega
 unfold BackQ
 rw [hn] at HC0 ⊢
 clear ht hkr hkc h
 obtain ⟨W3,hW3⟩:∃ W3,((w.alloc (.cells #[.bool r.bg,.slice aa an ac,.slice ka n kc,.slice pa pn pc,.bool r.en,.slice ra rn rc,.int .i64 r.cu,.slice ia im ic] 79)).alloc (.cells #[.bool false,.slice none 0 0,.slice none 0 0,.slice none 0 0,.bool false,.slice none 0 0,.int .i64 0] 61)).alloc (.cells #[.bool r.bg,.slice aa an ac,.slice ia im ic,.slice pa pn pc,.bool r.en,.slice none 0 0,.int .i64 n] 61)=W3:=⟨_,rfl⟩
 have g1:Grown w (w.alloc (.cells #[.bool r.bg,.slice aa an ac,.slice ka n kc,.slice pa pn pc,.bool r.en,.slice ra rn rc,.int .i64 r.cu,.slice ia im ic] 79)):=(Grown.refl w).alloc _
 have g2:=g1.alloc (.cells #[.bool false,.slice none 0 0,.slice none 0 0,.slice none 0 0,.bool false,.slice none 0 0,.int .i64 0] 61)
 have g3:=g2.alloc (.cells #[.bool r.bg,.slice aa an ac,.slice ia im ic,.slice pa pn pc,.bool r.en,.slice none 0 0,.int .i64 n] 61)
 rw [hW3] at g3
 have hk1:W3.heap[w.heap.size]? = some (.cells #[.bool r.bg,.slice aa an ac,.slice ka n kc,.slice pa pn pc,.bool r.en,.slice ra rn rc,.int .i64 r.cu,.slice ia im ic] 79 (0,0)):=by
  rw [←hW3]
  exact (Below.heap_alloc _ _ _ (by rw [World.size_alloc,World.size_alloc];omega)).trans ((Below.heap_alloc _ _ _ (by rw [World.size_alloc];omega)).trans (World.alloc_heap_new _ _))
 have hk2:W3.heap[w.heap.size+1]? = some (.cells #[.bool false,.slice none 0 0,.slice none 0 0,.slice none 0 0,.bool false,.slice none 0 0,.int .i64 0] 61 (0,0)):=by
  rw [←hW3]
  refine (Below.heap_alloc _ _ _ (by rw [World.size_alloc,World.size_alloc];omega)).trans ?_
  have:=World.alloc_heap_new (w.alloc (.cells #[.bool r.bg,.slice aa an ac,.slice ka n kc,.slice pa pn pc,.bool r.en,.slice ra rn rc,.int .i64 r.cu,.slice ia im ic] 79)) (.cells #[.bool false,.slice none 0 0,.slice none 0 0,.slice none 0 0,.bool false,.slice none 0 0,.int .i64 0] 61)
  simpa using this
 have hk3:W3.heap[w.heap.size+1+1]? = some (.cells #[.bool r.bg,.slice aa an ac,.slice ia im ic,.slice pa pn pc,.bool r.en,.slice none 0 0,.int .i64 n] 61 (0,0)):=by
  rw [←hW3]
  have:=World.alloc_heap_new ((w.alloc (.cells #[.bool r.bg,.slice aa an ac,.slice ka n kc,.slice pa pn pc,.bool r.en,.slice ra rn rc,.int .i64 r.cu,.slice ia im ic] 79)).alloc (.cells #[.bool false,.slice none 0 0,.slice none 0 0,.slice none 0 0,.bool false,.slice none 0 0,.int .i64 0] 61)) (.cells #[.bool r.bg,.slice aa an ac,.slice ia im ic,.slice pa pn pc,.bool r.en,.slice none 0 0,.int .i64 n] 61)
  simpa using this
 have hb03:Below w0.heap.size w0 W3:=hb0.trans (g3.below.mono hb0.size)
 have HK:Hid (Below w.heap.size w W3∧(∀ W,Below (w.heap.size+1+1) W3 W→W.heap[w.heap.size]? = some (.cells #[.bool r.bg,.slice aa an ac,.slice ka n kc,.slice pa pn pc,.bool r.en,.slice ra rn rc,.int .i64 r.cu,.slice ia im ic] 79 (0,0))∧W.heap[w.heap.size+1]? = some (.cells #[.bool false,.slice none 0 0,.slice none 0 0,.slice none 0 0,.bool false,.slice none 0 0,.int .i64 0] 61 (0,0)))∧w0.heap.size≤w.heap.size):=⟨g3.below,fun W hW=>⟨(hW.block _ (by omega)).trans hk1,(hW.block _ (by omega)).trans hk2⟩,hb0.size⟩
 have H0:Hid (∃ xv ps,BkI w0 W3 W3 (w.heap.size+1+1) r (.slice aa an ac) (.slice ia im ic) (.slice pa pn pc) xv n ps∧ps.map PV.c=resT r 0):=⟨.slice none 0 0,[],⟨⟨World.ownsRow_nil _ _ _ _,by simp,hb03,by have:=hb0.size;omega⟩,hk3,Below.refl _ _⟩,rfl⟩
 have x2:W3.cell? ⟨w.heap.size,2,none⟩=some (.slice ka n kc):=by rw [cell_of hk1];rfl
 clear g1 g2 g3 hk1 hk2 hk3 hb03 hb0 ho hT hn
 go_enter Tryz.func41,Tryz.ntmps41
 go_wp2
 clear hW3 x2
 go_loopw [28] (fun vi wr=>∃ k:Nat,vi = .int .i64 k∧k≤n∧Hid (∃ xv ps,BkI w0 W3 wr (w.heap.size+1+1) r (.slice aa an ac) (.slice ia im ic) (.slice pa pn pc) xv n ps∧ps.map PV.c=resT r k)) (fun vi _=>n - (intOf vi).toNat)
 case atStart=>exact ⟨0,rfl,by omega,H0.out⟩
 case round=>
  obtain ⟨k,rfl,hk,HB⟩:=hrel
  clear H0
  by_cases hlt:k<n
  · have hlt':(k:Int)<(n:Int):=by omega
    have hpos:(0:Int)≤(k:Int):=by omega
    obtain ⟨xv,ps,hI,hps⟩:=HB.out
    obtain ⟨va,vc,rfl⟩:=hI.own.form
    have hpl:ps.length=k:=by
     have:=congrArg List.length hps
     simpa [resT] using this
    have hbx:=(HK.out.2.1 wr hI.bel).1
    have x0:wr.cell? ⟨w.heap.size,0,none⟩=some (.bool r.bg):=by rw [cell_of hbx];rfl
    have x1:wr.cell? ⟨w.heap.size,1,none⟩=some (.slice aa an ac):=by rw [cell_of hbx];rfl
    have x2:wr.cell? ⟨w.heap.size,2,none⟩=some (.slice ka n kc):=by rw [cell_of hbx];rfl
    have x3:wr.cell? ⟨w.heap.size,3,none⟩=some (.slice pa pn pc):=by rw [cell_of hbx];rfl
    have x4:wr.cell? ⟨w.heap.size,4,none⟩=some (.bool r.en):=by rw [cell_of hbx];rfl
    have x5:wr.cell? ⟨w.heap.size,5,none⟩=some (.slice ra rn rc):=by rw [cell_of hbx];rfl
    have x6:wr.cell? ⟨w.heap.size,6,none⟩=some (.int .i64 r.cu):=by rw [cell_of hbx];rfl
    have x7:wr.cell? ⟨w.heap.size,7,none⟩=some (.slice ia im ic):=by rw [cell_of hbx];rfl
    have y5:wr.cell? ⟨w.heap.size+1+1,5,none⟩=some (.slice va ps.length vc):=by rw [cell_of hI.blk];rfl
    have HP:Hid (ps.length=k∧ps.map PV.c=resT r k):=⟨hpl,hps⟩
    have hp1:ps.length+1≤1000000:=by omega
    have HI:Hid (BkI w0 W3 wr (w.heap.size+1+1) r (.slice aa an ac) (.slice ia im ic) (.slice pa pn pc) (.slice va ps.length vc) n ps):=hI
    have HC:Hid (∀ W,Grown wr W→Calls Tryz.prog 61 #[.agg #[.bool r.bg,.slice aa an ac,.slice ka n kc,.slice pa pn pc,.bool r.en,.slice ra rn rc,.int .i64 r.cu,.slice ia im ic],.int .i64 k] W fun e w'=>∃ y:PV,y.c=restP r (r.key.getD k []) k∧e = .returned (.agg #[.int .i64 y.c.k,.int .i64 y.c.u,.int .i64 y.c.y,y.tv])∧Rs w0 y.tv y.c.tl∧BkI w0 W3 w' (w.heap.size+1+1) r (.slice aa an ac) (.slice ia im ic) (.slice pa pn pc) (.slice va ps.length vc) n ps):=fun W hg=>by
     refine (HC0.out W k (hI.own.bel.trans (hg.below.mono hI.own.bel.size)) hlt).mono ?_
     rintro e w' ⟨y,h1,h2,h3,h4⟩
     exact ⟨y,h1,h2,h3,hI.below (hg.below.trans (h4.mono hg.size))⟩
    clear hI hps hpl hbx HB
    go_upto_region 5 with fail
    go_region_law (first
     | (go_simp;go_at_call 61;go_must (refine (HC.out _ ?_).mono ?_;(repeat (first | exact Grown.refl _ | refine Grown.drew ?_ | refine Grown.drewN ?_ _));rintro e w7 ⟨y,hy1,rfl,hy2,hi7⟩;have H7:=hidT (And.intro hy1 (And.intro hy2 hi7));have b7:=(HK.out.2.1 w7 hi7.bel).1;have z0:w7.cell? ⟨w.heap.size,0,none⟩=some (.bool r.bg):=(by rw [cell_of b7];rfl);have z1:w7.cell? ⟨w.heap.size,1,none⟩=some (.slice aa an ac):=(by rw [cell_of b7];rfl);have z2:w7.cell? ⟨w.heap.size,2,none⟩=some (.slice ka n kc):=(by rw [cell_of b7];rfl);have z3:w7.cell? ⟨w.heap.size,3,none⟩=some (.slice pa pn pc):=(by rw [cell_of b7];rfl);have z4:w7.cell? ⟨w.heap.size,4,none⟩=some (.bool r.en):=(by rw [cell_of b7];rfl);have z5:w7.cell? ⟨w.heap.size,5,none⟩=some (.slice ra rn rc):=(by rw [cell_of b7];rfl);have z6:w7.cell? ⟨w.heap.size,6,none⟩=some (.int .i64 r.cu):=(by rw [cell_of b7];rfl);have z7:w7.cell? ⟨w.heap.size,7,none⟩=some (.slice ia im ic):=(by rw [cell_of b7];rfl);have e7:w7.cell? ⟨w.heap.size+1+1,5,none⟩=some (.slice va ps.length vc):=(by rw [cell_of hi7.blk];rfl);have e8:=cell_up e7 (.cells #[.int .i64 y.c.k,.int .i64 y.c.u,.int .i64 y.c.y,y.tv] 58);clear hy1 hy2 hi7 b7))
     | (refine step_P rfl (.tmp 32) (.tmp 36) rfl w0 (w.heap.size+1+1+1) _ ps rfl (H7.out.2.2.own.below ((Below.refl _ w7).alloc (Nat.le_refl _) _) (Nat.le_refl _)) w7.heap.size 1 y rfl (World.alloc_heap_new _ _) H7.out.2.1 hp1 (by have:=blk_lt H7.out.2.2.blk;simp;omega) ?_;intro A8 c8 w8 hO8 hg8;have hmo:=(H7.out.2.2.below ((Below.refl _ w7).alloc (Nat.le_refl _) _)).more hg8 hO8 (by have:=HK.out.2.2;omega);have e9:=hmo.1;have f9:=hmo.2.1;have H9:=hidT hmo.2.2;clear hmo hO8 hg8))
    all_goals
     have HF:Hid (∃ xv ps',BkI w0 W3 (w8.setCell ⟨w.heap.size+1+1,5,none⟩ (.slice A8 (ps.length+1) c8)) (w.heap.size+1+1) r (.slice aa an ac) (.slice ia im ic) (.slice pa pn pc) xv n ps'∧ps'.map PV.c=resT r (k+1)):=⟨_,_,H9.out,by rw [List.map_append,HP.out.2,resT_succ,←H7.out.1];rfl⟩
     clear H9 HI HC
     go_wp2
     exact ⟨⟨k+1,by go_num,by omega,HF⟩,by simp [intOf];omega⟩
  · obtain rfl:k=n:=by omega
    obtain ⟨xv,ps,hI,hps⟩:=HB.out
    obtain ⟨va,vc,rfl⟩:=hI.own.form
    have y0:wr.cell? ⟨w.heap.size+1+1,0,none⟩=some (.bool r.bg):=by rw [cell_of hI.blk];rfl
    have y1:wr.cell? ⟨w.heap.size+1+1,1,none⟩=some (.slice aa an ac):=by rw [cell_of hI.blk];rfl
    have y2:wr.cell? ⟨w.heap.size+1+1,2,none⟩=some (.slice ia im ic):=by rw [cell_of hI.blk];rfl
    have y3:wr.cell? ⟨w.heap.size+1+1,3,none⟩=some (.slice pa pn pc):=by rw [cell_of hI.blk];rfl
    have y4:wr.cell? ⟨w.heap.size+1+1,4,none⟩=some (.bool r.en):=by rw [cell_of hI.blk];rfl
    have y5:wr.cell? ⟨w.heap.size+1+1,5,none⟩=some (.slice va ps.length vc):=by rw [cell_of hI.blk];rfl
    have y6:wr.cell? ⟨w.heap.size+1+1,6,none⟩=some (.int .i64 k):=by rw [cell_of hI.blk];rfl
    have hb2:=(HK.out.2.1 wr hI.bel).2
    have z0:wr.cell? ⟨w.heap.size+1,0,none⟩=some (.bool false):=by rw [cell_of hb2];rfl
    have z1:wr.cell? ⟨w.heap.size+1,1,none⟩=some (.slice none 0 0):=by rw [cell_of hb2];rfl
    have z2:wr.cell? ⟨w.heap.size+1,2,none⟩=some (.slice none 0 0):=by rw [cell_of hb2];rfl
    have z3:wr.cell? ⟨w.heap.size+1,3,none⟩=some (.slice none 0 0):=by rw [cell_of hb2];rfl
    have z4:wr.cell? ⟨w.heap.size+1,4,none⟩=some (.bool false):=by rw [cell_of hb2];rfl
    have z5:wr.cell? ⟨w.heap.size+1,5,none⟩=some (.slice none 0 0):=by rw [cell_of hb2];rfl
    have z6:wr.cell? ⟨w.heap.size+1,6,none⟩=some (.int .i64 0):=by rw [cell_of hb2];rfl
    have f0:wr.frozen? ⟨w.heap.size+1,0,none⟩=false:=free_of hb2
    have f1:wr.frozen? ⟨w.heap.size+1,1,none⟩=false:=free_of hb2
    have f2:wr.frozen? ⟨w.heap.size+1,2,none⟩=false:=free_of hb2
    have f3:wr.frozen? ⟨w.heap.size+1,3,none⟩=false:=free_of hb2
    have f4:wr.frozen? ⟨w.heap.size+1,4,none⟩=false:=free_of hb2
    have f5:wr.frozen? ⟨w.heap.size+1,5,none⟩=false:=free_of hb2
    have f6:wr.frozen? ⟨w.heap.size+1,6,none⟩=false:=free_of hb2
    obtain ⟨m,hm⟩:∃ m,ps.length=m:=⟨_,rfl⟩
    rw [hm] at y5
    have HBB:=hidT (set_seven (a' := .bool r.bg) (b' := .slice aa an ac) (c' := .slice ia im ic) (d' := .slice pa pn pc) (e' := .bool r.en) (f' := .slice va m vc) (g' := .int .i64 k) hb2)
    have HFF:=hidT (set_seven_fr wr (w.heap.size+1) (.bool r.bg) (.slice aa an ac) (.slice ia im ic) (.slice pa pn pc) (.bool r.en) (.slice va m vc) (.int .i64 k))
    have HR:Hid (Rob (fun j=>w0.heap.size≤j∧j<w.heap.size+1+1) wr (fun W=>PR W (.slice va m vc) (resT r k))∧Below w.heap.size w wr):=by
     have h1:=hI.own.rob (n:=w.heap.size+1+1) (by omega)
     rw [hps,hm] at h1
     exact ⟨h1,HK.out.1.trans (hI.bel.mono (by omega))⟩
    clear hI hps hb2 HB hm
    go_wp2
    refine ret_rl38 rfl HBB.out ?_
    refine ⟨va,m,vc,rfl,(HR.out.1.fr HFF.out fun j _ e => ?_).less fun j _ e => ?_,HR.out.2.trans (HFF.out.below (fun j e=>by omega) HR.out.2.size)⟩
    · have:=HK.out.2.2
      exact ⟨by omega,by omega⟩
    · exact ⟨e.1,by omega⟩
end Go.Proofs
