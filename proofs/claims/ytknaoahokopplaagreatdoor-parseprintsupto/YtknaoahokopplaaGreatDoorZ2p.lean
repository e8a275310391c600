/-
  Lines lent.
-/
import Derived.Test.YtknaoahokopplaaGreatDoorZ1p
import Derived.Test.YtknaoahokopplaaGreatDoorMgtp
namespace Go.Proofs
open Go.RowKit Go.Shelf
set_option maxRecDepth 100000
attribute [local go_sem] Oper.semAt_some
theorem ml1_len (m:ML):(ml1 m).length=10:=rfl
abbrev set10at (W:World) (g o:Nat) (m:ML):World:=(((((((((W.setCell ⟨g,o,none⟩ (.int .i64 m.k)).setCell ⟨g,o+1,none⟩ (.int .i64 m.a)).setCell ⟨g,o+2,none⟩ (.string m.t)).setCell ⟨g,o+3,none⟩ (.bool m.bg)).setCell ⟨g,o+4,none⟩ (.bool m.en)).setCell ⟨g,o+5,none⟩ (.slice m.s1.A m.s1.n m.s1.c)).setCell ⟨g,o+6,none⟩ (.slice m.s2.A m.s2.n m.s2.c)).setCell ⟨g,o+7,none⟩ (.slice m.s3.A m.s3.n m.s3.c)).setCell ⟨g,o+8,none⟩ (.slice m.s4.A m.s4.n m.s4.c)).setCell ⟨g,o+9,none⟩ (.int .i64 m.cur)
theorem set10_arr {cur:Array Value} {ms:List ML} {m:ML} (h3:RdG ml1 10 cur ms) (hsz:ms.length*10+10≤cur.size):RdG ml1 10 ((((((((((cur.setIfInBounds (ms.length*10) (.int .i64 m.k)).setIfInBounds (ms.length*10+1) (.int .i64 m.a)).setIfInBounds (ms.length*10+2) (.string m.t)).setIfInBounds (ms.length*10+3) (.bool m.bg)).setIfInBounds (ms.length*10+4) (.bool m.en)).setIfInBounds (ms.length*10+5) (.slice m.s1.A m.s1.n m.s1.c)).setIfInBounds (ms.length*10+6) (.slice m.s2.A m.s2.n m.s2.c)).setIfInBounds (ms.length*10+7) (.slice m.s3.A m.s3.n m.s3.c)).setIfInBounds (ms.length*10+8) (.slice m.s4.A m.s4.n m.s4.c)).setIfInBounds (ms.length*10+9) (.int .i64 m.cur)) (ms++[m]):=by
 refine rdG_more ml1_len h3 (fun p hp => ?_) (fun k v hv => ?_)
 · repeat rw [Array.getElem?_setIfInBounds_ne (by omega)]
 · have hk:k<10:=by have:=(List.getElem?_eq_some_iff.1 hv).1;rw [ml1_len] at this;exact this
   have:k=0∨k=1∨k=2∨k=3∨k=4∨k=5∨k=6∨k=7∨k=8∨k=9:=by omega
   rcases this with rfl | rfl | rfl | rfl | rfl | rfl | rfl | rfl | rfl | rfl
   all_goals
    simp only [ml1,List.getElem?_cons_zero,List.getElem?_cons_succ,Option.some.injEq] at hv
    subst hv
    try simp only [Nat.add_zero]
    repeat rw [Array.getElem?_setIfInBounds_ne (by omega)]
    rw [Array.getElem?_setIfInBounds_self_of_lt (by first | omega | (simp;omega))]
theorem BlkG.set10 {W:World} {g N:Nat} {xs:List ML} (h:BlkG ml1 10 44 W g N xs) (m:ML) (hN:xs.length<N):BlkG ml1 10 44 (set10at W g (xs.length*10) m) g N (xs++[m]):=by
 obtain ⟨cur,h1,h2,h3⟩:=h
 have hsz:xs.length*10+10≤cur.size:=by rw [h2];have:(xs.length+1)*10≤N*10:=Nat.mul_le_mul_right _ hN;omega
 exact ⟨_,cells_setS (cells_setS (cells_setS (cells_setS (cells_setS (cells_setS (cells_setS (cells_setS (cells_setS (cells_setS h1))))))))),by simp [h2],set10_arr h3 hsz⟩
theorem set10at_below {W:World} {g o B:Nat} {m:ML} (h:B≤g) {w:World} (hb:Below B w W):Below B w (set10at W g o m):=
 (((((((((hb.setCell (p:=⟨g,o,none⟩) h _).setCell (p:=⟨g,o+1,none⟩) h _).setCell (p:=⟨g,o+2,none⟩) h _).setCell (p:=⟨g,o+3,none⟩) h _).setCell (p:=⟨g,o+4,none⟩) h _).setCell (p:=⟨g,o+5,none⟩) h _).setCell (p:=⟨g,o+6,none⟩) h _).setCell (p:=⟨g,o+7,none⟩) h _).setCell (p:=⟨g,o+8,none⟩) h _).setCell (p:=⟨g,o+9,none⟩) h _
theorem set10at_other {W:World} {g o k:Nat} {m:ML} (h:k≠g):(set10at W g o m).heap[k]? = W.heap[k]? := by
 simp only [set10at,heap_set_other _ h]
theorem BlkG.setL {W:World} {g N:Nat} {xs:List ML} {m m':ML} (j:Nat) (v:Value) (h:BlkG ml1 10 44 W g N (xs++[m])) (hN:xs.length<N) (hj:j<10) (hm:∀ k,(ml1 m')[k]? = if k=j then Option.some v else (ml1 m)[k]?):BlkG ml1 10 44 (W.setCell ⟨g,xs.length*10+j,none⟩ v) g N (xs++[m']):=by
 refine h.put fun cur h2 h3=>rdG_more ml1_len h3.init (fun p hp => ?_) (fun k u hv => ?_)
 · rw [Array.getElem?_setIfInBounds_ne (by omega)]
 · have hsz:xs.length*10+10≤cur.size:=by rw [h2];have:(xs.length+1)*10≤N*10:=Nat.mul_le_mul_right _ hN;omega
   have hl:=h3 xs.length m (by simp)
   rw [hm] at hv
   by_cases hk3:k=j
   · subst hk3
     rw [if_pos rfl] at hv
     cases hv
     rw [Array.getElem?_setIfInBounds_self_of_lt (by omega)]
   · rw [if_neg hk3] at hv
     rw [Array.getElem?_setIfInBounds_ne (by omega)]
     exact hl k u hv
theorem BlkG.readsL {W:World} {g N:Nat} {xs:List ML} (h:BlkG ml1 10 44 W g N xs):ReadsL W g 0 xs:=fun j x hj k v hv=>by
 have:=h.cell hj hv
 rwa [Nat.zero_add]
def SMk (d:Nat) (w:World) (s:SL) (l:List It):Prop:=s.c=s.n+1∧∃ g ms,s.A=some ⟨g,0,none⟩∧RdR w s.A s.n ms∧All2 (RdM d w) ms l∧MkR 4 w g s.n ms
theorem SMk.ck {d:Nat} {w w':World} {s:SL} {l:List It} (k:CK w w') (h:SMk d w s l):SMk d w' s l:=by
 obtain ⟨h1,g,ms,h2,h3,h4,h5⟩:=h
 exact ⟨h1,g,ms,h2,h3.ck k,h4.mono fun _ _ r=>r.ck k,h5.ck k⟩
theorem SMk.rd {d:Nat} {w:World} {s:SL} {l:List It} (h:SMk d w s l):RdI d w s.A s.n l:=by
 obtain ⟨_,g,ms,h2,h3,h4,_⟩:=h
 exact ⟨ms,h3,h4⟩
structure LnK (d:Nat) (w:World) (m:ML) (l:Ln):Prop where
 pl:PlainL m l
 r1:SMk d w m.s1 l.ante
 r2:SMk d w m.s2 l.key
 r3:SMk d w m.s3 l.post
 r4:SMk d w m.s4 l.res
theorem LnK.ck {d:Nat} {w w':World} {m:ML} {l:Ln} (k:CK w w') (h:LnK d w m l):LnK d w' m l:=⟨h.pl,h.r1.ck k,h.r2.ck k,h.r3.ck k,h.r4.ck k⟩
theorem LnK.rd {d:Nat} {w:World} {m:ML} {l:Ln} (h:LnK d w m l):RdLc d w m l:=⟨⟨h.pl,h.r1.rd,h.r2.rd,h.r3.rd,h.r4.rd⟩,by rw [h.r4.1];omega⟩
def SzL (d:Nat) (l:Ln):Prop:=(l.ante.length≤1048576∧l.key.length≤1048576∧l.post.length≤1048576∧l.res.length≤1048576)∧(∀ i∈l.ante,Sz d i)∧(∀ i∈l.key,Sz d i)∧(∀ i∈l.post,Sz d i)∧∀ i∈l.res,Sz d i
abbrev oX (W:World):Nat→Bool:=andB (fun _=>false) W.heap.size
structure CpL (d:Nat) (W:World) (n:Nat) (ls:List Ln) (i:Nat) (wr:World):Prop where
 bl:Below W.heap.size W wr
 it:∃ ms,ms.length=i∧BlkG ml1 10 44 wr W.heap.size (n+1) ms∧All2 (LnK d (vw (oX W) wr)) ms (ls.take i)
theorem info44x:(Tryz.prog.info? 44).map (fun i=>(i.zero,i.size,i.bytes))=some (some (.agg #[.int .i64 0,.int .i64 0,.string ⟨#[]⟩,.bool false,.bool false,.slice none 0 0,.slice none 0 0,.slice none 0 0,.slice none 0 0,.int .i64 0]),10,144):=by kernel_rfl
theorem make_lines (n:Nat) (hn:n≤1048576):∃ Z:Array Value,Z.size=(n+1)*10∧∀ W:World,(Instr.makeSlice 29 (.int .i64 ((n:Int)+1)) (.int .i64 ((n:Int)+1))).run Tryz.prog W = .ok (.slice (some ⟨W.heap.size,0,none⟩) (n+1) (n+1)) (W.alloc (.cells Z 44)):=by
 obtain ⟨i0,hi,hz0,hz1,hz2⟩:=info_parts info44x
 refine ⟨madeCells (Value.agg #[.int .i64 0,.int .i64 0,.string ⟨#[]⟩,.bool false,.bool false,.slice none 0 0,.slice none 0 0,.slice none 0 0,.slice none 0 0,.int .i64 0]).cells ((n+1)*10),by simp [size_madeCells],fun W => ?_⟩
 have h:=run_make (P:=Tryz.prog) W 29 44 i0 _ Tryz.underlying29 hi hz0 .i64 .i64 ((n:Int)+1) ((n:Int)+1) (by omega) (Int.le_refl _) (by rw [hz2];omega) (by omega)
 rw [h,show ((n:Int)+1).toNat=n+1 by omega,hz1]
theorem take_moreL {l:List Ln} {i:Nat} {x:Ln} (h:l[i]? = some x):l.take (i+1)=l.take i++[x]:=by
 rw [List.take_add_one,h]
 rfl
theorem ckO_set {W w2:World} (j:Nat) (v:Value):CK (vw (oX W) w2) (vw (oX W) (w2.setCell ⟨W.heap.size,j,none⟩ v)):=ck_vw fun a u h1 h2=>by
 refine ⟨h1,?_⟩
 have hne:=(andB_no h1).2
 obtain ⟨ag,aj,asp⟩:=a
 simp only at hne
 rw [←h2]
 simp only [World.cell?,heap_set_other _ hne]
theorem ckO_below {W w2 w3:World} (hb:Below w2.heap.size w2 w3):CK (vw (oX W) w2) (vw (oX W) w3):=ck_vw fun _ _ h1 h2=>⟨h1,ck_below hb _ _ h2⟩
def LentQ (d:Nat) (W:World) (n:Nat) (ls:List Ln) (x:Ending) (W':World):Prop:=x = .returned (.slice (some ⟨W.heap.size,0,none⟩) n (n+1))∧Below W.heap.size W W'∧∃ ms,ms.length=n∧BlkG ml1 10 44 W' W.heap.size (n+1) ms∧All2 (LnK d (vw (oX W) W')) ms ls∧W'.cell? ⟨W.heap.size,n*10+1,none⟩=some (.int .i64 (-77))
set_option maxHeartbeats 8000000 in
theorem lent_any (d:Nat) (W:World) (A:Option Addr) (n c:Nat) (ls:List Ln) (hI:RdLs d W A n ls) (hn:n≤1048576) (hs:∀ l∈ls,SzL d l) :
 Calls Tryz.prog 18 #[.slice A n c] W (LentQ d W n ls):=by
 obtain ⟨Z,hZ,hmk⟩:=make_lines n hn
 have hln:=hI.len
 obtain ⟨ms0,hn0,hr,hA⟩:=hI
 have H:Hid (n=ls.length∧n=ms0.length∧(n=0∨∃ g z,A=some ⟨g,z,none⟩∧ReadsL W g z ms0)∧All2 (RdLn d W) ms0 ls∧(∀ l∈ls,SzL d l)):=⟨hln,hn0,hr,hA,hs⟩
 have HB0:Hid (CpL d W n ls 0 (W.alloc (.cells Z 44))):=⟨(Below.refl _ W).alloc (Nat.le_refl _) _,[],rfl,⟨Z,World.alloc_heap_new _ _,hZ,rdG_nil _ _ _⟩,by simp [All2]⟩
 clear hr hA hln hn0 hs hZ
 go_enter Tryz.func18,Tryz.ntmps18
 go_wp2
 go_loopw [4] (fun vi wr=>∃ i:Nat,vi = .int .i64 i∧i≤n∧Hid (CpL d W n ls i wr)) (fun vi _=>n - (intOf vi).toNat)
 case atStart=>exact ⟨0,rfl,by omega,HB0⟩
 case round=>
  obtain ⟨i,rfl,hi,HR⟩:=hrel
  obtain ⟨wo,rfl⟩:∃ wo,wo=wr:=⟨_,rfl⟩
  clear HB0 hmk
  by_cases hin:i<n
  · have e1:decide ((i:Int)<(n:Int))=true:=by simpa using hin
    obtain ⟨m,hm⟩:∃ m,ms0[i]? = some m:=⟨ms0[i]'(by have:=H.out.2.1;omega),List.getElem?_eq_getElem _⟩
    obtain ⟨x,hx⟩:∃ x,ls[i]? = some x:=⟨ls[i]'(by have:=H.out.1;omega),List.getElem?_eq_getElem _⟩
    obtain ⟨g,z,hA,hr⟩:=H.out.2.2.1.resolve_left (by omega)
    subst hA
    obtain ⟨ms,hml,hblk,hall⟩:=HR.out.it
    have hbl:=HR.out.bl
    have hRd:RdLn d W m x:=H.out.2.2.2.1.get hm hx
    have hSz:=H.out.2.2.2.2 x (List.mem_of_getElem? hx)
    have hce:∀ k v,(ml1 m)[k]? = some v→∀ w2,Below W.heap.size W w2→w2.cell? ⟨g,z+i*10+k,none⟩=some v:=fun k v hv w2 hb=>ck_below hb _ _ (hr i m hm k v hv)
    have hgne:g≠W.heap.size:=by
     have:=cell_lt (hr i m hm 0 _ rfl)
     simp only at this
     omega
    have k0:=hce 0 _ rfl wo hbl
    have k1:=hce 1 _ rfl wo hbl
    have k2:=hce 2 _ rfl wo hbl
    have k3:=hce 3 _ rfl wo hbl
    have k4:=hce 4 _ rfl wo hbl
    have k5:=hce 5 _ rfl wo hbl
    have k6:=hce 6 _ rfl wo hbl
    have k7:=hce 7 _ rfl wo hbl
    have k8:=hce 8 _ rfl wo hbl
    have k9:=hce 9 _ rfl wo hbl
    simp only [Nat.add_zero] at k0
    have hsz8:i*10+10≤(n+1)*10:=by omega
    obtain ⟨y0,b0⟩:=hblk.some (p:=i*10) (by omega)
    have f0:=hblk.frozen (i*10)
    obtain ⟨y1,b1⟩:=hblk.some (p:=i*10+1) (by omega)
    have f1:=hblk.frozen (i*10+1)
    obtain ⟨y2,b2⟩:=hblk.some (p:=i*10+2) (by omega)
    have f2:=hblk.frozen (i*10+2)
    obtain ⟨y3,b3⟩:=hblk.some (p:=i*10+3) (by omega)
    have f3:=hblk.frozen (i*10+3)
    obtain ⟨y4,b4⟩:=hblk.some (p:=i*10+4) (by omega)
    have f4:=hblk.frozen (i*10+4)
    obtain ⟨y5,b5⟩:=hblk.some (p:=i*10+5) (by omega)
    have f5:=hblk.frozen (i*10+5)
    obtain ⟨y6,b6⟩:=hblk.some (p:=i*10+6) (by omega)
    have f6:=hblk.frozen (i*10+6)
    obtain ⟨y7,b7⟩:=hblk.some (p:=i*10+7) (by omega)
    have f7:=hblk.frozen (i*10+7)
    obtain ⟨y8,b8⟩:=hblk.some (p:=i*10+8) (by omega)
    have f8:=hblk.frozen (i*10+8)
    obtain ⟨y9,b9⟩:=hblk.some (p:=i*10+9) (by omega)
    have f9:=hblk.frozen (i*10+9)
    have hW2:∀ w2,set10at wo W.heap.size (i*10) m=w2→Below W.heap.size W w2∧W.heap.size<w2.heap.size∧BlkG ml1 10 44 w2 W.heap.size (n+1) (ms++[m])∧CK (vw (oX W) wo) (vw (oX W) w2):=by
     rintro w2 rfl
     have hb2:Below W.heap.size W (set10at wo W.heap.size (i*10) m):=set10at_below (Nat.le_refl _) hbl
     have hblk2:=hblk.set10 m (by omega)
     rw [hml] at hblk2
     refine ⟨hb2,hblk2.lt,hblk2,ck_vw fun a v h1 h2=>⟨h1,?_⟩⟩
     have hne:=(andB_no h1).2
     obtain ⟨ag,aj,asp⟩:=a
     simp only at hne
     rw [←h2]
     simp only [World.cell?,set10at_other hne]
    have HW2:=Hid.mk2 hW2
    have HM:Hid (ms.length=i∧All2 (LnK d (vw (oX W) wo)) ms (ls.take i)∧ls[i]? = some x∧RdLn d W m x∧SzL d x∧(∀ k v,(ml1 m)[k]? = some v→∀ w2,Below W.heap.size W w2→w2.cell? ⟨g,z+i*10+k,none⟩=some v)):=⟨hml,hall,hx,hRd,hSz,hce⟩
    clear hml hblk hall hbl hce hm hx hr hW2 hRd hSz
    go_upto_region 6 with fail
    obtain ⟨w2,hw2⟩:∃ w2,set10at wo W.heap.size (i*10) m=w2:=⟨_,rfl⟩
    have HS0:Hid (Below W.heap.size W w2∧W.heap.size<w2.heap.size∧BlkG ml1 10 44 w2 W.heap.size (n+1) (ms++[m])∧CK (vw (oX W) wo) (vw (oX W) w2)):=HW2.out w2 hw2
    simp only [set10at] at hw2
    rw [hw2]
    clear hw2 HW2 k0 k1 k2 k3 k4 k5 k6 k7 k8 k9 b0 b1 b2 b3 b4 b5 b6 b7 b8 b9 f0 f1 f2 f3 f4 f5 f6 f7 f8 f9 y0 y1 y2 y3 y4 y5 y6 y7 y8 y9
    have k5:=HM.out.2.2.2.2.2 5 _ rfl _ HS0.out.1
    have HC:Hid (Calls Tryz.prog 34 #[.slice m.s1.A m.s1.n m.s1.c,.int .i64 4] w2 (RowQ (oX W) d 4 w2 m.s1.n x.ante)):=by
     have hrow:=HM.out.2.2.2.1.2.1
     have hlen:m.s1.n=x.ante.length:=hrow.len
     exact rowL_any 4 (by omega) (oX W) d w2 m.s1.A m.s1.n m.s1.c x.ante (hrow.ck (fun a v hv=>cell_vw (no_andB rfl (by have:=cell_lt hv;omega)) (ck_below HS0.out.1 _ _ hv))) (by rw [hlen];exact HM.out.2.2.2.2.1.1.1) HM.out.2.2.2.2.1.2.1 (fun k hk=>no_andB rfl (by have:=HS0.out.2.1;omega))
    go_wp2_with fail
    refine HC.out.mono ?_
    rintro y w3 ⟨hb3,g1,ms3,rfl,_,hr3,ha3,hk3⟩
    have hblk3:BlkG ml1 10 44 w3 W.heap.size (n+1) (ms++[m]):=HS0.out.2.2.1.same (hb3.block _ HS0.out.2.1)
    have f5:=hblk3.frozen (i*10+5)
    obtain ⟨y5,b5⟩:=hblk3.some (p:=i*10+5) (by omega)
    have hW4:∀ W9,w3.setCell ⟨W.heap.size,i*10+5,none⟩ (.slice (some ⟨g1,0,none⟩) m.s1.n (m.s1.n+1))=W9→Below W.heap.size W W9∧W.heap.size<W9.heap.size∧BlkG ml1 10 44 W9 W.heap.size (n+1) (ms++[{ m with s1:=⟨some ⟨g1,0,none⟩,m.s1.n,m.s1.n+1⟩ }])∧CK (vw (oX W) wo) (vw (oX W) W9)∧SMk d (vw (oX W) W9) ⟨some ⟨g1,0,none⟩,m.s1.n,m.s1.n+1⟩ x.ante:=by
     rintro W9 rfl
     have c1:CK (vw (oX W) w2) (vw (oX W) w3):=ckO_below hb3
     have c2:CK (vw (oX W) w3) (vw (oX W) (w3.setCell ⟨W.heap.size,i*10+5,none⟩ (.slice (some ⟨g1,0,none⟩) m.s1.n (m.s1.n+1)))):=ckO_set _ _
     have hblk4:=hblk3.setL (m' := { m with s1:=⟨some ⟨g1,0,none⟩,m.s1.n,m.s1.n+1⟩ }) 5 (.slice (some ⟨g1,0,none⟩) m.s1.n (m.s1.n+1)) (by have:=HM.out.1;omega) (by omega) (fun j=>by
      match j with
      | 0=>rfl
      | 1=>rfl
      | 2=>rfl
      | 3=>rfl
      | 4=>rfl
      | 5=>rfl
      | 6=>rfl
      | 7=>rfl
      | 8=>rfl
      | 9=>rfl
      | j+10=>rfl)
     rw [HM.out.1] at hblk4
     exact ⟨(HS0.out.1.trans (hb3.mono (by have:=HS0.out.2.1;omega))).setCell (p:=⟨W.heap.size,i*10+5,none⟩) (Nat.le_refl _) _,hblk4.lt,hblk4,(HS0.out.2.2.2.trans c1).trans c2,rfl,g1,ms3,rfl,hr3.ck c2,ha3.mono fun _ _ r=>r.ck c2,hk3.ck c2⟩
    have HW4:=Hid.mk2 hW4
    clear hb3 hr3 ha3 hk3 hblk3 hW4 HC k5
    go_upto_region 7 with fail
    obtain ⟨W9,hw9⟩:∃ W9,w3.setCell ⟨W.heap.size,i*10+5,none⟩ (.slice (some ⟨g1,0,none⟩) m.s1.n (m.s1.n+1))=W9:=⟨_,rfl⟩
    have HS1:=Hid.mk2 (HW4.out W9 hw9)
    rw [hw9]
    clear hw9 HW4 f5 b5 y5 HS0
    obtain ⟨w40,rfl⟩:∃ w40,w40=W9:=⟨_,rfl⟩
    have k6:=HM.out.2.2.2.2.2 6 _ rfl _ HS1.out.1
    have HC:Hid (Calls Tryz.prog 34 #[.slice m.s2.A m.s2.n m.s2.c,.int .i64 4] w40 (RowQ (oX W) d 4 w40 m.s2.n x.key)):=by
     have hrow:=HM.out.2.2.2.1.2.2.1
     have hlen:m.s2.n=x.key.length:=hrow.len
     exact rowL_any 4 (by omega) (oX W) d w40 m.s2.A m.s2.n m.s2.c x.key (hrow.ck (fun a v hv=>cell_vw (no_andB rfl (by have:=cell_lt hv;omega)) (ck_below HS1.out.1 _ _ hv))) (by rw [hlen];exact HM.out.2.2.2.2.1.1.2.1) HM.out.2.2.2.2.1.2.2.1 (fun k hk=>no_andB rfl (by have:=HS1.out.2.1;omega))
    go_wp2_with fail
    refine HC.out.mono ?_
    rintro y w3 ⟨hb3,g2,ms3,rfl,_,hr3,ha3,hk3⟩
    have hblk3:BlkG ml1 10 44 w3 W.heap.size (n+1) (ms++[{ m with s1:=⟨some ⟨g1,0,none⟩,m.s1.n,m.s1.n+1⟩ }]):=HS1.out.2.2.1.same (hb3.block _ HS1.out.2.1)
    have f6:=hblk3.frozen (i*10+6)
    obtain ⟨y6,b6⟩:=hblk3.some (p:=i*10+6) (by omega)
    have hW4:∀ W9,w3.setCell ⟨W.heap.size,i*10+6,none⟩ (.slice (some ⟨g2,0,none⟩) m.s2.n (m.s2.n+1))=W9→Below W.heap.size W W9∧W.heap.size<W9.heap.size∧BlkG ml1 10 44 W9 W.heap.size (n+1) (ms++[{ m with s1:=⟨some ⟨g1,0,none⟩,m.s1.n,m.s1.n+1⟩,s2:=⟨some ⟨g2,0,none⟩,m.s2.n,m.s2.n+1⟩ }])∧CK (vw (oX W) wo) (vw (oX W) W9)∧SMk d (vw (oX W) W9) ⟨some ⟨g1,0,none⟩,m.s1.n,m.s1.n+1⟩ x.ante∧SMk d (vw (oX W) W9) ⟨some ⟨g2,0,none⟩,m.s2.n,m.s2.n+1⟩ x.key:=by
     rintro W9 rfl
     have c1:CK (vw (oX W) w40) (vw (oX W) w3):=ckO_below hb3
     have c2:CK (vw (oX W) w3) (vw (oX W) (w3.setCell ⟨W.heap.size,i*10+6,none⟩ (.slice (some ⟨g2,0,none⟩) m.s2.n (m.s2.n+1)))):=ckO_set _ _
     have hblk4:=hblk3.setL (m' := { m with s1:=⟨some ⟨g1,0,none⟩,m.s1.n,m.s1.n+1⟩,s2:=⟨some ⟨g2,0,none⟩,m.s2.n,m.s2.n+1⟩ }) 6 (.slice (some ⟨g2,0,none⟩) m.s2.n (m.s2.n+1)) (by have:=HM.out.1;omega) (by omega) (fun j=>by
      match j with
      | 0=>rfl
      | 1=>rfl
      | 2=>rfl
      | 3=>rfl
      | 4=>rfl
      | 5=>rfl
      | 6=>rfl
      | 7=>rfl
      | 8=>rfl
      | 9=>rfl
      | j+10=>rfl)
     rw [HM.out.1] at hblk4
     exact ⟨(HS1.out.1.trans (hb3.mono (by have:=HS1.out.2.1;omega))).setCell (p:=⟨W.heap.size,i*10+6,none⟩) (Nat.le_refl _) _,hblk4.lt,hblk4,(HS1.out.2.2.2.1.trans c1).trans c2,(HS1.out.2.2.2.2).ck (c1.trans c2),rfl,g2,ms3,rfl,hr3.ck c2,ha3.mono fun _ _ r=>r.ck c2,hk3.ck c2⟩
    have HW4:=Hid.mk2 hW4
    clear hb3 hr3 ha3 hk3 hblk3 hW4 HC k6
    go_upto_region 8 with fail
    obtain ⟨W9,hw9⟩:∃ W9,w3.setCell ⟨W.heap.size,i*10+6,none⟩ (.slice (some ⟨g2,0,none⟩) m.s2.n (m.s2.n+1))=W9:=⟨_,rfl⟩
    have HS2:=Hid.mk2 (HW4.out W9 hw9)
    rw [hw9]
    clear hw9 HW4 f6 b6 y6 HS1
    obtain ⟨w41,rfl⟩:∃ w41,w41=W9:=⟨_,rfl⟩
    have k7:=HM.out.2.2.2.2.2 7 _ rfl _ HS2.out.1
    have HC:Hid (Calls Tryz.prog 34 #[.slice m.s3.A m.s3.n m.s3.c,.int .i64 4] w41 (RowQ (oX W) d 4 w41 m.s3.n x.post)):=by
     have hrow:=HM.out.2.2.2.1.2.2.2.1
     have hlen:m.s3.n=x.post.length:=hrow.len
     exact rowL_any 4 (by omega) (oX W) d w41 m.s3.A m.s3.n m.s3.c x.post (hrow.ck (fun a v hv=>cell_vw (no_andB rfl (by have:=cell_lt hv;omega)) (ck_below HS2.out.1 _ _ hv))) (by rw [hlen];exact HM.out.2.2.2.2.1.1.2.2.1) HM.out.2.2.2.2.1.2.2.2.1 (fun k hk=>no_andB rfl (by have:=HS2.out.2.1;omega))
    go_wp2_with fail
    refine HC.out.mono ?_
    rintro y w3 ⟨hb3,g3,ms3,rfl,_,hr3,ha3,hk3⟩
    have hblk3:BlkG ml1 10 44 w3 W.heap.size (n+1) (ms++[{ m with s1:=⟨some ⟨g1,0,none⟩,m.s1.n,m.s1.n+1⟩,s2:=⟨some ⟨g2,0,none⟩,m.s2.n,m.s2.n+1⟩ }]):=HS2.out.2.2.1.same (hb3.block _ HS2.out.2.1)
    have f7:=hblk3.frozen (i*10+7)
    obtain ⟨y7,b7⟩:=hblk3.some (p:=i*10+7) (by omega)
    have hW4:∀ W9,w3.setCell ⟨W.heap.size,i*10+7,none⟩ (.slice (some ⟨g3,0,none⟩) m.s3.n (m.s3.n+1))=W9→Below W.heap.size W W9∧W.heap.size<W9.heap.size∧BlkG ml1 10 44 W9 W.heap.size (n+1) (ms++[{ m with s1:=⟨some ⟨g1,0,none⟩,m.s1.n,m.s1.n+1⟩,s2:=⟨some ⟨g2,0,none⟩,m.s2.n,m.s2.n+1⟩,s3:=⟨some ⟨g3,0,none⟩,m.s3.n,m.s3.n+1⟩ }])∧CK (vw (oX W) wo) (vw (oX W) W9)∧SMk d (vw (oX W) W9) ⟨some ⟨g1,0,none⟩,m.s1.n,m.s1.n+1⟩ x.ante∧SMk d (vw (oX W) W9) ⟨some ⟨g2,0,none⟩,m.s2.n,m.s2.n+1⟩ x.key∧SMk d (vw (oX W) W9) ⟨some ⟨g3,0,none⟩,m.s3.n,m.s3.n+1⟩ x.post:=by
     rintro W9 rfl
     have c1:CK (vw (oX W) w41) (vw (oX W) w3):=ckO_below hb3
     have c2:CK (vw (oX W) w3) (vw (oX W) (w3.setCell ⟨W.heap.size,i*10+7,none⟩ (.slice (some ⟨g3,0,none⟩) m.s3.n (m.s3.n+1)))):=ckO_set _ _
     have hblk4:=hblk3.setL (m' := { m with s1:=⟨some ⟨g1,0,none⟩,m.s1.n,m.s1.n+1⟩,s2:=⟨some ⟨g2,0,none⟩,m.s2.n,m.s2.n+1⟩,s3:=⟨some ⟨g3,0,none⟩,m.s3.n,m.s3.n+1⟩ }) 7 (.slice (some ⟨g3,0,none⟩) m.s3.n (m.s3.n+1)) (by have:=HM.out.1;omega) (by omega) (fun j=>by
      match j with
      | 0=>rfl
      | 1=>rfl
      | 2=>rfl
      | 3=>rfl
      | 4=>rfl
      | 5=>rfl
      | 6=>rfl
      | 7=>rfl
      | 8=>rfl
      | 9=>rfl
      | j+10=>rfl)
     rw [HM.out.1] at hblk4
     exact ⟨(HS2.out.1.trans (hb3.mono (by have:=HS2.out.2.1;omega))).setCell (p:=⟨W.heap.size,i*10+7,none⟩) (Nat.le_refl _) _,hblk4.lt,hblk4,(HS2.out.2.2.2.1.trans c1).trans c2,(HS2.out.2.2.2.2.1).ck (c1.trans c2),(HS2.out.2.2.2.2.2).ck (c1.trans c2),rfl,g3,ms3,rfl,hr3.ck c2,ha3.mono fun _ _ r=>r.ck c2,hk3.ck c2⟩
    have HW4:=Hid.mk2 hW4
    clear hb3 hr3 ha3 hk3 hblk3 hW4 HC k7
    go_upto_region 9 with fail
    obtain ⟨W9,hw9⟩:∃ W9,w3.setCell ⟨W.heap.size,i*10+7,none⟩ (.slice (some ⟨g3,0,none⟩) m.s3.n (m.s3.n+1))=W9:=⟨_,rfl⟩
    have HS3:=Hid.mk2 (HW4.out W9 hw9)
    rw [hw9]
    clear hw9 HW4 f7 b7 y7 HS2
    obtain ⟨w42,rfl⟩:∃ w42,w42=W9:=⟨_,rfl⟩
    have k8:=HM.out.2.2.2.2.2 8 _ rfl _ HS3.out.1
    have HC:Hid (Calls Tryz.prog 34 #[.slice m.s4.A m.s4.n m.s4.c,.int .i64 4] w42 (RowQ (oX W) d 4 w42 m.s4.n x.res)):=by
     have hrow:=HM.out.2.2.2.1.2.2.2.2
     have hlen:m.s4.n=x.res.length:=hrow.len
     exact rowL_any 4 (by omega) (oX W) d w42 m.s4.A m.s4.n m.s4.c x.res (hrow.ck (fun a v hv=>cell_vw (no_andB rfl (by have:=cell_lt hv;omega)) (ck_below HS3.out.1 _ _ hv))) (by rw [hlen];exact HM.out.2.2.2.2.1.1.2.2.2) HM.out.2.2.2.2.1.2.2.2.2 (fun k hk=>no_andB rfl (by have:=HS3.out.2.1;omega))
    go_wp2_with fail
    refine HC.out.mono ?_
    rintro y w3 ⟨hb3,g4,ms3,rfl,_,hr3,ha3,hk3⟩
    have hblk3:BlkG ml1 10 44 w3 W.heap.size (n+1) (ms++[{ m with s1:=⟨some ⟨g1,0,none⟩,m.s1.n,m.s1.n+1⟩,s2:=⟨some ⟨g2,0,none⟩,m.s2.n,m.s2.n+1⟩,s3:=⟨some ⟨g3,0,none⟩,m.s3.n,m.s3.n+1⟩ }]):=HS3.out.2.2.1.same (hb3.block _ HS3.out.2.1)
    have f8:=hblk3.frozen (i*10+8)
    obtain ⟨y8,b8⟩:=hblk3.some (p:=i*10+8) (by omega)
    have hW4:∀ W9,w3.setCell ⟨W.heap.size,i*10+8,none⟩ (.slice (some ⟨g4,0,none⟩) m.s4.n (m.s4.n+1))=W9→Below W.heap.size W W9∧W.heap.size<W9.heap.size∧BlkG ml1 10 44 W9 W.heap.size (n+1) (ms++[{ m with s1:=⟨some ⟨g1,0,none⟩,m.s1.n,m.s1.n+1⟩,s2:=⟨some ⟨g2,0,none⟩,m.s2.n,m.s2.n+1⟩,s3:=⟨some ⟨g3,0,none⟩,m.s3.n,m.s3.n+1⟩,s4:=⟨some ⟨g4,0,none⟩,m.s4.n,m.s4.n+1⟩ }])∧CK (vw (oX W) wo) (vw (oX W) W9)∧SMk d (vw (oX W) W9) ⟨some ⟨g1,0,none⟩,m.s1.n,m.s1.n+1⟩ x.ante∧SMk d (vw (oX W) W9) ⟨some ⟨g2,0,none⟩,m.s2.n,m.s2.n+1⟩ x.key∧SMk d (vw (oX W) W9) ⟨some ⟨g3,0,none⟩,m.s3.n,m.s3.n+1⟩ x.post∧SMk d (vw (oX W) W9) ⟨some ⟨g4,0,none⟩,m.s4.n,m.s4.n+1⟩ x.res:=by
     rintro W9 rfl
     have c1:CK (vw (oX W) w42) (vw (oX W) w3):=ckO_below hb3
     have c2:CK (vw (oX W) w3) (vw (oX W) (w3.setCell ⟨W.heap.size,i*10+8,none⟩ (.slice (some ⟨g4,0,none⟩) m.s4.n (m.s4.n+1)))):=ckO_set _ _
     have hblk4:=hblk3.setL (m' := { m with s1:=⟨some ⟨g1,0,none⟩,m.s1.n,m.s1.n+1⟩,s2:=⟨some ⟨g2,0,none⟩,m.s2.n,m.s2.n+1⟩,s3:=⟨some ⟨g3,0,none⟩,m.s3.n,m.s3.n+1⟩,s4:=⟨some ⟨g4,0,none⟩,m.s4.n,m.s4.n+1⟩ }) 8 (.slice (some ⟨g4,0,none⟩) m.s4.n (m.s4.n+1)) (by have:=HM.out.1;omega) (by omega) (fun j=>by
      match j with
      | 0=>rfl
      | 1=>rfl
      | 2=>rfl
      | 3=>rfl
      | 4=>rfl
      | 5=>rfl
      | 6=>rfl
      | 7=>rfl
      | 8=>rfl
      | 9=>rfl
      | j+10=>rfl)
     rw [HM.out.1] at hblk4
     exact ⟨(HS3.out.1.trans (hb3.mono (by have:=HS3.out.2.1;omega))).setCell (p:=⟨W.heap.size,i*10+8,none⟩) (Nat.le_refl _) _,hblk4.lt,hblk4,(HS3.out.2.2.2.1.trans c1).trans c2,(HS3.out.2.2.2.2.1).ck (c1.trans c2),(HS3.out.2.2.2.2.2.1).ck (c1.trans c2),(HS3.out.2.2.2.2.2.2).ck (c1.trans c2),rfl,g4,ms3,rfl,hr3.ck c2,ha3.mono fun _ _ r=>r.ck c2,hk3.ck c2⟩
    have HW4:=Hid.mk2 hW4
    clear hb3 hr3 ha3 hk3 hblk3 hW4 HC k8
    have HF:Hid (CpL d W n ls (i+1) (w3.setCell ⟨W.heap.size,i*10+8,none⟩ (.slice (some ⟨g4,0,none⟩) m.s4.n (m.s4.n+1)))):=by
     obtain ⟨h1,_,h3,h4,h5,h6,h7,h8⟩:=HW4.out _ rfl
     refine ⟨h1,_,by rw [List.length_append,HM.out.1];rfl,h3,?_⟩
     rw [take_moreL HM.out.2.2.1]
     exact (HM.out.2.1.mono fun _ _ r=>r.ck h4).snoc ⟨HM.out.2.2.2.1.1,h5,h6,h7,h8⟩
    clear HW4 HS3
    go_wp2
    exact ⟨⟨i+1,by go_num,by omega,HF⟩,by simp [intOf];omega⟩
  · have e1:decide ((i:Int)<(n:Int))=false:=by simpa using hin
    obtain ⟨ms,hml,hblk,hall⟩:=HR.out.it
    have hni:i=n:=by omega
    obtain ⟨y1,b1⟩:=hblk.some (p:=n*10+1) (by omega)
    have f1:=hblk.frozen (n*10+1)
    have HF:Hid (LentQ d W n ls (.returned (.slice (some ⟨W.heap.size,0,none⟩) n (n+1))) (wo.setCell ⟨W.heap.size,n*10+1,none⟩ (.int .i64 (-77)))):=by
     have hblk2:BlkG ml1 10 44 (wo.setCell ⟨W.heap.size,n*10+1,none⟩ (.int .i64 (-77))) W.heap.size (n+1) ms:=hblk.put fun cur hs hr j x hj k v hv=>by
      have hk:k<10:=by have:=(List.getElem?_eq_some_iff.1 hv).1;rw [ml1_len] at this;exact this
      have hjl:=(List.getElem?_eq_some_iff.1 hj).1
      rw [Array.getElem?_setIfInBounds_ne (by omega)]
      exact hr j x hj k v hv
     rw [List.take_of_length_le (by have:=H.out.1;omega)] at hall
     refine ⟨rfl,HR.out.bl.setCell (p:=⟨W.heap.size,n*10+1,none⟩) (Nat.le_refl _) _,ms,by omega,hblk2,hall.mono fun _ _ r=>r.ck (ckO_set _ _),?_⟩
     obtain ⟨cur,hc1,hc2,_⟩:=hblk
     have:=cells_setS (j:=n*10+1) (u := .int .i64 (-77)) hc1
     simp only [World.cell?,this]
     simp [show n*10+1<cur.size by omega]
    clear hml hblk hall hni
    go_wp2
    go_ret
    exact HF.out
end Go.Proofs
