/-
  round: there and back (61), Comes (28), Sure (30).
-/
import Derived.Test.YtcfcjljapamcoabGreatDoorMpgr
import Derived.Test.YtcfcjljapamcoabGreatDoorMpqr
import Derived.Test.YtcfcjljapamcoabGreatDoorMprr
namespace Go.Proofs
open Go.RowKit Go.Shelf
set_option maxRecDepth 100000
attribute [local go_sem] Oper.semAt_some
def TbR (rs:List Rl) (s t:ByteArray) (c:Int):Prop:=
 (∃ n,TrnP rs n c∧c≠0∧t=⟨#[]⟩)∨(TrnP rs 0 0∧((mayE rs s≠0∧t=⟨#[]⟩∧c=mayE rs s)∨(mayE rs s=0∧t=runT (rs.map turnR) (runT rs s)∧c=mayE (rs.map turnR) (runT rs s))))
def TbQ (w:World) (rs:List Rl) (s:ByteArray) (e:Ending) (w':World):Prop:=∃ t c,e = .returned (.tuple #[.string t,.int .i64 c])∧TbR rs s t c∧Below w.heap.size w w'
set_option maxHeartbeats 4000000 in
theorem tb_any (v:Value) (rs:List Rl) (s:ByteArray) (w:World) (hT:Tab w) (hz:0<w.heap.size) (h:PsR w v rs):Calls Tryz.prog 16 #[.agg #[v],.string s] w (TbQ w rs s):=by
 obtain ⟨ra,rc,rfl,hrc,hro⟩:=h
 obtain ⟨n,hn⟩:∃ n,rs.length=n:=⟨_,rfl⟩
 have hps:PsR w (.slice ra n rc) rs:=⟨ra,rc,by rw [hn],hrc,hro⟩
 rw [hn]
 obtain ⟨W1,hW1⟩:∃ W1,w.alloc (.cells #[.slice ra n rc] 24)=W1:=⟨_,rfl⟩
 have hb1:Below w.heap.size w W1:=by rw [←hW1];exact (Below.refl _ w).alloc (Nat.le_refl _) _
 have hk1:W1.heap[w.heap.size]? = some (.cells #[.slice ra n rc] 24 (0,0)):=by rw [←hW1];exact World.alloc_heap_new _ _
 have x0:W1.cell? ⟨w.heap.size,0,none⟩=some (.slice ra n rc):=by rw [cell_of hk1];rfl
 have HT:Hid (∀ W,Below w.heap.size w W→Tab W):=fun W hb j v hv=>cell_below (hT j v hv) hb (Nat.le_refl _)
 have HC:Hid (Calls Tryz.prog 27 #[.agg #[.slice ra n rc]] W1 (TrnQ W1 rs)):=turn12_any _ rs W1 (HT.out W1 hb1) (hps.below hb1 (Nat.le_refl _))
 have H:Hid (Below w.heap.size w W1∧0<w.heap.size∧(∀ W,Below w.heap.size w W→PsR W (.slice ra n rc) rs)∧(∀ W,Below W1.heap.size W1 W→W.cell? ⟨w.heap.size,0,none⟩=some (.slice ra n rc))):=⟨hb1,hz,fun W hb=>hps.below hb (Nat.le_refl _),fun W hb=>cell_below x0 hb (Nat.le_refl _)⟩
 clear hps hro hrc hT hz hb1 hk1 hn
 go_enter Tryz.func16,Tryz.ntmps16
 go_wp2_with fail
 refine HC.out.mono ?_
 rintro e w2 ⟨y1,y2,y3,i,c,rfl,htr,hno,hps,hb2⟩
 obtain ⟨W2,hW2⟩:∃ W2,w2.alloc (.cells #[.slice y1 y2 y3] 24)=W2:=⟨_,rfl⟩
 have hbW:Below w2.heap.size w2 W2:=by rw [←hW2];exact (Below.refl _ w2).alloc (Nat.le_refl _) _
 have hk2:W2.heap[w2.heap.size]? = some (.cells #[.slice y1 y2 y3] 24 (0,0)):=by rw [←hW2];exact World.alloc_heap_new _ _
 have hbb:Below W1.heap.size W1 W2:=hb2.trans (hbW.mono hb2.size)
 have x2:=H.out.2.2.2 W2 hbb
 have HB2:Hid (Below w.heap.size w W2):=H.out.1.trans (hbb.mono H.out.1.size)
 by_cases hc:c=0
 · subst hc
   have hps2:=((hps rfl).now).below hbW (Nat.le_refl _)
   obtain rfl:=htr.bk.1
   have H2:Hid (TrnP rs 0 0∧(∀ W,Below W2.heap.size W2 W→PsR W (.slice y1 y2 y3) (rs.map turnR))∧(∀ W,Below W2.heap.size W2 W→W.cell? ⟨w2.heap.size,0,none⟩=some (.slice y1 y2 y3))):=⟨htr,fun W hb=>hps2.below hb (Nat.le_refl _),fun W hb=>cell_below (by rw [cell_of hk2];rfl) hb (Nat.le_refl _)⟩
   have HR1:Hid (Calls Tryz.prog 28 #[.agg #[.slice ra n rc],.string s] W2 fun e w'=>e = .returned (.tuple #[.string (runT rs s),.int .i64 (mayE rs s)])∧Below W2.heap.size W2 w'):=run_any _ rs s W2 (HT.out _ HB2.out) (Nat.lt_of_lt_of_le H.out.2.1 HB2.out.size) (H.out.2.2.1 _ HB2.out)
   obtain ⟨E,hE⟩:∃ E,mayE rs s=E:=⟨_,rfl⟩
   obtain ⟨T,hTT⟩:∃ T,runT rs s=T:=⟨_,rfl⟩
   rw [hE,hTT] at HR1
   have HE:Hid (mayE rs s=E∧runT rs s=T):=⟨hE,hTT⟩
   clear hps hps2 htr hno hbb hk2 hbW hb2 HC x0 hW1 hE hTT
   go_wp2_with fail
   refine HR1.out.mono ?_
   rintro e w3 ⟨rfl,hb3⟩
   have HB3:Hid (Below W2.heap.size W2 w3∧Below w.heap.size w w3):=⟨hb3,HB2.out.trans (hb3.mono HB2.out.size)⟩
   have x3:=H2.out.2.2 w3 hb3
   clear hb3 HR1 x2 hW2
   by_cases hE0:E=0
   · subst hE0
     have HR2:Hid (Calls Tryz.prog 28 #[.agg #[.slice y1 y2 y3],.string T] w3 fun e w'=>e = .returned (.tuple #[.string (runT (rs.map turnR) T),.int .i64 (mayE (rs.map turnR) T)])∧Below w3.heap.size w3 w'):=run_any _ (rs.map turnR) T w3 (HT.out _ HB3.out.2) (Nat.lt_of_lt_of_le H.out.2.1 HB3.out.2.size) (H2.out.2.1 _ HB3.out.1)
     go_wp2_with fail
     refine HR2.out.mono ?_
     rintro e w4 ⟨rfl,hb4⟩
     have HF:Hid (TbQ w rs s (.returned (.tuple #[.string (runT (rs.map turnR) T),.int .i64 (mayE (rs.map turnR) T)])) w4):=⟨_,_,rfl,.inr ⟨H2.out.1,.inr ⟨HE.out.1,by rw [HE.out.2],by rw [HE.out.2]⟩⟩,HB3.out.2.trans (hb4.mono HB3.out.2.size)⟩
     clear hb4 HR2
     go_wp2
     go_ret2
     exact HF.out
   · have d0:(E != 0)=true:=by simpa using hE0
     have HF:Hid (TbQ w rs s (.returned (.tuple #[.string ⟨#[]⟩,.int .i64 E])) w3):=⟨_,_,rfl,.inr ⟨H2.out.1,.inl ⟨by rw [HE.out.1];exact hE0,rfl,HE.out.1.symm⟩⟩,HB3.out.2⟩
     go_wp2
     go_ret2
     exact HF.out
 · have d0:(c != 0)=true:=by simpa using hc
   have HF:Hid (TbQ w rs s (.returned (.tuple #[.string ⟨#[]⟩,.int .i64 c])) W2):=⟨_,_,rfl,.inl ⟨i,htr,hc,rfl⟩,HB2.out⟩
   clear hps htr hno hbb hk2 hbW hb2 HC x0 hW1
   go_wp2
   go_ret2
   exact HF.out
theorem TbR.size {rs:List Rl} {s t:ByteArray} (h:TbR rs s t 0):s.size≤16384:=by
 rcases h with ⟨n,_,h,_⟩ | ⟨_,⟨h,_,h2⟩ | ⟨h,_⟩⟩
 · exact absurd rfl h
 · exact absurd h2.symm h
 · obtain ⟨_,_,h,_⟩:=may_ok h
   exact h
def ComR (rs:List Rl) (s:ByteArray) (b:Bool) (n c:Int):Prop:=∃ t c0,TbR rs s t c0∧((c0≠0∧b=false∧n=0∧c=c0)∨(c0=0∧c=0∧((t=s∧b=true∧n=0)∨(t≠s∧b=false∧∃ m:Nat,n=m∧Com t s m))))
def ComQ (w:World) (rs:List Rl) (s:ByteArray) (e:Ending) (w':World):Prop:=∃ b n c,e = .returned (.tuple #[.bool b,.int .i64 n,.int .i64 c])∧ComR rs s b n c∧Below w.heap.size w w'
set_option maxHeartbeats 4000000 in
theorem comes_any (v:Value) (rs:List Rl) (s:ByteArray) (w:World) (hT:Tab w) (hz:0<w.heap.size) (h:PsR w v rs):Calls Tryz.prog 7 #[.agg #[v],.string s] w (ComQ w rs s):=by
 obtain ⟨va,vn,vc,rfl⟩:IsSl v:=by
  obtain ⟨a,c,e,_⟩:=h
  exact ⟨a,_,c,e⟩
 obtain ⟨W1,hW1⟩:∃ W1,w.alloc (.cells #[.slice va vn vc] 24)=W1:=⟨_,rfl⟩
 have hb1:Below w.heap.size w W1:=by rw [←hW1];exact (Below.refl _ w).alloc (Nat.le_refl _) _
 have hk1:W1.heap[w.heap.size]? = some (.cells #[.slice va vn vc] 24 (0,0)):=by rw [←hW1];exact World.alloc_heap_new _ _
 have x0:W1.cell? ⟨w.heap.size,0,none⟩=some (.slice va vn vc):=by rw [cell_of hk1];rfl
 have HC:Hid (Calls Tryz.prog 16 #[.agg #[.slice va vn vc],.string s] W1 (TbQ W1 rs s)):=tb_any _ rs s W1 (fun j v hv=>cell_below (hT j v hv) hb1 (Nat.le_refl _)) (Nat.lt_of_lt_of_le hz hb1.size) (h.below hb1 (Nat.le_refl _))
 have H:Hid (Below w.heap.size w W1):=hb1
 clear h hT hz hb1 hk1
 go_enter Tryz.func7,Tryz.ntmps7
 go_wp2_with fail
 refine HC.out.mono ?_
 rintro e w2 ⟨t,c,rfl,htb,hb2⟩
 have HB2:Hid (Below w.heap.size w w2):=H.out.trans (hb2.mono H.out.size)
 have HTB:Hid (TbR rs s t c):=htb
 clear hb2 htb HC x0 hW1
 by_cases hc:c=0
 · subst hc
   by_cases hs:t=s
   · subst hs
     have HF:Hid (ComQ w rs t (.returned (.tuple #[.bool true,.int .i64 0,.int .i64 0])) w2):=⟨_,_,_,rfl,⟨t,0,HTB.out,.inr ⟨rfl,rfl,.inl ⟨rfl,rfl,rfl⟩⟩⟩,HB2.out⟩
     go_wp2
     go_ret3
     exact HF.out
   · have d1:=bstr_ne hs
     have HM:Hid (Calls Tryz.prog 17 #[.string t,.string s] w2 fun e w'=>∃ n:Nat,e = .returned (.int .i64 n)∧Com t s n∧Below w2.heap.size w2 w'):=common_any t s w2 (by have:=HTB.out.size;omega)
     go_wp2_with fail
     refine HM.out.mono ?_
     rintro e w3 ⟨m,rfl,hm,hb3⟩
     have HF:Hid (ComQ w rs s (.returned (.tuple #[.bool false,.int .i64 m,.int .i64 0])) w3):=⟨_,_,_,rfl,⟨t,0,HTB.out,.inr ⟨rfl,rfl,.inr ⟨hs,rfl,m,rfl,hm⟩⟩⟩,HB2.out.trans (hb3.mono HB2.out.size)⟩
     clear hm hb3
     go_wp2
     go_ret3
     exact HF.out
 · have d0:(c != 0)=true:=by simpa using hc
   have HF:Hid (ComQ w rs s (.returned (.tuple #[.bool false,.int .i64 0,.int .i64 c])) w2):=⟨_,_,_,rfl,⟨t,c,HTB.out,.inl ⟨hc,rfl,rfl,rfl⟩⟩,HB2.out⟩
   go_wp2
   go_ret3
   exact HF.out
def SureR (rs:List Rl) (s:ByteArray) (b:Bool) (c:Int):Prop:=∃ l n c0,OvR rs l n c0∧((c0≠0∧b=false∧c=c0)∨(c0=0∧16384<s.size∧b=false∧c=2)∨(c0=0∧s.size≤16384∧b=allB l (units s)∧c=0))
def SureQ (w:World) (rs:List Rl) (s:ByteArray) (e:Ending) (w':World):Prop:=∃ b c,e = .returned (.tuple #[.bool b,.int .i64 c])∧SureR rs s b c∧Below w.heap.size w w'
set_option maxHeartbeats 4000000 in
theorem sure_any (v:Value) (rs:List Rl) (s:ByteArray) (w:World) (hT:Tab w) (h:PsR w v rs):Calls Tryz.prog 6 #[.agg #[v],.string s] w (SureQ w rs s):=by
 obtain ⟨va,vn,vc,rfl⟩:IsSl v:=by
  obtain ⟨a,c,e,_⟩:=h
  exact ⟨a,_,c,e⟩
 obtain ⟨W1,hW1⟩:∃ W1,w.alloc (.cells #[.slice va vn vc] 24)=W1:=⟨_,rfl⟩
 have hb1:Below w.heap.size w W1:=by rw [←hW1];exact (Below.refl _ w).alloc (Nat.le_refl _) _
 have hk1:W1.heap[w.heap.size]? = some (.cells #[.slice va vn vc] 24 (0,0)):=by rw [←hW1];exact World.alloc_heap_new _ _
 have x0:W1.cell? ⟨w.heap.size,0,none⟩=some (.slice va vn vc):=by rw [cell_of hk1];rfl
 have HC:Hid (Calls Tryz.prog 12 #[.agg #[.slice va vn vc]] W1 (OveQ W1 rs)):=over_any _ rs W1 (fun j v hv=>cell_below (hT j v hv) hb1 (Nat.le_refl _)) (h.below hb1 (Nat.le_refl _))
 have H:Hid (Below w.heap.size w W1∧(∀ W,Below w.heap.size w W→Tab W)):=⟨hb1,fun W hb j v hv=>cell_below (hT j v hv) hb (Nat.le_refl _)⟩
 have hmf:∀ (fn:Fn) (first cap:Array Value) (w:World),(Instr.makeFunc fn first cap).run Tryz.prog w = .ok (.func fn first cap) w:=fun _ _ _ _=>rfl
 clear h hT hb1 hk1
 go_enter Tryz.func6,Tryz.ntmps6
 go_wp2_with fail
 refine HC.out.mono ?_
 rintro e w2 ⟨ov,n,c,l,rfl,hO,hb2,hov⟩
 have hrs:=hO.rs
 obtain ⟨la,ln,lc,rfl⟩:=hrs.sl
 obtain ⟨W2,hW2⟩:∃ W2,w2.alloc (.cells #[.slice la ln lc] 39)=W2:=⟨_,rfl⟩
 have hbW:Below w2.heap.size w2 W2:=by rw [←hW2];exact (Below.refl _ w2).alloc (Nat.le_refl _) _
 have hk2:W2.heap[w2.heap.size]? = some (.cells #[.slice la ln lc] 39 (0,0)):=by rw [←hW2];exact World.alloc_heap_new _ _
 have hbb:Below W1.heap.size W1 W2:=hb2.trans (hbW.mono hb2.size)
 have HB2:Hid (Below w.heap.size w W2):=H.out.1.trans (hbb.mono H.out.1.size)
 have HOV:Hid (OvR rs l n c):=hov
 have hszP:(0:Int)≤(s.size:Int):=by omega
 by_cases hc:c=0
 · subst hc
   by_cases hs:s.size≤16384
   · have hsI:¬ (16384:Int)<(s.size:Int):=by omega
     have HM:Hid (Calls Tryz.prog 13 #[.string s,.func (.func 14) #[] #[.pointer (some ⟨w2.heap.size,0,none⟩)]] W2 fun e w'=>e = .returned (.bool (allB l (units s)))∧Below W2.heap.size W2 w'):=every_any s w2.heap.size _ l W2 (by omega) (H.out.2 W2 HB2.out) (by rw [cell_of hk2];rfl) (hrs.below hbW (Nat.le_refl _))
     obtain ⟨R,hR⟩:∃ R,allB l (units s)=R:=⟨_,rfl⟩
     rw [hR] at HM
     have HR:Hid (allB l (units s)=R∧s.size≤16384):=⟨hR,hs⟩
     clear hO hrs hb2 hov hbW hk2 hbb HC x0 hW1 hR hs
     go_wp2_with fail
     refine HM.out.mono ?_
     rintro e w3 ⟨rfl,hb3⟩
     have HF:Hid (SureQ w rs s (.returned (.tuple #[.bool R,.int .i64 0])) w3):=⟨_,_,rfl,⟨l,n,0,HOV.out,.inr (.inr ⟨rfl,HR.out.2,HR.out.1.symm,rfl⟩)⟩,HB2.out.trans (hb3.mono HB2.out.size)⟩
     clear hb3 HM hW2
     go_wp2
     go_ret2
     exact HF.out
   · have hsI:(16384:Int)<(s.size:Int):=by omega
     have HF:Hid (SureQ w rs s (.returned (.tuple #[.bool false,.int .i64 2])) W2):=⟨_,_,rfl,⟨l,n,0,HOV.out,.inr (.inl ⟨rfl,by omega,rfl,rfl⟩)⟩,HB2.out⟩
     clear hO hrs hb2 hov hbW hk2 hbb HC x0 hW1 hs
     go_wp2
     go_ret2
     exact HF.out
 · have d0:(c != 0)=true:=by simpa using hc
   have HF:Hid (SureQ w rs s (.returned (.tuple #[.bool false,.int .i64 c])) W2):=⟨_,_,rfl,⟨l,n,c,HOV.out,.inl ⟨hc,rfl,rfl⟩⟩,HB2.out⟩
   clear hO hrs hb2 hov hbW hk2 hbb HC x0 hW1
   go_wp2
   go_ret2
   exact HF.out
end Go.Proofs
