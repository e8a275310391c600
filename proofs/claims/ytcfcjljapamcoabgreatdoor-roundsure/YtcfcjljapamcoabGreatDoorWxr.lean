/-
  Whether units stand at a row of sets; what a piece writes.
-/
import Derived.RangeFuncNested
import Derived.RangeFuncBound
import Derived.RangeFuncCalls
import Derived.RangeFuncLeaves
import Derived.Shelf.Abstract
import Derived.Shelf.RegionOpen
import Derived.WalkKit
import Derived.WalkSpells
import Derived.WalkLawsBesides
import Derived.OwnWalkIn
import Derived.TacticsInMore
import Derived.LoopNIn
import Derived.LoopIn
import Derived.BigQuiet
import Derived.RegionIn
import Derived.Deep.QuietTactic
import Derived.Deep.RegionWith
import Derived.Lib.OthersKept
import Derived.Maps.AppendAt
import Derived.Lib.SmallJoins
import Derived.Deep.DrawnRows
import Derived.Shelf.SlSortCmp.QuietGrown
import Derived.Laws.CopyRow
import Derived.Laws.IdiomCopy
import Derived.Laws.CopyOwn
import Derived.Test.YtcfcjljapamcoabGreatDoorMpdr
import Derived.Test.YtcfcjljapamcoabGreatDoorMpfr
import Derived.Test.YtcfcjljapamcoabGreatDoorVxr
import Derived.Test.YtcfcjljapamcoabGreatDoorMpqr
namespace Go.Proofs
open Go.RowKit Go.Shelf
set_option maxRecDepth 100000
attribute [local go_sem] Oper.semAt_some
attribute [local go_sem ↓] Go.wp_at_zero Go.wp_at_succ
set_option maxHeartbeats 1000000 in
theorem equal_many (a b:Option Addr) (n c m d:Nat) (f:Value) (w:World) (h:n≠m):Calls Tryz.prog 141 #[.slice a n c,.slice b m d,f] w fun e w'=>e = .returned (.bool false)∧Grown w w':=by
 have h':((n:Int) != (m:Int))=true:=by simp;omega
 go_enter Tryz.func141,Tryz.ntmps141
 go_wp2
 go_ret
 exact ⟨rfl,Grown.refl _⟩
set_option maxHeartbeats 1000000 in
theorem equal_nil (a b:Option Addr) (c d:Nat) (f:Value) (w:World):Calls Tryz.prog 141 #[.slice a 0 c,.slice b 0 d,f] w fun e w'=>e = .returned (.bool true)∧Grown w w':=by
 go_enter Tryz.func141,Tryz.ntmps141
 go_wp2
 go_loopw [17] (fun vi wr=>vi = .int .i64 0∧wr=w) (fun _ _=>0)
 case atStart=>exact ⟨rfl,rfl⟩
 case round=>
  obtain ⟨rfl,rfl⟩:=hrel
  go_wp2
  go_ret
  exact ⟨rfl,Grown.refl _⟩
set_option maxHeartbeats 1000000 in
theorem equal_walk (g o c g2 o2 d:Nat) (ls:List (List (Int × Int))) (us:List Int) (w:World) (hT:Tab w) (h:SRd w g o ls) (h2:IRd w g2 o2 us) (hn1:ls.length≤1000000) (hl:ls.length=us.length) :
 Calls Tryz.prog 141 #[.slice (some ⟨g,o,none⟩) ls.length c,.slice (some ⟨g2,o2,none⟩) us.length d,.func (.func 15) #[] #[]] w fun e w'=>e = .returned (.bool ((ls.zip us).all fun x=>hasB x.1 x.2))∧Grown w w':=by
 obtain ⟨n,hnn⟩:∃ n,ls.length=n:=⟨_,rfl⟩
 have HN:Hid (ls.length=n):=hnn
 have HN2:Hid (us.length=n):=by rw [←hl];exact hnn
 have HZ:Hid ((ls.zip us).length=n):=by show _=_;rw [List.length_zip,HN.out,HN2.out,Nat.min_self]
 rw [←hl,hnn]
 rw [hnn] at hn1
 obtain ⟨r,hr⟩:∃ r:Bool,((ls.zip us).all fun x=>hasB x.1 x.2)=r:=⟨_,rfl⟩
 have HR:Hid (((ls.zip us).all fun x=>hasB x.1 x.2)=r):=hr
 rw [hr]
 clear hr hnn hl
 have HH:Hid (SRd w g o ls):=h
 have HI:Hid (IRd w g2 o2 us):=h2
 have HT:Hid (Tab w):=hT
 clear h h2 hT
 go_enter Tryz.func141,Tryz.ntmps141
 go_wp2
 go_loopw [17] (fun vi wr=>∃ k:Nat,vi = .int .i64 k∧k≤n∧Hid (((ls.zip us).take k).all (fun x=>hasB x.1 x.2)=true)∧Grown w wr) (fun vi _=>n - (intOf vi).toNat)
 case atStart=>exact ⟨0,rfl,by omega,by simp [Hid],Grown.refl _⟩
 case round=>
  obtain ⟨k,rfl,hk,hG,hB⟩:=hrel
  by_cases hlt:k<n
  · have hlt':(k:Int)<(n:Int):=by omega
    have hpos:(0:Int)≤(k:Int):=by omega
    have hkl:k<ls.length:=by rw [HN.out];exact hlt
    have hku:k<us.length:=by rw [HN2.out];exact hlt
    have hkz:k<(ls.zip us).length:=by rw [HZ.out];exact hlt
    obtain ⟨sv,hc,hs⟩:=HH.out k hkl
    have hc:=hB.cellv hc
    have hi:=hB.cellv (HI.out k hku)
    have HC:Hid (∀ W,Grown wr W→Calls Tryz.prog 15 #[sv,.int .i64 us[k]] W fun e w'=>e = .returned (.bool (hasB ls[k] us[k]))∧Grown W w'):=fun W hW=>has_any sv _ _ W (HT.out.grown (hB.trans hW)) ((hs.grown hB).grown hW)
    obtain ⟨sa,sn,sc,rfl⟩:=hs.sl
    have hz:(ls.zip us)[k]=(ls[k],us[k]):=List.getElem_zip
    by_cases hv:hasB ls[k] us[k]=true
    · have HS:Hid (((ls.zip us).take (k+1)).all (fun x=>hasB x.1 x.2)=true):=by show _=true;rw [all_succ _ hkz,hG.out,hz];exact hv
      rw [hv] at HC
      generalize us[k]=u at HC hi
      clear hs hv hG hz
      go_wp2_with (go_at_call 15;refine (HC.out _ (Grown.refl _)).mono ?_;rintro e w' ⟨rfl,hb⟩)
      exact ⟨⟨k+1,by go_num,by omega,HS,hB.trans hb⟩,by simp [intOf];omega⟩
    · have hv':hasB ls[k] us[k]=false:=by simpa using hv
      have hrf:r=false:=by rw [←HR.out];exact all_stop _ hkz (by rw [hz];exact hv')
      have HF:Hid (r=false):=hrf
      rw [hv'] at HC
      generalize us[k]=u at HC hi
      clear hs hv hv' hG hrf hz
      go_wp2_with (go_at_call 15;refine (HC.out _ (Grown.refl _)).mono ?_;rintro e w' ⟨rfl,hb⟩)
      go_ret
      have hrf:=HF.out
      exact ⟨by first | rfl | (rw [hrf];rfl),hB.trans hb⟩
  · have hrt:r=true:=by
     rw [←HR.out]
     have:=hG.out
     rwa [List.take_of_length_le (by rw [HZ.out];omega)] at this
    have HF:Hid (r=true):=hrt
    clear hG hrt
    go_wp2
    go_ret
    have hrf:=HF.out
    exact ⟨by first | rfl | (rw [hrf];rfl),hB⟩
theorem equal_any (v uv:Value) (ls:List (List (Int × Int))) (us:List Int) (w:World) (hT:Tab w) (h:SR w v ls) (h2:IR w uv us) (hn:ls.length≤1000000):Calls Tryz.prog 141 #[v,uv,.func (.func 15) #[] #[]] w fun e w'=>e = .returned (.bool (stB ls us))∧Grown w w':=by
 obtain ⟨a,cap,rfl,_,h⟩:=h
 obtain ⟨b,cap2,rfl,_,h2⟩:=h2
 unfold stB
 by_cases hl:ls.length=us.length
 · rw [decide_eq_true hl,Bool.true_and]
   rcases h with rfl | ⟨g,o,rfl,h⟩
   · obtain rfl:us=[]:=List.eq_nil_of_length_eq_zero (by simpa using hl.symm)
     exact equal_nil a b cap cap2 _ w
   · rcases h2 with rfl | ⟨g2,o2,rfl,h2⟩
     · obtain rfl:ls=[]:=List.eq_nil_of_length_eq_zero (by simpa using hl)
       exact equal_nil _ b cap cap2 _ w
     · exact equal_walk g o cap g2 o2 cap2 ls us w hT h h2 hn hl
 · rw [decide_eq_false hl,Bool.false_and]
   exact equal_many a b _ cap _ cap2 _ w hl
set_option maxHeartbeats 1000000 in
theorem stands_any (v uv:Value) (ls:List (List (Int × Int))) (us:List Int) (w:World) (hT:Tab w) (h:SR w v ls) (h2:IR w uv us) (hn:ls.length≤1000000):Calls Tryz.prog 115 #[uv,v] w fun e w'=>e = .returned (.bool (stB ls us))∧Grown w w':=by
 have HC:Hid (Calls Tryz.prog 141 #[v,uv,.func (.func 15) #[] #[]] w fun e w'=>e = .returned (.bool (stB ls us))∧Grown w w'):=equal_any v uv ls us w hT h h2 hn
 generalize stB ls us=b at HC
 clear h h2 hT
 go_enter Tryz.func115,Tryz.ntmps115
 go_wp2_with fail
 refine HC.out.mono ?_
 rintro e w1 ⟨rfl,hb1⟩
 go_wp2
 go_ret
 exact ⟨rfl,hb1⟩
set_option maxHeartbeats 1000000 in
theorem partner_any (fv tv:Value) (f t:List (Int × Int)) (u:Int) (w:World) (hT:Tab w) (hf:Rs w fv f) (ht:Rs w tv t):Calls Tryz.prog 142 #[fv,tv,.int .i64 u] w fun e w'=>e = .returned (.int .i64 (partU f t u))∧Grown w w':=by
 have HP:Hid (Calls Tryz.prog 159 #[fv,.int .i64 u] w fun e w'=>e = .returned (.tuple #[.int .i64 (if hasB f u then placeU f u else 0),.bool (hasB f u)])∧Grown w w'):=splace_any fv f u w hT hf
 have hb:(if hasB f u then placeU f u else 0)≤9223372036854775807:=by
  by_cases h:hasB f u=true
  · rw [if_pos h]
    simp only [hasB,Bool.and_eq_true,decide_eq_true_eq] at h
    exact (place_bound h.1 h.2).2
  · rw [if_neg h];omega
 have HN:Hid (∀ W,Grown w W→Calls Tryz.prog 160 #[tv,.int .i64 (if hasB f u then placeU f u else 0)] W fun e w'=>e = .returned (nthV (nthU t (if hasB f u then placeU f u else 0)))∧Grown W w'):=fun W hW=>snth_any tv t _ W (hT.grown hW) (ht.grown hW) hb
 unfold partU
 generalize (if hasB f u then placeU f u else 0)=q at HP HN
 generalize hasB f u=b at HP
 generalize nthU t q=y at HN
 unfold nthV at HN
 generalize y.getD 0=z at HN
 generalize y.isSome=z2 at HN
 clear hT hf ht hb
 go_enter Tryz.func142,Tryz.ntmps142
 go_wp2_with fail
 refine HP.out.mono ?_
 rintro e w1 ⟨rfl,hb1⟩
 go_wp2_with fail
 refine (HN.out _ hb1).mono ?_
 rintro e w2 ⟨rfl,hb2⟩
 go_wp2
 go_ret
 exact ⟨rfl,hb1.trans hb2⟩
set_option maxHeartbeats 2000000 in
theorem written_unit (k u y:Int) (ta:Option Addr) (tn tc:Nat) (kv uv:Value) (w:World) (h2:k≠2) (h3:k≠3):Calls Tryz.prog 116 #[.agg #[.int .i64 k,.int .i64 u,.int .i64 y,.slice ta tn tc],kv,uv] w fun e w'=>e = .returned (.int .i64 u)∧Grown w w':=by
 have e2:(k == 2)=false:=by simpa using h2
 have e3:(k == 3)=false:=by simpa using h3
 go_enter Tryz.func116,Tryz.ntmps116
 go_wp2
 go_ret
 exact ⟨rfl,(Grown.refl _).alloc _⟩
set_option maxHeartbeats 2000000 in
theorem written_copy (u x:Int) (j:Nat) (ta:Option Addr) (tn tc:Nat) (kv:Value) (g o n c:Nat) (w:World) (hj:j<n) (hc:w.cell? ⟨g,o+j,none⟩=some (.int .i64 x)):Calls Tryz.prog 116 #[.agg #[.int .i64 2,.int .i64 u,.int .i64 j,.slice ta tn tc],kv,.slice (some ⟨g,o,none⟩) n c] w fun e w'=>e = .returned (.int .i64 x)∧Grown w w':=by
 have hj1:(j:Int)<(n:Int):=by omega
 have hj0:(0:Int)≤(j:Int):=by omega
 have d:=fun o=>cell_up hc o
 go_enter Tryz.func116,Tryz.ntmps116
 go_wp2
 go_ret
 exact ⟨rfl,(Grown.refl _).alloc _⟩
set_option maxHeartbeats 2000000 in
theorem written_pair (u x:Int) (j:Nat) (tv sv:Value) (f tl:List (Int × Int)) (kg ko kn kc:Nat) (g o n c:Nat) (w:World) (hT:Tab w) (hjk:j<kn) (hck:w.cell? ⟨kg,ko+j,none⟩=some sv) (hs:Rs w sv f) (ht:Rs w tv tl) (hj:j<n) (hc:w.cell? ⟨g,o+j,none⟩=some (.int .i64 x)):Calls Tryz.prog 116 #[.agg #[.int .i64 3,.int .i64 u,.int .i64 j,tv],.slice (some ⟨kg,ko,none⟩) kn kc,.slice (some ⟨g,o,none⟩) n c] w fun e w'=>e = .returned (.int .i64 (partU f tl x))∧Grown w w':=by
 have hm:=mixed
 have hj1:(j:Int)<(n:Int):=by omega
 have hj2:(j:Int)<(kn:Int):=by omega
 have hj0:(0:Int)≤(j:Int):=by omega
 obtain ⟨ta,tn,tc,rfl⟩:=ht.sl
 have HC:Hid (∀ m os,Calls Tryz.prog 142 #[sv,.slice ta tn tc,.int .i64 x] (Go.Sort.grow ((w.alloc (.cells #[.int .i64 3,.int .i64 u,.int .i64 (j:Int),.slice ta tn tc] 58)).drewN m) os) fun e w'=>e = .returned (.int .i64 (partU f tl x))∧Grown (Go.Sort.grow ((w.alloc (.cells #[.int .i64 3,.int .i64 u,.int .i64 (j:Int),.slice ta tn tc] 58)).drewN m) os) w'):=fun m os=>by
  have hG:=((Grown.refl w).alloc (.cells #[.int .i64 3,.int .i64 u,.int .i64 (j:Int),.slice ta tn tc] 58)).quiet m os
  exact partner_any sv _ f tl x _ (hT.grown hG) (hs.grown hG) (ht.grown hG)
 have d:=fun o=>cell_up hc o
 have e2:∀ m os,(Go.Sort.grow ((w.alloc (.cells #[.int .i64 3,.int .i64 u,.int .i64 (j:Int),.slice ta tn tc] 58)).drewN m) os).cell? ⟨w.heap.size,2,none⟩=some (.int .i64 (j:Int)):=fun m os=>cell_grown (by simp) (by simp) m os
 have e3:∀ m os,(Go.Sort.grow ((w.alloc (.cells #[.int .i64 3,.int .i64 u,.int .i64 (j:Int),.slice ta tn tc] 58)).drewN m) os).cell? ⟨w.heap.size,3,none⟩=some (.slice ta tn tc):=fun m os=>cell_grown (by simp) (by simp) m os
 have e4:∀ m os,(Go.Sort.grow ((w.alloc (.cells #[.int .i64 3,.int .i64 u,.int .i64 (j:Int),.slice ta tn tc] 58)).drewN m) os).cell? ⟨kg,ko+j,none⟩=some sv:=fun m os=>(((Grown.refl _).alloc _).quiet m os).cellv hck
 generalize partU f tl x=z at HC
 clear hs ht hT hc hck
 go_enter Tryz.func116,Tryz.ntmps116
 go_wp2
 refine wp_region_quiet_grown hm (by kernel_rfl) ?_
 repeat (go_big_quiet_step ((go_at_call 142;exact grown_of (HC.out _ _))))
 refine wpQuiet_nil ?_
 intro _ hw'
 obtain ⟨⟨nq,osq⟩,hw''⟩:=hw'
 subst hw''
 go_wp2
 go_ret
 exact ⟨rfl,((Grown.refl _).alloc _).quiet _ _⟩
theorem written_any (p:Pc) (tv kv uv:Value) (key:List (List (Int × Int))) (us:List Int) (w:World) (hT:Tab w) (hk:SR w kv key) (hu:IR w uv us) (ht:Rs w tv p.tl) (hy:p.k=2∨p.k=3→0≤p.y∧p.y<key.length∧p.y<us.length):Calls Tryz.prog 116 #[.agg #[.int .i64 p.k,.int .i64 p.u,.int .i64 p.y,tv],kv,uv] w fun e w'=>e = .returned (.int .i64 (wrt key us p))∧Grown w w':=by
 obtain ⟨k,u,y,tl⟩:=p
 simp only at ht hy ⊢
 unfold wrt
 simp only
 by_cases h3:k=3
 · subst h3
   rw [if_pos rfl]
   obtain ⟨y0,y1,y2⟩:=hy (.inr rfl)
   obtain ⟨j,rfl⟩:∃ j:Nat,y=(j:Int):=⟨y.toNat,by omega⟩
   obtain ⟨ka,kc,rfl,_,hk⟩:=hk
   obtain ⟨ua,uc,rfl,_,hu⟩:=hu
   obtain ⟨kg,ko,rfl,hk2⟩:=hk.resolve_left (fun e=>by subst e;simp at y1;omega)
   obtain ⟨g,o,rfl,hu2⟩:=hu.resolve_left (fun e=>by subst e;simp at y2;omega)
   have hjk:j<key.length:=by omega
   have hju:j<us.length:=by omega
   obtain ⟨sv,hck,hs⟩:=hk2 j hjk
   have e1:keyAt key (j:Int)=key[j]:=by simp [keyAt,hjk]
   have e2:unitAt us (j:Int)=us[j]:=by simp [unitAt,hju]
   rw [e1,e2]
   exact written_pair u us[j] j tv sv key[j] tl kg ko key.length kc g o us.length uc w hT hjk hck hs ht hju (hu2 j hju)
 · rw [if_neg h3]
   by_cases h2:k=2
   · subst h2
     rw [if_pos rfl]
     obtain ⟨y0,y1,y2⟩:=hy (.inl rfl)
     obtain ⟨j,rfl⟩:∃ j:Nat,y=(j:Int):=⟨y.toNat,by omega⟩
     obtain ⟨ua,uc,rfl,_,hu⟩:=hu
     obtain ⟨g,o,rfl,hu2⟩:=hu.resolve_left (fun e=>by subst e;simp at y2;omega)
     have hju:j<us.length:=by omega
     have e2:unitAt us (j:Int)=us[j]:=by simp [unitAt,hju]
     rw [e2]
     obtain ⟨ta,tn,tc,rfl⟩:=ht.sl
     exact written_copy u us[j] j ta tn tc kv g o us.length uc w hju (hu2 j hju)
   · rw [if_neg h2]
     obtain ⟨ta,tn,tc,rfl⟩:=ht.sl
     exact written_unit k u y ta tn tc kv uv w h2 h3
theorem copy_ints (W:World) (g n sn cap:Nat) (a:Option Addr) (Z:List Value) (l:List Int) (hg:W.heap[g]? = some (.cells Z.toArray 3 (0,0))) (hZ:Z.length=n) (hv:IR W (.slice a sn cap) l) (hn:n≤sn) (B:Nat) (hB:B≤g) :
 ∃ w2,(Builtin.copy_ #[25,25] 3 #[.slice (some ⟨g,0,none⟩) n n,.slice a sn cap]).run Tryz.prog W = .ok (.int .i64 n) w2∧w2.heap[g]? = some (.cells (ints (l.take n)).toArray 3 (0,0))∧Below B W w2∧∀ k,k≠g→w2.heap[k]? = W.heap[k]? := by
 obtain ⟨a',c',e,_,hc⟩:=hv
 injection e with e1 e2 e3
 subst e1 e3
 by_cases h0:n=0
 · subst h0
   obtain rfl:Z=[]:=List.eq_nil_of_length_eq_zero hZ
   exact ⟨W,run_copy_none (P:=Tryz.prog) W 25 25 3 3 _ _ 0 0 sn cap Tryz.underlying25 size3 (by simp),by simpa [ints] using hg,Below.refl _ _,fun _ _=>rfl⟩
 · obtain ⟨gs,os,rfl,hcell⟩:=hc.resolve_left (fun e=>by rw [e] at e2;simp at e2;omega)
   have hlt:(l.take n).length=n:=by rw [List.length_take];omega
   have hrun:=run_copy_row (P:=Tryz.prog) W 25 25 3 3 g 0 n n ⟨gs,os,none⟩ sn cap Z.toArray 3 (ints (l.take n)) Tryz.underlying25 size3 hg (by rw [ints_length,hlt];exact (Nat.min_eq_right hn).symm) (fun j u hj=>by
    simp only [ints,List.getElem?_map,Option.map_eq_some_iff] at hj
    obtain ⟨x,hx,rfl⟩:=hj
    obtain ⟨hj1,hj2⟩:=List.getElem?_eq_some_iff.1 hx
    rw [hlt] at hj1
    have:=hcell j (by omega)
    rw [List.getElem_take] at hj2
    rw [hj2] at this
    unfold Addr.add
    by_cases h:j=0
    · subst h;simpa using this
    · simpa [h] using this) (by simp [ints_length,hlt,hZ]) (ints_one _)
   have hd:Z.drop n=[]:=List.drop_eq_nil_of_le (by omega)
   refine ⟨W.setRow g (ints (l.take n)).toArray,?_,setRow_heap W g _ _ 3 _ hg,below_setRow (Below.refl _ W) hB _,fun k hk=>setRow_other W g k _ hk⟩
   rw [hrun]
   simp [ints_length,hlt,goInt,hd]
end Go.Proofs
