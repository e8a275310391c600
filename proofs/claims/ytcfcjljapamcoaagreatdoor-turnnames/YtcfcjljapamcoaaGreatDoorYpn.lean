/-
  free 83: whether a way's rule fits wherever a unit of its key stands.
-/
import Derived.Test.YtcfcjljapamcoaaGreatDoorYnn
namespace Go.Proofs
open Go.RowKit Go.Shelf
set_option maxRecDepth 100000
attribute [local go_sem] Oper.semAt_some
def freeB (r:Rl):Bool:=decide (r.key.length=1) && decide (r.ante.length=0) && decide (r.post.length=0) && !r.bg && !r.en
set_option maxHeartbeats 8000000 in
theorem free_any (r:Rl) (av kv pv rv iv:Value) (w:World) (h:WyC w r av kv pv rv iv) (ho:Ok r) :
 Calls Tryz.prog 83 #[wyVal r av kv pv rv iv] w fun e w'=>e = .returned (.bool (freeB r))∧Below w.heap.size w w':=by
 obtain ⟨aa,ac,rfl,_,_⟩:=h.rr.a
 obtain ⟨ka,kc,rfl,_,_⟩:=h.rr.k
 obtain ⟨pa,pc,rfl,_,_⟩:=h.rr.p
 obtain ⟨ra,rn,rc,rfl⟩:=h.rr.r.sl
 obtain ⟨ia,im,ic,rfl⟩:=h.im.sl
 obtain ⟨F,hF⟩:∃ F,freeB r=F:=⟨_,rfl⟩
 obtain ⟨an,han⟩:∃ an,r.ante.length=an:=⟨_,rfl⟩
 obtain ⟨kn,hkn⟩:∃ kn,r.key.length=kn:=⟨_,rfl⟩
 obtain ⟨pn,hpn⟩:∃ pn,r.post.length=pn:=⟨_,rfl⟩
 obtain ⟨bg,hbg⟩:∃ bg,r.bg=bg:=⟨_,rfl⟩
 obtain ⟨en,hen⟩:∃ en,r.en=en:=⟨_,rfl⟩
 have ha8:(an:Int)≤8:=by have:=ho.a8;omega
 have hk8:(kn:Int)≤8:=by have:=ho.k8;omega
 have hp8:(pn:Int)≤8:=by have:=ho.p8;omega
 have HF:Hid (F=(decide (kn=1) && decide (an=0) && decide (pn=0) && !bg && !en)):=by
  show F=_
  rw [←hF,freeB,hkn,han,hpn,hbg,hen]
 rw [hF,han,hkn,hpn]
 unfold wyVal
 rw [hbg,hen]
 clear hF han hkn hpn h ho hbg hen
 obtain ⟨W1,hW1⟩:∃ W1,w.alloc (.cells #[.bool bg,.slice aa an ac,.slice ka kn kc,.slice pa pn pc,.bool en,.slice ra rn rc,.int .i64 r.cu,.slice ia im ic] 74)=W1:=⟨_,rfl⟩
 have HW:Hid (Below w.heap.size w W1):=by show Below _ _ _;rw [←hW1];exact (Below.refl _ w).alloc (Nat.le_refl _) _
 have hbk:W1.heap[w.heap.size]? = some (.cells #[.bool bg,.slice aa an ac,.slice ka kn kc,.slice pa pn pc,.bool en,.slice ra rn rc,.int .i64 r.cu,.slice ia im ic] 74 (0,0)):=by rw [←hW1];exact World.alloc_heap_new _ _
 have x0:W1.cell? ⟨w.heap.size,0,none⟩=some (.bool bg):=by rw [cell_of hbk];rfl
 have x1:W1.cell? ⟨w.heap.size,1,none⟩=some (.slice aa an ac):=by rw [cell_of hbk];rfl
 have x2:W1.cell? ⟨w.heap.size,2,none⟩=some (.slice ka kn kc):=by rw [cell_of hbk];rfl
 have x3:W1.cell? ⟨w.heap.size,3,none⟩=some (.slice pa pn pc):=by rw [cell_of hbk];rfl
 have x4:W1.cell? ⟨w.heap.size,4,none⟩=some (.bool en):=by rw [cell_of hbk];rfl
 clear hbk
 by_cases h1:kn=1
 · subst h1
   by_cases h2:an=0
   · subst h2
     by_cases h3:pn=0
     · subst h3
       cases bg with
       | true=>
        go_enter Tryz.func83,Tryz.ntmps83
        go_wp2
        go_ret
        exact ⟨by rw [HF.out];rfl,HW.out⟩
       | false=>
        cases en with
        | true=>
         go_enter Tryz.func83,Tryz.ntmps83
         go_wp2
         go_ret
         exact ⟨by rw [HF.out];rfl,HW.out⟩
        | false=>
         go_enter Tryz.func83,Tryz.ntmps83
         go_wp2
         go_ret
         exact ⟨by rw [HF.out];rfl,HW.out⟩
     · have d3:((pn:Int) == 0)=false:=by simp;omega
       have n3:¬ ((pn:Int)=0):=by omega
       go_enter Tryz.func83,Tryz.ntmps83
       go_wp2
       go_ret
       exact ⟨by rw [HF.out];simp [h3],HW.out⟩
   · have d2:((an:Int) == 0)=false:=by simp;omega
     have n2:¬ ((an:Int)=0):=by omega
     go_enter Tryz.func83,Tryz.ntmps83
     go_wp2
     go_ret
     exact ⟨by rw [HF.out];simp [h2],HW.out⟩
 · have d1:((kn:Int) == 1)=false:=by simp;omega
   have n1:¬ ((kn:Int)=1):=by omega
   go_enter Tryz.func83,Tryz.ntmps83
   go_wp2
   go_ret
   exact ⟨by rw [HF.out];simp [h1],HW.out⟩
end Go.Proofs
