/-
  anyMeets 135 itself; the pieces that speak of a place: speakers 102.
-/
import Derived.Test.YtcfcjljapamcoaaGreatDoorYgn
namespace Go.Proofs
open Go.RowKit Go.Shelf
set_option maxRecDepth 100000
attribute [local go_sem] Oper.semAt_some
theorem contains_any (B:Nat) (sv lv:Value) (s:List (Int × Int)) (ls:List (List (Int × Int))) (w:World) (hB:w.cell? ⟨B,0,none⟩=some sv) (hs:Rs w sv s) (hl:SR w lv ls) (hsu:Up s) (hlu:∀ x∈ls,Up x∧x.length≤10000000) (hsl:s.length≤10000000) (hll:ls.length≤1000000) :
 Calls Tryz.prog 167 #[lv,.func (.func 168) #[] #[.pointer (some ⟨B,0,none⟩)]] w fun e w'=>e = .returned (.bool (ls.any (metB s)))∧Below w.heap.size w w':=by
 have HC:Hid (Calls Tryz.prog 187 #[lv,.func (.func 168) #[] #[.pointer (some ⟨B,0,none⟩)]] w (IdxQ w (ls.any (metB s)))):=index_any B sv lv s ls w hB hs hl hsu hlu hsl hll
 obtain ⟨M,hM⟩:∃ M,ls.any (metB s)=M:=⟨_,rfl⟩
 rw [hM] at HC ⊢
 obtain ⟨a,n,c,rfl⟩:=hl.sl
 clear hs hl hsu hlu hsl hll hM hB
 go_enter Tryz.func167,Tryz.ntmps167
 go_wp2_with fail
 refine HC.out.mono ?_
 rintro e w1 ⟨i,rfl,hi,hi1,hi2,hb⟩
 have HB:Hid (Below w.heap.size w w1):=hb
 clear hb HC
 go_wp2
 go_ret
 exact ⟨rfl,HB.out⟩
theorem anyMeets_any (lv sv:Value) (s:List (Int × Int)) (ls:List (List (Int × Int))) (w:World) (hs:Rs w sv s) (hl:SR w lv ls) (hsu:Up s) (hlu:∀ x∈ls,Up x∧x.length≤10000000) (hsl:s.length≤10000000) (hll:ls.length≤1000000) :
 Calls Tryz.prog 135 #[lv,sv] w fun e w'=>e = .returned (.bool (ls.any (metB s)))∧Below w.heap.size w w':=by
 have hb0:Below w.heap.size w (w.alloc (.cells #[sv] 40)):=(Below.refl _ w).alloc (Nat.le_refl _) _
 have HC:Hid (Calls Tryz.prog 167 #[lv,.func (.func 168) #[] #[.pointer (some ⟨w.heap.size,0,none⟩)]] (w.alloc (.cells #[sv] 40)) fun e w'=>e = .returned (.bool (ls.any (metB s)))∧Below (w.alloc (.cells #[sv] 40)).heap.size (w.alloc (.cells #[sv] 40)) w'):=contains_any w.heap.size sv lv s ls _ (by rw [cell_of (World.alloc_heap_new _ _)];rfl) (hs.below hb0 (Nat.le_refl _)) (hl.below hb0 (Nat.le_refl _)) hsu hlu hsl hll
 obtain ⟨M,hM⟩:∃ M,ls.any (metB s)=M:=⟨_,rfl⟩
 rw [hM] at HC ⊢
 have hmf:∀ (fn:Fn) (first cap:Array Value) (w:World),(Instr.makeFunc fn first cap).run Tryz.prog w = .ok (.func fn first cap) w:=fun _ _ _ _=>rfl
 have HB0:Hid (Below w.heap.size w (w.alloc (.cells #[sv] 40))):=hb0
 obtain ⟨a,n,c,rfl⟩:=hl.sl
 obtain ⟨sa,sn,sc,rfl⟩:=hs.sl
 clear hs hl hsu hlu hsl hll hM hb0
 go_enter Tryz.func135,Tryz.ntmps135
 go_wp2_with fail
 refine HC.out.mono ?_
 rintro e w1 ⟨rfl,hb⟩
 have HB:Hid (Below w.heap.size w w1):=HB0.out.trans (hb.mono HB0.out.size)
 clear hb HC
 go_wp2
 go_ret
 exact ⟨rfl,HB.out⟩
def spk (r:Rl) (y:Int) (k:Nat):List Int:=((List.range k).filter fun (n:Nat)=>match r.res[n]? with | some p=>decide (p.k≠1) && decide (p.y=y) | none=>false).map fun (n:Nat)=>(n:Int)
theorem spk_succ (r:Rl) (y:Int) {k:Nat} {p:Pc} (h:r.res[k]? = some p):spk r y (k+1)=if p.k≠1∧p.y=y then spk r y k++[(k:Int)] else spk r y k:=by
 unfold spk
 rw [List.range_succ,List.filter_append,List.map_append]
 by_cases hp:p.k≠1∧p.y=y
 · rw [if_pos hp,List.filter_cons_of_pos (by rw [h];simp [hp])]
   simp
 · rw [if_neg hp,List.filter_cons_of_neg (by rw [h];simp only [Bool.and_eq_true,decide_eq_true_eq];exact hp)]
   simp
def wyVal (r:Rl) (av kv pv rv iv:Value):Value := .agg #[.bool r.bg,av,kv,pv,.bool r.en,rv,.int .i64 r.cu,iv]
def SpkQ (w:World) (r:Rl) (y:Int) (e:Ending) (w':World):Prop:=∃ v,e = .returned v∧OwnI w' w.heap.size v (spk r y r.res.length)∧Below w.heap.size w w'
set_option maxHeartbeats 4000000 in
theorem speakers_any (r:Rl) (av kv pv rv iv:Value) (y:Int) (w:World) (h:WyC w r av kv pv rv iv) (hn:r.res.length≤16):Calls Tryz.prog 102 #[wyVal r av kv pv rv iv,.int .i64 y] w (SpkQ w r y):=by
 obtain ⟨aa,an,ac,rfl⟩:=h.rr.a.sl
 obtain ⟨ka,kn,kc,rfl⟩:=h.rr.k.sl
 obtain ⟨pa,pn,pc,rfl⟩:=h.rr.p.sl
 obtain ⟨ra,rc,rfl,hrc,hrr⟩:=h.rr.r
 obtain ⟨ia,im,ic,rfl⟩:=h.im.sl
 obtain ⟨n,hnn⟩:∃ n,r.res.length=n:=⟨_,rfl⟩
 have H:Hid (r.res.length=n∧(r.res=[]∨∃ g o,ra=some ⟨g,o,none⟩∧PRd w g o r.res)):=⟨hnn,hrr⟩
 rw [hnn] at hn ⊢
 obtain ⟨W1,hW1⟩:∃ W1,w.alloc (.cells #[.bool r.bg,.slice aa an ac,.slice ka kn kc,.slice pa pn pc,.bool r.en,.slice ra n rc,.int .i64 r.cu,.slice ia im ic] 74)=W1:=⟨_,rfl⟩
 have HW:Hid (Below w.heap.size w W1):=by show Below _ _ _;rw [←hW1];exact (Below.refl _ w).alloc (Nat.le_refl _) _
 have x5:W1.cell? ⟨w.heap.size,5,none⟩=some (.slice ra n rc):=by subst hW1;rw [cell_of (World.alloc_heap_new _ _)];rfl
 clear h hnn hrc hrr
 unfold wyVal
 go_enter Tryz.func102,Tryz.ntmps102
 go_wp2
 go_loopw [5,12] (fun vv vi wr=>∃ k:Nat,vi = .int .i64 k∧k≤n∧Hid (OwnI wr W1.heap.size vv (spk r y k)∧(spk r y k).length≤k∧Below W1.heap.size W1 wr)) (fun _ vi _=>n - (intOf vi).toNat)
 case atStart=>exact ⟨0,rfl,by omega,OwnI.nil _ _,Nat.le_refl _,Below.refl _ _⟩
 case round=>
  obtain ⟨k,rfl,hk,HB⟩:=hrel
  by_cases hlt:k<n
  · have hlt':(k:Int)<(n:Int):=by omega
    have hpos:(0:Int)≤(k:Int):=by omega
    have hkl:k<r.res.length:=by rw [H.out.1];exact hlt
    obtain ⟨g,o,rfl,hP⟩:=H.out.2.resolve_left (by intro e;rw [e] at hkl;simp at hkl)
    obtain ⟨tv,p0,p1,p2,p3,hT⟩:=hP k hkl
    have hsp:=spk_succ r y (List.getElem?_eq_getElem hkl)
    obtain ⟨P,hPe⟩:∃ P,r.res[k]'hkl=P:=⟨_,rfl⟩
    rw [hPe] at p0 p1 p2 hT hsp
    have hbw:=HW.out.trans (HB.out.2.2.mono HW.out.size)
    have p0:=cell_below p0 hbw (Nat.le_refl _)
    have p1:=cell_below p1 hbw (Nat.le_refl _)
    have p2:=cell_below p2 hbw (Nat.le_refl _)
    have p3:=cell_below p3 hbw (Nat.le_refl _)
    obtain ⟨pk,pu,py,ptl⟩:=P
    simp only at p0 p1 p2 hT hsp
    obtain ⟨ta,tn,tc,rfl⟩:=hT.sl
    have HS:Hid (spk r y (k+1)=if pk≠1∧py=y then spk r y k++[(k:Int)] else spk r y k):=hsp
    obtain ⟨va,vc,rfl,_⟩:=HB.out.1.ir
    clear hPe hP hT hsp hbw hkl
    by_cases hc:pk≠1∧py=y
    · have d1:(pk != 1)=true:=by simpa using hc.1
      have hcc:=hc
      obtain ⟨hc1,hc2⟩:=hcc
      subst hc2
      have d2:(py == py)=true:=by simp
      have hbz:=HB.out.2.2.size
      have hl9:(spk r py k).length+1≤8796093022208:=by have:=HB.out.2.1;omega
      have hc0:((wr.alloc (.cells #[.int .i64 pk,.int .i64 pu,.int .i64 py,.slice ta tn tc] 64)).alloc (.cells #[.int .i64 k] 3)).cell? ⟨wr.heap.size+1,0,none⟩=some (.int .i64 k):=by
       rw [←World.size_alloc wr (.cells #[.int .i64 pk,.int .i64 pu,.int .i64 py,.slice ta tn tc] 64),cell_of (World.alloc_heap_new _ _)]
       rfl
      go_upto_region 7 with (first | (at_builtin;refine push_I rfl _ _ 49 rfl Tryz.underlying49 W1.heap.size _ (spk r py k) rfl ((HB.out.1.alloc _).alloc _) (wr.heap.size+1) 1 (k:Int) rfl hc0 hl9 ?_ ?_;rotate_left 1;intro v6 w6 hO6 hb6) | fail)
      · have HF:Hid (OwnI w6 W1.heap.size v6 (spk r py (k+1))∧(spk r py (k+1)).length≤k+1∧Below W1.heap.size W1 w6):=by
         rw [HS.out,if_pos hc]
         exact ⟨hO6,by rw [List.length_append];have:=HB.out.2.1;simp;omega,((HB.out.2.2.alloc hbz _).alloc (by rw [World.size_alloc];omega) _).trans hb6⟩
        obtain ⟨a6,c6,rfl,_⟩:=hO6.ir
        clear hO6 hb6 HB hc0
        go_wp2
        exact ⟨⟨k+1,by go_num,by omega,HF⟩,by simp [intOf];omega⟩
      · omega
    · have HF:Hid (OwnI wr W1.heap.size (.slice va (spk r y k).length vc) (spk r y (k+1))∧(spk r y (k+1)).length≤k+1∧Below W1.heap.size W1 wr):=by
       rw [HS.out,if_neg hc]
       exact ⟨HB.out.1,by have:=HB.out.2.1;omega,HB.out.2.2⟩
      have HF2:Hid (∀ o,OwnI (wr.alloc o) W1.heap.size (.slice va (spk r y k).length vc) (spk r y (k+1))∧(spk r y (k+1)).length≤k+1∧Below W1.heap.size W1 (wr.alloc o)):=fun o=>⟨HF.out.1.alloc o,HF.out.2.1,HF.out.2.2.alloc HF.out.2.2.size o⟩
      clear HF HB
      by_cases h1:pk=1
      · have d1:(pk != 1)=false:=by simpa using h1
        go_wp2
        exact ⟨⟨k+1,by go_num,by omega,HF2.out _⟩,by simp [intOf];omega⟩
      · have d1:(pk != 1)=true:=by simpa using h1
        have d2:(py == y)=false:=by simpa using fun e=>hc ⟨h1,e⟩
        go_wp2
        exact ⟨⟨k+1,by go_num,by omega,HF2.out _⟩,by simp [intOf];omega⟩
  · have hkn:Hid (k=n):=by show k=n;omega
    obtain ⟨va,vc,rfl,_⟩:=HB.out.1.ir
    have HF:Hid (SpkQ w r y (.returned (.slice va (spk r y k).length vc)) wr):=by
     refine ⟨_,rfl,?_,HW.out.trans (HB.out.2.2.mono HW.out.size)⟩
     rw [H.out.1,←hkn.out]
     exact HB.out.1.le HW.out.size
    clear HB
    go_wp2
    go_ret
    exact HF.out
end Go.Proofs
