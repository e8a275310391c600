/-
  Several texts in one (Ygr Yhr).
-/
import Derived.Test.YtcfcjljapamcoabGreatDoorYfr
namespace Go.Proofs
open Go.RowKit Go.Shelf
set_option maxRecDepth 100000
attribute [local go_sem] Oper.semAt_some
theorem closureAny (B:Nat) (sv xv:Value) (s x:List (Int × Int)) (W:World) (hB:W.cell? ⟨B,0,none⟩=some sv) (hs:Rs W sv s) (hx:Rs W xv x) (hsu:Up s) (hxu:Up x) (hsl:s.length≤10000000) (hxl:x.length≤10000000) :
 Calls Tryz.prog 104 #[xv,.pointer (some ⟨B,0,none⟩)] W fun e w'=>e = .returned (.bool (metB s x))∧Below W.heap.size W w':=by
 have HC:Hid (Calls Tryz.prog 82 #[sv,xv] W fun e w'=>e = .returned (.bool (metB s x))∧Below W.heap.size W w'):=meet_any W sv xv s x hs hx hsu hxu hsl hxl
 obtain ⟨sa,sn,sc,rfl⟩:=hs.sl
 obtain ⟨xa,xn,xc,rfl⟩:=hx.sl
 obtain ⟨M,hM⟩:∃ M,metB s x=M:=⟨_,rfl⟩
 rw [hM] at HC ⊢
 clear hs hx hM
 go_enter Tryz.func104,Tryz.ntmps104
 go_wp2_with fail
 refine HC.out.mono ?_
 rintro e w1 ⟨rfl,hb⟩
 have HB:Hid (Below W.heap.size W w1):=hb
 clear hb
 go_wp2
 go_ret
 exact ⟨rfl,HB.out⟩
def IdxQ (w:World) (M:Bool) (e:Ending) (w':World):Prop:=∃ i:Int,e = .returned (.int .i64 i)∧(decide (0≤i)=M) ∧ -1≤i∧i≤100000000∧Below w.heap.size w w'
set_option maxHeartbeats 4000000 in
theorem index_any (B:Nat) (sv lv:Value) (s:List (Int × Int)) (ls:List (List (Int × Int))) (w:World) (hB:w.cell? ⟨B,0,none⟩=some sv) (hs:Rs w sv s) (hl:SR w lv ls) (hsu:Up s) (hlu:∀ x∈ls,Up x∧x.length≤10000000) (hsl:s.length≤10000000) (hll:ls.length≤1000000) :
 Calls Tryz.prog 122 #[lv,.func (.func 104) #[] #[.pointer (some ⟨B,0,none⟩)]] w (IdxQ w (ls.any (metB s))):=by
 obtain ⟨a,cap,rfl,_,hr⟩:=hl
 obtain ⟨n,hn⟩:∃ n,ls.length=n:=⟨_,rfl⟩
 obtain ⟨M,hM⟩:∃ M,ls.any (metB s)=M:=⟨_,rfl⟩
 have eg:∀ args w,(callFunc 104 args).run Tryz.prog w = .ok (.enter 104 args) w:=enters_of Tryz.func104 (by kernel_rfl) rfl
 have H:Hid (ls.length=n∧ls.any (metB s)=M∧(ls=[]∨∃ g o,a=some ⟨g,o,none⟩∧SRd w g o ls)∧(∀ W xv x,Below w.heap.size w W→x∈ls→Rs w xv x→Calls Tryz.prog 104 #[xv,.pointer (some ⟨B,0,none⟩)] W fun e w'=>e = .returned (.bool (metB s x))∧Below W.heap.size W w')):=
  ⟨hn,hM,hr,fun W xv x hb hx hxr=>closureAny B sv xv s x W (cell_below hB hb (Nat.le_refl _)) (hs.below hb (Nat.le_refl _)) (hxr.below hb (Nat.le_refl _)) hsu (hlu x hx).1 hsl (hlu x hx).2⟩
 rw [hM,hn]
 rw [hn] at hll
 clear hs hr hsu hlu hM hn hB
 go_enter Tryz.func122,Tryz.ntmps122
 go_wp2
 go_loopw [8] (fun vi wr=>∃ k:Nat,vi = .int .i64 k∧k≤n∧Hid (Below w.heap.size w wr∧(ls.take k).any (metB s)=false)) (fun vi _=>n - (intOf vi).toNat)
 case atStart=>exact ⟨0,rfl,by omega,Below.refl _ _,rfl⟩
 case round=>
  obtain ⟨k,rfl,hk,HB⟩:=hrel
  by_cases hlt:k<n
  · have hlt':(k:Int)<(n:Int):=by omega
    have hpos:(0:Int)≤(k:Int):=by omega
    have hkl:k<ls.length:=by rw [H.out.1];exact hlt
    obtain ⟨g,o,rfl,hr⟩:=H.out.2.2.1.resolve_left (by rintro rfl;simp at hkl)
    obtain ⟨xv,cx,hx⟩:=hr k hkl
    have cx:=cell_below cx HB.out.1 (Nat.le_refl _)
    have HC:Hid (Calls Tryz.prog 104 #[xv,.pointer (some ⟨B,0,none⟩)] wr fun e w'=>e = .returned (.bool (metB s ls[k]))∧Below wr.heap.size wr w'):=H.out.2.2.2 wr xv _ HB.out.1 (List.getElem_mem hkl) hx
    have HT:Hid ((ls.take (k+1)).any (metB s)=metB s ls[k]∧(metB s ls[k]=true→ls.any (metB s)=true)):=by
     refine ⟨?_,fun h=>List.any_eq_true.2 ⟨_,List.getElem_mem hkl,h⟩⟩
     rw [List.take_succ_eq_append_getElem hkl,List.any_append,HB.out.2]
     simp
    obtain ⟨r,hr9⟩:∃ r,metB s ls[k]=r:=⟨_,rfl⟩
    rw [hr9] at HC HT
    obtain ⟨xa,xn,xc,rfl⟩:=hx.sl
    clear hr hx hr9
    go_wp2_with fail
    refine HC.out.mono ?_
    rintro e w1 ⟨rfl,hb⟩
    have HB1:Hid (Below w.heap.size w w1):=HB.out.1.trans (hb.mono HB.out.1.size)
    clear hb HB HC
    cases r with
    | true=>
     have HMt:Hid (M=true):=by show M=true;rw [←H.out.2.1];exact HT.out.2 rfl
     go_wp2
     go_ret
     exact ⟨k,rfl,by rw [HMt.out];simp,by omega,by omega,HB1.out⟩
    | false=>
     have HF:Hid (Below w.heap.size w w1∧(ls.take (k+1)).any (metB s)=false):=⟨HB1.out,HT.out.1⟩
     clear HB1 HT
     go_wp2
     exact ⟨⟨k+1,by go_num,by omega,HF⟩,by simp [intOf];omega⟩
  · have HF:Hid (M=false∧Below w.heap.size w wr):=by
     have h1:=HB.out.2
     rw [List.take_of_length_le (by rw [H.out.1];omega),H.out.2.1] at h1
     exact ⟨h1,HB.out.1⟩
    clear HB
    go_wp2
    go_ret
    exact ⟨-1,rfl,by rw [HF.out.1];rfl,by omega,by omega,HF.out.2⟩
end Go.Proofs
namespace Go.Proofs
open Go.RowKit Go.Shelf
set_option maxRecDepth 100000
attribute [local go_sem] Oper.semAt_some
theorem contains_any (B:Nat) (sv lv:Value) (s:List (Int × Int)) (ls:List (List (Int × Int))) (w:World) (hB:w.cell? ⟨B,0,none⟩=some sv) (hs:Rs w sv s) (hl:SR w lv ls) (hsu:Up s) (hlu:∀ x∈ls,Up x∧x.length≤10000000) (hsl:s.length≤10000000) (hll:ls.length≤1000000) :
 Calls Tryz.prog 103 #[lv,.func (.func 104) #[] #[.pointer (some ⟨B,0,none⟩)]] w fun e w'=>e = .returned (.bool (ls.any (metB s)))∧Below w.heap.size w w':=by
 have HC:Hid (Calls Tryz.prog 122 #[lv,.func (.func 104) #[] #[.pointer (some ⟨B,0,none⟩)]] w (IdxQ w (ls.any (metB s)))):=index_any B sv lv s ls w hB hs hl hsu hlu hsl hll
 obtain ⟨M,hM⟩:∃ M,ls.any (metB s)=M:=⟨_,rfl⟩
 rw [hM] at HC ⊢
 obtain ⟨a,n,c,rfl⟩:=hl.sl
 clear hs hl hsu hlu hsl hll hM hB
 go_enter Tryz.func103,Tryz.ntmps103
 go_wp2_with fail
 refine HC.out.mono ?_
 rintro e w1 ⟨i,rfl,hi,hi1,hi2,hb⟩
 have HB:Hid (Below w.heap.size w w1):=hb
 clear hb HC
 go_wp2
 go_ret
 exact ⟨rfl,HB.out⟩
theorem anyMeets_any (lv sv:Value) (s:List (Int × Int)) (ls:List (List (Int × Int))) (w:World) (hs:Rs w sv s) (hl:SR w lv ls) (hsu:Up s) (hlu:∀ x∈ls,Up x∧x.length≤10000000) (hsl:s.length≤10000000) (hll:ls.length≤1000000) :
 Calls Tryz.prog 78 #[lv,sv] w fun e w'=>e = .returned (.bool (ls.any (metB s)))∧Below w.heap.size w w':=by
 have hb0:Below w.heap.size w (w.alloc (.cells #[sv] 39)):=(Below.refl _ w).alloc (Nat.le_refl _) _
 have HC:Hid (Calls Tryz.prog 103 #[lv,.func (.func 104) #[] #[.pointer (some ⟨w.heap.size,0,none⟩)]] (w.alloc (.cells #[sv] 39)) fun e w'=>e = .returned (.bool (ls.any (metB s)))∧Below (w.alloc (.cells #[sv] 39)).heap.size (w.alloc (.cells #[sv] 39)) w'):=contains_any w.heap.size sv lv s ls _ (by rw [cell_of (World.alloc_heap_new _ _)];rfl) (hs.below hb0 (Nat.le_refl _)) (hl.below hb0 (Nat.le_refl _)) hsu hlu hsl hll
 obtain ⟨M,hM⟩:∃ M,ls.any (metB s)=M:=⟨_,rfl⟩
 rw [hM] at HC ⊢
 have hmf:∀ (fn:Fn) (first cap:Array Value) (w:World),(Instr.makeFunc fn first cap).run Tryz.prog w = .ok (.func fn first cap) w:=fun _ _ _ _=>rfl
 have HB0:Hid (Below w.heap.size w (w.alloc (.cells #[sv] 39))):=hb0
 obtain ⟨a,n,c,rfl⟩:=hl.sl
 obtain ⟨sa,sn,sc,rfl⟩:=hs.sl
 clear hs hl hsu hlu hsl hll hM hb0
 go_enter Tryz.func78,Tryz.ntmps78
 go_wp2_with fail
 refine HC.out.mono ?_
 rintro e w1 ⟨rfl,hb⟩
 have HB:Hid (Below w.heap.size w w1):=HB0.out.trans (hb.mono HB0.out.size)
 clear hb HC
 go_wp2
 go_ret
 exact ⟨rfl,HB.out⟩
def spk (r:Rl) (y:Int) (k:Nat):List Int:=((List.range k).filter fun (n:Nat)=>match r.res[n]? with | some p=>decide (p.k≠1) && decide (p.y=y) | none=>false).map fun (n:Nat)=>(n:Int)
theorem spk_succ (r:Rl) (y:Int) {k:Nat} {p:Pc} (h:r.res[k]? = some p):spk r y (k+1)=if p.k≠1∧p.y=y then spk r y k++[(k:Int)] else spk r y k:=by
 unfold spk
 rw [List.range_succ,List.filter_append,List.map_append]
 by_cases hp:p.k≠1∧p.y=y
 · rw [if_pos hp,List.filter_cons_of_pos (by rw [h];simp [hp])]
   simp
 · rw [if_neg hp,List.filter_cons_of_neg (by rw [h];simp only [Bool.and_eq_true,decide_eq_true_eq];exact hp)]
   simp
def wyVal (r:Rl) (av kv pv rv iv:Value):Value := .agg #[.bool r.bg,av,kv,pv,.bool r.en,rv,.int .i64 r.cu,iv]
def SpkQ (w:World) (r:Rl) (y:Int) (e:Ending) (w':World):Prop:=∃ v,e = .returned v∧OwnI w' w.heap.size v (spk r y r.res.length)∧Below w.heap.size w w'
set_option maxHeartbeats 4000000 in
theorem speakers_any (r:Rl) (av kv pv rv iv:Value) (y:Int) (w:World) (h:WyC w r av kv pv rv iv) (hn:r.res.length≤16):Calls Tryz.prog 90 #[wyVal r av kv pv rv iv,.int .i64 y] w (SpkQ w r y):=by
 obtain ⟨aa,an,ac,rfl⟩:=h.rr.a.sl
 obtain ⟨ka,kn,kc,rfl⟩:=h.rr.k.sl
 obtain ⟨pa,pn,pc,rfl⟩:=h.rr.p.sl
 obtain ⟨ra,rc,rfl,hrc,hrr⟩:=h.rr.r
 obtain ⟨ia,im,ic,rfl⟩:=h.im.sl
 obtain ⟨n,hnn⟩:∃ n,r.res.length=n:=⟨_,rfl⟩
 have H:Hid (r.res.length=n∧(r.res=[]∨∃ g o,ra=some ⟨g,o,none⟩∧PRd w g o r.res)):=⟨hnn,hrr⟩
 rw [hnn] at hn ⊢
 obtain ⟨W1,hW1⟩:∃ W1,w.alloc (.cells #[.bool r.bg,.slice aa an ac,.slice ka kn kc,.slice pa pn pc,.bool r.en,.slice ra n rc,.int .i64 r.cu,.slice ia im ic] 79)=W1:=⟨_,rfl⟩
 have HW:Hid (Below w.heap.size w W1):=by show Below _ _ _;rw [←hW1];exact (Below.refl _ w).alloc (Nat.le_refl _) _
 have x5:W1.cell? ⟨w.heap.size,5,none⟩=some (.slice ra n rc):=by subst hW1;rw [cell_of (World.alloc_heap_new _ _)];rfl
 clear h hnn hrc hrr
 unfold wyVal
 go_enter Tryz.func90,Tryz.ntmps90
 go_wp2
 go_loopw [5,12] (fun vv vi wr=>∃ k:Nat,vi = .int .i64 k∧k≤n∧Hid (OwnI wr W1.heap.size vv (spk r y k)∧(spk r y k).length≤k∧Below W1.heap.size W1 wr)) (fun _ vi _=>n - (intOf vi).toNat)
 case atStart=>exact ⟨0,rfl,by omega,OwnI.nil _ _,Nat.le_refl _,Below.refl _ _⟩
 case round=>
  obtain ⟨k,rfl,hk,HB⟩:=hrel
  by_cases hlt:k<n
  · have hlt':(k:Int)<(n:Int):=by omega
    have hpos:(0:Int)≤(k:Int):=by omega
    have hkl:k<r.res.length:=by rw [H.out.1];exact hlt
    obtain ⟨g,o,rfl,hP⟩:=H.out.2.resolve_left (by intro e;rw [e] at hkl;simp at hkl)
    obtain ⟨tv,p0,p1,p2,p3,hT⟩:=hP k hkl
    have hsp:=spk_succ r y (List.getElem?_eq_getElem hkl)
    obtain ⟨P,hPe⟩:∃ P,r.res[k]'hkl=P:=⟨_,rfl⟩
    rw [hPe] at p0 p1 p2 hT hsp
    have hbw:=HW.out.trans (HB.out.2.2.mono HW.out.size)
    have p0:=cell_below p0 hbw (Nat.le_refl _)
    have p1:=cell_below p1 hbw (Nat.le_refl _)
    have p2:=cell_below p2 hbw (Nat.le_refl _)
    have p3:=cell_below p3 hbw (Nat.le_refl _)
    obtain ⟨pk,pu,py,ptl⟩:=P
    simp only at p0 p1 p2 hT hsp
    obtain ⟨ta,tn,tc,rfl⟩:=hT.sl
    have HS:Hid (spk r y (k+1)=if pk≠1∧py=y then spk r y k++[(k:Int)] else spk r y k):=hsp
    obtain ⟨va,vc,rfl,_⟩:=HB.out.1.ir
    clear hPe hP hT hsp hbw hkl
    by_cases hc:pk≠1∧py=y
    · have d1:(pk != 1)=true:=by simpa using hc.1
      have hcc:=hc
      obtain ⟨hc1,hc2⟩:=hcc
      subst hc2
      have d2:(py == py)=true:=by simp
      have hbz:=HB.out.2.2.size
      have hl9:(spk r py k).length+1≤8796093022208:=by have:=HB.out.2.1;omega
      have hc0:((wr.alloc (.cells #[.int .i64 pk,.int .i64 pu,.int .i64 py,.slice ta tn tc] 58)).alloc (.cells #[.int .i64 k] 3)).cell? ⟨wr.heap.size+1,0,none⟩=some (.int .i64 k):=by
       rw [←World.size_alloc wr (.cells #[.int .i64 pk,.int .i64 pu,.int .i64 py,.slice ta tn tc] 58),cell_of (World.alloc_heap_new _ _)]
       rfl
      go_upto_region 7 with (first | (at_builtin;refine push_I rfl _ _ 25 rfl Tryz.underlying25 W1.heap.size _ (spk r py k) rfl ((HB.out.1.alloc _).alloc _) (wr.heap.size+1) 1 (k:Int) rfl hc0 hl9 ?_ ?_;rotate_left 1;intro v6 w6 hO6 hb6) | fail)
      · have HF:Hid (OwnI w6 W1.heap.size v6 (spk r py (k+1))∧(spk r py (k+1)).length≤k+1∧Below W1.heap.size W1 w6):=by
         rw [HS.out,if_pos hc]
         exact ⟨hO6,by rw [List.length_append];have:=HB.out.2.1;simp;omega,((HB.out.2.2.alloc hbz _).alloc (by rw [World.size_alloc];omega) _).trans hb6⟩
        obtain ⟨a6,c6,rfl,_⟩:=hO6.ir
        clear hO6 hb6 HB hc0
        go_wp2
        exact ⟨⟨k+1,by go_num,by omega,HF⟩,by simp [intOf];omega⟩
      · omega
    · have HF:Hid (OwnI wr W1.heap.size (.slice va (spk r y k).length vc) (spk r y (k+1))∧(spk r y (k+1)).length≤k+1∧Below W1.heap.size W1 wr):=by
       rw [HS.out,if_neg hc]
       exact ⟨HB.out.1,by have:=HB.out.2.1;omega,HB.out.2.2⟩
      have HF2:Hid (∀ o,OwnI (wr.alloc o) W1.heap.size (.slice va (spk r y k).length vc) (spk r y (k+1))∧(spk r y (k+1)).length≤k+1∧Below W1.heap.size W1 (wr.alloc o)):=fun o=>⟨HF.out.1.alloc o,HF.out.2.1,HF.out.2.2.alloc HF.out.2.2.size o⟩
      clear HF HB
      by_cases h1:pk=1
      · have d1:(pk != 1)=false:=by simpa using h1
        go_wp2
        exact ⟨⟨k+1,by go_num,by omega,HF2.out _⟩,by simp [intOf];omega⟩
      · have d1:(pk != 1)=true:=by simpa using h1
        have d2:(py == y)=false:=by simpa using fun e=>hc ⟨h1,e⟩
        go_wp2
        exact ⟨⟨k+1,by go_num,by omega,HF2.out _⟩,by simp [intOf];omega⟩
  · have hkn:Hid (k=n):=by show k=n;omega
    obtain ⟨va,vc,rfl,_⟩:=HB.out.1.ir
    have HF:Hid (SpkQ w r y (.returned (.slice va (spk r y k).length vc)) wr):=by
     refine ⟨_,rfl,?_,HW.out.trans (HB.out.2.2.mono HW.out.size)⟩
     rw [H.out.1,←hkn.out]
     exact HB.out.1.le HW.out.size
    clear HB
    go_wp2
    go_ret
    exact HF.out
end Go.Proofs
