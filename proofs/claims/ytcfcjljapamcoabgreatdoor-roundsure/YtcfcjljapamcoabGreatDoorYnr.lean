/-
  check 68: whether the ways of a pass can be gone back; if not, which rule stands in the way, and why.
-/
import Derived.Test.YtcfcjljapamcoabGreatDoorMpnr
namespace Go.Proofs
open Go.RowKit Go.Shelf
set_option maxRecDepth 100000
attribute [local go_sem] Oper.semAt_some
theorem up_low {s:List (Int × Int)} (h:Up s) (h0:∀ x∈s,0≤x.1):∀ j,j<s.length→2*(j:Int)≤(rg s j).1
 | 0,hj=>by
  rw [rg_lt hj]
  have:=h0 _ (List.getElem_mem hj)
  omega
 | j+1,hj=>by
  have h1:=up_low h h0 j (by omega)
  have h2:=up_rise h (show j<j+1 by omega) hj
  have h3:=up_at h (show j<s.length by omega)
  push_cast
  omega
theorem up_len {s:List (Int × Int)} (h:Up s) (hu:∀ u,inL s u=true→0≤u∧u≤1114367):s.length≤10000000:=by
 have hin:∀ j (hj:j<s.length),0≤(rg s j).1∧(rg s j).1≤1114367:=fun j hj=>hu _ (by
  have:=up_at h hj
  rw [rg_lt hj] at this ⊢
  exact List.any_eq_true.2 ⟨_,List.getElem_mem hj,by unfold inR;simp;omega⟩)
 rcases Nat.eq_zero_or_pos s.length with h1 | h1
 · omega
 · have h2:=up_low h (fun x hx=>by
    obtain ⟨j,hj,rfl⟩:=List.mem_iff_getElem.1 hx
    have:=hin j hj
    rw [rg_lt hj] at this
    exact this.1) (s.length - 1) (by omega)
   have h3:=hin (s.length - 1) (by omega)
   omega
def NC (rs:List Rl) (k:Nat):Prop:=∀ j y,j<k→rs[j]? = some y→∀ i x,i<j→rs[i]? = some x→clsE x y=0
inductive ChkR (rs:List Rl) (core:List (Int × Int)):Int→Int→Prop
 | wrong (k:Nat) (r:Rl):rs[k]? = some r→(∀ i x,i<k→rs[i]? = some x→wroE x core=0)→wroE r core≠0→ChkR rs core k (wroE r core)
 | clash (k i:Nat) (r x:Rl):(∀ y∈rs,wroE y core=0)→rs[k]? = some r→rs[i]? = some x→i<k→NC rs k→(∀ i' x',i'<i→rs[i']? = some x'→clsE x' r=0)→clsE x r≠0→ChkR rs core k (clsE x r)
 | fine:(∀ y∈rs,wroE y core=0)→NC rs rs.length→ChkR rs core 0 0
def ChkQ (w:World) (rs:List Rl) (e:Ending) (w':World):Prop:=∃ core i c,e = .returned (.tuple #[.int .i64 i,.int .i64 c])∧Up core∧(∀ u,inL core u=true↔∃ l∈rs.flatMap waS,inL l u=true)∧ChkR rs core i c∧Below w.heap.size w w'
structure ChC (w:World) (rs:List Rl) (a:Option Addr) (n c:Nat) (core:List (Int × Int)) (cv:Value) (w1:World):Prop where
 len:rs.length=n
 n256:n≤256
 cap:n≤c
 ok:∀ r∈rs,Ok r
 ro:rs=[]∨∃ g o,a=some ⟨g,o,none⟩∧∀ (j:Nat) (hj:j<rs.length),WyAt w g (o+j*8) rs[j]
 b1:Below w.heap.size w w1
 up:Up core
 inn:∀ u,inL core u=true↔∃ l∈rs.flatMap waS,inL l u=true
 le:core.length≤10000000
 rs:Rs w1 cv core
 tab:Tab w
theorem inL_unit {rs:List Rl} (ho:∀ r∈rs,Ok r) {u:Int} (h:∃ l∈rs.flatMap waS,inL l u=true):0≤u∧u≤1114367:=by
 obtain ⟨l,hl,hu⟩:=h
 obtain ⟨r,hr,hlr⟩:=List.mem_flatMap.1 hl
 have hk:=waS_ok (ho r hr) l hlr
 have hg:=((validB_iff l).1 (okS_valid hk)).2
 obtain ⟨x,hx,h1⟩:=List.any_eq_true.1 hu
 unfold inR at h1
 simp at h1
 have h2:=(hg.1 x hx).2
 omega
theorem run_to70 (A:Option Addr) (m c k:Nat) (h:k≤c) (W:World):(Instr.slice 62 (.slice A m c) none (some (.int .i64 k)) none).run Tryz.prog W = .ok (.slice A k c) W:=by
 rw [run_slice_h W 62 A m c (by kernel_rfl) .i64 k (by omega) (by omega),show Tryz.prog.elem 62=79 by kernel_rfl,Tryz.sizeOf79 W]
 cases A <;> simp [Result.andThen,sliced,Addr.add]
theorem WyR.at' {w:World} {a:Option Addr} {rs:List Rl} (hr:rs=[]∨∃ g o,a=some ⟨g,o,none⟩∧∀ (j:Nat) (hj:j<rs.length),WyAt w g (o+j*8) rs[j]) {k:Nat} (hk:k<rs.length):∃ g o,a=some ⟨g,o,none⟩∧WyAt w g (o+k*8) rs[k]:=by
 obtain ⟨g,o,e,h⟩:=hr.resolve_left (by rintro rfl;simp at hk)
 exact ⟨g,o,e,h k hk⟩
set_option maxHeartbeats 8000000 in
theorem checkT_any (rs:List Rl) (wv:Value) (w:World) (hT:Tab w) (hw:WyR w wv rs) (hn:rs.length≤256) (ho:∀ r∈rs,Ok r) :
 Calls Tryz.prog 32 #[wv] w (ChkQ w rs):=by
 have HC:Hid (Calls Tryz.prog 49 #[wv] w (CorQ w rs)):=core_any w wv rs hw hn ho
 obtain ⟨a,c,rfl,hc,hr⟩:=hw
 obtain ⟨n,hnn⟩:∃ n,rs.length=n:=⟨_,rfl⟩
 have H0:Hid (Tab w∧rs.length=n∧(∀ r∈rs,Ok r)∧(rs=[]∨∃ g o,a=some ⟨g,o,none⟩∧∀ (j:Nat) (hj:j<rs.length),WyAt w g (o+j*8) rs[j])):=⟨hT,hnn,ho,hr⟩
 rw [hnn] at HC hn hc ⊢
 clear hr ho hT hnn
 go_enter Tryz.func32,Tryz.ntmps32
 go_wp2_with fail
 refine HC.out.mono ?_
 rintro e w1 ⟨v,core,rfl,hO,hU,hu,hB⟩
 have HH:Hid (ChC w rs a n c core v w1):=⟨H0.out.2.1,hn,hc,H0.out.2.2.1,H0.out.2.2.2,hB,hU,hu,up_len hU (fun u h=>inL_unit H0.out.2.2.1 ((hu u).1 h)),hO.rs,H0.out.1⟩
 obtain ⟨va,vc,rfl,_⟩:=hO.rs
 obtain ⟨m,hm⟩:∃ m,core.length=m:=⟨_,rfl⟩
 rw [hm] at HH ⊢
 clear hO hU hu hB HC H0 hm
 go_wp2
 go_loopw [17] (fun vi wr=>∃ k:Nat,vi = .int .i64 k∧k≤n∧Hid (Below w1.heap.size w1 wr∧∀ i x,i<k→rs[i]? = some x→wroE x core=0)) (fun vi _=>n - (intOf vi).toNat)
 case atStart=>exact ⟨0,rfl,by omega,Below.refl _ _,fun i x hi=>by omega⟩
 case round=>
  obtain ⟨k,rfl,hk,HB⟩:=hrel
  obtain ⟨wo,hwo⟩:∃ x,x=wr:=⟨_,rfl⟩
  subst hwo
  by_cases hlt:k<n
  · have hlt':(k:Int)<(n:Int):=by omega
    have hpos:(0:Int)≤(k:Int):=by omega
    have hkl:k<rs.length:=by rw [HH.out.len];exact hlt
    obtain ⟨g,o,rfl,av,kv,pv,rv,iv,hc9,hwc⟩:=WyR.at' HH.out.ro hkl
    have hok:=HH.out.ok _ (List.getElem_mem hkl)
    have hat:=List.getElem?_eq_getElem hkl
    obtain ⟨r,hre⟩:∃ r,rs[k]'hkl=r:=⟨_,rfl⟩
    rw [hre] at hc9 hwc hok hat
    have hbo:Below w.heap.size w wo:=HH.out.b1.trans (HB.out.1.mono HH.out.b1.size)
    have HC:Hid (∀ W,Below wo.heap.size wo W→Calls Tryz.prog 50 #[wyVal r av kv pv rv iv,.slice va m vc] W fun e w'=>e = .returned (.int .i64 (wroE r core))∧Below W.heap.size W w'):=fun W hW=>by
     have h3:=hbo.trans (hW.mono hbo.size)
     have h4:=HB.out.1.trans (hW.mono HB.out.1.size)
     exact wrongT_any r av kv pv rv iv _ core W (fun j v hv=>cell_below (HH.out.tab j v hv) h3 (Nat.le_refl _)) (hwc.below h3 (Nat.le_refl _)) hok (HH.out.rs.below h4 (Nat.le_refl _)) HH.out.up HH.out.le
    unfold wyVal at HC
    have q:=fun i v hv=>cell_below (hc9 i v hv) hbo (Nat.le_refl _)
    have q0:=q 0 _ rfl
    have q1:=q 1 _ rfl
    have q2:=q 2 _ rfl
    have q3:=q 3 _ rfl
    have q4:=q 4 _ rfl
    have q5:=q 5 _ rfl
    have q6:=q 6 _ rfl
    have q7:=q 7 _ rfl
    simp only [Nat.add_zero] at q0
    obtain ⟨aa,an,ac,rfl⟩:=hwc.rr.a.sl
    obtain ⟨ka,kn,kc,rfl⟩:=hwc.rr.k.sl
    obtain ⟨pa,pn,pc,rfl⟩:=hwc.rr.p.sl
    obtain ⟨ra,rn,rc,rfl⟩:=hwc.rr.r.sl
    obtain ⟨ia,im,ic,rfl⟩:=hwc.im.sl
    obtain ⟨E,hE⟩:∃ E,wroE r core=E:=⟨_,rfl⟩
    have HR:Hid (rs[k]? = some r∧wroE r core=E):=⟨hat,hE⟩
    rw [hE] at HC
    clear q hc9 hwc hok hre hbo hat hE
    go_wp2_with fail
    refine (HC.out _ ((Below.refl _ wo).alloc (Nat.le_refl _) _)).mono ?_
    rintro e w2 ⟨rfl,hb2⟩
    have HB2:Hid (Below w1.heap.size w1 w2):=HB.out.1.trans ((((Below.refl _ wo).alloc (Nat.le_refl _) _).trans (hb2.mono (by simp))).mono HB.out.1.size)
    clear hb2 HC q0 q1 q2 q3 q4 q5 q6 q7
    by_cases h0:E=0
    · have d0:(E != 0)=false:=by simp [h0]
      have HF:Hid (Below w1.heap.size w1 w2∧∀ i x,i<k+1→rs[i]? = some x→wroE x core=0):=⟨HB2.out,fun i x hi hx=>by
       by_cases h1:i<k
       · exact HB.out.2 i x h1 hx
       · have h2:i=k:=by omega
         subst h2
         have:=HR.out.1.symm.trans hx
         injection this with this
         rw [←this,HR.out.2,h0]⟩
      clear HB HR HB2 h0
      go_wp2
      exact ⟨⟨k+1,by go_num,by omega,HF⟩,by simp [intOf];omega⟩
    · have d0:(E != 0)=true:=by simp [h0]
      have HF:Hid (∀ W,Below w1.heap.size w1 W→ChkQ w rs (.returned (.tuple #[.int .i64 k,.int .i64 E])) W):=fun W hW=>⟨core,k,E,rfl,HH.out.up,HH.out.inn,by
       have:=ChkR.wrong (core:=core) k r HR.out.1 HB.out.2 (by rw [HR.out.2];exact h0)
       rw [HR.out.2] at this
       exact this,HH.out.b1.trans (hW.mono HH.out.b1.size)⟩
      clear HB HR h0
      go_wp2
      go_ret2
      exact HF.out _ HB2.out
  · have hge:¬ (k:Int)<(n:Int):=by omega
    have HW0:Hid (Below w1.heap.size w1 wo∧∀ y∈rs,wroE y core=0):=⟨HB.out.1,fun y hy=>by
     obtain ⟨i,hi,rfl⟩:=List.mem_iff_getElem.1 hy
     exact HB.out.2 i _ (by have:=HH.out.len;omega) (List.getElem?_eq_getElem hi)⟩
    clear HB
    go_wp2
    go_loopw [32] (fun vi wr=>∃ j:Nat,vi = .int .i64 j∧j≤n∧Hid (Below w1.heap.size w1 wr∧NC rs j)) (fun vi _=>n - (intOf vi).toNat)
    case atStart=>exact ⟨0,rfl,by omega,HW0.out.1,fun j y hj=>by omega⟩
    case round=>
     obtain ⟨j,rfl,hj,HB⟩:=hrel
     obtain ⟨w5,hwo5⟩:∃ x,x=wr:=⟨_,rfl⟩
     subst hwo5
     by_cases hlt5:j<n
     · have hlt':(j:Int)<(n:Int):=by omega
       have hpos:(0:Int)≤(j:Int):=by omega
       have hkl:j<rs.length:=by rw [HH.out.len];exact hlt5
       obtain ⟨g,o,rfl,hro⟩:=HH.out.ro.resolve_left (by rintro rfl;simp at hkl)
       obtain ⟨av,kv,pv,rv,iv,hc9,hwc⟩:=hro j hkl
       have hok:=HH.out.ok _ (List.getElem_mem hkl)
       have hat:=List.getElem?_eq_getElem hkl
       obtain ⟨r,hre⟩:∃ r,rs[j]'hkl=r:=⟨_,rfl⟩
       rw [hre] at hc9 hwc hok hat
       have hbo:Below w.heap.size w w5:=HH.out.b1.trans (HB.out.1.mono HH.out.b1.size)
       have q:=fun i v hv=>cell_below (hc9 i v hv) hbo (Nat.le_refl _)
       have q0:=q 0 _ rfl
       have q1:=q 1 _ rfl
       have q2:=q 2 _ rfl
       have q3:=q 3 _ rfl
       have q4:=q 4 _ rfl
       have q5:=q 5 _ rfl
       have q6:=q 6 _ rfl
       have q7:=q 7 _ rfl
       simp only [Nat.add_zero] at q0
       obtain ⟨aa,an,ac,rfl⟩:=hwc.rr.a.sl
       obtain ⟨ka,kn,kc,rfl⟩:=hwc.rr.k.sl
       obtain ⟨pa,pn,pc,rfl⟩:=hwc.rr.p.sl
       obtain ⟨ra,rn,rc,rfl⟩:=hwc.rr.r.sl
       obtain ⟨ia,im,ic,rfl⟩:=hwc.im.sl
       have HR:Hid (rs[j]? = some r∧Ok r∧WyC w r (.slice aa an ac) (.slice ka kn kc) (.slice pa pn pc) (.slice ra rn rc) (.slice ia im ic)∧Below w.heap.size w w5∧(∀ (j:Nat) (hj:j<rs.length),WyAt w g (o+j*8) rs[j])):=⟨hat,hok,hwc,hbo,hro⟩
       have s1:∀ W,(Instr.slice 62 (.slice (some ⟨g,o,none⟩) n c) none (some (.int .i64 j)) none).run Tryz.prog W = .ok (.slice (some ⟨g,o,none⟩) j c) W:=fun W=>run_to70 _ n c j (by omega) W
       have t1:∀ W,(Instr.sliceAt 62 (.slice (some ⟨g,o,none⟩) n c) none (some (.int .i64 j)) none).run Tryz.prog W = .ok (.slice (some ⟨g,o,none⟩) j c) W:=fun W=>by
        rw [run_sliceAt_slice W 62 _ _ _ _ (by kernel_rfl)]
        exact s1 W
       obtain ⟨w6,hw6⟩:∃ w6,w5.alloc (.cells #[.bool r.bg,.slice aa an ac,.slice ka kn kc,.slice pa pn pc,.bool r.en,.slice ra rn rc,.int .i64 r.cu,.slice ia im ic] 79)=w6:=⟨_,rfl⟩
       have hb6:Below w5.heap.size w5 w6:=by rw [←hw6];exact (Below.refl _ w5).alloc (Nat.le_refl _) _
       have hbk:w6.heap[w5.heap.size]? = some (.cells #[.bool r.bg,.slice aa an ac,.slice ka kn kc,.slice pa pn pc,.bool r.en,.slice ra rn rc,.int .i64 r.cu,.slice ia im ic] 79 (0,0)):=by rw [←hw6];exact World.alloc_heap_new _ _
       have hlt6:w5.heap.size<w6.heap.size:=(Array.getElem?_eq_some_iff.1 hbk).1
       have HBX:Hid (Below w5.heap.size w5 w6∧∀ W,Below w6.heap.size w6 W→∀ i v,(#[Value.bool r.bg,.slice aa an ac,.slice ka kn kc,.slice pa pn pc,.bool r.en,.slice ra rn rc,.int .i64 r.cu,.slice ia im ic]:Array Value)[i]? = some v→W.cell? ⟨w5.heap.size,i,none⟩=some v):=⟨hb6,fun W hb i v hv=>by
        rw [cell_of ((hb.block _ hlt6).trans hbk)]
        exact hv⟩
       have h90:Hid (Below w6.heap.size w6 w6∧∀ i' x,i'<0→rs[i']? = some x→clsE x r=0):=⟨Below.refl _ _,fun i' x h=>by omega⟩
       clear q hc9 hwc hok hre hbo hat hro hlt hge hb6 hbk hlt6
       go_wp2
       clear hw6 q0 q1 q2 q3 q4 q5 q6 q7 s1 t1
       go_loopw [41] (fun vi wr=>∃ i:Nat,vi = .int .i64 i∧i≤j∧Hid (Below w6.heap.size w6 wr∧∀ i' x,i'<i→rs[i']? = some x→clsE x r=0)) (fun vi _=>j - (intOf vi).toNat)
       case atStart=>exact ⟨0,rfl,by omega,h90⟩
       case round=>
        obtain ⟨i,rfl,hi,HI⟩:=hrel
        obtain ⟨w7,hwo7⟩:∃ x,x=wr:=⟨_,rfl⟩
        subst hwo7
        clear h90
        have HB5:Hid (Below w5.heap.size w5 w7∧Below w.heap.size w w7):=by
         have h1:=HBX.out.1.trans (HI.out.1.mono HBX.out.1.size)
         exact ⟨h1,HR.out.2.2.2.1.trans (h1.mono HR.out.2.2.2.1.size)⟩
        by_cases hlt7:i<j
        · have hlt'':(i:Int)<(j:Int):=by omega
          have hpos2:(0:Int)≤(i:Int):=by omega
          have hil:i<rs.length:=by have:=HH.out.len;omega
          obtain ⟨bv,lv,qv,uv,jv,hc9,hwc⟩:=HR.out.2.2.2.2 i hil
          have hok:=HH.out.ok _ (List.getElem_mem hil)
          have hat:=List.getElem?_eq_getElem hil
          obtain ⟨x,hre⟩:∃ x,rs[i]'hil=x:=⟨_,rfl⟩
          rw [hre] at hc9 hwc hok hat
          have HC:Hid (∀ W,Below w7.heap.size w7 W→Calls Tryz.prog 51 #[wyVal x bv lv qv uv jv,wyVal r (.slice aa an ac) (.slice ka kn kc) (.slice pa pn pc) (.slice ra rn rc) (.slice ia im ic)] W fun e w'=>e = .returned (.int .i64 (clsE x r))∧Below W.heap.size W w'):=fun W hW=>by
           have h3:=HB5.out.2.trans (hW.mono HB5.out.2.size)
           exact clash_any x r bv lv qv uv jv _ _ _ _ _ W (hwc.below h3 (Nat.le_refl _)) (HR.out.2.2.1.below h3 (Nat.le_refl _)) hok HR.out.2.1
          unfold wyVal at HC
          have q:=fun i v hv=>cell_below (hc9 i v hv) HB5.out.2 (Nat.le_refl _)
          have q0:=q 0 _ rfl
          have q1:=q 1 _ rfl
          have q2:=q 2 _ rfl
          have q3:=q 3 _ rfl
          have q4:=q 4 _ rfl
          have q5:=q 5 _ rfl
          have q6:=q 6 _ rfl
          have q7:=q 7 _ rfl
          simp only [Nat.add_zero] at q0
          have z:=HBX.out.2 w7 HI.out.1
          have z0:=z 0 _ rfl
          have z1:=z 1 _ rfl
          have z2:=z 2 _ rfl
          have z3:=z 3 _ rfl
          have z4:=z 4 _ rfl
          have z5:=z 5 _ rfl
          have z6:=z 6 _ rfl
          have z7:=z 7 _ rfl
          have hsz:w5.heap.size<w7.heap.size:=by
           rcases Nat.lt_or_ge w5.heap.size w7.heap.size with h | h
           · exact h
           · exfalso
             have:=HB5.out.1.size
             rw [World.cell?] at z0
             have h2:w7.heap[w5.heap.size]? = none:=Array.getElem?_eq_none h
             rw [h2] at z0
             cases z0
          obtain ⟨ba,bn,bc,rfl⟩:=hwc.rr.a.sl
          obtain ⟨la,ln,lc,rfl⟩:=hwc.rr.k.sl
          obtain ⟨qa,qn,qc,rfl⟩:=hwc.rr.p.sl
          obtain ⟨ua,un,uc,rfl⟩:=hwc.rr.r.sl
          obtain ⟨ja,jm,jc,rfl⟩:=hwc.im.sl
          obtain ⟨E,hE⟩:∃ E,clsE x r=E:=⟨_,rfl⟩
          have HX:Hid (rs[i]? = some x∧clsE x r=E):=⟨hat,hE⟩
          rw [hE] at HC
          clear q z hc9 hwc hok hre hat hE
          go_wp2_with fail
          refine (HC.out _ ((Below.refl _ w7).alloc (Nat.le_refl _) _)).mono ?_
          rintro e w8 ⟨rfl,hb8⟩
          have HB8:Hid (Below w6.heap.size w6 w8):=HI.out.1.trans ((((Below.refl _ w7).alloc (Nat.le_refl _) _).trans (hb8.mono (by simp))).mono HI.out.1.size)
          clear hb8 HC q0 q1 q2 q3 q4 q5 q6 q7 z0 z1 z2 z3 z4 z5 z6 z7 hsz HB5
          by_cases h0:E=0
          · have d0:(E != 0)=false:=by simp [h0]
            have HF:Hid (Below w6.heap.size w6 w8∧∀ i' x,i'<i+1→rs[i']? = some x→clsE x r=0):=⟨HB8.out,fun i' y hi' hy=>by
             by_cases h1:i'<i
             · exact HI.out.2 i' y h1 hy
             · have h2:i'=i:=by omega
               subst h2
               have:=HX.out.1.symm.trans hy
               injection this with this
               rw [←this,HX.out.2,h0]⟩
            clear HI HX HB8 h0
            go_wp2
            exact ⟨⟨i+1,by go_num,by omega,HF⟩,by simp [intOf];omega⟩
          · have d0:(E != 0)=true:=by simp [h0]
            have HF:Hid (∀ W,Below w6.heap.size w6 W→ChkQ w rs (.returned (.tuple #[.int .i64 j,.int .i64 E])) W):=fun W hW=>⟨core,j,E,rfl,HH.out.up,HH.out.inn,by
             have:=ChkR.clash (core:=core) j i r x HW0.out.2 HR.out.1 HX.out.1 hlt7 HB.out.2 HI.out.2 (by rw [HX.out.2];exact h0)
             rw [HX.out.2] at this
             exact this,by
             have h1:=HBX.out.1.trans (hW.mono HBX.out.1.size)
             exact HR.out.2.2.2.1.trans (h1.mono HR.out.2.2.2.1.size)⟩
            clear HI HX h0
            go_wp2
            go_ret2
            exact HF.out _ HB8.out
        · have hge7:¬ (i:Int)<(j:Int):=by omega
          have HF:Hid (Below w1.heap.size w1 w7∧NC rs (j+1)):=⟨HB.out.1.trans (HB5.out.1.mono HB.out.1.size),fun j' y hj' hy i' x' hi' hx'=>by
           by_cases h1:j'<j
           · exact HB.out.2 j' y h1 hy i' x' hi' hx'
           · have h2:j'=j:=by omega
             subst h2
             have:=HR.out.1.symm.trans hy
             injection this with this
             rw [←this]
             exact HI.out.2 i' x' (by omega) hx'⟩
          clear HI HB HR HB5 HBX
          go_wp2
          exact ⟨⟨j+1,by go_num,by omega,HF⟩,by simp [intOf];omega⟩
     · have hge5:¬ (j:Int)<(n:Int):=by omega
       have HF:Hid (ChkQ w rs (.returned (.tuple #[.int .i64 0,.int .i64 0])) w5):=⟨core,0,0,rfl,HH.out.up,HH.out.inn,ChkR.fine HW0.out.2 (by
        have h1:=HB.out.2
        have h2:=HH.out.len
        rw [show j=rs.length by omega] at h1
        exact h1),HH.out.b1.trans (HB.out.1.mono HH.out.b1.size)⟩
       clear HB
       go_wp2
       go_ret2
       exact HF.out
end Go.Proofs
