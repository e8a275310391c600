/-
  Several texts in one (R0r Y5r Y6r).
-/
import Derived.Test.YtcfcjljapamcoabGreatDoorMggr
import Derived.Test.YtcfcjljapamcoabGreatDoorMpcr
import Derived.Test.YtcfcjljapamcoabGreatDoorMpdr
import Derived.Test.YtcfcjljapamcoabGreatDoorWbr
import Derived.Test.YtcfcjljapamcoabGreatDoorMgar
namespace Go.Proofs
open Go.RowKit Go.Shelf
set_option maxRecDepth 100000
attribute [local go_sem] Oper.semAt_some
structure Com (a b:ByteArray) (n:Nat):Prop where
 la:n≤a.size
 lb:n≤b.size
 eq:∀ i,i<n→a.get! i=b.get! i
 ne:n<a.size→n<b.size→a.get! n≠b.get! n
theorem Com.one {a b:ByteArray} {m n:Nat} (h:Com a b m) (k:Com a b n):m=n:=by
 have h1:=h.la
 have h2:=h.lb
 have k1:=k.la
 have k2:=k.lb
 rcases Nat.lt_trichotomy m n with e | e | e
 · exact absurd (k.eq m e) (h.ne (by omega) (by omega))
 · exact e
 · exact absurd (h.eq n e) (k.ne (by omega) (by omega))
set_option maxHeartbeats 2000000 in
theorem common_any (a b:ByteArray) (w:World) (hb:b.size≤1000000000):Calls Tryz.prog 17 #[.string a,.string b] w fun e w'=>∃ n:Nat,e = .returned (.int .i64 n)∧Com a b n∧Below w.heap.size w w':=by
 obtain ⟨m,hm⟩:∃ m,min a.size b.size=m:=⟨_,rfl⟩
 have hmI:min (a.size:Int) (b.size:Int)=(m:Int):=by omega
 have hma:m≤a.size:=by omega
 have hmb:m≤b.size:=by omega
 have HM:Hid (m=a.size∨m=b.size):=by show _∨_;omega
 have hm9:m≤1000000000:=by omega
 clear hm hb
 go_enter Tryz.func17,Tryz.ntmps17
 go_wp2
 go_loopw [5] (fun vi wr=>∃ k:Nat,vi = .int .i64 k∧k≤m∧Hid (Below w.heap.size w wr∧∀ i,i<k→a.get! i=b.get! i)) (fun vi _=>m - (intOf vi).toNat)
 case atStart=>exact ⟨0,rfl,by omega,Below.refl _ _,fun i hi=>by omega⟩
 case round=>
  obtain ⟨k,rfl,hk,HB⟩:=hrel
  have hpos:(0:Int)≤(k:Int):=by omega
  by_cases hlt:k<m
  · have hlt':(k:Int)<(m:Int):=by omega
    have hka:k<a.size:=by omega
    have hkb:k<b.size:=by omega
    have ga:=get_bang a k hka
    have gb:=get_bang b k hkb
    by_cases hc:a.get! k=b.get! k
    · have hd:(((a[k]'hka).toNat:Int) == ((b[k]'hkb).toNat:Int))=true:=by rw [←ga,←gb,hc];simp
      have HF:Hid (Below w.heap.size w wr∧∀ i,i<k+1→a.get! i=b.get! i):=⟨HB.out.1,fun i hi=>by
       rcases Nat.lt_succ_iff_lt_or_eq.1 hi with h | h
       · exact HB.out.2 i h
       · rw [h];exact hc⟩
      have HD:Hid (∀ q,Below w.heap.size w (wr.drewN q)):=fun q=>HF.out.1.trans ((show Below wr.heap.size wr (wr.drewN q) from ⟨rfl,rfl,rfl,Nat.le_refl _,fun _ _=>rfl⟩).mono HF.out.1.size)
      clear HB ga gb
      go_upto_region 2 with fail
      go_quiet (fail)
      go_wp2
      exact ⟨⟨k+1,by go_num,by omega,HD.out _,HF.out.2⟩,by simp [intOf];omega⟩
    · have HF:Hid (Com a b k∧Below w.heap.size w wr):=⟨⟨by omega,by omega,HB.out.2,fun _ _=>hc⟩,HB.out.1⟩
      have hd:(((a[k]'hka).toNat:Int) == ((b[k]'hkb).toNat:Int))=false:=by
       rw [←ga,←gb,beq_eq_false_iff_ne]
       intro e
       exact hc (UInt8.toNat_inj.1 (by omega))
      have HD:Hid (∀ q,Below w.heap.size w (wr.drewN q)):=fun q=>HF.out.2.trans ((show Below wr.heap.size wr (wr.drewN q) from ⟨rfl,rfl,rfl,Nat.le_refl _,fun _ _=>rfl⟩).mono HF.out.2.size)
      clear HB ga gb
      go_upto_region 2 with fail
      go_quiet (fail)
      go_wp2
      go_ret
      exact ⟨k,rfl,HF.out.1,HD.out _⟩
  · have HF:Hid (Com a b k∧Below w.heap.size w wr):=⟨⟨by omega,by omega,HB.out.2,fun _ _=>by have:=HM.out;omega⟩,HB.out.1⟩
    have hge:¬ (k:Int)<(m:Int):=by omega
    have HD:Hid (∀ q,Below w.heap.size w (wr.drewN q)):=fun q=>HF.out.2.trans ((show Below wr.heap.size wr (wr.drewN q) from ⟨rfl,rfl,rfl,Nat.le_refl _,fun _ _=>rfl⟩).mono HF.out.2.size)
    clear HB
    go_upto_region 2 with fail
    go_quiet (fail)
    go_wp2
    go_ret
    exact ⟨k,rfl,HF.out.1,HD.out _⟩
def allB (l:List (Int × Int)) (us:List (Nat × Nat)):Bool:=us.all fun x=>hasB l (x.2:Int)
theorem closure64 (B:Nat) (v:Value) (l:List (Int × Int)) (u:Int) (W:World) (hT:Tab W) (hB:W.cell? ⟨B,0,none⟩=some v) (h:Rs W v l):Calls Tryz.prog 14 #[.int .i64 u,.pointer (some ⟨B,0,none⟩)] W fun e w'=>e = .returned (.bool (hasB l u))∧Grown W w':=by
 have HC:Hid (Calls Tryz.prog 15 #[v,.int .i64 u] W fun e w'=>e = .returned (.bool (hasB l u))∧Grown W w'):=has_any v l u W hT h
 obtain ⟨M,hM⟩:∃ M,hasB l u=M:=⟨_,rfl⟩
 rw [hM] at HC ⊢
 obtain ⟨a,n,c,rfl⟩:=h.sl
 clear h hM hT
 go_enter Tryz.func14,Tryz.ntmps14
 go_wp2_with fail
 refine HC.out.mono ?_
 rintro e w1 ⟨rfl,hb⟩
 have HB:Hid (Grown W w1):=hb
 clear hb
 go_wp2
 go_ret
 exact ⟨rfl,HB.out⟩
set_option maxHeartbeats 4000000 in
theorem every_any (s:ByteArray) (B:Nat) (v:Value) (l:List (Int × Int)) (w:World) (hs:s.size≤1000000000) (hT:Tab w) (hB:w.cell? ⟨B,0,none⟩=some v) (h:Rs w v l) :
 Calls Tryz.prog 13 #[.string s,.func (.func 14) #[] #[.pointer (some ⟨B,0,none⟩)]] w fun e w'=>e = .returned (.bool (allB l (units s)))∧Below w.heap.size w w':=by
 have eg:∀ args w,(callFunc 14 args).run Tryz.prog w = .ok (.enter 14 args) w:=enters_of Tryz.func14 (by kernel_rfl) rfl
 have hsI:(s.size:Int)≤1000000000:=by omega
 have HC0:Hid (∀ W u,Below w.heap.size w W→Calls Tryz.prog 14 #[.int .i64 u,.pointer (some ⟨B,0,none⟩)] W fun e w'=>e = .returned (.bool (hasB l u))∧Below W.heap.size W w'):=fun W u hb=>(closure64 B v l u W (fun j v hv=>cell_below (hT j v hv) hb (Nat.le_refl _)) (cell_below hB hb (Nat.le_refl _)) (h.below hb (Nat.le_refl _))).mono fun e w' ⟨h1,h2⟩=>⟨h1,h2.below⟩
 obtain ⟨R,hR⟩:∃ R,allB l (units s)=R:=⟨_,rfl⟩
 rw [hR]
 have HR:Hid (allB l (units s)=R):=hR
 obtain ⟨bx,hbx⟩:∃ bx,w.heap.size=bx:=⟨_,rfl⟩
 have HBX:=Hid.mk' hbx
 clear hT hB h hR
 go_enter Tryz.func13,Tryz.ntmps13
 go_wp2
 skip
 clear hbx
 go_loopw [5,6,7] (fun _ _ _ wr=>∃ (done:List (Nat × Nat)) (p k:Nat),wr.heap[bx]? = some (.stringIter s p)∧Hid (units s=done++unitsN s k p)∧s.size≤p+k∧Hid (allB l done=true∧Below bx w wr)) (fun _ _ _ wr=>s.size - wr.iterPos bx)
 case atStart=>
  refine ⟨[],0,s.size,?_,rfl,by omega,rfl,?_⟩
  · have:=World.iter_heap w s 0;rw [HBX.out] at this;exact this
  · have:=(Below.refl w.heap.size w).alloc (Nat.le_refl _) (.stringIter s 0);rw [HBX.out] at this;exact this
 case round=>
  obtain ⟨done,p,k,hit,HU,hk,HO⟩:=hrel
  have hz:bx<wr.heap.size:=blk_lt hit
  by_cases hp:p<s.size
  · obtain ⟨k,rfl⟩:∃ j,k=j+1:=⟨k - 1,by omega⟩
    have hnx:∀ ty,(Instr.next (.pointer (some ⟨bx,0,none⟩)) true ty).run Tryz.prog wr=_:=fun ty=>Lib.run_next_any_at wr bx s p ty hit hp
    have hit2:=Lib.iterAt_heap wr bx s p (p+(Utf8.decode s p).2) hit
    have hpos:=uw_pos s p
    have HM:Hid (∀ W:World,W.heap[bx]? = some (.stringIter s (p+uw s p))→s.size - W.iterPos bx<s.size - wr.iterPos bx):=fun W hW=>by rw [iterPos_of hit,iterPos_of hW];omega
    have HU2:Hid (units s=(done++[(p,uAt s p)])++unitsN s k (p+uw s p)):=by
     show units s=(done++[(p,uAt s p)])++unitsN s k (p+uw s p)
     rw [HU.out,unitsN_step s k p hp];simp
    obtain ⟨W1,hW1⟩:∃ W1,W1=wr.iterAt bx s (p+(Utf8.decode s p).2):=⟨_,rfl⟩
    have hB1:Below bx w W1:=by rw [hW1];exact Lib.below_iterAt HO.out.2 (Nat.le_refl _) s _
    have hz1:bx+1≤W1.heap.size:=by rw [hW1,Lib.iterAt_size];omega
    rw [←hW1] at hit2 hnx
    have HE:Hid (∀ w3,Below W1.heap.size W1 w3→w3.heap[bx]? = some (.stringIter s (p+uw s p))∧Below bx w w3):=fun w3 h2=>⟨(h2.block bx (by omega)).trans hit2,hB1.trans (h2.mono (by omega))⟩
    have pI:(p:Int)<(s.size:Int):=by omega
    have HF:Hid (∀ W,Below W1.heap.size W1 W→Calls Tryz.prog 25 #[.string (s.extract p s.size)] W fun e w'=>∃ z,e = .returned (.tuple #[.int .i64 (uAt s p:Int),.int .i64 z])∧Below W1.heap.size W1 w'):=fun W hb=>by
     refine (first_any (s.extract p s.size) W (by have:(s.extract p s.size).size=s.size - p:=by simp [ByteArray.size_extract]
                                                  unfold maxLen;omega)).mono ?_
     rintro e w' ⟨rfl,hb2⟩
     exact ⟨_,by rw [firstU_tail s p hp],hb.trans (hb2.mono hb.size)⟩
    have HC:Hid (∀ W,Below W1.heap.size W1 W→Calls Tryz.prog 14 #[.int .i64 (uAt s p:Int),.pointer (some ⟨B,0,none⟩)] W fun e w'=>e = .returned (.bool (hasB l (uAt s p:Int)))∧Below W1.heap.size W1 w'):=fun W hb=>by
     refine (HC0.out W _ ?_).mono ?_
     · have:=(HE.out W hb).2
       rw [HBX.out]
       exact this
     · rintro e w' ⟨h1,h2⟩
       exact ⟨h1,hb.trans (h2.mono hb.size)⟩
    obtain ⟨r,hr⟩:∃ r,hasB l (uAt s p:Int)=r:=⟨_,rfl⟩
    have HA:Hid (allB l (done++[(p,uAt s p)])=r):=by
     show _=_
     have:=HO.out.1
     unfold allB at this ⊢
     rw [List.all_append,this,←hr]
     simp
    have HN:Hid (r=false→R=false):=fun e=>by
     rw [←HR.out,HU2.out]
     have h1:=HA.out
     rw [e] at h1
     unfold allB at h1 ⊢
     rw [List.all_append,h1]
     rfl
    rw [hr] at HC
    obtain ⟨ua,hua⟩:∃ u,uAt s p=u:=⟨_,rfl⟩
    rw [hua] at HF HC HU2 HA
    clear hW1 hB1 hit hit2 HO HU hpos hr hua
    go_wp2_with (first
     | (go_at_call 25
        refine (HF.out _ (Below.refl _ _)).mono ?_
        rintro e w2 ⟨z,rfl,hb2⟩
        have HB2:=Hid.mk' hb2
        clear hb2)
     | fail)
    refine (HC.out _ HB2.out).mono ?_
    rintro e w3 ⟨rfl,hb3⟩
    have HB3:=Hid.mk' (HE.out _ hb3)
    clear hb3 HB2
    cases r with
    | true=>
     go_wp2
     exact ⟨⟨_,_,k,HB3.out.1,HU2,by have:=uw_pos s p;omega,HA.out,HB3.out.2⟩,HM.out _ HB3.out.1⟩
    | false=>
     have HZ:Hid (R=false∧Below w.heap.size w w3):=⟨HN.out rfl,by rw [HBX.out];exact HB3.out.2⟩
     go_wp2
     go_ret
     exact ⟨by rw [HZ.out.1];rfl,HZ.out.2⟩
  · have hnx:∀ ty,(Instr.next (.pointer (some ⟨bx,0,none⟩)) true ty).run Tryz.prog wr=_:=fun ty=>Lib.run_next_end_at wr bx s p ty hit hp
    have HD:Hid (R=true):=by
     show _=_
     rw [←HR.out,HU.out,unitsN_end s k p hp,List.append_nil]
     exact HO.out.1
    clear hit HU
    go_wp2
    go_ret
    refine ⟨by rw [HD.out];rfl,?_⟩
    rw [HBX.out];exact HO.out.2
end Go.Proofs
namespace Go.Proofs
open Go.RowKit Go.Shelf
set_option maxRecDepth 100000
attribute [local go_sem] Oper.semAt_some
theorem iinfo40:(Tryz.prog.info? 39).map (fun i=>(i.zero,i.size,i.bytes))=some (some (.slice none 0 0),1,24):=by kernel_rfl
def Apt (u v:Value):Prop:=∀ g o n c,u = .slice (some ⟨g,o,none⟩) n c→n≠0→v.ownBlock≠some g
theorem cell_eqb {w w':World} {a:Addr} (h:w'.heap[a.block]? = w.heap[a.block]?):w'.cell? a=w.cell? a:=by
 unfold World.cell?
 rw [h]
theorem Rs.same {w w':World} {u:Value} {l:List (Int × Int)} (h:Rs w u l) (hb:∀ g o n c,u = .slice (some ⟨g,o,none⟩) n c→n≠0→g<w.heap.size→w'.heap[g]? = w.heap[g]?):Rs w' u l:=by
 obtain ⟨a,cap,rfl,hc,h3⟩:=h
 refine ⟨a,cap,rfl,hc,?_⟩
 rcases h3 with h3 | ⟨g,o,rfl,hr⟩
 · exact .inl h3
 · by_cases h0:l=[]
   · exact .inl h0
   · have hb':=hb g o l.length cap rfl (fun e=>h0 (List.eq_nil_of_length_eq_zero e)) (hr.lt h0)
     refine .inr ⟨g,o,rfl,fun j hj => ?_⟩
     obtain ⟨c1,c2⟩:=hr j hj
     exact ⟨(cell_eqb (a:=⟨g,o+j*2,none⟩) hb').trans c1,(cell_eqb (a:=⟨g,o+j*2+1,none⟩) hb').trans c2⟩
end Go.Proofs
namespace Go.Proofs
open Go.RowKit Go.Shelf
set_option maxRecDepth 100000
attribute [local go_sem] Oper.semAt_some
def imgP (key:List (List (Int × Int))) (p:Pc):List (Int × Int):=if p.k=1 then [(p.u,p.u)] else if p.k=2 then keyAt key p.y else p.tl
def img (r:Rl):List (List (Int × Int)):=r.res.map (imgP r.key)
theorem lone_any (v:Value) (l:List (Int × Int)) (w:World) (hT:Tab w) (h:Rs w v l):Calls Tryz.prog 89 #[v] w fun e w'=>e = .returned (.bool (decide (lenU l=1)))∧Grown w w':=by
 have HC:Hid (∀ W,Grown w W→Calls Tryz.prog 111 #[v] W fun e w'=>e = .returned (.int .i64 (lenU l))∧Grown W w'):=fun W hg=>len_any v l W (hT.grown hg) (h.grown hg)
 obtain ⟨n,hn⟩:∃ n,lenU l=n:=⟨_,rfl⟩
 rw [hn] at HC ⊢
 obtain ⟨a,m,c,rfl⟩:=h.sl
 clear hn h hT
 go_enter Tryz.func89,Tryz.ntmps89
 go_wp2_with fail
 refine (HC.out _ (Grown.refl _)).mono ?_
 rintro e w1 ⟨rfl,hg⟩
 have HG:Hid (Grown w w1):=hg
 clear hg
 by_cases h1:n=1
 · have d1:(n == 1)=true:=by simpa using h1
   go_wp2
   go_ret
   exact ⟨by simp [h1],HG.out⟩
 · have d1:(n == 1)=false:=by simpa using h1
   go_wp2
   go_ret
   exact ⟨by simp [h1],HG.out⟩
theorem one_new (W:World) (u:Int):Rs ((W.alloc (.cells #[.int .i64 u,.int .i64 u] 55)).alloc (.cells #[.slice (some ⟨W.heap.size,0,none⟩) 1 1] 39)) (.slice (some ⟨W.heap.size,0,none⟩) 1 1) [(u,u)]:=by
 have hb:((W.alloc (.cells #[.int .i64 u,.int .i64 u] 55)).alloc (.cells #[.slice (some ⟨W.heap.size,0,none⟩) 1 1] 39)).heap[W.heap.size]? = some (.cells #[.int .i64 u,.int .i64 u] 55 (0,0)):=
  (Below.heap_alloc _ _ _ (by simp)).trans (World.alloc_heap_new _ _)
 refine ⟨_,1,rfl,Nat.le_refl _,.inr ⟨_,_,rfl,fun j hj => ?_⟩⟩
 obtain rfl:j=0:=by simpa using hj
 exact ⟨by rw [cell_of hb];rfl,by rw [cell_of hb];rfl⟩
theorem img_succ (r:Rl) {k:Nat} (hk:k<r.res.length):(img r).take (k+1)=(img r).take k++[imgP r.key r.res[k]]:=by
 unfold img
 rw [List.take_succ_eq_append_getElem (by simpa using hk)]
 simp
theorem rs_lt {w:World} {g o n c:Nat} {l:List (Int × Int)} (h:Rs w (.slice (some ⟨g,o,none⟩) n c) l) (hn:n≠0):g<w.heap.size:=by
 obtain ⟨a,cap,e,_,h3⟩:=h
 injection e with e1 e2 e3
 rcases h3 with h3 | ⟨g2,o2,e4,hr⟩
 · rw [h3] at e2;exact absurd e2 hn
 · rw [e4] at e1
   injection e1 with e5
   injection e5 with e6
   subst e6
   exact hr.lt (fun e=>hn (by rw [e2,e];rfl))
end Go.Proofs
