/-
  The reference's Cut, Join and Proper, walked.
-/
import Derived.Test.YtaemgkemlifadaaGreatDoorTes
import Derived.Test.YtaemgkemlifadaaGreatDoorMgqs
import Derived.Test.YtaemgkemlifadaaGreatDoorMggs
namespace Go.Proofs
open Go.RowKit Go.Shelf
set_option maxRecDepth 100000
attribute [local go_sem] Oper.semAt_some
theorem row_below5 {w w':World} {base n:Nat} {e:TypeId} {v:Value} {k:Nat} {xs:List Value} (h:w.ownsRow base e 1 v k xs) (hb:Below n w w') (hn:w.heap.size≤n):w'.ownsRow base e 1 v k xs:=by
 refine ⟨h.1,?_⟩
 rcases h.2 with h | ⟨g,cap,cur,rfl,h1,h2,h3⟩
 · exact .inl h
 · have:g<w.heap.size:=(Array.getElem?_eq_some_iff.1 h2).1
   exact .inr ⟨g,cap,cur,rfl,h1,(hb.block g (by omega)).trans h2,h3⟩
theorem wd_pos_size (u:Int) (h:wd u≠0):0<(put u).size:=by
 by_cases a:1114240≤u∧u≤1114367
 · rw [put_stray a];exact Nat.one_pos
 · by_cases b:(0≤u∧u<55296)∨(57343<u∧u≤1114111)
   · rw [put_rune b]
     obtain ⟨c,rfl⟩:∃ c:Nat,u=c:=⟨u.toNat,by omega⟩
     by_cases h1:c<128
     · rw [enc1 c h1,size_lit];simp
     · by_cases h2:c<2048
       · rw [enc2 c (by omega) h2,size_lit];simp
       · by_cases h3:c<65536
         · rw [enc3 c (by omega) h3 (by omega),size_lit];simp
         · rw [enc4 c (by omega) (by omega),size_lit];simp
   · exact absurd (wd_no (by omega) (by omega)) h
theorem bc_append (a b:List UInt8):bc (a++b)=bc a++bc b:=by simp [bc]
theorem bc_length (a:List UInt8):(bc a).length=a.length:=by simp [bc]
set_option maxHeartbeats 4000000 in
theorem rjoin_any (v:Value) (l:List Int) (w:World) (hv:Ints w v l) (hl:l.length≤4398046511104) :
 Calls Tryz.prog 54 #[v] w fun e w'=>e = .returned (JoinRes (joinB l))∧Below w.heap.size w w':=by
 obtain ⟨i0,hi0,hz0,hz1,hz2⟩:=uinfo_parts info5
 obtain ⟨a,cap,rfl,hc⟩:=hv
 obtain ⟨n,hn⟩:∃ n,l.length=n:=⟨_,rfl⟩
 have HN:Hid (l.length=n):=hn
 rw [hn] at hl ⊢
 obtain ⟨R,hR⟩:∃ R,joinB l=R:=⟨_,rfl⟩
 rw [hR]
 have HC:Hid (l=[]∨∃ g o,a=some ⟨g,o,none⟩∧∀ j,j<l.length→w.cell? ⟨g,o+j,none⟩=some (.int .i64 (l[j]?.getD 0))):=hc
 have HR:Hid (joinB l=R):=hR
 clear hc hR hn
 go_enter Tryz.func54,Tryz.ntmps54
 go_wp2_with fail
 go_loopw [4,5] (fun vo vi wr=>∃ (k:Nat) (acc:List UInt8),vi = .int .i64 k∧k≤n∧acc.length≤4*k∧wr.ownsRow w.heap.size 5 1 vo acc.length (bc acc)∧Hid (R=(joinB (l.drop k)).map (acc ++ ·))∧Below w.heap.size w wr) (fun _ vi _=>n - (intOf vi).toNat)
 case atStart=>
  refine ⟨0,[],rfl,Nat.zero_le _,Nat.zero_le _,World.ownsRow_lit w _ 0 (Nat.le_refl _) (by unfold maxLen;omega) rfl,?_,(Below.refl _ _).alloc (Nat.le_refl _) _⟩
  show R=(joinB l).map ([] ++ ·)
  rw [HR.out];cases R <;> rfl
 case round=>
  clear HR
  obtain ⟨k,acc,rfl,hk,hacc,hO,hJ,hb⟩:=hrel
  have HO:Hid (wr.ownsRow w.heap.size 5 1 u4 acc.length (bc acc)):=hO
  have HB:Hid (Below w.heap.size w wr):=hb
  clear hO hb
  by_cases hlt:k<n
  · have hk2:k<l.length:=by rw [HN.out];exact hlt
    obtain ⟨g,o,rfl,hcell⟩:=HC.out.resolve_left (fun e=>by rw [e] at hk2;simp at hk2)
    have hcx:=hcell k hk2
    have hgw:g<w.heap.size:=by
     obtain ⟨ob,ho,_⟩:=cells_of_cell hcx
     exact (Array.getElem?_eq_some_iff.1 ho).1
    have hc1:=(HB.out.cell (p:=⟨g,o+k,none⟩) hgw).trans hcx
    have hJ1:=hJ.out
    rw [List.drop_eq_getElem_cons hk2] at hJ1
    have hget:l[k]?.getD 0=l[k]:=by simp [hk2]
    rw [hget] at hc1
    generalize l[k]=u at hc1 hJ1
    clear hcell hcx hget hJ HC
    have hlt':(k:Int)<(n:Int):=by omega
    by_cases hw:wd u=0
    · as_aux_lemma=>
       have HRN:Hid (R=none):=by show R=none;rw [hJ1];simp [joinB,hw]
       have cW:Hid (∀ W:World,Calls Tryz.prog 63 #[.int .i64 u] W fun e w'=>e = .returned (.int .i64 0)∧w'=W):=fun W=>by have:=rwidth_any u W;rw [hw] at this;exact this
       clear hJ1 hw
       go_wp2_with (go_at_call 63;refine (cW.out _).mono ?_;rintro e w' ⟨rfl,rfl⟩)
       go_ret2
       exact ⟨by rw [HRN.out];rfl,HB.out⟩
    · as_aux_lemma=>
       have HJ2:Hid (R=(joinB (l.drop (k+1))).map ((acc++(put u).data.toList) ++ ·)):=by
        show R=_
        rw [hJ1,joinB_step hw,Option.map_map]
        congr 1
        funext t
        simp
       have hps:=put_size_le u
       have hp0:=wd_pos_size u hw
       have hw0:(wd u == 0)=false:=beq_eq_false_iff_ne.2 hw
       have cW:Hid (∀ W:World,Calls Tryz.prog 63 #[.int .i64 u] W fun e w'=>e = .returned (.int .i64 (wd u))∧w'=W):=fun W=>rwidth_any u W
       generalize wd u=d at *
       clear hJ1 hw
       go_wp2_with (go_at_call 63;refine (cW.out _).mono ?_;rintro e w' ⟨rfl,rfl⟩)
       refine (bytes_any _ _).mono ?_
       rintro e w2 ⟨v2,rfl,ho2,hb2⟩
       obtain ⟨m,hm⟩:∃ m,(put u).size=m:=⟨_,rfl⟩
       rw [hm] at ho2 hps hp0
       obtain ⟨g2,c2,rfl⟩:=Joins.ownsRow_form ho2 hp0
       have hO2:w2.ownsRow w.heap.size 5 1 u4 acc.length (bc acc):=row_below5 HO.out hb2 (Nat.le_refl _)
       have hB2:Below w.heap.size w w2:=HB.out.trans (hb2.mono HB.out.size)
       have HM:Hid ((put u).data.toList.length=m):=by show _=_;rw [←Lib.size_eq,hm]
       have hz:=hB2.size
       clear hb2 cW HO
       go_wp2_with (at_builtin;go_must (refine wpList_append_own _ rfl _ _ 57 rfl w.heap.size 5 i0 (.int .u8 0) 1 1 Tryz.underlying57 hi0 hz0 hz1 hz2 rfl (by decide) _ _ _ rfl hO2 ⟨g2,0,none⟩ m c2 (bc (put u).data.toList) rfl (by rw [bc_length,HM.out];omega) (fun j x hx=>ho2.cells rfl j x hx) (by intro x hx;simp [bc] at hx;obtain ⟨b,_,rfl⟩:=hx;rfl) (by unfold maxLen;omega) (by omega) (by omega) ?_);intro v' w3 hown' hgrow _)
       have hB3:Below w.heap.size w w3:=hB2.trans ((Below.refl _ w2).grown hgrow hz (fun j e=>(World.ownsRow.lt hO2 j e).1))
       exact ⟨⟨k+1,acc++(put u).data.toList,by go_num,by omega,by rw [List.length_append,HM.out];omega,by rw [bc_append,List.length_append,HM.out];exact hown',HJ2,hB3⟩,by simp [intOf];omega⟩
  · as_aux_lemma=>
     have hkn:k=n:=by omega
     have hRR:R=some acc:=by
      have:=hJ.out
      rw [List.drop_of_length_le (by rw [HN.out,hkn];exact Nat.le_refl _)] at this
      rw [this];simp [joinB]
     subst hRR
     have hcv:=conv_row wr _ u4 acc HO.out
     clear hJ HC
     go_wp2
     go_ret2
     exact ⟨rfl,HB.out⟩
end Go.Proofs
