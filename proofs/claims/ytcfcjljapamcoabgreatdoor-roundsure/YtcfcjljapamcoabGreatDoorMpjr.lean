/-
  Several texts in one (Y4r Y7r Y8r).
-/
import Derived.Test.YtcfcjljapamcoabGreatDoorMpir
import Derived.Test.YtcfcjljapamcoabGreatDoorMphr
namespace Go.Proofs
open Go.RowKit Go.Shelf
def runU (c:Int→Int):List Int→Int→Int→List (Int × Int)→List (Int × Int)
 | [],_,_,s=>s
 | k::ks,n,lo,s=>if n≤0∧0<n+c k then runU c ks (n+c k) k s else if 0<n∧n+c k≤0 then runU c ks (n+c k) lo (s++[(lo,k - 1)]) else runU c ks (n+c k) lo s
theorem sumK_small {c:Int→Int} {ks:List Int} {u:Int} (h:∀ k∈ks,u<k):sumK c ks u=0:=by
 induction ks with
 | nil=>rfl
 | cons k ks ih=>
  rw [sumK_cons,ih fun j hj=>h j (List.mem_cons_of_mem _ hj),if_neg (by have:=h k (by simp);omega)]
  rfl
theorem inL_snoc (s:List (Int × Int)) (x:Int × Int) (u:Int):inL (s++[x]) u=(inL s u || inR x u):=by simp [inL]
theorem inR_iff (x:Int × Int) (u:Int):inR x u=true↔x.1≤u∧u≤x.2:=by simp [inR]
theorem sumK_all {c:Int→Int} {ks:List Int} {u:Int} (h:∀ k∈ks,k≤u):sumK c ks u=(ks.map c).sum:=by
 induction ks with
 | nil=>rfl
 | cons k ks ih=>rw [sumK_cons,ih fun j hj=>h j (List.mem_cons_of_mem _ hj),if_pos (h k (by simp)),List.map_cons,List.sum_cons]
theorem runU_in (c:Int→Int):∀ (ks:List Int) (n lo:Int) (s:List (Int × Int)),ks.Pairwise (· < ·)→(0<n→∀ k∈ks,lo<k)→n+(ks.map c).sum≤0→∀ u,inL (runU c ks n lo s) u=true↔inL s u=true∨∃ k r,ks=k::r∧((0<n∧lo≤u∧u<k)∨(k≤u∧0<n+sumK c ks u))
 | [],n,lo,s,_,_,_,u=>by simp [runU]
 | k::ks,n,lo,s,hp,hl,hf,u=>by
  rw [List.pairwise_cons] at hp
  rw [List.map_cons,List.sum_cons] at hf
  have hrest:∀ (n' lo':Int) (s':List (Int × Int)),n'=n+c k→(0<n'→lo'≤k)→(inL (runU c ks n' lo' s') u=true↔inL s' u=true∨(0<n'∧∃ k2 r,ks=k2::r∧lo'≤u∧u<k2)∨∃ k2 r,ks=k2::r∧k2≤u∧0<n'+sumK c ks u):=fun n' lo' s' e hlo=>by
   rw [runU_in c ks n' lo' s' hp.2 (fun h j hj=>by have:=hlo h;have:=hp.1 j hj;omega) (by omega) u]
   constructor
   · rintro (h | ⟨k2,r,e,⟨h1,h2,h3⟩ | ⟨h1,h2⟩⟩)
     · exact .inl h
     · exact .inr (.inl ⟨h1,k2,r,e,h2,h3⟩)
     · exact .inr (.inr ⟨k2,r,e,h1,h2⟩)
   · rintro (h | ⟨h1,k2,r,e,h2,h3⟩ | ⟨k2,r,e,h1,h2⟩)
     · exact .inl h
     · exact .inr ⟨k2,r,e,.inl ⟨h1,h2,h3⟩⟩
     · exact .inr ⟨k2,r,e,.inr ⟨h1,h2⟩⟩
  -- behind k: either ahead of the next turn,or behind it
  have hbeh:k≤u→(0<n+sumK c (k::ks) u↔(0<n+c k∧∃ k2 r,ks=k2::r∧u<k2)∨∃ k2 r,ks=k2::r∧k2≤u∧0<n+c k+sumK c ks u):=fun hku=>by
   rw [sumK_cons,if_pos hku]
   cases ks with
   | nil=>
    simp only [List.map_nil,List.sum_nil] at hf
    rw [sumK_nil]
    constructor
    · intro h;omega
    · rintro (⟨_,_,_,e,_⟩ | ⟨_,_,e,_⟩) <;> cases e
   | cons k2 r=>
    by_cases hu:u<k2
    · have hz:sumK c (k2::r) u=0:=sumK_small fun j hj=>by
       rcases List.mem_cons.1 hj with rfl | hj
       · exact hu
       · have:=(List.pairwise_cons.1 hp.2).1 j hj;omega
      rw [hz]
      constructor
      · intro h;exact .inl ⟨by omega,k2,r,rfl,hu⟩
      · rintro (⟨h,_⟩ | ⟨k3,r3,e,h3,_⟩)
        · omega
        · cases e;omega
    · constructor
      · intro h;exact .inr ⟨k2,r,rfl,by omega,by omega⟩
      · rintro (⟨h,k3,r3,e,h3⟩ | ⟨k3,r3,e,h3,h4⟩)
        · cases e;omega
        · omega
  have hgoal:(∃ k' r,k::ks=k'::r∧((0<n∧lo≤u∧u<k')∨(k'≤u∧0<n+sumK c (k::ks) u)))↔((0<n∧lo≤u∧u<k)∨(k≤u∧0<n+sumK c (k::ks) u)):=by
   constructor
   · rintro ⟨k',r,e,h⟩;cases e;exact h
   · intro h;exact ⟨k,ks,rfl,h⟩
  rw [hgoal]
  have hnext:∀ k2 r,ks=k2::r→k<k2:=fun k2 r e=>hp.1 k2 (by rw [e];simp)
  unfold runU
  by_cases h1:n≤0∧0<n+c k
  · rw [if_pos h1,hrest _ _ _ rfl (fun _=>Int.le_refl _)]
    constructor
    · rintro (h | ⟨h,k2,r,e,h3,h4⟩ | ⟨k2,r,e,h3,h4⟩)
      · exact .inl h
      · exact .inr (.inr ⟨h3,(hbeh h3).2 (.inl ⟨h,k2,r,e,h4⟩)⟩)
      · have:=hnext k2 r e
        exact .inr (.inr ⟨by omega,(hbeh (by omega)).2 (.inr ⟨k2,r,e,h3,h4⟩)⟩)
    · rintro (h | ⟨h,_⟩ | ⟨h3,h4⟩)
      · exact .inl h
      · omega
      · rcases (hbeh h3).1 h4 with ⟨h5,k2,r,e,h6⟩ | ⟨k2,r,e,h5,h6⟩
        · exact .inr (.inl ⟨h5,k2,r,e,h3,h6⟩)
        · exact .inr (.inr ⟨k2,r,e,h5,h6⟩)
  · rw [if_neg h1]
    by_cases h2:0<n∧n+c k≤0
    · rw [if_pos h2,hrest _ _ _ rfl (fun h=>by omega),inL_snoc,Bool.or_eq_true,inR_iff]
      constructor
      · rintro ((h | ⟨h3,h4⟩) | ⟨h,_⟩ | ⟨k2,r,e,h3,h4⟩)
        · exact .inl h
        · exact .inr (.inl ⟨h2.1,h3,by show u<k;have:u≤k - 1:=h4;omega⟩)
        · omega
        · have:=hnext k2 r e
          exact .inr (.inr ⟨by omega,(hbeh (by omega)).2 (.inr ⟨k2,r,e,h3,h4⟩)⟩)
      · rintro (h | ⟨_,h3,h4⟩ | ⟨h3,h4⟩)
        · exact .inl (.inl h)
        · exact .inl (.inr ⟨h3,show u≤k - 1 by omega⟩)
        · rcases (hbeh h3).1 h4 with ⟨h5,_⟩ | ⟨k2,r,e,h5,h6⟩
          · omega
          · exact .inr (.inr ⟨k2,r,e,h5,h6⟩)
    · rw [if_neg h2]
      by_cases h0:0<n
      · have hn:0<n+c k:=by omega
        have hlk:=hl h0 k (by simp)
        rw [hrest _ _ _ rfl (fun _=>by omega)]
        constructor
        · rintro (h | ⟨h,k2,r,e,h3,h4⟩ | ⟨k2,r,e,h3,h4⟩)
          · exact .inl h
          · by_cases hku:k≤u
            · exact .inr (.inr ⟨hku,(hbeh hku).2 (.inl ⟨h,k2,r,e,h4⟩)⟩)
            · exact .inr (.inl ⟨h0,h3,by omega⟩)
          · have:=hnext k2 r e
            exact .inr (.inr ⟨by omega,(hbeh (by omega)).2 (.inr ⟨k2,r,e,h3,h4⟩)⟩)
        · rintro (h | ⟨_,h3,h4⟩ | ⟨h3,h4⟩)
          · exact .inl h
          · cases ks with
            | nil=>simp only [List.map_nil,List.sum_nil] at hf;omega
            | cons k2 r=>exact .inr (.inl ⟨hn,k2,r,rfl,h3,by have:=hnext k2 r rfl;omega⟩)
          · rcases (hbeh h3).1 h4 with ⟨h5,k2,r,e,h6⟩ | ⟨k2,r,e,h5,h6⟩
            · exact .inr (.inl ⟨h5,k2,r,e,by omega,h6⟩)
            · exact .inr (.inr ⟨k2,r,e,h5,h6⟩)
      · have hn:¬ 0<n+c k:=by omega
        rw [hrest _ _ _ rfl (fun h=>absurd h hn)]
        constructor
        · rintro (h | ⟨h,_⟩ | ⟨k2,r,e,h3,h4⟩)
          · exact .inl h
          · exact absurd h hn
          · have:=hnext k2 r e
            exact .inr (.inr ⟨by omega,(hbeh (by omega)).2 (.inr ⟨k2,r,e,h3,h4⟩)⟩)
        · rintro (h | ⟨h,_⟩ | ⟨h3,h4⟩)
          · exact .inl h
          · exact absurd h h0
          · rcases (hbeh h3).1 h4 with ⟨h5,_⟩ | ⟨k2,r,e,h5,h6⟩
            · exact absurd h5 hn
            · exact .inr (.inr ⟨k2,r,e,h5,h6⟩)
def Up (s:List (Int × Int)):Prop:=s.Pairwise (fun x y=>x.2+1<y.1)∧∀ x∈s,x.1≤x.2
theorem runU_up (c:Int→Int):∀ (ks:List Int) (n lo:Int) (s:List (Int × Int)),ks.Pairwise (· < ·)→(0<n→(∀ k∈ks,lo<k)∧∀ x∈s,x.2+1<lo)→Up s→(∀ x∈s,∀ k∈ks,x.2+1<k)→Up (runU c ks n lo s)
 | [],_,_,_,_,_,h,_=>h
 | k::ks,n,lo,s,hp,hl,hs,hk=>by
  rw [List.pairwise_cons] at hp
  have hk':∀ x∈s,∀ j∈ks,x.2+1<j:=fun x hx j hj=>hk x hx j (List.mem_cons_of_mem _ hj)
  unfold runU
  split
  · exact runU_up c ks _ k s hp.2 (fun _=>⟨hp.1,fun x hx=>hk x hx k (by simp)⟩) hs hk'
  · split
    · rename_i h2
      obtain ⟨l1,l2⟩:=hl h2.1
      have l3:=l1 k (by simp)
      refine runU_up c ks _ lo _ hp.2 (fun h=>by omega) ⟨List.pairwise_append.2 ⟨hs.1,List.pairwise_singleton _ _,fun x hx y hy => ?_⟩,fun x hx => ?_⟩ fun x hx j hj => ?_
      · obtain rfl:=List.mem_singleton.1 hy
        exact l2 x hx
      · rcases List.mem_append.1 hx with hx | hx
        · exact hs.2 x hx
        · obtain rfl:=List.mem_singleton.1 hx
          show lo≤k - 1
          omega
      · rcases List.mem_append.1 hx with hx | hx
        · exact hk' x hx j hj
        · obtain rfl:=List.mem_singleton.1 hx
          have:=hp.1 j hj
          show k - 1+1<j
          omega
    · rename_i h1 h2
      by_cases h0:0<n
      · obtain ⟨l1,l2⟩:=hl h0
        exact runU_up c ks _ lo s hp.2 (fun _=>⟨fun j hj=>l1 j (List.mem_cons_of_mem _ hj),l2⟩) hs hk'
      · exact runU_up c ks _ lo s hp.2 (fun h=>by omega) hs hk'
end Go.Proofs
namespace Go.Proofs
open Go.RowKit Go.Maps Go.Sort Go.Shelf
theorem Tryz.sortsA (m:Nat):AnyZI.SortsIn Tryz.prog Tryz.sortedA_ren Fence.wide m:=
 ⟨fun blk off cap ss W hH hblk hsz=>callsIn_wide.2 (AnyM.slices_Sort_int Tryz.sortA blk off cap ss W hH hblk hsz),
  fun p cap W=>callsIn_wide.2 (AnyM.slices_Sort_int_none Tryz.sortA p cap W)⟩
theorem keys_own {H:Type} {W:World} {m n:Nat} {D:DataW H} {R:Value→Option (DataW H × List MemPlace)} (h:W.ownsMap Tryz.prog 3 R m n D):(intKeys D).Nodup∧∀ x,x∈intKeys D↔Maps.has D (.int .i64 x)=true:=by
 obtain ⟨es,hD,hp,_⟩:=h.entries key3
 obtain ⟨es',hD',hko⟩:=h.keysOf
 obtain rfl:es=es':=by rw [hD] at hD';simpa using hD'
 subst hD
 have hk:∀ p∈es,∃ x,p.1 = .int .i64 x:=fun p hp=>by
  obtain ⟨v,hv⟩:=hko p hp
  obtain ⟨x,_,hx,_⟩:=Maps.keyOf_i64 Tryz.underlying3 hv
  exact ⟨x,hx⟩
 constructor
 · show (es.map fun p=>Go.intOf p.1).Nodup
   refine List.pairwise_map.2 (hp.imp_of_mem fun {p q} hp' hq' hne e=>hne ?_)
   obtain ⟨a,ha⟩:=hk p hp'
   obtain ⟨b,hb⟩:=hk q hq'
   rw [ha,hb] at e ⊢
   exact congrArg _ e
 · intro x
   rw [has_eq,List.any_eq_true]
   show x∈es.map (fun p=>Go.intOf p.1)↔_
   rw [List.mem_map]
   constructor
   · rintro ⟨p,hp',rfl⟩
     obtain ⟨a,ha⟩:=hk p hp'
     exact ⟨p,hp',by rw [ha];simp [Lit.sameKey,Go.intOf]⟩
   · rintro ⟨p,hp',hs⟩
     obtain ⟨a,ha⟩:=hk p hp'
     rw [ha] at hs
     exact ⟨p,hp',by rw [ha];simpa [Lit.sameKey,Go.intOf] using hs⟩
theorem keys_any (mb:Option Nat) (W:World):Calls Tryz.prog 54 #[.map mb] W fun e w'=>e = .returned (.func (.func 86) #[] #[.pointer (some ⟨W.heap.size,0,none⟩)])∧w'=W.alloc (.cells #[.map mb] 82):=
 callsIn_wide.1 (AnyZI.keys_in Tryz.keysA Fence.wide 5 trivial rfl mb W)
theorem sortedK_any (m N:Nat) (c:Int→Int) (W:World) (h:IMap W m N (cntF c)) (hN:N≤1000000000) :
 Calls Tryz.prog 53 #[.func (.func 86) #[] #[.pointer (some ⟨W.heap.size,0,none⟩)]] (W.alloc (.cells #[.map (some m)] 82)) fun e w'=>∃ v ks,e = .returned v∧OwnI w' W.heap.size v ks∧ks.Pairwise (· < ·)∧Keys c ks∧ks.length≤N∧(∀ k∈ks,c k≠0)∧Below W.heap.size W w':=by
 obtain ⟨n,D,hD,hn,hK⟩:=h
 have hbl:=hD.lt
 have hsz:Maps.size D≤n:=hD.size_le
 have hseq:SeqGives Fence.wide 2 Tryz.prog 86 #[.pointer (some ⟨W.heap.size,0,none⟩)] encZ (fun ss=>ss.Perm (intKeys D)) (Maps.size D) (W.alloc (.cells #[.map (some m)] 82)):=
  AnyZI.keys_gives (ρ:=Tryz.keysA_ren) { Tryz.keysA with } Fence.wide _ trivial rfl (by omega) W.heap.size m n D _ (by simp) (by simp) (by
   obtain ⟨es,clock,hb,Ft,hs,hDD⟩:=hD
   exact ⟨es,clock,(Below.heap_alloc _ _ m hbl).trans hb,Ft,hs,hDD⟩)
 have cS:=AnyZI.sorted_in Tryz.sortedA Fence.wide 5 trivial trivial trivial trivial rfl (by omega) (Tryz.sortsA _) (enters_of Tryz.func85 (by kernel_rfl) rfl) 86 #[.pointer (some ⟨W.heap.size,0,none⟩)] trivial (enters_of Tryz.func86 (by kernel_rfl) rfl) _ _ (by unfold maxLen;omega) (by omega) _ hseq
 change CallsIn _ _ Tryz.prog 53 _ _ _ at cS
 refine (callsIn_wide.1 cS).mono ?_
 rintro e w' ⟨v,ss,rfl,hS,hrow,_,hb⟩
 obtain ⟨hnd,hmem⟩:=keys_own hD
 have hperm:(ss.mergeSort fun x y=>decide (x≤y)).Perm (intKeys D):=(List.mergeSort_perm ss _).trans hS
 have hlen:(ss.mergeSort fun x y=>decide (x≤y)).length=ss.length:=(List.mergeSort_perm ss _).length_eq
 have hnd2:(ss.mergeSort fun x y=>decide (x≤y)).Nodup:=hperm.nodup_iff.2 hnd
 have hmm:∀ k,k∈(ss.mergeSort fun x y=>decide (x≤y))↔c k≠0:=fun k=>by
  rw [hperm.mem_iff,hmem k,(hK k).1]
  unfold cntF
  by_cases h0:c k=0 <;> simp [h0]
 refine ⟨v,ss.mergeSort fun x y=>decide (x≤y),rfl,?_,?_,⟨hnd2,fun k h0=>(hmm k).2 h0⟩,?_,fun k hk=>(hmm k).1 hk,((Below.refl _ W).alloc (Nat.le_refl _) _).trans (hb.mono (by simp))⟩
 · unfold OwnI
   rw [hlen]
   have hr2:w'.ownsRow (W.alloc (.cells #[.map (some m)] 82)).heap.size 3 1 v ss.length (ints (ss.mergeSort fun x y=>decide (x≤y))):=hrow
   exact Joins.ownsRow_le hr2 (by simp)
 · have hs:=List.pairwise_mergeSort (le:=fun x y:Int=>decide (x≤y)) (fun a b c h1 h2=>by simp only [decide_eq_true_eq] at *;omega) (fun a b=>by simp only [Bool.or_eq_true,decide_eq_true_eq];omega) ss
   refine (hs.and hnd2).imp fun {a b} h => ?_
   simp only [decide_eq_true_eq] at h
   have:=h.2
   omega
 · rw [hlen]
   have:=hS.length_eq
   have hsl:(intKeys D).length≤Maps.size D:=by
    obtain ⟨es,rfl,_⟩:=hD.keysOf
    simp [intKeys,Maps.size]
   omega
end Go.Proofs
namespace Go.Proofs
open Go.RowKit Go.Shelf
set_option maxRecDepth 100000
attribute [local go_sem] Oper.semAt_some
theorem Hid.mk9 {p:Prop} (h:p):Hid p:=h
theorem runU_at (c:Int→Int) {ks:List Int} {i:Nat} {k:Int} (hk:ks[i]? = some k) (n lo:Int) (s:List (Int × Int)):runU c (ks.drop i) n lo s=if n≤0∧0<n+c k then runU c (ks.drop (i+1)) (n+c k) k s else if 0<n∧n+c k≤0 then runU c (ks.drop (i+1)) (n+c k) lo (s++[(lo,k - 1)]) else runU c (ks.drop (i+1)) (n+c k) lo s:=by
 obtain ⟨hl,e⟩:=List.getElem?_eq_some_iff.1 hk
 rw [List.drop_eq_getElem_cons hl,e]
 rfl
def UnI (W1:World) (c:Int→Int) (ks:List Int) (R:List (Int × Int)) (i:Nat) (n lo:Int) (v:Value) (wr:World):Prop:=∃ s,OwnR wr W1.heap.size v s∧runU c (ks.drop i) n lo s=R∧s.length≤i∧Below W1.heap.size W1 wr
def UnQ (W:World) (c:Int→Int) (e:Ending) (w':World):Prop:=∃ v ks,e = .returned v∧OwnR w' W.heap.size v (runU c ks 0 0 [])∧ks.Pairwise (· < ·)∧Keys c ks∧(∀ k∈ks,c k≠0)∧Below W.heap.size W w'
set_option maxHeartbeats 4000000 in
theorem unitsT_any' (W:World) (m N:Nat) (c:Int→Int) (h:IMap W m N (cntF c)) (hN:N≤1000000000) (hc:∀ k,-(N:Int)≤c k∧c k≤(N:Int)) (hkb:∀ k,c k≠0 → -100000000≤k∧k≤100000000) :
 Calls Tryz.prog 34 #[.map (some m)] W (UnQ W c):=by
 have HK:Hid (Calls Tryz.prog 54 #[.map (some m)] W fun e w'=>e = .returned (.func (.func 86) #[] #[.pointer (some ⟨W.heap.size,0,none⟩)])∧w'=W.alloc (.cells #[.map (some m)] 82)):=keys_any _ _
 have HSo:=sortedK_any m N c W h hN
 have HS:Hid (Calls Tryz.prog 53 #[.func (.func 86) #[] #[.pointer (some ⟨W.heap.size,0,none⟩)]] (W.alloc (.cells #[.map (some m)] 82)) fun e w'=>∃ v ks,e = .returned v∧OwnI w' W.heap.size v ks∧ks.Pairwise (· < ·)∧Keys c ks∧ks.length≤N∧(∀ k∈ks,c k≠0)∧Below W.heap.size W w'):=HSo
 have HH:Hid (IMap W m N (cntF c)∧(∀ k,-(N:Int)≤c k∧c k≤(N:Int))∧(∀ k,c k≠0 → -100000000≤k∧k≤100000000)):=⟨h,hc,hkb⟩
 have hmW:=h.lt
 clear h hc hkb HSo
 go_enter Tryz.func34,Tryz.ntmps34
 go_wp2_with fail
 refine HK.out.mono ?_
 rintro e w0 ⟨rfl,rfl⟩
 go_wp2_with fail
 refine HS.out.mono ?_
 rintro e W1 ⟨v,ks,rfl,hO,hp,hky,hkl,hkn,hb⟩
 obtain ⟨ka,kc,rfl,_,hkr⟩:=hO.ir
 obtain ⟨nk,hnk⟩:∃ nk,ks.length=nk:=⟨_,rfl⟩
 obtain ⟨R,hR⟩:∃ R,runU c ks 0 0 []=R:=⟨_,rfl⟩
 have H:Hid (ks.Pairwise (· < ·)∧Keys c ks∧ks.length=nk∧(∀ k∈ks,c k≠0)∧Below W.heap.size W W1∧(ks=[]∨∃ g o,ka=some ⟨g,o,none⟩∧IRd W1 g o ks)∧runU c ks 0 0 []=R):=⟨hp,hky,hnk,hkn,hb,hkr,hR⟩
 rw [hnk]
 have hnN:nk≤1000000000:=by omega
 clear hO hp hky hkl hkn hb hkr hR hnk HS HK
 go_wp2
 go_loopw [3,4,5,13] (fun vs vn vl vi wr=>∃ (i:Nat) (n lo:Int),vi = .int .i64 i∧vn = .int .i64 n∧vl = .int .i64 lo∧i≤nk∧(-((i:Int)*N)≤n∧n≤(i:Int)*N)∧Hid (UnI W1 c ks R i n lo vs wr)) (fun _ _ _ vi _=>nk - (intOf vi).toNat)
 case atStart=>exact ⟨0,0,0,rfl,rfl,rfl,by omega,by omega,[],OwnR.nil _ _,H.out.2.2.2.2.2.2,Nat.le_refl _,Below.refl _ _⟩
 case round=>
  obtain ⟨i,n,lo,rfl,rfl,rfl,hi,⟨hn1,hn2⟩,HB⟩:=hrel
  by_cases hlt:i<nk
  · have hlt':(i:Int)<(nk:Int):=by omega
    have hpos:(0:Int)≤(i:Int):=by omega
    have hil:i<ks.length:=by rw [H.out.2.2.1];exact hlt
    obtain ⟨g,o,rfl,hr⟩:=H.out.2.2.2.2.2.1.resolve_left (by rintro rfl;simp at hil)
    obtain ⟨k,hk⟩:∃ k,ks[i]? = some k:=⟨_,List.getElem?_eq_getElem hil⟩
    have ck:=hr i hil
    obtain ⟨_,hke⟩:=List.getElem?_eq_some_iff.1 hk
    rw [hke] at ck
    have hkm:k∈ks:=List.mem_of_getElem? hk
    have hk0:=H.out.2.2.2.1 k hkm
    obtain ⟨kb1,kb2⟩:=HH.out.2.2 k hk0
    obtain ⟨cb1,cb2⟩:=HH.out.2.1 k
    obtain ⟨sl,hOs,hRs,hsl,hbs⟩:=HB.out
    have ck:=cell_below ck hbs (Nat.le_refl _)
    have hI:IMap wr m N (cntF c):=HH.out.1.kept fun ob ho=>(hbs.block m (Nat.lt_of_lt_of_le hmW H.out.2.2.2.2.1.size)).trans ((H.out.2.2.2.2.1.block m hmW).trans ho)
    have hlk:=hI.look (t:=82) (e:=3) Tryz.underlying82 (zero3 _) (k:=k) ⟨by omega,by omega⟩
    rw [cntF_get] at hlk
    have hst:=runU_at c hk n lo sl
    rw [hRs] at hst
    obtain ⟨y,hy⟩:∃ y,c k=y:=⟨_,rfl⟩
    rw [hy] at hlk cb1 cb2 hst
    have hB1:(i:Int)*N≤1000000000*1000000000:=Int.mul_le_mul (by omega) (by omega) (by omega) (by omega)
    have hB2:((i+1:Nat):Int)*N=(i:Int)*N+N:=by rw [Int.natCast_add,Int.add_mul];simp
    have hwn:IntKind.i64.wrap (n+y)=n+y:=by rw [IntKind.wrap_i64];omega
    have hwk:IntKind.i64.wrap (k - 1)=k - 1:=by rw [IntKind.wrap_i64];omega
    have hbn : -(((i+1:Nat):Int)*N)≤n+y∧n+y≤((i+1:Nat):Int)*N:=by rw [hB2];omega
    obtain ⟨sa,sc,rfl⟩:∃ sa sc,_=Value.slice sa sl.length sc:=by
     obtain ⟨a2,c2,e2,_⟩:=hOs.rs
     exact ⟨a2,c2,e2⟩
    have HOs:Hid (OwnR wr W1.heap.size (.slice sa sl.length sc) sl∧Below W1.heap.size W1 wr∧sl.length≤i∧R=if n≤0∧0<n+y then runU c (ks.drop (i+1)) (n+y) k sl else if 0<n∧n+y≤0 then runU c (ks.drop (i+1)) (n+y) lo (sl++[(lo,k - 1)]) else runU c (ks.drop (i+1)) (n+y) lo sl):=⟨hOs,hbs,hsl,hst⟩
    have HBN:=Hid.mk9 hbn
    clear hOs hbs hsl hst hI hk hke hkm hk0 hr hRs HB hB1 hB2 hy hbn
    by_cases h1:n≤0
    · have d1:decide (n≤(0:Int))=true:=by simpa using h1
      have d3:decide ((0:Int)<n)=false:=by simp;omega
      by_cases h2:0<n+y
      · have d2:decide ((0:Int)<n+y)=true:=by simpa using h2
        have HF:Hid (UnI W1 c ks R (i+1) (n+y) k (.slice sa sl.length sc) wr):=⟨sl,HOs.out.1,by rw [HOs.out.2.2.2,if_pos ⟨h1,h2⟩],by have:=HOs.out.2.2.1;omega,HOs.out.2.1⟩
        clear HOs
        go_wp2
        exact ⟨⟨i+1,n+y,k,by go_num,rfl,rfl,by omega,HBN.out,HF⟩,by simp [intOf];omega⟩
      · have d2:decide ((0:Int)<n+y)=false:=by simpa using h2
        have HF:Hid (UnI W1 c ks R (i+1) (n+y) lo (.slice sa sl.length sc) wr):=⟨sl,HOs.out.1,by rw [HOs.out.2.2.2,if_neg (fun h=>h2 h.2),if_neg (fun h=>by omega)],by have:=HOs.out.2.2.1;omega,HOs.out.2.1⟩
        clear HOs
        go_wp2
        exact ⟨⟨i+1,n+y,lo,by go_num,rfl,rfl,by omega,HBN.out,HF⟩,by simp [intOf];omega⟩
    · have d1:decide (n≤(0:Int))=false:=by simpa using h1
      have d3:decide ((0:Int)<n)=true:=by simp;omega
      by_cases h2:n+y≤0
      · have d2:decide (n+y≤(0:Int))=true:=by simpa using h2
        have hbz:=HOs.out.2.1.size
        have hc0:(wr.alloc (.cells #[.int .i64 lo,.int .i64 (k - 1)] 55)).cell? ⟨wr.heap.size,0,none⟩=some (.int .i64 lo):=by rw [cell_of (World.alloc_heap_new _ _)];rfl
        have hc1:(wr.alloc (.cells #[.int .i64 lo,.int .i64 (k - 1)] 55)).cell? ⟨wr.heap.size,1,none⟩=some (.int .i64 (k - 1)):=by rw [cell_of (World.alloc_heap_new _ _)];rfl
        have hsl9:sl.length+1≤8796093022208:=by have:=HOs.out.2.2.1;omega
        go_upto_region 12 with (first | (at_builtin;refine push_R rfl _ _ 39 rfl Tryz.underlying39 W1.heap.size _ sl rfl (HOs.out.1.alloc _) wr.heap.size 1 lo (k - 1) rfl hc0 hc1 hsl9 ?_ ?_;rotate_left 1;intro v6 w6 hO6 hg6 hb6) | fail)
        · have HF:Hid (UnI W1 c ks R (i+1) (n+y) lo v6 w6):=⟨sl++[(lo,k - 1)],hO6,by rw [HOs.out.2.2.2,if_neg (fun h=>by omega),if_pos ⟨by omega,h2⟩],by rw [List.length_append];have:=HOs.out.2.2.1;simp;omega,(HOs.out.2.1.alloc hbz _).trans hb6⟩
          obtain ⟨a6,c6,rfl⟩:∃ a6 c6,v6=Value.slice a6 (sl++[(lo,k - 1)]).length c6:=by
           obtain ⟨a2,c2,e2,_⟩:=hO6.rs
           exact ⟨a2,c2,e2⟩
          clear hO6 hg6 hb6 HOs hc0 hc1
          go_wp2
          exact ⟨⟨i+1,n+y,lo,by go_num,rfl,rfl,by omega,HBN.out,HF⟩,by simp [intOf];omega⟩
        · omega
      · have d2:decide (n+y≤(0:Int))=false:=by simpa using h2
        have HF:Hid (UnI W1 c ks R (i+1) (n+y) lo (.slice sa sl.length sc) wr):=⟨sl,HOs.out.1,by rw [HOs.out.2.2.2,if_neg (fun h=>h1 h.1),if_neg (fun h=>h2 h.2)],by have:=HOs.out.2.2.1;omega,HOs.out.2.1⟩
        clear HOs
        go_wp2
        exact ⟨⟨i+1,n+y,lo,by go_num,rfl,rfl,by omega,HBN.out,HF⟩,by simp [intOf];omega⟩
  · have hin:Hid (i=nk):=by show i=nk;omega
    obtain ⟨sl,hOs,hRs,hsl,hbs⟩:=HB.out
    obtain ⟨sa,sc,rfl⟩:∃ sa sc,_=Value.slice sa sl.length sc:=by
     obtain ⟨a2,c2,e2,_⟩:=hOs.rs
     exact ⟨a2,c2,e2⟩
    rw [List.drop_eq_nil_of_le (by have:=H.out.2.2.1;have:=hin.out;omega)] at hRs
    have hRs:sl=R:=hRs
    have HF:Hid (UnQ W c (.returned (.slice sa sl.length sc)) wr):=by
     refine ⟨_,ks,rfl,?_,H.out.1,H.out.2.1,H.out.2.2.2.1,H.out.2.2.2.2.1.trans (hbs.mono H.out.2.2.2.2.1.size)⟩
     rw [H.out.2.2.2.2.2.2,←hRs]
     exact hOs.le H.out.2.2.2.2.1.size
    clear hOs hRs hsl hbs HB
    go_wp2
    go_ret
    exact HF.out
end Go.Proofs
