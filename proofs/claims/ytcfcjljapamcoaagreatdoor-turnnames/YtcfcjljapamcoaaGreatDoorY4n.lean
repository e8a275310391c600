/-
  Units that are counted more than no time, by thinking: what a row of turns says.
-/
import Derived.Test.YtcfcjljapamcoaaGreatDoorMpfn
namespace Go.Proofs
open Go.RowKit Go.Shelf
def runU (c:Int→Int):List Int→Int→Int→List (Int × Int)→List (Int × Int)
 | [],_,_,s=>s
 | k::ks,n,lo,s=>if n≤0∧0<n+c k then runU c ks (n+c k) k s else if 0<n∧n+c k≤0 then runU c ks (n+c k) lo (s++[(lo,k - 1)]) else runU c ks (n+c k) lo s
theorem sumK_small {c:Int→Int} {ks:List Int} {u:Int} (h:∀ k∈ks,u<k):sumK c ks u=0:=by
 induction ks with
 | nil=>rfl
 | cons k ks ih=>
  rw [sumK_cons,ih fun j hj=>h j (List.mem_cons_of_mem _ hj),if_neg (by have:=h k (by simp);omega)]
  rfl
theorem inL_snoc (s:List (Int × Int)) (x:Int × Int) (u:Int):inL (s++[x]) u=(inL s u || inR x u):=by simp [inL]
theorem inR_iff (x:Int × Int) (u:Int):inR x u=true↔x.1≤u∧u≤x.2:=by simp [inR]
theorem sumK_all {c:Int→Int} {ks:List Int} {u:Int} (h:∀ k∈ks,k≤u):sumK c ks u=(ks.map c).sum:=by
 induction ks with
 | nil=>rfl
 | cons k ks ih=>rw [sumK_cons,ih fun j hj=>h j (List.mem_cons_of_mem _ hj),if_pos (h k (by simp)),List.map_cons,List.sum_cons]
theorem runU_in (c:Int→Int):∀ (ks:List Int) (n lo:Int) (s:List (Int × Int)),ks.Pairwise (· < ·)→(0<n→∀ k∈ks,lo<k)→n+(ks.map c).sum≤0→∀ u,inL (runU c ks n lo s) u=true↔inL s u=true∨∃ k r,ks=k::r∧((0<n∧lo≤u∧u<k)∨(k≤u∧0<n+sumK c ks u))
 | [],n,lo,s,_,_,_,u=>by simp [runU]
 | k::ks,n,lo,s,hp,hl,hf,u=>by
  rw [List.pairwise_cons] at hp
  rw [List.map_cons,List.sum_cons] at hf
  have hrest:∀ (n' lo':Int) (s':List (Int × Int)),n'=n+c k→(0<n'→lo'≤k)→(inL (runU c ks n' lo' s') u=true↔inL s' u=true∨(0<n'∧∃ k2 r,ks=k2::r∧lo'≤u∧u<k2)∨∃ k2 r,ks=k2::r∧k2≤u∧0<n'+sumK c ks u):=fun n' lo' s' e hlo=>by
   rw [runU_in c ks n' lo' s' hp.2 (fun h j hj=>by have:=hlo h;have:=hp.1 j hj;omega) (by omega) u]
   constructor
   · rintro (h | ⟨k2,r,e,⟨h1,h2,h3⟩ | ⟨h1,h2⟩⟩)
     · exact .inl h
     · exact .inr (.inl ⟨h1,k2,r,e,h2,h3⟩)
     · exact .inr (.inr ⟨k2,r,e,h1,h2⟩)
   · rintro (h | ⟨h1,k2,r,e,h2,h3⟩ | ⟨k2,r,e,h1,h2⟩)
     · exact .inl h
     · exact .inr ⟨k2,r,e,.inl ⟨h1,h2,h3⟩⟩
     · exact .inr ⟨k2,r,e,.inr ⟨h1,h2⟩⟩
  -- behind k: either ahead of the next turn,or behind it
  have hbeh:k≤u→(0<n+sumK c (k::ks) u↔(0<n+c k∧∃ k2 r,ks=k2::r∧u<k2)∨∃ k2 r,ks=k2::r∧k2≤u∧0<n+c k+sumK c ks u):=fun hku=>by
   rw [sumK_cons,if_pos hku]
   cases ks with
   | nil=>
    simp only [List.map_nil,List.sum_nil] at hf
    rw [sumK_nil]
    constructor
    · intro h;omega
    · rintro (⟨_,_,_,e,_⟩ | ⟨_,_,e,_⟩) <;> cases e
   | cons k2 r=>
    by_cases hu:u<k2
    · have hz:sumK c (k2::r) u=0:=sumK_small fun j hj=>by
       rcases List.mem_cons.1 hj with rfl | hj
       · exact hu
       · have:=(List.pairwise_cons.1 hp.2).1 j hj;omega
      rw [hz]
      constructor
      · intro h;exact .inl ⟨by omega,k2,r,rfl,hu⟩
      · rintro (⟨h,_⟩ | ⟨k3,r3,e,h3,_⟩)
        · omega
        · cases e;omega
    · constructor
      · intro h;exact .inr ⟨k2,r,rfl,by omega,by omega⟩
      · rintro (⟨h,k3,r3,e,h3⟩ | ⟨k3,r3,e,h3,h4⟩)
        · cases e;omega
        · omega
  have hgoal:(∃ k' r,k::ks=k'::r∧((0<n∧lo≤u∧u<k')∨(k'≤u∧0<n+sumK c (k::ks) u)))↔((0<n∧lo≤u∧u<k)∨(k≤u∧0<n+sumK c (k::ks) u)):=by
   constructor
   · rintro ⟨k',r,e,h⟩;cases e;exact h
   · intro h;exact ⟨k,ks,rfl,h⟩
  rw [hgoal]
  have hnext:∀ k2 r,ks=k2::r→k<k2:=fun k2 r e=>hp.1 k2 (by rw [e];simp)
  unfold runU
  by_cases h1:n≤0∧0<n+c k
  · rw [if_pos h1,hrest _ _ _ rfl (fun _=>Int.le_refl _)]
    constructor
    · rintro (h | ⟨h,k2,r,e,h3,h4⟩ | ⟨k2,r,e,h3,h4⟩)
      · exact .inl h
      · exact .inr (.inr ⟨h3,(hbeh h3).2 (.inl ⟨h,k2,r,e,h4⟩)⟩)
      · have:=hnext k2 r e
        exact .inr (.inr ⟨by omega,(hbeh (by omega)).2 (.inr ⟨k2,r,e,h3,h4⟩)⟩)
    · rintro (h | ⟨h,_⟩ | ⟨h3,h4⟩)
      · exact .inl h
      · omega
      · rcases (hbeh h3).1 h4 with ⟨h5,k2,r,e,h6⟩ | ⟨k2,r,e,h5,h6⟩
        · exact .inr (.inl ⟨h5,k2,r,e,h3,h6⟩)
        · exact .inr (.inr ⟨k2,r,e,h5,h6⟩)
  · rw [if_neg h1]
    by_cases h2:0<n∧n+c k≤0
    · rw [if_pos h2,hrest _ _ _ rfl (fun h=>by omega),inL_snoc,Bool.or_eq_true,inR_iff]
      constructor
      · rintro ((h | ⟨h3,h4⟩) | ⟨h,_⟩ | ⟨k2,r,e,h3,h4⟩)
        · exact .inl h
        · exact .inr (.inl ⟨h2.1,h3,by show u<k;have:u≤k - 1:=h4;omega⟩)
        · omega
        · have:=hnext k2 r e
          exact .inr (.inr ⟨by omega,(hbeh (by omega)).2 (.inr ⟨k2,r,e,h3,h4⟩)⟩)
      · rintro (h | ⟨_,h3,h4⟩ | ⟨h3,h4⟩)
        · exact .inl (.inl h)
        · exact .inl (.inr ⟨h3,show u≤k - 1 by omega⟩)
        · rcases (hbeh h3).1 h4 with ⟨h5,_⟩ | ⟨k2,r,e,h5,h6⟩
          · omega
          · exact .inr (.inr ⟨k2,r,e,h5,h6⟩)
    · rw [if_neg h2]
      by_cases h0:0<n
      · have hn:0<n+c k:=by omega
        have hlk:=hl h0 k (by simp)
        rw [hrest _ _ _ rfl (fun _=>by omega)]
        constructor
        · rintro (h | ⟨h,k2,r,e,h3,h4⟩ | ⟨k2,r,e,h3,h4⟩)
          · exact .inl h
          · by_cases hku:k≤u
            · exact .inr (.inr ⟨hku,(hbeh hku).2 (.inl ⟨h,k2,r,e,h4⟩)⟩)
            · exact .inr (.inl ⟨h0,h3,by omega⟩)
          · have:=hnext k2 r e
            exact .inr (.inr ⟨by omega,(hbeh (by omega)).2 (.inr ⟨k2,r,e,h3,h4⟩)⟩)
        · rintro (h | ⟨_,h3,h4⟩ | ⟨h3,h4⟩)
          · exact .inl h
          · cases ks with
            | nil=>simp only [List.map_nil,List.sum_nil] at hf;omega
            | cons k2 r=>exact .inr (.inl ⟨hn,k2,r,rfl,h3,by have:=hnext k2 r rfl;omega⟩)
          · rcases (hbeh h3).1 h4 with ⟨h5,k2,r,e,h6⟩ | ⟨k2,r,e,h5,h6⟩
            · exact .inr (.inl ⟨h5,k2,r,e,by omega,h6⟩)
            · exact .inr (.inr ⟨k2,r,e,h5,h6⟩)
      · have hn:¬ 0<n+c k:=by omega
        rw [hrest _ _ _ rfl (fun h=>absurd h hn)]
        constructor
        · rintro (h | ⟨h,_⟩ | ⟨k2,r,e,h3,h4⟩)
          · exact .inl h
          · exact absurd h hn
          · have:=hnext k2 r e
            exact .inr (.inr ⟨by omega,(hbeh (by omega)).2 (.inr ⟨k2,r,e,h3,h4⟩)⟩)
        · rintro (h | ⟨h,_⟩ | ⟨h3,h4⟩)
          · exact .inl h
          · exact absurd h h0
          · rcases (hbeh h3).1 h4 with ⟨h5,_⟩ | ⟨k2,r,e,h5,h6⟩
            · exact absurd h5 hn
            · exact .inr (.inr ⟨k2,r,e,h5,h6⟩)
def Up (s:List (Int × Int)):Prop:=s.Pairwise (fun x y=>x.2+1<y.1)∧∀ x∈s,x.1≤x.2
theorem runU_up (c:Int→Int):∀ (ks:List Int) (n lo:Int) (s:List (Int × Int)),ks.Pairwise (· < ·)→(0<n→(∀ k∈ks,lo<k)∧∀ x∈s,x.2+1<lo)→Up s→(∀ x∈s,∀ k∈ks,x.2+1<k)→Up (runU c ks n lo s)
 | [],_,_,_,_,_,h,_=>h
 | k::ks,n,lo,s,hp,hl,hs,hk=>by
  rw [List.pairwise_cons] at hp
  have hk':∀ x∈s,∀ j∈ks,x.2+1<j:=fun x hx j hj=>hk x hx j (List.mem_cons_of_mem _ hj)
  unfold runU
  split
  · exact runU_up c ks _ k s hp.2 (fun _=>⟨hp.1,fun x hx=>hk x hx k (by simp)⟩) hs hk'
  · split
    · rename_i h2
      obtain ⟨l1,l2⟩:=hl h2.1
      have l3:=l1 k (by simp)
      refine runU_up c ks _ lo _ hp.2 (fun h=>by omega) ⟨List.pairwise_append.2 ⟨hs.1,List.pairwise_singleton _ _,fun x hx y hy => ?_⟩,fun x hx => ?_⟩ fun x hx j hj => ?_
      · obtain rfl:=List.mem_singleton.1 hy
        exact l2 x hx
      · rcases List.mem_append.1 hx with hx | hx
        · exact hs.2 x hx
        · obtain rfl:=List.mem_singleton.1 hx
          show lo≤k - 1
          omega
      · rcases List.mem_append.1 hx with hx | hx
        · exact hk' x hx j hj
        · obtain rfl:=List.mem_singleton.1 hx
          have:=hp.1 j hj
          show k - 1+1<j
          omega
    · rename_i h1 h2
      by_cases h0:0<n
      · obtain ⟨l1,l2⟩:=hl h0
        exact runU_up c ks _ lo s hp.2 (fun _=>⟨fun j hj=>l1 j (List.mem_cons_of_mem _ hj),l2⟩) hs hk'
      · exact runU_up c ks _ lo s hp.2 (fun h=>by omega) hs hk'
end Go.Proofs
