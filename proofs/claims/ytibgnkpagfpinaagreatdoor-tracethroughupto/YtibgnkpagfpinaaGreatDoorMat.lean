/-
  One row for each set; how many units a row has.
-/
import Derived.Test.YtibgnkpagfpinaaGreatDoorVet
namespace Go.Proofs
open Go.RowKit Go.Shelf
theorem hasU_cons (x:Int × Int) (l:List (Int × Int)) (u:Int):hasU (x::l) u↔(x.1≤u∧u≤x.2)∨hasU l u:=by
 unfold hasU
 simp only [List.mem_cons]
 constructor
 · rintro ⟨y,rfl | hy,h⟩
   · exact .inl h
   · exact .inr ⟨y,hy,h⟩
 · rintro (h | ⟨y,hy,h⟩)
   · exact ⟨x,.inl rfl,h⟩
   · exact ⟨y,.inr hy,h⟩
theorem nth_at:∀ (l:List (Int × Int)) (k:Nat) (i:Int),(∀ x∈l,Whole x)→k<l.length→0≤i→i<(rg l k).2 - (rg l k).1+1→nthL l (tot (l.take k)+i)=some ((rg l k).1+i)
 | [],k,i,_,hk,_,_=>by simp at hk
 | x::l,0,i,_,_,h0,h1=>by
  have e:rg (x::l) 0=x:=rfl
  rw [e] at h1 ⊢
  simp only [List.take_zero,tot_nil,nthL,Int.zero_add]
  rw [if_pos h1]
 | x::l,k+1,i,hw,hk,h0,h1=>by
  have e:rg (x::l) (k+1)=rg l k:=by simp [rg]
  rw [e] at h1 ⊢
  have ih:=nth_at l k i (fun y hy=>hw y (by simp [hy])) (by simpa using hk) h0 h1
  have hb:=(tot_bound (l:=l.take k) (fun y hy=>hw y (by simp [List.mem_of_mem_take hy]))).1
  rw [List.take_succ_cons,tot_cons,nthL,if_neg (by omega),show x.2 - x.1+1+tot (l.take k)+i - (x.2 - x.1+1)=tot (l.take k)+i by omega]
  exact ih
theorem nth_place {l:List (Int × Int)} (h:Good l) {u:Int} (hu:hasU l u):nthL l (placeU l u)=some u∧0≤placeU l u:=by
 have hlt:fnd l u<l.length:=by
  have h1:=fnd_le l u
  by_cases e:fnd l u=l.length
  · exact absurd hu (hasU_end h e)
  · omega
 have h1:=(hasU_in h hlt).1 hu
 have h2:¬ (rg l (fnd l u)).2<u:=fun e=>by have:=(fnd_lt h u hlt).2 e;omega
 have h3:=nth_at l (fnd l u) (u - (rg l (fnd l u)).1) h.1 hlt (by omega) (by omega)
 have h4:=(tot_bound (l:=l.take (fnd l u)) (fun y hy=>h.1 y (List.mem_of_mem_take hy))).1
 unfold placeU
 rw [show tot (l.take (fnd l u))+u - (rg l (fnd l u)).1=tot (l.take (fnd l u))+(u - (rg l (fnd l u)).1) by omega,h3]
 exact ⟨by rw [show (rg l (fnd l u)).1+(u - (rg l (fnd l u)).1)=u by omega],by omega⟩
end Go.Proofs
