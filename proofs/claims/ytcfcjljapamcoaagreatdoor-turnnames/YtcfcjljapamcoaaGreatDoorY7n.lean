/-
  slices.Sorted over maps.Keys of a map that counts.
-/
import Derived.Test.YtcfcjljapamcoaaGreatDoorKgn
import Derived.Test.YtcfcjljapamcoaaGreatDoorY4n
namespace Go.Proofs
open Go.RowKit Go.Maps Go.Sort Go.Shelf
theorem Tryz.sortsA (m:Nat):AnyZI.SortsIn Tryz.prog Tryz.sortedA_ren Fence.wide m:=
 ⟨fun blk off cap ss W hH hblk hsz=>callsIn_wide.2 (AnyM.slices_Sort_int Tryz.sortA blk off cap ss W hH hblk hsz),
  fun p cap W=>callsIn_wide.2 (AnyM.slices_Sort_int_none Tryz.sortA p cap W)⟩
theorem keys_own {H:Type} {W:World} {m n:Nat} {D:DataW H} {R:Value→Option (DataW H × List MemPlace)} (h:W.ownsMap Tryz.prog 3 R m n D):(intKeys D).Nodup∧∀ x,x∈intKeys D↔Maps.has D (.int .i64 x)=true:=by
 obtain ⟨es,hD,hp,_⟩:=h.entries key3
 obtain ⟨es',hD',hko⟩:=h.keysOf
 obtain rfl:es=es':=by rw [hD] at hD';simpa using hD'
 subst hD
 have hk:∀ p∈es,∃ x,p.1 = .int .i64 x:=fun p hp=>by
  obtain ⟨v,hv⟩:=hko p hp
  obtain ⟨x,_,hx,_⟩:=Maps.keyOf_i64 Tryz.underlying3 hv
  exact ⟨x,hx⟩
 constructor
 · show (es.map fun p=>Go.intOf p.1).Nodup
   refine List.pairwise_map.2 (hp.imp_of_mem fun {p q} hp' hq' hne e=>hne ?_)
   obtain ⟨a,ha⟩:=hk p hp'
   obtain ⟨b,hb⟩:=hk q hq'
   rw [ha,hb] at e ⊢
   exact congrArg _ e
 · intro x
   rw [has_eq,List.any_eq_true]
   show x∈es.map (fun p=>Go.intOf p.1)↔_
   rw [List.mem_map]
   constructor
   · rintro ⟨p,hp',rfl⟩
     obtain ⟨a,ha⟩:=hk p hp'
     exact ⟨p,hp',by rw [ha];simp [Lit.sameKey,Go.intOf]⟩
   · rintro ⟨p,hp',hs⟩
     obtain ⟨a,ha⟩:=hk p hp'
     rw [ha] at hs
     exact ⟨p,hp',by rw [ha];simpa [Lit.sameKey,Go.intOf] using hs⟩
theorem keys_any (mb:Option Nat) (W:World):Calls Tryz.prog 111 #[.map mb] W fun e w'=>e = .returned (.func (.func 146) #[] #[.pointer (some ⟨W.heap.size,0,none⟩)])∧w'=W.alloc (.cells #[.map mb] 118):=
 callsIn_wide.1 (AnyZI.keys_in Tryz.keysA Fence.wide 5 trivial rfl mb W)
theorem sortedK_any (m N:Nat) (c:Int→Int) (W:World) (h:IMap W m N (cntF c)) (hN:N≤1000000000) :
 Calls Tryz.prog 110 #[.func (.func 146) #[] #[.pointer (some ⟨W.heap.size,0,none⟩)]] (W.alloc (.cells #[.map (some m)] 118)) fun e w'=>∃ v ks,e = .returned v∧OwnI w' W.heap.size v ks∧ks.Pairwise (· < ·)∧Keys c ks∧ks.length≤N∧(∀ k∈ks,c k≠0)∧Below W.heap.size W w':=by
 obtain ⟨n,D,hD,hn,hK⟩:=h
 have hbl:=hD.lt
 have hsz:Maps.size D≤n:=hD.size_le
 have hseq:SeqGives Fence.wide 2 Tryz.prog 146 #[.pointer (some ⟨W.heap.size,0,none⟩)] encZ (fun ss=>ss.Perm (intKeys D)) (Maps.size D) (W.alloc (.cells #[.map (some m)] 118)):=
  AnyZI.keys_gives (ρ:=Tryz.keysA_ren) { Tryz.keysA with } Fence.wide _ trivial rfl (by omega) W.heap.size m n D _ (by simp) (by simp) (by
   obtain ⟨es,clock,hb,Ft,hs,hDD⟩:=hD
   exact ⟨es,clock,(Below.heap_alloc _ _ m hbl).trans hb,Ft,hs,hDD⟩)
 have cS:=AnyZI.sorted_in Tryz.sortedA Fence.wide 5 trivial trivial trivial trivial rfl (by omega) (Tryz.sortsA _) (enters_of Tryz.func145 (by kernel_rfl) rfl) 146 #[.pointer (some ⟨W.heap.size,0,none⟩)] trivial (enters_of Tryz.func146 (by kernel_rfl) rfl) _ _ (by unfold maxLen;omega) (by omega) _ hseq
 change CallsIn _ _ Tryz.prog 110 _ _ _ at cS
 refine (callsIn_wide.1 cS).mono ?_
 rintro e w' ⟨v,ss,rfl,hS,hrow,_,hb⟩
 obtain ⟨hnd,hmem⟩:=keys_own hD
 have hperm:(ss.mergeSort fun x y=>decide (x≤y)).Perm (intKeys D):=(List.mergeSort_perm ss _).trans hS
 have hlen:(ss.mergeSort fun x y=>decide (x≤y)).length=ss.length:=(List.mergeSort_perm ss _).length_eq
 have hnd2:(ss.mergeSort fun x y=>decide (x≤y)).Nodup:=hperm.nodup_iff.2 hnd
 have hmm:∀ k,k∈(ss.mergeSort fun x y=>decide (x≤y))↔c k≠0:=fun k=>by
  rw [hperm.mem_iff,hmem k,(hK k).1]
  unfold cntF
  by_cases h0:c k=0 <;> simp [h0]
 refine ⟨v,ss.mergeSort fun x y=>decide (x≤y),rfl,?_,?_,⟨hnd2,fun k h0=>(hmm k).2 h0⟩,?_,fun k hk=>(hmm k).1 hk,((Below.refl _ W).alloc (Nat.le_refl _) _).trans (hb.mono (by simp))⟩
 · unfold OwnI
   rw [hlen]
   have hr2:w'.ownsRow (W.alloc (.cells #[.map (some m)] 118)).heap.size 3 1 v ss.length (ints (ss.mergeSort fun x y=>decide (x≤y))):=hrow
   exact Joins.ownsRow_le hr2 (by simp)
 · have hs:=List.pairwise_mergeSort (le:=fun x y:Int=>decide (x≤y)) (fun a b c h1 h2=>by simp only [decide_eq_true_eq] at *;omega) (fun a b=>by simp only [Bool.or_eq_true,decide_eq_true_eq];omega) ss
   refine (hs.and hnd2).imp fun {a b} h => ?_
   simp only [decide_eq_true_eq] at h
   have:=h.2
   omega
 · rw [hlen]
   have:=hS.length_eq
   have hsl:(intKeys D).length≤Maps.size D:=by
    obtain ⟨es,rfl,_⟩:=hD.keysOf
    simp [intKeys,Maps.size]
   omega
end Go.Proofs
