/-
  units 82: the units that are counted more than no time.
-/
import Derived.Test.YtcfcjljapamcoaaGreatDoorY7n
namespace Go.Proofs
open Go.RowKit Go.Shelf
set_option maxRecDepth 100000
attribute [local go_sem] Oper.semAt_some
theorem Hid.mk9 {p:Prop} (h:p):Hid p:=h
theorem runU_at (c:Int→Int) {ks:List Int} {i:Nat} {k:Int} (hk:ks[i]? = some k) (n lo:Int) (s:List (Int × Int)):runU c (ks.drop i) n lo s=if n≤0∧0<n+c k then runU c (ks.drop (i+1)) (n+c k) k s else if 0<n∧n+c k≤0 then runU c (ks.drop (i+1)) (n+c k) lo (s++[(lo,k - 1)]) else runU c (ks.drop (i+1)) (n+c k) lo s:=by
 obtain ⟨hl,e⟩:=List.getElem?_eq_some_iff.1 hk
 rw [List.drop_eq_getElem_cons hl,e]
 rfl
def UnI (W1:World) (c:Int→Int) (ks:List Int) (R:List (Int × Int)) (i:Nat) (n lo:Int) (v:Value) (wr:World):Prop:=∃ s,OwnR wr W1.heap.size v s∧runU c (ks.drop i) n lo s=R∧s.length≤i∧Below W1.heap.size W1 wr
def UnQ (W:World) (c:Int→Int) (e:Ending) (w':World):Prop:=∃ v ks,e = .returned v∧OwnR w' W.heap.size v (runU c ks 0 0 [])∧ks.Pairwise (· < ·)∧Keys c ks∧(∀ k∈ks,c k≠0)∧Below W.heap.size W w'
set_option maxHeartbeats 4000000 in
theorem unitsT_any' (W:World) (m N:Nat) (c:Int→Int) (h:IMap W m N (cntF c)) (hN:N≤1000000000) (hc:∀ k,-(N:Int)≤c k∧c k≤(N:Int)) (hkb:∀ k,c k≠0 → -100000000≤k∧k≤100000000) :
 Calls Tryz.prog 82 #[.map (some m)] W (UnQ W c):=by
 have HK:Hid (Calls Tryz.prog 111 #[.map (some m)] W fun e w'=>e = .returned (.func (.func 146) #[] #[.pointer (some ⟨W.heap.size,0,none⟩)])∧w'=W.alloc (.cells #[.map (some m)] 118)):=keys_any _ _
 have HSo:=sortedK_any m N c W h hN
 have HS:Hid (Calls Tryz.prog 110 #[.func (.func 146) #[] #[.pointer (some ⟨W.heap.size,0,none⟩)]] (W.alloc (.cells #[.map (some m)] 118)) fun e w'=>∃ v ks,e = .returned v∧OwnI w' W.heap.size v ks∧ks.Pairwise (· < ·)∧Keys c ks∧ks.length≤N∧(∀ k∈ks,c k≠0)∧Below W.heap.size W w'):=HSo
 have HH:Hid (IMap W m N (cntF c)∧(∀ k,-(N:Int)≤c k∧c k≤(N:Int))∧(∀ k,c k≠0 → -100000000≤k∧k≤100000000)):=⟨h,hc,hkb⟩
 have hmW:=h.lt
 clear h hc hkb HSo
 go_enter Tryz.func82,Tryz.ntmps82
 go_wp2_with fail
 refine HK.out.mono ?_
 rintro e w0 ⟨rfl,rfl⟩
 go_wp2_with fail
 refine HS.out.mono ?_
 rintro e W1 ⟨v,ks,rfl,hO,hp,hky,hkl,hkn,hb⟩
 obtain ⟨ka,kc,rfl,_,hkr⟩:=hO.ir
 obtain ⟨nk,hnk⟩:∃ nk,ks.length=nk:=⟨_,rfl⟩
 obtain ⟨R,hR⟩:∃ R,runU c ks 0 0 []=R:=⟨_,rfl⟩
 have H:Hid (ks.Pairwise (· < ·)∧Keys c ks∧ks.length=nk∧(∀ k∈ks,c k≠0)∧Below W.heap.size W W1∧(ks=[]∨∃ g o,ka=some ⟨g,o,none⟩∧IRd W1 g o ks)∧runU c ks 0 0 []=R):=⟨hp,hky,hnk,hkn,hb,hkr,hR⟩
 rw [hnk]
 have hnN:nk≤1000000000:=by omega
 clear hO hp hky hkl hkn hb hkr hR hnk HS HK
 go_wp2
 go_loopw [3,4,5,13] (fun vs vn vl vi wr=>∃ (i:Nat) (n lo:Int),vi = .int .i64 i∧vn = .int .i64 n∧vl = .int .i64 lo∧i≤nk∧(-((i:Int)*N)≤n∧n≤(i:Int)*N)∧Hid (UnI W1 c ks R i n lo vs wr)) (fun _ _ _ vi _=>nk - (intOf vi).toNat)
 case atStart=>exact ⟨0,0,0,rfl,rfl,rfl,by omega,by omega,[],OwnR.nil _ _,H.out.2.2.2.2.2.2,Nat.le_refl _,Below.refl _ _⟩
 case round=>
  obtain ⟨i,n,lo,rfl,rfl,rfl,hi,⟨hn1,hn2⟩,HB⟩:=hrel
  by_cases hlt:i<nk
  · have hlt':(i:Int)<(nk:Int):=by omega
    have hpos:(0:Int)≤(i:Int):=by omega
    have hil:i<ks.length:=by rw [H.out.2.2.1];exact hlt
    obtain ⟨g,o,rfl,hr⟩:=H.out.2.2.2.2.2.1.resolve_left (by rintro rfl;simp at hil)
    obtain ⟨k,hk⟩:∃ k,ks[i]? = some k:=⟨_,List.getElem?_eq_getElem hil⟩
    have ck:=hr i hil
    obtain ⟨_,hke⟩:=List.getElem?_eq_some_iff.1 hk
    rw [hke] at ck
    have hkm:k∈ks:=List.mem_of_getElem? hk
    have hk0:=H.out.2.2.2.1 k hkm
    obtain ⟨kb1,kb2⟩:=HH.out.2.2 k hk0
    obtain ⟨cb1,cb2⟩:=HH.out.2.1 k
    obtain ⟨sl,hOs,hRs,hsl,hbs⟩:=HB.out
    have ck:=cell_below ck hbs (Nat.le_refl _)
    have hI:IMap wr m N (cntF c):=HH.out.1.kept fun ob ho=>(hbs.block m (Nat.lt_of_lt_of_le hmW H.out.2.2.2.2.1.size)).trans ((H.out.2.2.2.2.1.block m hmW).trans ho)
    have hlk:=hI.look (t:=118) (e:=3) Tryz.underlying118 (zero3 _) (k:=k) ⟨by omega,by omega⟩
    rw [cntF_get] at hlk
    have hst:=runU_at c hk n lo sl
    rw [hRs] at hst
    obtain ⟨y,hy⟩:∃ y,c k=y:=⟨_,rfl⟩
    rw [hy] at hlk cb1 cb2 hst
    have hB1:(i:Int)*N≤1000000000*1000000000:=Int.mul_le_mul (by omega) (by omega) (by omega) (by omega)
    have hB2:((i+1:Nat):Int)*N=(i:Int)*N+N:=by rw [Int.natCast_add,Int.add_mul];simp
    have hwn:IntKind.i64.wrap (n+y)=n+y:=by rw [IntKind.wrap_i64];omega
    have hwk:IntKind.i64.wrap (k - 1)=k - 1:=by rw [IntKind.wrap_i64];omega
    have hbn : -(((i+1:Nat):Int)*N)≤n+y∧n+y≤((i+1:Nat):Int)*N:=by rw [hB2];omega
    obtain ⟨sa,sc,rfl⟩:∃ sa sc,_=Value.slice sa sl.length sc:=by
     obtain ⟨a2,c2,e2,_⟩:=hOs.rs
     exact ⟨a2,c2,e2⟩
    have HOs:Hid (OwnR wr W1.heap.size (.slice sa sl.length sc) sl∧Below W1.heap.size W1 wr∧sl.length≤i∧R=if n≤0∧0<n+y then runU c (ks.drop (i+1)) (n+y) k sl else if 0<n∧n+y≤0 then runU c (ks.drop (i+1)) (n+y) lo (sl++[(lo,k - 1)]) else runU c (ks.drop (i+1)) (n+y) lo sl):=⟨hOs,hbs,hsl,hst⟩
    have HBN:=Hid.mk9 hbn
    clear hOs hbs hsl hst hI hk hke hkm hk0 hr hRs HB hB1 hB2 hy hbn
    by_cases h1:n≤0
    · have d1:decide (n≤(0:Int))=true:=by simpa using h1
      have d3:decide ((0:Int)<n)=false:=by simp;omega
      by_cases h2:0<n+y
      · have d2:decide ((0:Int)<n+y)=true:=by simpa using h2
        have HF:Hid (UnI W1 c ks R (i+1) (n+y) k (.slice sa sl.length sc) wr):=⟨sl,HOs.out.1,by rw [HOs.out.2.2.2,if_pos ⟨h1,h2⟩],by have:=HOs.out.2.2.1;omega,HOs.out.2.1⟩
        clear HOs
        go_wp2
        exact ⟨⟨i+1,n+y,k,by go_num,rfl,rfl,by omega,HBN.out,HF⟩,by simp [intOf];omega⟩
      · have d2:decide ((0:Int)<n+y)=false:=by simpa using h2
        have HF:Hid (UnI W1 c ks R (i+1) (n+y) lo (.slice sa sl.length sc) wr):=⟨sl,HOs.out.1,by rw [HOs.out.2.2.2,if_neg (fun h=>h2 h.2),if_neg (fun h=>by omega)],by have:=HOs.out.2.2.1;omega,HOs.out.2.1⟩
        clear HOs
        go_wp2
        exact ⟨⟨i+1,n+y,lo,by go_num,rfl,rfl,by omega,HBN.out,HF⟩,by simp [intOf];omega⟩
    · have d1:decide (n≤(0:Int))=false:=by simpa using h1
      have d3:decide ((0:Int)<n)=true:=by simp;omega
      by_cases h2:n+y≤0
      · have d2:decide (n+y≤(0:Int))=true:=by simpa using h2
        have hbz:=HOs.out.2.1.size
        have hc0:(wr.alloc (.cells #[.int .i64 lo,.int .i64 (k - 1)] 67)).cell? ⟨wr.heap.size,0,none⟩=some (.int .i64 lo):=by rw [cell_of (World.alloc_heap_new _ _)];rfl
        have hc1:(wr.alloc (.cells #[.int .i64 lo,.int .i64 (k - 1)] 67)).cell? ⟨wr.heap.size,1,none⟩=some (.int .i64 (k - 1)):=by rw [cell_of (World.alloc_heap_new _ _)];rfl
        have hsl9:sl.length+1≤8796093022208:=by have:=HOs.out.2.2.1;omega
        go_upto_region 12 with (first | (at_builtin;refine push_R rfl _ _ 40 rfl Tryz.underlying40 W1.heap.size _ sl rfl (HOs.out.1.alloc _) wr.heap.size 1 lo (k - 1) rfl hc0 hc1 hsl9 ?_ ?_;rotate_left 1;intro v6 w6 hO6 hg6 hb6) | fail)
        · have HF:Hid (UnI W1 c ks R (i+1) (n+y) lo v6 w6):=⟨sl++[(lo,k - 1)],hO6,by rw [HOs.out.2.2.2,if_neg (fun h=>by omega),if_pos ⟨by omega,h2⟩],by rw [List.length_append];have:=HOs.out.2.2.1;simp;omega,(HOs.out.2.1.alloc hbz _).trans hb6⟩
          obtain ⟨a6,c6,rfl⟩:∃ a6 c6,v6=Value.slice a6 (sl++[(lo,k - 1)]).length c6:=by
           obtain ⟨a2,c2,e2,_⟩:=hO6.rs
           exact ⟨a2,c2,e2⟩
          clear hO6 hg6 hb6 HOs hc0 hc1
          go_wp2
          exact ⟨⟨i+1,n+y,lo,by go_num,rfl,rfl,by omega,HBN.out,HF⟩,by simp [intOf];omega⟩
        · omega
      · have d2:decide (n+y≤(0:Int))=false:=by simpa using h2
        have HF:Hid (UnI W1 c ks R (i+1) (n+y) lo (.slice sa sl.length sc) wr):=⟨sl,HOs.out.1,by rw [HOs.out.2.2.2,if_neg (fun h=>h1 h.1),if_neg (fun h=>h2 h.2)],by have:=HOs.out.2.2.1;omega,HOs.out.2.1⟩
        clear HOs
        go_wp2
        exact ⟨⟨i+1,n+y,lo,by go_num,rfl,rfl,by omega,HBN.out,HF⟩,by simp [intOf];omega⟩
  · have hin:Hid (i=nk):=by show i=nk;omega
    obtain ⟨sl,hOs,hRs,hsl,hbs⟩:=HB.out
    obtain ⟨sa,sc,rfl⟩:∃ sa sc,_=Value.slice sa sl.length sc:=by
     obtain ⟨a2,c2,e2,_⟩:=hOs.rs
     exact ⟨a2,c2,e2⟩
    rw [List.drop_eq_nil_of_le (by have:=H.out.2.2.1;have:=hin.out;omega)] at hRs
    have hRs:sl=R:=hRs
    have HF:Hid (UnQ W c (.returned (.slice sa sl.length sc)) wr):=by
     refine ⟨_,ks,rfl,?_,H.out.1,H.out.2.1,H.out.2.2.2.1,H.out.2.2.2.2.1.trans (hbs.mono H.out.2.2.2.2.1.size)⟩
     rw [H.out.2.2.2.2.2.2,←hRs]
     exact hOs.le H.out.2.2.2.2.1.size
    clear hOs hRs hsl hbs HB
    go_wp2
    go_ret
    exact HF.out
end Go.Proofs
