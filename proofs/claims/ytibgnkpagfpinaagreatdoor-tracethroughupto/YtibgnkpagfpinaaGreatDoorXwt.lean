/-
  Rules, rows of sets, pieces and numbers that came in, as the walks want them; how great they are.
-/
import Derived.Deep.SlicePairs
import Derived.SizedLaws
import Derived.Test.YtibgnkpagfpinaaGreatDoorWdt
import Derived.Test.YtibgnkpagfpinaaGreatDoorXyt
namespace Go.Proofs.YtibgnkpagfpinaaGreatDoor
open Go.ChangeShapes Go.WideShapes Go.ChangeAt Go.RowKit Go.WideMaps Go.WideElems Go.Deep
set_option maxRecDepth 100000
theorem bulk_pos {H:Type} (d:DataW H):1≤Rows.uptoBulk d:=by
 cases d with
 | lit l=>cases l <;> simp [Rows.uptoBulk]
 | _=>simp [Rows.uptoBulk]
theorem bulk_len {H:Type} : ∀ l:List (DataW H),l.length≤Rows.uptoBulkAll l
 | []=>by simp [Rows.uptoBulkAll]
 | d::r=>by
  have h1:=bulk_pos d
  have h2:=bulk_len r
  simp only [List.length_cons,Rows.uptoBulkAll]
  omega
theorem bulk_mem {H:Type} : ∀ (l:List (DataW H)) (d:DataW H),d∈l→Rows.uptoBulk d≤Rows.uptoBulkAll l
 | [],d,h=>by cases h
 | e::r,d,h=>by
  simp only [Rows.uptoBulkAll]
  rcases List.mem_cons.1 h with rfl | h
  · omega
  · have:=bulk_mem r d h
    omega
section
variable {H:Type} {enc:TypeId × Value→H} {W:World}
theorem slice_read {α:Type} [Inhabited α] {t e:TypeId} {s:Nat} (ht:Tryz.prog.underlying t=some (.slice e)) (hs:Tryz.prog.cellsOf e=s) (hpos:0<s) (R:List Value→DataW H→α→Prop)
 (hR:∀ n cs x,DataW.trod enc Tryz.prog W 0 (fun _=>true) true n e cs=some x→∃ y,R cs x.1 y) {fuel:Nat} {cs:List Value} {x:DataW H × List MemPlace} (hf:DataW.trod enc Tryz.prog W 0 (fun _=>true) true fuel t cs=some x) :
 ∃ (a:Option Addr) (cap:Nat) (l:List α),cs=[.slice a l.length cap]∧l.length≤cap∧l.length≤maxLen∧l.length≤Rows.uptoBulk x.1∧(l=[]∨∃ g o,a=some ⟨g,o,none⟩∧∀ (j:Nat) (hj:j<l.length),∃ cs' d,cs'.length=s∧R cs' d l[j]∧Rows.uptoBulk d≤Rows.uptoBulk x.1∧∀ i v,cs'[i]? = some v→W.cell? ⟨g,o+j*s+i,none⟩=some v):=by
 rcases open_slice ht hf with ⟨hcs,hx⟩ | ⟨a,len,cap,m,n,D,Pl,hcs,_,hl,hml,hm,hx,hcell⟩
 · exact ⟨none,0,[],by rw [hcs];rfl,Nat.le_refl _,by simp,by simp,.inl rfl⟩
 · simp only [if_true] at hm
   subst hm
   rw [hs] at hcell
   have each:∀ i,i<len→∃ y:α,∃ cs',cs'.length=s∧R cs' (D i) y∧∀ k v,cs'[k]? = some v→W.cell? (a.add (i*s+k))=some v:=by
    intro i hi
    obtain ⟨cs',h1,h2⟩:=hcell i (by omega)
    obtain ⟨_,hlen,hc⟩:=World.cells?_some h1
    obtain ⟨y,hy⟩:=hR _ _ _ h2
    refine ⟨y,cs',hlen,hy,fun k v hv => ?_⟩
    have hk:=(List.getElem?_eq_some_iff.1 hv).1
    have:=hc k (by omega)
    rw [add_add] at this
    rw [this]
    exact hv
   obtain ⟨q,hq⟩:=choose_lt each
   have hlen:((List.range len).map q).length=len:=by simp
   have hbulk:∀ i,i<len→Rows.uptoBulk (D i)≤Rows.uptoBulk x.1:=fun i hi=>by
    rw [hx]
    simp only [Rows.uptoBulk]
    have:=bulk_mem ((List.range len).map D) (D i) (List.mem_map.2 ⟨i,by simpa using hi,rfl⟩)
    omega
   have hbl:len≤Rows.uptoBulk x.1:=by
    rw [hx]
    simp only [Rows.uptoBulk]
    have:=bulk_len ((List.range len).map D)
    simp only [List.length_map,List.length_range] at this
    omega
   refine ⟨some a,m,(List.range len).map q,by rw [hlen,hcs],by rw [hlen];exact hl,by rw [hlen];exact Nat.le_trans hl hml,by rw [hlen];exact hbl,?_⟩
   by_cases h0:len=0
   · exact .inl (by rw [h0];rfl)
   · obtain ⟨b,off,spot⟩:=a
     have hspot:spot=none:=by
      obtain ⟨cs',h1,h2,h3⟩:=hq 0 (by omega)
      have hlt:0<cs'.length:=by omega
      have:=h3 0 cs'[0] (List.getElem?_eq_getElem hlt)
      simpa [Addr.add] using World.cell?_spot this
     subst hspot
     refine .inr ⟨b,off,rfl,fun j hj => ?_⟩
     rw [hlen] at hj
     obtain ⟨cs',h1,h2,h3⟩:=hq j hj
     refine ⟨cs',D j,h1,by simpa using h2,hbulk j hj,fun i v hv => ?_⟩
     have:=h3 i v hv
     rw [Addr.add_lit] at this
     rw [Nat.add_assoc]
     exact this
instance:Inhabited Pc:=⟨⟨0,0,0,[]⟩⟩
end
end Go.Proofs.YtibgnkpagfpinaaGreatDoor
