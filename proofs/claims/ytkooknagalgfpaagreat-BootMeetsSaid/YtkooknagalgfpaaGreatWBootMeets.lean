/-  -/
import Derived.Test.YtkooknagalgfpaaGreatBMe
namespace Go.Proofs.YtkooknagalgfpaaGreat
open Go.RowKit

theorem Gm {l m:List Nat} {k:Nat} (h1:k≤l.length) (h2:m.length=k) (h:∀ i<k,l.getD i 0=m.getD i 0):l.take k=m:=by
 refine List.ext_getElem (by rw [List.length_take];omega) fun i a b=>?_
 have:=h i (by omega)
 rw [List.getD_eq_getElem?_getD,List.getD_eq_getElem?_getD,List.getElem?_eq_getElem (by omega),List.getElem?_eq_getElem b] at this
 rw [List.getElem_take]
 exact this
theorem Gn (qs:List Quo) {k N:Nat} (h:k≤N):(aO qs N).take k=aO qs k:=by
 unfold aO
 rw [← List.map_take,List.take_range,Nat.min_eq_left h]
theorem rP (base kind W:Int) (p:Option Addr) (b off c:Nat) (rs:List Rul) (pq:Option Addr) (bq oq cq:Nat) (qs:List Quo) (w:World) (hs:RSrc w p b off rs) (hl:rs.length≤9223372036854775807) (hq:QSrc w pq bq oq qs) (_hI:∀ q ∈ qs,QuoI q) (_h1:qs.length≤cq) (_h2:cq≤9223372036854775807) (_h3:I64 base) (_h4:I64 kind) :
  Calls Tryz.prog 6 #[.int .i64 base,.int .i64 kind,.agg #[.int .i64 W,.slice p rs.length c],.slice pq qs.length cq] w fun e w'=>e=.returned (.bool true)∧Below w.heap.size w w':=by
 have HF:Hid (∀ wx,Below w.heap.size w wx→Calls Tryz.prog 14 #[.int .i64 base,.int .i64 kind,.agg #[.int .i64 W,.slice p rs.length c],.slice pq qs.length cq] wx fun e w'=>(∃ f,e=.returned (.bool f))∧Below wx.heap.size wx w'):=fun wx hb=>Gg base kind W p pq bq oq cq rs.length c qs wx (hq.below hb)
 obtain⟨A,B,hA⟩:=OD W rs
 obtain⟨R,hR⟩:=NO base kind W A rs qs
 have B1:∀ wx,Below w.heap.size w wx→Calls Tryz.prog 12 #[.int .i64 base,.int .i64 kind,.agg #[.int .i64 W,.slice p rs.length c],.slice pq qs.length cq] wx fun e w'=>NM wx base kind (aO qs qs.length) R e w'∧Below wx.heap.size wx w':=fun wx hb=>ku base kind W A B p pq b off c bq oq cq rs qs wx hA (hs.below hb) hl (hq.below hb) hR
 by_cases hz:R.2.1=0
 ·cases hR with
  | bad E K h hE=>exact absurd hz hE
  | go h=>
   obtain⟨hf,b0,b1,k1,k4,rfl,lo,hi⟩:=zN h
   have hC:=zO hA
   have hz':(aq base kind W rs qs qs.length).2.1=0:=hz
   have hlen:=(jD (W:=W) (rs:=rs) b0 b1 k1 k4 hi hf qs.length (Nat.le_refl _) hz').1
   refine wu base kind W p pq rs.length c cq qs.length w bq oq qs (aO qs qs.length) (aq base kind W rs qs qs.length).1 hi (av _ _) hlen (hq.at_ (by omega)) hq rfl (fun k hk=>jB qs hk) HF (fun wx hb=>(B1 wx hb).mono fun e w' ⟨hO,hb'⟩=>⟨?_,hb'⟩) (fun k hk=>?_)
   ·obtain⟨g,k,g',k',he,s1,s2,_,_,q1,q2⟩:=zR hO hz (by rw [av];omega)
    rw [av] at he s1 s2 q1 q2
    exact⟨g,k,g',k',he,s1,s2,q1,q2⟩
   ·obtain⟨X,e1,e2,hm,hok⟩:=Lc (W:=W) (rs:=rs) b0 b1 k1 k4 hi hf hz' hk
    obtain⟨L,n,hc,hF,x,gx,x1,x2,hd⟩:=Gj hm hok
    have zk:=lY hz' (show k≤qs.length by omega)
    obtain⟨l0,f0⟩:=jD (W:=W) (rs:=rs) b0 b1 k1 k4 hi hf k (by omega) zk
    obtain⟨j,hj⟩:∃ j,qs.length=k+j:=⟨qs.length - k,by omega⟩
    have hfs:=wl (base:=base) (kind:=kind) (W:=W) (rs:=rs) (qs:=qs) (n:=k) j (by rw [← hj];exact hz') l0
    rw [← hj] at hfs
    have ht:=Gm (by omega) l0 hfs.2
    refine⟨fun d=>wt base kind W rs (aO qs (k+1)) ((aq base kind W rs qs k).1++[d]) (qs.getD k au) L n,x,by rw [e2];exact gx,x1,x2,by rw [e2];exact hd,?_⟩
    intro wx d r g1 c1 g2 c2 hb hg r1 r2 v1 v2
    have hfd:=io hg (by omega) (by omega)
    rw [Gn qs (by omega)] at v1
    rw [ht] at v2
    have hl2:((aq base kind W rs qs k).1++[d]).length=k+1:=by rw [aI,l0]
    have:=Ci (oG b0 hf hk) hC hc hF (hok d hfd.2) (by rw [av,jB qs (by omega)];exact Int.le_refl _) p (some ⟨g1,0,none⟩) (some ⟨g2,0,none⟩) b off c g1 0 c1 g2 0 c2 wx (hs.below hb) ⟨by rw [av];exact v1,by rw [hl2];exact v2,fun i hi'=>by
     rw [hl2] at hi'
     by_cases hik:i=k
     ·subst hik
      have:=last_at (aq base kind W rs qs i).1 d
      rw [l0] at this
      rw [this]
      have:=hfd.1
      omega
     ·rw [du _ d (by omega)]
      exact (f0 i (by omega)).2⟩
    rw [av,hl2] at this
    exact this
 ·refine sE base kind W p pq rs.length c cq qs.length w R.2.1 R.2.2 hz HF (fun wx hb=>(B1 wx hb).mono fun e w' ⟨hO,hb'⟩=>⟨?_,hb'⟩)
  rcases hO with⟨_,he⟩| ⟨h0,_⟩
  ·exact he
  ·exact absurd h0 hz
end Go.Proofs.YtkooknagalgfpaaGreat
