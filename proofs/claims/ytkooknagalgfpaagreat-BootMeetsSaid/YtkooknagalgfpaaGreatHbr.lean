/-  -/
import Derived.Test.YtkooknagalgfpaaGreatHbf
import Derived.Test.YtkooknagalgfpaaGreatHbp
import Derived.Test.YtkooknagalgfpaaGreatHay
import Derived.Test.YtkooknagalgfpaaGreatHbl
import Derived.Test.YtkooknagalgfpaaGreatHav
import Derived.Test.YtkooknagalgfpaaGreatHbn
namespace Go.Proofs.YtkooknagalgfpaaGreat
open Go.RowKit

theorem Dj {kind:Int} {xs:List Int} {ys:List Nat} {E:Int} (ok:OkT kind xs ys) (h:TabR kind xs ys E):E=0:=by
 cases h with
 | ok h=>rfl
 | kind h=>have:=ok.k1;have:=ok.k4;omega
 | len h1 h4 h=>have:=ok.lo;have:=ok.hi;have:=ok.len;omega
 | node h1 h4 lo hi len K hK bad fine=>rw [ok.node K hK] at bad;cases bad
theorem vM {base kind:Int} {ds:List Int} {fs:List Nat} {E:Int} (ok:OkV base kind ds fs) (h:CurR base kind ds fs E):E=0:=by
 cases h with
 | ok h=>rfl
 | base h=>have:=ok.b0;have:=ok.b1;omega
 | kind b0 b1 h=>have:=ok.k1;have:=ok.k4;omega
 | len b0 b1 h1 h4 h=>have:=ok.lo;have:=ok.hi;have:=ok.len;omega
 | node b0 b1 h1 h4 lo hi len K hK bad fine=>rw [ok.node K hK] at bad;cases bad
theorem jA {kind:Int} {xs:List Int} {ys:List Nat} {x:Int} {j k:Nat} (ok:OkT kind xs ys) (h:FindR xs x j) (h':FindR xs x k):j=k:=by
 rcases Nat.lt_trichotomy j k with c | c | c
 ·exfalso
  have a:=h.gt (by have:=h'.lt;omega)
  have b:=h'.le
  rcases Nat.lt_or_eq_of_le (show j+1≤k from c) with d | d
  ·have:=ok.rise d h'.lt;omega
  ·rw [← d] at b;omega
 ·exact c
 ·exfalso
  have a:=h'.gt (by have:=h.lt;omega)
  have b:=h.le
  rcases Nat.lt_or_eq_of_le (show k+1≤j from c) with d | d
  ·have:=ok.rise d h.lt;omega
  ·rw [← d] at b;omega
theorem Nu {kind:Int} {xs:List Int} {ys:List Nat} {x:Int} {V V':Nat} {E E':Int} (ok:OkT kind xs ys) (h:AtO kind xs ys x V E) (h':AtO kind xs ys x V' E'):V=V'∧E=E':=by
 have F:∀ {k E},FindO kind xs ys x k E→E≠0→E=51∧(x<xs.getD 0 0∨xs.getD (xs.length - 1) 0<x):=fun h hE=>by
  cases h with
  | bad E h hE=>exact absurd (Dj ok h) hE
  | out h hx=>exact⟨rfl,hx⟩
  | at_=>exact absurd rfl hE
 have G:∀ {k},FindO kind xs ys x k 0→¬ (x<xs.getD 0 0∨xs.getD (xs.length - 1) 0<x):=fun {k} h=>by
  generalize hz:(0:Int)=z at h
  cases h with
  | bad E h hE=>exact absurd hz.symm hE
  | out h hx=>cases hz
  | at_ h a b=>omega
 cases h with
 | err k E h hE=>
  obtain⟨rfl,hx⟩:=F h hE
  cases h' with
  | err k' E' h' hE'=>obtain⟨rfl,_⟩:=F h' hE';exact⟨rfl,rfl⟩
  | node k' _ h'=>exact absurd hx (G h')
  | piece k' D i _ h'=>exact absurd hx (G h')
 | node k _ h hk he=>
  cases h' with
  | err k' E' h' hE'=>exact absurd (F h' hE').2 (G h)
  | node k' _ h' hk' he'=>obtain rfl:=jA ok hk hk';exact⟨rfl,rfl⟩
  | piece k' D i _ h' hk' he' hI=>obtain rfl:=jA ok hk hk';exact absurd he he'
 | piece k D i _ h hk he hI=>
  cases h' with
  | err k' E' h' hE'=>exact absurd (F h' hE').2 (G h)
  | node k' _ h' hk' he'=>obtain rfl:=jA ok hk hk';exact absurd he' he
  | piece k' D' i' _ h' hk' he' hI'=>
   obtain rfl:=jA ok hk hk'
   have hD:D=D':=by have:=hI.hD;have:=hI'.hD;omega
   have hi:i=i':=by have:=hI.hi;have:=hI'.hi;omega
   subst hD hi
   exact⟨rfl,rfl⟩
theorem Kl {base kind:Int} {ds:List Int} {fs:List Nat} {x:Int} {V V':Nat} {E E':Int} (ok:OkV base kind ds fs) (h:FacO base kind ds fs x V E) (h':FacO base kind ds fs x V' E'):V=V'∧E=E':=by
 cases h with
 | bad E h hE=>exact absurd (vM ok h) hE
 | ok _ V E hA=>
  cases h' with
  | bad E' h' hE'=>exact absurd (vM ok h') hE'
  | ok _ V' E' hA'=>exact Nu ok.table hA hA'
noncomputable def facV (base kind:Int) (ds:List Int) (fs:List Nat) (x:Int):Nat:=(vG base kind ds fs x).choose
noncomputable def ss (base kind:Int) (ds:List Int) (fs:List Nat) (x:Int):Int:=(vG base kind ds fs x).choose_spec.choose
theorem fH (base kind:Int) (ds:List Int) (fs:List Nat) (x:Int):FacO base kind ds fs x (facV base kind ds fs x) (ss base kind ds fs x):=(vG base kind ds fs x).choose_spec.choose_spec
theorem Dk {base kind:Int} {ds:List Int} {fs:List Nat} {x:Int} {V:Nat} {E:Int} (ok:OkV base kind ds fs) (h:FacO base kind ds fs x V E):facV base kind ds fs x=V∧ss base kind ds fs x=E:=Kl ok (fH _ _ _ _ _) h
theorem vN {base kind:Int} {ds:List Int} {fs:List Nat} {x:Int} (ok:OkV base kind ds fs) (h0:base≤x) (h1:x≤ds.getD (ds.length - 1) 0):ss base kind ds fs x=0:=by
 have h:=fH base kind ds fs x
 generalize facV base kind ds fs x=V at h
 generalize ss base kind ds fs x=E at h
 have lo:=ok.lo
 have hl:(ctX base ds).getD ((ctX base ds).length - 1) 0=ds.getD (ds.length - 1) 0:=by
  rw [dr,jy,Nat.add_sub_cancel]
  obtain⟨m,hm⟩:∃ m,ds.length=m+1:=⟨ds.length - 1,by omega⟩
  rw [hm];rfl
 have hf:(ctX base ds).getD 0 0=base:=rfl
 cases h with
 | bad E h hE=>exact absurd (vM ok h) hE
 | ok _ V E hA=>
  cases hA with
  | err k E h hE=>
   cases h with
   | bad E h hE=>exact absurd (Dj ok.table h) hE
   | out h hx=>omega
   | at_=>rfl
  | node=>rfl
  | piece=>rfl
theorem rq {base kind:Int} {ds:List Int} {fs:List Nat} {x:Int} (ok:OkV base kind ds fs) (hf:∀ i<fs.length,fs.getD i 0<18446744073709551616) (hE:ss base kind ds fs x=0):facV base kind ds fs x<18446744073709551616∧0<aa (facV base kind ds fs x:Nat)∧af (facV base kind ds fs x:Nat)=false:=by
 have h:=fH base kind ds fs x
 rw [hE] at h
 generalize facV base kind ds fs x=V at h
 generalize hz:(0:Int)=z at h
 cases h with
 | bad E h hE=>exact absurd hz.symm hE
 | ok _ V E hA=>subst hz;obtain⟨a,b,c,_⟩:=Nn ok hf hA;exact⟨a,c,b⟩
theorem FD {base kind:Int} {ds:List Int} {fs:List Nat} (ok:OkV base kind ds fs) {i:Nat} (hi:i<ds.length):facV base kind ds fs (ds.getD i 0)=fs.getD i 0∧ss base kind ds fs (ds.getD i 0)=0:=Dk ok (.ok ok _ _ (Kk ok (i:=i+1) hi))

theorem Nv (a:A.St):A.lE a<18446744073709551616:=by
 have hv:∀ N:Int,DG N<18446744073709551616:=fun N=>by
  unfold DG aF
  have:=iB N.natAbs (-2148)
  split
  ·decide
  ·split<;>omega
 unfold A.lE
 split
 ·exact hv _
 ·split
  ·decide
  ·split<;>decide
def cT (a:A.St) (am fa:Nat→Nat):Nat→A.St
 | 0=>a
 | k+1=>(cT a am fa k).merge (A.cw (am k) (fa k))
def mM (kind:Int) (a:A.St) (am fa:Nat→Nat) (n f:Nat):Option Nat:=if kind=1 then opO .sub (opO .mul (some f) (opO .add (some 4607182418800017408) (some (am (n - 1))))) (some 4607182418800017408) else some (A.lE (((cT a am fa n).merge (A.lD (f:Nat))).merge (A.lD (13830554455654793216:Nat))))
def ks (base kind:Int) (ds:List Int):Int:=if (ds.length:Int) - 2 - (if kind=3 then 1 else 0)<0 then base else ds.getD ((ds.length:Int) - 2 - (if kind=3 then 1 else 0)).toNat 0
structure SetM (D:Int) (f:Nat→Int) (n M:Nat):Prop where
 lt:M<n
 le:∀ j<M,f j≤D
 gt:D<f M
theorem Dl {D:Int} {f:Nat→Int}:∀ n,(∃ k<n,D<f k)→∃ M,SetM D f n M
 | 0,⟨k,hk,_⟩=>by omega
 | n+1,⟨k,hk,hD⟩=>by
  by_cases h:∃ k<n,D<f k
  ·obtain⟨M,a,b,c⟩:=Dl n h
   exact⟨M,by omega,b,c⟩
  ·obtain rfl:k=n:=by
    by_cases c:k<n
    ·exact absurd ⟨k,c,hD⟩ h
    ·omega
   exact⟨k,by omega,fun j hj=>by
    by_cases c:D<f j
    ·exact absurd ⟨j,hj,c⟩ h
    ·omega,hD⟩
noncomputable def iZ (base kind W:Int) (rs:List Rul) (ds:List Int) (fs:List Nat) (q:Quo) (L:List Int) (n M a:Nat):Option Nat:=
 mM q.kind (cT ⟨0,0⟩ (fun j=>(aP W rs q L j).am) (fun j=>facV base kind ds (fs++[4607182418800017408]) (aP W rs q L j).day) M) (fun j=>(aP W rs q L (M+j)).am) (fun j=>facV base kind ds (fs++[a]) (aP W rs q L (M+j)).day) (n - M) (facV base kind ds (fs++[a]) q.fin)
inductive MetR (base kind W:Int) (rs:List Rul) (ds:List Int) (fs:List Nat) (q:Quo):Int→Nat→Prop
 | cut (E:Int) (L:List Int) (h:CutR base q E L) (hE:E≠0):MetR base kind W rs ds fs q E 0
 | root (L:List Int) (n M X N:Nat) (E:Int) (hc:CutR base q 0 L) (hF:CutF base q n L) (hM:SetM (ks base kind ds) (fun j=>L.getD (j+1) 0) n M) (hV:gz (fun a=>(iZ base kind W rs ds fs q L n M a).bind rkO) 4472074429978902528 4652218415073722368=(X,N,E)):MetR base kind W rs ds fs q E X
theorem Nw {base kind W:Int} {rs:List Rul} {ds:List Int} {fs:List Nat} {q:Quo} (ok:OkQ base q) (hS:ks base kind ds<q.fin):∃ E X,MetR base kind W rs ds fs q E X:=by
 obtain⟨E,L,hc⟩:=MC ok
 by_cases hE:E=0
 ·subst hE
  obtain⟨n,hF⟩:=MD ok hc
  obtain⟨M,hM⟩:=Dl (D:=ks base kind ds) (f:=fun j=>L.getD (j+1) 0) n ⟨n - 1,by have:=hF.lo;omega,by have:=hF.lo;show ks base kind ds<L.getD (n - 1+1) 0;rw [show n - 1+1=n by omega,hF.lst];exact hS⟩
  generalize hV:gz (fun a=>(iZ base kind W rs ds fs q L n M a).bind rkO) 4472074429978902528 4652218415073722368=V
  obtain⟨X,N,E⟩:=V
  exact⟨E,X,.root L n M X N E hc hF hM hV⟩
 ·exact⟨E,0,.cut E L hc hE⟩
theorem BN {o:Option Nat} {v:Nat} (h:AgU o v):rkO v=o.bind rkO:=by
 cases o with
 | none=>exact oD h.1.1
 | some r=>have:v=r:=h.1;rw [this];rfl
noncomputable def fy (base kind W:Int) (rs:List Rul) (ds:List Int) (fs:List Nat) (q:Quo):Int×Nat:=by
 classical
 exact if h:∃ p:Int×Nat,MetR base kind W rs ds fs q p.1 p.2 then h.choose else (0,0)
theorem oE {base kind W:Int} {rs:List Rul} {ds:List Int} {fs:List Nat} {q:Quo} (ok:OkQ base q) (hS:ks base kind ds<q.fin):MetR base kind W rs ds fs q (fy base kind W rs ds fs q).1 (fy base kind W rs ds fs q).2:=by
 have h:∃ p:Int×Nat,MetR base kind W rs ds fs q p.1 p.2:=by
  obtain⟨E,X,h⟩:=Nw (W:=W) (rs:=rs) (fs:=fs) ok hS
  exact⟨(E,X),h⟩
 unfold fy
 rw [dif_pos h]
 exact h.choose_spec
def aO (qs:List Quo) (k:Nat):List Int:=(List.range k).map fun j=>(qs.getD j au).fin
theorem av (qs:List Quo) (k:Nat):(aO qs k).length=k:=by unfold aO;simp
theorem FE (qs:List Quo) (k:Nat):aO qs (k+1)=aO qs k++[(qs.getD k au).fin]:=by
 unfold aO;rw [List.range_succ,List.map_append];rfl
theorem jB (qs:List Quo) {k j:Nat} (h:j<k):(aO qs k).getD j 0=(qs.getD j au).fin:=by
 unfold aO;simp [List.getD,h]
noncomputable def aq (base kind W:Int) (rs:List Rul) (qs:List Quo):Nat→List Nat×Int×Nat
 | 0=>([],0,0)
 | k+1=>if (aq base kind W rs qs k).2.1≠0 then aq base kind W rs qs k else
  if (fy base kind W rs (aO qs (k+1)) (aq base kind W rs qs k).1 (qs.getD k au)).1≠0 then ([],(fy base kind W rs (aO qs (k+1)) (aq base kind W rs qs k).1 (qs.getD k au)).1,k)
  else ((aq base kind W rs qs k).1++[(fy base kind W rs (aO qs (k+1)) (aq base kind W rs qs k).1 (qs.getD k au)).2],0,0)
end Go.Proofs.YtkooknagalgfpaaGreat
namespace Go.Proofs.YtkooknagalgfpaaGreat
open Go.RowKit

theorem zL (xs:List Int) (ys:List Nat):∀ K j,j≤K→(eV xs ys K).getD j 0=if j=0 then aQ xs ys 0 else slB (aQ xs ys (j - 1)) (aQ xs ys j)
 | 0,j,h=>by
  obtain rfl:j=0:=by omega
  rfl
 | K+1,j,h=>by
  have hl:=eH xs ys K
  show (eV xs ys K++[_]).getD j 0=_
  by_cases c:j≤K
  ·rw [List.getD_eq_getElem?_getD,List.getElem?_append_left (by omega),← List.getD_eq_getElem?_getD]
   exact zL xs ys K j c
  ·obtain rfl:j=K+1:=by omega
   rw [List.getD_eq_getElem?_getD,List.getElem?_append_right (by omega),hl,Nat.sub_self,if_neg (by omega)]
   rfl
theorem jd {xs:List Int} {ys ys':List Nat} {m k:Nat} (hy:∀ j≤m,ys.getD j 0=ys'.getD j 0) (h:k+1≤m):aQ xs ys k=aQ xs ys' k:=by
 unfold aQ
 rw [hy k (by omega),hy (k+1) h]
theorem rM {xs:List Int} {ys ys':List Nat} {m j:Nat} (hy:∀ j≤m,ys.getD j 0=ys'.getD j 0) (h:j+1≤m):(cQ xs ys (m+2)).getD j 0=(cQ xs ys' (m+2)).getD j 0:=by
 have key:∀ zs:List Nat,(cQ xs zs (m+2)).getD j 0=if j=0 then aQ xs zs 0 else slB (aQ xs zs (j - 1)) (aQ xs zs j):=fun zs=>by
  unfold cQ
  rw [if_neg (by omega),show m+2 - 2=m by omega,List.getD_eq_getElem?_getD,List.getElem?_append_left (by rw [eH];omega),← List.getD_eq_getElem?_getD,zL _ _ _ _ (by omega)]
 rw [key,key]
 split
 ·exact jd hy (by omega)
 ·rw [jd hy (show j - 1+1≤m by omega),jd hy h]
theorem zM {kind:Int} {xs:List Int} {ys ys':List Nat} {k D m:Nat} {i:Int} (hy:∀ j≤m,ys.getD j 0=ys'.getD j 0) (hx:xs.length=m+2) (h:k+1≤m) (h3:kind=3→k+2≤m):BL kind xs ys k D i=BL kind xs ys' k D i:=by
 unfold BL
 split
 ·exact hy k (by omega)
 split
 ·unfold ER;rw [hy k (by omega),hy (k+1) h]
 split
 ·rename_i hk
  have h4:=h3 hk
  have e:ptL xs ys k=ptL xs ys' k:=by
   unfold ptL
   rw [hx,hy k (by omega),hy (k+1) h,rM hy (show k+1≤m from h),rM hy (show k+1+1≤m from h4)]
  rw [e]
 ·unfold logV;rw [hy k (by omega),hy (k+1) h]
def lV (kind:Int) (m:Nat):Nat:=if kind=3 then m - 1 else m
theorem uc (base kind:Int) (ds:List Int) {m:Nat} (h:ds.length=m+1):ks base kind ds=dy base ds (lV kind m):=by
 unfold ks lV
 rw [h]
 by_cases c:kind=3
 ·simp only [if_pos c]
  by_cases d:m<2
  ·rw [if_pos (by omega),show m - 1=0 by omega];rfl
  ·rw [if_neg (by omega)]
   obtain⟨j,rfl⟩:∃ j,m=j+2:=⟨m - 2,by omega⟩
   rw [show (((j+2+1:Nat):Int) - 2 - 1).toNat=j by omega,show j+2 - 1=j+1 by omega];rfl
 ·simp only [if_neg c]
  by_cases d:m=0
  ·rw [if_pos (by omega),d];rfl
  ·rw [if_neg (by omega)]
   obtain⟨j,rfl⟩:∃ j,m=j+1:=⟨m - 1,by omega⟩
   rw [show (((j+1+1:Nat):Int) - 2 - 0).toNat=j by omega];rfl
theorem KO (fs:List Nat) (a b:Nat):∀ j≤fs.length,(ctY (fs++[a])).getD j 0=(ctY (fs++[b])).getD j 0
 | 0,_=>rfl
 | j+1,h=>by
  show (fs++[a]).getD j 0=(fs++[b]).getD j 0
  rw [List.getD_eq_getElem?_getD,List.getD_eq_getElem?_getD,List.getElem?_append_left (by omega),List.getElem?_append_left (by omega)]
theorem Gc {base kind:Int} {ds:List Int} {fs:List Nat} {a b:Nat} {x:Int} (okA:OkV base kind ds (fs++[a])) (okB:OkV base kind ds (fs++[b])) (h0:base≤x) (hx:x≤ks base kind ds):facV base kind ds (fs++[a]) x=facV base kind ds (fs++[b]) x:=by
 have hl:ds.length=fs.length+1:=by have:=okA.len;rw [List.length_append] at this;exact this.symm
 have hX:(ctX base ds).length=fs.length+2:=by rw [jy,hl]
 rw [uc base kind ds hl] at hx
 have ht:lV kind fs.length≤fs.length:=by unfold lV;split<;>omega
 have hy:=KO fs a b
 have okT:=okA.table
 have okU:=okB.table
 have hI:x≤ds.getD (ds.length - 1) 0:=by
  rw [hl,Nat.add_sub_cancel]
  have h1:dy base ds (lV kind fs.length)≤dy base ds (fs.length+1):=by
   have:=okT.rise (i:=lV kind fs.length) (j:=fs.length+1) (by omega) (by omega)
   rw [dr,dr] at this;omega
  exact Int.le_trans hx h1
 have hE:=vN okA h0 hI
 have h:=fH base kind ds (fs++[a]) x
 rw [hE] at h
 generalize facV base kind ds (fs++[a]) x=V at h
 refine (Dk okB (E:=0) ?_).1.symm
 generalize hz:(0:Int)=z at h
 cases h with
 | bad E h hE=>exact absurd hz.symm hE
 | ok _ V E hA=>
  subst hz
  have F:∀ {k:Nat},FindO kind (ctX base ds) (ctY (fs++[a])) x (k:Int) 0→FindR (ctX base ds) x k→FindO kind (ctX base ds) (ctY (fs++[b])) x (k:Int) 0:=fun {k} h hk=>by
   generalize hz:(0:Int)=z at h
   generalize hy:(k:Int)=y at h
   cases h with
   | bad E h hE=>exact absurd hz.symm hE
   | out h hx=>cases hz
   | at_ h lo hi j hk' hj=>
    exact .at_ okU lo hi j hk' hj
  refine .ok okB _ _ ?_
  generalize hz:(0:Int)=z at hA
  cases hA with
  | err k E h hE=>exact absurd hz.symm hE
  | node k _ h hk he=>
   have hk1:k≤fs.length:=by
    rcases Nat.lt_or_ge (lV kind fs.length) k with c | c
    ·have:=okT.rise c hk.lt
     rw [dr,dr] at this
     have:=hk.le
     rw [dr] at this
     omega
    ·omega
   rw [hy k hk1]
   exact .node k okU (F h hk) hk he
  | piece k D i _ h hk he hI=>
   have hk1:k+1≤lV kind fs.length:=by
    rcases Nat.lt_or_ge k (lV kind fs.length) with c | c
    ·exact c
    ·exfalso
     have h1:=hk.le
     have h2:dy base ds (lV kind fs.length)≤dy base ds k:=by
      rcases Nat.lt_or_eq_of_le c with d | d
      ·have:=okT.rise d hk.lt
       rw [dr,dr] at this;omega
      ·rw [d];exact Int.le_refl _
     rw [dr] at h1 he
     omega
   rw [zM (ys':=ctY (fs++[b])) hy hX (by omega) (fun c=>by unfold lV at hk1;rw [if_pos c] at hk1;omega)]
   exact .piece k D i okU (F h hk) hk he hI
end Go.Proofs.YtkooknagalgfpaaGreat
namespace Go.Proofs.YtkooknagalgfpaaGreat
open Go.RowKit

end Go.Proofs.YtkooknagalgfpaaGreat
namespace Go.Proofs.YtkooknagalgfpaaGreat
open Go.RowKit

set_option maxRecDepth 20000 in
set_option maxHeartbeats 800000 in
theorem sw (base kind x E:Int) (vd vf:Value) (w:World) (hE:E≠0) (HC:Hid (∀ wx,Below w.heap.size w wx→Calls Tryz.prog 28 #[.agg #[.int .i64 base,.int .i64 kind,vd,vf]] wx fun e w'=>e=.returned (.int .i64 E)∧Below wx.heap.size wx w')) :
  Calls Tryz.prog 61 #[.agg #[.int .i64 base,.int .i64 kind,vd,vf],.int .i64 x] w fun e w'=>e=.returned (.tuple #[.float .f64 0,.int .i64 E])∧Below w.heap.size w w':=by
 have HB:=hideS (bX w base kind vd vf)
 have d1:(E !=0)=true:=bne_iff_ne.2 hE
 clear hE
 go_enter Tryz.func61,Tryz.ntmps61
 go_wp2_with (go_at_call 28;refine (HC.out _ HB.out.bl).mono ?_;rintro e w2 ⟨rfl,hb2⟩;have HB2:=hideS (HB.out.step hb2);clear hb2)
 go_ret2
 exact⟨rfl,HB2.out.bl⟩
set_option maxRecDepth 20000 in
set_option maxHeartbeats 800000 in
theorem vQ (base kind x E:Int) (V:Nat) (vd vf:Value) (w:World) (HC:Hid (∀ wx,Below w.heap.size w wx→Calls Tryz.prog 28 #[.agg #[.int .i64 base,.int .i64 kind,vd,vf]] wx fun e w'=>e=.returned (.int .i64 0)∧Below wx.heap.size wx w'))
  (HT:Hid (∀ wx,Below w.heap.size w wx→Calls Tryz.prog 102 #[.agg #[.int .i64 base,.int .i64 kind,vd,vf]] wx fun e w'=>∃ gx lx cx gy ly cy,e=.returned (.agg #[.int .i64 kind,.slice (some ⟨gx,0,none⟩) lx cx,.slice (some ⟨gy,0,none⟩) ly cy])∧Below wx.heap.size wx w'∧Hid (∀ wy,Below w'.heap.size w' wy→Calls Tryz.prog 101 #[.agg #[.int .i64 kind,.slice (some ⟨gx,0,none⟩) lx cx,.slice (some ⟨gy,0,none⟩) ly cy],.int .i64 x] wy fun e w''=>e=.returned (.tuple #[.float .f64 V,.int .i64 E])∧Below wy.heap.size wy w''))) :
  Calls Tryz.prog 61 #[.agg #[.int .i64 base,.int .i64 kind,vd,vf],.int .i64 x] w fun e w'=>e=.returned (.tuple #[.float .f64 V,.int .i64 E])∧Below w.heap.size w w':=by
 have HB:=hideS (bX w base kind vd vf)
 go_enter Tryz.func61,Tryz.ntmps61
 go_wp2_with fail
 refine (HC.out _ HB.out.bl).mono ?_
 rintro e w2 ⟨rfl,hb2⟩
 have HB2:=hideS (HB.out.step hb2)
 clear hb2 HB HC
 have t0:=HB2.out.t0
 have t1:=HB2.out.t1
 have t2:=HB2.out.t2
 have t3:=HB2.out.t3
 go_wp2_with fail
 refine (HT.out _ HB2.out.bl).mono ?_
 rintro e w3 ⟨gx,lx,cx,gy,ly,cy,rfl,hb3,HA⟩
 have HB3:=hideS (HB2.out.step hb3)
 clear hb3 HB2 HT t0 t1 t2 t3
 go_wp2_with fail
 refine (HA.out _ (Below.refl _ _)).mono ?_
 rintro e w4 ⟨rfl,hb4⟩
 have HB4:=hideS (HB3.out.step hb4)
 clear hb4 HB3 HA
 go_wp2_with fail
 go_ret2
 exact⟨rfl,HB4.out.bl⟩
theorem Kq (base:Int) (ds:List Int) {n:Nat} (h:ds.length=n):(ctX base ds).length=1+n:=by rw [jy,h,Nat.add_comm]
theorem Kr (fs:List Nat) {n:Nat} (h:fs.length=n):(ctY fs).length=1+n:=by rw [Dh,h,Nat.add_comm]
theorem fO (base kind x E:Int) (V:Nat) (pd pf:Option Addr) (bd od cd b2 o2 cf:Nat) (ds:List Int) (fs:List Nat) (w:World) (hs:TFl w pd pf bd od b2 o2 ds fs) (h:FacO base kind ds fs x V E) :
  Calls Tryz.prog 61 #[.agg #[.int .i64 base,.int .i64 kind,.slice pd ds.length cd,.slice pf fs.length cf],.int .i64 x] w fun e w'=>e=.returned (.tuple #[.float .f64 V,.int .i64 E])∧Below w.heap.size w w':=by
 cases h with
 | bad E h hE=>exact sw base kind x E _ _ w hE (fun wx hb=>im base kind pd pf bd od cd b2 o2 cf ds fs wx (hs.below hb) h)
 | ok ok V E hA=>
  refine vQ base kind x E V _ _ w (fun wx hb=>im base kind pd pf bd od cd b2 o2 cf ds fs wx (hs.below hb) (.ok ok)) (fun wx hb=>?_)
  have lo:=ok.lo
  have hl:=ok.len
  have hs':=hs.below hb
  have hx:=hs'.x
  have hy:=hs'.y
  rw [hl] at hy ⊢
  obtain rfl:=hx.at_ (by omega)
  obtain rfl:=hy.at_ (by omega)
  refine (zt base kind bd od cd b2 o2 cf ds.length ds fs wx hx hy rfl hl lo ok.hi).mono fun e w' ⟨gx,cx,gy,cy,he,ox,oy,hbl⟩=>⟨gx,1+ds.length,cx,gy,1+ds.length,cy,he,hbl,fun wy hwy=>?_⟩
  have ex:=Kq base ds (n:=ds.length) rfl
  have ey:=Kr fs hl
  obtain⟨g1,c1,q1,s1,_,_,_⟩:=dt (xs:=ctX base ds) ox ex (by omega)
  obtain⟨g2,c2,q2,s2,_,_,_⟩:=bO (xs:=ctY fs) oy ey (by omega)
  injection q1 with q1 _ _
  injection q1 with q1
  injection q1 with q1
  injection q2 with q2 _ _
  injection q2 with q2
  injection q2 with q2
  subst q1 q2
  have:=FA kind x E V (some ⟨gx,0,none⟩) (some ⟨gy,0,none⟩) gx 0 cx gy 0 cy (ctX base ds) (ctY fs) wy hA (TFl.below ⟨by rw [ex];exact s1,by rw [ey];exact s2,Kj hs.f⟩ hwy)
  rw [ex,ey] at this
  exact this
end Go.Proofs.YtkooknagalgfpaaGreat
