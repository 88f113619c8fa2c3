/-  -/
import Derived.Test.YtkooknagalgfpaaGreatHbg
import Derived.Test.YtkooknagalgfpaaGreatHbq
import Derived.Test.YtkooknagalgfpaaGreatHay
import Derived.Test.YtkooknagalgfpaaGreatHbm
import Derived.Test.YtkooknagalgfpaaGreatHav
import Derived.Test.YtkooknagalgfpaaGreatHaz
import Derived.Test.YtkooknagalgfpaaGreatHbo
namespace Go.Proofs.YtkooknagalgfpaaGreat
open Go.RowKit

theorem CJ {kind:Int} {xs:List Int} {ys:List Nat} {E:Int} (ok:OkT kind xs ys) (h:TabR kind xs ys E):E=0:=by
 cases h with
 | ok h=>rfl
 | kind h=>have:=ok.k1;have:=ok.k4;omega
 | len h1 h4 h=>have:=ok.lo;have:=ok.hi;have:=ok.len;omega
 | node h1 h4 lo hi len K hK bad fine=>rw [ok.node K hK] at bad;cases bad
theorem vp {base kind:Int} {ds:List Int} {fs:List Nat} {E:Int} (ok:OkV base kind ds fs) (h:CurR base kind ds fs E):E=0:=by
 cases h with
 | ok h=>rfl
 | base h=>have:=ok.b0;have:=ok.b1;omega
 | kind b0 b1 h=>have:=ok.k1;have:=ok.k4;omega
 | len b0 b1 h1 h4 h=>have:=ok.lo;have:=ok.hi;have:=ok.len;omega
 | node b0 b1 h1 h4 lo hi len K hK bad fine=>rw [ok.node K hK] at bad;cases bad
theorem jm {kind:Int} {xs:List Int} {ys:List Nat} {x:Int} {j k:Nat} (ok:OkT kind xs ys) (h:FindR xs x j) (h':FindR xs x k):j=k:=by
 rcases Nat.lt_trichotomy j k with c | c | c
 ·exfalso
  have a:=h.gt (by have:=h'.lt;omega)
  have b:=h'.le
  rcases Nat.lt_or_eq_of_le (show j+1≤k from c) with d | d
  ·have:=ok.rise d h'.lt;omega
  ·rw [← d] at b;omega
 ·exact c
 ·exfalso
  have a:=h'.gt (by have:=h.lt;omega)
  have b:=h.le
  rcases Nat.lt_or_eq_of_le (show k+1≤j from c) with d | d
  ·have:=ok.rise d h.lt;omega
  ·rw [← d] at b;omega
theorem MQ {kind:Int} {xs:List Int} {ys:List Nat} {x:Int} {V V':Nat} {E E':Int} (ok:OkT kind xs ys) (h:AtO kind xs ys x V E) (h':AtO kind xs ys x V' E'):V=V'∧E=E':=by
 have F:∀ {k E},FindO kind xs ys x k E→E≠0→E=51∧(x<xs.getD 0 0∨xs.getD (xs.length - 1) 0<x):=fun h hE=>by
  cases h with
  | bad E h hE=>exact absurd (CJ ok h) hE
  | out h hx=>exact⟨rfl,hx⟩
  | at_=>exact absurd rfl hE
 have G:∀ {k},FindO kind xs ys x k 0→¬ (x<xs.getD 0 0∨xs.getD (xs.length - 1) 0<x):=fun {k} h=>by
  generalize hz:(0:Int)=z at h
  cases h with
  | bad E h hE=>exact absurd hz.symm hE
  | out h hx=>cases hz
  | at_ h a b=>omega
 cases h with
 | err k E h hE=>
  obtain⟨rfl,hx⟩:=F h hE
  cases h' with
  | err k' E' h' hE'=>obtain⟨rfl,_⟩:=F h' hE';exact⟨rfl,rfl⟩
  | node k' _ h'=>exact absurd hx (G h')
  | piece k' D i _ h'=>exact absurd hx (G h')
 | node k _ h hk he=>
  cases h' with
  | err k' E' h' hE'=>exact absurd (F h' hE').2 (G h)
  | node k' _ h' hk' he'=>obtain rfl:=jm ok hk hk';exact⟨rfl,rfl⟩
  | piece k' D i _ h' hk' he' hI=>obtain rfl:=jm ok hk hk';exact absurd he he'
 | piece k D i _ h hk he hI=>
  cases h' with
  | err k' E' h' hE'=>exact absurd (F h' hE').2 (G h)
  | node k' _ h' hk' he'=>obtain rfl:=jm ok hk hk';exact absurd he' he
  | piece k' D' i' _ h' hk' he' hI'=>
   obtain rfl:=jm ok hk hk'
   have hD:D=D':=by have:=hI.hD;have:=hI'.hD;omega
   have hi:i=i':=by have:=hI.hi;have:=hI'.hi;omega
   subst hD hi
   exact⟨rfl,rfl⟩
theorem JG {base kind:Int} {ds:List Int} {fs:List Nat} {x:Int} {V V':Nat} {E E':Int} (ok:OkV base kind ds fs) (h:FacO base kind ds fs x V E) (h':FacO base kind ds fs x V' E'):V=V'∧E=E':=by
 cases h with
 | bad E h hE=>exact absurd (vp ok h) hE
 | ok _ V E hA=>
  cases h' with
  | bad E' h' hE'=>exact absurd (vp ok h') hE'
  | ok _ V' E' hA'=>exact MQ ok.table hA hA'
noncomputable def facV (base kind:Int) (ds:List Int) (fs:List Nat) (x:Int):Nat:=(vk base kind ds fs x).choose
noncomputable def vt (base kind:Int) (ds:List Int) (fs:List Nat) (x:Int):Int:=(vk base kind ds fs x).choose_spec.choose
theorem jo (base kind:Int) (ds:List Int) (fs:List Nat) (x:Int):FacO base kind ds fs x (facV base kind ds fs x) (vt base kind ds fs x):=(vk base kind ds fs x).choose_spec.choose_spec
theorem MR {base kind:Int} {ds:List Int} {fs:List Nat} {x:Int} {V:Nat} {E:Int} (ok:OkV base kind ds fs) (h:FacO base kind ds fs x V E):facV base kind ds fs x=V∧vt base kind ds fs x=E:=JG ok (jo _ _ _ _ _) h
theorem JH {base kind:Int} {ds:List Int} {fs:List Nat} {x:Int} (ok:OkV base kind ds fs) (h0:base≤x) (h1:x≤ds.getD (ds.length - 1) 0):vt base kind ds fs x=0:=by
 have h:=jo base kind ds fs x
 generalize facV base kind ds fs x=V at h
 generalize vt base kind ds fs x=E at h
 have lo:=ok.lo
 have hl:(ctX base ds).getD ((ctX base ds).length - 1) 0=ds.getD (ds.length - 1) 0:=by
  rw [mB,lC,Nat.add_sub_cancel]
  obtain⟨m,hm⟩:∃ m,ds.length=m+1:=⟨ds.length - 1,by omega⟩
  rw [hm];rfl
 have hf:(ctX base ds).getD 0 0=base:=rfl
 cases h with
 | bad E h hE=>exact absurd (vp ok h) hE
 | ok _ V E hA=>
  cases hA with
  | err k E h hE=>
   cases h with
   | bad E h hE=>exact absurd (CJ ok.table h) hE
   | out h hx=>omega
   | at_=>rfl
  | node=>rfl
  | piece=>rfl
theorem yU {base kind:Int} {ds:List Int} {fs:List Nat} {x:Int} (ok:OkV base kind ds fs) (hf:∀ i<fs.length,fs.getD i 0<18446744073709551616) (hE:vt base kind ds fs x=0):facV base kind ds fs x<18446744073709551616∧0<aa (facV base kind ds fs x:Nat)∧af (facV base kind ds fs x:Nat)=false:=by
 have h:=jo base kind ds fs x
 rw [hE] at h
 generalize facV base kind ds fs x=V at h
 generalize hz:(0:Int)=z at h
 cases h with
 | bad E h hE=>exact absurd hz.symm hE
 | ok _ V E hA=>subst hz;obtain⟨a,b,c,_⟩:=MI ok hf hA;exact⟨a,c,b⟩
theorem Fc {base kind:Int} {ds:List Int} {fs:List Nat} (ok:OkV base kind ds fs) {i:Nat} (hi:i<ds.length):facV base kind ds fs (ds.getD i 0)=fs.getD i 0∧vt base kind ds fs (ds.getD i 0)=0:=MR ok (.ok ok _ _ (JE ok (i:=i+1) hi))

theorem MS (a:A.St):A.ll a<18446744073709551616:=by
 have hv:∀ N:Int,Dg N<18446744073709551616:=fun N=>by
  unfold Dg aF
  have:=ik N.natAbs (-2148)
  split
  ·decide
  ·split<;>omega
 unfold A.ll
 split
 ·exact hv _
 ·split
  ·decide
  ·split<;>decide
def ib (a:A.St) (am fa:Nat→Nat):Nat→A.St
 | 0=>a
 | k+1=>(ib a am fa k).merge (A.co (am k) (fa k))
def rT (kind:Int) (a:A.St) (am fa:Nat→Nat) (n f:Nat):Option Nat:=if kind=1 then opO .sub (opO .mul (some f) (opO .add (some 4607182418800017408) (some (am (n - 1))))) (some 4607182418800017408) else some (A.ll (((ib a am fa n).merge (A.lj (f:Nat))).merge (A.lj (13830554455654793216:Nat))))
def mD (base kind:Int) (ds:List Int):Int:=if (ds.length:Int) - 2 - (if kind=3 then 1 else 0)<0 then base else ds.getD ((ds.length:Int) - 2 - (if kind=3 then 1 else 0)).toNat 0
structure SetM (D:Int) (f:Nat→Int) (n M:Nat):Prop where
 lt:M<n
 le:∀ j<M,f j≤D
 gt:D<f M
theorem CK {D:Int} {f:Nat→Int}:∀ n,(∃ k<n,D<f k)→∃ M,SetM D f n M
 | 0,⟨k,hk,_⟩=>by omega
 | n+1,⟨k,hk,hD⟩=>by
  by_cases h:∃ k<n,D<f k
  ·obtain⟨M,a,b,c⟩:=CK n h
   exact⟨M,by omega,b,c⟩
  ·obtain rfl:k=n:=by
    by_cases c:k<n
    ·exact absurd ⟨k,c,hD⟩ h
    ·omega
   exact⟨k,by omega,fun j hj=>by
    by_cases c:D<f j
    ·exact absurd ⟨j,hj,c⟩ h
    ·omega,hD⟩
noncomputable def lG (base kind W:Int) (rs:List Rul) (ds:List Int) (fs:List Nat) (q:Quo) (L:List Int) (n M a:Nat):Option Nat:=
 rT q.kind (ib ⟨0,0⟩ (fun j=>(bT W rs q L j).am) (fun j=>facV base kind ds (fs++[4607182418800017408]) (bT W rs q L j).day) M) (fun j=>(bT W rs q L (M+j)).am) (fun j=>facV base kind ds (fs++[a]) (bT W rs q L (M+j)).day) (n - M) (facV base kind ds (fs++[a]) q.fin)
inductive MetR (base kind W:Int) (rs:List Rul) (ds:List Int) (fs:List Nat) (q:Quo):Int→Nat→Prop
 | cut (E:Int) (L:List Int) (h:CutR base q E L) (hE:E≠0):MetR base kind W rs ds fs q E 0
 | root (L:List Int) (n M X N:Nat) (E:Int) (hc:CutR base q 0 L) (hF:CutF base q n L) (hM:SetM (mD base kind ds) (fun j=>L.getD (j+1) 0) n M) (hV:gZ (fun a=>(lG base kind W rs ds fs q L n M a).bind rkO) 4472074429978902528 4652218415073722368=(X,N,E)):MetR base kind W rs ds fs q E X
theorem MT {base kind W:Int} {rs:List Rul} {ds:List Int} {fs:List Nat} {q:Quo} (ok:OkQ base q) (hS:mD base kind ds<q.fin):∃ E X,MetR base kind W rs ds fs q E X:=by
 obtain⟨E,L,hc⟩:=LX ok
 by_cases hE:E=0
 ·subst hE
  obtain⟨n,hF⟩:=LY ok hc
  obtain⟨M,hM⟩:=CK (D:=mD base kind ds) (f:=fun j=>L.getD (j+1) 0) n ⟨n - 1,by have:=hF.lo;omega,by have:=hF.lo;show mD base kind ds<L.getD (n - 1+1) 0;rw [show n - 1+1=n by omega,hF.lst];exact hS⟩
  generalize hV:gZ (fun a=>(lG base kind W rs ds fs q L n M a).bind rkO) 4472074429978902528 4652218415073722368=V
  obtain⟨X,N,E⟩:=V
  exact⟨E,X,.root L n M X N E hc hF hM hV⟩
 ·exact⟨E,0,.cut E L hc hE⟩
theorem Pc {o:Option Nat} {v:Nat} (h:AgU o v):rkO v=o.bind rkO:=by
 cases o with
 | none=>exact oa h.1.1
 | some r=>have:v=r:=h.1;rw [this];rfl
noncomputable def eY (base kind W:Int) (rs:List Rul) (ds:List Int) (fs:List Nat) (q:Quo):Int×Nat:=by
 classical
 exact if h:∃ p:Int×Nat,MetR base kind W rs ds fs q p.1 p.2 then h.choose else (0,0)
theorem vv {base kind W:Int} {rs:List Rul} {ds:List Int} {fs:List Nat} {q:Quo} (ok:OkQ base q) (hS:mD base kind ds<q.fin):MetR base kind W rs ds fs q (eY base kind W rs ds fs q).1 (eY base kind W rs ds fs q).2:=by
 have h:∃ p:Int×Nat,MetR base kind W rs ds fs q p.1 p.2:=by
  obtain⟨E,X,h⟩:=MT (W:=W) (rs:=rs) (fs:=fs) ok hS
  exact⟨(E,X),h⟩
 unfold eY
 rw [dif_pos h]
 exact h.choose_spec
def aM (qs:List Quo) (k:Nat):List Int:=(List.range k).map fun j=>(qs.getD j aB).fin
theorem au (qs:List Quo) (k:Nat):(aM qs k).length=k:=by unfold aM;simp
theorem Fd (qs:List Quo) (k:Nat):aM qs (k+1)=aM qs k++[(qs.getD k aB).fin]:=by
 unfold aM;rw [List.range_succ,List.map_append];rfl
theorem jp (qs:List Quo) {k j:Nat} (h:j<k):(aM qs k).getD j 0=(qs.getD j aB).fin:=by
 unfold aM;simp [List.getD,h]
noncomputable def aq (base kind W:Int) (rs:List Rul) (qs:List Quo):Nat→List Nat×Int×Nat
 | 0=>([],0,0)
 | k+1=>if (aq base kind W rs qs k).2.1≠0 then aq base kind W rs qs k else
  if (eY base kind W rs (aM qs (k+1)) (aq base kind W rs qs k).1 (qs.getD k aB)).1≠0 then ([],(eY base kind W rs (aM qs (k+1)) (aq base kind W rs qs k).1 (qs.getD k aB)).1,k)
  else ((aq base kind W rs qs k).1++[(eY base kind W rs (aM qs (k+1)) (aq base kind W rs qs k).1 (qs.getD k aB)).2],0,0)
end Go.Proofs.YtkooknagalgfpaaGreat
namespace Go.Proofs.YtkooknagalgfpaaGreat
open Go.RowKit

def Kk (kind:Int) (m:Nat):Nat:=if kind=3 then m - 1 else m
theorem FC (base kind:Int) (ds:List Int) {m:Nat} (h:ds.length=m+1):mD base kind ds=dT base ds (Kk kind m):=by
 unfold mD Kk
 rw [h]
 by_cases c:kind=3
 ·simp only [if_pos c]
  by_cases d:m<2
  ·rw [if_pos (by omega),show m - 1=0 by omega];rfl
  ·rw [if_neg (by omega)]
   obtain⟨j,rfl⟩:∃ j,m=j+2:=⟨m - 2,by omega⟩
   rw [show (((j+2+1:Nat):Int) - 2 - 1).toNat=j by omega,show j+2 - 1=j+1 by omega];rfl
 ·simp only [if_neg c]
  by_cases d:m=0
  ·rw [if_pos (by omega),d];rfl
  ·rw [if_neg (by omega)]
   obtain⟨j,rfl⟩:∃ j,m=j+1:=⟨m - 1,by omega⟩
   rw [show (((j+1+1:Nat):Int) - 2 - 0).toNat=j by omega];rfl
end Go.Proofs.YtkooknagalgfpaaGreat
namespace Go.Proofs.YtkooknagalgfpaaGreat
open Go.RowKit

end Go.Proofs.YtkooknagalgfpaaGreat
namespace Go.Proofs.YtkooknagalgfpaaGreat
open Go.RowKit

set_option maxRecDepth 20000 in
set_option maxHeartbeats 800000 in
theorem rW (base kind x E:Int) (vd vf:Value) (w:World) (hE:E≠0) (HC:Hid (∀ wx,Below w.heap.size w wx→Calls Tryz.prog 28 #[.agg #[.int .i64 base,.int .i64 kind,vd,vf]] wx fun e w'=>e=.returned (.int .i64 E)∧Below wx.heap.size wx w')) :
  Calls Tryz.prog 61 #[.agg #[.int .i64 base,.int .i64 kind,vd,vf],.int .i64 x] w fun e w'=>e=.returned (.tuple #[.float .f64 0,.int .i64 E])∧Below w.heap.size w w':=by
 have HB:=hideS (bu w base kind vd vf)
 have d1:(E !=0)=true:=bne_iff_ne.2 hE
 clear hE
 go_enter Tryz.func61,Tryz.ntmps61
 go_wp2_with (go_at_call 28;refine (HC.out _ HB.out.bl).mono ?_;rintro e w2 ⟨rfl,hb2⟩;have HB2:=hideS (HB.out.step hb2);clear hb2)
 go_ret2
 exact⟨rfl,HB2.out.bl⟩
set_option maxRecDepth 20000 in
set_option maxHeartbeats 800000 in
theorem vA (base kind x E:Int) (V:Nat) (vd vf:Value) (w:World) (HC:Hid (∀ wx,Below w.heap.size w wx→Calls Tryz.prog 28 #[.agg #[.int .i64 base,.int .i64 kind,vd,vf]] wx fun e w'=>e=.returned (.int .i64 0)∧Below wx.heap.size wx w'))
  (HT:Hid (∀ wx,Below w.heap.size w wx→Calls Tryz.prog 102 #[.agg #[.int .i64 base,.int .i64 kind,vd,vf]] wx fun e w'=>∃ gx lx cx gy ly cy,e=.returned (.agg #[.int .i64 kind,.slice (some ⟨gx,0,none⟩) lx cx,.slice (some ⟨gy,0,none⟩) ly cy])∧Below wx.heap.size wx w'∧Hid (∀ wy,Below w'.heap.size w' wy→Calls Tryz.prog 101 #[.agg #[.int .i64 kind,.slice (some ⟨gx,0,none⟩) lx cx,.slice (some ⟨gy,0,none⟩) ly cy],.int .i64 x] wy fun e w''=>e=.returned (.tuple #[.float .f64 V,.int .i64 E])∧Below wy.heap.size wy w''))) :
  Calls Tryz.prog 61 #[.agg #[.int .i64 base,.int .i64 kind,vd,vf],.int .i64 x] w fun e w'=>e=.returned (.tuple #[.float .f64 V,.int .i64 E])∧Below w.heap.size w w':=by
 have HB:=hideS (bu w base kind vd vf)
 go_enter Tryz.func61,Tryz.ntmps61
 go_wp2_with fail
 refine (HC.out _ HB.out.bl).mono ?_
 rintro e w2 ⟨rfl,hb2⟩
 have HB2:=hideS (HB.out.step hb2)
 clear hb2 HB HC
 have t0:=HB2.out.t0
 have t1:=HB2.out.t1
 have t2:=HB2.out.t2
 have t3:=HB2.out.t3
 go_wp2_with fail
 refine (HT.out _ HB2.out.bl).mono ?_
 rintro e w3 ⟨gx,lx,cx,gy,ly,cy,rfl,hb3,HA⟩
 have HB3:=hideS (HB2.out.step hb3)
 clear hb3 HB2 HT t0 t1 t2 t3
 go_wp2_with fail
 refine (HA.out _ (Below.refl _ _)).mono ?_
 rintro e w4 ⟨rfl,hb4⟩
 have HB4:=hideS (HB3.out.step hb4)
 clear hb4 HB3 HA
 go_wp2_with fail
 go_ret2
 exact⟨rfl,HB4.out.bl⟩
theorem JL (base:Int) (ds:List Int) {n:Nat} (h:ds.length=n):(ctX base ds).length=1+n:=by rw [lC,h,Nat.add_comm]
theorem JM (fs:List Nat) {n:Nat} (h:fs.length=n):(ctY fs).length=1+n:=by rw [CG,h,Nat.add_comm]
theorem fE (base kind x E:Int) (V:Nat) (pd pf:Option Addr) (bd od cd b2 o2 cf:Nat) (ds:List Int) (fs:List Nat) (w:World) (hs:TFl w pd pf bd od b2 o2 ds fs) (h:FacO base kind ds fs x V E) :
  Calls Tryz.prog 61 #[.agg #[.int .i64 base,.int .i64 kind,.slice pd ds.length cd,.slice pf fs.length cf],.int .i64 x] w fun e w'=>e=.returned (.tuple #[.float .f64 V,.int .i64 E])∧Below w.heap.size w w':=by
 cases h with
 | bad E h hE=>exact rW base kind x E _ _ w hE (fun wx hb=>lJ base kind pd pf bd od cd b2 o2 cf ds fs wx (hs.below hb) h)
 | ok ok V E hA=>
  refine vA base kind x E V _ _ w (fun wx hb=>lJ base kind pd pf bd od cd b2 o2 cf ds fs wx (hs.below hb) (.ok ok)) (fun wx hb=>?_)
  have lo:=ok.lo
  have hl:=ok.len
  have hs':=hs.below hb
  have hx:=hs'.x
  have hy:=hs'.y
  rw [hl] at hy ⊢
  obtain rfl:=hx.at_ (by omega)
  obtain rfl:=hy.at_ (by omega)
  refine (yY base kind bd od cd b2 o2 cf ds.length ds fs wx hx hy rfl hl lo ok.hi).mono fun e w' ⟨gx,cx,gy,cy,he,ox,oy,hbl⟩=>⟨gx,1+ds.length,cx,gy,1+ds.length,cy,he,hbl,fun wy hwy=>?_⟩
  have ex:=JL base ds (n:=ds.length) rfl
  have ey:=JM fs hl
  obtain⟨g1,c1,q1,s1,_,_,_⟩:=cY (xs:=ctX base ds) ox ex (by omega)
  obtain⟨g2,c2,q2,s2,_,_,_⟩:=dz (xs:=ctY fs) oy ey (by omega)
  injection q1 with q1 _ _
  injection q1 with q1
  injection q1 with q1
  injection q2 with q2 _ _
  injection q2 with q2
  injection q2 with q2
  subst q1 q2
  have:=EY kind x E V (some ⟨gx,0,none⟩) (some ⟨gy,0,none⟩) gx 0 cx gy 0 cy (ctX base ds) (ctY fs) wy hA (TFl.below ⟨by rw [ex];exact s1,by rw [ey];exact s2,JD hs.f⟩ hwy)
  rw [ex,ey] at this
  exact this
end Go.Proofs.YtkooknagalgfpaaGreat
