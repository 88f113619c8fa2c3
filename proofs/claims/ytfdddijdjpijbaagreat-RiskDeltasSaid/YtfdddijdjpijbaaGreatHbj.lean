/-  -/
import Derived.Test.YtfdddijdjpijbaaGreatHbi
import Derived.Test.YtfdddijdjpijbaaGreatCShelf
set_option maxHeartbeats 6400000
set_option maxRecDepth 20000
namespace Go.Proofs.YtfdddijdjpijbaaGreat.A
open Go.RowKit
def Apart (b:Nat) (v:Value) (c:Nat) (u:Value):Prop:=∀ k,Ft b v k->¬ Ft c u k
theorem Apart.symm {b c:Nat} {v u:Value} (h:Apart b v c u):Apart c u b v:=fun k d a=>h k a d
theorem Apart.step {w i:World} {B B' b c L L':Nat} {v f u:Value} {a d:St} (h:Apart b v c u) (j:Did w i B b v L a f) (hc:AccAt w B' c u L' d):Apart b f c u:=by
 rintro k (rfl | l) e
 ·exact h k (Or.inl rfl) e
 ·rcases j.new k l with g | g
  ·exact h k (Or.inr g) e
  ·have:=(hc.base k e).2;omega
theorem AccAt.apart {w e:World} {B B' b c L L':Nat} {v f u:Value} {a d:St} (hc:AccAt w B' c u L' d) (h:Apart b v c u) (j:Did w e B b v L a f):AccAt e B' c u L' d:=
 hc.wrote j.wrote (fun k i g=>h k g i)
theorem IW {a:List Nat} {j q:Nat} (b:j<a.length) (c:a.getD j 0=0):∀ n,ps (fun i=>(a.set j q).getD i 0) n=ps (fun i=>a.getD i 0) n+(if j<n then q*2^(64*j) else 0)
 | 0=>by simp [ps]
 | n+1=>by
  rw [ps,ps,IW b c n]
  show _+(a.set j q).getD n 0*_=_
  rw [getD_set b]
  by_cases hn:n=j
  ·subst hn;rw [if_neg (by omega),if_pos rfl,if_pos (by omega)]
   show _=_+a.getD n 0*_+_
   rw [c];omega
  ·rw [if_neg hn]
   by_cases d:j<n
   ·rw [if_pos d,if_pos (by omega)];omega
   ·rw [if_neg d,if_neg (by omega)];omega
theorem IX {F:Nat->Nat} (hF:pN F) {j n:Nat} (c:j<n):ps F n / 2^(64*j)=ps F n / 2^(64*(j+1))*18446744073709551616+F j:=by
 have a:∀ n,j<n->ps F n / 2^(64*j) % 18446744073709551616=F j:=by
  intro n
  induction n with
  | zero=>intro h;omega
  | succ n b=>
   intro h;rw [ps]
   by_cases e:j=n
   ·subst e;rw [Nat.add_mul_div_right _ _ (cj j),Nat.div_eq_of_lt (ku hF j),Nat.zero_add,Nat.mod_eq_of_lt (hF j)]
   ·have f:F n*2^(64*n)=F n*2^(64*(n - j - 1))*18446744073709551616*2^(64*j):=by
     rw [Nat.mul_assoc,Nat.mul_assoc,<- lu,<- Nat.pow_add];congr 2;omega
    rw [f,Nat.add_mul_div_right _ _ (cj j),Nat.add_mul_mod_self_right];exact b (by omega)
 have g:=a n c;have d:ps F n / 2^(64*(j+1))=ps F n / 2^(64*j) / 18446744073709551616:=by rw [lu,Nat.mul_comm,Nat.div_div_eq_div_mul]
 rw [d];generalize ps F n / 2^(64*j)=X at *
 omega
theorem div_step {F:Nat->Nat} (hF:pN F) {j n d:Nat} (a:j<n):(ps F n / 2^(64*(j+1)) % d*18446744073709551616+F j) % d=ps F n / 2^(64*j) % d:=by
 rw [IX hF a,Nat.add_mod,Nat.mul_mod,Nat.mod_mod,<- Nat.mul_mod,<- Nat.add_mod]
structure Div (wr w:World) (n c d:Nat) (F:Nat->Nat) (zs:List Nat) (rest k:Nat):Prop where
 own:OwnW wr w.heap.size (.slice (some ⟨w.heap.size,0,none⟩) n c) zs
 len:zs.length=n
 eq:d*ps (fun i=>zs.getD i 0) n+rest*2^(64*k)+ps F k=ps F n
 low:∀ j,j<k->zs.getD j 0=0
 res:rest=ps F n / 2^(64*k) % d
 bl:Below w.heap.size w wr
theorem Div.step {wr w:World} {n c d:Nat} {F:Nat->Nat} {b:List Nat} {rest j:Nat} (h:Div wr w n c d F b rest (j+1)) (hF:pN F) (e:j<n) (k:(rest*18446744073709551616+F j) / d<18446744073709551616) :
  Div (wr.setCell ⟨w.heap.size,j,none⟩ (.int .u64 (((rest*18446744073709551616+F j) / d:Nat):Int))) w n c d F (b.set j ((rest*18446744073709551616+F j) / d)) ((rest*18446744073709551616+F j) % d) j:=by
 have m:=h.len;have g:=h.own.set h.len j _ k;refine⟨g.1,by rw [List.length_set];exact h.len,?_,?_,?_,h.bl.setCell (Nat.le_refl _) _⟩
 ·rw [IW (by omega) (h.low j (by omega)),if_pos e]
  have l:=h.eq;rw [lu,ps] at l
  have a:=Nat.div_add_mod (rest*18446744073709551616+F j) d;have f:(d*((rest*18446744073709551616+F j) / d)+(rest*18446744073709551616+F j) % d)*2^(64*j)=(rest*18446744073709551616+F j)*2^(64*j):=by rw [a]
  rw [Nat.add_mul,Nat.add_mul,Nat.mul_assoc d,Nat.mul_assoc rest] at f
  rw [Nat.mul_add];omega
 ·intro i hi;rw [getD_set (by omega),if_neg (by omega)]
  exact h.low i (by omega)
 ·rw [h.res,div_step hF e]
theorem xW (B:Nat) (v:Value) (ys:List Nat) (d:Nat) (w:World) (h:OwnW w B v ys) (hn:ys.length<=100000) (D:0<d)
  (o:∀ j,j<ys.length->∀ w,Calls Tryz.prog 232 #[.int .u64 ((ps (fun i=>ys.getD i 0) ys.length / 2^(64*(j+1)) % d:Nat):Int),.int .u64 (ys.getD j 0:Nat),.int .u64 (d:Int)] w fun e u=>e=.returned (.tuple #[.int .u64 (((ps (fun i=>ys.getD i 0) ys.length / 2^(64*(j+1)) % d*18446744073709551616+ys.getD j 0) / d:Nat):Int),.int .u64 (((ps (fun i=>ys.getD i 0) ys.length / 2^(64*(j+1)) % d*18446744073709551616+ys.getD j 0) % d:Nat):Int)])/\∃ q,u=w.drewN q) :
  Calls Tryz.prog 228 #[v,.int .u64 (d:Int)] w fun e u=>∃ O m,e=.returned (.tuple #[O,.int .u64 ((ps (fun i=>ys.getD i 0) ys.length % d:Nat):Int)])/\OwnW u w.heap.size O m/\m.length=ys.length/\ps (fun i=>m.getD i 0) m.length=ps (fun i=>ys.getD i 0) ys.length / d/\Below w.heap.size w u:=by
 obtain⟨p,g,c,rfl,ad,al,W,U⟩:=h.shape;have V:=hideS U;obtain⟨F,hF⟩:∃ F:Nat->Nat,F=fun i=>ys.getD i 0:=⟨_,rfl⟩
 have K:Hid (pN F):=by rw [hF];exact h.fit
 have t:Hid (∀ j,ys.getD j 0=F j):=fun j=>by rw [hF]
 have N:=hideS (OwnW.made w ys.length (by omega))
 have Q:=hideS ((Below.refl w.heap.size w).alloc (Nat.le_refl _) (.cells (madeCells #[.int .u64 0] ys.length) 41));have J:=fun w=>run_make_row' (P:=Tryz.prog) 33 41 (.int .u64 0) 8 Tryz.underlying33 infoU rfl .i64 .i64 ys.length (by omega) (by omega) w
 rw [<- hF] at o ⊢
 have s:=hideS o;clear o h U hF;have L:=fun j (x:j<ys.length)=>s.out j x
 have H:Hid (∀ j,j<ys.length->∀ w,Calls Tryz.prog 232 #[.int .u64 ((ps F ys.length / 2^(64*(j+1)) % d:Nat):Int),.int .u64 (F j:Nat),.int .u64 (d:Int)] w fun e u=>e=.returned (.tuple #[.int .u64 (((ps F ys.length / 2^(64*(j+1)) % d*18446744073709551616+F j) / d:Nat):Int),.int .u64 (((ps F ys.length / 2^(64*(j+1)) % d*18446744073709551616+F j) % d:Nat):Int)])/\∃ q,u=w.drewN q):=fun j x w=>by
  have:=s.out j x w;rw [t.out j] at this;exact this
 have I:Hid (∀ j,j<ys.length->w.cell? ⟨g,j,none⟩=some (.int .u64 (F j:Nat))):=fun j x=>by
  have:=V.out j x;rw [t.out j] at this;exact this
 clear s V L t;generalize ys.length=n at *
 have A:Hid (Div (w.alloc (.cells (madeCells #[.int .u64 0] n) 41)) w n n d F (List.replicate n 0) 0 n):=by
  refine⟨N.out,by simp,?_,?_,?_,Q.out⟩
  ·have:ps (fun i=>(List.replicate n 0).getD i 0) n=0:=by
    rw [cQ (g:=fun _=>0) (fun i _=>by show (List.replicate n 0).getD i 0=0;rw [List.getD,List.getElem?_replicate];split<;>rfl),oQ]
   rw [this];simp
  ·intro j _;rw [List.getD,List.getElem?_replicate];split<;>rfl
  ·rw [Nat.div_eq_of_lt (ku K.out n),Nat.zero_mod]
 have ab:(d:Int)≠0:=by omega
 go_enter Tryz.func228,Tryz.ntmps228
 go_wp2;clear J
 go_loopw [5,6] (fun b i wr=>∃ (k rest:Nat) (m:List Nat),k<=n/\b=.int .u64 rest/\i=.int .i64 ((k:Int) - 1)/\Hid (Div wr w n n d F m rest k)) (fun _ i _=>(intOf i+1).toNat)
 case atStart=>exact⟨n,0,List.replicate n 0,Nat.le_refl _,rfl,rfl,A⟩
 case round=>
  clear N Q A;obtain⟨k,rest,m,hk,rfl,rfl,a⟩:=hrel;cases k with
  | zero=>
   go_wp2
   go_ret2
   refine⟨_,m,?_,a.out.own,a.out.len,?_,a.out.bl⟩
   ·have:=a.out.res;rw [Nat.mul_zero,Nat.pow_zero,Nat.div_one] at this
    rw [<- this];rfl
   ·have S:=a.out.eq;have R:=a.out.res;rw [Nat.mul_zero,Nat.pow_zero,Nat.div_one] at R
    rw [Nat.mul_zero,Nat.pow_zero,Nat.mul_one,ps,Nat.add_zero] at S
    rw [a.out.len,<- S,R];have X:ps F n % d<d:=Nat.mod_lt _ D;rw [Nat.mul_add_div D,Nat.div_eq_of_lt X,Nat.add_zero]
  | succ j=>
   obtain⟨rfl,ai,G⟩:=W (by omega)
   have E:wr.cell? ⟨g,j,none⟩=some (.int .u64 (F j:Nat)):=(a.out.bl.cell (p:=⟨g,j,none⟩) G).trans (I.out j (by omega))
   have M:wr.cell? ⟨w.heap.size,j,none⟩=some (.int .u64 (m.getD j 0:Nat)):=a.out.own.cell1 a.out.len j (by rw [a.out.len];omega)
   have Z:wr.frozen? ⟨w.heap.size,j,none⟩=false:=a.out.own.frozen1 a.out.len j;have f:=H.out j (by omega) wr
   rw [<- a.out.res] at f
   have C:rest<d:=by rw [a.out.res];exact Nat.mod_lt _ D
   have T:(rest*18446744073709551616+F j) / d<18446744073709551616:=by
    rw [Nat.div_lt_iff_lt_mul D];have h5:(rest+1)*18446744073709551616<=d*18446744073709551616:=Nat.mul_le_mul_right _ C;have h6:=K.out j;rw [Nat.mul_comm 18446744073709551616 d];omega
   have l:=hideS (a.out.step K.out (by omega) T)
   have r:=hideS f;clear f T C;generalize (rest*18446744073709551616+F j) / d=q at l r
   generalize (rest*18446744073709551616+F j) % d=Y at l r
   generalize F j=y at E r
   generalize m.getD j 0=z at M
   have e1:((j+1:Nat):Int) - 1=(j:Int):=by omega
   rw [e1]
   go_wp2_with fail
   refine r.out.mono ?_
   rintro e w2 ⟨rfl,nq,rfl⟩
   go_wp2_with fail
   go_roundw
   case rel=>
    refine⟨j,Y,m.set j q,by omega,rfl,rfl,?_⟩
    exact⟨l.out.own.drewN nq,l.out.len,l.out.eq,l.out.low,l.out.res,⟨l.out.bl.os,l.out.bl.tape,l.out.bl.output,l.out.bl.size,l.out.bl.block⟩⟩
   case measure=>simp [intOf]
theorem Bo (y d:Nat) (w:World) (l:0<d) (i:y<18446744073709551616) :
  Calls Tryz.prog 232 #[.int .u64 0,.int .u64 (y:Int),.int .u64 (d:Int)] w fun e b=>e=.returned (.tuple #[.int .u64 ((y / d:Nat):Int),.int .u64 ((y % d:Nat):Int)])/\∃ q,b=w.drewN q:=by
 obtain⟨D,a⟩:∃ D:Int,(d:Int)=D:=⟨_,rfl⟩;have c:(y:Int).tdiv D=((y / d:Nat):Int):=by rw [<- a];rfl
 have j:(y:Int).tmod D=((y % d:Nat):Int):=by rw [<- a];rfl
 have k:=Nat.div_le_self y d;have h:=Nat.mod_le y d;have g:0<D:=by omega
 rw [a];generalize y / d=q at *
 generalize y % d=r at *
 have f:IntKind.u64.wrap (q:Int)=q:=by rw [IntKind.wrap_u64];omega
 have m:IntKind.u64.wrap (r:Int)=r:=by rw [IntKind.wrap_u64];omega
 go_enter Tryz.func232,Tryz.ntmps232
 go_wp2
 go_region
 all_goals
  go_wp2
  go_ret2
  exact⟨rfl,_,rfl⟩
def gS (N:Int) (d:Nat):Nat:=aI (sgM (decide (N<0)) (mant (N.natAbs / d) (decide (N.natAbs % d≠0)))) (ko (N.natAbs / d))
theorem EZ (N:Int):gS N 1=valF N:=by
 unfold gS;rw [Nat.div_one,Nat.mod_one];exact th N
def OE (M d:Nat):Prop:=∀ j y w,y=M / 2^(64*j) % 18446744073709551616->Calls Tryz.prog 232 #[.int .u64 ((M / 2^(64*(j+1)) % d:Nat):Int),.int .u64 (y:Nat),.int .u64 (d:Int)] w fun e a=>e=.returned (.tuple #[.int .u64 (((M / 2^(64*(j+1)) % d*18446744073709551616+y) / d:Nat):Int),.int .u64 (((M / 2^(64*(j+1)) % d*18446744073709551616+y) % d:Nat):Int)])/\∃ q,a=w.drewN q
theorem xX (B b:Nat) (v:Value) (L:Nat) (a:St) (d:Nat) (w:World) (h:AccAt w B b v L a) (hB:B<=w.heap.size) (hL:L<=40000) (hd:0<d) (V:d<9223372036854775808) (P:a.s=0) (g:OE a.N.natAbs d) :
  Calls Tryz.prog 222 #[.pointer (some ⟨b,0,none⟩),.int .i64 (d:Int)] w fun r w'=>r=.returned (.tuple #[.float .f64 (gS a.N d),.bool true])/\Below w.heap.size w w':=by
 have c0:=h.cell0;have c1:=h.cell1;rw [P] at c0
 obtain⟨F,G,hl,O⟩:=h.own;have J:=hideS (tx B v F a.N w G O (by omega) hB)
 have D:Hid (F.length<=40000):=by show _<=_;omega
 have n:=hideS g;have Q:=hideS (show gS a.N d=aI (sgM (decide (a.N<0)) (mant (a.N.natAbs / d) (decide (a.N.natAbs % d≠0)))) (ko (a.N.natAbs / d)) from rfl)
 have hw:IntKind.u64.wrap (d:Int)=d:=by rw [IntKind.wrap_u64];omega
 have ab:¬ ((d:Int)<1):=by omega
 generalize gS a.N d=ad at *
 clear h G hl O P g
 go_enter Tryz.func222,Tryz.ntmps222
 go_wp2_with fail
 refine J.out.mono ?_
 rintro e K ⟨W,f,rfl,o,H,k,R⟩;have x:=hideS (xW B W f d K o (by have:=D.out;omega) hd (fun j T u=>by
  rw [k];refine n.out j (f.getD j 0) u ?_
  rw [<- k];have:=IX o.fit T;have X:=o.fit j;rw [this]
  show f.getD j 0=(_*18446744073709551616+f.getD j 0) % 18446744073709551616
  have h3:f.getD j 0<18446744073709551616:=X;omega))
 have i:Hid (f.length=0->a.N.natAbs=0):=fun p=>by rw [<- k,p];rfl
 rw [k] at x
 have A:=hideS R;have y:=hideS H;clear o H k R J n;generalize a.N.natAbs=M at *
 generalize decide (a.N<0)=ng at *
 go_wp2_with fail
 refine x.out.mono ?_
 rintro e u ⟨Y,z,rfl,I,Z,C,E⟩;have l:=hideS (tB K.heap.size Y z (decide (M % d≠0)) ng u I (by have:=D.out;have:=y.out;omega) (fun S=>by
  rcases Nat.eq_zero_or_pos z.length with p | p
  ·have h7:=i.out (by omega)
   rw [h7] at S
   simp at S
  ·exact p))
 rw [C,<- Q.out] at l
 have c:=hideS (A.out.trans (E.mono A.out.size));clear I Z C E x i Q
 by_cases t:M % d=0
 ·rw [show decide (M % d≠0)=false by simpa using t] at l
  rw [t]
  go_wp2_with fail
  refine l.out.mono ?_
  rintro e w3 ⟨rfl,q,rfl⟩
  go_wp2_with fail
  go_ret2
  exact⟨rfl,⟨c.out.os,c.out.tape,c.out.output,c.out.size,c.out.block⟩⟩
 ·rw [show decide (M % d≠0)=true by simpa using t] at l
  obtain⟨r,m⟩:∃ r:Int,((M % d:Nat):Int)=r:=⟨_,rfl⟩;have U:(r !=0)=true:=by simp;omega
  rw [m];clear t m
  go_wp2_with fail
  refine l.out.mono ?_
  rintro e w3 ⟨rfl,q,rfl⟩
  go_wp2_with fail
  go_ret2
  exact⟨rfl,⟨c.out.os,c.out.tape,c.out.output,c.out.size,c.out.block⟩⟩
structure Run (w wr:World) (b:Nat) (v:Value) (L:Nat) (a:St):Prop where
 acc:AccAt wr w.heap.size b v L a
 bl:Below w.heap.size w wr
theorem Run.did {w wr c:World} {b:Nat} {v d:Value} {L L':Nat} {a a':St} (h:Run w wr b v L a) (e:Did wr c w.heap.size b v L' a' d):Run w c b d L' a':=
 ⟨e.acc,h.bl.trans (e.wrote.below (fun k f=>(h.acc.base k f).1) h.bl.size)⟩
theorem Run.mono {w wr:World} {b:Nat} {v:Value} {L L':Nat} {a:St} (h:Run w wr b v L a) (c:L<=L'):Run w wr b v L' a:=⟨h.acc.mono c,h.bl⟩
theorem Run.drewN {w wr:World} {b:Nat} {v:Value} {L:Nat} {a:St} (h:Run w wr b v L a) (n:Nat):Run w (wr.drewN n) b v L a:=
 ⟨h.acc.drewN n,⟨h.bl.os,h.bl.tape,h.bl.output,h.bl.size,h.bl.block⟩⟩
theorem wi (b y1 y0 q:Nat):q*(y1*b+y0)=q*y1*b+q*y0:=by rw [Nat.mul_add,Nat.mul_assoc]
theorem Nt {b y1 y0 u u1 q r:Nat} (a:0<y1*b+y0) (h:q*y1+r=u):(b*r+u1<q*y0)↔(u*b+u1) / (y1*b+y0)<q:=by
 rw [Nat.div_lt_iff_lt_mul a,wi,<- h,Nat.add_mul,Nat.mul_comm r b];generalize q*y1*b=A;generalize b*r=C;omega
theorem Ki {b y1 y0 u u1 q r:Nat} (c:0<y1*b+y0) (h:q*y1+r=u) (d:b<=r) (a:q<=b) (g:y0<b) (e:(u*b+u1) / (y1*b+y0)<=q):q=(u*b+u1) / (y1*b+y0):=by
 apply Nat.le_antisymm _ e;rw [Nat.le_div_iff_mul_le c,wi,<- h,Nat.add_mul];have f:q*y0<=b*b:=Nat.mul_le_mul a (by omega)
 have i:b*b<=r*b:=Nat.mul_le_mul d (Nat.le_refl _);omega
theorem za {b y1 y0 u:Nat} (d:u<y1*b+y0) (e:y0<b) (a:b<=2*y1) (c:0<y1):u / y1<=b+1:=by
 have:u / y1<b+2:=by
  rw [Nat.div_lt_iff_lt_mul c,Nat.add_mul,Nat.mul_comm b y1];omega
 omega
theorem QT {b y1 y0 u u1:Nat} (a:u1<b) (d:0<y1):(u*b+u1) / (y1*b+y0)<=u / y1:=by
 rw [Nat.le_div_iff_mul_le d];have h:=Nat.div_mul_le_self (u*b+u1) (y1*b+y0);rw [wi] at h
 generalize (u*b+u1) / (y1*b+y0)=Q at *
 have c:Q*y1*b<(u+1)*b:=by rw [Nat.add_mul];omega
 have:=Nat.lt_of_mul_lt_mul_right c;omega
theorem zb {b y u u1:Nat} (c:u1<b) (a:u<y):(u*b+u1) / y<b:=by
 rw [Nat.div_lt_iff_lt_mul (by omega)]
 have:(u+1)*b<=b*y:=by rw [Nat.mul_comm b y];exact Nat.mul_le_mul a (Nat.le_refl _)
 rw [Nat.add_mul] at this
 omega
theorem PR {y b A c:Nat} (a:0<y):(A*b+c) / y=A / y*b+(A % y*b+c) / y/\(A*b+c) % y=(A % y*b+c) % y:=by
 have e:A*b+c=(A % y*b+c)+A / y*b*y:=by
  have:=Nat.div_add_mod A y;generalize A / y=q at *
  generalize A % y=r at *
  rw [<- this,Nat.add_mul,Nat.mul_right_comm q b y,Nat.mul_comm y q];omega
 rw [e];exact⟨by rw [Nat.add_mul_div_right _ _ a];omega,by rw [Nat.add_mul_mod_self_right]⟩
theorem Kj {b y X s a d e:Nat} (g:0<y) (h:X*2^s=(a*b+d)*b+e) :
  X / y=(a*b+d) / (y*2^s)*b+((a*b+d) % (y*2^s)*b+e) / (y*2^s)/\X % y=((a*b+d) % (y*2^s)*b+e) % (y*2^s) / 2^s:=by
 have f:0<2^s:=Nat.pow_pos (by decide)
 obtain⟨j,i⟩:=PR (y:=y*2^s) (b:=b) (A:=a*b+d) (c:=e) (Nat.mul_pos g f);rw [<- j,<- i,<- h,Nat.mul_div_mul_right _ _ f,Nat.mul_mod_mul_right,Nat.mul_div_cancel _ f];exact⟨rfl,rfl⟩
structure KL (b y1 y0 u u1 q r:Nat):Prop where
 eq:q*y1+r=u
 ge:(u*b+u1) / (y1*b+y0)<=q
theorem zc {b y1 y0 u u1:Nat} (a:u1<b) (c:0<y1):KL b y1 y0 u u1 (u / y1) (u % y1):=
 ⟨by rw [Nat.mul_comm];exact Nat.div_add_mod u y1,QT a c⟩
theorem zd {b y1 y0 u u1 q r:Nat} (h:KL b y1 y0 u u1 q r) (v:q<=b+1) (t:y0<b) (n:0<y1*b+y0) (l:(u*b+u1) / (y1*b+y0)<b) :
  (q<b/\¬ (b*r+u1<q*y0)/\q=(u*b+u1) / (y1*b+y0))\/
  (∃ a,a+1=q/\a<=b/\(b<=q\/(q<b/\b*r+u1<q*y0))/\((b<=r+y1/\a=(u*b+u1) / (y1*b+y0))\/(r+y1<b/\KL b y1 y0 u u1 a (r+y1)))):=by
 have j:=Nt (b:=b) (u1:=u1) n h.eq;have o:=h.ge;have next:(u*b+u1) / (y1*b+y0)<q->∃ a,a+1=q/\a<=b/\((b<=r+y1/\a=(u*b+u1) / (y1*b+y0))\/(r+y1<b/\KL b y1 y0 u u1 a (r+y1))):=by
  intro d;have s:0<q:=Nat.lt_of_le_of_lt (Nat.zero_le _) d;obtain⟨a,rfl⟩:∃ a,q=a+1:=⟨q - 1,by clear d j o l;omega⟩
  have e:a*y1+(r+y1)=u:=by rw [<- h.eq,Nat.add_mul];omega
  refine⟨a,rfl,by omega,?_⟩
  by_cases p:b<=r+y1
  ·exact Or.inl ⟨p,Ki n e p (by omega) t (Nat.le_of_lt_succ d)⟩
  ·exact Or.inr ⟨by omega,e,Nat.le_of_lt_succ d⟩
 by_cases m:b<=q
 ·obtain⟨a,k,i,g⟩:=next (Nat.lt_of_lt_of_le l m);exact Or.inr ⟨a,k,i,Or.inl m,g⟩
 ·by_cases f:b*r+u1<q*y0
  ·obtain⟨a,k,i,g⟩:=next (j.1 f);exact Or.inr ⟨a,k,i,Or.inr ⟨by omega,f⟩,g⟩
  ·refine Or.inl ⟨by omega,f,?_⟩
   exact Nat.le_antisymm (Nat.le_of_not_lt fun c=>f (j.2 c)) o
structure Kn (hi lo d ld Y y1 y0 U Z u1 u0 a c:Nat):Prop where
 lds:ld<=63
 f1:IntKind.u64.wrap ((d:Int)*2^ld)=(Y:Int)
 f2:(Y:Int) / 4294967296=(y1:Int)
 f3:bits .and .u64 (Y:Int) 4294967295=(y0:Int)
 f4:IntKind.u64.wrap ((hi:Int)*2^ld)=(a:Int)
 f5:(lo:Int) / 2^(64 - ld)=(c:Int)
 f6:bits .or .u64 (a:Int) (c:Int)=(U:Int)
 f7:IntKind.u64.wrap ((lo:Int)*2^ld)=(Z:Int)
 f8:(Z:Int) / 4294967296=(u1:Int)
 f9:bits .and .u64 (Z:Int) 4294967295=(u0:Int)
 yf:Y<18446744073709551616
 yh:9223372036854775808<=Y
 yy:Y=y1*4294967296+y0
 y0b:y0<4294967296
 uY:U<Y
 u1b:u1<4294967296
 u0b:u0<4294967296
 dY:Y=d*2^ld
 all:(hi*18446744073709551616+lo)*2^ld=(U*4294967296+u1)*4294967296+u0
theorem qV {z:Nat} (h:z<18446744073709551616):bits .and .u64 (z:Int) 4294967295=((z % 4294967296:Nat):Int):=by
 have e:=bits_and_u64_nat z 4294967295 h (by decide)
 have a:z&&& 4294967295=z % 4294967296:=Nat.and_two_pow_sub_one_eq_mod z 32;rw [a] at e
 exact e
theorem PS {hi lo d b:Nat} (p:hi<d) (v:d<18446744073709551616) (i:lo<18446744073709551616) (k:b=63 - d.log2):∃ Y y1 y0 U Z u1 u0 a c,Kn hi lo d b Y y1 y0 U Z u1 u0 a c:=by
 have j:d≠0:=by omega
 obtain⟨o,_,_,B⟩:=pQ j v i k;have G:=Nat.two_pow_pos b;have u:(hi+1)*2^b<=d*2^b:=Nat.mul_le_mul p (Nat.le_refl _);rw [Nat.add_mul,Nat.one_mul] at u
 have m:hi*2^b<18446744073709551616:=by omega
 have l:=AQ (hi:=hi) (off:=b) (by omega) i
 rw [Nat.mod_eq_of_lt m] at l
 have w:(18446744073709551616:Nat)=2^b*2^(64 - b):=by rw [<- Nat.pow_add,show b+(64 - b)=64 by omega]
 have E:lo / 2^(64 - b)<2^b:=by
  rw [Nat.div_lt_iff_lt_mul (Nat.two_pow_pos _),<- w];exact i
 have s:lo / 2^(64 - b)<18446744073709551616:=Nat.lt_of_le_of_lt (Nat.div_le_self _ _) i;have e:=pP (hi:=hi) (lo:=lo) (off:=b) (by omega)
 have t:hi / 2^(64 - b)=0:=by
  apply Nat.div_eq_of_lt;have:hi*2^b<2^(64 - b)*2^b:=by rw [Nat.mul_comm (2^(64 - b)),<- w];exact m
  exact Nat.lt_of_mul_lt_mul_right this
 rw [t,Nat.zero_mul,Nat.add_zero,Nat.mod_eq_of_lt m] at e
 have f:9223372036854775808<=d*2^b:=by
  have C:=Nat.log2_self_le j;have z:d.log2<64:=(Nat.log2_lt j).2 v;have:2^d.log2*2^b<=d*2^b:=Nat.mul_le_mul C (Nat.le_refl _);rw [<- Nat.pow_add,k,show d.log2+(63 - d.log2)=63 by omega,<- k] at this
  exact this
 obtain⟨Z,q⟩:∃ Z,lo*2^b % 18446744073709551616=Z:=⟨_,rfl⟩;have r:Z<18446744073709551616:=by rw [<- q];exact Nat.mod_lt _ (by decide)
 obtain⟨Y,n⟩:∃ Y,d*2^b=Y:=⟨_,rfl⟩;obtain⟨a,h⟩:∃ a,hi*2^b=a:=⟨_,rfl⟩;obtain⟨c,g⟩:∃ c,lo / 2^(64 - b)=c:=⟨_,rfl⟩;have D:IntKind.u64.wrap ((d:Int)*2^b)=(Y:Int):=by rw [fQ,Nat.mod_eq_of_lt o,n]
 have A:IntKind.u64.wrap ((hi:Int)*2^b)=(a:Int):=by rw [fQ,Nat.mod_eq_of_lt m,h]
 have y:(lo:Int) / 2^(64 - b)=(c:Int):=by rw [lI,g]
 have F:bits .or .u64 (a:Int) (c:Int)=((a+c:Nat):Int):=by rw [<- h,<- g,bits_or_u64_nat _ _ m s,l]
 have x:IntKind.u64.wrap ((lo:Int)*2^b)=(Z:Int):=by rw [fQ,q]
 rw [q] at e
 rw [h,g] at e
 rw [h,n] at u
 rw [n] at o f
 rw [g] at E
 refine⟨Y,Y / 4294967296,Y % 4294967296,a+c,Z,Z / 4294967296,Z % 4294967296,a,c,⟨B,D,by omega,qV o,A,y,F,x,by omega,qV r,o,f,by omega,by omega,by omega,by omega,by omega,n.symm,?_⟩⟩
 rw [<- e];omega
theorem dq {q y0:Nat} (a:q<4294967296) (b:y0<4294967296):IntKind.u64.wrap ((q:Int)*(y0:Int))=((q*y0:Nat):Int):=by
 have:q*y0<=4294967295*4294967295:=Nat.mul_le_mul (by omega) (by omega)
 rw [IntKind.wrap_u64,<- Int.natCast_mul];omega
theorem FT {U u1 q Y R A B C:Nat} (d:A=U*4294967296 % 18446744073709551616) (c:B=(A+u1) % 18446744073709551616) (a:C=q*Y % 18446744073709551616) (b:R<18446744073709551616) (h:U*4294967296+u1=q*Y+R):IntKind.u64.wrap ((B:Int) - (C:Int))=(R:Int):=by
 rw [IntKind.wrap_u64];generalize q*Y=P at *
 omega
theorem Kk {n m:Nat} (h:n % 18446744073709551616=m):IntKind.u64.wrap (n:Int)=(m:Int):=by
 rw [IntKind.wrap_u64];omega
structure Trial (u y1 q p r:Nat):Prop where
 t1:(u:Int).tdiv (y1:Int)=(q:Int)
 t2:IntKind.u64.wrap ((q:Int)*(y1:Int))=(p:Int)
 t3:IntKind.u64.wrap ((u:Int) - (p:Int))=(r:Int)
 t4:IntKind.u64.wrap (q:Int)=(q:Int)
 hq:q=u / y1
 hr:r=u % y1
theorem tU {u y1:Nat} (a:0<y1) (b:u<18446744073709551616):∃ q p r,Trial u y1 q p r:=by
 have e:=Nat.div_add_mod u y1;have l:=Nat.mod_lt u a;have g:=Nat.div_le_self u y1;refine⟨u / y1,u / y1*y1,u % y1,⟨rfl,?_,?_,?_,rfl,rfl⟩⟩
 ·rw [<- Int.natCast_mul,IntKind.wrap_u64];have:u / y1*y1<=u:=Nat.div_mul_le_self u y1;generalize u / y1*y1=z at *
  omega
 ·rw [Nat.mul_comm] at e
  generalize u / y1*y1=z at *
  generalize u % y1=m at *
  rw [IntKind.wrap_u64];omega
 ·generalize u / y1=z at *
  rw [IntKind.wrap_u64];omega
structure Leave (U u1 Q Y R A B C:Nat):Prop where
 v1:IntKind.u64.wrap ((U:Int)*4294967296)=(A:Int)
 v2:IntKind.u64.wrap ((A:Int)+(u1:Int))=(B:Int)
 v3:IntKind.u64.wrap ((Q:Int)*(Y:Int))=(C:Int)
 v4:IntKind.u64.wrap ((B:Int) - (C:Int))=(R:Int)
theorem tV {U u1 Q Y R:Nat} (a:R<18446744073709551616) (h:U*4294967296+u1=Q*Y+R):∃ A B C,Leave U u1 Q Y R A B C:=by
 refine⟨U*4294967296 % 18446744073709551616,(U*4294967296 % 18446744073709551616+u1) % 18446744073709551616,Q*Y % 18446744073709551616,⟨?_,?_,?_,FT rfl rfl rfl a h⟩⟩
 ·rw [IntKind.wrap_u64];omega
 ·rw [IntKind.wrap_u64];omega
 ·rw [<- Int.natCast_mul];exact Kk rfl
theorem FU (hi lo d:Nat) (w:World) (h0:hi≠0) (dx:hi<d) (hd:d<18446744073709551616) (eb:lo<18446744073709551616) :
  Calls Tryz.prog 232 #[.int .u64 (hi:Int),.int .u64 (lo:Int),.int .u64 (d:Int)] w fun e w'=>e=.returned (.tuple #[.int .u64 (((hi*18446744073709551616+lo) / d:Nat):Int),.int .u64 (((hi*18446744073709551616+lo) % d:Nat):Int)])/\∃ q,w'=w.drewN q:=by
 obtain⟨ld,da⟩:∃ ld,ld=63 - d.log2:=⟨_,rfl⟩;obtain⟨Y,y1,y0,U,Z,u1,u0,a,c,hk⟩:=PS dx hd eb da;have dV:=hideS fun w=>turned (Bm d ld w (by omega) hd da)
 have L:=hk.y0b;have cf:=hk.yy;have ek:=hk.yh;have eg:=hk.yf;have ee:=hk.uY;have dd:=hk.u1b;have ds:=hk.u0b;have ei:2147483648<=y1:=by omega
 have di:0<y1*4294967296+y0:=by omega
 obtain⟨e1,e2⟩:=Kj (b:=4294967296) (y:=d) (X:=hi*18446744073709551616+lo) (s:=ld) (by omega) hk.all
 rw [<- hk.dY] at e1 e2
 have ci:=zb (b:=4294967296) dd ee;have cl:=Nat.mod_lt (U*4294967296+u1) (show 0<Y by omega)
 have d1:=Nat.div_add_mod (U*4294967296+u1) Y;obtain⟨R1,dk⟩:∃ R1,(U*4294967296+u1) % Y=R1:=⟨_,rfl⟩;rw [dk] at e1 e2 cl d1
 have cm:=zb (b:=4294967296) ds cl;have df:=Nat.mod_lt (R1*4294967296+u0) (show 0<Y by omega)
 have d0:=Nat.div_add_mod (R1*4294967296+u0) Y;obtain⟨R0,dg⟩:∃ R0,(R1*4294967296+u0) % Y=R0:=⟨_,rfl⟩;rw [dg] at e2 df d0
 have cc:=fun q r (h:KL 4294967296 y1 y0 U u1 q r) (S:q<=4294967296+1)=>zd h S L di (by rw [<- cf];exact ci)
 have cd:=fun q r (h:KL 4294967296 y1 y0 R1 u0 q r) (S:q<=4294967296+1)=>zd h S L di (by rw [<- cf];exact cm)
 rw [<- cf] at cc cd
 obtain⟨Q1,dn⟩:∃ Q1,(U*4294967296+u1) / Y=Q1:=⟨_,rfl⟩;obtain⟨Q0,dp⟩:∃ Q0,(R1*4294967296+u0) / Y=Q0:=⟨_,rfl⟩;rw [dn] at e1 ci d1 cc
 rw [dp] at e1 cm d0 cd
 have ea:=hideS cc;have cx:=hideS cd;obtain⟨qa,pa,ra,ta⟩:=tU (u:=U) (y1:=y1) (by omega) (by omega)
 obtain⟨qb,pb,al,tb⟩:=tU (u:=R1) (y1:=y1) (by omega) (by omega)
 have dU:Hid (KL 4294967296 y1 y0 U u1 qa ra):=by rw [ta.hq,ta.hr];exact zc dd (by omega)
 have cv:Hid (KL 4294967296 y1 y0 R1 u0 qb al):=by rw [tb.hq,tb.hr];exact zc ds (by omega)
 have ed:qa<=4294967297:=by rw [ta.hq];exact za (b:=4294967296) (y0:=y0) (by omega) L (by omega) (by omega)
 have cr:qb<=4294967297:=by rw [tb.hq];exact za (b:=4294967296) (y0:=y0) (by omega) L (by omega) (by omega)
 have cp:y1<4294967296:=by omega
 have dy:ra<4294967296:=by rw [ta.hr];exact Nat.lt_trans (Nat.mod_lt _ (by omega)) cp
 have br:al<4294967296:=by rw [tb.hr];exact Nat.lt_trans (Nat.mod_lt _ (by omega)) cp
 obtain⟨A1,B1,C1,l1⟩:=tV (U:=U) (u1:=u1) (Q:=Q1) (Y:=Y) (R:=R1) (by omega) (by rw [Nat.mul_comm Q1];exact d1.symm)
 obtain⟨A0,B0,C0,l0⟩:=tV (U:=R1) (u1:=u0) (Q:=Q0) (Y:=Y) (R:=R0) (by omega) (by rw [Nat.mul_comm Q0];exact d0.symm)
 obtain⟨bk,ca⟩:∃ bk,Q1*4294967296+Q0=bk:=⟨_,rfl⟩;obtain⟨bi,ai⟩:∃ bi,R0 / 2^ld=bi:=⟨_,rfl⟩;rw [e1,e2,ca,ai];obtain⟨E1,ec⟩:∃ E1,Q1*4294967296=E1:=⟨_,rfl⟩;obtain⟨am,bo⟩:∃ am:Int,am=(Q1:Int):=⟨_,rfl⟩;obtain⟨K,bv⟩:∃ K:Int,K=(Q0:Int):=⟨_,rfl⟩;have z1:IntKind.u64.wrap (am*4294967296)=(E1:Int):=by rw [IntKind.wrap_u64];omega
 have z2:IntKind.u64.wrap ((E1:Int)+K)=(bk:Int):=by rw [IntKind.wrap_u64];omega
 have z7:(R0:Int) / 2^ld=(bi:Int):=by rw [<- ai,Int.natCast_ediv,Int.natCast_pow];rfl
 have em:¬ ((d:Int)<=(hi:Int)):=by omega
 have eh:((d:Int)==0)=false:=by simp;omega
 have ej:((hi:Int)==0)=false:=by simp;omega
 have el:=hk.lds;have f1:=hk.f1;have f2:=hk.f2;have f3:=hk.f3;have f4:=hk.f4;have f5:=hk.f5;have f6:=hk.f6;have f7:=hk.f7;have f8:=hk.f8;have f9:=hk.f9;have t1:=ta.t1;have t2:=ta.t2;have t3:=ta.t3;have t4:=ta.t4;have s1:=tb.t1;have s2:=tb.t2;have s3:=tb.t3;have s4:=tb.t4;obtain⟨v1,v2,v3,v4⟩:=l1;obtain⟨k1,k2,k3,k4⟩:=l0;rw [<- bo] at v3
 rw [<- bv] at k3
 have bx:=hideS bo;have J:=hideS bv;obtain⟨db,bc⟩:∃ db:Int,db=(qa:Int):=⟨_,rfl⟩;obtain⟨ba,bz⟩:∃ ba:Int,ba=(qb:Int):=⟨_,rfl⟩;obtain⟨cu,bs⟩:∃ cu:Int,cu=(ra:Int):=⟨_,rfl⟩;obtain⟨bb,bh⟩:∃ bb:Int,bb=(al:Int):=⟨_,rfl⟩;rw [<- bc] at t1 t2 t4
 rw [<- bz] at s1 s2 s4
 rw [<- bs] at t3
 rw [<- bh] at s3
 have dF:=hideS bc;have cq:=hideS bz;have dE:=hideS bs;have ct:=hideS bh;have ef:(0:Int)<(y1:Int):=by omega
 clear cc cd d1 d0 e1 e2 dn dp dk dg ca ai da ec cf hk ta tb bo bv bc bz bs bh
 go_enter Tryz.func232,Tryz.ntmps232
 go_wp2_with (go_at_call 136;refine (dV.out _).mono ?_;rintro e w' ⟨rfl,rfl⟩)
 go_loop [15,16] (fun sq sr=>∃ (q r:Nat) (G T:Int),sq=.int .u64 G/\sr=.int .u64 T/\Hid (G=(q:Int))/\Hid (T=(r:Int))/\r<4294967296/\q<=4294967297/\Hid (KL 4294967296 y1 y0 U u1 q r)) (fun sq _=>(intOf sq).toNat)
 case atStart=>exact⟨qa,ra,db,cu,rfl,rfl,dF,dE,dy,ed,dU⟩
 case round=>
  obtain⟨q,r,G,T,rfl,rfl,D,ad,hr,S,M⟩:=hrel;have HC:=hideS (ea.out q r M.out S);clear M;have j:=D.out;have t:=ad.out;obtain⟨N,l⟩:∃ N,r+y1=N:=⟨_,rfl⟩;obtain⟨rb,C⟩:∃ rb,4294967296*r=rb:=⟨_,rfl⟩;obtain⟨rs,F⟩:∃ rs,rb+u1=rs:=⟨_,rfl⟩;obtain⟨B,z⟩:∃ B:Int,B=(rb:Int):=⟨_,rfl⟩;obtain⟨v,o⟩:∃ v:Int,v=(rs:Int):=⟨_,rfl⟩;obtain⟨g,f⟩:∃ g:Int,g=(N:Int):=⟨_,rfl⟩;have V:=hideS f;have r1:IntKind.u64.wrap (4294967296*T)=B:=by rw [IntKind.wrap_u64];omega
  have r2:IntKind.u64.wrap (B+(u1:Int))=v:=by rw [IntKind.wrap_u64];omega
  have m2:IntKind.u64.wrap (T+(y1:Int))=g:=by rw [IntKind.wrap_u64];omega
  rw [l,C,F] at HC
  rcases HC.out with⟨P,x2,E⟩| ⟨q',P,x2,E,A⟩
  ·have W:=dq (q:=q) (y0:=y0) P L;obtain⟨p,O⟩:∃ p,q*y0=p:=⟨_,rfl⟩;rw [O] at W x2
   obtain⟨I,n⟩:∃ I:Int,I=(p:Int):=⟨_,rfl⟩;rw [<- n,<- j] at W
   have cs:G<4294967296:=by omega
   have cy:¬ (v<I):=by omega
   obtain rfl:G=am:=by rw [D.out,E,bx.out]
   clear HC l C F z o f n O P x2 E j t hr S
   go_wp2_with fail
   go_loop [16,18] (fun sr sq=>∃ (q r:Nat) (G T:Int),sq=.int .u64 G/\sr=.int .u64 T/\Hid (G=(q:Int))/\Hid (T=(r:Int))/\r<4294967296/\q<=4294967297/\Hid (KL 4294967296 y1 y0 R1 u0 q r)) (fun _ sq=>(intOf sq).toNat)
   case atStart=>exact⟨qb,al,ba,bb,rfl,rfl,cq,ct,br,cr,cv⟩
   case round=>
    obtain⟨q,r,G,T,rfl,rfl,D,ad,hr,S,M⟩:=hrel;have HC:=hideS (cx.out q r M.out S);clear M;have j:=D.out;have t:=ad.out;obtain⟨N,l⟩:∃ N,r+y1=N:=⟨_,rfl⟩;obtain⟨rb,C⟩:∃ rb,4294967296*r=rb:=⟨_,rfl⟩;obtain⟨rs,F⟩:∃ rs,rb+u0=rs:=⟨_,rfl⟩;obtain⟨B,z⟩:∃ B:Int,B=(rb:Int):=⟨_,rfl⟩;obtain⟨v,o⟩:∃ v:Int,v=(rs:Int):=⟨_,rfl⟩;obtain⟨g,f⟩:∃ g:Int,g=(N:Int):=⟨_,rfl⟩;have V:=hideS f;have r1:IntKind.u64.wrap (4294967296*T)=B:=by rw [IntKind.wrap_u64];omega
    have r2:IntKind.u64.wrap (B+(u0:Int))=v:=by rw [IntKind.wrap_u64];omega
    have m2:IntKind.u64.wrap (T+(y1:Int))=g:=by rw [IntKind.wrap_u64];omega
    rw [l,C,F] at HC
    rcases HC.out with⟨P,x2,E⟩| ⟨q',P,x2,E,A⟩
    ·have W:=dq (q:=q) (y0:=y0) P L;obtain⟨p,O⟩:∃ p,q*y0=p:=⟨_,rfl⟩;rw [O] at W x2
     obtain⟨I,n⟩:∃ I:Int,I=(p:Int):=⟨_,rfl⟩;rw [<- n,<- j] at W
     have cs:G<4294967296:=by omega
     have cy:¬ (v<I):=by omega
     obtain rfl:G=K:=by rw [D.out,E,J.out]
     clear HC l C F z o f n O P x2 E j t hr S
     go_wp2_with fail
     go_ret2
     exact⟨rfl,0,rfl⟩
    ·obtain⟨k,i⟩:∃ k:Int,k=(q':Int):=⟨_,rfl⟩;have m:=hideS i;have m1:IntKind.u64.wrap (G - 1)=k:=by rw [IntKind.wrap_u64];omega
     clear HC;rcases E with E | ⟨E,x5⟩
     ·have ab:4294967296<=G:=by omega
      clear C F z o;rcases A with⟨A,x⟩| ⟨A,x⟩
      ·have H:4294967296<=g:=by omega
       obtain rfl:k=K:=by rw [m.out,x,J.out]
       clear x A l f j t hr S i P x2 E
       go_wp2_with fail
       go_ret2
       exact⟨rfl,0,rfl⟩
      ·have HK2:=hideS x;clear x;have H:g<4294967296:=by omega
       clear l f j t i
       go_wp2_with fail
       go_round
       case rel=>exact⟨q',N,k,g,rfl,rfl,m,V,A,by omega,HK2⟩
       case measure=>have:=D.out;have:=m.out;simp [intOf];omega
     ·have W:=dq (q:=q) (y0:=y0) E L;obtain⟨p,O⟩:∃ p,q*y0=p:=⟨_,rfl⟩;rw [O] at W x5
      obtain⟨I,n⟩:∃ I:Int,I=(p:Int):=⟨_,rfl⟩;rw [<- n,<- j] at W
      have ab:G<4294967296:=by omega
      have dc:v<I:=by omega
      clear C F z o O n x5;rcases A with⟨A,x⟩| ⟨A,x⟩
      ·have H:4294967296<=g:=by omega
       obtain rfl:k=K:=by rw [m.out,x,J.out]
       clear x A l f j t hr S i P x2 E
       go_wp2_with fail
       go_ret2
       exact⟨rfl,0,rfl⟩
      ·have HK2:=hideS x;clear x;have H:g<4294967296:=by omega
       clear l f j t i
       go_wp2_with fail
       go_round
       case rel=>exact⟨q',N,k,g,rfl,rfl,m,V,A,by omega,HK2⟩
       case measure=>have:=D.out;have:=m.out;simp [intOf];omega
  ·obtain⟨k,i⟩:∃ k:Int,k=(q':Int):=⟨_,rfl⟩;have m:=hideS i;have m1:IntKind.u64.wrap (G - 1)=k:=by rw [IntKind.wrap_u64];omega
   clear HC;rcases E with E | ⟨E,x5⟩
   ·have ab:4294967296<=G:=by omega
    clear C F z o;rcases A with⟨A,x⟩| ⟨A,x⟩
    ·have H:4294967296<=g:=by omega
     obtain rfl:k=am:=by rw [m.out,x,bx.out]
     clear x A l f j t hr S i P x2 E
     go_wp2_with fail
     go_loop [16,18] (fun sr sq=>∃ (q r:Nat) (G T:Int),sq=.int .u64 G/\sr=.int .u64 T/\Hid (G=(q:Int))/\Hid (T=(r:Int))/\r<4294967296/\q<=4294967297/\Hid (KL 4294967296 y1 y0 R1 u0 q r)) (fun _ sq=>(intOf sq).toNat)
     case atStart=>exact⟨qb,al,ba,bb,rfl,rfl,cq,ct,br,cr,cv⟩
     case round=>
      obtain⟨q,r,G,T,rfl,rfl,D,ad,hr,S,M⟩:=hrel;have HC:=hideS (cx.out q r M.out S);clear M;have j:=D.out;have t:=ad.out;obtain⟨N,l⟩:∃ N,r+y1=N:=⟨_,rfl⟩;obtain⟨rb,C⟩:∃ rb,4294967296*r=rb:=⟨_,rfl⟩;obtain⟨rs,F⟩:∃ rs,rb+u0=rs:=⟨_,rfl⟩;obtain⟨B,z⟩:∃ B:Int,B=(rb:Int):=⟨_,rfl⟩;obtain⟨v,o⟩:∃ v:Int,v=(rs:Int):=⟨_,rfl⟩;obtain⟨g,f⟩:∃ g:Int,g=(N:Int):=⟨_,rfl⟩;have V:=hideS f;have r1:IntKind.u64.wrap (4294967296*T)=B:=by rw [IntKind.wrap_u64];omega
      have r2:IntKind.u64.wrap (B+(u0:Int))=v:=by rw [IntKind.wrap_u64];omega
      have m2:IntKind.u64.wrap (T+(y1:Int))=g:=by rw [IntKind.wrap_u64];omega
      rw [l,C,F] at HC
      rcases HC.out with⟨P,x2,E⟩| ⟨q',P,x2,E,A⟩
      ·have W:=dq (q:=q) (y0:=y0) P L;obtain⟨p,O⟩:∃ p,q*y0=p:=⟨_,rfl⟩;rw [O] at W x2
       obtain⟨I,n⟩:∃ I:Int,I=(p:Int):=⟨_,rfl⟩;rw [<- n,<- j] at W
       have cs:G<4294967296:=by omega
       have cy:¬ (v<I):=by omega
       obtain rfl:G=K:=by rw [D.out,E,J.out]
       clear HC l C F z o f n O P x2 E j t hr S
       go_wp2_with fail
       go_ret2
       exact⟨rfl,0,rfl⟩
      ·obtain⟨k,i⟩:∃ k:Int,k=(q':Int):=⟨_,rfl⟩;have m:=hideS i;have m1:IntKind.u64.wrap (G - 1)=k:=by rw [IntKind.wrap_u64];omega
       clear HC;rcases E with E | ⟨E,x5⟩
       ·have ab:4294967296<=G:=by omega
        clear C F z o;rcases A with⟨A,x⟩| ⟨A,x⟩
        ·have H:4294967296<=g:=by omega
         obtain rfl:k=K:=by rw [m.out,x,J.out]
         clear x A l f j t hr S i P x2 E
         go_wp2_with fail
         go_ret2
         exact⟨rfl,0,rfl⟩
        ·have HK2:=hideS x;clear x;have H:g<4294967296:=by omega
         clear l f j t i
         go_wp2_with fail
         go_round
         case rel=>exact⟨q',N,k,g,rfl,rfl,m,V,A,by omega,HK2⟩
         case measure=>have:=D.out;have:=m.out;simp [intOf];omega
       ·have W:=dq (q:=q) (y0:=y0) E L;obtain⟨p,O⟩:∃ p,q*y0=p:=⟨_,rfl⟩;rw [O] at W x5
        obtain⟨I,n⟩:∃ I:Int,I=(p:Int):=⟨_,rfl⟩;rw [<- n,<- j] at W
        have ab:G<4294967296:=by omega
        have dc:v<I:=by omega
        clear C F z o O n x5;rcases A with⟨A,x⟩| ⟨A,x⟩
        ·have H:4294967296<=g:=by omega
         obtain rfl:k=K:=by rw [m.out,x,J.out]
         clear x A l f j t hr S i P x2 E
         go_wp2_with fail
         go_ret2
         exact⟨rfl,0,rfl⟩
        ·have HK2:=hideS x;clear x;have H:g<4294967296:=by omega
         clear l f j t i
         go_wp2_with fail
         go_round
         case rel=>exact⟨q',N,k,g,rfl,rfl,m,V,A,by omega,HK2⟩
         case measure=>have:=D.out;have:=m.out;simp [intOf];omega
    ·have HK2:=hideS x;clear x;have H:g<4294967296:=by omega
     clear l f j t i
     go_wp2_with fail
     go_round
     case rel=>exact⟨q',N,k,g,rfl,rfl,m,V,A,by omega,HK2⟩
     case measure=>have:=D.out;have:=m.out;simp [intOf];omega
   ·have W:=dq (q:=q) (y0:=y0) E L;obtain⟨p,O⟩:∃ p,q*y0=p:=⟨_,rfl⟩;rw [O] at W x5
    obtain⟨I,n⟩:∃ I:Int,I=(p:Int):=⟨_,rfl⟩;rw [<- n,<- j] at W
    have ab:G<4294967296:=by omega
    have dc:v<I:=by omega
    clear C F z o O n x5;rcases A with⟨A,x⟩| ⟨A,x⟩
    ·have H:4294967296<=g:=by omega
     obtain rfl:k=am:=by rw [m.out,x,bx.out]
     clear x A l f j t hr S i P x2 E
     go_wp2_with fail
     go_loop [16,18] (fun sr sq=>∃ (q r:Nat) (G T:Int),sq=.int .u64 G/\sr=.int .u64 T/\Hid (G=(q:Int))/\Hid (T=(r:Int))/\r<4294967296/\q<=4294967297/\Hid (KL 4294967296 y1 y0 R1 u0 q r)) (fun _ sq=>(intOf sq).toNat)
     case atStart=>exact⟨qb,al,ba,bb,rfl,rfl,cq,ct,br,cr,cv⟩
     case round=>
      obtain⟨q,r,G,T,rfl,rfl,D,ad,hr,S,M⟩:=hrel;have HC:=hideS (cx.out q r M.out S);clear M;have j:=D.out;have t:=ad.out;obtain⟨N,l⟩:∃ N,r+y1=N:=⟨_,rfl⟩;obtain⟨rb,C⟩:∃ rb,4294967296*r=rb:=⟨_,rfl⟩;obtain⟨rs,F⟩:∃ rs,rb+u0=rs:=⟨_,rfl⟩;obtain⟨B,z⟩:∃ B:Int,B=(rb:Int):=⟨_,rfl⟩;obtain⟨v,o⟩:∃ v:Int,v=(rs:Int):=⟨_,rfl⟩;obtain⟨g,f⟩:∃ g:Int,g=(N:Int):=⟨_,rfl⟩;have V:=hideS f;have r1:IntKind.u64.wrap (4294967296*T)=B:=by rw [IntKind.wrap_u64];omega
      have r2:IntKind.u64.wrap (B+(u0:Int))=v:=by rw [IntKind.wrap_u64];omega
      have m2:IntKind.u64.wrap (T+(y1:Int))=g:=by rw [IntKind.wrap_u64];omega
      rw [l,C,F] at HC
      rcases HC.out with⟨P,x2,E⟩| ⟨q',P,x2,E,A⟩
      ·have W:=dq (q:=q) (y0:=y0) P L;obtain⟨p,O⟩:∃ p,q*y0=p:=⟨_,rfl⟩;rw [O] at W x2
       obtain⟨I,n⟩:∃ I:Int,I=(p:Int):=⟨_,rfl⟩;rw [<- n,<- j] at W
       have cs:G<4294967296:=by omega
       have cy:¬ (v<I):=by omega
       obtain rfl:G=K:=by rw [D.out,E,J.out]
       clear HC l C F z o f n O P x2 E j t hr S
       go_wp2_with fail
       go_ret2
       exact⟨rfl,0,rfl⟩
      ·obtain⟨k,i⟩:∃ k:Int,k=(q':Int):=⟨_,rfl⟩;have m:=hideS i;have m1:IntKind.u64.wrap (G - 1)=k:=by rw [IntKind.wrap_u64];omega
       clear HC;rcases E with E | ⟨E,x5⟩
       ·have ab:4294967296<=G:=by omega
        clear C F z o;rcases A with⟨A,x⟩| ⟨A,x⟩
        ·have H:4294967296<=g:=by omega
         obtain rfl:k=K:=by rw [m.out,x,J.out]
         clear x A l f j t hr S i P x2 E
         go_wp2_with fail
         go_ret2
         exact⟨rfl,0,rfl⟩
        ·have HK2:=hideS x;clear x;have H:g<4294967296:=by omega
         clear l f j t i
         go_wp2_with fail
         go_round
         case rel=>exact⟨q',N,k,g,rfl,rfl,m,V,A,by omega,HK2⟩
         case measure=>have:=D.out;have:=m.out;simp [intOf];omega
       ·have W:=dq (q:=q) (y0:=y0) E L;obtain⟨p,O⟩:∃ p,q*y0=p:=⟨_,rfl⟩;rw [O] at W x5
        obtain⟨I,n⟩:∃ I:Int,I=(p:Int):=⟨_,rfl⟩;rw [<- n,<- j] at W
        have ab:G<4294967296:=by omega
        have dc:v<I:=by omega
        clear C F z o O n x5;rcases A with⟨A,x⟩| ⟨A,x⟩
        ·have H:4294967296<=g:=by omega
         obtain rfl:k=K:=by rw [m.out,x,J.out]
         clear x A l f j t hr S i P x2 E
         go_wp2_with fail
         go_ret2
         exact⟨rfl,0,rfl⟩
        ·have HK2:=hideS x;clear x;have H:g<4294967296:=by omega
         clear l f j t i
         go_wp2_with fail
         go_round
         case rel=>exact⟨q',N,k,g,rfl,rfl,m,V,A,by omega,HK2⟩
         case measure=>have:=D.out;have:=m.out;simp [intOf];omega
    ·have HK2:=hideS x;clear x;have H:g<4294967296:=by omega
     clear l f j t i
     go_wp2_with fail
     go_round
     case rel=>exact⟨q',N,k,g,rfl,rfl,m,V,A,by omega,HK2⟩
     case measure=>have:=D.out;have:=m.out;simp [intOf];omega
theorem tW {M d:Nat} (e:0<d) (b:d<18446744073709551616):OE M d:=by
 intro j y w f;have a:y<18446744073709551616:=by rw [f];exact Nat.mod_lt _ (by decide)
 by_cases c:M / 2^(64*(j+1)) % d=0
 ·rw [c,Nat.zero_mul,Nat.zero_add];exact Bo y d w e a
 ·exact FU _ y d w c (Nat.mod_lt _ e) b a
end Go.Proofs.YtfdddijdjpijbaaGreat.A
