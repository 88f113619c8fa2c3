/-  -/
import Derived.Test.YtfdddijdjpijbaaGreatHal
import Derived.BigQuiet
set_option maxHeartbeats 3200000
namespace Go.Proofs.YtfdddijdjpijbaaGreat
open Go.RowKit
theorem NT {mon day nth wd off fr to mv y:Int} (a:okD y mon day) (b:fr<=y/\y<=to):cB ⟨1,mon,day,nth,wd,off,fr,to,mv⟩ y=some (aW y mon day):=by
 unfold cB oa;dsimp only;rw [if_neg (by decide),if_neg (by omega),if_pos rfl,if_pos a]
theorem NU {mon day nth wd off fr to mv y:Int} (a:¬ okD y mon day):cB ⟨1,mon,day,nth,wd,off,fr,to,mv⟩ y=none:=by
 unfold cB oa;dsimp only;rw [if_neg (by decide),if_pos rfl,if_neg a]
 split<;>rfl
theorem wP {kind mon day nth wd off fr to mv y:Int} (a:kind≠4) (b:¬ (fr<=y/\y<=to)):cB ⟨kind,mon,day,nth,wd,off,fr,to,mv⟩ y=none:=by
 unfold cB oa;dsimp only;rw [if_neg a,if_pos (by omega)]
theorem NV {mon day nth wd off fr to mv y:Int} (a:fr<=y/\y<=to):cB ⟨2,mon,day,nth,wd,off,fr,to,mv⟩ y=some (Gr y mon wd nth):=by
 unfold cB oa;dsimp only;rw [if_neg (by decide),if_neg (by omega),if_neg (by decide),if_pos rfl]
theorem NW {mon day nth wd off fr to mv y:Int} (a:fr<=y/\y<=to):cB ⟨3,mon,day,nth,wd,off,fr,to,mv⟩ y=some (jE y+off):=by
 unfold cB oa;dsimp only;rw [if_neg (by decide),if_neg (by omega),if_neg (by decide),if_neg (by decide),if_pos rfl]
theorem NX {mon day nth wd off fr to mv y m d:Int} (h:IsD day y m d):cB ⟨4,mon,day,nth,wd,off,fr,to,mv⟩ y=some day:=by
 unfold cB;dsimp only;rw [if_pos rfl,if_pos (uk h)]
theorem NY {mon day nth wd off fr to mv y y0 m d:Int} (h:IsD day y0 m d) (a:y0≠y):cB ⟨4,mon,day,nth,wd,off,fr,to,mv⟩ y=none:=by
 unfold cB;dsimp only;rw [if_pos rfl,if_neg (by rw [uk h];exact a)]
theorem NZ (mon day nth wd off fr to mv y:Int) (w:World) :
  Calls Tryz.prog 252 #[.agg #[.int .i64 1,.int .i64 mon,.int .i64 day,.int .i64 nth,.int .i64 wd,.int .i64 off,.int .i64 fr,.int .i64 to,.int .i64 mv],.int .i64 y] w fun e k=>∃ N,e=.returned (.tuple #[.int .i64 N,.bool (cB ⟨1,mon,day,nth,wd,off,fr,to,mv⟩ y).isSome])/\(∀ g,cB ⟨1,mon,day,nth,wd,off,fr,to,mv⟩ y=some g->N=g)/\Below w.heap.size w k:=by
 have a:=hideS (fun o=>(Below.refl w.heap.size w).alloc (Nat.le_refl _) o)
 by_cases b:okD y mon day
 ·have j:=hideS (fun f=>nv y mon day f b)
  have h:=hideS (fun f=>aJ y fr to f)
  by_cases c:fr<=y/\y<=to
  ·rw [NT b c];rw [decide_eq_true c] at h
   generalize aW y mon day=D at *
   clear b c
   go_enter Tryz.func252,Tryz.ntmps252
   go_wp2_with (first | (go_at_call 187;refine (j.out _).mono ?_;rintro e i ⟨rfl,rfl⟩) | (go_at_call 209;refine (h.out _).mono ?_;rintro e i ⟨rfl,rfl⟩))
   go_ret2
   exact⟨_,rfl,fun g d=>Option.some.inj d,a.out _⟩
  ·rw [wP (by decide) c]
   rw [decide_eq_false c] at h
   generalize aW y mon day=D at *
   clear b c
   go_enter Tryz.func252,Tryz.ntmps252
   go_wp2_with (first | (go_at_call 187;refine (j.out _).mono ?_;rintro e i ⟨rfl,rfl⟩) | (go_at_call 209;refine (h.out _).mono ?_;rintro e i ⟨rfl,rfl⟩))
   go_ret2
   exact⟨_,rfl,fun g d=>(by cases d),a.out _⟩
 ·have j:=hideS (fun f=>NM y mon day f b)
  rw [NU b];clear b
  go_enter Tryz.func252,Tryz.ntmps252
  go_wp2_with (go_at_call 187;refine (j.out _).mono ?_;rintro e i ⟨rfl,rfl⟩)
  go_ret2
  exact⟨_,rfl,fun g d=>(by cases d),a.out _⟩
theorem Lq {f L wd k:Int} (_d0:0<=wd) (_d1:wd<=6) (d:1<=k) (g:k<=5) (h:28<=L) (_f0:0<=f) :
  (if k=5/\f+L<=f+(wd - f) % 7+7*(k - 1) then f+(wd - f) % 7+7*(k - 1) - 7 else f+(wd - f) % 7+7*(k - 1))=if f+L<=f+(wd+7 - f % 7) % 7+7*(k - 1) then f+(wd+7 - f % 7) % 7+7*(k - 1) - 7 else f+(wd+7 - f % 7) % 7+7*(k - 1):=by
 have e:(wd+7 - f % 7) % 7=(wd - f) % 7:=by omega
 rw [e]
 by_cases a:k=5
 ·by_cases b:f+L<=f+(wd - f) % 7+7*(k - 1)
  ·rw [if_pos ⟨a,b⟩,if_pos b]
  ·rw [if_neg (fun c=>b c.2),if_neg b]
 ·rw [if_neg (fun c=>a c.1),if_neg (by omega)]
theorem Oa (mon day nth wd off fr to mv y:Int) (w:World) (C:1<=mon) (u:mon<=12) (v:0<=wd) (A:wd<=6) (s:1<=nth) (D:nth<=5) (M:1900<=fr) (G:to<=2199) :
  Calls Tryz.prog 255 #[.agg #[.int .i64 2,.int .i64 mon,.int .i64 day,.int .i64 nth,.int .i64 wd,.int .i64 off,.int .i64 fr,.int .i64 to,.int .i64 mv],.int .i64 y] w fun e z=>∃ N,e=.returned (.tuple #[.int .i64 N,.bool (cB ⟨2,mon,day,nth,wd,off,fr,to,mv⟩ y).isSome])/\(∀ g,cB ⟨2,mon,day,nth,wd,off,fr,to,mv⟩ y=some g->N=g)/\Below w.heap.size w z:=by
 have h:=hideS (fun o=>(Below.refl w.heap.size w).alloc (Nat.le_refl _) o)
 have m:=hideS (fun d=>aJ y fr to d)
 by_cases l:fr<=y/\y<=to
 ·rw [NV l];rw [decide_eq_true l] at m
  have b:ymB y mon:=⟨by omega,by omega,C,u⟩
  have k:=hideS (fun d=>fY y mon d b)
  have r:=hideS (fun d=>nv y mon 1 d (nw b 1 (by omega) (by omega)))
  obtain⟨x,K⟩:=(nu (nw b 1 (by omega) (by omega))).range
  have E:=jA y mon;have I:=jB y mon;have c:Gr y mon wd nth=if aW y mon 1+cK y mon<=aW y mon 1+(wd+7 - aW y mon 1 % 7) % 7+7*(nth - 1) then aW y mon 1+(wd+7 - aW y mon 1 % 7) % 7+7*(nth - 1) - 7 else aW y mon 1+(wd+7 - aW y mon 1 % 7) % 7+7*(nth - 1):=Lq v A s D E x
  obtain⟨R,p⟩:∃ R,Gr y mon wd nth=R:=⟨_,rfl⟩;rw [p] at c ⊢
  clear p b l;generalize aW y mon 1=f at *
  generalize cK y mon=L at *
  obtain⟨a,B⟩:∃ a,f % 7=a:=⟨_,rfl⟩;rw [B] at c
  obtain⟨t,F⟩:∃ t,(wd+7 - a) % 7=t:=⟨_,rfl⟩;rw [F] at c
  have J:0<=t:=by omega
  have H:t<=6:=by omega
  by_cases n:f+L<=f+t+7*(nth - 1)
  ·rw [if_pos n] at c
   have q:=hideS c;clear c
   go_enter Tryz.func255,Tryz.ntmps255
   go_wp2_with (first | (go_at_call 205;refine (k.out _).mono ?_;rintro e i ⟨rfl,rfl⟩) | (go_at_call 187;refine (r.out _).mono ?_;rintro e i ⟨rfl,rfl⟩) | (go_at_call 209;refine (m.out _).mono ?_;rintro e i ⟨rfl,rfl⟩))
   go_ret2
   exact⟨_,rfl,fun g j=>(by rw [<- Option.some.inj j,q.out]),h.out _⟩
  ·rw [if_neg n] at c
   have q:=hideS c;clear c
   go_enter Tryz.func255,Tryz.ntmps255
   go_wp2_with (first | (go_at_call 205;refine (k.out _).mono ?_;rintro e i ⟨rfl,rfl⟩) | (go_at_call 187;refine (r.out _).mono ?_;rintro e i ⟨rfl,rfl⟩) | (go_at_call 209;refine (m.out _).mono ?_;rintro e i ⟨rfl,rfl⟩))
   go_ret2
   exact⟨_,rfl,fun g j=>(by rw [<- Option.some.inj j,q.out]),h.out _⟩
 ·rw [wP (by decide) l]
  rw [decide_eq_false l] at m
  clear l
  by_cases b:ymB y mon
  ·have k:=hideS (fun d=>fY y mon d b)
   generalize cK y mon=L at *
   clear b
   go_enter Tryz.func255,Tryz.ntmps255
   go_wp2_with (first | (go_at_call 205;refine (k.out _).mono ?_;rintro e i ⟨rfl,rfl⟩) | (go_at_call 209;refine (m.out _).mono ?_;rintro e i ⟨rfl,rfl⟩))
   go_ret2
   exact⟨_,rfl,fun g j=>(by cases j),h.out _⟩
  ·have k:=hideS (fun d=>jC y mon d b)
   clear b
   go_enter Tryz.func255,Tryz.ntmps255
   go_wp2_with (go_at_call 205;refine (k.out _).mono ?_;rintro e i ⟨rfl,rfl⟩)
   go_ret2
   exact⟨_,rfl,fun g j=>(by cases j),h.out _⟩
theorem Ob (mon day nth wd off fr to mv y:Int) (w:World) (i:0<=day) (p:day<=109572) :
  Calls Tryz.prog 261 #[.agg #[.int .i64 4,.int .i64 mon,.int .i64 day,.int .i64 nth,.int .i64 wd,.int .i64 off,.int .i64 fr,.int .i64 to,.int .i64 mv],.int .i64 y] w fun e m=>∃ N,e=.returned (.tuple #[.int .i64 N,.bool (cB ⟨4,mon,day,nth,wd,off,fr,to,mv⟩ y).isSome])/\(∀ g,cB ⟨4,mon,day,nth,wd,off,fr,to,mv⟩ y=some g->N=g)/\Below w.heap.size w m:=by
 have b:=hideS (fun o=>(Below.refl w.heap.size w).alloc (Nat.le_refl _) o)
 obtain⟨f,q,j,a⟩:=iQ i p;have h:=hideS (fun n=>ie day f q j n a)
 by_cases c:f=y
 ·subst c;rw [NX a];clear a
  go_enter Tryz.func261,Tryz.ntmps261
  go_wp2_with (go_at_call 170;refine (h.out _).mono ?_;rintro e k ⟨rfl,rfl⟩)
  go_ret2
  exact⟨_,rfl,fun g d=>Option.some.inj d,b.out _⟩
 ·rw [NY a c];have l:(f==y)=false:=beq_eq_false_iff_ne.2 c;clear a c
  go_enter Tryz.func261,Tryz.ntmps261
  go_wp2_with (go_at_call 170;refine (h.out _).mono ?_;rintro e k ⟨rfl,rfl⟩)
  go_ret2
  exact⟨_,rfl,fun g d=>(by cases d),b.out _⟩
theorem Oc (mon day nth wd off fr to mv y:Int) (w:World) (C: -100<=off) (u:off<=100) (B:1900<=fr) (t:to<=2199) :
  Calls Tryz.prog 257 #[.agg #[.int .i64 3,.int .i64 mon,.int .i64 day,.int .i64 nth,.int .i64 wd,.int .i64 off,.int .i64 fr,.int .i64 to,.int .i64 mv],.int .i64 y] w fun e r=>∃ N,e=.returned (.tuple #[.int .i64 N,.bool (cB ⟨3,mon,day,nth,wd,off,fr,to,mv⟩ y).isSome])/\(∀ g,cB ⟨3,mon,day,nth,wd,off,fr,to,mv⟩ y=some g->N=g)/\Below w.heap.size w r:=by
 have k:=hideS (fun o=>(Below.refl w.heap.size w).alloc (Nat.le_refl _) o)
 have m:=hideS (fun j=>aJ y fr to j)
 obtain⟨f,c⟩:∃ f,w.alloc (.cells #[.int .i64 3,.int .i64 mon,.int .i64 day,.int .i64 nth,.int .i64 wd,.int .i64 off,.int .i64 fr,.int .i64 to,.int .i64 mv] 242)=f:=⟨_,rfl⟩;have s:f.cell? ⟨w.heap.size,5,none⟩=some (.int .i64 off):=by rw [<- c];simp
 have A:f.cell? ⟨w.heap.size,6,none⟩=some (.int .i64 fr):=by rw [<- c];simp
 have x:f.cell? ⟨w.heap.size,7,none⟩=some (.int .i64 to):=by rw [<- c];simp
 have d:Hid (Below w.heap.size w f):=by rw [<- c];exact k.out _
 have p:=hideS c;clear c k
 by_cases b:1900<=y/\y<=2199
 ·have n:=hideS (fun j=>Gs y j b.1 b.2)
  obtain⟨v,z⟩:0<=jE y/\jE y<=109572:=(nu (uh b.1 b.2).ok).range
  by_cases h:fr<=y/\y<=to
  ·rw [NW h];rw [decide_eq_true h] at m
   generalize jE y=D at *
   have l:IntKind.i64.wrap (D+off)=D+off:=by rw [IntKind.wrap_i64];omega
   clear h b
   go_enter Tryz.func257,Tryz.ntmps257
   go_wp2_with (go_at_call 259;refine (n.out _).mono ?_;rintro e q ⟨rfl,rfl⟩)
   rw [p.out]
   go_quiet ((go_at_call 209;exact Calls.quiet_of_same (m.out _)))
   go_wp2_with fail
   go_ret2
   exact⟨_,rfl,fun g i=>Option.some.inj i,below_drewN' d.out⟩
  ·rw [wP (by decide) h]
   rw [decide_eq_false h] at m
   generalize jE y=D at *
   have l:IntKind.i64.wrap (D+off)=D+off:=by rw [IntKind.wrap_i64];omega
   clear h b
   go_enter Tryz.func257,Tryz.ntmps257
   go_wp2_with (go_at_call 259;refine (n.out _).mono ?_;rintro e q ⟨rfl,rfl⟩)
   rw [p.out]
   go_quiet ((go_at_call 209;exact Calls.quiet_of_same (m.out _)))
   go_wp2_with fail
   go_ret2
   exact⟨_,rfl,fun g i=>(by cases i),below_drewN' d.out⟩
 ·have n:=hideS (fun j=>Ci y j b)
  rw [wP (by decide) (fun a=>b (by omega))]
  have l:IntKind.i64.wrap (0+off)=0+off:=by rw [IntKind.wrap_i64];omega
  clear b
  go_enter Tryz.func257,Tryz.ntmps257
  go_wp2_with (go_at_call 259;refine (n.out _).mono ?_;rintro e q ⟨rfl,rfl⟩)
  rw [p.out]
  go_quiet (fail)
  go_wp2_with fail
  go_ret2
  exact⟨_,rfl,fun g i=>(by cases i),below_drewN' d.out⟩
def CBoxP (w:World) (W:Int) (v:Value) (wr:World):Prop:=Below (w.heap.size+1) (w.alloc (.cells #[.int .i64 W,v] 96)) wr
theorem CBoxP.cells {w w1:World} {W:Int} {v:Value} (a:CBoxP w W v w1) :
  w1.cell? ⟨w.heap.size,0,none⟩=some (.int .i64 W)/\w1.cell? ⟨w.heap.size,1,none⟩=some v:=by
 refine⟨?_,?_⟩
 ·rw [Below.cell a (p:=⟨w.heap.size,0,none⟩) (by simp)];simp
 ·rw [Below.cell a (p:=⟨w.heap.size,1,none⟩) (by simp)];simp
theorem CBoxP.step {w wr a:World} {W:Int} {v:Value} (h:CBoxP w W v wr) (b:Below wr.heap.size wr a):CBoxP w W v a:=
 Below.trans h (b.mono (by have:=Below.size h;simp at this;omega))
theorem CBoxP.below {w wr:World} {W:Int} {v:Value} (h:CBoxP w W v wr):Below w.heap.size w wr:=
 ((Below.refl w.heap.size w).alloc (Nat.le_refl _) _).trans (Below.mono h (by omega))
theorem CBoxP.first {w a:World} {W:Int} {v:Value} (b:Below (w.alloc (.cells #[.int .i64 W,v] 96)).heap.size (w.alloc (.cells #[.int .i64 W,v] 96)) a):CBoxP w W v a:=
 b.mono (by simp)
theorem iS {wr a b:World} {o:Obj} (c:Below (wr.alloc o).heap.size (wr.alloc o) a) (d:Below a.heap.size a b):Below wr.heap.size wr b:=
 (((Below.refl wr.heap.size wr).alloc (Nat.le_refl _) o).trans (c.mono (by simp))).trans (d.mono (by have:=c.size;simp at this;omega))
theorem rD (W:Int) (p:Option Addr) (b off c:Nat) (rs:List Rul) (K:Nat) (A B:Int) (w:World) (Z:0<=W/\W<=126) (hs:RSrc w p b off rs) (hl:rs.length<=64) (hK:K<=rs.length) (V:∀ j<K,cF (rs.getD j jF)=true)
  (Y:(K=rs.length/\A=0/\B=0)\/(K<rs.length/\cF (rs.getD K jF)=false/\A=60/\B=K)) :
  Calls Tryz.prog 193 #[.agg #[.int .i64 W,.slice p rs.length c]] w fun e F=>e=.returned (.tuple #[.int .i64 A,.int .i64 B])/\Below w.heap.size w F:=by
 obtain⟨Z,w1⟩:=Z;have ab:¬ 127<=W:=by omega
 have U:=hideS hs;have HF:=hideS V;have S:=hideS Y;clear hs V Y;obtain⟨N,O⟩:∃ N,rs.length=N:=⟨_,rfl⟩;have HN:=hideS O;rw [O] at hl hK ⊢
 rw [O] at S
 clear O
 go_enter Tryz.func193,Tryz.ntmps193
 go_wp2_with fail
 have T:Hid (CBoxP w W (.slice p N c) (w.alloc (.cells #[.int .i64 W,.slice p N c] 96))):=Below.refl _ _
 go_loopw [21] (fun i wr=>∃ (k:Nat),k<=K/\i=.int .i64 k/\Hid (CBoxP w W (.slice p N c) wr)) (fun i _=>N - (intOf i).toNat)
 case atStart=>exact⟨0,by omega,rfl,T⟩
 case round=>
  obtain⟨k,hk,rfl,E⟩:=hrel
  by_cases Q:k<N
  ·have X:k<rs.length:=by rw [HN.out];exact Q
   obtain rfl:=U.out.at_ (by omega)
   have M:=(U.out.cell k X).below E.out.below (U.out.lt (by omega))
   have J:=HF.out k;have I:k<K\/(cF (rs.getD k jF)=false/\A=60/\B=k):=by
    by_cases P:k<K
    ·exact Or.inl P
    ·obtain rfl:k=K:=by omega
     rcases S.out with⟨a,_⟩| ⟨_,a⟩
     ·omega
     ·exact Or.inr a
   generalize rs.getD k jF=r at M J I
   clear X;obtain⟨g0,g1,g2,g3,g4,g5,g6,g7,g8⟩:=M;have L:∀ R,cF r=R->(k<K/\R=true)\/(R=false/\A=60/\B=k):=fun R q=>by
    rw [<- q]
    by_cases a:k<K
    ·exact Or.inl ⟨a,J a⟩
    ·rcases I with b | b
     ·exact absurd b a
     ·exact Or.inr b
   clear J I;have h:=hideS L;clear L;obtain⟨s,n,day,m,wd,g,y,z,C⟩:=r;dsimp only at *
   by_cases t:s=1\/s=2\/s=3\/s=4
   ·rcases t with rfl | rfl | rfl | rfl
    ·have x:=hideS (fun l=>(bE 1 n day m wd g y z C l (by omega):Calls Tryz.prog 208 _ l fun e F=>e=.returned (.iface 240 _)/\Below l.heap.size l F))
     have o:=hideS (fun l=>Lo n day m wd g y z C l)
     obtain⟨R,q⟩:∃ R,cF ⟨1,n,day,m,wd,g,y,z,C⟩=R:=⟨_,rfl⟩;have v:=h.out R q;rw [q] at o
     clear q h;rcases v with⟨a,rfl⟩| ⟨rfl,a⟩
     ·go_wp2_with (first | (go_at_call 208;refine (x.out _).mono ?_;rintro e G ⟨rfl,f⟩) | (go_at_call 253;refine (o.out _).mono ?_;rintro e H ⟨rfl,d⟩))
      have u:=hideS (E.out.step (iS f d));clear f d
      go_roundw
      case rel=>exact⟨k+1,by omega,by go_num,u⟩
      case measure=>simp [intOf];omega
     ·have D:=hideS a;clear a
      go_wp2_with (first | (go_at_call 208;refine (x.out _).mono ?_;rintro e G ⟨rfl,f⟩) | (go_at_call 253;refine (o.out _).mono ?_;rintro e H ⟨rfl,d⟩))
      go_ret2
      obtain⟨rfl,rfl⟩:=D.out;exact⟨rfl,(E.out.step (iS f d)).below⟩
    ·have x:=hideS (fun l=>(bE 2 n day m wd g y z C l (by omega):Calls Tryz.prog 208 _ l fun e F=>e=.returned (.iface 241 _)/\Below l.heap.size l F))
     have o:=hideS (fun l=>Ln n day m wd g y z C l)
     obtain⟨R,q⟩:∃ R,cF ⟨2,n,day,m,wd,g,y,z,C⟩=R:=⟨_,rfl⟩;have v:=h.out R q;rw [q] at o
     clear q h;rcases v with⟨a,rfl⟩| ⟨rfl,a⟩
     ·go_wp2_with (first | (go_at_call 208;refine (x.out _).mono ?_;rintro e G ⟨rfl,f⟩) | (go_at_call 256;refine (o.out _).mono ?_;rintro e H ⟨rfl,d⟩))
      have u:=hideS (E.out.step (iS f d));clear f d
      go_roundw
      case rel=>exact⟨k+1,by omega,by go_num,u⟩
      case measure=>simp [intOf];omega
     ·have D:=hideS a;clear a
      go_wp2_with (first | (go_at_call 208;refine (x.out _).mono ?_;rintro e G ⟨rfl,f⟩) | (go_at_call 256;refine (o.out _).mono ?_;rintro e H ⟨rfl,d⟩))
      go_ret2
      obtain⟨rfl,rfl⟩:=D.out;exact⟨rfl,(E.out.step (iS f d)).below⟩
    ·have x:=hideS (fun l=>(bE 3 n day m wd g y z C l (by omega):Calls Tryz.prog 208 _ l fun e F=>e=.returned (.iface 242 _)/\Below l.heap.size l F))
     have o:=hideS (fun l=>Lm n day m wd g y z C l)
     obtain⟨R,q⟩:∃ R,cF ⟨3,n,day,m,wd,g,y,z,C⟩=R:=⟨_,rfl⟩;have v:=h.out R q;rw [q] at o
     clear q h;rcases v with⟨a,rfl⟩| ⟨rfl,a⟩
     ·go_wp2_with (first | (go_at_call 208;refine (x.out _).mono ?_;rintro e G ⟨rfl,f⟩) | (go_at_call 258;refine (o.out _).mono ?_;rintro e H ⟨rfl,d⟩))
      have u:=hideS (E.out.step (iS f d));clear f d
      go_roundw
      case rel=>exact⟨k+1,by omega,by go_num,u⟩
      case measure=>simp [intOf];omega
     ·have D:=hideS a;clear a
      go_wp2_with (first | (go_at_call 208;refine (x.out _).mono ?_;rintro e G ⟨rfl,f⟩) | (go_at_call 258;refine (o.out _).mono ?_;rintro e H ⟨rfl,d⟩))
      go_ret2
      obtain⟨rfl,rfl⟩:=D.out;exact⟨rfl,(E.out.step (iS f d)).below⟩
    ·have x:=hideS (fun l=>(bE 4 n day m wd g y z C l (by omega):Calls Tryz.prog 208 _ l fun e F=>e=.returned (.iface 243 _)/\Below l.heap.size l F))
     have o:=hideS (fun l=>Ll n day m wd g y z C l)
     obtain⟨R,q⟩:∃ R,cF ⟨4,n,day,m,wd,g,y,z,C⟩=R:=⟨_,rfl⟩;have v:=h.out R q;rw [q] at o
     clear q h;rcases v with⟨a,rfl⟩| ⟨rfl,a⟩
     ·go_wp2_with (first | (go_at_call 208;refine (x.out _).mono ?_;rintro e G ⟨rfl,f⟩) | (go_at_call 262;refine (o.out _).mono ?_;rintro e H ⟨rfl,d⟩))
      have u:=hideS (E.out.step (iS f d));clear f d
      go_roundw
      case rel=>exact⟨k+1,by omega,by go_num,u⟩
      case measure=>simp [intOf];omega
     ·have D:=hideS a;clear a
      go_wp2_with (first | (go_at_call 208;refine (x.out _).mono ?_;rintro e G ⟨rfl,f⟩) | (go_at_call 262;refine (o.out _).mono ?_;rintro e H ⟨rfl,d⟩))
      go_ret2
      obtain⟨rfl,rfl⟩:=D.out;exact⟨rfl,(E.out.step (iS f d)).below⟩
   ·have x:=hideS (fun l=>rC s n day m wd g y z C l t)
    have o:=hideS (fun l=>Lp l)
    have D:Hid (A=60/\B=k):=by
     rcases h.out _ (Qi (fun a=>t (by omega)) (fun a=>t (by omega)) (fun a=>t (by omega)) (fun a=>t (by omega))) with⟨_,a⟩| ⟨_,a⟩
     ·exact Bool.noConfusion a
     ·exact a
    clear h t
    go_wp2_with (first | (go_at_call 208;refine (x.out _).mono ?_;rintro e G ⟨rfl,f⟩) | (go_at_call 264;refine (o.out _).mono ?_;rintro e H ⟨rfl,d⟩))
    go_ret2
    obtain⟨rfl,rfl⟩:=D.out;exact⟨rfl,(E.out.step (iS f d)).below⟩
  ·have D:Hid (A=0/\B=0):=by
    rcases S.out with⟨_,a⟩| ⟨a,_⟩
    ·exact a
    ·omega
   have ad:¬ (k:Int)<N:=by omega
   go_wp2_with fail
   go_ret2
   obtain⟨rfl,rfl⟩:=D.out;exact⟨rfl,E.out.below⟩
theorem uu (W:Int) (p:Option Addr) (b off c:Nat) (rs:List Rul) (A B:Int) (w:World) (h:ChkR W rs A B) (d:RSrc w p b off rs) (s:rs.length<=9223372036854775807) :
  Calls Tryz.prog 193 #[.agg #[.int .i64 W,.slice p rs.length c]] w fun e o=>e=.returned (.tuple #[.int .i64 A,.int .i64 B])/\Below w.heap.size w o:=by
 cases h with
 | long h=>
  generalize rs.length=N at *
  have m:(64:Int)<N:=by omega
  clear d h
  go_enter Tryz.func193,Tryz.ntmps193
  go_wp2_with fail
  go_ret2
  exact⟨rfl,(Below.refl w.heap.size w).alloc (Nat.le_refl _) _⟩
 | week h f=>
  generalize rs.length=N at *
  have m:¬ (64:Int)<N:=by omega
  clear d h;rcases (show W<0\/(¬ W<0/\127<=W) by omega) with a | ⟨a,r⟩
  all_goals
   clear f
   go_enter Tryz.func193,Tryz.ntmps193
   go_wp2_with fail
   go_ret2
   exact⟨rfl,(Below.refl w.heap.size w).alloc (Nat.le_refl _) _⟩
 | rule k l f i n q=>exact rD W p b off c rs k 60 k w f d l (by omega) q (Or.inr ⟨i,n,rfl,rfl⟩)
 | ok h=>exact rD W p b off c rs rs.length 0 0 w ⟨h.w0,h.w1⟩ d h.len (Nat.le_refl _) (fun j g=>h.fit _ (ru g)) (Or.inl ⟨rfl,rfl,rfl⟩)
end Go.Proofs.YtfdddijdjpijbaaGreat
