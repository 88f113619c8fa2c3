/-  -/
import Derived.Test.YtfdddijdjpijbaaGreatHal
import Derived.BigQuiet
set_option maxHeartbeats 3200000
namespace Go.Proofs.YtfdddijdjpijbaaGreat
open Go.RowKit
theorem NT {mon day nth wd off fr to mv y:Int} (a:okD y mon day) (b:fr<=y/\y<=to):cB ⟨1,mon,day,nth,wd,off,fr,to,mv⟩ y=some (aW y mon day):=by
 unfold cB oa;dsimp only;rw [if_neg (by decide),if_neg (by omega),if_pos rfl,if_pos a]
theorem NU {mon day nth wd off fr to mv y:Int} (a:¬ okD y mon day):cB ⟨1,mon,day,nth,wd,off,fr,to,mv⟩ y=none:=by
 unfold cB oa;dsimp only;rw [if_neg (by decide),if_pos rfl,if_neg a]
 split<;>rfl
theorem wP {kind mon day nth wd off fr to mv y:Int} (a:kind≠4) (b:¬ (fr<=y/\y<=to)):cB ⟨kind,mon,day,nth,wd,off,fr,to,mv⟩ y=none:=by
 unfold cB oa;dsimp only;rw [if_neg a,if_pos (by omega)]
theorem NV {mon day nth wd off fr to mv y:Int} (a:fr<=y/\y<=to):cB ⟨2,mon,day,nth,wd,off,fr,to,mv⟩ y=some (Gr y mon wd nth):=by
 unfold cB oa;dsimp only;rw [if_neg (by decide),if_neg (by omega),if_neg (by decide),if_pos rfl]
theorem NW {mon day nth wd off fr to mv y:Int} (a:fr<=y/\y<=to):cB ⟨3,mon,day,nth,wd,off,fr,to,mv⟩ y=some (jE y+off):=by
 unfold cB oa;dsimp only;rw [if_neg (by decide),if_neg (by omega),if_neg (by decide),if_neg (by decide),if_pos rfl]
theorem NX {mon day nth wd off fr to mv y m d:Int} (h:IsD day y m d):cB ⟨4,mon,day,nth,wd,off,fr,to,mv⟩ y=some day:=by
 unfold cB;dsimp only;rw [if_pos rfl,if_pos (uk h)]
theorem NY {mon day nth wd off fr to mv y y0 m d:Int} (h:IsD day y0 m d) (a:y0≠y):cB ⟨4,mon,day,nth,wd,off,fr,to,mv⟩ y=none:=by
 unfold cB;dsimp only;rw [if_pos rfl,if_neg (by rw [uk h];exact a)]
theorem NZ (mon day nth wd off fr to mv y:Int) (w:World) :
  Calls Tryz.prog 252 #[.agg #[.int .i64 1,.int .i64 mon,.int .i64 day,.int .i64 nth,.int .i64 wd,.int .i64 off,.int .i64 fr,.int .i64 to,.int .i64 mv],.int .i64 y] w fun e k=>∃ N,e=.returned (.tuple #[.int .i64 N,.bool (cB ⟨1,mon,day,nth,wd,off,fr,to,mv⟩ y).isSome])/\(∀ g,cB ⟨1,mon,day,nth,wd,off,fr,to,mv⟩ y=some g->N=g)/\Below w.heap.size w k:=by
 have a:=hideS (fun o=>(Below.refl w.heap.size w).alloc (Nat.le_refl _) o)
 by_cases b:okD y mon day
 ·have h:=hideS (fun d=>nv y mon day d b)
  have j:=hideS (fun d=>aJ y fr to d)
  by_cases c:fr<=y/\y<=to
  ·rw [NT b c];rw [decide_eq_true c] at j
   generalize aW y mon day=D at *
   clear b c
   go_enter Tryz.func252,Tryz.ntmps252
   go_wp2_with (first | (go_at_call 187;refine (h.out _).mono ?_;rintro e i ⟨rfl,rfl⟩) | (go_at_call 209;refine (j.out _).mono ?_;rintro e i ⟨rfl,rfl⟩))
   go_ret2
   exact⟨_,rfl,fun g f=>Option.some.inj f,a.out _⟩
  ·rw [wP (by decide) c]
   rw [decide_eq_false c] at j
   generalize aW y mon day=D at *
   clear b c
   go_enter Tryz.func252,Tryz.ntmps252
   go_wp2_with (first | (go_at_call 187;refine (h.out _).mono ?_;rintro e i ⟨rfl,rfl⟩) | (go_at_call 209;refine (j.out _).mono ?_;rintro e i ⟨rfl,rfl⟩))
   go_ret2
   exact⟨_,rfl,fun g f=>(by cases f),a.out _⟩
 ·have h:=hideS (fun d=>NM y mon day d b)
  rw [NU b];clear b
  go_enter Tryz.func252,Tryz.ntmps252
  go_wp2_with (go_at_call 187;refine (h.out _).mono ?_;rintro e i ⟨rfl,rfl⟩)
  go_ret2
  exact⟨_,rfl,fun g f=>(by cases f),a.out _⟩
theorem Lq {f L wd k:Int} (h:0<=wd) (d:wd<=6) (j:1<=k) (l:k<=5) (i:28<=L) (g:0<=f) :
  (if k=5/\f+L<=f+(wd - f) % 7+7*(k - 1) then f+(wd - f) % 7+7*(k - 1) - 7 else f+(wd - f) % 7+7*(k - 1))=if f+L<=f+(wd+7 - f % 7) % 7+7*(k - 1) then f+(wd+7 - f % 7) % 7+7*(k - 1) - 7 else f+(wd+7 - f % 7) % 7+7*(k - 1):=by
 have e:(wd+7 - f % 7) % 7=(wd - f) % 7:=by omega
 rw [e]
 by_cases a:k=5
 ·by_cases b:f+L<=f+(wd - f) % 7+7*(k - 1)
  ·rw [if_pos ⟨a,b⟩,if_pos b]
  ·rw [if_neg (fun c=>b c.2),if_neg b]
 ·rw [if_neg (fun c=>a c.1),if_neg (by omega)]
theorem Oa (mon day nth wd off fr to mv y:Int) (w:World) (u:1<=mon) (s:mon<=12) (B:0<=wd) (v:wd<=6) (F:1<=nth) (D:nth<=5) (J:1900<=fr) (K:to<=2199) :
  Calls Tryz.prog 255 #[.agg #[.int .i64 2,.int .i64 mon,.int .i64 day,.int .i64 nth,.int .i64 wd,.int .i64 off,.int .i64 fr,.int .i64 to,.int .i64 mv],.int .i64 y] w fun e C=>∃ N,e=.returned (.tuple #[.int .i64 N,.bool (cB ⟨2,mon,day,nth,wd,off,fr,to,mv⟩ y).isSome])/\(∀ g,cB ⟨2,mon,day,nth,wd,off,fr,to,mv⟩ y=some g->N=g)/\Below w.heap.size w C:=by
 have d:=hideS (fun o=>(Below.refl w.heap.size w).alloc (Nat.le_refl _) o)
 have p:=hideS (fun c=>aJ y fr to c)
 by_cases k:fr<=y/\y<=to
 ·rw [NV k];rw [decide_eq_true k] at p
  have b:ymB y mon:=⟨by omega,by omega,u,s⟩
  have l:=hideS (fun c=>fY y mon c b)
  have r:=hideS (fun c=>nv y mon 1 c (nw b 1 (by omega) (by omega)))
  obtain⟨A,H⟩:=(nu (nw b 1 (by omega) (by omega))).range
  have x:=jA y mon;have G:=jB y mon;have h:Gr y mon wd nth=if aW y mon 1+cK y mon<=aW y mon 1+(wd+7 - aW y mon 1 % 7) % 7+7*(nth - 1) then aW y mon 1+(wd+7 - aW y mon 1 % 7) % 7+7*(nth - 1) - 7 else aW y mon 1+(wd+7 - aW y mon 1 % 7) % 7+7*(nth - 1):=Lq B v F D x A
  obtain⟨R,n⟩:∃ R,Gr y mon wd nth=R:=⟨_,rfl⟩;rw [n] at h ⊢
  clear n b k;generalize aW y mon 1=f at *
  generalize cK y mon=L at *
  obtain⟨a,E⟩:∃ a,f % 7=a:=⟨_,rfl⟩;rw [E] at h
  obtain⟨t,z⟩:∃ t,(wd+7 - a) % 7=t:=⟨_,rfl⟩;rw [z] at h
  have I:0<=t:=by omega
  have M:t<=6:=by omega
  by_cases m:f+L<=f+t+7*(nth - 1)
  ·rw [if_pos m] at h
   have q:=hideS h;clear h
   go_enter Tryz.func255,Tryz.ntmps255
   go_wp2_with (first | (go_at_call 205;refine (l.out _).mono ?_;rintro e i ⟨rfl,rfl⟩) | (go_at_call 187;refine (r.out _).mono ?_;rintro e i ⟨rfl,rfl⟩) | (go_at_call 209;refine (p.out _).mono ?_;rintro e i ⟨rfl,rfl⟩))
   go_ret2
   exact⟨_,rfl,fun g j=>(by rw [<- Option.some.inj j,q.out]),d.out _⟩
  ·rw [if_neg m] at h
   have q:=hideS h;clear h
   go_enter Tryz.func255,Tryz.ntmps255
   go_wp2_with (first | (go_at_call 205;refine (l.out _).mono ?_;rintro e i ⟨rfl,rfl⟩) | (go_at_call 187;refine (r.out _).mono ?_;rintro e i ⟨rfl,rfl⟩) | (go_at_call 209;refine (p.out _).mono ?_;rintro e i ⟨rfl,rfl⟩))
   go_ret2
   exact⟨_,rfl,fun g j=>(by rw [<- Option.some.inj j,q.out]),d.out _⟩
 ·rw [wP (by decide) k]
  rw [decide_eq_false k] at p
  clear k
  by_cases b:ymB y mon
  ·have l:=hideS (fun c=>fY y mon c b)
   generalize cK y mon=L at *
   clear b
   go_enter Tryz.func255,Tryz.ntmps255
   go_wp2_with (first | (go_at_call 205;refine (l.out _).mono ?_;rintro e i ⟨rfl,rfl⟩) | (go_at_call 209;refine (p.out _).mono ?_;rintro e i ⟨rfl,rfl⟩))
   go_ret2
   exact⟨_,rfl,fun g j=>(by cases j),d.out _⟩
  ·have l:=hideS (fun c=>jC y mon c b)
   clear b
   go_enter Tryz.func255,Tryz.ntmps255
   go_wp2_with (go_at_call 205;refine (l.out _).mono ?_;rintro e i ⟨rfl,rfl⟩)
   go_ret2
   exact⟨_,rfl,fun g j=>(by cases j),d.out _⟩
theorem Ob (mon day nth wd off fr to mv y:Int) (w:World) (m:0<=day) (j:day<=109572) :
  Calls Tryz.prog 261 #[.agg #[.int .i64 4,.int .i64 mon,.int .i64 day,.int .i64 nth,.int .i64 wd,.int .i64 off,.int .i64 fr,.int .i64 to,.int .i64 mv],.int .i64 y] w fun e n=>∃ N,e=.returned (.tuple #[.int .i64 N,.bool (cB ⟨4,mon,day,nth,wd,off,fr,to,mv⟩ y).isSome])/\(∀ g,cB ⟨4,mon,day,nth,wd,off,fr,to,mv⟩ y=some g->N=g)/\Below w.heap.size w n:=by
 have a:=hideS (fun o=>(Below.refl w.heap.size w).alloc (Nat.le_refl _) o)
 obtain⟨d,i,l,b⟩:=iQ m j;have h:=hideS (fun k=>ie day d i l k b)
 by_cases c:d=y
 ·subst c;rw [NX b];clear b
  go_enter Tryz.func261,Tryz.ntmps261
  go_wp2_with (go_at_call 170;refine (h.out _).mono ?_;rintro e p ⟨rfl,rfl⟩)
  go_ret2
  exact⟨_,rfl,fun g f=>Option.some.inj f,a.out _⟩
 ·rw [NY b c];have q:(d==y)=false:=beq_eq_false_iff_ne.2 c;clear b c
  go_enter Tryz.func261,Tryz.ntmps261
  go_wp2_with (go_at_call 170;refine (h.out _).mono ?_;rintro e p ⟨rfl,rfl⟩)
  go_ret2
  exact⟨_,rfl,fun g f=>(by cases f),a.out _⟩
theorem Oc (mon day nth wd off fr to mv y:Int) (w:World) (z: -100<=off) (t:off<=100) (B:1900<=fr) (C:to<=2199) :
  Calls Tryz.prog 257 #[.agg #[.int .i64 3,.int .i64 mon,.int .i64 day,.int .i64 nth,.int .i64 wd,.int .i64 off,.int .i64 fr,.int .i64 to,.int .i64 mv],.int .i64 y] w fun e r=>∃ N,e=.returned (.tuple #[.int .i64 N,.bool (cB ⟨3,mon,day,nth,wd,off,fr,to,mv⟩ y).isSome])/\(∀ g,cB ⟨3,mon,day,nth,wd,off,fr,to,mv⟩ y=some g->N=g)/\Below w.heap.size w r:=by
 have j:=hideS (fun o=>(Below.refl w.heap.size w).alloc (Nat.le_refl _) o)
 have n:=hideS (fun i=>aJ y fr to i)
 obtain⟨f,c⟩:∃ f,w.alloc (.cells #[.int .i64 3,.int .i64 mon,.int .i64 day,.int .i64 nth,.int .i64 wd,.int .i64 off,.int .i64 fr,.int .i64 to,.int .i64 mv] 242)=f:=⟨_,rfl⟩;have v:f.cell? ⟨w.heap.size,5,none⟩=some (.int .i64 off):=by rw [<- c];simp
 have x:f.cell? ⟨w.heap.size,6,none⟩=some (.int .i64 fr):=by rw [<- c];simp
 have s:f.cell? ⟨w.heap.size,7,none⟩=some (.int .i64 to):=by rw [<- c];simp
 have d:Hid (Below w.heap.size w f):=by rw [<- c];exact j.out _
 have p:=hideS c;clear c j
 by_cases b:1900<=y/\y<=2199
 ·have m:=hideS (fun i=>Gs y i b.1 b.2)
  obtain⟨u,A⟩:0<=jE y/\jE y<=109572:=(nu (uh b.1 b.2).ok).range
  by_cases h:fr<=y/\y<=to
  ·rw [NW h];rw [decide_eq_true h] at n
   generalize jE y=D at *
   have k:IntKind.i64.wrap (D+off)=D+off:=by rw [IntKind.wrap_i64];omega
   clear h b
   go_enter Tryz.func257,Tryz.ntmps257
   go_wp2_with (go_at_call 259;refine (m.out _).mono ?_;rintro e q ⟨rfl,rfl⟩)
   rw [p.out]
   go_quiet ((go_at_call 209;exact Calls.quiet_of_same (n.out _)))
   go_wp2_with fail
   go_ret2
   exact⟨_,rfl,fun g l=>Option.some.inj l,below_drewN' d.out⟩
  ·rw [wP (by decide) h]
   rw [decide_eq_false h] at n
   generalize jE y=D at *
   have k:IntKind.i64.wrap (D+off)=D+off:=by rw [IntKind.wrap_i64];omega
   clear h b
   go_enter Tryz.func257,Tryz.ntmps257
   go_wp2_with (go_at_call 259;refine (m.out _).mono ?_;rintro e q ⟨rfl,rfl⟩)
   rw [p.out]
   go_quiet ((go_at_call 209;exact Calls.quiet_of_same (n.out _)))
   go_wp2_with fail
   go_ret2
   exact⟨_,rfl,fun g l=>(by cases l),below_drewN' d.out⟩
 ·have m:=hideS (fun i=>Ci y i b)
  rw [wP (by decide) (fun a=>b (by omega))]
  have k:IntKind.i64.wrap (0+off)=0+off:=by rw [IntKind.wrap_i64];omega
  clear b
  go_enter Tryz.func257,Tryz.ntmps257
  go_wp2_with (go_at_call 259;refine (m.out _).mono ?_;rintro e q ⟨rfl,rfl⟩)
  rw [p.out]
  go_quiet (fail)
  go_wp2_with fail
  go_ret2
  exact⟨_,rfl,fun g l=>(by cases l),below_drewN' d.out⟩
def CBoxP (w:World) (W:Int) (v:Value) (wr:World):Prop:=Below (w.heap.size+1) (w.alloc (.cells #[.int .i64 W,v] 96)) wr
theorem CBoxP.cells {w w1:World} {W:Int} {v:Value} (a:CBoxP w W v w1) :
  w1.cell? ⟨w.heap.size,0,none⟩=some (.int .i64 W)/\w1.cell? ⟨w.heap.size,1,none⟩=some v:=by
 refine⟨?_,?_⟩
 ·rw [Below.cell a (p:=⟨w.heap.size,0,none⟩) (by simp)];simp
 ·rw [Below.cell a (p:=⟨w.heap.size,1,none⟩) (by simp)];simp
theorem CBoxP.step {w wr a:World} {W:Int} {v:Value} (h:CBoxP w W v wr) (b:Below wr.heap.size wr a):CBoxP w W v a:=
 Below.trans h (b.mono (by have:=Below.size h;simp at this;omega))
theorem CBoxP.below {w wr:World} {W:Int} {v:Value} (h:CBoxP w W v wr):Below w.heap.size w wr:=
 ((Below.refl w.heap.size w).alloc (Nat.le_refl _) _).trans (Below.mono h (by omega))
theorem CBoxP.first {w a:World} {W:Int} {v:Value} (b:Below (w.alloc (.cells #[.int .i64 W,v] 96)).heap.size (w.alloc (.cells #[.int .i64 W,v] 96)) a):CBoxP w W v a:=
 b.mono (by simp)
theorem iS {wr a b:World} {o:Obj} (c:Below (wr.alloc o).heap.size (wr.alloc o) a) (d:Below a.heap.size a b):Below wr.heap.size wr b:=
 (((Below.refl wr.heap.size wr).alloc (Nat.le_refl _) o).trans (c.mono (by simp))).trans (d.mono (by have:=c.size;simp at this;omega))
theorem rD (W:Int) (p:Option Addr) (b off c:Nat) (rs:List Rul) (K:Nat) (A B:Int) (w:World) (V:0<=W/\W<=126) (Z:RSrc w p b off rs) (hl:rs.length<=64) (hK:K<=rs.length) (X:∀ j<K,cF (rs.getD j jF)=true)
  (Y:(K=rs.length/\A=0/\B=0)\/(K<rs.length/\cF (rs.getD K jF)=false/\A=60/\B=K)) :
  Calls Tryz.prog 193 #[.agg #[.int .i64 W,.slice p rs.length c]] w fun e F=>e=.returned (.tuple #[.int .i64 A,.int .i64 B])/\Below w.heap.size w F:=by
 obtain⟨V,w1⟩:=V;have ac:¬ 127<=W:=by omega
 have T:=hideS Z;have HF:=hideS X;have S:=hideS Y;clear Z X Y;obtain⟨N,O⟩:∃ N,rs.length=N:=⟨_,rfl⟩;have HN:=hideS O;rw [O] at hl hK ⊢
 rw [O] at S
 clear O
 go_enter Tryz.func193,Tryz.ntmps193
 go_wp2_with fail
 have P:Hid (CBoxP w W (.slice p N c) (w.alloc (.cells #[.int .i64 W,.slice p N c] 96))):=Below.refl _ _
 go_loopw [21] (fun i wr=>∃ (k:Nat),k<=K/\i=.int .i64 k/\Hid (CBoxP w W (.slice p N c) wr)) (fun i _=>N - (intOf i).toNat)
 case atStart=>exact⟨0,by omega,rfl,P⟩
 case round=>
  obtain⟨k,hk,rfl,E⟩:=hrel
  by_cases U:k<N
  ·have hx:k<rs.length:=by rw [HN.out];exact U
   obtain rfl:=T.out.at_ (by omega)
   have M:=(T.out.cell k hx).below E.out.below (T.out.lt (by omega))
   have J:=HF.out k;have I:k<K\/(cF (rs.getD k jF)=false/\A=60/\B=k):=by
    by_cases Q:k<K
    ·exact Or.inl Q
    ·obtain rfl:k=K:=by omega
     rcases S.out with⟨a,_⟩| ⟨_,a⟩
     ·omega
     ·exact Or.inr a
   generalize rs.getD k jF=r at M J I
   clear hx;obtain⟨g0,g1,g2,g3,g4,g5,g6,g7,g8⟩:=M;have L:∀ R,cF r=R->(k<K/\R=true)\/(R=false/\A=60/\B=k):=fun R s=>by
    rw [<- s]
    by_cases a:k<K
    ·exact Or.inl ⟨a,J a⟩
    ·rcases I with b | b
     ·exact absurd b a
     ·exact Or.inr b
   clear J I;have h:=hideS L;clear L;obtain⟨q,m,day,n,wd,g,x,z,C⟩:=r;dsimp only at *
   by_cases v:q=1\/q=2\/q=3\/q=4
   ·rcases v with rfl | rfl | rfl | rfl
    ·have y:=hideS (fun l=>(bE 1 m day n wd g x z C l (by omega):Calls Tryz.prog 208 _ l fun e F=>e=.returned (.iface 240 _)/\Below l.heap.size l F))
     have o:=hideS (fun l=>Lo m day n wd g x z C l)
     obtain⟨R,s⟩:∃ R,cF ⟨1,m,day,n,wd,g,x,z,C⟩=R:=⟨_,rfl⟩;have u:=h.out R s;rw [s] at o
     clear s h;rcases u with⟨a,rfl⟩| ⟨rfl,a⟩
     ·go_wp2_with (first | (go_at_call 208;refine (y.out _).mono ?_;rintro e G ⟨rfl,d⟩) | (go_at_call 253;refine (o.out _).mono ?_;rintro e H ⟨rfl,f⟩))
      have t:=hideS (E.out.step (iS d f));clear d f
      go_roundw
      case rel=>exact⟨k+1,by omega,by go_num,t⟩
      case measure=>simp [intOf];omega
     ·have D:=hideS a;clear a
      go_wp2_with (first | (go_at_call 208;refine (y.out _).mono ?_;rintro e G ⟨rfl,d⟩) | (go_at_call 253;refine (o.out _).mono ?_;rintro e H ⟨rfl,f⟩))
      go_ret2
      obtain⟨rfl,rfl⟩:=D.out;exact⟨rfl,(E.out.step (iS d f)).below⟩
    ·have y:=hideS (fun l=>(bE 2 m day n wd g x z C l (by omega):Calls Tryz.prog 208 _ l fun e F=>e=.returned (.iface 241 _)/\Below l.heap.size l F))
     have o:=hideS (fun l=>Ln m day n wd g x z C l)
     obtain⟨R,s⟩:∃ R,cF ⟨2,m,day,n,wd,g,x,z,C⟩=R:=⟨_,rfl⟩;have u:=h.out R s;rw [s] at o
     clear s h;rcases u with⟨a,rfl⟩| ⟨rfl,a⟩
     ·go_wp2_with (first | (go_at_call 208;refine (y.out _).mono ?_;rintro e G ⟨rfl,d⟩) | (go_at_call 256;refine (o.out _).mono ?_;rintro e H ⟨rfl,f⟩))
      have t:=hideS (E.out.step (iS d f));clear d f
      go_roundw
      case rel=>exact⟨k+1,by omega,by go_num,t⟩
      case measure=>simp [intOf];omega
     ·have D:=hideS a;clear a
      go_wp2_with (first | (go_at_call 208;refine (y.out _).mono ?_;rintro e G ⟨rfl,d⟩) | (go_at_call 256;refine (o.out _).mono ?_;rintro e H ⟨rfl,f⟩))
      go_ret2
      obtain⟨rfl,rfl⟩:=D.out;exact⟨rfl,(E.out.step (iS d f)).below⟩
    ·have y:=hideS (fun l=>(bE 3 m day n wd g x z C l (by omega):Calls Tryz.prog 208 _ l fun e F=>e=.returned (.iface 242 _)/\Below l.heap.size l F))
     have o:=hideS (fun l=>Lm m day n wd g x z C l)
     obtain⟨R,s⟩:∃ R,cF ⟨3,m,day,n,wd,g,x,z,C⟩=R:=⟨_,rfl⟩;have u:=h.out R s;rw [s] at o
     clear s h;rcases u with⟨a,rfl⟩| ⟨rfl,a⟩
     ·go_wp2_with (first | (go_at_call 208;refine (y.out _).mono ?_;rintro e G ⟨rfl,d⟩) | (go_at_call 258;refine (o.out _).mono ?_;rintro e H ⟨rfl,f⟩))
      have t:=hideS (E.out.step (iS d f));clear d f
      go_roundw
      case rel=>exact⟨k+1,by omega,by go_num,t⟩
      case measure=>simp [intOf];omega
     ·have D:=hideS a;clear a
      go_wp2_with (first | (go_at_call 208;refine (y.out _).mono ?_;rintro e G ⟨rfl,d⟩) | (go_at_call 258;refine (o.out _).mono ?_;rintro e H ⟨rfl,f⟩))
      go_ret2
      obtain⟨rfl,rfl⟩:=D.out;exact⟨rfl,(E.out.step (iS d f)).below⟩
    ·have y:=hideS (fun l=>(bE 4 m day n wd g x z C l (by omega):Calls Tryz.prog 208 _ l fun e F=>e=.returned (.iface 243 _)/\Below l.heap.size l F))
     have o:=hideS (fun l=>Ll m day n wd g x z C l)
     obtain⟨R,s⟩:∃ R,cF ⟨4,m,day,n,wd,g,x,z,C⟩=R:=⟨_,rfl⟩;have u:=h.out R s;rw [s] at o
     clear s h;rcases u with⟨a,rfl⟩| ⟨rfl,a⟩
     ·go_wp2_with (first | (go_at_call 208;refine (y.out _).mono ?_;rintro e G ⟨rfl,d⟩) | (go_at_call 262;refine (o.out _).mono ?_;rintro e H ⟨rfl,f⟩))
      have t:=hideS (E.out.step (iS d f));clear d f
      go_roundw
      case rel=>exact⟨k+1,by omega,by go_num,t⟩
      case measure=>simp [intOf];omega
     ·have D:=hideS a;clear a
      go_wp2_with (first | (go_at_call 208;refine (y.out _).mono ?_;rintro e G ⟨rfl,d⟩) | (go_at_call 262;refine (o.out _).mono ?_;rintro e H ⟨rfl,f⟩))
      go_ret2
      obtain⟨rfl,rfl⟩:=D.out;exact⟨rfl,(E.out.step (iS d f)).below⟩
   ·have y:=hideS (fun l=>rC q m day n wd g x z C l v)
    have o:=hideS (fun l=>Lp l)
    have D:Hid (A=60/\B=k):=by
     rcases h.out _ (Qi (fun a=>v (by omega)) (fun a=>v (by omega)) (fun a=>v (by omega)) (fun a=>v (by omega))) with⟨_,a⟩| ⟨_,a⟩
     ·exact Bool.noConfusion a
     ·exact a
    clear h v
    go_wp2_with (first | (go_at_call 208;refine (y.out _).mono ?_;rintro e G ⟨rfl,d⟩) | (go_at_call 264;refine (o.out _).mono ?_;rintro e H ⟨rfl,f⟩))
    go_ret2
    obtain⟨rfl,rfl⟩:=D.out;exact⟨rfl,(E.out.step (iS d f)).below⟩
  ·have D:Hid (A=0/\B=0):=by
    rcases S.out with⟨_,a⟩| ⟨a,_⟩
    ·exact a
    ·omega
   have ab:¬ (k:Int)<N:=by omega
   go_wp2_with fail
   go_ret2
   obtain⟨rfl,rfl⟩:=D.out;exact⟨rfl,E.out.below⟩
theorem uu (W:Int) (p:Option Addr) (b off c:Nat) (rs:List Rul) (A B:Int) (w:World) (h:ChkR W rs A B) (d:RSrc w p b off rs) (s:rs.length<=9223372036854775807) :
  Calls Tryz.prog 193 #[.agg #[.int .i64 W,.slice p rs.length c]] w fun e o=>e=.returned (.tuple #[.int .i64 A,.int .i64 B])/\Below w.heap.size w o:=by
 cases h with
 | long h=>
  generalize rs.length=N at *
  have n:(64:Int)<N:=by omega
  clear d h
  go_enter Tryz.func193,Tryz.ntmps193
  go_wp2_with fail
  go_ret2
  exact⟨rfl,(Below.refl w.heap.size w).alloc (Nat.le_refl _) _⟩
 | week h f=>
  generalize rs.length=N at *
  have n:¬ (64:Int)<N:=by omega
  clear d h;rcases (show W<0\/(¬ W<0/\127<=W) by omega) with a | ⟨a,r⟩
  all_goals
   clear f
   go_enter Tryz.func193,Tryz.ntmps193
   go_wp2_with fail
   go_ret2
   exact⟨rfl,(Below.refl w.heap.size w).alloc (Nat.le_refl _) _⟩
 | rule k l f m i q=>exact rD W p b off c rs k 60 k w f d l (by omega) q (Or.inr ⟨m,i,rfl,rfl⟩)
 | ok h=>exact rD W p b off c rs rs.length 0 0 w ⟨h.w0,h.w1⟩ d h.len (Nat.le_refl _) (fun j g=>h.fit _ (ru g)) (Or.inl ⟨rfl,rfl,rfl⟩)
end Go.Proofs.YtfdddijdjpijbaaGreat
