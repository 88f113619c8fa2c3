/-  -/
import Derived.Test.YtfdddijdjpijbaaGreatHal
import Derived.BigQuiet
set_option maxHeartbeats 3200000
namespace Go.Proofs.YtfdddijdjpijbaaGreat
open Go.RowKit
theorem No {mon day nth wd off fr to mv y:Int} (a:okD y mon day) (b:fr<=y/\y<=to):ck ⟨1,mon,day,nth,wd,off,fr,to,mv⟩ y=some (aX y mon day):=by
 unfold ck nR;dsimp only;rw [if_neg (by decide),if_neg (by omega),if_pos rfl,if_pos a]
theorem Np {mon day nth wd off fr to mv y:Int} (a:¬ okD y mon day):ck ⟨1,mon,day,nth,wd,off,fr,to,mv⟩ y=none:=by
 unfold ck nR;dsimp only;rw [if_neg (by decide),if_pos rfl,if_neg a]
 split<;>rfl
theorem vS {kind mon day nth wd off fr to mv y:Int} (a:kind≠4) (b:¬ (fr<=y/\y<=to)):ck ⟨kind,mon,day,nth,wd,off,fr,to,mv⟩ y=none:=by
 unfold ck nR;dsimp only;rw [if_neg a,if_pos (by omega)]
theorem Nq {mon day nth wd off fr to mv y:Int} (a:fr<=y/\y<=to):ck ⟨2,mon,day,nth,wd,off,fr,to,mv⟩ y=some (FM y mon wd nth):=by
 unfold ck nR;dsimp only;rw [if_neg (by decide),if_neg (by omega),if_neg (by decide),if_pos rfl]
theorem Nr {mon day nth wd off fr to mv y:Int} (a:fr<=y/\y<=to):ck ⟨3,mon,day,nth,wd,off,fr,to,mv⟩ y=some (jv y+off):=by
 unfold ck nR;dsimp only;rw [if_neg (by decide),if_neg (by omega),if_neg (by decide),if_neg (by decide),if_pos rfl]
theorem Ns {mon day nth wd off fr to mv y m d:Int} (h:IsD day y m d):ck ⟨4,mon,day,nth,wd,off,fr,to,mv⟩ y=some day:=by
 unfold ck;dsimp only;rw [if_pos rfl,if_pos (tO h)]
theorem Nt {mon day nth wd off fr to mv y y0 m d:Int} (h:IsD day y0 m d) (a:y0≠y):ck ⟨4,mon,day,nth,wd,off,fr,to,mv⟩ y=none:=by
 unfold ck;dsimp only;rw [if_pos rfl,if_neg (by rw [tO h];exact a)]
theorem Nu (mon day nth wd off fr to mv y:Int) (w:World) :
  Calls Tryz.prog 252 #[.agg #[.int .i64 1,.int .i64 mon,.int .i64 day,.int .i64 nth,.int .i64 wd,.int .i64 off,.int .i64 fr,.int .i64 to,.int .i64 mv],.int .i64 y] w fun e k=>∃ N,e=.returned (.tuple #[.int .i64 N,.bool (ck ⟨1,mon,day,nth,wd,off,fr,to,mv⟩ y).isSome])/\(∀ g,ck ⟨1,mon,day,nth,wd,off,fr,to,mv⟩ y=some g->N=g)/\Below w.heap.size w k:=by
 have b:=hideS (fun o=>(Below.refl w.heap.size w).alloc (Nat.le_refl _) o)
 by_cases a:okD y mon day
 ·have i:=hideS (fun f=>mZ y mon day f a)
  have j:=hideS (fun f=>aK y fr to f)
  by_cases c:fr<=y/\y<=to
  ·rw [No a c];rw [decide_eq_true c] at j
   generalize aX y mon day=D at *
   clear a c
   go_enter Tryz.func252,Tryz.ntmps252
   go_wp2_with (first | (go_at_call 187;refine (i.out _).mono ?_;rintro e h ⟨rfl,rfl⟩) | (go_at_call 209;refine (j.out _).mono ?_;rintro e h ⟨rfl,rfl⟩))
   go_ret2
   exact⟨_,rfl,fun g d=>Option.some.inj d,b.out _⟩
  ·rw [vS (by decide) c]
   rw [decide_eq_false c] at j
   generalize aX y mon day=D at *
   clear a c
   go_enter Tryz.func252,Tryz.ntmps252
   go_wp2_with (first | (go_at_call 187;refine (i.out _).mono ?_;rintro e h ⟨rfl,rfl⟩) | (go_at_call 209;refine (j.out _).mono ?_;rintro e h ⟨rfl,rfl⟩))
   go_ret2
   exact⟨_,rfl,fun g d=>(by cases d),b.out _⟩
 ·have i:=hideS (fun f=>Ni y mon day f a)
  rw [Np a];clear a
  go_enter Tryz.func252,Tryz.ntmps252
  go_wp2_with (go_at_call 187;refine (i.out _).mono ?_;rintro e h ⟨rfl,rfl⟩)
  go_ret2
  exact⟨_,rfl,fun g d=>(by cases d),b.out _⟩
theorem KM {f L wd k:Int} (h:0<=wd) (d:wd<=6) (j:1<=k) (i:k<=5) (l:28<=L) (g:0<=f) :
  (if k=5/\f+L<=f+(wd - f) % 7+7*(k - 1) then f+(wd - f) % 7+7*(k - 1) - 7 else f+(wd - f) % 7+7*(k - 1))=if f+L<=f+(wd+7 - f % 7) % 7+7*(k - 1) then f+(wd+7 - f % 7) % 7+7*(k - 1) - 7 else f+(wd+7 - f % 7) % 7+7*(k - 1):=by
 have e:(wd+7 - f % 7) % 7=(wd - f) % 7:=by omega
 rw [e]
 by_cases a:k=5
 ·by_cases b:f+L<=f+(wd - f) % 7+7*(k - 1)
  ·rw [if_pos ⟨a,b⟩,if_pos b]
  ·rw [if_neg (fun c=>b c.2),if_neg b]
 ·rw [if_neg (fun c=>a c.1),if_neg (by omega)]
theorem Nv (mon day nth wd off fr to mv y:Int) (w:World) (s:1<=mon) (u:mon<=12) (B:0<=wd) (x:wd<=6) (C:1<=nth) (E:nth<=5) (H:1900<=fr) (M:to<=2199) :
  Calls Tryz.prog 255 #[.agg #[.int .i64 2,.int .i64 mon,.int .i64 day,.int .i64 nth,.int .i64 wd,.int .i64 off,.int .i64 fr,.int .i64 to,.int .i64 mv],.int .i64 y] w fun e z=>∃ N,e=.returned (.tuple #[.int .i64 N,.bool (ck ⟨2,mon,day,nth,wd,off,fr,to,mv⟩ y).isSome])/\(∀ g,ck ⟨2,mon,day,nth,wd,off,fr,to,mv⟩ y=some g->N=g)/\Below w.heap.size w z:=by
 have c:=hideS (fun o=>(Below.refl w.heap.size w).alloc (Nat.le_refl _) o)
 have p:=hideS (fun h=>aK y fr to h)
 by_cases l:fr<=y/\y<=to
 ·rw [Nq l];rw [decide_eq_true l] at p
  have b:ymB y mon:=⟨by omega,by omega,s,u⟩
  have k:=hideS (fun h=>fK y mon h b)
  have r:=hideS (fun h=>mZ y mon 1 h (nf b 1 (by omega) (by omega)))
  obtain⟨F,J⟩:=(mY (nf b 1 (by omega) (by omega))).range
  have v:=jr y mon;have I:=js y mon;have d:FM y mon wd nth=if aX y mon 1+cI y mon<=aX y mon 1+(wd+7 - aX y mon 1 % 7) % 7+7*(nth - 1) then aX y mon 1+(wd+7 - aX y mon 1 % 7) % 7+7*(nth - 1) - 7 else aX y mon 1+(wd+7 - aX y mon 1 % 7) % 7+7*(nth - 1):=KM B x C E v F
  obtain⟨R,m⟩:∃ R,FM y mon wd nth=R:=⟨_,rfl⟩;rw [m] at d ⊢
  clear m b l;generalize aX y mon 1=f at *
  generalize cI y mon=L at *
  obtain⟨a,A⟩:∃ a,f % 7=a:=⟨_,rfl⟩;rw [A] at d
  obtain⟨t,D⟩:∃ t,(wd+7 - a) % 7=t:=⟨_,rfl⟩;rw [D] at d
  have K:0<=t:=by omega
  have G:t<=6:=by omega
  by_cases n:f+L<=f+t+7*(nth - 1)
  ·rw [if_pos n] at d
   have q:=hideS d;clear d
   go_enter Tryz.func255,Tryz.ntmps255
   go_wp2_with (first | (go_at_call 205;refine (k.out _).mono ?_;rintro e i ⟨rfl,rfl⟩) | (go_at_call 187;refine (r.out _).mono ?_;rintro e i ⟨rfl,rfl⟩) | (go_at_call 209;refine (p.out _).mono ?_;rintro e i ⟨rfl,rfl⟩))
   go_ret2
   exact⟨_,rfl,fun g j=>(by rw [<- Option.some.inj j,q.out]),c.out _⟩
  ·rw [if_neg n] at d
   have q:=hideS d;clear d
   go_enter Tryz.func255,Tryz.ntmps255
   go_wp2_with (first | (go_at_call 205;refine (k.out _).mono ?_;rintro e i ⟨rfl,rfl⟩) | (go_at_call 187;refine (r.out _).mono ?_;rintro e i ⟨rfl,rfl⟩) | (go_at_call 209;refine (p.out _).mono ?_;rintro e i ⟨rfl,rfl⟩))
   go_ret2
   exact⟨_,rfl,fun g j=>(by rw [<- Option.some.inj j,q.out]),c.out _⟩
 ·rw [vS (by decide) l]
  rw [decide_eq_false l] at p
  clear l
  by_cases b:ymB y mon
  ·have k:=hideS (fun h=>fK y mon h b)
   generalize cI y mon=L at *
   clear b
   go_enter Tryz.func255,Tryz.ntmps255
   go_wp2_with (first | (go_at_call 205;refine (k.out _).mono ?_;rintro e i ⟨rfl,rfl⟩) | (go_at_call 209;refine (p.out _).mono ?_;rintro e i ⟨rfl,rfl⟩))
   go_ret2
   exact⟨_,rfl,fun g j=>(by cases j),c.out _⟩
  ·have k:=hideS (fun h=>jt y mon h b)
   clear b
   go_enter Tryz.func255,Tryz.ntmps255
   go_wp2_with (go_at_call 205;refine (k.out _).mono ?_;rintro e i ⟨rfl,rfl⟩)
   go_ret2
   exact⟨_,rfl,fun g j=>(by cases j),c.out _⟩
theorem Nw (mon day nth wd off fr to mv y:Int) (w:World) (p:0<=day) (l:day<=109572) :
  Calls Tryz.prog 261 #[.agg #[.int .i64 4,.int .i64 mon,.int .i64 day,.int .i64 nth,.int .i64 wd,.int .i64 off,.int .i64 fr,.int .i64 to,.int .i64 mv],.int .i64 y] w fun e m=>∃ N,e=.returned (.tuple #[.int .i64 N,.bool (ck ⟨4,mon,day,nth,wd,off,fr,to,mv⟩ y).isSome])/\(∀ g,ck ⟨4,mon,day,nth,wd,off,fr,to,mv⟩ y=some g->N=g)/\Below w.heap.size w m:=by
 have a:=hideS (fun o=>(Below.refl w.heap.size w).alloc (Nat.le_refl _) o)
 obtain⟨d,i,j,b⟩:=iJ p l;have h:=hideS (fun q=>gS day d i j q b)
 by_cases c:d=y
 ·subst c;rw [Ns b];clear b
  go_enter Tryz.func261,Tryz.ntmps261
  go_wp2_with (go_at_call 170;refine (h.out _).mono ?_;rintro e n ⟨rfl,rfl⟩)
  go_ret2
  exact⟨_,rfl,fun g f=>Option.some.inj f,a.out _⟩
 ·rw [Nt b c];have k:(d==y)=false:=beq_eq_false_iff_ne.2 c;clear b c
  go_enter Tryz.func261,Tryz.ntmps261
  go_wp2_with (go_at_call 170;refine (h.out _).mono ?_;rintro e n ⟨rfl,rfl⟩)
  go_ret2
  exact⟨_,rfl,fun g f=>(by cases f),a.out _⟩
theorem Nx (mon day nth wd off fr to mv y:Int) (w:World) (z: -100<=off) (v:off<=100) (s:1900<=fr) (x:to<=2199) :
  Calls Tryz.prog 257 #[.agg #[.int .i64 3,.int .i64 mon,.int .i64 day,.int .i64 nth,.int .i64 wd,.int .i64 off,.int .i64 fr,.int .i64 to,.int .i64 mv],.int .i64 y] w fun e r=>∃ N,e=.returned (.tuple #[.int .i64 N,.bool (ck ⟨3,mon,day,nth,wd,off,fr,to,mv⟩ y).isSome])/\(∀ g,ck ⟨3,mon,day,nth,wd,off,fr,to,mv⟩ y=some g->N=g)/\Below w.heap.size w r:=by
 have k:=hideS (fun o=>(Below.refl w.heap.size w).alloc (Nat.le_refl _) o)
 have n:=hideS (fun l=>aK y fr to l)
 obtain⟨f,c⟩:∃ f,w.alloc (.cells #[.int .i64 3,.int .i64 mon,.int .i64 day,.int .i64 nth,.int .i64 wd,.int .i64 off,.int .i64 fr,.int .i64 to,.int .i64 mv] 242)=f:=⟨_,rfl⟩;have B:f.cell? ⟨w.heap.size,5,none⟩=some (.int .i64 off):=by rw [<- c];simp
 have A:f.cell? ⟨w.heap.size,6,none⟩=some (.int .i64 fr):=by rw [<- c];simp
 have u:f.cell? ⟨w.heap.size,7,none⟩=some (.int .i64 to):=by rw [<- c];simp
 have d:Hid (Below w.heap.size w f):=by rw [<- c];exact k.out _
 have p:=hideS c;clear c k
 by_cases b:1900<=y/\y<=2199
 ·have m:=hideS (fun l=>FN y l b.1 b.2)
  obtain⟨t,C⟩:0<=jv y/\jv y<=109572:=(mY (tL b.1 b.2).ok).range
  by_cases h:fr<=y/\y<=to
  ·rw [Nr h];rw [decide_eq_true h] at n
   generalize jv y=D at *
   have j:IntKind.i64.wrap (D+off)=D+off:=by rw [IntKind.wrap_i64];omega
   clear h b
   go_enter Tryz.func257,Tryz.ntmps257
   go_wp2_with (go_at_call 259;refine (m.out _).mono ?_;rintro e q ⟨rfl,rfl⟩)
   rw [p.out]
   go_quiet ((go_at_call 209;exact Calls.quiet_of_same (n.out _)))
   go_wp2_with fail
   go_ret2
   exact⟨_,rfl,fun g i=>Option.some.inj i,below_drewN' d.out⟩
  ·rw [vS (by decide) h]
   rw [decide_eq_false h] at n
   generalize jv y=D at *
   have j:IntKind.i64.wrap (D+off)=D+off:=by rw [IntKind.wrap_i64];omega
   clear h b
   go_enter Tryz.func257,Tryz.ntmps257
   go_wp2_with (go_at_call 259;refine (m.out _).mono ?_;rintro e q ⟨rfl,rfl⟩)
   rw [p.out]
   go_quiet ((go_at_call 209;exact Calls.quiet_of_same (n.out _)))
   go_wp2_with fail
   go_ret2
   exact⟨_,rfl,fun g i=>(by cases i),below_drewN' d.out⟩
 ·have m:=hideS (fun l=>BL y l b)
  rw [vS (by decide) (fun a=>b (by omega))]
  have j:IntKind.i64.wrap (0+off)=0+off:=by rw [IntKind.wrap_i64];omega
  clear b
  go_enter Tryz.func257,Tryz.ntmps257
  go_wp2_with (go_at_call 259;refine (m.out _).mono ?_;rintro e q ⟨rfl,rfl⟩)
  rw [p.out]
  go_quiet (fail)
  go_wp2_with fail
  go_ret2
  exact⟨_,rfl,fun g i=>(by cases i),below_drewN' d.out⟩
def CBoxP (w:World) (W:Int) (v:Value) (wr:World):Prop:=Below (w.heap.size+1) (w.alloc (.cells #[.int .i64 W,v] 96)) wr
theorem CBoxP.cells {w w1:World} {W:Int} {v:Value} (a:CBoxP w W v w1) :
  w1.cell? ⟨w.heap.size,0,none⟩=some (.int .i64 W)/\w1.cell? ⟨w.heap.size,1,none⟩=some v:=by
 refine⟨?_,?_⟩
 ·rw [Below.cell a (p:=⟨w.heap.size,0,none⟩) (by simp)];simp
 ·rw [Below.cell a (p:=⟨w.heap.size,1,none⟩) (by simp)];simp
theorem CBoxP.step {w wr a:World} {W:Int} {v:Value} (h:CBoxP w W v wr) (b:Below wr.heap.size wr a):CBoxP w W v a:=
 Below.trans h (b.mono (by have:=Below.size h;simp at this;omega))
theorem CBoxP.below {w wr:World} {W:Int} {v:Value} (h:CBoxP w W v wr):Below w.heap.size w wr:=
 ((Below.refl w.heap.size w).alloc (Nat.le_refl _) _).trans (Below.mono h (by omega))
theorem CBoxP.first {w a:World} {W:Int} {v:Value} (b:Below (w.alloc (.cells #[.int .i64 W,v] 96)).heap.size (w.alloc (.cells #[.int .i64 W,v] 96)) a):CBoxP w W v a:=
 b.mono (by simp)
theorem iL {wr a c:World} {o:Obj} (b:Below (wr.alloc o).heap.size (wr.alloc o) a) (d:Below a.heap.size a c):Below wr.heap.size wr c:=
 (((Below.refl wr.heap.size wr).alloc (Nat.le_refl _) o).trans (b.mono (by simp))).trans (d.mono (by have:=b.size;simp at this;omega))
theorem rj (W:Int) (p:Option Addr) (b off c:Nat) (rs:List Rul) (K:Nat) (A B:Int) (w:World) (X:0<=W/\W<=126) (Y:RSrc w p b off rs) (hl:rs.length<=64) (hK:K<=rs.length) (V:∀ j<K,cD (rs.getD j jw)=true)
  (Z:(K=rs.length/\A=0/\B=0)\/(K<rs.length/\cD (rs.getD K jw)=false/\A=60/\B=K)) :
  Calls Tryz.prog 193 #[.agg #[.int .i64 W,.slice p rs.length c]] w fun e F=>e=.returned (.tuple #[.int .i64 A,.int .i64 B])/\Below w.heap.size w F:=by
 obtain⟨X,w1⟩:=X;have ac:¬ 127<=W:=by omega
 have P:=hideS Y;have HF:=hideS V;have Q:=hideS Z;clear Y V Z;obtain⟨N,O⟩:∃ N,rs.length=N:=⟨_,rfl⟩;have HN:=hideS O;rw [O] at hl hK ⊢
 rw [O] at Q
 clear O
 go_enter Tryz.func193,Tryz.ntmps193
 go_wp2_with fail
 have T:Hid (CBoxP w W (.slice p N c) (w.alloc (.cells #[.int .i64 W,.slice p N c] 96))):=Below.refl _ _
 go_loopw [21] (fun i wr=>∃ (k:Nat),k<=K/\i=.int .i64 k/\Hid (CBoxP w W (.slice p N c) wr)) (fun i _=>N - (intOf i).toNat)
 case atStart=>exact⟨0,by omega,rfl,T⟩
 case round=>
  obtain⟨k,hk,rfl,E⟩:=hrel
  by_cases U:k<N
  ·have hx:k<rs.length:=by rw [HN.out];exact U
   obtain rfl:=P.out.at_ (by omega)
   have L:=(P.out.cell k hx).below E.out.below (P.out.lt (by omega))
   have J:=HF.out k;have I:k<K\/(cD (rs.getD k jw)=false/\A=60/\B=k):=by
    by_cases S:k<K
    ·exact Or.inl S
    ·obtain rfl:k=K:=by omega
     rcases Q.out with⟨a,_⟩| ⟨_,a⟩
     ·omega
     ·exact Or.inr a
   generalize rs.getD k jw=r at L J I
   clear hx;obtain⟨g0,g1,g2,g3,g4,g5,g6,g7,g8⟩:=L;have M:∀ R,cD r=R->(k<K/\R=true)\/(R=false/\A=60/\B=k):=fun R q=>by
    rw [<- q]
    by_cases a:k<K
    ·exact Or.inl ⟨a,J a⟩
    ·rcases I with b | b
     ·exact absurd b a
     ·exact Or.inr b
   clear J I;have h:=hideS M;clear M;obtain⟨s,n,day,m,wd,g,x,C,z⟩:=r;dsimp only at *
   by_cases t:s=1\/s=2\/s=3\/s=4
   ·rcases t with rfl | rfl | rfl | rfl
    ·have y:=hideS (fun l=>(bD 1 n day m wd g x C z l (by omega):Calls Tryz.prog 208 _ l fun e F=>e=.returned (.iface 240 _)/\Below l.heap.size l F))
     have o:=hideS (fun l=>KJ n day m wd g x C z l)
     obtain⟨R,q⟩:∃ R,cD ⟨1,n,day,m,wd,g,x,C,z⟩=R:=⟨_,rfl⟩;have u:=h.out R q;rw [q] at o
     clear q h;rcases u with⟨a,rfl⟩| ⟨rfl,a⟩
     ·go_wp2_with (first | (go_at_call 208;refine (y.out _).mono ?_;rintro e G ⟨rfl,d⟩) | (go_at_call 253;refine (o.out _).mono ?_;rintro e H ⟨rfl,f⟩))
      have v:=hideS (E.out.step (iL d f));clear d f
      go_roundw
      case rel=>exact⟨k+1,by omega,by go_num,v⟩
      case measure=>simp [intOf];omega
     ·have D:=hideS a;clear a
      go_wp2_with (first | (go_at_call 208;refine (y.out _).mono ?_;rintro e G ⟨rfl,d⟩) | (go_at_call 253;refine (o.out _).mono ?_;rintro e H ⟨rfl,f⟩))
      go_ret2
      obtain⟨rfl,rfl⟩:=D.out;exact⟨rfl,(E.out.step (iL d f)).below⟩
    ·have y:=hideS (fun l=>(bD 2 n day m wd g x C z l (by omega):Calls Tryz.prog 208 _ l fun e F=>e=.returned (.iface 241 _)/\Below l.heap.size l F))
     have o:=hideS (fun l=>KI n day m wd g x C z l)
     obtain⟨R,q⟩:∃ R,cD ⟨2,n,day,m,wd,g,x,C,z⟩=R:=⟨_,rfl⟩;have u:=h.out R q;rw [q] at o
     clear q h;rcases u with⟨a,rfl⟩| ⟨rfl,a⟩
     ·go_wp2_with (first | (go_at_call 208;refine (y.out _).mono ?_;rintro e G ⟨rfl,d⟩) | (go_at_call 256;refine (o.out _).mono ?_;rintro e H ⟨rfl,f⟩))
      have v:=hideS (E.out.step (iL d f));clear d f
      go_roundw
      case rel=>exact⟨k+1,by omega,by go_num,v⟩
      case measure=>simp [intOf];omega
     ·have D:=hideS a;clear a
      go_wp2_with (first | (go_at_call 208;refine (y.out _).mono ?_;rintro e G ⟨rfl,d⟩) | (go_at_call 256;refine (o.out _).mono ?_;rintro e H ⟨rfl,f⟩))
      go_ret2
      obtain⟨rfl,rfl⟩:=D.out;exact⟨rfl,(E.out.step (iL d f)).below⟩
    ·have y:=hideS (fun l=>(bD 3 n day m wd g x C z l (by omega):Calls Tryz.prog 208 _ l fun e F=>e=.returned (.iface 242 _)/\Below l.heap.size l F))
     have o:=hideS (fun l=>KH n day m wd g x C z l)
     obtain⟨R,q⟩:∃ R,cD ⟨3,n,day,m,wd,g,x,C,z⟩=R:=⟨_,rfl⟩;have u:=h.out R q;rw [q] at o
     clear q h;rcases u with⟨a,rfl⟩| ⟨rfl,a⟩
     ·go_wp2_with (first | (go_at_call 208;refine (y.out _).mono ?_;rintro e G ⟨rfl,d⟩) | (go_at_call 258;refine (o.out _).mono ?_;rintro e H ⟨rfl,f⟩))
      have v:=hideS (E.out.step (iL d f));clear d f
      go_roundw
      case rel=>exact⟨k+1,by omega,by go_num,v⟩
      case measure=>simp [intOf];omega
     ·have D:=hideS a;clear a
      go_wp2_with (first | (go_at_call 208;refine (y.out _).mono ?_;rintro e G ⟨rfl,d⟩) | (go_at_call 258;refine (o.out _).mono ?_;rintro e H ⟨rfl,f⟩))
      go_ret2
      obtain⟨rfl,rfl⟩:=D.out;exact⟨rfl,(E.out.step (iL d f)).below⟩
    ·have y:=hideS (fun l=>(bD 4 n day m wd g x C z l (by omega):Calls Tryz.prog 208 _ l fun e F=>e=.returned (.iface 243 _)/\Below l.heap.size l F))
     have o:=hideS (fun l=>KG n day m wd g x C z l)
     obtain⟨R,q⟩:∃ R,cD ⟨4,n,day,m,wd,g,x,C,z⟩=R:=⟨_,rfl⟩;have u:=h.out R q;rw [q] at o
     clear q h;rcases u with⟨a,rfl⟩| ⟨rfl,a⟩
     ·go_wp2_with (first | (go_at_call 208;refine (y.out _).mono ?_;rintro e G ⟨rfl,d⟩) | (go_at_call 262;refine (o.out _).mono ?_;rintro e H ⟨rfl,f⟩))
      have v:=hideS (E.out.step (iL d f));clear d f
      go_roundw
      case rel=>exact⟨k+1,by omega,by go_num,v⟩
      case measure=>simp [intOf];omega
     ·have D:=hideS a;clear a
      go_wp2_with (first | (go_at_call 208;refine (y.out _).mono ?_;rintro e G ⟨rfl,d⟩) | (go_at_call 262;refine (o.out _).mono ?_;rintro e H ⟨rfl,f⟩))
      go_ret2
      obtain⟨rfl,rfl⟩:=D.out;exact⟨rfl,(E.out.step (iL d f)).below⟩
   ·have y:=hideS (fun l=>rh s n day m wd g x C z l t)
    have o:=hideS (fun l=>KK l)
    have D:Hid (A=60/\B=k):=by
     rcases h.out _ (PE (fun a=>t (by omega)) (fun a=>t (by omega)) (fun a=>t (by omega)) (fun a=>t (by omega))) with⟨_,a⟩| ⟨_,a⟩
     ·exact Bool.noConfusion a
     ·exact a
    clear h t
    go_wp2_with (first | (go_at_call 208;refine (y.out _).mono ?_;rintro e G ⟨rfl,d⟩) | (go_at_call 264;refine (o.out _).mono ?_;rintro e H ⟨rfl,f⟩))
    go_ret2
    obtain⟨rfl,rfl⟩:=D.out;exact⟨rfl,(E.out.step (iL d f)).below⟩
  ·have D:Hid (A=0/\B=0):=by
    rcases Q.out with⟨_,a⟩| ⟨a,_⟩
    ·exact a
    ·omega
   have ab:¬ (k:Int)<N:=by omega
   go_wp2_with fail
   go_ret2
   obtain⟨rfl,rfl⟩:=D.out;exact⟨rfl,E.out.below⟩
theorem tT (W:Int) (p:Option Addr) (b off c:Nat) (rs:List Rul) (A B:Int) (w:World) (h:ChkR W rs A B) (d:RSrc w p b off rs) (s:rs.length<=9223372036854775807) :
  Calls Tryz.prog 193 #[.agg #[.int .i64 W,.slice p rs.length c]] w fun e m=>e=.returned (.tuple #[.int .i64 A,.int .i64 B])/\Below w.heap.size w m:=by
 cases h with
 | long h=>
  generalize rs.length=N at *
  have q:(64:Int)<N:=by omega
  clear d h
  go_enter Tryz.func193,Tryz.ntmps193
  go_wp2_with fail
  go_ret2
  exact⟨rfl,(Below.refl w.heap.size w).alloc (Nat.le_refl _) _⟩
 | week h f=>
  generalize rs.length=N at *
  have q:¬ (64:Int)<N:=by omega
  clear d h;rcases (show W<0\/(¬ W<0/\127<=W) by omega) with a | ⟨a,r⟩
  all_goals
   clear f
   go_enter Tryz.func193,Tryz.ntmps193
   go_wp2_with fail
   go_ret2
   exact⟨rfl,(Below.refl w.heap.size w).alloc (Nat.le_refl _) _⟩
 | rule k n f l o g=>exact rj W p b off c rs k 60 k w f d n (by omega) g (Or.inr ⟨l,o,rfl,rfl⟩)
 | ok h=>exact rj W p b off c rs rs.length 0 0 w ⟨h.w0,h.w1⟩ d h.len (Nat.le_refl _) (fun j i=>h.fit _ (qZ i)) (Or.inl ⟨rfl,rfl,rfl⟩)
end Go.Proofs.YtfdddijdjpijbaaGreat
