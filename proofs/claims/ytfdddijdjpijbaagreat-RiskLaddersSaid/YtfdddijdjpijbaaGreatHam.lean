/-  -/
import Derived.Test.YtfdddijdjpijbaaGreatHal
import Derived.BigQuiet
set_option maxHeartbeats 3200000
namespace Go.Proofs.YtfdddijdjpijbaaGreat
open Go.RowKit
theorem No {mon day nth wd off fr to mv y:Int} (a:okD y mon day) (b:fr<=y/\y<=to):ck ⟨1,mon,day,nth,wd,off,fr,to,mv⟩ y=some (aX y mon day):=by
 unfold ck nR;dsimp only;rw [if_neg (by decide),if_neg (by omega),if_pos rfl,if_pos a]
theorem Np {mon day nth wd off fr to mv y:Int} (a:¬ okD y mon day):ck ⟨1,mon,day,nth,wd,off,fr,to,mv⟩ y=none:=by
 unfold ck nR;dsimp only;rw [if_neg (by decide),if_pos rfl,if_neg a]
 split<;>rfl
theorem vS {kind mon day nth wd off fr to mv y:Int} (a:kind≠4) (b:¬ (fr<=y/\y<=to)):ck ⟨kind,mon,day,nth,wd,off,fr,to,mv⟩ y=none:=by
 unfold ck nR;dsimp only;rw [if_neg a,if_pos (by omega)]
theorem Nq {mon day nth wd off fr to mv y:Int} (a:fr<=y/\y<=to):ck ⟨2,mon,day,nth,wd,off,fr,to,mv⟩ y=some (FM y mon wd nth):=by
 unfold ck nR;dsimp only;rw [if_neg (by decide),if_neg (by omega),if_neg (by decide),if_pos rfl]
theorem Nr {mon day nth wd off fr to mv y:Int} (a:fr<=y/\y<=to):ck ⟨3,mon,day,nth,wd,off,fr,to,mv⟩ y=some (jv y+off):=by
 unfold ck nR;dsimp only;rw [if_neg (by decide),if_neg (by omega),if_neg (by decide),if_neg (by decide),if_pos rfl]
theorem Ns {mon day nth wd off fr to mv y m d:Int} (h:IsD day y m d):ck ⟨4,mon,day,nth,wd,off,fr,to,mv⟩ y=some day:=by
 unfold ck;dsimp only;rw [if_pos rfl,if_pos (tO h)]
theorem Nt {mon day nth wd off fr to mv y y0 m d:Int} (h:IsD day y0 m d) (a:y0≠y):ck ⟨4,mon,day,nth,wd,off,fr,to,mv⟩ y=none:=by
 unfold ck;dsimp only;rw [if_pos rfl,if_neg (by rw [tO h];exact a)]
theorem Nu (mon day nth wd off fr to mv y:Int) (w:World) :
  Calls Tryz.prog 252 #[.agg #[.int .i64 1,.int .i64 mon,.int .i64 day,.int .i64 nth,.int .i64 wd,.int .i64 off,.int .i64 fr,.int .i64 to,.int .i64 mv],.int .i64 y] w fun e k=>∃ N,e=.returned (.tuple #[.int .i64 N,.bool (ck ⟨1,mon,day,nth,wd,off,fr,to,mv⟩ y).isSome])/\(∀ g,ck ⟨1,mon,day,nth,wd,off,fr,to,mv⟩ y=some g->N=g)/\Below w.heap.size w k:=by
 have a:=hideS (fun o=>(Below.refl w.heap.size w).alloc (Nat.le_refl _) o)
 by_cases b:okD y mon day
 ·have j:=hideS (fun f=>mZ y mon day f b)
  have i:=hideS (fun f=>aK y fr to f)
  by_cases c:fr<=y/\y<=to
  ·rw [No b c];rw [decide_eq_true c] at i
   generalize aX y mon day=D at *
   clear b c
   go_enter Tryz.func252,Tryz.ntmps252
   go_wp2_with (first | (go_at_call 187;refine (j.out _).mono ?_;rintro e h ⟨rfl,rfl⟩) | (go_at_call 209;refine (i.out _).mono ?_;rintro e h ⟨rfl,rfl⟩))
   go_ret2
   exact⟨_,rfl,fun g d=>Option.some.inj d,a.out _⟩
  ·rw [vS (by decide) c]
   rw [decide_eq_false c] at i
   generalize aX y mon day=D at *
   clear b c
   go_enter Tryz.func252,Tryz.ntmps252
   go_wp2_with (first | (go_at_call 187;refine (j.out _).mono ?_;rintro e h ⟨rfl,rfl⟩) | (go_at_call 209;refine (i.out _).mono ?_;rintro e h ⟨rfl,rfl⟩))
   go_ret2
   exact⟨_,rfl,fun g d=>(by cases d),a.out _⟩
 ·have j:=hideS (fun f=>Ni y mon day f b)
  rw [Np b];clear b
  go_enter Tryz.func252,Tryz.ntmps252
  go_wp2_with (go_at_call 187;refine (j.out _).mono ?_;rintro e h ⟨rfl,rfl⟩)
  go_ret2
  exact⟨_,rfl,fun g d=>(by cases d),a.out _⟩
theorem KM {f L wd k:Int} (_d0:0<=wd) (_d1:wd<=6) (g:1<=k) (d:k<=5) (h:28<=L) (_f0:0<=f) :
  (if k=5/\f+L<=f+(wd - f) % 7+7*(k - 1) then f+(wd - f) % 7+7*(k - 1) - 7 else f+(wd - f) % 7+7*(k - 1))=if f+L<=f+(wd+7 - f % 7) % 7+7*(k - 1) then f+(wd+7 - f % 7) % 7+7*(k - 1) - 7 else f+(wd+7 - f % 7) % 7+7*(k - 1):=by
 have e:(wd+7 - f % 7) % 7=(wd - f) % 7:=by omega
 rw [e]
 by_cases a:k=5
 ·by_cases b:f+L<=f+(wd - f) % 7+7*(k - 1)
  ·rw [if_pos ⟨a,b⟩,if_pos b]
  ·rw [if_neg (fun c=>b c.2),if_neg b]
 ·rw [if_neg (fun c=>a c.1),if_neg (by omega)]
theorem Nv (mon day nth wd off fr to mv y:Int) (w:World) (x:1<=mon) (v:mon<=12) (B:0<=wd) (s:wd<=6) (E:1<=nth) (z:nth<=5) (I:1900<=fr) (H:to<=2199) :
  Calls Tryz.prog 255 #[.agg #[.int .i64 2,.int .i64 mon,.int .i64 day,.int .i64 nth,.int .i64 wd,.int .i64 off,.int .i64 fr,.int .i64 to,.int .i64 mv],.int .i64 y] w fun e D=>∃ N,e=.returned (.tuple #[.int .i64 N,.bool (ck ⟨2,mon,day,nth,wd,off,fr,to,mv⟩ y).isSome])/\(∀ g,ck ⟨2,mon,day,nth,wd,off,fr,to,mv⟩ y=some g->N=g)/\Below w.heap.size w D:=by
 have d:=hideS (fun o=>(Below.refl w.heap.size w).alloc (Nat.le_refl _) o)
 have m:=hideS (fun h=>aK y fr to h)
 by_cases k:fr<=y/\y<=to
 ·rw [Nq k];rw [decide_eq_true k] at m
  have b:ymB y mon:=⟨by omega,by omega,x,v⟩
  have l:=hideS (fun h=>fK y mon h b)
  have r:=hideS (fun h=>mZ y mon 1 h (nf b 1 (by omega) (by omega)))
  obtain⟨u,J⟩:=(mY (nf b 1 (by omega) (by omega))).range
  have F:=jr y mon;have K:=js y mon;have c:FM y mon wd nth=if aX y mon 1+cI y mon<=aX y mon 1+(wd+7 - aX y mon 1 % 7) % 7+7*(nth - 1) then aX y mon 1+(wd+7 - aX y mon 1 % 7) % 7+7*(nth - 1) - 7 else aX y mon 1+(wd+7 - aX y mon 1 % 7) % 7+7*(nth - 1):=KM B s E z F u
  obtain⟨R,p⟩:∃ R,FM y mon wd nth=R:=⟨_,rfl⟩;rw [p] at c ⊢
  clear p b k;generalize aX y mon 1=f at *
  generalize cI y mon=L at *
  obtain⟨a,C⟩:∃ a,f % 7=a:=⟨_,rfl⟩;rw [C] at c
  obtain⟨t,A⟩:∃ t,(wd+7 - a) % 7=t:=⟨_,rfl⟩;rw [A] at c
  have M:0<=t:=by omega
  have G:t<=6:=by omega
  by_cases n:f+L<=f+t+7*(nth - 1)
  ·rw [if_pos n] at c
   have q:=hideS c;clear c
   go_enter Tryz.func255,Tryz.ntmps255
   go_wp2_with (first | (go_at_call 205;refine (l.out _).mono ?_;rintro e i ⟨rfl,rfl⟩) | (go_at_call 187;refine (r.out _).mono ?_;rintro e i ⟨rfl,rfl⟩) | (go_at_call 209;refine (m.out _).mono ?_;rintro e i ⟨rfl,rfl⟩))
   go_ret2
   exact⟨_,rfl,fun g j=>(by rw [<- Option.some.inj j,q.out]),d.out _⟩
  ·rw [if_neg n] at c
   have q:=hideS c;clear c
   go_enter Tryz.func255,Tryz.ntmps255
   go_wp2_with (first | (go_at_call 205;refine (l.out _).mono ?_;rintro e i ⟨rfl,rfl⟩) | (go_at_call 187;refine (r.out _).mono ?_;rintro e i ⟨rfl,rfl⟩) | (go_at_call 209;refine (m.out _).mono ?_;rintro e i ⟨rfl,rfl⟩))
   go_ret2
   exact⟨_,rfl,fun g j=>(by rw [<- Option.some.inj j,q.out]),d.out _⟩
 ·rw [vS (by decide) k]
  rw [decide_eq_false k] at m
  clear k
  by_cases b:ymB y mon
  ·have l:=hideS (fun h=>fK y mon h b)
   generalize cI y mon=L at *
   clear b
   go_enter Tryz.func255,Tryz.ntmps255
   go_wp2_with (first | (go_at_call 205;refine (l.out _).mono ?_;rintro e i ⟨rfl,rfl⟩) | (go_at_call 209;refine (m.out _).mono ?_;rintro e i ⟨rfl,rfl⟩))
   go_ret2
   exact⟨_,rfl,fun g j=>(by cases j),d.out _⟩
  ·have l:=hideS (fun h=>jt y mon h b)
   clear b
   go_enter Tryz.func255,Tryz.ntmps255
   go_wp2_with (go_at_call 205;refine (l.out _).mono ?_;rintro e i ⟨rfl,rfl⟩)
   go_ret2
   exact⟨_,rfl,fun g j=>(by cases j),d.out _⟩
theorem Nw (mon day nth wd off fr to mv y:Int) (w:World) (n:0<=day) (i:day<=109572) :
  Calls Tryz.prog 261 #[.agg #[.int .i64 4,.int .i64 mon,.int .i64 day,.int .i64 nth,.int .i64 wd,.int .i64 off,.int .i64 fr,.int .i64 to,.int .i64 mv],.int .i64 y] w fun e p=>∃ N,e=.returned (.tuple #[.int .i64 N,.bool (ck ⟨4,mon,day,nth,wd,off,fr,to,mv⟩ y).isSome])/\(∀ g,ck ⟨4,mon,day,nth,wd,off,fr,to,mv⟩ y=some g->N=g)/\Below w.heap.size w p:=by
 have a:=hideS (fun o=>(Below.refl w.heap.size w).alloc (Nat.le_refl _) o)
 obtain⟨f,l,q,b⟩:=iJ n i;have h:=hideS (fun m=>gS day f l q m b)
 by_cases c:f=y
 ·subst c;rw [Ns b];clear b
  go_enter Tryz.func261,Tryz.ntmps261
  go_wp2_with (go_at_call 170;refine (h.out _).mono ?_;rintro e k ⟨rfl,rfl⟩)
  go_ret2
  exact⟨_,rfl,fun g d=>Option.some.inj d,a.out _⟩
 ·rw [Nt b c];have j:(f==y)=false:=beq_eq_false_iff_ne.2 c;clear b c
  go_enter Tryz.func261,Tryz.ntmps261
  go_wp2_with (go_at_call 170;refine (h.out _).mono ?_;rintro e k ⟨rfl,rfl⟩)
  go_ret2
  exact⟨_,rfl,fun g d=>(by cases d),a.out _⟩
theorem Nx (mon day nth wd off fr to mv y:Int) (w:World) (s: -100<=off) (t:off<=100) (z:1900<=fr) (u:to<=2199) :
  Calls Tryz.prog 257 #[.agg #[.int .i64 3,.int .i64 mon,.int .i64 day,.int .i64 nth,.int .i64 wd,.int .i64 off,.int .i64 fr,.int .i64 to,.int .i64 mv],.int .i64 y] w fun e r=>∃ N,e=.returned (.tuple #[.int .i64 N,.bool (ck ⟨3,mon,day,nth,wd,off,fr,to,mv⟩ y).isSome])/\(∀ g,ck ⟨3,mon,day,nth,wd,off,fr,to,mv⟩ y=some g->N=g)/\Below w.heap.size w r:=by
 have j:=hideS (fun o=>(Below.refl w.heap.size w).alloc (Nat.le_refl _) o)
 have m:=hideS (fun k=>aK y fr to k)
 obtain⟨h,c⟩:∃ h,w.alloc (.cells #[.int .i64 3,.int .i64 mon,.int .i64 day,.int .i64 nth,.int .i64 wd,.int .i64 off,.int .i64 fr,.int .i64 to,.int .i64 mv] 242)=h:=⟨_,rfl⟩;have C:h.cell? ⟨w.heap.size,5,none⟩=some (.int .i64 off):=by rw [<- c];simp
 have B:h.cell? ⟨w.heap.size,6,none⟩=some (.int .i64 fr):=by rw [<- c];simp
 have A:h.cell? ⟨w.heap.size,7,none⟩=some (.int .i64 to):=by rw [<- c];simp
 have d:Hid (Below w.heap.size w h):=by rw [<- c];exact j.out _
 have p:=hideS c;clear c j
 by_cases b:1900<=y/\y<=2199
 ·have n:=hideS (fun k=>FN y k b.1 b.2)
  obtain⟨x,v⟩:0<=jv y/\jv y<=109572:=(mY (tL b.1 b.2).ok).range
  by_cases f:fr<=y/\y<=to
  ·rw [Nr f];rw [decide_eq_true f] at m
   generalize jv y=D at *
   have l:IntKind.i64.wrap (D+off)=D+off:=by rw [IntKind.wrap_i64];omega
   clear f b
   go_enter Tryz.func257,Tryz.ntmps257
   go_wp2_with (go_at_call 259;refine (n.out _).mono ?_;rintro e q ⟨rfl,rfl⟩)
   rw [p.out]
   go_quiet ((go_at_call 209;exact Calls.quiet_of_same (m.out _)))
   go_wp2_with fail
   go_ret2
   exact⟨_,rfl,fun g i=>Option.some.inj i,below_drewN' d.out⟩
  ·rw [vS (by decide) f]
   rw [decide_eq_false f] at m
   generalize jv y=D at *
   have l:IntKind.i64.wrap (D+off)=D+off:=by rw [IntKind.wrap_i64];omega
   clear f b
   go_enter Tryz.func257,Tryz.ntmps257
   go_wp2_with (go_at_call 259;refine (n.out _).mono ?_;rintro e q ⟨rfl,rfl⟩)
   rw [p.out]
   go_quiet ((go_at_call 209;exact Calls.quiet_of_same (m.out _)))
   go_wp2_with fail
   go_ret2
   exact⟨_,rfl,fun g i=>(by cases i),below_drewN' d.out⟩
 ·have n:=hideS (fun k=>BL y k b)
  rw [vS (by decide) (fun a=>b (by omega))]
  have l:IntKind.i64.wrap (0+off)=0+off:=by rw [IntKind.wrap_i64];omega
  clear b
  go_enter Tryz.func257,Tryz.ntmps257
  go_wp2_with (go_at_call 259;refine (n.out _).mono ?_;rintro e q ⟨rfl,rfl⟩)
  rw [p.out]
  go_quiet (fail)
  go_wp2_with fail
  go_ret2
  exact⟨_,rfl,fun g i=>(by cases i),below_drewN' d.out⟩
def CBoxP (w:World) (W:Int) (v:Value) (wr:World):Prop:=Below (w.heap.size+1) (w.alloc (.cells #[.int .i64 W,v] 96)) wr
theorem CBoxP.cells {w w1:World} {W:Int} {v:Value} (a:CBoxP w W v w1) :
  w1.cell? ⟨w.heap.size,0,none⟩=some (.int .i64 W)/\w1.cell? ⟨w.heap.size,1,none⟩=some v:=by
 refine⟨?_,?_⟩
 ·rw [Below.cell a (p:=⟨w.heap.size,0,none⟩) (by simp)];simp
 ·rw [Below.cell a (p:=⟨w.heap.size,1,none⟩) (by simp)];simp
theorem CBoxP.step {w wr a:World} {W:Int} {v:Value} (h:CBoxP w W v wr) (b:Below wr.heap.size wr a):CBoxP w W v a:=
 Below.trans h (b.mono (by have:=Below.size h;simp at this;omega))
theorem CBoxP.below {w wr:World} {W:Int} {v:Value} (h:CBoxP w W v wr):Below w.heap.size w wr:=
 ((Below.refl w.heap.size w).alloc (Nat.le_refl _) _).trans (Below.mono h (by omega))
theorem CBoxP.first {w a:World} {W:Int} {v:Value} (b:Below (w.alloc (.cells #[.int .i64 W,v] 96)).heap.size (w.alloc (.cells #[.int .i64 W,v] 96)) a):CBoxP w W v a:=
 b.mono (by simp)
theorem iL {wr a c:World} {o:Obj} (b:Below (wr.alloc o).heap.size (wr.alloc o) a) (d:Below a.heap.size a c):Below wr.heap.size wr c:=
 (((Below.refl wr.heap.size wr).alloc (Nat.le_refl _) o).trans (b.mono (by simp))).trans (d.mono (by have:=b.size;simp at this;omega))
theorem rj (W:Int) (p:Option Addr) (b off c:Nat) (rs:List Rul) (K:Nat) (A B:Int) (w:World) (X:0<=W/\W<=126) (Z:RSrc w p b off rs) (hl:rs.length<=64) (hK:K<=rs.length) (Y:∀ j<K,cD (rs.getD j jw)=true)
  (hE:(K=rs.length/\A=0/\B=0)\/(K<rs.length/\cD (rs.getD K jw)=false/\A=60/\B=K)) :
  Calls Tryz.prog 193 #[.agg #[.int .i64 W,.slice p rs.length c]] w fun e F=>e=.returned (.tuple #[.int .i64 A,.int .i64 B])/\Below w.heap.size w F:=by
 obtain⟨X,w1⟩:=X;have ab:¬ 127<=W:=by omega
 have U:=hideS Z;have HF:=hideS Y;have P:=hideS hE;clear Z Y hE;obtain⟨N,O⟩:∃ N,rs.length=N:=⟨_,rfl⟩;have HN:=hideS O;rw [O] at hl hK ⊢
 rw [O] at P
 clear O
 go_enter Tryz.func193,Tryz.ntmps193
 go_wp2_with fail
 have S:Hid (CBoxP w W (.slice p N c) (w.alloc (.cells #[.int .i64 W,.slice p N c] 96))):=Below.refl _ _
 go_loopw [21] (fun i wr=>∃ (k:Nat),k<=K/\i=.int .i64 k/\Hid (CBoxP w W (.slice p N c) wr)) (fun i _=>N - (intOf i).toNat)
 case atStart=>exact⟨0,by omega,rfl,S⟩
 case round=>
  obtain⟨k,hk,rfl,D⟩:=hrel
  by_cases Q:k<N
  ·have V:k<rs.length:=by rw [HN.out];exact Q
   obtain rfl:=U.out.at_ (by omega)
   have L:=(U.out.cell k V).below D.out.below (U.out.lt (by omega))
   have I:=HF.out k;have J:k<K\/(cD (rs.getD k jw)=false/\A=60/\B=k):=by
    by_cases T:k<K
    ·exact Or.inl T
    ·obtain rfl:k=K:=by omega
     rcases P.out with⟨a,_⟩| ⟨_,a⟩
     ·omega
     ·exact Or.inr a
   generalize rs.getD k jw=r at L I J
   clear V;obtain⟨g0,g1,g2,g3,g4,g5,g6,g7,g8⟩:=L;have M:∀ R,cD r=R->(k<K/\R=true)\/(R=false/\A=60/\B=k):=fun R q=>by
    rw [<- q]
    by_cases a:k<K
    ·exact Or.inl ⟨a,I a⟩
    ·rcases J with b | b
     ·exact absurd b a
     ·exact Or.inr b
   clear I J;have h:=hideS M;clear M;obtain⟨o,m,day,n,wd,g,z,C,y⟩:=r;dsimp only at *
   by_cases t:o=1\/o=2\/o=3\/o=4
   ·rcases t with rfl | rfl | rfl | rfl
    ·have x:=hideS (fun l=>(bD 1 m day n wd g z C y l (by omega):Calls Tryz.prog 208 _ l fun e F=>e=.returned (.iface 240 _)/\Below l.heap.size l F))
     have s:=hideS (fun l=>KJ m day n wd g z C y l)
     obtain⟨R,q⟩:∃ R,cD ⟨1,m,day,n,wd,g,z,C,y⟩=R:=⟨_,rfl⟩;have u:=h.out R q;rw [q] at s
     clear q h;rcases u with⟨a,rfl⟩| ⟨rfl,a⟩
     ·go_wp2_with (first | (go_at_call 208;refine (x.out _).mono ?_;rintro e G ⟨rfl,f⟩) | (go_at_call 253;refine (s.out _).mono ?_;rintro e H ⟨rfl,d⟩))
      have v:=hideS (D.out.step (iL f d));clear f d
      go_roundw
      case rel=>exact⟨k+1,by omega,by go_num,v⟩
      case measure=>simp [intOf];omega
     ·have E:=hideS a;clear a
      go_wp2_with (first | (go_at_call 208;refine (x.out _).mono ?_;rintro e G ⟨rfl,f⟩) | (go_at_call 253;refine (s.out _).mono ?_;rintro e H ⟨rfl,d⟩))
      go_ret2
      obtain⟨rfl,rfl⟩:=E.out;exact⟨rfl,(D.out.step (iL f d)).below⟩
    ·have x:=hideS (fun l=>(bD 2 m day n wd g z C y l (by omega):Calls Tryz.prog 208 _ l fun e F=>e=.returned (.iface 241 _)/\Below l.heap.size l F))
     have s:=hideS (fun l=>KI m day n wd g z C y l)
     obtain⟨R,q⟩:∃ R,cD ⟨2,m,day,n,wd,g,z,C,y⟩=R:=⟨_,rfl⟩;have u:=h.out R q;rw [q] at s
     clear q h;rcases u with⟨a,rfl⟩| ⟨rfl,a⟩
     ·go_wp2_with (first | (go_at_call 208;refine (x.out _).mono ?_;rintro e G ⟨rfl,f⟩) | (go_at_call 256;refine (s.out _).mono ?_;rintro e H ⟨rfl,d⟩))
      have v:=hideS (D.out.step (iL f d));clear f d
      go_roundw
      case rel=>exact⟨k+1,by omega,by go_num,v⟩
      case measure=>simp [intOf];omega
     ·have E:=hideS a;clear a
      go_wp2_with (first | (go_at_call 208;refine (x.out _).mono ?_;rintro e G ⟨rfl,f⟩) | (go_at_call 256;refine (s.out _).mono ?_;rintro e H ⟨rfl,d⟩))
      go_ret2
      obtain⟨rfl,rfl⟩:=E.out;exact⟨rfl,(D.out.step (iL f d)).below⟩
    ·have x:=hideS (fun l=>(bD 3 m day n wd g z C y l (by omega):Calls Tryz.prog 208 _ l fun e F=>e=.returned (.iface 242 _)/\Below l.heap.size l F))
     have s:=hideS (fun l=>KH m day n wd g z C y l)
     obtain⟨R,q⟩:∃ R,cD ⟨3,m,day,n,wd,g,z,C,y⟩=R:=⟨_,rfl⟩;have u:=h.out R q;rw [q] at s
     clear q h;rcases u with⟨a,rfl⟩| ⟨rfl,a⟩
     ·go_wp2_with (first | (go_at_call 208;refine (x.out _).mono ?_;rintro e G ⟨rfl,f⟩) | (go_at_call 258;refine (s.out _).mono ?_;rintro e H ⟨rfl,d⟩))
      have v:=hideS (D.out.step (iL f d));clear f d
      go_roundw
      case rel=>exact⟨k+1,by omega,by go_num,v⟩
      case measure=>simp [intOf];omega
     ·have E:=hideS a;clear a
      go_wp2_with (first | (go_at_call 208;refine (x.out _).mono ?_;rintro e G ⟨rfl,f⟩) | (go_at_call 258;refine (s.out _).mono ?_;rintro e H ⟨rfl,d⟩))
      go_ret2
      obtain⟨rfl,rfl⟩:=E.out;exact⟨rfl,(D.out.step (iL f d)).below⟩
    ·have x:=hideS (fun l=>(bD 4 m day n wd g z C y l (by omega):Calls Tryz.prog 208 _ l fun e F=>e=.returned (.iface 243 _)/\Below l.heap.size l F))
     have s:=hideS (fun l=>KG m day n wd g z C y l)
     obtain⟨R,q⟩:∃ R,cD ⟨4,m,day,n,wd,g,z,C,y⟩=R:=⟨_,rfl⟩;have u:=h.out R q;rw [q] at s
     clear q h;rcases u with⟨a,rfl⟩| ⟨rfl,a⟩
     ·go_wp2_with (first | (go_at_call 208;refine (x.out _).mono ?_;rintro e G ⟨rfl,f⟩) | (go_at_call 262;refine (s.out _).mono ?_;rintro e H ⟨rfl,d⟩))
      have v:=hideS (D.out.step (iL f d));clear f d
      go_roundw
      case rel=>exact⟨k+1,by omega,by go_num,v⟩
      case measure=>simp [intOf];omega
     ·have E:=hideS a;clear a
      go_wp2_with (first | (go_at_call 208;refine (x.out _).mono ?_;rintro e G ⟨rfl,f⟩) | (go_at_call 262;refine (s.out _).mono ?_;rintro e H ⟨rfl,d⟩))
      go_ret2
      obtain⟨rfl,rfl⟩:=E.out;exact⟨rfl,(D.out.step (iL f d)).below⟩
   ·have x:=hideS (fun l=>rh o m day n wd g z C y l t)
    have s:=hideS (fun l=>KK l)
    have E:Hid (A=60/\B=k):=by
     rcases h.out _ (PE (fun a=>t (by omega)) (fun a=>t (by omega)) (fun a=>t (by omega)) (fun a=>t (by omega))) with⟨_,a⟩| ⟨_,a⟩
     ·exact Bool.noConfusion a
     ·exact a
    clear h t
    go_wp2_with (first | (go_at_call 208;refine (x.out _).mono ?_;rintro e G ⟨rfl,f⟩) | (go_at_call 264;refine (s.out _).mono ?_;rintro e H ⟨rfl,d⟩))
    go_ret2
    obtain⟨rfl,rfl⟩:=E.out;exact⟨rfl,(D.out.step (iL f d)).below⟩
  ·have E:Hid (A=0/\B=0):=by
    rcases P.out with⟨_,a⟩| ⟨a,_⟩
    ·exact a
    ·omega
   have ad:¬ (k:Int)<N:=by omega
   go_wp2_with fail
   go_ret2
   obtain⟨rfl,rfl⟩:=E.out;exact⟨rfl,D.out.below⟩
theorem tT (W:Int) (p:Option Addr) (b off c:Nat) (rs:List Rul) (A B:Int) (w:World) (h:ChkR W rs A B) (d:RSrc w p b off rs) (s:rs.length<=9223372036854775807) :
  Calls Tryz.prog 193 #[.agg #[.int .i64 W,.slice p rs.length c]] w fun e n=>e=.returned (.tuple #[.int .i64 A,.int .i64 B])/\Below w.heap.size w n:=by
 cases h with
 | long h=>
  generalize rs.length=N at *
  have q:(64:Int)<N:=by omega
  clear d h
  go_enter Tryz.func193,Tryz.ntmps193
  go_wp2_with fail
  go_ret2
  exact⟨rfl,(Below.refl w.heap.size w).alloc (Nat.le_refl _) _⟩
 | week h f=>
  generalize rs.length=N at *
  have q:¬ (64:Int)<N:=by omega
  clear d h;rcases (show W<0\/(¬ W<0/\127<=W) by omega) with a | ⟨a,r⟩
  all_goals
   clear f
   go_enter Tryz.func193,Tryz.ntmps193
   go_wp2_with fail
   go_ret2
   exact⟨rfl,(Below.refl w.heap.size w).alloc (Nat.le_refl _) _⟩
 | rule k m f o l i=>exact rj W p b off c rs k 60 k w f d m (by omega) i (Or.inr ⟨o,l,rfl,rfl⟩)
 | ok h=>exact rj W p b off c rs rs.length 0 0 w ⟨h.w0,h.w1⟩ d h.len (Nat.le_refl _) (fun j g=>h.fit _ (qZ g)) (Or.inl ⟨rfl,rfl,rfl⟩)
end Go.Proofs.YtfdddijdjpijbaaGreat
