/-  -/
import Derived.Test.YtfdddijdjpijbaaGreatHaz
import Derived.Test.YtfdddijdjpijbaaGreatHay
import Derived.Test.YtfdddijdjpijbaaGreatHas
import Derived.Test.YtfdddijdjpijbaaGreatHaq
import Derived.Test.YtfdddijdjpijbaaGreatHal
import Derived.Test.YtfdddijdjpijbaaGreatHaw
import Derived.Test.YtfdddijdjpijbaaGreatNFrac
import Derived.Eval
set_option maxHeartbeats 3200000
set_option maxRecDepth 20000
namespace Go.Proofs.YtfdddijdjpijbaaGreat
open Go.RowKit
theorem DL:FitL lnL:=by unfold FitL;decide
theorem JP {cs:List Nat} {x:Nat} (b:FitL cs):∀ k q,hornAt cs x k=some q->q<18446744073709551616
 | 0,q,h=>by
  have:cs.getD (cs.length - 1) 0=q:=Option.some.inj h;rw [<- this];exact b.get _
 | k+1,q,h=>by
  have a:gj x (hornAt cs x k) (cs.getD (cs.length - 2 - k) 0)=some q:=h;rw [<- pW] at a
  exact cR (by simp) a
theorem BJ {cs:List Nat} {x:Nat} (a:FitL cs):cn (bj cs x)<18446744073709551616:=by
 cases h:bj cs x with
 | none=>decide
 | some q=>
  unfold bj at h
  split at h
  ·have:0=q:=Option.some.inj h
   show q<_
   omega
  ·exact JP a _ q h
theorem PF (k:Nat) (d:k<11):∃ fz c:Int,Hid (∀ w,Calls Tryz.prog 101 #[.int .i64 (2*(k:Int)+1)] w fun e b=>e=.returned (.int .u64 fz)/\Below w.heap.size w b)/\
  Hid (∀ w,Calls Tryz.prog 144 #[.int .u64 4607182418800017408,.int .u64 fz] w fun e b=>e=.returned (.int .u64 c)/\Below w.heap.size w b)/\Hid (Value.int IntKind.u64 c=uV (lnL.getD k 0)):=by
 refine⟨(fi (2*(k:Int)+1):Int),(lnL.getD k 0:Int),fun w=>cY _ w (by omega) (by omega),fun w=>?_,rfl⟩
 have:=iD 4607182418800017408 (fi (2*(k:Int)+1)) 4607182418800017408 _ w rfl rfl (by unfold U64;omega) (af (xt (a:=2*(k:Int)+1) rfl (by omega) (by omega)).2.2.2)
 have e:=Jv k d;rw [show ((2*k+1:Nat):Int)=2*(k:Int)+1 by omega] at e
 rw [e,ao] at this;exact this
theorem FG (x N a b hi lo:Nat) (u e cc:Int) (w:World) (hu:u=(x:Int)) (h:U64 u) (hn:ah u=false) (cq:sgB u=false) (hz:(szI u==0)=false) (bb:aX u=false) (dE:ag x) (ho:OfR x false N e) (P:N≠0)
  (q1:floatBits .sub .f64 (lnM N) 4607182418800017408=some a) (q2:floatBits .add .f64 (lnM N) 4607182418800017408=some b) (q8:floatBits .mul .f64 (fi (lnK N e)) 4604418534311723008=some hi) (q9:floatBits .mul .f64 (fi (lnK N e)) 4461442080421002358=some lo) (bh:(cn (lnO a b hi lo):Int)=cc) :
  Calls Tryz.prog 148 #[.int .u64 u] w fun e m=>e=.returned (.int .u64 cc)/\Below w.heap.size w m:=by
 have q:=ho.lt;have eP:=ho.lo;have O:=ho.hi;have ed:N.log2<=52:=by have:=(Nat.log2_lt P).2 (show N<2^53 from q);omega
 obtain⟨o1,o2⟩:=lU P q;obtain⟨i0,ep,em,es,ek⟩:=info_parts infoU;have HN:=hideS (aj u · h);rw [hn] at HN
 have cp:Hid (∀ w,Calls Tryz.prog 151 #[.int .u64 u] w fun e m=>e=.returned (.bool false)/\m=w):=fun w=>by
  have:=bZ u w;rw [cq] at this;exact this
 have cl:=hideS (aH u · h);have HI:=hideS (av u · h);rw [bb] at HI
 have dF:Hid (∀ w,Calls Tryz.prog 74 #[.int .u64 u] w fun r m=>∃ v,r=.returned (.agg #[.bool false,v,.int .i64 e])/\DN m v N/\Below w.heap.size w m):=fun w=>by
  refine (eL x u w hu h dE).mono ?_
  rintro r m ⟨neg,v,N',e',rfl,hd,bo,d⟩;have dV:N'≠0:=by
   intro c;have v1:=bo.val;have v2:=ho.val;rw [c,Nat.zero_mul] at v1
   rw [<- v1] at v2
   rcases Nat.mul_eq_zero.1 v2 with c | c
   ·exact P c
   ·have:=Nat.two_pow_pos (e+1074).toNat;omega
  obtain⟨m1,m2⟩:=bo.mag dV;obtain⟨n1,n2⟩:=ho.mag P;have e1:N'=N:=by rw [m1,n1]
  have e2:e'=e:=by rw [m2,n2]
  have e3:neg=false:=by rw [bo.sgn dV,<- ho.sgn P]
  subst e1 e2 e3;exact⟨v,rfl,hd,d⟩
 obtain⟨Bl,cd⟩:∃ Bl:Int,(bl N:Int)=Bl:=⟨_,rfl⟩;have cr:Bl=(N.log2:Int)+1:=by rw [<- cd,eK P];rfl
 obtain⟨F,ej⟩:∃ F:Int,Bl - 1+e=F:=⟨_,rfl⟩;have f1:IntKind.i64.wrap (Bl - 1)=Bl - 1:=by rw [IntKind.wrap_i64];omega
 have f2:IntKind.i64.wrap (Bl - 1+e)=F:=by rw [IntKind.wrap_i64];omega
 have eB: -1100<=F:=by omega
 have eW:F<=1100:=by omega
 obtain⟨m0,y⟩:∃ m0:Int,m0=(oneB N:Int):=⟨_,rfl⟩;have cx:Hid (∀ v w,DN w v N->Calls Tryz.prog 77 #[.agg #[.bool false,v,.int .i64 (e - F)]] w fun r m=>r=.returned (.int .u64 m0)/\Below w.heap.size w m):=fun v w hd=>by
  have:=gJ false v (e - F) N w hd (by have:=dw q;omega) (by omega) (by omega)
  rw [fJ false _ P,if_neg (by decide),Int.zero_add,show e - F= -(N.log2:Int) by omega,tQ P q,<- y,<- show e - F= -(N.log2:Int) by omega] at this
  exact this
 have bk:U64 m0:=by rw [y];exact af (by omega)
 obtain⟨g,hg⟩:∃ g,decide (4609047870845172685<oneB N)=g:=⟨_,rfl⟩;have dy:Hid (∀ w,Calls Tryz.prog 60 #[.int .u64 4609047870845172685,.int .u64 m0] w fun r m=>r=.returned (.bool g)/\w=m):=fun w=>by
  have r1:=iL (b:=oneB N) (by omega)
  have r2:=iL (b:=4609047870845172685) (by decide)
  refine gP 4609047870845172685 m0 g w (by unfold U64;omega) bk (by decide) (by rw [y];exact r1.2.1) ?_
  rw [y,r1.2.2,show ae (4609047870845172685:Int)=4609047870845172685 from r2.2.2,<- hg]
  exact decide_eq_decide.2 (by omega)
 obtain⟨mi,G⟩:∃ mi:Int,mi=(lnM N:Int):=⟨_,rfl⟩;have bz:U64 mi:=by rw [G];exact af (by have:=(DK P q).2;omega)
 have X:Hid (g=true->∀ w,Calls Tryz.prog 63 #[.int .u64 m0,.int .u64 4602678819172646912] w fun r m=>r=.returned (.int .u64 mi)/\Below w.heap.size w m):=fun c w=>by
  have hc:4609047870845172685<oneB N:=by rw [c] at hg;exact of_decide_eq_true hg
  exact nf (z:=mi) y (v:=4602678819172646912) rfl bk (by unfold U64;omega) (JM (by omega) (by omega)) (by rw [G];unfold lnM;rw [if_pos hc]) w
 have df:g=false->m0=mi:=fun c=>by
  have hc:¬ 4609047870845172685<oneB N:=by rw [c] at hg;exact of_decide_eq_false hg
  rw [y,G];unfold lnM;rw [if_neg hc]
 have I:(if g then F+1 else F)=lnK N e:=by
  unfold lnK;rw [<- hg]
  by_cases c:4609047870845172685<oneB N
  ·rw [if_pos c,decide_eq_true c,if_pos rfl];omega
  ·rw [if_neg c,decide_eq_false c,if_neg (by decide)];omega
 obtain⟨ai,Z⟩:∃ ai:Int,ai=(a:Int):=⟨_,rfl⟩;obtain⟨bi,U⟩:∃ bi:Int,bi=(b:Int):=⟨_,rfl⟩;obtain⟨Y,O⟩:∃ Y:Int,Y=(hi:Int):=⟨_,rfl⟩;obtain⟨S,E⟩:∃ S:Int,S=(lo:Int):=⟨_,rfl⟩;obtain⟨fz,K⟩:∃ fz:Int,fz=(fi (lnK N e):Int):=⟨_,rfl⟩;have bx:U64 fz:=by rw [K];exact af (xt (a:=lnK N e) rfl (by rw [<- I];split<;>omega) (by rw [<- I];split<;>omega)).2.2.2
 obtain⟨s,W⟩:∃ s,floatBits .quo .f64 a b=s:=⟨_,rfl⟩;obtain⟨si,H⟩:∃ si:Int,si=(cn s:Int):=⟨_,rfl⟩;have V:U64 si:=by rw [H,<- W];exact af (xz (by simp) _ _)
 obtain⟨zi,ab⟩:∃ zi:Int,zi=(cn (opO .mul s s):Int):=⟨_,rfl⟩;have eb:U64 zi:=by rw [ab];exact af (qO (by simp) _ _)
 obtain⟨ti,am⟩:∃ ti:Int,ti=(cn (opO .mul (some 4611686018427387904) s):Int):=⟨_,rfl⟩;have dY:U64 ti:=by rw [am];exact af (qO (by simp) _ _)
 obtain⟨vi,bv⟩:∃ vi:Int,vi=(cn ((opO .mul s s).bind fun z=>bj lnL z):Int):=⟨_,rfl⟩
 have J:vi=(cn (bj lnL (cn (opO .mul s s))):Int):=by rw [bv,DJ (ID _) (by rw [lnL_len];decide)]
 have dd:U64 vi:=by rw [J];exact af (BJ DL)
 obtain⟨pi,Q⟩:∃ pi:Int,pi=(cn (opO .mul (opO .mul (some 4611686018427387904) s) ((opO .mul s s).bind fun z=>bj lnL z)):Int):=⟨_,rfl⟩
 have ds:U64 pi:=by rw [Q];exact af (qO (by simp) _ _)
 obtain⟨ci,ba⟩:∃ ci:Int,ci=(cn (opO .add (opO .mul (opO .mul (some 4611686018427387904) s) ((opO .mul s s).bind fun z=>bj lnL z)) (some lo)):Int):=⟨_,rfl⟩
 have dc:U64 ci:=by rw [ba];exact af (qO (by simp) _ _)
 have M:cc=(cn (opO .add (some hi) (opO .add (opO .mul (opO .mul (some 4611686018427387904) s) ((opO .mul s s).bind fun z=>bj lnL z)) (some lo))):Int):=by rw [<- bh,<- W];rfl
 have HS:=hideS fun w=>BE (z:=ai) G (v:=4607182418800017408) rfl bz (by unfold U64;omega) q1 Z w
 have HA:=hideS fun w=>JI (z:=bi) G (v:=4607182418800017408) rfl bz (by unfold U64;omega) q2 U w
 have ec:U64 ai:=gB (by simp) q1 Z
 have da:U64 bi:=gB (by simp) q2 U
 have HD:Hid (∀ w,Calls Tryz.prog 144 #[.int .u64 ai,.int .u64 bi] w fun r m=>r=.returned (.int .u64 si)/\Below w.heap.size w m):=fun w=>by
  have:=iD a b ai bi w Z U ec da;rw [W,<- H] at this;exact this
 have HZ:=hideS fun w=>BI H H V V ab w
 have HT:=hideS fun w=>BI (o:=some 4611686018427387904) (u:=4611686018427387904) rfl H (by unfold U64;omega) V am w
 have HH:Hid (∀ B v w,OwnF w B 41 uV v lnL->Calls Tryz.prog 103 #[v,.int .u64 zi] w fun e m=>e=.returned (.int .u64 vi)/\Below w.heap.size w m):=fun B v w hO=>by
  have:=kv B 11 (cn (opO .mul s s)) v zi lnL w hO DL ab eb lnL_len (by decide)
  rw [<- J] at this;exact this
 have HP:=hideS fun w=>BI am bv dY dd Q w
 have ca:Hid (∀ w,Calls Tryz.prog 101 #[.int .i64 (if g then F+1 else F)] w fun e m=>e=.returned (.int .u64 fz)/\Below w.heap.size w m):=fun w=>by
  rw [I];exact dW (lnK N e) fz w (by rw [<- I];split<;>omega) (by rw [<- I];split<;>omega) K.symm
 have el:=hideS fun w=>nf (z:=Y) K (v:=4604418534311723008) rfl bx (by unfold U64;omega) q8 O w
 have ef:=hideS fun w=>nf (z:=S) K (v:=4461442080421002358) rfl bx (by unfold U64;omega) q9 E w
 have HC:=hideS fun w=>JO (o':=some lo) Q (v:=S) E ds (gB (by simp) q9 E) ba w
 have HR:=hideS fun w=>JO (o:=some hi) (u:=Y) O ba (gB (by simp) q8 O) dc M w
 have dx:=hideS cd;have cu:=hideS q;clear h hn cq bb hu dE ho P q1 q2 q8 q9 bh ed q o1 o2 cd cr y bk G bz I Z U O E K bx W H V ab eb am dY bv J dd Q ds ba dc M ec da hg ej
 go_enter Tryz.func148,Tryz.ntmps148
 go_wp2_with fail
 refine (turned (HN.out _)).mono ?_
 rintro e m ⟨rfl,rfl⟩
 go_wp2_with fail
 refine (turned (cp.out _)).mono ?_
 rintro e m ⟨rfl,rfl⟩
 go_wp2_with fail
 refine (turned (cl.out _)).mono ?_
 rintro e m ⟨rfl,rfl⟩
 go_wp2_with fail
 refine (turned (HI.out _)).mono ?_
 rintro e m ⟨rfl,rfl⟩
 go_wp2_with fail
 refine (dF.out _).mono ?_
 rintro r w1 ⟨v1,rfl,al,t⟩;obtain⟨p,l,c,rfl⟩:=al.shape;have ad:=hideS (aD w1 false (.slice p l c) e);have dp:=hideS (al.below ad.out);have B1:=hideS (t.trans (ad.out.mono t.size));have ev:=hideS t.size;have cf:=hideS al;have HQ:Hid (∀ n,DN ((boxN w1 false (.slice p l c) e).drewN n) (.slice p l c) N):=fun n=>dp.out.drewN n
 clear t al dF HN cp cl HI
 go_wp2_with fail
 go_quiet ((go_at_call 95;exact Calls.quiet_of_same (mK (.slice p l c) N Bl _ (HQ.out _) (by have:=dw cu.out;omega) dx)))
 go_wp2_with fail
 obtain⟨w2,T⟩:∃ w2,w2=((boxN w1 false (.slice p l c) e).drewN nq).setCell ⟨w1.heap.size,2,none⟩ (Value.int IntKind.i64 (e - F)):=⟨_,rfl⟩;rw [<- T];have ea:Hid (Below w1.heap.size w1 w2):=by rw [T];exact (below_drewN ad.out _).setCell (Nat.le_refl _) _
 have B2:Hid (Below w.heap.size w w2):=by rw [T];exact (below_drewN B1.out _).setCell (show w.heap.size<=w1.heap.size from ev.out) _
 have cy:=hideS (cx.out _ w2 (cf.out.below ea.out));clear T ea B1 cf HQ dp ad cx dx cu f1 f2;refine cy.out.mono ?_
 rintro r w3 ⟨rfl,d⟩;have B3:=hideS (B2.out.trans (d.mono B2.out.size));clear d B2 cy
 go_wp2_with fail
 refine (dy.out _).mono ?_
 rintro r m ⟨rfl,rfl⟩;clear dy;cases g
 case' true=>
  simp only [if_true] at ca
  have dg:=hideS (X.out rfl);clear X;have X:True:=trivial
  go_wp2_with fail
  refine (dg.out _).mono ?_
  rintro r w4 ⟨rfl,d⟩;have B3:=hideS (B3.out.trans (d.mono B3.out.size));clear d dg
 case' false=>
  obtain rfl:=df rfl;simp only [Bool.false_eq_true,if_false] at ca
 all_goals
  clear X df
  go_wp2_with fail
  refine (HS.out _).mono ?_
  rintro r w5 ⟨rfl,d⟩;have B5:=hideS (B3.out.trans (d.mono B3.out.size));clear d
  go_wp2_with fail
  refine (HA.out _).mono ?_
  rintro r w6 ⟨rfl,d⟩;have B6:=hideS (B5.out.trans (d.mono B5.out.size));clear d
  go_wp2_with fail
  refine (HD.out _).mono ?_
  rintro r w7 ⟨rfl,d⟩;have B7:=hideS (B6.out.trans (d.mono B6.out.size));clear d
  go_wp2_with fail
  refine (HZ.out _).mono ?_
  rintro r w8 ⟨rfl,d⟩;have B8:=hideS (B7.out.trans (d.mono B7.out.size));clear d HS HA HD HZ B3 B5 B6 B7
  go_wp2_with fail
  go_loopw [8,9] (fun v i wr=>∃ k:Nat,k<=11/\i=.int .i64 k/\Hid (wr.ownsRow w8.heap.size 41 1 v k (rowOf uV lnL k))/\Hid (Below w.heap.size w wr)/\Hid (w8.heap.size<=wr.heap.size)) (fun _ i _=>11 - (intOf i).toNat)
  case atStart=>exact⟨0,Nat.zero_le _,rfl,World.ownsRow_nil _ _ _ _,B8,Nat.le_refl _⟩
  case round=>
   obtain⟨k,hk,rfl,D,HB,en⟩:=hrel
   by_cases q:k<11
   ·have ei:=hideS (take_next (f:=uV) (show k<lnL.length by rw [lnL_len];exact q))
    obtain⟨tz,xi,T1,T2,T3⟩:=PF k q;have eh:=HB.out.size;have cm:=en.out;have eg:=B8.out.size
    go_wp2_with fail
    refine (T1.out _).mono ?_
    rintro r w9 ⟨rfl,t⟩;have br:=hideS t;clear t
    go_wp2_with fail
    refine (T2.out _).mono ?_
    rintro r R ⟨rfl,db⟩;have bs:=hideS (br.out.trans (db.mono br.out.size));have dn:=hideS (own_below D.out bs.out);have cs:=hideS (HB.out.trans (bs.out.mono eh));have di:=cs.out.size;have bc:w8.heap.size<=R.heap.size:=Nat.le_trans cm bs.out.size;clear db br D
    go_wp2_with (at_builtin;refine wpList_append_own _ rfl _ _ 33 rfl w8.heap.size 41 i0 (.int .u64 0) 1 8 Tryz.underlying33 ep em es ek rfl (by decide) _ _ _ rfl (dn.out.alloc _) ⟨R.heap.size,0,none⟩ 1 1 [.int .u64 xi] rfl rfl ?c1 ?c2 ?c3 ?c4 ?c5 ?_)
    case c1=>
     intro j u hj
     match j,hj with
     | 0,hj=>simp at hj;subst hj;simp [Addr.add]
    case c2=>intro u hu;simp at hu;subst hu;rfl
    case c3=>unfold maxLen;omega
    case c4=>omega
    case c5=>simp;omega
    ·intro v' dU C A _;have L:=dn.out.lt;have dk:Below w.heap.size w dU:=(cs.out.alloc di _).grown A (by simp;omega) (fun j hj=>Nat.le_trans eg (L j hj).1)
     have ct:Below w8.heap.size R dU:=((Below.refl w8.heap.size R).alloc bc _).grown A (by simp;omega) (fun j hj=>(L j hj).1)
     rw [T3.out,<- ei.out] at C
     have HO:=hideS C;have er:=hideS dk;have ee:=hideS (Nat.le_trans bc ct.size);clear C A L dk ct;go_wp2
     go_roundw
     case rel=>exact⟨k+1,by omega,by simp,HO,er,ee⟩
     case measure=>simp [intOf];omega
   ·obtain rfl:k=11:=by omega
    have h1:=D.out;rw [show (11:Nat)=lnL.length from lnL_len.symm,rowOf_all] at h1
    have HO:=hideS (OwnF.mk h1:OwnF wr w8.heap.size 41 uV _ lnL);clear h1 D
    go_wp2_with fail
    refine (HT.out _).mono ?_
    rintro r et ⟨rfl,d⟩;have C1:=hideS (HB.out.trans (d.mono HB.out.size));have cv:=hideS (HH.out _ _ et (HO.out.below d));clear d HO
    go_wp2_with fail
    refine cv.out.mono ?_
    rintro r fa ⟨rfl,d⟩;have C2:=hideS (C1.out.trans (d.mono C1.out.size));clear d cv
    go_wp2_with fail
    refine (HP.out _).mono ?_
    rintro r ex ⟨rfl,d⟩;have C3:=hideS (C2.out.trans (d.mono C2.out.size));clear d
    go_wp2_with fail
    refine (ca.out _).mono ?_
    rintro r ez ⟨rfl,d⟩;have C4:=hideS (C3.out.trans (d.mono C3.out.size));clear d
    go_wp2_with fail
    refine (el.out _).mono ?_
    rintro r fb ⟨rfl,d⟩;have C5:=hideS (C4.out.trans (d.mono C4.out.size));clear d
    go_wp2_with fail
    refine (ef.out _).mono ?_
    rintro r ey ⟨rfl,d⟩;have C6:=hideS (C5.out.trans (d.mono C5.out.size));clear d
    go_wp2_with fail
    refine (HC.out _).mono ?_
    rintro r eQ ⟨rfl,d⟩;have C7:=hideS (C6.out.trans (d.mono C6.out.size));clear d
    go_wp2_with fail
    refine (HR.out _).mono ?_
    rintro r eT ⟨rfl,d⟩;have C8:=hideS (C7.out.trans (d.mono C7.out.size));clear d
    go_wp2_with fail
    go_ret
    exact⟨rfl,C8.out⟩
end Go.Proofs.YtfdddijdjpijbaaGreat
namespace Go.Proofs.YtfdddijdjpijbaaGreat
theorem JQ {r:Nat} (h:ag r) (a:r<18446744073709551616): -9218868437227405312<ae r/\ae r<9218868437227405312:=by
 rw [<- cb a (iH h)];unfold ag at h
 unfold sgn;generalize (r / 9223372036854775808 % 2==1)=p at *
 cases p<;>simp only [Bool.false_eq_true,if_true,if_false]<;>omega
theorem JR {b:Nat} (h:0<vI b):sB b=false/\vI b=(aV b:Int)/\b % 9223372036854775808≠0:=by
 have a:b % 9223372036854775808≠0:=by
  intro e;rw [kz] at h
  have:aV b=0:=by unfold aV;rw [e];exact bp
  rw [this] at h
  unfold sgZ at h
  split at h<;>omega
 rw [kz] at h ⊢
 unfold sgZ at h ⊢
 cases e:sB b
 ·exact⟨rfl,by simp only [Bool.false_eq_true,if_false],a⟩
 ·rw [e] at h;simp only [if_true] at h;omega
theorem jt {op:BinOp} {x y f:Nat} {k:Int} (h:∃ r,floatBits op .f64 x y=some r/\RkW r k) (a:floatBits op .f64 x y=some f):RkW f k:=by
 obtain⟨r,e,b⟩:=h;obtain rfl:=Option.some.inj (e.symm.trans a);exact b
end Go.Proofs.YtfdddijdjpijbaaGreat
namespace Go.Proofs.YtfdddijdjpijbaaGreat
open Go.RowKit
structure Bd (x c:Nat):Prop where
 num:ag x
 lt:x<18446744073709551616
 lo: -(vI c)<=vI x
 hi:vI x<=vI c
theorem JS {c:Nat} (hc:ag c) (h:c<18446744073709551616):ag (flipN c)/\flipN c<18446744073709551616/\ae (flipN c:Int)= -ae (c:Int)/\vI (flipN c)= -(vI c):=by
 obtain⟨d,a,b⟩:=bM h;have e:ag (flipN c):=by unfold ag at hc ⊢;rw [a];exact hc
 refine⟨e,d,?_,?_⟩
 ·rw [<- cb d (iH e),<- cb h (iH hc),a,b];unfold sgn;cases (c / 9223372036854775808 % 2==1)<;>simp
 ·unfold vI;rw [a,b];cases (c / 9223372036854775808 % 2==1)<;>simp
theorem DM {r c:Nat} {k:Int} (a:RkW r k) (hc:ag c) (h:c<18446744073709551616) (j: -ae (c:Int)<=k) (e:k<=ae (c:Int)):Bd r c:=by
 obtain⟨f,i,d,g⟩:=JS hc h;have l:=JQ hc h;have b:ag r:=yg a (by omega) (by omega)
 refine⟨b,a.2.1,?_,?_⟩
 ·rw [<- g];refine (cE f b i a.2.1).1 ?_
  rw [d,a.1];exact j
 ·refine (cE b hc a.2.1 h).1 ?_
  rw [a.1];exact e
theorem vZ {x y a b c:Nat} (g:Bd x a) (d:Bd y b) (j:ag a) (i:ag b) (hc:ag c) (e:floatBits .add .f64 a b=some c):∃ r,floatBits .add .f64 x y=some r/\Bd r c:=by
 obtain⟨r,k,h⟩:=fS g.num d.num;have f:=jt (fS j i) e;have:=g.lo;have:=g.hi;have:=d.lo;have:=d.hi;refine⟨r,k,DM h hc f.2.1 ?_ ?_⟩
 ·rw [f.1,<- vL];exact eG _ (by omega)
 ·rw [f.1];exact eG _ (by omega)
theorem PG {x y a b c:Nat} (g:Bd x a) (d:Bd y b) (j:ag a) (i:ag b) (hc:ag c) (e:floatBits .add .f64 a b=some c):∃ r,floatBits .sub .f64 x y=some r/\Bd r c:=by
 obtain⟨r,k,h⟩:=jr g.num d.num;have f:=jt (fS j i) e;have:=g.lo;have:=g.hi;have:=d.lo;have:=d.hi;refine⟨r,k,DM h hc f.2.1 ?_ ?_⟩
 ·rw [f.1,<- vL];exact eG _ (by omega)
 ·rw [f.1];exact eG _ (by omega)
theorem ni {x y a b c:Nat} (g:Bd x a) (d:Bd y b) (j:ag a) (i:ag b) (hc:ag c) (e:floatBits .mul .f64 a b=some c):∃ r,floatBits .mul .f64 x y=some r/\Bd r c:=by
 obtain⟨r,k,h⟩:=js g.num d.num;have f:=jt (js j i) e;obtain⟨l,u⟩:=qI g.lo g.hi d.lo d.hi;refine⟨r,k,DM h hc f.2.1 ?_ ?_⟩
 ·rw [f.1,<- vL];exact eG _ l
 ·rw [f.1];exact eG _ u
theorem vI_abs (x:Nat):vI x=(aV x:Int)\/vI x= -(aV x:Int):=by
 rw [kz];unfold sgZ;cases sB x
 ·exact Or.inl rfl
 ·exact Or.inr rfl
theorem PH {x y a d c:Nat} (f:Bd x a) (p:ag y) (E:vI d<=vI y) (n:0<vI d) (w:ag a) (k:ag d) (hc:ag c) (e:floatBits .quo .f64 a d=some c):∃ r,floatBits .quo .f64 x y=some r/\Bd r c:=by
 obtain⟨G,C,q⟩:=JR (b:=y) (by omega)
 obtain⟨m,F,t⟩:=JR n;obtain⟨r,z,u⟩:=qt f.num p q;have l:=jt (qt w k t) e;have B:0<=vI a:=by have:=f.lo;have:=f.hi;omega
 have j:aV x<=aV a:=by
  have i:=f.lo;have A:=f.hi;rcases vI_abs x with h | h<;>rcases vI_abs a with s | s<;>omega
 have D:qR (aV x) (aV y)<=qR (aV a) (aV d):=Nat.le_trans (QM j) (Nd (by omega) (by omega))
 have g:ae (c:Int)=(qR (aV a) (aV d):Int):=by
  rw [l.1,m]
  by_cases o:aV a=0
  ·have:qR (aV a) (aV d)=0:=by unfold qR;rw [if_pos o]
   rw [this];unfold sgZ;split<;>simp
  ·have:sB a=false:=by
    have i:=kz a;cases v:sB a with
    | false=>rfl
    | true=>rw [v] at i;unfold sgZ at i;simp at i;omega
   rw [this];rfl
 refine⟨r,z,DM u hc l.2.1 ?_ ?_⟩
 ·rw [g];unfold sgZ;split<;>omega
 ·rw [g];unfold sgZ;split<;>omega
theorem Bd.up {x c d:Nat} (h:Bd x c) (a:vI c<=vI d):Bd x d:=⟨h.num,h.lt,by have:=h.lo;omega,by have:=h.hi;omega⟩
theorem iN {x c:Nat} (h:x<=c) (hc:c<9218868437227405312):Bd x c:=by
 have a:ag x:=by unfold ag;omega
 have g:ag c:=by unfold ag;omega
 have e:=(kP (r:=x) (by omega)).1
 have d:=(kP (r:=c) (by omega)).1
 have b:ae ((0:Nat):Int)=0:=by decide
 have j:vI 0=0:=by decide+kernel
 have f:ag 0:=by unfold ag;decide
 have i:=(cE a g (by omega) (by omega)).1 (by rw [e,d];omega)
 have l:=(cE f a (by omega) (by omega)).1 (by rw [b,e];omega)
 have k:=(cE f g (by omega) (by omega)).1 (by rw [b,d];omega)
 rw [j] at l k
 exact⟨a,by omega,by omega,i⟩
theorem Np {cs:List Nat} {x z:Nat} {B M:Nat->Nat} {n:Nat} (e:Bd x z) (f:ag z) (k:Bd (cs.getD (cs.length - 1) 0) (B 0)) (d:∀ i,i<=n->ag (B i)) (c:∀ i,i<n->ag (M i)) (hc:∀ i,i<n->Bd (cs.getD (cs.length - 2 - i) 0) 4607182418800017408)
  (h:∀ i,i<n->floatBits .mul .f64 (B i) z=some (M i)) (t:∀ i,i<n->floatBits .add .f64 (M i) 4607182418800017408=some (B (i+1))):∀ i,i<=n->∃ r,hornAt cs x i=some r/\Bd r (B i):=by
 intro i
 induction i with
 | zero=>exact fun _=>⟨_,rfl,k⟩
 | succ i l=>
  intro hi;obtain⟨r,q,o⟩:=l (by omega)
  obtain⟨m,g,a⟩:=ni o e (d i (by omega)) f (c i (by omega)) (h i (by omega))
  obtain⟨s,j,b⟩:=vZ a (hc i (by omega)) (c i (by omega)) (by unfold ag;decide) (d (i+1) hi) (t i (by omega))
  refine⟨s,?_,b⟩
  show gj x (hornAt cs x i) _=some s
  rw [q]
  show ((some r).bind fun p=>floatBits .mul .f64 p x).bind _=some s
  rw [show ((some r).bind fun p=>floatBits .mul .f64 p x)=floatBits .mul .f64 r x from rfl,g]
  exact j
def nineN:Nat->Nat
 | 0=>1
 | n+1=>9*nineN n+1
def yD (i:Nat):Nat:=fi (nineN i:Int)
def DP (i:Nat):Nat:=fi ((9*nineN i:Nat):Int)
theorem ju:∀ i,i<11->(yD i) % 9223372036854775808<9218868437227405312/\(DP i) % 9223372036854775808<9218868437227405312/\floatBits .mul .f64 (yD i) 4621256167635550208=some (DP i)/\floatBits .add .f64 (DP i) 4607182418800017408=some (yD (i+1)):=by decide+kernel
theorem DQ:∀ i,i<11->lnL.getD i 0<=4607182418800017408:=by decide+kernel
theorem Nq {z:Nat} (b:Bd z 4621256167635550208):∃ h,bj lnL z=some h/\Bd h (yD 10):=by
 have a:=Np (cs:=lnL) (x:=z) (z:=4621256167635550208) (B:=yD) (M:=DP) (n:=10) b (by unfold ag;decide) (iN (DQ _ (by rw [lnL_len];decide)) (by decide)) (fun i hi=>(ju i (by omega)).1) (fun i hi=>(ju i (by omega)).2.1) (fun i hi=>iN (DQ _ (by rw [lnL_len];omega)) (by decide)) (fun i hi=>(ju i (by omega)).2.2.1) (fun i hi=>(ju i (by omega)).2.2.2) 10 (Nat.le_refl _)
 obtain⟨r,c,a⟩:=a;refine⟨r,?_,a⟩
 unfold bj;rw [if_neg (by rw [lnL_len];decide),lnL_len];exact c
theorem DR {N:Nat} (c:N≠0) (h:N<9007199254740992):lnM N<=4611686018427387904:=by
 obtain⟨a,b⟩:=lU c h;unfold lnM
 split<;>omega
theorem QR {k:Int} (g: -2000<=k) (f:k<=2000):Bd (fi k) (fi 2000):=by
 obtain⟨K,b⟩:∃ K,K=1074:=⟨_,rfl⟩;obtain⟨c,d,_,e⟩:=nJ (m:=k) b (by omega) (by omega)
 obtain⟨a,_,_,_⟩:=nJ (m:=2000) b (by decide) (by decide)
 have p:(0:Int)<=((2^K:Nat):Int):=Int.natCast_nonneg _;refine⟨d,e,?_,?_⟩
 ·rw [c,a,<- Int.neg_mul];exact Int.mul_le_mul_of_nonneg_right (by omega) p
 ·rw [c,a];exact Int.mul_le_mul_of_nonneg_right f p
theorem cV (x:Nat) (h:decide (x % 9223372036854775808<9218868437227405312)=true):ag x:=by unfold ag;exact of_decide_eq_true h
theorem FH {N a b hi lo:Nat} {k:Int} (F:N≠0) (h:N<9007199254740992) (H: -2000<=k/\k<=2000) (q1:floatBits .sub .f64 (lnM N) 4607182418800017408=some a) (I:floatBits .add .f64 (lnM N) 4607182418800017408=some b) (q8:floatBits .mul .f64 (fi k) 4604418534311723008=some hi) (Q:floatBits .mul .f64 (fi k) 4461442080421002358=some lo):∃ y,lnO a b hi lo=some y/\ag y:=by
 have i:Bd (lnM N) 4611686018427387904:=iN (DR F h) (by decide)
 have J:Bd 4607182418800017408 4607182418800017408:=iN (Nat.le_refl _) (by decide)
 have d:ag 4607182418800017408:=cV _ (by decide)
 have A:ag 4611686018427387904:=cV _ (by decide)
 have f:ag 4613937818241073152:=cV _ (by decide)
 obtain⟨a',U,L⟩:=PG (c:=4613937818241073152) i J A d f (by decide+kernel)
 obtain rfl:=Option.some.inj (U.symm.trans q1);obtain⟨b',X,o⟩:=vZ (c:=4613937818241073152) i J A d f (by decide+kernel)
 obtain rfl:=Option.some.inj (X.symm.trans I);have n:vI 0=0:=by decide+kernel
 have q:ag 0:=by unfold ag;decide
 have m0:0<=vI (lnM N):=by
  have Z:=(kP (r:=lnM N) (by have:=DR F h;omega)).1
  have:=(cE q i.num (by decide) i.lt).1 (by rw [Z,show ae ((0:Nat):Int)=0 by decide];omega)
  rw [n] at this;exact this
 have l:floatBits .add .f64 0 4607182418800017408=some 4607182418800017408:=by decide+kernel
 have b1:vI 4607182418800017408<=vI b':=by
  obtain⟨r,e,Y⟩:=fS q d;rw [l] at e
  obtain rfl:=Option.some.inj e;have kb:=jt (fS i.num d) I;refine (cE d o.num (by decide) o.lt).1 ?_
  rw [Y.1,kb.1];exact eG _ (by rw [n];omega)
 have j:0<vI 4607182418800017408:=by
  have:=(nR q d (by decide) (by decide)).1 (by decide)
  rw [n] at this;exact this
 obtain⟨s,es,C⟩:=PH (c:=4613937818241073152) L o.num b1 j f d f (by decide+kernel)
 obtain⟨K,w,B⟩:=ni (c:=4618441417868443648) (iN (x:=4611686018427387904) (Nat.le_refl _) (by decide)) C A f (cV _ (by decide)) (by decide+kernel)
 obtain⟨z,P,W⟩:=ni (c:=4621256167635550208) C C f f (cV _ (by decide)) (by decide+kernel)
 obtain⟨hh,R,O⟩:=Nq W;obtain⟨v,T,bv⟩:=ni (c:=fi ((6*nineN 10:Nat):Int)) B O (cV _ (by decide)) (ju 10 (by decide)).1 (cV _ (by decide+kernel)) (by decide+kernel)
 have G:=QR H.1 H.2;have g:ag (fi 2000):=cV _ (by decide+kernel)
 obtain⟨M,m,t⟩:=ni (c:=fi 2000) G (iN (x:=4604418534311723008) (c:=4607182418800017408) (by decide) (by decide)) g d g (by decide+kernel)
 obtain rfl:=Option.some.inj (m.symm.trans q8);obtain⟨D,E,u⟩:=ni (c:=fi 2000) G (iN (x:=4461442080421002358) (c:=4607182418800017408) (by decide) (by decide)) g d g (by decide+kernel)
 obtain rfl:=Option.some.inj (E.symm.trans Q);obtain⟨c,ec,V⟩:=vZ (c:=fi ((6*nineN 10+2000:Nat):Int)) bv u (cV _ (by decide+kernel)) g (cV _ (by decide+kernel)) (by decide+kernel)
 obtain⟨y,S,p⟩:=vZ (c:=fi ((6*nineN 10+4000:Nat):Int)) t V g (cV _ (by decide+kernel)) (cV _ (by decide+kernel)) (by decide+kernel)
 refine⟨y,?_,p.num⟩
 unfold lnO;rw [es,show opO .mul (some 4611686018427387904) (some s)=_ from w,show opO .mul (some s) (some s)=_ from P,show ((some z).bind fun z=>bj lnL z)=_ from R,show opO .mul (some K) (some hh)=_ from T,show opO .add (some v) (some D)=_ from ec]
 exact S
theorem tS (u:Int) (w:World) (h:U64 u) (hc:ah u=true\/(ah u=false/\sgB u=true/\(szI u==0)=false)) :
  Calls Tryz.prog 148 #[.int .u64 u] w fun e a=>e=.returned (.int .u64 9221120237041090561)/\a=w:=by
 rcases hc with c | ⟨c,g,i⟩
 ·have b:=hideS (aj u · h);rw [c] at b
  clear h c
  go_enter Tryz.func148,Tryz.ntmps148
  go_wp2_with fail
  refine (b.out _).mono ?_
  rintro e a ⟨rfl,rfl⟩
  go_wp2_with fail
  go_ret
  exact⟨rfl,rfl⟩
 ·have b:=hideS (aj u · h);have f:Hid (∀ w,Calls Tryz.prog 151 #[.int .u64 u] w fun e a=>e=.returned (.bool true)/\a=w):=fun w=>by
   have:=bZ u w;rw [g] at this;exact this
  have d:=hideS (aH u · h);have j:(szI u !=0)=true:=by rw [bne,i];rfl
  rw [c] at b
  clear h c g
  go_enter Tryz.func148,Tryz.ntmps148
  go_wp2_with fail
  refine (b.out _).mono ?_
  rintro e a ⟨rfl,rfl⟩
  go_wp2_with fail
  refine (f.out _).mono ?_
  rintro e a ⟨rfl,rfl⟩
  go_wp2_with fail
  refine (d.out _).mono ?_
  rintro e a ⟨rfl,rfl⟩
  go_wp2_with fail
  go_ret
  exact⟨rfl,rfl⟩
theorem BK (u:Int) (w:World) (h:U64 u) (g:ah u=false) (i:(szI u==0)=true) :
  Calls Tryz.prog 148 #[.int .u64 u] w fun e a=>e=.returned (.int .u64 18442240474082181120)/\a=w:=by
 have f:=hideS (aj u · h);have c:=hideS (aH u · h);have j:=hideS fun w=>dQ 9218868437227405312 9218868437227405312 18442240474082181120 w rfl (by unfold U64;omega) rfl
 have k:(szI u !=0)=false:=by rw [bne,i];rfl
 rw [g] at f
 cases d:sgB u
 all_goals
  have b:Hid (∀ w,Calls Tryz.prog 151 #[.int .u64 u] w fun e a=>e=.returned (.bool (sgB u))/\a=w):=fun w=>bZ u w
  rw [d] at b
  clear g d
  go_enter Tryz.func148,Tryz.ntmps148
  go_wp2_with fail
  refine (f.out _).mono ?_
  rintro e a ⟨rfl,rfl⟩
  go_wp2_with fail
  refine (b.out _).mono ?_
  rintro e a ⟨rfl,rfl⟩
  go_wp2_with (first | (go_at_call 76;refine (c.out _).mono ?_;rintro e a ⟨rfl,rfl⟩) | (go_at_call 34;refine (j.out _).mono ?_;rintro e a ⟨rfl,rfl⟩))
  go_ret
  exact⟨rfl,rfl⟩
theorem FI (u:Int) (w:World) (h:U64 u) (j:ah u=false) (g:sgB u=false) (k:(szI u==0)=false) (d:aX u=true) :
  Calls Tryz.prog 148 #[.int .u64 u] w fun e a=>e=.returned (.int .u64 u)/\a=w:=by
 have i:=hideS (aj u · h);have b:=hideS (aH u · h);have f:=hideS (av u · h);have c:Hid (∀ w,Calls Tryz.prog 151 #[.int .u64 u] w fun e a=>e=.returned (.bool false)/\a=w):=fun w=>by
  have:=bZ u w;rw [g] at this;exact this
 rw [j] at i
 rw [d] at f
 clear h j g d
 go_enter Tryz.func148,Tryz.ntmps148
 go_wp2_with fail
 refine (i.out _).mono ?_
 rintro e a ⟨rfl,rfl⟩
 go_wp2_with fail
 refine (c.out _).mono ?_
 rintro e a ⟨rfl,rfl⟩
 go_wp2_with (first | (go_at_call 76;refine (b.out _).mono ?_;rintro e a ⟨rfl,rfl⟩) | (go_at_call 72;refine (f.out _).mono ?_;rintro e a ⟨rfl,rfl⟩))
 go_ret
 exact⟨rfl,rfl⟩
structure BothL (x:Nat) (u z:Int):Prop where
 prog:∀ w,Calls Tryz.prog 223 #[.float .f64 x] w fun e w'=>∃ y,e=.returned (.float .f64 y)/\(fA (y:Int) z=true/\U64 (y:Int))/\Below w.heap.size w w'
 doc:∀ w,Calls Tryz.prog 148 #[.int .u64 u] w fun e w'=>e=.returned (.int .u64 z)/\Below w.heap.size w w'
 uz:U64 z
theorem QS {x:Nat} {u z:Int} {y:Nat} (g:∀ w,Calls Tryz.prog 223 #[.float .f64 x] w fun e c=>e=.returned (.float .f64 y)/\c=w) (h:∀ w,Calls Tryz.prog 148 #[.int .u64 u] w fun e c=>e=.returned (.int .u64 z)/\c=w) (d:z=(y:Int)) (f:U64 (y:Int)):BothL x u z:=
 ⟨fun w=>(g w).mono fun _ _ ⟨a,b⟩=>⟨y,a,⟨by rw [d];exact fB _,f⟩,by rw [b];exact Below.refl _ _⟩,fun w=>(h w).mono fun _ _ ⟨a,b⟩=>⟨a,by rw [b];exact Below.refl _ _⟩,by rw [d];exact f⟩
theorem yE {op:BinOp} (a:op=.add\/op=.sub\/op=.mul\/op=.quo) {o o':Option Nat} {q:Nat} (h:opO op o o'=some q):q<18446744073709551616:=by
 rw [<- vW] at h;exact cR a h
structure BothO (x:Nat) (u:Int) (o:Option Nat):Prop where
 prog:∀ w,Calls Tryz.prog 223 #[.float .f64 x] w fun e w'=>∃ y,e=.returned (.float .f64 y)/\Ag o y/\Below w.heap.size w w'
 doc:∀ w,Calls Tryz.prog 148 #[.int .u64 u] w fun e w'=>e=.returned (.int .u64 (cn o))/\Below w.heap.size w w'
 lt:cn o<18446744073709551616
 nan:ah (x:Int)=true->o=none
 fin:ag x->sB x=false->x % 9223372036854775808≠0->∃ y,o=some y/\ag y
theorem yF {x:Nat} {u z:Int} {y:Nat} (g:∀ w,Calls Tryz.prog 223 #[.float .f64 x] w fun e c=>e=.returned (.float .f64 y)/\c=w) (h:∀ w,Calls Tryz.prog 148 #[.int .u64 u] w fun e c=>e=.returned (.int .u64 z)/\c=w) (d:z=(y:Int)) (f:U64 (y:Int)) (hn:ah (x:Int)=false) (hc:¬ (ag x/\x % 9223372036854775808≠0)):BothO x u (some y):=
 ⟨fun w=>(g w).mono fun _ _ ⟨a,b⟩=>⟨y,a,rfl,by rw [b];exact Below.refl _ _⟩,fun w=>(h w).mono fun _ _ ⟨a,b⟩=>⟨by rw [a,d];rfl,by rw [b];exact Below.refl _ _⟩,by have:=f.2;rw [ao];omega,fun a=>(by rw [hn] at a;cases a),fun a _ b=>absurd ⟨a,b⟩ hc⟩
theorem tT {x:Nat} {u:Int} {y:Nat} (f:∀ w,Calls Tryz.prog 223 #[.float .f64 x] w fun e c=>e=.returned (.float .f64 y)/\c=w) (g:∀ w,Calls Tryz.prog 148 #[.int .u64 u] w fun e c=>e=.returned (.int .u64 9221120237041090561)/\c=w) (hn:ah (y:Int)=true:=by first | assumption | decide) (d:y<18446744073709551616:=by first | assumption | decide) (hc:ag x->sB x=true):BothO x u none:=
 ⟨fun w=>(f w).mono fun _ _ ⟨a,b⟩=>⟨y,a,⟨hn,d⟩,by rw [b];exact Below.refl _ _⟩,fun w=>(g w).mono fun _ _ ⟨a,b⟩=>⟨by rw [a];rfl,by rw [b];exact Below.refl _ _⟩,by rw [lz];omega,fun _=>rfl,fun a b _=>by rw [hc a] at b;cases b⟩
theorem JT (x:Nat) (u:Int) (l:u=(x:Int)) (h:U64 x):∃ o,BothO x u o:=by
 have i:x<18446744073709551616:=by have:=h.2;omega
 have z:U64 u:=by rw [l];exact h
 have un:U64 ((9221120237041090561:Nat):Int):=by unfold U64;omega
 cases b:ah (x:Int) with
 | true=>exact⟨none,tT (fun w=>PC x w h b) (fun w=>tS u w z (Or.inl (by rw [l];exact b))) (hc:=fun a=>by rw [iH a] at b;cases b)⟩
 | false=>
  have g:ah u=false:=by rw [l];exact b
  have B:=bL l;have W:U64 ((0:Nat):Int):=by unfold U64;omega
  have C:=jK h W b (by decide)
  have I:=eU h W b (by decide)
  have F:ae ((0:Nat):Int)=0:=by decide
  rw [F] at C I
  have m:=cb i b;have k:sgB u=sB x:=by rw [l];exact gh i
  have hl:=fj b
  by_cases E:x % 9223372036854775808=0
  ·have f:(szI u==0)=true:=by rw [B,E];rfl
   have A:ae (x:Int)=0:=by rw [<- m,E];unfold sgn;split<;>rfl
   refine⟨some 18442240474082181120,yF (fun w=>Nn x w h b ?_ ?_) (fun w=>BK u w z g f) rfl (by unfold U64;omega) b (fun a=>a.2 E)⟩
   ·rw [C,A];rfl
   ·rw [I,A];rfl
  ·have f:(szI u==0)=false:=by rw [B];simp;omega
   cases n:sB x with
   | true=>
    have s:ae (x:Int)<0:=by
     rw [<- m];have p:(x / 9223372036854775808 % 2==1)=true:=n;rw [p];unfold sgn;simp;omega
    refine⟨none,tT (fun w=>PD x w h b ?_) (fun w=>tS u w z (Or.inr ⟨g,by rw [k];exact n,f⟩)) (hc:=fun _=>n)⟩
    rw [C];exact decide_eq_true s
   | false=>
    have p:(x / 9223372036854775808 % 2==1)=false:=n;have d:ae (x:Int)=((x % 9223372036854775808:Nat):Int):=by rw [<- m,p];rfl
    have X:(FloatKind.f64.format.order x 0==some .lt)=false:=by rw [C,d,decide_eq_false_iff_not];omega
    have Q:(FloatKind.f64.format.order x 0==some .eq)=false:=by rw [I,d,decide_eq_false_iff_not];omega
    have um:U64 ((9218868437227405311:Nat):Int):=by unfold U64;omega
    have P:=lO h um b (by decide)
    have J:ae ((9218868437227405311:Nat):Int)=9218868437227405311:=by decide
    rw [J,d] at P
    by_cases v:x % 9223372036854775808=9218868437227405312
    ·refine⟨some x,?_⟩
     refine yF (y:=x) (fun w=>PE x w h b X Q ?_) (fun w=>FI u w z g (by rw [k];exact n) f (by unfold aX;rw [B,v];rfl)) l h b (fun a=>by have:=a.1;unfold ag at this;omega)
     rw [P];exact decide_eq_true (by omega)
    ·have q:ag x:=by unfold ag;omega
     have Z:(FloatKind.f64.format.order x 9218868437227405311==some .gt)=false:=by rw [P,decide_eq_false_iff_not];omega
     have G:aX u=false:=by unfold aX;rw [B];simp;omega
     have c:mg (x % 9223372036854775808)≠0:=fL E;have ab:pl (x % 9223372036854775808)<=2045:=by unfold pl;omega
     obtain⟨N,D⟩:∃ N,N=mg (x % 9223372036854775808):=⟨_,rfl⟩;obtain⟨e,S⟩:∃ e:Int,e= -1074+(pl (x % 9223372036854775808):Int):=⟨_,rfl⟩;have t:OfR x false N e:=⟨by rw [D];exact nF _,by omega,by omega,by rw [D,S];unfold aV V;congr 2;omega,fun _=>n.symm,fun _=>⟨D,S⟩⟩
     rw [<- D] at c
     have j:=t.lt;have ad:=t.lo;have ai:=t.hi;have Y:N.log2<=52:=by have:=(Nat.log2_lt c).2 (show N<2^53 from j);omega
     have hk: -2000<=lnK N e/\lnK N e<=2000:=by unfold lnK;split<;>omega
     have R:=(DK c j).1;have T:ag 4607182418800017408:=by unfold ag;decide
     have U:=(xt (a:=lnK N e) rfl (by omega) (by omega)).2.2.1
     have K:=oR R T;have O:=lv R T;have M:=gg U (show ag 4604418534311723008 by unfold ag;decide)
     have H:=gg U (show ag 4461442080421002358 by unfold ag;decide)
     refine⟨_,⟨fun w=>(QQ x (lnM N) _ _ _ _ _ (lnK N e) w h b X Q Z (fun w=>BH x N e h q t c w) K O rfl M H).mono ?_,fun w=>FG x N _ _ _ _ u e _ w l z g (by rw [k];exact n) f G q t c K O M H rfl,qO (by simp) _ _,fun a=>(by rw [b] at a;cases a),fun _ _ _=>FH c j hk K O M H⟩⟩
     rintro r w' ⟨y,rfl,L,hb⟩;exact⟨y,rfl,L,hb⟩
theorem JU {a b:Int} (h:fA a b=true) (c:ah b=true):ah a=true:=by
 unfold fA at h
 rw [Bool.or_eq_true] at h
 rcases h with h | h
 ·rw [of_decide_eq_true h];exact c
 ·exact (Bool.and_eq_true_iff.1 h).1
structure ExpR (x:Nat) (o:Option Nat):Prop where
 prog:∀ w,Calls Tryz.prog 54 #[.float .f64 x] w fun e w'=>∃ y,e=.returned (.float .f64 y)/\(Ag o y/\y<18446744073709551616)/\Below w.heap.size w w'
 doc:QA 64 (x:Int) (cn o)
 nan:ah (x:Int)=true->o=none
 num:ah (x:Int)=false->∃ y,o=some y/\y<=9218868437227405312
theorem JV (x:Nat):∃ o,x<18446744073709551616->ExpR x o:=by
 by_cases h:x<18446744073709551616
 ·obtain⟨y,z,c,l,k⟩:=FF x (x:Int) rfl (af h);have f:y<18446744073709551616:=by have:=c.uy.2;omega
  cases d:ah (x:Int) with
  | true=>
   have g:=l d;have e:ah (y:Int)=true:=JU c.same (by rw [g];decide)
   exact⟨none,fun _=>⟨fun w=>(c.prog w).mono fun _ _ ⟨a,b⟩=>⟨y,a,⟨⟨e,f⟩,f⟩,b⟩,fun w=>(c.doc w).mono fun _ _ ⟨a,b⟩=>⟨by rw [a,g];rfl,b⟩,fun _=>rfl,fun a=>by rw [d] at a;cases a⟩⟩
  | false=>
   obtain⟨j,i⟩:=k d;exact⟨some y,fun _=>⟨fun w=>(c.prog w).mono fun _ _ ⟨a,b⟩=>⟨y,a,⟨rfl,f⟩,b⟩,fun w=>(c.doc w).mono fun _ _ ⟨a,b⟩=>⟨by rw [a,i];rfl,b⟩,fun a=>(by rw [d] at a;cases a),fun _=>⟨y,rfl,j⟩⟩⟩
 ·exact⟨none,fun a=>absurd a h⟩
noncomputable def lV (x:Nat):Option Nat:=Classical.choose (JV x)
theorem ck {x:Nat} (h:x<18446744073709551616):ExpR x (lV x):=Classical.choose_spec (JV x) h
noncomputable def PI (o:Option Nat):Option Nat:=o.bind lV
structure LnR (x:Nat) (o:Option Nat):Prop where
 prog:∀ w,Calls Tryz.prog 223 #[.float .f64 x] w fun e w'=>∃ y,e=.returned (.float .f64 y)/\(Ag o y/\y<18446744073709551616)/\Below w.heap.size w w'
 doc:QA 148 (x:Int) (cn o)
 lt:cn o<18446744073709551616
 nan:ah (x:Int)=true->o=none
 fin:ag x->sB x=false->x % 9223372036854775808≠0->∃ y,o=some y/\ag y
theorem OJ (x:Nat):∃ o,x<18446744073709551616->LnR x o:=by
 by_cases h:x<18446744073709551616
 ·obtain⟨o,b⟩:=JT x (x:Int) rfl (af h);refine⟨o,fun _=>⟨fun w=>(b.prog w).mono ?_,b.doc,b.lt,b.nan,b.fin⟩⟩
  rintro _ f ⟨y,rfl,c,d⟩;exact⟨y,rfl,⟨c,QP c fun q e=>by have:=b.lt;rw [e,ao] at this;exact this⟩,d⟩
 ·exact⟨none,fun a=>absurd a h⟩
noncomputable def lnF (x:Nat):Option Nat:=Classical.choose (OJ x)
theorem jv {x:Nat} (h:x<18446744073709551616):LnR x (lnF x):=Classical.choose_spec (OJ x) h
def AgU (o:Option Nat) (x:Nat):Prop:=Ag o x/\x<18446744073709551616
theorem lW {x:Nat} (h:x<18446744073709551616):AgU (some x) x:=⟨rfl,h⟩
theorem AgU.u {o:Option Nat} {x:Nat} (h:AgU o x):U64 (x:Int):=af h.2
def PJ (o:Option Nat):Option Nat:=o.map flipN
theorem JW {x:Nat} (h:x<18446744073709551616):ah (flipN x:Int)=ah (x:Int):=by
 obtain⟨_,a,_⟩:=bM h;unfold ah;rw [eo,eo,a]
theorem yG {x:Nat} (h:x<18446744073709551616):Op.negFloat .f64 x=flipN x:=(show Op.negFloat .f64 x=x^^^9223372036854775808 from rfl).trans (tr h)
theorem we (op:BinOp) (b:op=.add\/op=.sub\/op=.mul\/op=.quo) (t:TypeId) {o o':Option Nat} {x y:Nat} (h:AgU o x) (a:AgU o' y) (w:World):∃ r,(∃ q,(binOp op t (.float .f64 x) (.float .f64 y)).run Tryz.prog w=.ok (.float .f64 r) (w.drewN q))/\AgU (opO op o o') r:=by
 obtain⟨r,c,g⟩:=dm op b t x y w;rw [<- jp h.1 a.1] at g
 refine⟨r,c,g,?_⟩
 cases e:opO op o o' with
 | none=>rw [e] at g;exact (eV g).2
 | some q=>rw [e] at g;rw [cz g];rw [jp h.1 a.1] at e;exact cR b e
def endN (x:Nat):Nat:=if aE (x:Int)=true/\szI (x:Int)≠0 then x else 0
def kA (X Y:Nat):Nat:=(70 - (bl X:Int)+(bl Y:Int)).toNat
def uq (P Q:Int):Int:=if P=0 then 0 else bN (decide (P<0)) (P.natAbs*2^kA P.natAbs Q.natAbs / Q.natAbs) (0 - (kA P.natAbs Q.natAbs:Int) - 0) (decide (0<nd (P.natAbs*2^kA P.natAbs Q.natAbs % Q.natAbs)))
theorem sQ (nx e:Bool) (b f:Value) (ex ey:Int) (w:World) (i:DN w b 0) :
  Calls Tryz.prog 61 #[.agg #[.bool nx,b,.int .i64 ex],.agg #[.bool e,f,.int .i64 ey]] w fun x d=>x=.returned (.int .u64 0)/\Below w.heap.size w d:=by
 have a:Hid (Below w.heap.size w (boxN (boxN w nx b ex) e f ey)):=(aD w nx b ex).trans ((aD (boxN w nx b ex) e f ey).mono (by simp))
 have h:=aa fun d (j:Below w.heap.size w d)=>aY nx b ex 0 true d (i.below j) rfl
 clear i
 go_enter Tryz.func61,Tryz.ntmps61
 go_wp2_with fail
 refine (h.out _ a.out).mono ?_
 rintro x k ⟨rfl,c⟩;have g:=aa (a.out.trans (c.mono a.out.size));clear c
 go_wp2_with fail
 go_ret
 exact⟨rfl,g.out⟩
theorem Gt (P Q:Int) (c:Bool) (b a:Value) (w:World) (e:DN w b P.natAbs) (g:DN w a Q.natAbs) (j: -1000000000<=P) (i:P<=1000000000) (k:0<Q) (h:Q<=1000000000) :
  Calls Tryz.prog 61 #[.agg #[.bool (decide (P<0)),b,.int .i64 0],.agg #[.bool c,a,.int .i64 0]] w fun x f=>x=.returned (.int .u64 (uq P Q))/\Below w.heap.size w f:=by
 unfold uq
 by_cases d:P=0
 ·subst d;rw [if_pos rfl];exact sQ _ c b a 0 0 w e
 ·rw [if_neg d];have m:nd P.natAbs<=1:=bP (by simp;omega)
  have l:nd Q.natAbs<=1:=bP (by simp;omega)
  exact jl _ c _ b a 0 0 _ P.natAbs Q.natAbs (kA P.natAbs Q.natAbs) _ w e g (by omega) (by omega) (by omega) (by omega) (by omega) (by omega) (by omega) (by omega) (by unfold kA;omega) rfl rfl rfl
def Two (b:Nat) (P Q:Int) (w:World):Prop:=w.cell? ⟨b,0,none⟩=some (.int .i64 P)/\w.cell? ⟨b,1,none⟩=some (.int .i64 Q)
theorem Two.below {w c:World} {b s:Nat} {P Q:Int} (h:Two b P Q w) (d:Below s w c) (a:b<s):Two b P Q c:=
 ⟨(d.cell (p:=⟨b,0,none⟩) a).trans h.1,(d.cell (p:=⟨b,1,none⟩) a).trans h.2⟩
def ry (X Y:Nat):Nat:=nearR (aN X Y 200) (-1 - ((200:Nat):Int))
theorem zO {X Y:Nat} (c:X≠0) (a:Y≠0) (b:Y<=1000000000):kA X Y<=200/\54+Y.log2<=X.log2+kA X Y:=by
 have f:=eK c;have e:=eK a;have d:Y.log2<30:=(Nat.log2_lt a).2 (by omega)
 unfold kA;omega
theorem Lb {P Q:Int} (g:P≠0) (l:0<Q) (i:Q<=1000000000):uq P Q=gO (decide (P<0))+(ry P.natAbs Q.natAbs:Int):=by
 have f:P.natAbs≠0:=by omega
 have d:Q.natAbs≠0:=by omega
 have a:Q.natAbs<=1000000000:=by omega
 unfold uq ry;rw [if_neg g];generalize P.natAbs=X at *
 generalize Q.natAbs=Y at *
 obtain⟨h,j⟩:=zO f d a;generalize kA X Y=k at *
 have c:=jk f d j;rw [kL _ _ _ c.1,<- jj (p:=-1) (by omega) h c.2]
 have e:2*(X*2^k / Y)+(if decide (0<nd (X*2^k % Y))=true then 1 else 0)=aN X Y k:=by
  unfold aN
  congr 1
  by_cases b:X*2^k % Y=0
  ·rw [b];rfl
  ·have:=dt b;rw [if_neg b,if_pos (decide_eq_true (show 0<nd (X*2^k % Y) from this))]
 rw [e,show (0:Int) - (k:Int) - 0 - 1= -1 - (k:Int) by omega]
theorem Gu {X Y:Nat} (h:X<=1000000000):ry X Y<9218868437227405312:=by
 unfold ry;have b:aN X Y 200<=1*2^232:=by
  unfold aN;have c:X*2^200 / Y<=X*2^200:=Nat.div_le_self _ _;have a:X*2^200<=1073741824*2^200:=Nat.mul_le_mul_right _ (by omega)
  rw [show (1073741824:Nat)*2^200=2^230 by decide] at a
  split<;>omega
 refine Nat.lt_of_le_of_lt (bW _ b) ?_
 rw [show (-1:Int) - ((200:Nat):Int)=31 - ((232:Nat):Int) by decide,bf (by decide)]
 decide
theorem zP (X Y a k:Nat):aN (X*2^a) Y k=aN X Y (a+k):=by
 unfold aN;rw [Nat.mul_assoc,<- Nat.pow_add]
theorem ob (X Y k c:Nat) (hc:0<c):aN (X*c) (Y*c) k=aN X Y k:=by
 unfold aN;rw [show X*c*2^k=X*2^k*c by rw [Nat.mul_assoc,Nat.mul_comm c,<- Nat.mul_assoc],Nat.mul_div_mul_right _ _ hc,Nat.mul_mod_mul_right]
 have:(X*2^k % Y*c=0)↔(X*2^k % Y=0):=by
  rw [Nat.mul_eq_zero];omega
 simp only [this]
theorem Gv {A B X Y p q m t:Nat} (b:A*2^p=X*2^t) (a:B*2^q=Y*2^t):aN A B (p+m)=aN X Y (q+m):=by
 rw [<- zP A B p m,b,<- ob _ B m (2^q) (Nat.two_pow_pos _),a,show X*2^t*2^q=X*2^q*2^t by rw [Nat.mul_assoc,Nat.mul_comm (2^t),<- Nat.mul_assoc],ob _ _ _ _ (Nat.two_pow_pos _),zP]
theorem Gw {x y X Y:Nat} (n:ag x) (o:ag y) (d:aV x=X*2^1074) (c:aV y=Y*2^1074) (b:X≠0) (a:Y≠0) (e:Y<=1000000000) :
  floatBits .quo .f64 x y=some (wrd (sB x^^sB y) (ry X Y)):=by
 have j:=Nat.two_pow_pos 1074;have g:x % 9223372036854775808≠0:=by
  intro h;unfold aV at d
  rw [h,bp] at d
  have:=Nat.mul_pos (show 0<X by omega) j
  omega
 have f:y % 9223372036854775808≠0:=by
  intro h;unfold aV at c
  rw [h,bp] at c
  have:=Nat.mul_pos (show 0<Y by omega) j
  omega
 unfold aV V at d c
 have t:=fL g;have q:=fL f;have u:=nF (x % 9223372036854775808);have v:=nF (y % 9223372036854775808);have w:(mg (y % 9223372036854775808)).log2<53:=(Nat.log2_lt q).2 (by omega)
 rw [jU n o g f rfl rfl rfl rfl (k:=pl (x % 9223372036854775808)+300) (by omega),Gv d c]
 obtain⟨l,m⟩:=zO b a e;have i:=jk b a m;have r:=jj (X:=X) (Y:=Y) (p:=-1) (by omega) (show kA X Y<=pl (y % 9223372036854775808)+300 by omega) i.2
 have s:=jj (X:=X) (Y:=Y) (p:=-1) (by omega) l i.2
 unfold ry;rw [<- s,r]
 congr 3
 omega
theorem oh (m:Int):floatOfInt .f64 m=fi m:=by
 show Ieee.double.nearest (decide (m<0)) m.natAbs 0=_
 unfold fi aI
 by_cases a:m=0
 ·subst a;rfl
 ·rw [if_neg a,bV _ (by omega)]
  by_cases b:m<0
  ·simp only [b,decide_true,if_true];rw [gM]
  ·simp only [b,decide_false,if_false];rw [im]
theorem Lv {m:Int} {K:Nat} (e:K=1074) (h: -1000000000<=m) (g:m<=1000000000):ag (fi m)/\aV (fi m)=m.natAbs*2^K/\sB (fi m)=decide (m<0)/\fi m<18446744073709551616:=by
 obtain⟨a,b,c,d⟩:=nJ (m:=m) e (by omega) (by omega)
 refine⟨b,?_,c,d⟩
 unfold aV;have f:(vI (fi m)).natAbs=V (fi m % 9223372036854775808):=by
  unfold vI
  split<;>simp
 rw [<- f,a,Int.natAbs_mul,Int.natAbs_natCast]
def yW (P Q:Int):Nat:=if P=0 then 0 else wrd (decide (P<0)) (ry P.natAbs Q.natAbs)
theorem Lw {P Q:Int} (k: -1000000000<=P) (j:P<=1000000000) (q:0<Q) (o:Q<=1000000000):floatBits .quo .f64 (fi P) (fi Q)=some (yW P Q):=by
 obtain⟨K,c⟩:∃ K:Nat,K=1074:=⟨_,rfl⟩;obtain⟨p,l,h,_⟩:=Lv (m:=P) c k j;obtain⟨f,a,g,_⟩:=Lv (m:=Q) c (by omega) o
 have d:decide (Q<0)=false:=decide_eq_false (by omega)
 have i:=Nat.two_pow_pos K;unfold yW
 by_cases b:P=0
 ·rw [if_pos b];subst b;have n:fi Q % 9223372036854775808≠0:=fun e=>by
   unfold aV at a
   rw [e,bp] at a
   have:=Nat.mul_pos (show 0<Q.natAbs by omega) i
   omega
  rw [show fi 0=0 from Mx,pY (by rfl) f n,g,d]
  rfl
 ·rw [if_neg b];subst c;rw [Gw p f l a (by omega) (by omega) (by omega),h,g,d]
  simp
theorem Ql {P Q:Int} (d:0<Q) (b:Q<=1000000000):uq P Q=(yW P Q:Int):=by
 unfold yW
 by_cases a:P=0
 ·rw [if_pos a];unfold uq;rw [if_pos a];rfl
 ·rw [if_neg a,Lb a d b];unfold gO wrd
  by_cases c:P<0
  ·simp [c]
  ·simp [c]
theorem Ab (kind W a b P Q:Int) (v:Value) (w:World) (g: -1000000000<=P) (f:P<=1000000000) (d:0<Q) (i:Q<=1000000000) (H:Hid (FracH w kind W a b P Q 0 v)) :
  Calls Tryz.prog 53 #[.int .i64 kind,.agg #[.int .i64 W,v],.int .i64 a,.int .i64 b] w fun e j=>e=.returned (.tuple #[.float .f64 (yW P Q),.int .i64 0])/\Below w.heap.size w j:=by
 have c:=hideS (bY w W v);have m:=oh P;have p:=oh Q;have h:=Lw g f d i;unfold FracH at H
 clear g f d i;generalize yW P Q=R at *
 generalize fi P=X at *
 generalize fi Q=Y at *
 have o:=fun k=>run_float_arith (P:=Tryz.prog) k .quo 27 .f64 X Y R h
 clear h
 go_enter Tryz.func53,Tryz.ntmps53
 go_wp2_with (go_at_call 79;refine (H.out _ c.out).mono ?_;rintro e n ⟨rfl,l⟩)
 go_ret2
 exact⟨rfl,c.out.trans (l.mono c.out.size)⟩
theorem GF (kind W a b E:Int) (v:Value) (w:World) (d:E≠0) (H:Hid (FracH w kind W a b 0 0 E v)) :
  Calls Tryz.prog 53 #[.int .i64 kind,.agg #[.int .i64 W,v],.int .i64 a,.int .i64 b] w fun e f=>e=.returned (.tuple #[.float .f64 0,.int .i64 E])/\Below w.heap.size w f:=by
 have c:=hideS (bY w W v);have g:(E !=0)=true:=bne_iff_ne.2 d;unfold FracH at H
 clear d
 go_enter Tryz.func53,Tryz.ntmps53
 go_wp2_with (go_at_call 79;refine (H.out _ c.out).mono ?_;rintro e i ⟨rfl,h⟩)
 go_ret2
 exact⟨rfl,c.out.trans (h.mono c.out.size)⟩
def Rd (w:World) (kind W a b:Int) (R:Nat) (E:Int) (v:Value):Prop:=∀ c,Below w.heap.size w c->Calls Tryz.prog 53 #[.int .i64 kind,.agg #[.int .i64 W,v],.int .i64 a,.int .i64 b] c fun e d=>e=.returned (.tuple #[.float .f64 R,.int .i64 E])/\Below c.heap.size c d
theorem FracH.later {w c:World} {kind W a b P Q E:Int} {v:Value} (h:FracH w kind W a b P Q E v) (d:Below w.heap.size w c):FracH c kind W a b P Q E v:=fun f e=>h f (d.trans (e.mono d.size))
theorem Lx {kind:Int}:0<eS kind/\eS kind<=1000000000:=by
 unfold eS
 split
 ·decide
 ·split
  ·decide
  ·split<;>decide
theorem FracR.bd {kind W a b P Q E:Int} {rs:List Rul} (h:FracR kind W a b rs P Q E): -1000000000<=P/\P<=1000000000/\(E=0->0<Q/\Q<=1000000000)/\(E≠0->P=0/\Q=0):=by
 cases h with
 | fine i d j f e=>
  have:=zN (opB W rs) (kind:=kind) j f;exact⟨this.1,this.2,fun _=>Lx,fun c=>absurd rfl c⟩
 | kind h=>exact⟨by decide,by decide,fun c=>absurd c (by decide),fun _=>⟨rfl,rfl⟩⟩
 | cal A B e h g=>exact⟨by decide,by decide,fun c=>absurd c g,fun _=>⟨rfl,rfl⟩⟩
 | day i d h e=>exact⟨by decide,by decide,fun c=>absurd c (by decide),fun _=>⟨rfl,rfl⟩⟩
theorem FracR.year {kind W a b P Q E:Int} {rs:List Rul} (h:FracR kind W a b rs P Q E) (p:Option Addr) (g off c:Nat) (w:World) (l:RSrc w p g off rs) (n:rs.length<=9223372036854775807):Rd w kind W a b (yW P Q) E (.slice p rs.length c):=fun i e=>by
 have f:=(h.prog p g off c w l n).later e;obtain⟨o,k,j,m⟩:=h.bd
 by_cases d:E=0
 ·subst d;exact Ab kind W a b P Q _ i o k (j rfl).1 (j rfl).2 f
 ·obtain⟨rfl,rfl⟩:=m d;exact GF kind W a b E _ i d f
theorem CQ {f:Nat} {args:Array Value} {w:World} {R R':Value->World->Prop} (hi:Tryz.prog.inits.idxOf? f=none) (h:Calls Tryz.prog f args w fun e a=>∃ v,e=.returned v/\R v a) (q:Calls Tryz.prog f args w fun e a=>∃ v,e=.returned v/\R' v a):∃ v a,R v a/\R' v a:=by
 have b:∀ {Q:Value->World->Prop},(Calls Tryz.prog f args w fun e a=>∃ v,e=.returned v/\Q v a)->∃ n v a,runN Tryz.prog n (lone (Frame.enter Tryz.prog f args .normal) [] w)=.ended (.done v) a/\Q v a:=fun t=>
  Calls.done (t.mono fun e a ⟨v,d,r⟩=>by subst d;exact r) hi
 obtain⟨n,v,l,d,p⟩:=b h;obtain⟨m,u,i,g,o⟩:=b q;have j:∀ {n m:Nat} {v u:Value} {l i:World} {M:Machine},n<=m->runN Tryz.prog n M=.ended (.done v) l->runN Tryz.prog m M=.ended (.done u) i->v=u/\l=i:=by
  intro n m v u l i M s d g;obtain⟨k,rfl⟩:∃ k,m=n+k:=⟨m - n,by omega⟩
  rw [runN_add,d] at g
  simp at g
  exact g
 rcases Nat.le_total n m with c | c
 ·obtain⟨rfl,rfl⟩:=j c d g;exact⟨v,l,p,o⟩
 ·obtain⟨rfl,rfl⟩:=j c g d;exact⟨u,i,p,o⟩
theorem pj {x y:Nat} (g:x<18446744073709551616) (hn:ah (x:Int)=false) (w:World) (h:Calls Tryz.prog 54 #[.float .f64 x] w fun e d=>e=.returned (.float .f64 y)/\Below w.heap.size w d):lV x=some y:=by
 have f:=ck g;obtain⟨v,d,⟨a,_⟩,z,b,c⟩:=CQ (R:=fun v _=>v=.float .f64 y/\True) (R':=fun v _=>∃ z,v=.float .f64 z/\Ag (lV x) z) (by kernel_rfl) (h.mono fun e d ⟨a,_⟩=>⟨_,a,rfl,trivial⟩) ((f.prog w).mono fun e d ⟨z,a,b,_⟩=>⟨_,a,z,rfl,b.1⟩)
 rw [a] at b
 obtain rfl:y=z:=by injection b
 obtain⟨q,e,_⟩:=f.num hn;rw [e] at c ⊢
 rw [cz c]
theorem LM (w:World):Calls Tryz.prog 54 #[.float .f64 9223372036854775808] w fun e a=>e=.returned (.float .f64 4607182418800017408)/\Below w.heap.size w a:=by
 have:=lQ 9223372036854775808 9223372036854775808 4602678819172646912 0 0 0 9223372036854775808 9223372036854775808 4607182418800017408 0 w (by unfold U64;omega) (by decide) (by decide) (by decide) (by decide) (by decide) (by decide+kernel) (by decide+kernel) qL (by decide+kernel) (by decide+kernel) (by decide+kernel) (by decide+kernel) (by show _=_;decide+kernel) (by show U64 _;unfold U64;omega) (by decide+kernel) (by omega) (by decide+kernel) (by decide+kernel)
 rw [show aI (az (4607182418800017408:Nat)) (aP (4607182418800017408:Nat)+0)=4607182418800017408 by decide+kernel] at this
 exact this
theorem Qt (a:World):lV 0=some 4607182418800017408:=pj (by decide) (by decide) a (Rn a)
theorem Oq (a:World):lV 9223372036854775808=some 4607182418800017408:=pj (by decide) (by decide) a (LM a)
theorem Ot (a:World) (s:Bool):PI (PJ (some (wrd s 0)))=some 4607182418800017408:=by
 cases s
 ·exact Oq a
 ·exact Qt a
end Go.Proofs.YtfdddijdjpijbaaGreat
