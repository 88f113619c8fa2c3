/-  -/
import Derived.Test.YtfdddijdjpijbaaGreatHaz
import Derived.Test.YtfdddijdjpijbaaGreatHay
import Derived.Test.YtfdddijdjpijbaaGreatHas
import Derived.Test.YtfdddijdjpijbaaGreatHaq
import Derived.Test.YtfdddijdjpijbaaGreatHal
import Derived.Test.YtfdddijdjpijbaaGreatHaw
import Derived.Test.YtfdddijdjpijbaaGreatNFrac
import Derived.Eval
set_option maxHeartbeats 3200000
set_option maxRecDepth 20000
namespace Go.Proofs.YtfdddijdjpijbaaGreat
open Go.RowKit
theorem Dk:FitL lnL:=by unfold FitL;decide
theorem Jk {cs:List Nat} {x:Nat} (b:FitL cs):∀ k q,hornAt cs x k=some q->q<18446744073709551616
 | 0,q,h=>by
  have:cs.getD (cs.length - 1) 0=q:=Option.some.inj h;rw [<- this];exact b.get _
 | k+1,q,h=>by
  have a:fR x (hornAt cs x k) (cs.getD (cs.length - 2 - k) 0)=some q:=h;rw [<- pJ] at a
  exact jb (by simp) a
theorem Bh {cs:List Nat} {x:Nat} (a:FitL cs):cn (bj cs x)<18446744073709551616:=by
 cases h:bj cs x with
 | none=>decide
 | some q=>
  unfold bj at h
  split at h
  ·have:0=q:=Option.some.inj h
   show q<_
   omega
  ·exact Jk a _ q h
theorem Pb (k:Nat) (d:k<11):∃ fz c:Int,Hid (∀ w,Calls Tryz.prog 101 #[.int .i64 (2*(k:Int)+1)] w fun e b=>e=.returned (.int .u64 fz)/\Below w.heap.size w b)/\
  Hid (∀ w,Calls Tryz.prog 144 #[.int .u64 4607182418800017408,.int .u64 fz] w fun e b=>e=.returned (.int .u64 c)/\Below w.heap.size w b)/\Hid (Value.int IntKind.u64 c=uV (lnL.getD k 0)):=by
 refine⟨(fi (2*(k:Int)+1):Int),(lnL.getD k 0:Int),fun w=>cV _ w (by omega) (by omega),fun w=>?_,rfl⟩
 have:=iu 4607182418800017408 (fi (2*(k:Int)+1)) 4607182418800017408 _ w rfl rfl (by unfold U64;omega) (ag (wV (a:=2*(k:Int)+1) rfl (by omega) (by omega)).2.2.2)
 have e:=IQ k d;rw [show ((2*k+1:Nat):Int)=2*(k:Int)+1 by omega] at e
 rw [e,ar] at this;exact this
theorem Fa (x N a b hi lo:Nat) (u e br:Int) (w:World) (hu:u=(x:Int)) (h:U64 u) (hn:ah u=false) (dx:sgB u=false) (hz:(szI u==0)=false) (as:aY u=false) (cs:af x) (ho:OfR x false N e) (P:N≠0)
  (q1:floatBits .sub .f64 (lnM N) 4607182418800017408=some a) (q2:floatBits .add .f64 (lnM N) 4607182418800017408=some b) (q8:floatBits .mul .f64 (fi (lnK N e)) 4604418534311723008=some hi) (q9:floatBits .mul .f64 (fi (lnK N e)) 4461442080421002358=some lo) (ba:(cn (lnO a b hi lo):Int)=br) :
  Calls Tryz.prog 148 #[.int .u64 u] w fun e m=>e=.returned (.int .u64 br)/\Below w.heap.size w m:=by
 have s:=ho.lt;have eT:=ho.lo;have O:=ho.hi;have ei:N.log2<=52:=by have:=(Nat.log2_lt P).2 (show N<2^53 from s);omega
 obtain⟨o1,o2⟩:=lP P s;obtain⟨i0,ej,es,em,er⟩:=info_parts infoU;have HN:=hideS (aj u · h);rw [hn] at HN
 have cc:Hid (∀ w,Calls Tryz.prog 151 #[.int .u64 u] w fun e m=>e=.returned (.bool false)/\m=w):=fun w=>by
  have:=bV u w;rw [dx] at this;exact this
 have cv:=hideS (aI u · h);have HI:=hideS (aw u · h);rw [as] at HI
 have ca:Hid (∀ w,Calls Tryz.prog 74 #[.int .u64 u] w fun r m=>∃ v,r=.returned (.agg #[.bool false,v,.int .i64 e])/\DN m v N/\Below w.heap.size w m):=fun w=>by
  refine (eC x u w hu h cs).mono ?_
  rintro r m ⟨neg,v,N',e',rfl,hd,bv,d⟩;have cp:N'≠0:=by
   intro c;have v1:=bv.val;have v2:=ho.val;rw [c,Nat.zero_mul] at v1
   rw [<- v1] at v2
   rcases Nat.mul_eq_zero.1 v2 with c | c
   ·exact P c
   ·have:=Nat.two_pow_pos (e+1074).toNat;omega
  obtain⟨m1,m2⟩:=bv.mag cp;obtain⟨n1,n2⟩:=ho.mag P;have e1:N'=N:=by rw [m1,n1]
  have e2:e'=e:=by rw [m2,n2]
  have e3:neg=false:=by rw [bv.sgn cp,<- ho.sgn P]
  subst e1 e2 e3;exact⟨v,rfl,hd,d⟩
 obtain⟨Bl,bx⟩:∃ Bl:Int,(bl N:Int)=Bl:=⟨_,rfl⟩;have ec:Bl=(N.log2:Int)+1:=by rw [<- bx,eA P];rfl
 obtain⟨F,ev⟩:∃ F:Int,Bl - 1+e=F:=⟨_,rfl⟩;have f1:IntKind.i64.wrap (Bl - 1)=Bl - 1:=by rw [IntKind.wrap_i64];omega
 have f2:IntKind.i64.wrap (Bl - 1+e)=F:=by rw [IntKind.wrap_i64];omega
 have fa: -1100<=F:=by omega
 have eW:F<=1100:=by omega
 obtain⟨m0,C⟩:∃ m0:Int,m0=(oneB N:Int):=⟨_,rfl⟩;have ct:Hid (∀ v w,DN w v N->Calls Tryz.prog 77 #[.agg #[.bool false,v,.int .i64 (e - F)]] w fun r m=>r=.returned (.int .u64 m0)/\Below w.heap.size w m):=fun v w hd=>by
  have:=gv false v (e - F) N w hd (by have:=dr s;omega) (by omega) (by omega)
  rw [fw false _ P,if_neg (by decide),Int.zero_add,show e - F= -(N.log2:Int) by omega,tw P s,<- C,<- show e - F= -(N.log2:Int) by omega] at this
  exact this
 have bh:U64 m0:=by rw [C];exact ag (by omega)
 obtain⟨g,hg⟩:∃ g,decide (4609047870845172685<oneB N)=g:=⟨_,rfl⟩;have ds:Hid (∀ w,Calls Tryz.prog 60 #[.int .u64 4609047870845172685,.int .u64 m0] w fun r m=>r=.returned (.bool g)/\w=m):=fun w=>by
  have r1:=iE (b:=oneB N) (by omega)
  have r2:=iE (b:=4609047870845172685) (by decide)
  refine gC 4609047870845172685 m0 g w (by unfold U64;omega) bh (by decide) (by rw [C];exact r1.2.1) ?_
  rw [C,r1.2.2,show ae (4609047870845172685:Int)=4609047870845172685 from r2.2.2,<- hg]
  exact decide_eq_decide.2 (by omega)
 obtain⟨mi,G⟩:∃ mi:Int,mi=(lnM N:Int):=⟨_,rfl⟩;have bo:U64 mi:=by rw [G];exact ag (by have:=(Dj P s).2;omega)
 have al:Hid (g=true->∀ w,Calls Tryz.prog 63 #[.int .u64 m0,.int .u64 4602678819172646912] w fun r m=>r=.returned (.int .u64 mi)/\Below w.heap.size w m):=fun c w=>by
  have hc:4609047870845172685<oneB N:=by rw [c] at hg;exact of_decide_eq_true hg
  exact mR (z:=mi) C (v:=4602678819172646912) rfl bh (by unfold U64;omega) (Jh (by omega) (by omega)) (by rw [G];unfold lnM;rw [if_pos hc]) w
 have di:g=false->m0=mi:=fun c=>by
  have hc:¬ 4609047870845172685<oneB N:=by rw [c] at hg;exact of_decide_eq_false hg
  rw [C,G];unfold lnM;rw [if_neg hc]
 have H:(if g then F+1 else F)=lnK N e:=by
  unfold lnK;rw [<- hg]
  by_cases c:4609047870845172685<oneB N
  ·rw [if_pos c,decide_eq_true c,if_pos rfl];omega
  ·rw [if_neg c,decide_eq_false c,if_neg (by decide)];omega
 obtain⟨ai,ac⟩:∃ ai:Int,ai=(a:Int):=⟨_,rfl⟩;obtain⟨bi,R⟩:∃ bi:Int,bi=(b:Int):=⟨_,rfl⟩;obtain⟨Y,O⟩:∃ Y:Int,Y=(hi:Int):=⟨_,rfl⟩;obtain⟨ad,D⟩:∃ ad:Int,ad=(lo:Int):=⟨_,rfl⟩;obtain⟨fz,K⟩:∃ fz:Int,fz=(fi (lnK N e):Int):=⟨_,rfl⟩;have bs:U64 fz:=by rw [K];exact ag (wV (a:=lnK N e) rfl (by rw [<- H];split<;>omega) (by rw [<- H];split<;>omega)).2.2.2
 obtain⟨q,X⟩:∃ q,floatBits .quo .f64 a b=q:=⟨_,rfl⟩;obtain⟨si,I⟩:∃ si:Int,si=(cn q:Int):=⟨_,rfl⟩;have ak:U64 si:=by rw [I,<- X];exact ag (xc (by simp) _ _)
 obtain⟨zi,V⟩:∃ zi:Int,zi=(cn (opO .mul q q):Int):=⟨_,rfl⟩;have da:U64 zi:=by rw [V];exact ag (qB (by simp) _ _)
 obtain⟨ti,Z⟩:∃ ti:Int,ti=(cn (opO .mul (some 4611686018427387904) q):Int):=⟨_,rfl⟩;have cq:U64 ti:=by rw [Z];exact ag (qB (by simp) _ _)
 obtain⟨vi,bk⟩:∃ vi:Int,vi=(cn ((opO .mul q q).bind fun z=>bj lnL z):Int):=⟨_,rfl⟩
 have L:vi=(cn (bj lnL (cn (opO .mul q q))):Int):=by rw [bk,Di (Hu _) (by rw [lnL_len];decide)]
 have dp:U64 vi:=by rw [L];exact ag (Bh Dk)
 obtain⟨pi,W⟩:∃ pi:Int,pi=(cn (opO .mul (opO .mul (some 4611686018427387904) q) ((opO .mul q q).bind fun z=>bj lnL z)):Int):=⟨_,rfl⟩
 have df:U64 pi:=by rw [W];exact ag (qB (by simp) _ _)
 obtain⟨ci,U⟩:∃ ci:Int,ci=(cn (opO .add (opO .mul (opO .mul (some 4611686018427387904) q) ((opO .mul q q).bind fun z=>bj lnL z)) (some lo)):Int):=⟨_,rfl⟩
 have dY:U64 ci:=by rw [U];exact ag (qB (by simp) _ _)
 have M:br=(cn (opO .add (some hi) (opO .add (opO .mul (opO .mul (some 4611686018427387904) q) ((opO .mul q q).bind fun z=>bj lnL z)) (some lo))):Int):=by rw [<- ba,<- X];rfl
 have HS:=hideS fun w=>Ba (z:=ai) G (v:=4607182418800017408) rfl bo (by unfold U64;omega) q1 ac w
 have HA:=hideS fun w=>Jd (z:=bi) G (v:=4607182418800017408) rfl bo (by unfold U64;omega) q2 R w
 have cl:U64 ai:=gf (by simp) q1 ac
 have dE:U64 bi:=gf (by simp) q2 R
 have HD:Hid (∀ w,Calls Tryz.prog 144 #[.int .u64 ai,.int .u64 bi] w fun r m=>r=.returned (.int .u64 si)/\Below w.heap.size w m):=fun w=>by
  have:=iu a b ai bi w ac R cl dE;rw [X,<- I] at this;exact this
 have HZ:=hideS fun w=>Bg I I ak ak V w
 have HT:=hideS fun w=>Bg (o:=some 4611686018427387904) (u:=4611686018427387904) rfl I (by unfold U64;omega) ak Z w
 have HH:Hid (∀ B v w,OwnF w B 41 uV v lnL->Calls Tryz.prog 103 #[v,.int .u64 zi] w fun e m=>e=.returned (.int .u64 vi)/\Below w.heap.size w m):=fun B v w hO=>by
  have:=km B 11 (cn (opO .mul q q)) v zi lnL w hO Dk V da lnL_len (by decide)
  rw [<- L] at this;exact this
 have HP:=hideS fun w=>Bg Z bk cq dp W w
 have bb:Hid (∀ w,Calls Tryz.prog 101 #[.int .i64 (if g then F+1 else F)] w fun e m=>e=.returned (.int .u64 fz)/\Below w.heap.size w m):=fun w=>by
  rw [H];exact dN (lnK N e) fz w (by rw [<- H];split<;>omega) (by rw [<- H];split<;>omega) K.symm
 have ef:=hideS fun w=>mR (z:=Y) K (v:=4604418534311723008) rfl bs (by unfold U64;omega) q8 O w
 have ed:=hideS fun w=>mR (z:=ad) K (v:=4461442080421002358) rfl bs (by unfold U64;omega) q9 D w
 have HC:=hideS fun w=>Jj (o':=some lo) W (v:=ad) D df (gf (by simp) q9 D) U w
 have HR:=hideS fun w=>Jj (o:=some hi) (u:=Y) O U (gf (by simp) q8 O) dY M w
 have cu:=hideS bx;have cd:=hideS s;clear h hn dx as hu cs ho P q1 q2 q8 q9 ba ei s o1 o2 bx ec C bh G bo H ac R O D K bs X I ak V da Z cq bk L dp W df U dY M cl dE hg ev
 go_enter Tryz.func148,Tryz.ntmps148
 go_wp2_with fail
 refine (turned (HN.out _)).mono ?_
 rintro e m ⟨rfl,rfl⟩
 go_wp2_with fail
 refine (turned (cc.out _)).mono ?_
 rintro e m ⟨rfl,rfl⟩
 go_wp2_with fail
 refine (turned (cv.out _)).mono ?_
 rintro e m ⟨rfl,rfl⟩
 go_wp2_with fail
 refine (turned (HI.out _)).mono ?_
 rintro e m ⟨rfl,rfl⟩
 go_wp2_with fail
 refine (ca.out _).mono ?_
 rintro r w1 ⟨v1,rfl,T,A⟩;obtain⟨p,l,c,rfl⟩:=T.shape;have Q:=hideS (aE w1 false (.slice p l c) e);have dn:=hideS (T.below Q.out);have B1:=hideS (A.trans (Q.out.mono A.size));have en:=hideS A.size;have dd:=hideS T;have HQ:Hid (∀ n,DN ((boxN w1 false (.slice p l c) e).drewN n) (.slice p l c) N):=fun n=>dn.out.drewN n
 clear A T ca HN cc cv HI
 go_wp2_with fail
 go_quiet ((go_at_call 95;exact Calls.quiet_of_same (mA (.slice p l c) N Bl _ (HQ.out _) (by have:=dr cd.out;omega) cu)))
 go_wp2_with fail
 obtain⟨w2,ab⟩:∃ w2,w2=((boxN w1 false (.slice p l c) e).drewN nq).setCell ⟨w1.heap.size,2,none⟩ (Value.int IntKind.i64 (e - F)):=⟨_,rfl⟩;rw [<- ab];have cr:Hid (Below w1.heap.size w1 w2):=by rw [ab];exact (below_drewN Q.out _).setCell (Nat.le_refl _) _
 have B2:Hid (Below w.heap.size w w2):=by rw [ab];exact (below_drewN B1.out _).setCell (show w.heap.size<=w1.heap.size from en.out) _
 have eb:=hideS (ct.out _ w2 (dd.out.below cr.out));clear ab cr B1 dd HQ dn Q ct cu cd f1 f2;refine eb.out.mono ?_
 rintro r w3 ⟨rfl,d⟩;have B3:=hideS (B2.out.trans (d.mono B2.out.size));clear d B2 eb
 go_wp2_with fail
 refine (ds.out _).mono ?_
 rintro r m ⟨rfl,rfl⟩;clear ds;cases g
 case' true=>
  simp only [if_true] at bb
  have cx:=hideS (al.out rfl);clear al;have al:True:=trivial
  go_wp2_with fail
  refine (cx.out _).mono ?_
  rintro r w4 ⟨rfl,d⟩;have B3:=hideS (B3.out.trans (d.mono B3.out.size));clear d cx
 case' false=>
  obtain rfl:=di rfl;simp only [Bool.false_eq_true,if_false] at bb
 all_goals
  clear al di
  go_wp2_with fail
  refine (HS.out _).mono ?_
  rintro r w5 ⟨rfl,d⟩;have B5:=hideS (B3.out.trans (d.mono B3.out.size));clear d
  go_wp2_with fail
  refine (HA.out _).mono ?_
  rintro r w6 ⟨rfl,d⟩;have B6:=hideS (B5.out.trans (d.mono B5.out.size));clear d
  go_wp2_with fail
  refine (HD.out _).mono ?_
  rintro r w7 ⟨rfl,d⟩;have B7:=hideS (B6.out.trans (d.mono B6.out.size));clear d
  go_wp2_with fail
  refine (HZ.out _).mono ?_
  rintro r w8 ⟨rfl,d⟩;have B8:=hideS (B7.out.trans (d.mono B7.out.size));clear d HS HA HD HZ B3 B5 B6 B7
  go_wp2_with fail
  go_loopw [8,9] (fun v i wr=>∃ k:Nat,k<=11/\i=.int .i64 k/\Hid (wr.ownsRow w8.heap.size 41 1 v k (rowOf uV lnL k))/\Hid (Below w.heap.size w wr)/\Hid (w8.heap.size<=wr.heap.size)) (fun _ i _=>11 - (intOf i).toNat)
  case atStart=>exact⟨0,Nat.zero_le _,rfl,World.ownsRow_nil _ _ _ _,B8,Nat.le_refl _⟩
  case round=>
   obtain⟨k,hk,rfl,E,HB,eh⟩:=hrel
   by_cases s:k<11
   ·have ek:=hideS (take_next (f:=uV) (show k<lnL.length by rw [lnL_len];exact s))
    obtain⟨tz,xi,T1,T2,T3⟩:=Pb k s;have ee:=HB.out.size;have cf:=eh.out;have ep:=B8.out.size
    go_wp2_with fail
    refine (T1.out _).mono ?_
    rintro r w9 ⟨rfl,A⟩;have bc:=hideS A;clear A
    go_wp2_with fail
    refine (T2.out _).mono ?_
    rintro r S ⟨rfl,cy⟩;have bz:=hideS (bc.out.trans (cy.mono bc.out.size));have dy:=hideS (own_below E.out bz.out);have dc:=hideS (HB.out.trans (bz.out.mono ee));have ea:=dc.out.size;have am:w8.heap.size<=S.heap.size:=Nat.le_trans cf bz.out.size;clear cy bc E
    go_wp2_with (at_builtin;refine wpList_append_own _ rfl _ _ 33 rfl w8.heap.size 41 i0 (.int .u64 0) 1 8 Tryz.underlying33 ej es em er rfl (by decide) _ _ _ rfl (dy.out.alloc _) ⟨S.heap.size,0,none⟩ 1 1 [.int .u64 xi] rfl rfl ?c1 ?c2 ?c3 ?c4 ?c5 ?_)
    case c1=>
     intro j u hj
     match j,hj with
     | 0,hj=>simp at hj;subst hj;simp [Addr.add]
    case c2=>intro u hu;simp at hu;subst hu;rfl
    case c3=>unfold maxLen;omega
    case c4=>omega
    case c5=>simp;omega
    ·intro v' dk t y _;have J:=dy.out.lt;have dg:Below w.heap.size w dk:=(dc.out.alloc ea _).grown y (by simp;omega) (fun j hj=>Nat.le_trans ep (J j hj).1)
     have db:Below w8.heap.size S dk:=((Below.refl w8.heap.size S).alloc am _).grown y (by simp;omega) (fun j hj=>(J j hj).1)
     rw [T3.out,<- ek.out] at t
     have HO:=hideS t;have et:=hideS dg;have eg:=hideS (Nat.le_trans am db.size);clear t y J dg db;go_wp2
     go_roundw
     case rel=>exact⟨k+1,by omega,by simp,HO,et,eg⟩
     case measure=>simp [intOf];omega
   ·obtain rfl:k=11:=by omega
    have h1:=E.out;rw [show (11:Nat)=lnL.length from lnL_len.symm,rowOf_all] at h1
    have HO:=hideS (OwnF.mk h1:OwnF wr w8.heap.size 41 uV _ lnL);clear h1 E
    go_wp2_with fail
    refine (HT.out _).mono ?_
    rintro r el ⟨rfl,d⟩;have C1:=hideS (HB.out.trans (d.mono HB.out.size));have cm:=hideS (HH.out _ _ el (HO.out.below d));clear d HO
    go_wp2_with fail
    refine cm.out.mono ?_
    rintro r ex ⟨rfl,d⟩;have C2:=hideS (C1.out.trans (d.mono C1.out.size));clear d cm
    go_wp2_with fail
    refine (HP.out _).mono ?_
    rintro r ez ⟨rfl,d⟩;have C3:=hideS (C2.out.trans (d.mono C2.out.size));clear d
    go_wp2_with fail
    refine (bb.out _).mono ?_
    rintro r eQ ⟨rfl,d⟩;have C4:=hideS (C3.out.trans (d.mono C3.out.size));clear d
    go_wp2_with fail
    refine (ef.out _).mono ?_
    rintro r fb ⟨rfl,d⟩;have C5:=hideS (C4.out.trans (d.mono C4.out.size));clear d
    go_wp2_with fail
    refine (ed.out _).mono ?_
    rintro r eB ⟨rfl,d⟩;have C6:=hideS (C5.out.trans (d.mono C5.out.size));clear d
    go_wp2_with fail
    refine (HC.out _).mono ?_
    rintro r eP ⟨rfl,d⟩;have C7:=hideS (C6.out.trans (d.mono C6.out.size));clear d
    go_wp2_with fail
    refine (HR.out _).mono ?_
    rintro r ey ⟨rfl,d⟩;have C8:=hideS (C7.out.trans (d.mono C7.out.size));clear d
    go_wp2_with fail
    go_ret
    exact⟨rfl,C8.out⟩
end Go.Proofs.YtfdddijdjpijbaaGreat
namespace Go.Proofs.YtfdddijdjpijbaaGreat
theorem Jl {r:Nat} (h:af r) (a:r<18446744073709551616): -9218868437227405312<ae r/\ae r<9218868437227405312:=by
 rw [<- bW a (iA h)];unfold af at h
 unfold sgn;generalize (r / 9223372036854775808 % 2==1)=p at *
 cases p<;>simp only [Bool.false_eq_true,if_true,if_false]<;>omega
theorem Jm {b:Nat} (h:0<vI b):sB b=false/\vI b=(aV b:Int)/\b % 9223372036854775808≠0:=by
 have a:b % 9223372036854775808≠0:=by
  intro e;rw [ko] at h
  have:aV b=0:=by unfold aV;rw [e];exact bp
  rw [this] at h
  unfold sgZ at h
  split at h<;>omega
 rw [ko] at h ⊢
 unfold sgZ at h ⊢
 cases e:sB b
 ·exact⟨rfl,by simp only [Bool.false_eq_true,if_false],a⟩
 ·rw [e] at h;simp only [if_true] at h;omega
theorem jj {op:BinOp} {x y f:Nat} {k:Int} (h:∃ r,floatBits op .f64 x y=some r/\RkW r k) (a:floatBits op .f64 x y=some f):RkW f k:=by
 obtain⟨r,e,b⟩:=h;obtain rfl:=Option.some.inj (e.symm.trans a);exact b
end Go.Proofs.YtfdddijdjpijbaaGreat
namespace Go.Proofs.YtfdddijdjpijbaaGreat
open Go.RowKit
structure Bd (x c:Nat):Prop where
 num:af x
 lt:x<18446744073709551616
 lo: -(vI c)<=vI x
 hi:vI x<=vI c
theorem Jn {c:Nat} (hc:af c) (h:c<18446744073709551616):af (flipN c)/\flipN c<18446744073709551616/\ae (flipN c:Int)= -ae (c:Int)/\vI (flipN c)= -(vI c):=by
 obtain⟨d,a,e⟩:=cz h;have b:af (flipN c):=by unfold af at hc ⊢;rw [a];exact hc
 refine⟨b,d,?_,?_⟩
 ·rw [<- bW d (iA b),<- bW h (iA hc),a,e];unfold sgn;cases (c / 9223372036854775808 % 2==1)<;>simp
 ·unfold vI;rw [a,e];cases (c / 9223372036854775808 % 2==1)<;>simp
theorem Dl {r c:Nat} {k:Int} (a:RkW r k) (hc:af c) (h:c<18446744073709551616) (e: -ae (c:Int)<=k) (g:k<=ae (c:Int)):Bd r c:=by
 obtain⟨i,j,d,f⟩:=Jn hc h;have l:=Jl hc h;have b:af r:=xH a (by omega) (by omega)
 refine⟨b,a.2.1,?_,?_⟩
 ·rw [<- f];refine (cB i b j a.2.1).1 ?_
  rw [d,a.1];exact e
 ·refine (cB b hc a.2.1 h).1 ?_
  rw [a.1];exact g
theorem vz {x y a b c:Nat} (g:Bd x a) (d:Bd y b) (h:af a) (k:af b) (hc:af c) (e:floatBits .add .f64 a b=some c):∃ r,floatBits .add .f64 x y=some r/\Bd r c:=by
 obtain⟨r,i,j⟩:=fG g.num d.num;have f:=jj (fG h k) e;have:=g.lo;have:=g.hi;have:=d.lo;have:=d.hi;refine⟨r,i,Dl j hc f.2.1 ?_ ?_⟩
 ·rw [f.1,<- ve];exact dZ _ (by omega)
 ·rw [f.1];exact dZ _ (by omega)
theorem Pc {x y a b c:Nat} (g:Bd x a) (d:Bd y b) (h:af a) (k:af b) (hc:af c) (e:floatBits .add .f64 a b=some c):∃ r,floatBits .sub .f64 x y=some r/\Bd r c:=by
 obtain⟨r,i,j⟩:=pW g.num d.num;have f:=jj (fG h k) e;have:=g.lo;have:=g.hi;have:=d.lo;have:=d.hi;refine⟨r,i,Dl j hc f.2.1 ?_ ?_⟩
 ·rw [f.1,<- ve];exact dZ _ (by omega)
 ·rw [f.1];exact dZ _ (by omega)
theorem mT {x y a b c:Nat} (g:Bd x a) (d:Bd y b) (h:af a) (k:af b) (hc:af c) (e:floatBits .mul .f64 a b=some c):∃ r,floatBits .mul .f64 x y=some r/\Bd r c:=by
 obtain⟨r,i,j⟩:=ji g.num d.num;have f:=jj (ji h k) e;obtain⟨l,u⟩:=qt g.lo g.hi d.lo d.hi;refine⟨r,i,Dl j hc f.2.1 ?_ ?_⟩
 ·rw [f.1,<- ve];exact dZ _ l
 ·rw [f.1];exact dZ _ u
theorem vI_abs (x:Nat):vI x=(aV x:Int)\/vI x= -(aV x:Int):=by
 rw [ko];unfold sgZ;cases sB x
 ·exact Or.inl rfl
 ·exact Or.inr rfl
theorem Pd {x y a d c:Nat} (g:Bd x a) (m:af y) (G:vI d<=vI y) (t:0<vI d) (s:af a) (k:af d) (hc:af c) (e:floatBits .quo .f64 a d=some c):∃ r,floatBits .quo .f64 x y=some r/\Bd r c:=by
 obtain⟨E,C,o⟩:=Jm (b:=y) (by omega)
 obtain⟨n,F,w⟩:=Jm t;obtain⟨r,p,u⟩:=pX g.num m o;have l:=jj (pX s k w) e;have D:0<=vI a:=by have:=g.lo;have:=g.hi;omega
 have j:aV x<=aV a:=by
  have i:=g.lo;have B:=g.hi;rcases vI_abs x with h | h<;>rcases vI_abs a with z | z<;>omega
 have A:qR (aV x) (aV y)<=qR (aV a) (aV d):=Nat.le_trans (Qo j) (My (by omega) (by omega))
 have f:ae (c:Int)=(qR (aV a) (aV d):Int):=by
  rw [l.1,n]
  by_cases q:aV a=0
  ·have:qR (aV a) (aV d)=0:=by unfold qR;rw [if_pos q]
   rw [this];unfold sgZ;split<;>simp
  ·have:sB a=false:=by
    have i:=ko a;cases v:sB a with
    | false=>rfl
    | true=>rw [v] at i;unfold sgZ at i;simp at i;omega
   rw [this];rfl
 refine⟨r,p,Dl u hc l.2.1 ?_ ?_⟩
 ·rw [f];unfold sgZ;split<;>omega
 ·rw [f];unfold sgZ;split<;>omega
theorem Bd.up {x c d:Nat} (h:Bd x c) (a:vI c<=vI d):Bd x d:=⟨h.num,h.lt,by have:=h.lo;omega,by have:=h.hi;omega⟩
theorem iG {x c:Nat} (h:x<=c) (hc:c<9218868437227405312):Bd x c:=by
 have a:af x:=by unfold af;omega
 have b:af c:=by unfold af;omega
 have d:=(kK (r:=x) (by omega)).1
 have e:=(kK (r:=c) (by omega)).1
 have g:ae ((0:Nat):Int)=0:=by decide
 have l:vI 0=0:=by decide+kernel
 have f:af 0:=by unfold af;decide
 have i:=(cB a b (by omega) (by omega)).1 (by rw [d,e];omega)
 have k:=(cB f a (by omega) (by omega)).1 (by rw [g,d];omega)
 have j:=(cB f b (by omega) (by omega)).1 (by rw [g,e];omega)
 rw [l] at k j
 exact⟨a,by omega,by omega,i⟩
theorem MJ {cs:List Nat} {x z:Nat} {B M:Nat->Nat} {n:Nat} (q:Bd x z) (g:af z) (j:Bd (cs.getD (cs.length - 1) 0) (B 0)) (c:∀ i,i<=n->af (B i)) (d:∀ i,i<n->af (M i)) (hc:∀ i,i<n->Bd (cs.getD (cs.length - 2 - i) 0) 4607182418800017408)
  (e:∀ i,i<n->floatBits .mul .f64 (B i) z=some (M i)) (k:∀ i,i<n->floatBits .add .f64 (M i) 4607182418800017408=some (B (i+1))):∀ i,i<=n->∃ r,hornAt cs x i=some r/\Bd r (B i):=by
 intro i
 induction i with
 | zero=>exact fun _=>⟨_,rfl,j⟩
 | succ i f=>
  intro hi;obtain⟨r,o,t⟩:=f (by omega)
  obtain⟨m,h,a⟩:=mT t q (c i (by omega)) g (d i (by omega)) (e i (by omega))
  obtain⟨s,l,b⟩:=vz a (hc i (by omega)) (d i (by omega)) (by unfold af;decide) (c (i+1) hi) (k i (by omega))
  refine⟨s,?_,b⟩
  show fR x (hornAt cs x i) _=some s
  rw [o]
  show ((some r).bind fun p=>floatBits .mul .f64 p x).bind _=some s
  rw [show ((some r).bind fun p=>floatBits .mul .f64 p x)=floatBits .mul .f64 r x from rfl,h]
  exact l
def nineN:Nat->Nat
 | 0=>1
 | n+1=>9*nineN n+1
def yc (i:Nat):Nat:=fi (nineN i:Int)
def Dm (i:Nat):Nat:=fi ((9*nineN i:Nat):Int)
theorem jk:∀ i,i<11->(yc i) % 9223372036854775808<9218868437227405312/\(Dm i) % 9223372036854775808<9218868437227405312/\floatBits .mul .f64 (yc i) 4621256167635550208=some (Dm i)/\floatBits .add .f64 (Dm i) 4607182418800017408=some (yc (i+1)):=by decide+kernel
theorem Dn:∀ i,i<11->lnL.getD i 0<=4607182418800017408:=by decide+kernel
theorem ML {z:Nat} (c:Bd z 4621256167635550208):∃ h,bj lnL z=some h/\Bd h (yc 10):=by
 have a:=MJ (cs:=lnL) (x:=z) (z:=4621256167635550208) (B:=yc) (M:=Dm) (n:=10) c (by unfold af;decide) (iG (Dn _ (by rw [lnL_len];decide)) (by decide)) (fun i hi=>(jk i (by omega)).1) (fun i hi=>(jk i (by omega)).2.1) (fun i hi=>iG (Dn _ (by rw [lnL_len];omega)) (by decide)) (fun i hi=>(jk i (by omega)).2.2.1) (fun i hi=>(jk i (by omega)).2.2.2) 10 (Nat.le_refl _)
 obtain⟨r,b,a⟩:=a;refine⟨r,?_,a⟩
 unfold bj;rw [if_neg (by rw [lnL_len];decide),lnL_len];exact b
theorem Do {N:Nat} (c:N≠0) (h:N<9007199254740992):lnM N<=4611686018427387904:=by
 obtain⟨a,b⟩:=lP c h;unfold lnM
 split<;>omega
theorem Qt {k:Int} (g: -2000<=k) (d:k<=2000):Bd (fi k) (fi 2000):=by
 obtain⟨K,b⟩:∃ K,K=1074:=⟨_,rfl⟩;obtain⟨c,e,_,f⟩:=nA (m:=k) b (by omega) (by omega)
 obtain⟨a,_,_,_⟩:=nA (m:=2000) b (by decide) (by decide)
 have p:(0:Int)<=((2^K:Nat):Int):=Int.natCast_nonneg _;refine⟨e,f,?_,?_⟩
 ·rw [c,a,<- Int.neg_mul];exact Int.mul_le_mul_of_nonneg_right (by omega) p
 ·rw [c,a];exact Int.mul_le_mul_of_nonneg_right d p
theorem cS (x:Nat) (h:decide (x % 9223372036854775808<9218868437227405312)=true):af x:=by unfold af;exact of_decide_eq_true h
theorem Fb {N a b hi lo:Nat} {k:Int} (G:N≠0) (h:N<9007199254740992) (I: -2000<=k/\k<=2000) (V:floatBits .sub .f64 (lnM N) 4607182418800017408=some a) (J:floatBits .add .f64 (lnM N) 4607182418800017408=some b) (K:floatBits .mul .f64 (fi k) 4604418534311723008=some hi) (R:floatBits .mul .f64 (fi k) 4461442080421002358=some lo):∃ y,lnO a b hi lo=some y/\af y:=by
 have l:Bd (lnM N) 4611686018427387904:=iG (Do G h) (by decide)
 have F:Bd 4607182418800017408 4607182418800017408:=iG (Nat.le_refl _) (by decide)
 have d:af 4607182418800017408:=cS _ (by decide)
 have C:af 4611686018427387904:=cS _ (by decide)
 have f:af 4613937818241073152:=cS _ (by decide)
 obtain⟨a',ea,ba⟩:=Pc (c:=4613937818241073152) l F C d f (by decide+kernel)
 obtain rfl:=Option.some.inj (ea.symm.trans V);obtain⟨b',M,m⟩:=vz (c:=4613937818241073152) l F C d f (by decide+kernel)
 obtain rfl:=Option.some.inj (M.symm.trans J);have o:vI 0=0:=by decide+kernel
 have n:af 0:=by unfold af;decide
 have m0:0<=vI (lnM N):=by
  have r1:=(kK (r:=lnM N) (by have:=Do G h;omega)).1
  have:=(cB n l.num (by decide) l.lt).1 (by rw [r1,show ae ((0:Nat):Int)=0 by decide];omega)
  rw [o] at this;exact this
 have i:floatBits .add .f64 0 4607182418800017408=some 4607182418800017408:=by decide+kernel
 have b1:vI 4607182418800017408<=vI b':=by
  obtain⟨r,e,Q⟩:=fG n d;rw [i] at e
  obtain rfl:=Option.some.inj e;have kb:=jj (fG l.num d) J;refine (cB d m.num (by decide) m.lt).1 ?_
  rw [Q.1,kb.1];exact dZ _ (by rw [o];omega)
 have j:0<vI 4607182418800017408:=by
  have:=(nI n d (by decide) (by decide)).1 (by decide)
  rw [o] at this;exact this
 obtain⟨s,U,A⟩:=Pd (c:=4613937818241073152) ba m.num b1 j f d f (by decide+kernel)
 obtain⟨L,D,B⟩:=mT (c:=4618441417868443648) (iG (x:=4611686018427387904) (Nat.le_refl _) (by decide)) A C f (cS _ (by decide)) (by decide+kernel)
 obtain⟨z,ez,O⟩:=mT (c:=4621256167635550208) A A f f (cS _ (by decide)) (by decide+kernel)
 obtain⟨X,P,Y⟩:=ML O;obtain⟨v,ev,W⟩:=mT (c:=fi ((6*nineN 10:Nat):Int)) B Y (cS _ (by decide)) (jk 10 (by decide)).1 (cS _ (by decide+kernel)) (by decide+kernel)
 have H:=Qt I.1 I.2;have g:af (fi 2000):=cS _ (by decide+kernel)
 obtain⟨ab,q,E⟩:=mT (c:=fi 2000) H (iG (x:=4604418534311723008) (c:=4607182418800017408) (by decide) (by decide)) g d g (by decide+kernel)
 obtain rfl:=Option.some.inj (q.symm.trans K);obtain⟨w,p,t⟩:=mT (c:=fi 2000) H (iG (x:=4461442080421002358) (c:=4607182418800017408) (by decide) (by decide)) g d g (by decide+kernel)
 obtain rfl:=Option.some.inj (p.symm.trans R);obtain⟨c,T,S⟩:=vz (c:=fi ((6*nineN 10+2000:Nat):Int)) W t (cS _ (by decide+kernel)) g (cS _ (by decide+kernel)) (by decide+kernel)
 obtain⟨y,Z,u⟩:=vz (c:=fi ((6*nineN 10+4000:Nat):Int)) E S g (cS _ (by decide+kernel)) (cS _ (by decide+kernel)) (by decide+kernel)
 refine⟨y,?_,u.num⟩
 unfold lnO;rw [U,show opO .mul (some 4611686018427387904) (some s)=_ from D,show opO .mul (some s) (some s)=_ from ez,show ((some z).bind fun z=>bj lnL z)=_ from P,show opO .mul (some L) (some X)=_ from ev,show opO .add (some v) (some w)=_ from T]
 exact Z
theorem tA (u:Int) (w:World) (h:U64 u) (hc:ah u=true\/(ah u=false/\sgB u=true/\(szI u==0)=false)) :
  Calls Tryz.prog 148 #[.int .u64 u] w fun e a=>e=.returned (.int .u64 9221120237041090561)/\a=w:=by
 rcases hc with b | ⟨b,g,i⟩
 ·have c:=hideS (aj u · h);rw [b] at c
  clear h b
  go_enter Tryz.func148,Tryz.ntmps148
  go_wp2_with fail
  refine (c.out _).mono ?_
  rintro e a ⟨rfl,rfl⟩
  go_wp2_with fail
  go_ret
  exact⟨rfl,rfl⟩
 ·have c:=hideS (aj u · h);have d:Hid (∀ w,Calls Tryz.prog 151 #[.int .u64 u] w fun e a=>e=.returned (.bool true)/\a=w):=fun w=>by
   have:=bV u w;rw [g] at this;exact this
  have f:=hideS (aI u · h);have j:(szI u !=0)=true:=by rw [bne,i];rfl
  rw [b] at c
  clear h b g
  go_enter Tryz.func148,Tryz.ntmps148
  go_wp2_with fail
  refine (c.out _).mono ?_
  rintro e a ⟨rfl,rfl⟩
  go_wp2_with fail
  refine (d.out _).mono ?_
  rintro e a ⟨rfl,rfl⟩
  go_wp2_with fail
  refine (f.out _).mono ?_
  rintro e a ⟨rfl,rfl⟩
  go_wp2_with fail
  go_ret
  exact⟨rfl,rfl⟩
theorem Bi (u:Int) (w:World) (h:U64 u) (d:ah u=false) (j:(szI u==0)=true) :
  Calls Tryz.prog 148 #[.int .u64 u] w fun e a=>e=.returned (.int .u64 18442240474082181120)/\a=w:=by
 have g:=hideS (aj u · h);have c:=hideS (aI u · h);have i:=hideS fun w=>fB 9218868437227405312 9218868437227405312 18442240474082181120 w rfl (by unfold U64;omega) rfl
 have k:(szI u !=0)=false:=by rw [bne,j];rfl
 rw [d] at g
 cases f:sgB u
 all_goals
  have b:Hid (∀ w,Calls Tryz.prog 151 #[.int .u64 u] w fun e a=>e=.returned (.bool (sgB u))/\a=w):=fun w=>bV u w
  rw [f] at b
  clear d f
  go_enter Tryz.func148,Tryz.ntmps148
  go_wp2_with fail
  refine (g.out _).mono ?_
  rintro e a ⟨rfl,rfl⟩
  go_wp2_with fail
  refine (b.out _).mono ?_
  rintro e a ⟨rfl,rfl⟩
  go_wp2_with (first | (go_at_call 76;refine (c.out _).mono ?_;rintro e a ⟨rfl,rfl⟩) | (go_at_call 34;refine (i.out _).mono ?_;rintro e a ⟨rfl,rfl⟩))
  go_ret
  exact⟨rfl,rfl⟩
theorem Fc (u:Int) (w:World) (h:U64 u) (d:ah u=false) (g:sgB u=false) (k:(szI u==0)=false) (f:aY u=true) :
  Calls Tryz.prog 148 #[.int .u64 u] w fun e a=>e=.returned (.int .u64 u)/\a=w:=by
 have i:=hideS (aj u · h);have c:=hideS (aI u · h);have j:=hideS (aw u · h);have b:Hid (∀ w,Calls Tryz.prog 151 #[.int .u64 u] w fun e a=>e=.returned (.bool false)/\a=w):=fun w=>by
  have:=bV u w;rw [g] at this;exact this
 rw [d] at i
 rw [f] at j
 clear h d g f
 go_enter Tryz.func148,Tryz.ntmps148
 go_wp2_with fail
 refine (i.out _).mono ?_
 rintro e a ⟨rfl,rfl⟩
 go_wp2_with fail
 refine (b.out _).mono ?_
 rintro e a ⟨rfl,rfl⟩
 go_wp2_with (first | (go_at_call 76;refine (c.out _).mono ?_;rintro e a ⟨rfl,rfl⟩) | (go_at_call 72;refine (j.out _).mono ?_;rintro e a ⟨rfl,rfl⟩))
 go_ret
 exact⟨rfl,rfl⟩
structure BothL (x:Nat) (u z:Int):Prop where
 prog:∀ w,Calls Tryz.prog 223 #[.float .f64 x] w fun e w'=>∃ y,e=.returned (.float .f64 y)/\(eV (y:Int) z=true/\U64 (y:Int))/\Below w.heap.size w w'
 doc:∀ w,Calls Tryz.prog 148 #[.int .u64 u] w fun e w'=>e=.returned (.int .u64 z)/\Below w.heap.size w w'
 uz:U64 z
theorem Qu {x:Nat} {u z:Int} {y:Nat} (g:∀ w,Calls Tryz.prog 223 #[.float .f64 x] w fun e c=>e=.returned (.float .f64 y)/\c=w) (h:∀ w,Calls Tryz.prog 148 #[.int .u64 u] w fun e c=>e=.returned (.int .u64 z)/\c=w) (f:z=(y:Int)) (d:U64 (y:Int)):BothL x u z:=
 ⟨fun w=>(g w).mono fun _ _ ⟨a,b⟩=>⟨y,a,⟨by rw [f];exact gV _,d⟩,by rw [b];exact Below.refl _ _⟩,fun w=>(h w).mono fun _ _ ⟨a,b⟩=>⟨a,by rw [b];exact Below.refl _ _⟩,by rw [f];exact d⟩
structure BothO (x:Nat) (u:Int) (o:Option Nat):Prop where
 prog:∀ w,Calls Tryz.prog 223 #[.float .f64 x] w fun e w'=>∃ y,e=.returned (.float .f64 y)/\Ag o y/\Below w.heap.size w w'
 doc:∀ w,Calls Tryz.prog 148 #[.int .u64 u] w fun e w'=>e=.returned (.int .u64 (cn o))/\Below w.heap.size w w'
 lt:cn o<18446744073709551616
 nan:ah (x:Int)=true->o=none
 fin:af x->sB x=false->x % 9223372036854775808≠0->∃ y,o=some y/\af y
theorem yd {x:Nat} {u z:Int} {y:Nat} (d:∀ w,Calls Tryz.prog 223 #[.float .f64 x] w fun e c=>e=.returned (.float .f64 y)/\c=w) (h:∀ w,Calls Tryz.prog 148 #[.int .u64 u] w fun e c=>e=.returned (.int .u64 z)/\c=w) (g:z=(y:Int)) (f:U64 (y:Int)) (hn:ah (x:Int)=false) (hc:¬ (af x/\x % 9223372036854775808≠0)):BothO x u (some y):=
 ⟨fun w=>(d w).mono fun _ _ ⟨a,b⟩=>⟨y,a,rfl,by rw [b];exact Below.refl _ _⟩,fun w=>(h w).mono fun _ _ ⟨a,b⟩=>⟨by rw [a,g];rfl,by rw [b];exact Below.refl _ _⟩,by have:=f.2;rw [ar];omega,fun a=>(by rw [hn] at a;cases a),fun a _ b=>absurd ⟨a,b⟩ hc⟩
theorem tB {x:Nat} {u:Int} {y:Nat} (f:∀ w,Calls Tryz.prog 223 #[.float .f64 x] w fun e c=>e=.returned (.float .f64 y)/\c=w) (g:∀ w,Calls Tryz.prog 148 #[.int .u64 u] w fun e c=>e=.returned (.int .u64 9221120237041090561)/\c=w) (hn:ah (y:Int)=true:=by first | assumption | decide) (d:y<18446744073709551616:=by first | assumption | decide) (hc:af x->sB x=true):BothO x u none:=
 ⟨fun w=>(f w).mono fun _ _ ⟨a,b⟩=>⟨y,a,⟨hn,d⟩,by rw [b];exact Below.refl _ _⟩,fun w=>(g w).mono fun _ _ ⟨a,b⟩=>⟨by rw [a];rfl,by rw [b];exact Below.refl _ _⟩,by rw [lu];omega,fun _=>rfl,fun a b _=>by rw [hc a] at b;cases b⟩
theorem Jo (x:Nat) (u:Int) (l:u=(x:Int)) (h:U64 x):∃ o,BothO x u o:=by
 have i:x<18446744073709551616:=by have:=h.2;omega
 have z:U64 u:=by rw [l];exact h
 have un:U64 ((9221120237041090561:Nat):Int):=by unfold U64;omega
 cases b:ah (x:Int) with
 | true=>exact⟨none,tB (fun w=>OY x w h b) (fun w=>tA u w z (Or.inl (by rw [l];exact b))) (hc:=fun a=>by rw [iA a] at b;cases b)⟩
 | false=>
  have g:ah u=false:=by rw [l];exact b
  have D:=bI l;have Q:U64 ((0:Nat):Int):=by unfold U64;omega
  have C:=jB h Q b (by decide)
  have L:=eI h Q b (by decide)
  have K:ae ((0:Nat):Int)=0:=by decide
  rw [K] at C L
  have m:=bW i b;have j:sgB u=sB x:=by rw [l];exact fQ i
  have hl:=eN b
  by_cases B:x % 9223372036854775808=0
  ·have d:(szI u==0)=true:=by rw [D,B];rfl
   have t:ae (x:Int)=0:=by rw [<- m,B];unfold sgn;split<;>rfl
   refine⟨some 18442240474082181120,yd (fun w=>MH x w h b ?_ ?_) (fun w=>Bi u w z g d) rfl (by unfold U64;omega) b (fun a=>a.2 B)⟩
   ·rw [C,t];rfl
   ·rw [L,t];rfl
  ·have d:(szI u==0)=false:=by rw [D];simp;omega
   cases p:sB x with
   | true=>
    have q:ae (x:Int)<0:=by
     rw [<- m];have k:(x / 9223372036854775808 % 2==1)=true:=p;rw [k];unfold sgn;simp;omega
    refine⟨none,tB (fun w=>OZ x w h b ?_) (fun w=>tA u w z (Or.inr ⟨g,by rw [j];exact p,d⟩)) (hc:=fun _=>p)⟩
    rw [C];exact decide_eq_true q
   | false=>
    have k:(x / 9223372036854775808 % 2==1)=false:=p;have f:ae (x:Int)=((x % 9223372036854775808:Nat):Int):=by rw [<- m,k];rfl
    have T:(FloatKind.f64.format.order x 0==some .lt)=false:=by rw [C,f,decide_eq_false_iff_not];omega
    have S:(FloatKind.f64.format.order x 0==some .eq)=false:=by rw [L,f,decide_eq_false_iff_not];omega
    have Y:U64 ((9218868437227405311:Nat):Int):=by unfold U64;omega
    have P:=lL h Y b (by decide)
    have J:ae ((9218868437227405311:Nat):Int)=9218868437227405311:=by decide
    rw [J,f] at P
    by_cases A:x % 9223372036854775808=9218868437227405312
    ·refine⟨some x,?_⟩
     refine yd (y:=x) (fun w=>Pa x w h b T S ?_) (fun w=>Fc u w z g (by rw [j];exact p) d (by unfold aY;rw [D,A];rfl)) l h b (fun a=>by have:=a.1;unfold af at this;omega)
     rw [P];exact decide_eq_true (by omega)
    ·have v:af x:=by unfold af;omega
     have a3:(FloatKind.f64.format.order x 9218868437227405311==some .gt)=false:=by rw [P,decide_eq_false_iff_not];omega
     have M:aY u=false:=by unfold aY;rw [D];simp;omega
     have c:mg (x % 9223372036854775808)≠0:=fy B;have ad:pl (x % 9223372036854775808)<=2045:=by unfold pl;omega
     obtain⟨N,E⟩:∃ N,N=mg (x % 9223372036854775808):=⟨_,rfl⟩;obtain⟨e,X⟩:∃ e:Int,e= -1074+(pl (x % 9223372036854775808):Int):=⟨_,rfl⟩;have s:OfR x false N e:=⟨by rw [E];exact ns _,by omega,by omega,by rw [E,X];unfold aV V;congr 2;omega,fun _=>p.symm,fun _=>⟨E,X⟩⟩
     rw [<- E] at c
     have n:=s.lt;have ab:=s.lo;have Z:=s.hi;have ac:N.log2<=52:=by have:=(Nat.log2_lt c).2 (show N<2^53 from n);omega
     have hk: -2000<=lnK N e/\lnK N e<=2000:=by unfold lnK;split<;>omega
     have R:=(Dj c n).1;have W:af 4607182418800017408:=by unfold af;decide
     have U:=(wV (a:=lnK N e) rfl (by omega) (by omega)).2.2.1
     have I:=oD R W;have O:=lp R W;have G:=fP U (show af 4604418534311723008 by unfold af;decide)
     have H:=fP U (show af 4461442080421002358 by unfold af;decide)
     refine⟨_,⟨fun w=>(Qs x (lnM N) _ _ _ _ _ (lnK N e) w h b T S a3 (fun w=>Be x N e h v s c w) I O rfl G H).mono ?_,fun w=>Fa x N _ _ _ _ u e _ w l z g (by rw [j];exact p) d M v s c I O G H rfl,qB (by simp) _ _,fun a=>(by rw [b] at a;cases a),fun _ _ _=>Fb c n hk I O G H⟩⟩
     rintro r w' ⟨y,rfl,F,hb⟩;exact⟨y,rfl,F,hb⟩
theorem Jp {a b:Int} (h:eV a b=true) (c:ah b=true):ah a=true:=by
 unfold eV at h
 rw [Bool.or_eq_true] at h
 rcases h with h | h
 ·rw [of_decide_eq_true h];exact c
 ·exact (Bool.and_eq_true_iff.1 h).1
structure ExpR (x:Nat) (o:Option Nat):Prop where
 prog:∀ w,Calls Tryz.prog 54 #[.float .f64 x] w fun e w'=>∃ y,e=.returned (.float .f64 y)/\(Ag o y/\y<18446744073709551616)/\Below w.heap.size w w'
 doc:Qc 64 (x:Int) (cn o)
 nan:ah (x:Int)=true->o=none
 num:ah (x:Int)=false->∃ y,o=some y/\y<=9218868437227405312
theorem Jq (x:Nat):∃ o,x<18446744073709551616->ExpR x o:=by
 by_cases h:x<18446744073709551616
 ·obtain⟨y,z,c,i,l⟩:=EZ x (x:Int) rfl (ag h);have e:y<18446744073709551616:=by have:=c.uy.2;omega
  cases d:ah (x:Int) with
  | true=>
   have g:=i d;have f:ah (y:Int)=true:=Jp c.same (by rw [g];decide)
   exact⟨none,fun _=>⟨fun w=>(c.prog w).mono fun _ _ ⟨a,b⟩=>⟨y,a,⟨⟨f,e⟩,e⟩,b⟩,fun w=>(c.doc w).mono fun _ _ ⟨a,b⟩=>⟨by rw [a,g];rfl,b⟩,fun _=>rfl,fun a=>by rw [d] at a;cases a⟩⟩
  | false=>
   obtain⟨j,k⟩:=l d;exact⟨some y,fun _=>⟨fun w=>(c.prog w).mono fun _ _ ⟨a,b⟩=>⟨y,a,⟨rfl,e⟩,b⟩,fun w=>(c.doc w).mono fun _ _ ⟨a,b⟩=>⟨by rw [a,k];rfl,b⟩,fun a=>(by rw [d] at a;cases a),fun _=>⟨y,rfl,j⟩⟩⟩
 ·exact⟨none,fun a=>absurd a h⟩
noncomputable def lQ (x:Nat):Option Nat:=Classical.choose (Jq x)
theorem ce {x:Nat} (h:x<18446744073709551616):ExpR x (lQ x):=Classical.choose_spec (Jq x) h
noncomputable def Pe (o:Option Nat):Option Nat:=o.bind lQ
structure LnR (x:Nat) (o:Option Nat):Prop where
 prog:∀ w,Calls Tryz.prog 223 #[.float .f64 x] w fun e w'=>∃ y,e=.returned (.float .f64 y)/\(Ag o y/\y<18446744073709551616)/\Below w.heap.size w w'
 doc:Qc 148 (x:Int) (cn o)
 lt:cn o<18446744073709551616
 nan:ah (x:Int)=true->o=none
 fin:af x->sB x=false->x % 9223372036854775808≠0->∃ y,o=some y/\af y
theorem Oe (x:Nat):∃ o,x<18446744073709551616->LnR x o:=by
 by_cases h:x<18446744073709551616
 ·obtain⟨o,b⟩:=Jo x (x:Int) rfl (ag h);refine⟨o,fun _=>⟨fun w=>(b.prog w).mono ?_,b.doc,b.lt,b.nan,b.fin⟩⟩
  rintro _ f ⟨y,rfl,c,d⟩;exact⟨y,rfl,⟨c,Qr c fun q e=>by have:=b.lt;rw [e,ar] at this;exact this⟩,d⟩
 ·exact⟨none,fun a=>absurd a h⟩
noncomputable def lnF (x:Nat):Option Nat:=Classical.choose (Oe x)
theorem jl {x:Nat} (h:x<18446744073709551616):LnR x (lnF x):=Classical.choose_spec (Oe x) h
def AgU (o:Option Nat) (x:Nat):Prop:=Ag o x/\x<18446744073709551616
theorem AgU.u {o:Option Nat} {x:Nat} (h:AgU o x):U64 (x:Int):=ag h.2
def Pf (o:Option Nat):Option Nat:=o.map flipN
theorem Jr {x:Nat} (h:x<18446744073709551616):ah (flipN x:Int)=ah (x:Int):=by
 obtain⟨_,a,_⟩:=cz h;unfold ah;rw [dR,dR,a]
theorem Js {x:Nat} (h:x<18446744073709551616):Op.negFloat .f64 x=flipN x:=(show Op.negFloat .f64 x=x^^^9223372036854775808 from rfl).trans (sQ h)
def endN (x:Nat):Nat:=if aM (x:Int)=true/\szI (x:Int)≠0 then x else 0
def kp (X Y:Nat):Nat:=(70 - (bl X:Int)+(bl Y:Int)).toNat
def tP (P Q:Int):Int:=if P=0 then 0 else bJ (decide (P<0)) (P.natAbs*2^kp P.natAbs Q.natAbs / Q.natAbs) (0 - (kp P.natAbs Q.natAbs:Int) - 0) (decide (0<nd (P.natAbs*2^kp P.natAbs Q.natAbs % Q.natAbs)))
theorem sw (nx e:Bool) (b h:Value) (ex ey:Int) (w:World) (i:DN w b 0) :
  Calls Tryz.prog 61 #[.agg #[.bool nx,b,.int .i64 ex],.agg #[.bool e,h,.int .i64 ey]] w fun x d=>x=.returned (.int .u64 0)/\Below w.heap.size w d:=by
 have a:Hid (Below w.heap.size w (boxN (boxN w nx b ex) e h ey)):=(aE w nx b ex).trans ((aE (boxN w nx b ex) e h ey).mono (by simp))
 have f:=aa fun d (j:Below w.heap.size w d)=>aZ nx b ex 0 true d (i.below j) rfl
 clear i
 go_enter Tryz.func61,Tryz.ntmps61
 go_wp2_with fail
 refine (f.out _ a.out).mono ?_
 rintro x k ⟨rfl,c⟩;have g:=aa (a.out.trans (c.mono a.out.size));clear c
 go_wp2_with fail
 go_ret
 exact⟨rfl,g.out⟩
theorem FO (P Q:Int) (c:Bool) (a b:Value) (w:World) (d:DN w a P.natAbs) (i:DN w b Q.natAbs) (l: -1000000000<=P) (h:P<=1000000000) (j:0<Q) (g:Q<=1000000000) :
  Calls Tryz.prog 61 #[.agg #[.bool (decide (P<0)),a,.int .i64 0],.agg #[.bool c,b,.int .i64 0]] w fun x f=>x=.returned (.int .u64 (tP P Q))/\Below w.heap.size w f:=by
 unfold tP
 by_cases e:P=0
 ·subst e;rw [if_pos rfl];exact sw _ c a b 0 0 w d
 ·rw [if_neg e];have k:nd P.natAbs<=1:=bL (by simp;omega)
  have m:nd Q.natAbs<=1:=bL (by simp;omega)
  exact je _ c _ a b 0 0 _ P.natAbs Q.natAbs (kp P.natAbs Q.natAbs) _ w d i (by omega) (by omega) (by omega) (by omega) (by omega) (by omega) (by omega) (by omega) (by unfold kp;omega) rfl rfl rfl
def Two (b:Nat) (P Q:Int) (w:World):Prop:=w.cell? ⟨b,0,none⟩=some (.int .i64 P)/\w.cell? ⟨b,1,none⟩=some (.int .i64 Q)
theorem Two.below {w a:World} {b s:Nat} {P Q:Int} (h:Two b P Q w) (d:Below s w a) (c:b<s):Two b P Q a:=
 ⟨(d.cell (p:=⟨b,0,none⟩) c).trans h.1,(d.cell (p:=⟨b,1,none⟩) c).trans h.2⟩
def rf (X Y:Nat):Nat:=nearR (aP X Y 200) (-1 - ((200:Nat):Int))
theorem zk {X Y:Nat} (b:X≠0) (a:Y≠0) (c:Y<=1000000000):kp X Y<=200/\54+Y.log2<=X.log2+kp X Y:=by
 have d:=eA b;have f:=eA a;have e:Y.log2<30:=(Nat.log2_lt a).2 (by omega)
 unfold kp;omega
theorem Kw {P Q:Int} (j:P≠0) (l:0<Q) (g:Q<=1000000000):tP P Q=gB (decide (P<0))+(rf P.natAbs Q.natAbs:Int):=by
 have c:P.natAbs≠0:=by omega
 have d:Q.natAbs≠0:=by omega
 have b:Q.natAbs<=1000000000:=by omega
 unfold tP rf;rw [if_neg j];generalize P.natAbs=X at *
 generalize Q.natAbs=Y at *
 obtain⟨h,i⟩:=zk c d b;generalize kp X Y=k at *
 have f:=jd c d i;rw [kG _ _ _ f.1,<- jc (p:=-1) (by omega) h f.2]
 have e:2*(X*2^k / Y)+(if decide (0<nd (X*2^k % Y))=true then 1 else 0)=aP X Y k:=by
  unfold aP
  congr 1
  by_cases a:X*2^k % Y=0
  ·rw [a];rfl
  ·have:=dm a;rw [if_neg a,if_pos (decide_eq_true (show 0<nd (X*2^k % Y) from this))]
 rw [e,show (0:Int) - (k:Int) - 0 - 1= -1 - (k:Int) by omega]
theorem FP {X Y:Nat} (h:X<=1000000000):rf X Y<9218868437227405312:=by
 unfold rf;have a:aP X Y 200<=1*2^232:=by
  unfold aP;have c:X*2^200 / Y<=X*2^200:=Nat.div_le_self _ _;have b:X*2^200<=1073741824*2^200:=Nat.mul_le_mul_right _ (by omega)
  rw [show (1073741824:Nat)*2^200=2^230 by decide] at b
  split<;>omega
 refine Nat.lt_of_le_of_lt (bS _ a) ?_
 rw [show (-1:Int) - ((200:Nat):Int)=31 - ((232:Nat):Int) by decide,bf (by decide)]
 decide
theorem zl (X Y a k:Nat):aP (X*2^a) Y k=aP X Y (a+k):=by
 unfold aP;rw [Nat.mul_assoc,<- Nat.pow_add]
theorem nS (X Y k c:Nat) (hc:0<c):aP (X*c) (Y*c) k=aP X Y k:=by
 unfold aP;rw [show X*c*2^k=X*2^k*c by rw [Nat.mul_assoc,Nat.mul_comm c,<- Nat.mul_assoc],Nat.mul_div_mul_right _ _ hc,Nat.mul_mod_mul_right]
 have:(X*2^k % Y*c=0)↔(X*2^k % Y=0):=by
  rw [Nat.mul_eq_zero];omega
 simp only [this]
theorem FQ {A B X Y p q m t:Nat} (b:A*2^p=X*2^t) (a:B*2^q=Y*2^t):aP A B (p+m)=aP X Y (q+m):=by
 rw [<- zl A B p m,b,<- nS _ B m (2^q) (Nat.two_pow_pos _),a,show X*2^t*2^q=X*2^q*2^t by rw [Nat.mul_assoc,Nat.mul_comm (2^t),<- Nat.mul_assoc],nS _ _ _ _ (Nat.two_pow_pos _),zl]
theorem FR {x y X Y:Nat} (s:af x) (l:af y) (d:aV x=X*2^1074) (c:aV y=Y*2^1074) (b:X≠0) (a:Y≠0) (e:Y<=1000000000) :
  floatBits .quo .f64 x y=some (wrd (sB x^^sB y) (rf X Y)):=by
 have i:=Nat.two_pow_pos 1074;have f:x % 9223372036854775808≠0:=by
  intro h;unfold aV at d
  rw [h,bp] at d
  have:=Nat.mul_pos (show 0<X by omega) i
  omega
 have g:y % 9223372036854775808≠0:=by
  intro h;unfold aV at c
  rw [h,bp] at c
  have:=Nat.mul_pos (show 0<Y by omega) i
  omega
 unfold aV V at d c
 have v:=fy f;have o:=fy g;have t:=ns (x % 9223372036854775808);have w:=ns (y % 9223372036854775808);have u:(mg (y % 9223372036854775808)).log2<53:=(Nat.log2_lt o).2 (by omega)
 rw [jL s l f g rfl rfl rfl rfl (k:=pl (x % 9223372036854775808)+300) (by omega),FQ d c]
 obtain⟨r,n⟩:=zk b a e;have j:=jd b a n;have m:=jc (X:=X) (Y:=Y) (p:=-1) (by omega) (show kp X Y<=pl (y % 9223372036854775808)+300 by omega) j.2
 have q:=jc (X:=X) (Y:=Y) (p:=-1) (by omega) r j.2
 unfold rf;rw [<- q,m]
 congr 3
 omega
theorem nW (m:Int):floatOfInt .f64 m=fi m:=by
 show Ieee.double.nearest (decide (m<0)) m.natAbs 0=_
 unfold fi aJ
 by_cases b:m=0
 ·subst b;rfl
 ·rw [if_neg b,bR _ (by omega)]
  by_cases a:m<0
  ·simp only [a,decide_true,if_true];rw [gA]
  ·simp only [a,decide_false,if_false];rw [ia]
theorem KR {m:Int} {K:Nat} (f:K=1074) (g: -1000000000<=m) (h:m<=1000000000):af (fi m)/\aV (fi m)=m.natAbs*2^K/\sB (fi m)=decide (m<0)/\fi m<18446744073709551616:=by
 obtain⟨a,b,c,d⟩:=nA (m:=m) f (by omega) (by omega)
 refine⟨b,?_,c,d⟩
 unfold aV;have e:(vI (fi m)).natAbs=V (fi m % 9223372036854775808):=by
  unfold vI
  split<;>simp
 rw [<- e,a,Int.natAbs_mul,Int.natAbs_natCast]
def yW (P Q:Int):Nat:=if P=0 then 0 else wrd (decide (P<0)) (rf P.natAbs Q.natAbs)
theorem KS {P Q:Int} (o: -1000000000<=P) (i:P<=1000000000) (q:0<Q) (p:Q<=1000000000):floatBits .quo .f64 (fi P) (fi Q)=some (yW P Q):=by
 obtain⟨K,a⟩:∃ K:Nat,K=1074:=⟨_,rfl⟩;obtain⟨n,l,k,_⟩:=KR (m:=P) a o i;obtain⟨d,c,g,_⟩:=KR (m:=Q) a (by omega) p
 have f:decide (Q<0)=false:=decide_eq_false (by omega)
 have j:=Nat.two_pow_pos K;unfold yW
 by_cases b:P=0
 ·rw [if_pos b];subst b;have h:fi Q % 9223372036854775808≠0:=fun e=>by
   unfold aV at c
   rw [e,bp] at c
   have:=Nat.mul_pos (show 0<Q.natAbs by omega) j
   omega
  rw [show fi 0=0 from LT,pL (by rfl) d h,g,f]
  rfl
 ·rw [if_neg b];subst a;rw [FR n d l c (by omega) (by omega) (by omega),k,g,f]
  simp
theorem PH {P Q:Int} (d:0<Q) (b:Q<=1000000000):tP P Q=(yW P Q:Int):=by
 unfold yW
 by_cases a:P=0
 ·rw [if_pos a];unfold tP;rw [if_pos a];rfl
 ·rw [if_neg a,Kw a d b];unfold gB wrd
  by_cases c:P<0
  ·simp [c]
  ·simp [c]
theorem zE (kind W a b P Q:Int) (v:Value) (w:World) (h: -1000000000<=P) (f:P<=1000000000) (g:0<Q) (i:Q<=1000000000) (H:Hid (FracH w kind W a b P Q 0 v)) :
  Calls Tryz.prog 53 #[.int .i64 kind,.agg #[.int .i64 W,v],.int .i64 a,.int .i64 b] w fun e j=>e=.returned (.tuple #[.float .f64 (yW P Q),.int .i64 0])/\Below w.heap.size w j:=by
 have c:=hideS (bU w W v);have n:=nW P;have o:=nW Q;have d:=KS h f g i;unfold FracH at H
 clear h f g i;generalize yW P Q=R at *
 generalize fi P=X at *
 generalize fi Q=Y at *
 have p:=fun l=>run_float_arith (P:=Tryz.prog) l .quo 27 .f64 X Y R d
 clear d
 go_enter Tryz.func53,Tryz.ntmps53
 go_wp2_with (go_at_call 79;refine (H.out _ c.out).mono ?_;rintro e m ⟨rfl,k⟩)
 go_ret2
 exact⟨rfl,c.out.trans (k.mono c.out.size)⟩
theorem Ga (kind W a b E:Int) (v:Value) (w:World) (d:E≠0) (H:Hid (FracH w kind W a b 0 0 E v)) :
  Calls Tryz.prog 53 #[.int .i64 kind,.agg #[.int .i64 W,v],.int .i64 a,.int .i64 b] w fun e f=>e=.returned (.tuple #[.float .f64 0,.int .i64 E])/\Below w.heap.size w f:=by
 have c:=hideS (bU w W v);have g:(E !=0)=true:=bne_iff_ne.2 d;unfold FracH at H
 clear d
 go_enter Tryz.func53,Tryz.ntmps53
 go_wp2_with (go_at_call 79;refine (H.out _ c.out).mono ?_;rintro e i ⟨rfl,h⟩)
 go_ret2
 exact⟨rfl,c.out.trans (h.mono c.out.size)⟩
def QF (w:World) (kind W a b:Int) (R:Nat) (E:Int) (v:Value):Prop:=∀ c,Below w.heap.size w c->Calls Tryz.prog 53 #[.int .i64 kind,.agg #[.int .i64 W,v],.int .i64 a,.int .i64 b] c fun e d=>e=.returned (.tuple #[.float .f64 R,.int .i64 E])/\Below c.heap.size c d
theorem FracH.later {w d:World} {kind W a b P Q E:Int} {v:Value} (h:FracH w kind W a b P Q E v) (c:Below w.heap.size w d):FracH d kind W a b P Q E v:=fun f e=>h f (c.trans (e.mono c.size))
theorem KT {kind:Int}:0<eH kind/\eH kind<=1000000000:=by
 unfold eH
 split
 ·decide
 ·split
  ·decide
  ·split<;>decide
theorem FracR.bd {kind W a b P Q E:Int} {rs:List Rul} (h:FracR kind W a b rs P Q E): -1000000000<=P/\P<=1000000000/\(E=0->0<Q/\Q<=1000000000)/\(E≠0->P=0/\Q=0):=by
 cases h with
 | fine g d f i e=>
  have:=zj (opB W rs) (kind:=kind) f i;exact⟨this.1,this.2,fun _=>KT,fun c=>absurd rfl c⟩
 | kind h=>exact⟨by decide,by decide,fun c=>absurd c (by decide),fun _=>⟨rfl,rfl⟩⟩
 | cal A B e h j=>exact⟨by decide,by decide,fun c=>absurd c j,fun _=>⟨rfl,rfl⟩⟩
 | day g d h e=>exact⟨by decide,by decide,fun c=>absurd c (by decide),fun _=>⟨rfl,rfl⟩⟩
theorem FracR.year {kind W a b P Q E:Int} {rs:List Rul} (h:FracR kind W a b rs P Q E) (p:Option Addr) (f off c:Nat) (w:World) (n:RSrc w p f off rs) (l:rs.length<=9223372036854775807):QF w kind W a b (yW P Q) E (.slice p rs.length c):=fun j d=>by
 have g:=(h.prog p f off c w n l).later d;obtain⟨m,o,i,k⟩:=h.bd
 by_cases e:E=0
 ·subst e;exact zE kind W a b P Q _ j m o (i rfl).1 (i rfl).2 g
 ·obtain⟨rfl,rfl⟩:=k e;exact Ga kind W a b E _ j e g
theorem Cp {f:Nat} {args:Array Value} {w:World} {R R':Value->World->Prop} (hi:Tryz.prog.inits.idxOf? f=none) (h:Calls Tryz.prog f args w fun e a=>∃ v,e=.returned v/\R v a) (t:Calls Tryz.prog f args w fun e a=>∃ v,e=.returned v/\R' v a):∃ v a,R v a/\R' v a:=by
 have b:∀ {Q:Value->World->Prop},(Calls Tryz.prog f args w fun e a=>∃ v,e=.returned v/\Q v a)->∃ n v a,runN Tryz.prog n (lone (Frame.enter Tryz.prog f args .normal) [] w)=.ended (.done v) a/\Q v a:=fun q=>
  Calls.done (q.mono fun e a ⟨v,d,r⟩=>by subst d;exact r) hi
 obtain⟨n,v,l,d,p⟩:=b h;obtain⟨m,u,i,g,o⟩:=b t;have j:∀ {n m:Nat} {v u:Value} {l i:World} {M:Machine},n<=m->runN Tryz.prog n M=.ended (.done v) l->runN Tryz.prog m M=.ended (.done u) i->v=u/\l=i:=by
  intro n m v u l i M s d g;obtain⟨k,rfl⟩:∃ k,m=n+k:=⟨m - n,by omega⟩
  rw [runN_add,d] at g
  simp at g
  exact g
 rcases Nat.le_total n m with c | c
 ·obtain⟨rfl,rfl⟩:=j c d g;exact⟨v,l,p,o⟩
 ·obtain⟨rfl,rfl⟩:=j c g d;exact⟨u,i,p,o⟩
theorem oQ {x y:Nat} (g:x<18446744073709551616) (hn:ah (x:Int)=false) (w:World) (h:Calls Tryz.prog 54 #[.float .f64 x] w fun e d=>e=.returned (.float .f64 y)/\Below w.heap.size w d):lQ x=some y:=by
 have f:=ce g;obtain⟨v,d,⟨a,_⟩,z,b,c⟩:=Cp (R:=fun v _=>v=.float .f64 y/\True) (R':=fun v _=>∃ z,v=.float .f64 z/\Ag (lQ x) z) (by kernel_rfl) (h.mono fun e d ⟨a,_⟩=>⟨_,a,rfl,trivial⟩) ((f.prog w).mono fun e d ⟨z,a,b,_⟩=>⟨_,a,z,rfl,b.1⟩)
 rw [a] at b
 obtain rfl:y=z:=by injection b
 obtain⟨q,e,_⟩:=f.num hn;rw [e] at c ⊢
 rw [cR c]
theorem Lg (w:World):Calls Tryz.prog 54 #[.float .f64 9223372036854775808] w fun e a=>e=.returned (.float .f64 4607182418800017408)/\Below w.heap.size w a:=by
 have:=lM 9223372036854775808 9223372036854775808 4602678819172646912 0 0 0 9223372036854775808 9223372036854775808 4607182418800017408 0 w (by unfold U64;omega) (by decide) (by decide) (by decide) (by decide) (by decide) (by decide+kernel) (by decide+kernel) qw (by decide+kernel) (by decide+kernel) (by decide+kernel) (by decide+kernel) (by show _=_;decide+kernel) (by show U64 _;unfold U64;omega) (by decide+kernel) (by omega) (by decide+kernel) (by decide+kernel)
 rw [show aJ (aA (4607182418800017408:Nat)) (aQ (4607182418800017408:Nat)+0)=4607182418800017408 by decide+kernel] at this
 exact this
theorem PU (a:World):lQ 0=some 4607182418800017408:=oQ (by decide) (by decide) a (QL a)
theorem NM (a:World):lQ 9223372036854775808=some 4607182418800017408:=oQ (by decide) (by decide) a (Lg a)
theorem NO (a:World) (s:Bool):Pe (Pf (some (wrd s 0)))=some 4607182418800017408:=by
 cases s
 ·exact NM a
 ·exact PU a
end Go.Proofs.YtfdddijdjpijbaaGreat
