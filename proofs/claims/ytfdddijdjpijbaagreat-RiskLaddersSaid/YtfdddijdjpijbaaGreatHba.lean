/-  -/
import Derived.Test.YtfdddijdjpijbaaGreatHaz
import Derived.Test.YtfdddijdjpijbaaGreatHay
import Derived.Test.YtfdddijdjpijbaaGreatHas
import Derived.Test.YtfdddijdjpijbaaGreatHaq
import Derived.Test.YtfdddijdjpijbaaGreatHal
import Derived.Test.YtfdddijdjpijbaaGreatHaw
import Derived.Test.YtfdddijdjpijbaaGreatNFrac
import Derived.Eval
set_option maxHeartbeats 3200000
set_option maxRecDepth 20000
namespace Go.Proofs.YtfdddijdjpijbaaGreat
open Go.RowKit
theorem Dk:FitL lnL:=by unfold FitL;decide
theorem Jk {cs:List Nat} {x:Nat} (b:FitL cs):∀ k q,hornAt cs x k=some q->q<18446744073709551616
 | 0,q,h=>by
  have:cs.getD (cs.length - 1) 0=q:=Option.some.inj h;rw [<- this];exact b.get _
 | k+1,q,h=>by
  have a:fR x (hornAt cs x k) (cs.getD (cs.length - 2 - k) 0)=some q:=h;rw [<- pJ] at a
  exact jb (by simp) a
theorem Bh {cs:List Nat} {x:Nat} (a:FitL cs):cn (bj cs x)<18446744073709551616:=by
 cases h:bj cs x with
 | none=>decide
 | some q=>
  unfold bj at h
  split at h
  ·have:0=q:=Option.some.inj h
   show q<_
   omega
  ·exact Jk a _ q h
theorem Pb (k:Nat) (d:k<11):∃ fz c:Int,Hid (∀ w,Calls Tryz.prog 101 #[.int .i64 (2*(k:Int)+1)] w fun e b=>e=.returned (.int .u64 fz)/\Below w.heap.size w b)/\
  Hid (∀ w,Calls Tryz.prog 144 #[.int .u64 4607182418800017408,.int .u64 fz] w fun e b=>e=.returned (.int .u64 c)/\Below w.heap.size w b)/\Hid (Value.int IntKind.u64 c=uV (lnL.getD k 0)):=by
 refine⟨(fi (2*(k:Int)+1):Int),(lnL.getD k 0:Int),fun w=>cV _ w (by omega) (by omega),fun w=>?_,rfl⟩
 have:=iu 4607182418800017408 (fi (2*(k:Int)+1)) 4607182418800017408 _ w rfl rfl (by unfold U64;omega) (ag (wV (a:=2*(k:Int)+1) rfl (by omega) (by omega)).2.2.2)
 have e:=IQ k d;rw [show ((2*k+1:Nat):Int)=2*(k:Int)+1 by omega] at e
 rw [e,ar] at this;exact this
theorem Fa (x N a b hi lo:Nat) (u e bo:Int) (w:World) (hu:u=(x:Int)) (h:U64 u) (hn:ah u=false) (db:sgB u=false) (hz:(szI u==0)=false) (bb:aY u=false) (cu:af x) (ho:OfR x false N e) (P:N≠0)
  (q1:floatBits .sub .f64 (lnM N) 4607182418800017408=some a) (q2:floatBits .add .f64 (lnM N) 4607182418800017408=some b) (q8:floatBits .mul .f64 (fi (lnK N e)) 4604418534311723008=some hi) (q9:floatBits .mul .f64 (fi (lnK N e)) 4461442080421002358=some lo) (bc:(cn (lnO a b hi lo):Int)=bo) :
  Calls Tryz.prog 148 #[.int .u64 u] w fun e m=>e=.returned (.int .u64 bo)/\Below w.heap.size w m:=by
 have s:=ho.lt;have eQ:=ho.lo;have O:=ho.hi;have ex:N.log2<=52:=by have:=(Nat.log2_lt P).2 (show N<2^53 from s);omega
 obtain⟨o1,o2⟩:=lP P s;obtain⟨i0,ej,es,ey,ev⟩:=info_parts infoU;have HN:=hideS (aj u · h);rw [hn] at HN
 have cs:Hid (∀ w,Calls Tryz.prog 151 #[.int .u64 u] w fun e m=>e=.returned (.bool false)/\m=w):=fun w=>by
  have:=bV u w;rw [db] at this;exact this
 have cv:=hideS (aI u · h);have HI:=hideS (aw u · h);rw [bb] at HI
 have dY:Hid (∀ w,Calls Tryz.prog 74 #[.int .u64 u] w fun r m=>∃ v,r=.returned (.agg #[.bool false,v,.int .i64 e])/\DN m v N/\Below w.heap.size w m):=fun w=>by
  refine (eC x u w hu h cu).mono ?_
  rintro r m ⟨neg,v,N',e',rfl,hd,bx,d⟩;have dk:N'≠0:=by
   intro c;have v1:=bx.val;have v2:=ho.val;rw [c,Nat.zero_mul] at v1
   rw [<- v1] at v2
   rcases Nat.mul_eq_zero.1 v2 with c | c
   ·exact P c
   ·have:=Nat.two_pow_pos (e+1074).toNat;omega
  obtain⟨m1,m2⟩:=bx.mag dk;obtain⟨n1,n2⟩:=ho.mag P;have e1:N'=N:=by rw [m1,n1]
  have e2:e'=e:=by rw [m2,n2]
  have e3:neg=false:=by rw [bx.sgn dk,<- ho.sgn P]
  subst e1 e2 e3;exact⟨v,rfl,hd,d⟩
 obtain⟨Bl,cc⟩:∃ Bl:Int,(bl N:Int)=Bl:=⟨_,rfl⟩;have cl:Bl=(N.log2:Int)+1:=by rw [<- cc,eA P];rfl
 obtain⟨E,ep⟩:∃ E:Int,Bl - 1+e=E:=⟨_,rfl⟩;have f1:IntKind.i64.wrap (Bl - 1)=Bl - 1:=by rw [IntKind.wrap_i64];omega
 have f2:IntKind.i64.wrap (Bl - 1+e)=E:=by rw [IntKind.wrap_i64];omega
 have ez: -1100<=E:=by omega
 have eT:E<=1100:=by omega
 obtain⟨m0,t⟩:∃ m0:Int,m0=(oneB N:Int):=⟨_,rfl⟩;have df:Hid (∀ v w,DN w v N->Calls Tryz.prog 77 #[.agg #[.bool false,v,.int .i64 (e - E)]] w fun r m=>r=.returned (.int .u64 m0)/\Below w.heap.size w m):=fun v w hd=>by
  have:=gv false v (e - E) N w hd (by have:=dr s;omega) (by omega) (by omega)
  rw [fw false _ P,if_neg (by decide),Int.zero_add,show e - E= -(N.log2:Int) by omega,tw P s,<- t,<- show e - E= -(N.log2:Int) by omega] at this
  exact this
 have br:U64 m0:=by rw [t];exact ag (by omega)
 obtain⟨g,hg⟩:∃ g,decide (4609047870845172685<oneB N)=g:=⟨_,rfl⟩;have dp:Hid (∀ w,Calls Tryz.prog 60 #[.int .u64 4609047870845172685,.int .u64 m0] w fun r m=>r=.returned (.bool g)/\w=m):=fun w=>by
  have r1:=iE (b:=oneB N) (by omega)
  have r2:=iE (b:=4609047870845172685) (by decide)
  refine gC 4609047870845172685 m0 g w (by unfold U64;omega) br (by decide) (by rw [t];exact r1.2.1) ?_
  rw [t,r1.2.2,show ae (4609047870845172685:Int)=4609047870845172685 from r2.2.2,<- hg]
  exact decide_eq_decide.2 (by omega)
 obtain⟨mi,H⟩:∃ mi:Int,mi=(lnM N:Int):=⟨_,rfl⟩;have bh:U64 mi:=by rw [H];exact ag (by have:=(Dj P s).2;omega)
 have W:Hid (g=true->∀ w,Calls Tryz.prog 63 #[.int .u64 m0,.int .u64 4602678819172646912] w fun r m=>r=.returned (.int .u64 mi)/\Below w.heap.size w m):=fun c w=>by
  have hc:4609047870845172685<oneB N:=by rw [c] at hg;exact of_decide_eq_true hg
  exact mR (z:=mi) t (v:=4602678819172646912) rfl br (by unfold U64;omega) (Jh (by omega) (by omega)) (by rw [H];unfold lnM;rw [if_pos hc]) w
 have cy:g=false->m0=mi:=fun c=>by
  have hc:¬ 4609047870845172685<oneB N:=by rw [c] at hg;exact of_decide_eq_false hg
  rw [t,H];unfold lnM;rw [if_neg hc]
 have G:(if g then E+1 else E)=lnK N e:=by
  unfold lnK;rw [<- hg]
  by_cases c:4609047870845172685<oneB N
  ·rw [if_pos c,decide_eq_true c,if_pos rfl];omega
  ·rw [if_neg c,decide_eq_false c,if_neg (by decide)];omega
 obtain⟨ai,Y⟩:∃ ai:Int,ai=(a:Int):=⟨_,rfl⟩;obtain⟨bi,T⟩:∃ bi:Int,bi=(b:Int):=⟨_,rfl⟩;obtain⟨ab,O⟩:∃ ab:Int,ab=(hi:Int):=⟨_,rfl⟩;obtain⟨am,F⟩:∃ am:Int,am=(lo:Int):=⟨_,rfl⟩;obtain⟨fz,L⟩:∃ fz:Int,fz=(fi (lnK N e):Int):=⟨_,rfl⟩;have ca:U64 fz:=by rw [L];exact ag (wV (a:=lnK N e) rfl (by rw [<- G];split<;>omega) (by rw [<- G];split<;>omega)).2.2.2
 obtain⟨q,Z⟩:∃ q,floatBits .quo .f64 a b=q:=⟨_,rfl⟩;obtain⟨si,I⟩:∃ si:Int,si=(cn q:Int):=⟨_,rfl⟩;have U:U64 si:=by rw [I,<- Z];exact ag (xc (by simp) _ _)
 obtain⟨zi,S⟩:∃ zi:Int,zi=(cn (opO .mul q q):Int):=⟨_,rfl⟩;have ed:U64 zi:=by rw [S];exact ag (qB (by simp) _ _)
 obtain⟨ti,X⟩:∃ ti:Int,ti=(cn (opO .mul (some 4611686018427387904) q):Int):=⟨_,rfl⟩;have ds:U64 ti:=by rw [X];exact ag (qB (by simp) _ _)
 obtain⟨vi,bz⟩:∃ vi:Int,vi=(cn ((opO .mul q q).bind fun z=>bj lnL z):Int):=⟨_,rfl⟩
 have K:vi=(cn (bj lnL (cn (opO .mul q q))):Int):=by rw [bz,Di (Hu _) (by rw [lnL_len];decide)]
 have ec:U64 vi:=by rw [K];exact ag (Bh Dk)
 obtain⟨pi,R⟩:∃ pi:Int,pi=(cn (opO .mul (opO .mul (some 4611686018427387904) q) ((opO .mul q q).bind fun z=>bj lnL z)):Int):=⟨_,rfl⟩
 have cr:U64 pi:=by rw [R];exact ag (qB (by simp) _ _)
 obtain⟨ci,ad⟩:∃ ci:Int,ci=(cn (opO .add (opO .mul (opO .mul (some 4611686018427387904) q) ((opO .mul q q).bind fun z=>bj lnL z)) (some lo)):Int):=⟨_,rfl⟩
 have cd:U64 ci:=by rw [ad];exact ag (qB (by simp) _ _)
 have M:bo=(cn (opO .add (some hi) (opO .add (opO .mul (opO .mul (some 4611686018427387904) q) ((opO .mul q q).bind fun z=>bj lnL z)) (some lo))):Int):=by rw [<- bc,<- Z];rfl
 have HS:=hideS fun w=>Ba (z:=ai) H (v:=4607182418800017408) rfl bh (by unfold U64;omega) q1 Y w
 have HA:=hideS fun w=>Jd (z:=bi) H (v:=4607182418800017408) rfl bh (by unfold U64;omega) q2 T w
 have cf:U64 ai:=gf (by simp) q1 Y
 have cp:U64 bi:=gf (by simp) q2 T
 have HD:Hid (∀ w,Calls Tryz.prog 144 #[.int .u64 ai,.int .u64 bi] w fun r m=>r=.returned (.int .u64 si)/\Below w.heap.size w m):=fun w=>by
  have:=iu a b ai bi w Y T cf cp;rw [Z,<- I] at this;exact this
 have HZ:=hideS fun w=>Bg I I U U S w
 have HT:=hideS fun w=>Bg (o:=some 4611686018427387904) (u:=4611686018427387904) rfl I (by unfold U64;omega) U X w
 have HH:Hid (∀ B v w,OwnF w B 41 uV v lnL->Calls Tryz.prog 103 #[v,.int .u64 zi] w fun e m=>e=.returned (.int .u64 vi)/\Below w.heap.size w m):=fun B v w hO=>by
  have:=km B 11 (cn (opO .mul q q)) v zi lnL w hO Dk S ed lnL_len (by decide)
  rw [<- K] at this;exact this
 have HP:=hideS fun w=>Bg X bz ds ec R w
 have bk:Hid (∀ w,Calls Tryz.prog 101 #[.int .i64 (if g then E+1 else E)] w fun e m=>e=.returned (.int .u64 fz)/\Below w.heap.size w m):=fun w=>by
  rw [G];exact dN (lnK N e) fz w (by rw [<- G];split<;>omega) (by rw [<- G];split<;>omega) L.symm
 have eh:=hideS fun w=>mR (z:=ab) L (v:=4604418534311723008) rfl ca (by unfold U64;omega) q8 O w
 have ef:=hideS fun w=>mR (z:=am) L (v:=4461442080421002358) rfl ca (by unfold U64;omega) q9 F w
 have HC:=hideS fun w=>Jj (o':=some lo) R (v:=am) F cr (gf (by simp) q9 F) ad w
 have HR:=hideS fun w=>Jj (o:=some hi) (u:=ab) O ad (gf (by simp) q8 O) cd M w
 have di:=hideS cc;have da:=hideS s;clear h hn db bb hu cu ho P q1 q2 q8 q9 bc ex s o1 o2 cc cl t br H bh G Y T O F L ca Z I U S ed X ds bz K ec R cr ad cd M cf cp hg ep
 go_enter Tryz.func148,Tryz.ntmps148
 go_wp2_with fail
 refine (turned (HN.out _)).mono ?_
 rintro e m ⟨rfl,rfl⟩
 go_wp2_with fail
 refine (turned (cs.out _)).mono ?_
 rintro e m ⟨rfl,rfl⟩
 go_wp2_with fail
 refine (turned (cv.out _)).mono ?_
 rintro e m ⟨rfl,rfl⟩
 go_wp2_with fail
 refine (turned (HI.out _)).mono ?_
 rintro e m ⟨rfl,rfl⟩
 go_wp2_with fail
 refine (dY.out _).mono ?_
 rintro r w1 ⟨v1,rfl,V,y⟩;obtain⟨p,l,c,rfl⟩:=V.shape;have ak:=hideS (aE w1 false (.slice p l c) e);have dE:=hideS (V.below ak.out);have B1:=hideS (y.trans (ak.out.mono y.size));have er:=hideS y.size;have cq:=hideS V;have HQ:Hid (∀ n,DN ((boxN w1 false (.slice p l c) e).drewN n) (.slice p l c) N):=fun n=>dE.out.drewN n
 clear y V dY HN cs cv HI
 go_wp2_with fail
 go_quiet ((go_at_call 95;exact Calls.quiet_of_same (mA (.slice p l c) N Bl _ (HQ.out _) (by have:=dr da.out;omega) di)))
 go_wp2_with fail
 obtain⟨w2,al⟩:∃ w2,w2=((boxN w1 false (.slice p l c) e).drewN nq).setCell ⟨w1.heap.size,2,none⟩ (Value.int IntKind.i64 (e - E)):=⟨_,rfl⟩;rw [<- al];have dc:Hid (Below w1.heap.size w1 w2):=by rw [al];exact (below_drewN ak.out _).setCell (Nat.le_refl _) _
 have B2:Hid (Below w.heap.size w w2):=by rw [al];exact (below_drewN B1.out _).setCell (show w.heap.size<=w1.heap.size from er.out) _
 have ct:=hideS (df.out _ w2 (cq.out.below dc.out));clear al dc B1 cq HQ dE ak df di da f1 f2;refine ct.out.mono ?_
 rintro r w3 ⟨rfl,d⟩;have B3:=hideS (B2.out.trans (d.mono B2.out.size));clear d B2 ct
 go_wp2_with fail
 refine (dp.out _).mono ?_
 rintro r m ⟨rfl,rfl⟩;clear dp;cases g
 case' true=>
  simp only [if_true] at bk
  have eb:=hideS (W.out rfl);clear W;have W:True:=trivial
  go_wp2_with fail
  refine (eb.out _).mono ?_
  rintro r w4 ⟨rfl,d⟩;have B3:=hideS (B3.out.trans (d.mono B3.out.size));clear d eb
 case' false=>
  obtain rfl:=cy rfl;simp only [Bool.false_eq_true,if_false] at bk
 all_goals
  clear W cy
  go_wp2_with fail
  refine (HS.out _).mono ?_
  rintro r w5 ⟨rfl,d⟩;have B5:=hideS (B3.out.trans (d.mono B3.out.size));clear d
  go_wp2_with fail
  refine (HA.out _).mono ?_
  rintro r w6 ⟨rfl,d⟩;have B6:=hideS (B5.out.trans (d.mono B5.out.size));clear d
  go_wp2_with fail
  refine (HD.out _).mono ?_
  rintro r w7 ⟨rfl,d⟩;have B7:=hideS (B6.out.trans (d.mono B6.out.size));clear d
  go_wp2_with fail
  refine (HZ.out _).mono ?_
  rintro r w8 ⟨rfl,d⟩;have B8:=hideS (B7.out.trans (d.mono B7.out.size));clear d HS HA HD HZ B3 B5 B6 B7
  go_wp2_with fail
  go_loopw [8,9] (fun v i wr=>∃ k:Nat,k<=11/\i=.int .i64 k/\Hid (wr.ownsRow w8.heap.size 41 1 v k (rowOf uV lnL k))/\Hid (Below w.heap.size w wr)/\Hid (w8.heap.size<=wr.heap.size)) (fun _ i _=>11 - (intOf i).toNat)
  case atStart=>exact⟨0,Nat.zero_le _,rfl,World.ownsRow_nil _ _ _ _,B8,Nat.le_refl _⟩
  case round=>
   obtain⟨k,hk,rfl,D,HB,eg⟩:=hrel
   by_cases s:k<11
   ·have el:=hideS (take_next (f:=uV) (show k<lnL.length by rw [lnL_len];exact s))
    obtain⟨tz,xi,T1,T2,T3⟩:=Pb k s;have en:=HB.out.size;have cm:=eg.out;have em:=B8.out.size
    go_wp2_with fail
    refine (T1.out _).mono ?_
    rintro r w9 ⟨rfl,y⟩;have bs:=hideS y;clear y
    go_wp2_with fail
    refine (T2.out _).mono ?_
    rintro r Q ⟨rfl,dd⟩;have bv:=hideS (bs.out.trans (dd.mono bs.out.size));have ee:=hideS (own_below D.out bv.out);have dg:=hideS (HB.out.trans (bv.out.mono en));have dy:=dg.out.size;have ba:w8.heap.size<=Q.heap.size:=Nat.le_trans cm bv.out.size;clear dd bs D
    go_wp2_with (at_builtin;refine wpList_append_own _ rfl _ _ 33 rfl w8.heap.size 41 i0 (.int .u64 0) 1 8 Tryz.underlying33 ej es ey ev rfl (by decide) _ _ _ rfl (ee.out.alloc _) ⟨Q.heap.size,0,none⟩ 1 1 [.int .u64 xi] rfl rfl ?c1 ?c2 ?c3 ?c4 ?c5 ?_)
    case c1=>
     intro j u hj
     match j,hj with
     | 0,hj=>simp at hj;subst hj;simp [Addr.add]
    case c2=>intro u hu;simp at hu;subst hu;rfl
    case c3=>unfold maxLen;omega
    case c4=>omega
    case c5=>simp;omega
    ·intro v' dn C A _;have J:=ee.out.lt;have dx:Below w.heap.size w dn:=(dg.out.alloc dy _).grown A (by simp;omega) (fun j hj=>Nat.le_trans em (J j hj).1)
     have cx:Below w8.heap.size Q dn:=((Below.refl w8.heap.size Q).alloc ba _).grown A (by simp;omega) (fun j hj=>(J j hj).1)
     rw [T3.out,<- el.out] at C
     have HO:=hideS C;have et:=hideS dx;have ek:=hideS (Nat.le_trans ba cx.size);clear C A J dx cx;go_wp2
     go_roundw
     case rel=>exact⟨k+1,by omega,by simp,HO,et,ek⟩
     case measure=>simp [intOf];omega
   ·obtain rfl:k=11:=by omega
    have h1:=D.out;rw [show (11:Nat)=lnL.length from lnL_len.symm,rowOf_all] at h1
    have HO:=hideS (OwnF.mk h1:OwnF wr w8.heap.size 41 uV _ lnL);clear h1 D
    go_wp2_with fail
    refine (HT.out _).mono ?_
    rintro r ei ⟨rfl,d⟩;have C1:=hideS (HB.out.trans (d.mono HB.out.size));have ea:=hideS (HH.out _ _ ei (HO.out.below d));clear d HO
    go_wp2_with fail
    refine ea.out.mono ?_
    rintro r fd ⟨rfl,d⟩;have C2:=hideS (C1.out.trans (d.mono C1.out.size));clear d ea
    go_wp2_with fail
    refine (HP.out _).mono ?_
    rintro r fc ⟨rfl,d⟩;have C3:=hideS (C2.out.trans (d.mono C2.out.size));clear d
    go_wp2_with fail
    refine (bk.out _).mono ?_
    rintro r eW ⟨rfl,d⟩;have C4:=hideS (C3.out.trans (d.mono C3.out.size));clear d
    go_wp2_with fail
    refine (eh.out _).mono ?_
    rintro r fb ⟨rfl,d⟩;have C5:=hideS (C4.out.trans (d.mono C4.out.size));clear d
    go_wp2_with fail
    refine (ef.out _).mono ?_
    rintro r fa ⟨rfl,d⟩;have C6:=hideS (C5.out.trans (d.mono C5.out.size));clear d
    go_wp2_with fail
    refine (HC.out _).mono ?_
    rintro r eB ⟨rfl,d⟩;have C7:=hideS (C6.out.trans (d.mono C6.out.size));clear d
    go_wp2_with fail
    refine (HR.out _).mono ?_
    rintro r eP ⟨rfl,d⟩;have C8:=hideS (C7.out.trans (d.mono C7.out.size));clear d
    go_wp2_with fail
    go_ret
    exact⟨rfl,C8.out⟩
end Go.Proofs.YtfdddijdjpijbaaGreat
namespace Go.Proofs.YtfdddijdjpijbaaGreat
theorem Jl {r:Nat} (h:af r) (a:r<18446744073709551616): -9218868437227405312<ae r/\ae r<9218868437227405312:=by
 rw [<- bW a (iA h)];unfold af at h
 unfold sgn;generalize (r / 9223372036854775808 % 2==1)=p at *
 cases p<;>simp only [Bool.false_eq_true,if_true,if_false]<;>omega
theorem Jm {b:Nat} (h:0<vI b):sB b=false/\vI b=(aV b:Int)/\b % 9223372036854775808≠0:=by
 have a:b % 9223372036854775808≠0:=by
  intro e;rw [ko] at h
  have:aV b=0:=by unfold aV;rw [e];exact bp
  rw [this] at h
  unfold sgZ at h
  split at h<;>omega
 rw [ko] at h ⊢
 unfold sgZ at h ⊢
 cases e:sB b
 ·exact⟨rfl,by simp only [Bool.false_eq_true,if_false],a⟩
 ·rw [e] at h;simp only [if_true] at h;omega
theorem jj {op:BinOp} {x y f:Nat} {k:Int} (h:∃ r,floatBits op .f64 x y=some r/\RkW r k) (a:floatBits op .f64 x y=some f):RkW f k:=by
 obtain⟨r,e,b⟩:=h;obtain rfl:=Option.some.inj (e.symm.trans a);exact b
end Go.Proofs.YtfdddijdjpijbaaGreat
namespace Go.Proofs.YtfdddijdjpijbaaGreat
open Go.RowKit
structure Bd (x c:Nat):Prop where
 num:af x
 lt:x<18446744073709551616
 lo: -(vI c)<=vI x
 hi:vI x<=vI c
theorem Jn {c:Nat} (hc:af c) (h:c<18446744073709551616):af (flipN c)/\flipN c<18446744073709551616/\ae (flipN c:Int)= -ae (c:Int)/\vI (flipN c)= -(vI c):=by
 obtain⟨d,a,e⟩:=cz h;have b:af (flipN c):=by unfold af at hc ⊢;rw [a];exact hc
 refine⟨b,d,?_,?_⟩
 ·rw [<- bW d (iA b),<- bW h (iA hc),a,e];unfold sgn;cases (c / 9223372036854775808 % 2==1)<;>simp
 ·unfold vI;rw [a,e];cases (c / 9223372036854775808 % 2==1)<;>simp
theorem Dl {r c:Nat} {k:Int} (a:RkW r k) (hc:af c) (h:c<18446744073709551616) (e: -ae (c:Int)<=k) (d:k<=ae (c:Int)):Bd r c:=by
 obtain⟨i,g,f,j⟩:=Jn hc h;have l:=Jl hc h;have b:af r:=xH a (by omega) (by omega)
 refine⟨b,a.2.1,?_,?_⟩
 ·rw [<- j];refine (cB i b g a.2.1).1 ?_
  rw [f,a.1];exact e
 ·refine (cB b hc a.2.1 h).1 ?_
  rw [a.1];exact d
theorem vz {x y a b c:Nat} (d:Bd x a) (g:Bd y b) (j:af a) (k:af b) (hc:af c) (e:floatBits .add .f64 a b=some c):∃ r,floatBits .add .f64 x y=some r/\Bd r c:=by
 obtain⟨r,i,h⟩:=fG d.num g.num;have f:=jj (fG j k) e;have:=d.lo;have:=d.hi;have:=g.lo;have:=g.hi;refine⟨r,i,Dl h hc f.2.1 ?_ ?_⟩
 ·rw [f.1,<- ve];exact dZ _ (by omega)
 ·rw [f.1];exact dZ _ (by omega)
theorem Pc {x y a b c:Nat} (d:Bd x a) (g:Bd y b) (j:af a) (k:af b) (hc:af c) (e:floatBits .add .f64 a b=some c):∃ r,floatBits .sub .f64 x y=some r/\Bd r c:=by
 obtain⟨r,i,h⟩:=pW d.num g.num;have f:=jj (fG j k) e;have:=d.lo;have:=d.hi;have:=g.lo;have:=g.hi;refine⟨r,i,Dl h hc f.2.1 ?_ ?_⟩
 ·rw [f.1,<- ve];exact dZ _ (by omega)
 ·rw [f.1];exact dZ _ (by omega)
theorem mT {x y a b c:Nat} (d:Bd x a) (g:Bd y b) (j:af a) (k:af b) (hc:af c) (e:floatBits .mul .f64 a b=some c):∃ r,floatBits .mul .f64 x y=some r/\Bd r c:=by
 obtain⟨r,i,h⟩:=ji d.num g.num;have f:=jj (ji j k) e;obtain⟨l,u⟩:=qt d.lo d.hi g.lo g.hi;refine⟨r,i,Dl h hc f.2.1 ?_ ?_⟩
 ·rw [f.1,<- ve];exact dZ _ l
 ·rw [f.1];exact dZ _ u
theorem vI_abs (x:Nat):vI x=(aV x:Int)\/vI x= -(aV x:Int):=by
 rw [ko];unfold sgZ;cases sB x
 ·exact Or.inl rfl
 ·exact Or.inr rfl
theorem Pd {x y a d c:Nat} (g:Bd x a) (p:af y) (G:vI d<=vI y) (t:0<vI d) (u:af a) (k:af d) (hc:af c) (e:floatBits .quo .f64 a d=some c):∃ r,floatBits .quo .f64 x y=some r/\Bd r c:=by
 obtain⟨F,E,m⟩:=Jm (b:=y) (by omega)
 obtain⟨w,C,n⟩:=Jm t;obtain⟨r,q,v⟩:=pX g.num p m;have l:=jj (pX u k n) e;have D:0<=vI a:=by have:=g.lo;have:=g.hi;omega
 have j:aV x<=aV a:=by
  have i:=g.lo;have B:=g.hi;rcases vI_abs x with h | h<;>rcases vI_abs a with z | z<;>omega
 have A:qR (aV x) (aV y)<=qR (aV a) (aV d):=Nat.le_trans (Qo j) (My (by omega) (by omega))
 have f:ae (c:Int)=(qR (aV a) (aV d):Int):=by
  rw [l.1,w]
  by_cases o:aV a=0
  ·have:qR (aV a) (aV d)=0:=by unfold qR;rw [if_pos o]
   rw [this];unfold sgZ;split<;>simp
  ·have:sB a=false:=by
    have i:=ko a;cases s:sB a with
    | false=>rfl
    | true=>rw [s] at i;unfold sgZ at i;simp at i;omega
   rw [this];rfl
 refine⟨r,q,Dl v hc l.2.1 ?_ ?_⟩
 ·rw [f];unfold sgZ;split<;>omega
 ·rw [f];unfold sgZ;split<;>omega
theorem Bd.up {x c d:Nat} (h:Bd x c) (a:vI c<=vI d):Bd x d:=⟨h.num,h.lt,by have:=h.lo;omega,by have:=h.hi;omega⟩
theorem iG {x c:Nat} (h:x<=c) (hc:c<9218868437227405312):Bd x c:=by
 have a:af x:=by unfold af;omega
 have d:af c:=by unfold af;omega
 have e:=(kK (r:=x) (by omega)).1
 have b:=(kK (r:=c) (by omega)).1
 have f:ae ((0:Nat):Int)=0:=by decide
 have i:vI 0=0:=by decide+kernel
 have g:af 0:=by unfold af;decide
 have k:=(cB a d (by omega) (by omega)).1 (by rw [e,b];omega)
 have j:=(cB g a (by omega) (by omega)).1 (by rw [f,e];omega)
 have l:=(cB g d (by omega) (by omega)).1 (by rw [f,b];omega)
 rw [i] at j l
 exact⟨a,by omega,by omega,k⟩
theorem MJ {cs:List Nat} {x z:Nat} {B M:Nat->Nat} {n:Nat} (g:Bd x z) (h:af z) (e:Bd (cs.getD (cs.length - 1) 0) (B 0)) (d:∀ i,i<=n->af (B i)) (c:∀ i,i<n->af (M i)) (hc:∀ i,i<n->Bd (cs.getD (cs.length - 2 - i) 0) 4607182418800017408)
  (l:∀ i,i<n->floatBits .mul .f64 (B i) z=some (M i)) (j:∀ i,i<n->floatBits .add .f64 (M i) 4607182418800017408=some (B (i+1))):∀ i,i<=n->∃ r,hornAt cs x i=some r/\Bd r (B i):=by
 intro i
 induction i with
 | zero=>exact fun _=>⟨_,rfl,e⟩
 | succ i f=>
  intro hi;obtain⟨r,k,q⟩:=f (by omega)
  obtain⟨m,t,a⟩:=mT q g (d i (by omega)) h (c i (by omega)) (l i (by omega))
  obtain⟨s,o,b⟩:=vz a (hc i (by omega)) (c i (by omega)) (by unfold af;decide) (d (i+1) hi) (j i (by omega))
  refine⟨s,?_,b⟩
  show fR x (hornAt cs x i) _=some s
  rw [k]
  show ((some r).bind fun p=>floatBits .mul .f64 p x).bind _=some s
  rw [show ((some r).bind fun p=>floatBits .mul .f64 p x)=floatBits .mul .f64 r x from rfl,t]
  exact o
def nineN:Nat->Nat
 | 0=>1
 | n+1=>9*nineN n+1
def yc (i:Nat):Nat:=fi (nineN i:Int)
def Dm (i:Nat):Nat:=fi ((9*nineN i:Nat):Int)
theorem jk:∀ i,i<11->(yc i) % 9223372036854775808<9218868437227405312/\(Dm i) % 9223372036854775808<9218868437227405312/\floatBits .mul .f64 (yc i) 4621256167635550208=some (Dm i)/\floatBits .add .f64 (Dm i) 4607182418800017408=some (yc (i+1)):=by decide+kernel
theorem Dn:∀ i,i<11->lnL.getD i 0<=4607182418800017408:=by decide+kernel
theorem ML {z:Nat} (b:Bd z 4621256167635550208):∃ h,bj lnL z=some h/\Bd h (yc 10):=by
 have a:=MJ (cs:=lnL) (x:=z) (z:=4621256167635550208) (B:=yc) (M:=Dm) (n:=10) b (by unfold af;decide) (iG (Dn _ (by rw [lnL_len];decide)) (by decide)) (fun i hi=>(jk i (by omega)).1) (fun i hi=>(jk i (by omega)).2.1) (fun i hi=>iG (Dn _ (by rw [lnL_len];omega)) (by decide)) (fun i hi=>(jk i (by omega)).2.2.1) (fun i hi=>(jk i (by omega)).2.2.2) 10 (Nat.le_refl _)
 obtain⟨r,c,a⟩:=a;refine⟨r,?_,a⟩
 unfold bj;rw [if_neg (by rw [lnL_len];decide),lnL_len];exact c
theorem Do {N:Nat} (c:N≠0) (h:N<9007199254740992):lnM N<=4611686018427387904:=by
 obtain⟨a,b⟩:=lP c h;unfold lnM
 split<;>omega
theorem Qt {k:Int} (g: -2000<=k) (d:k<=2000):Bd (fi k) (fi 2000):=by
 obtain⟨K,a⟩:∃ K,K=1074:=⟨_,rfl⟩;obtain⟨b,f,_,e⟩:=nA (m:=k) a (by omega) (by omega)
 obtain⟨c,_,_,_⟩:=nA (m:=2000) a (by decide) (by decide)
 have p:(0:Int)<=((2^K:Nat):Int):=Int.natCast_nonneg _;refine⟨f,e,?_,?_⟩
 ·rw [b,c,<- Int.neg_mul];exact Int.mul_le_mul_of_nonneg_right (by omega) p
 ·rw [b,c];exact Int.mul_le_mul_of_nonneg_right d p
theorem cS (x:Nat) (h:decide (x % 9223372036854775808<9218868437227405312)=true):af x:=by unfold af;exact of_decide_eq_true h
theorem Fb {N a b hi lo:Nat} {k:Int} (F:N≠0) (h:N<9007199254740992) (G: -2000<=k/\k<=2000) (q1:floatBits .sub .f64 (lnM N) 4607182418800017408=some a) (H:floatBits .add .f64 (lnM N) 4607182418800017408=some b) (q8:floatBits .mul .f64 (fi k) 4604418534311723008=some hi) (q9:floatBits .mul .f64 (fi k) 4461442080421002358=some lo):∃ y,lnO a b hi lo=some y/\af y:=by
 have l:Bd (lnM N) 4611686018427387904:=iG (Do F h) (by decide)
 have I:Bd 4607182418800017408 4607182418800017408:=iG (Nat.le_refl _) (by decide)
 have d:af 4607182418800017408:=cS _ (by decide)
 have C:af 4611686018427387904:=cS _ (by decide)
 have f:af 4613937818241073152:=cS _ (by decide)
 obtain⟨a',S,ba⟩:=Pc (c:=4613937818241073152) l I C d f (by decide+kernel)
 obtain rfl:=Option.some.inj (S.symm.trans q1);obtain⟨R,U,w⟩:=vz (c:=4613937818241073152) l I C d f (by decide+kernel)
 obtain rfl:=Option.some.inj (U.symm.trans H);have t:vI 0=0:=by decide+kernel
 have p:af 0:=by unfold af;decide
 have m0:0<=vI (lnM N):=by
  have Q:=(kK (r:=lnM N) (by have:=Do F h;omega)).1
  have:=(cB p l.num (by decide) l.lt).1 (by rw [Q,show ae ((0:Nat):Int)=0 by decide];omega)
  rw [t] at this;exact this
 have j:floatBits .add .f64 0 4607182418800017408=some 4607182418800017408:=by decide+kernel
 have M:vI 4607182418800017408<=vI R:=by
  obtain⟨r,e,P⟩:=fG p d;rw [j] at e
  obtain rfl:=Option.some.inj e;have K:=jj (fG l.num d) H;refine (cB d w.num (by decide) w.lt).1 ?_
  rw [P.1,K.1];exact dZ _ (by rw [t];omega)
 have i:0<vI 4607182418800017408:=by
  have:=(nI p d (by decide) (by decide)).1 (by decide)
  rw [t] at this;exact this
 obtain⟨s,V,A⟩:=Pd (c:=4613937818241073152) ba w.num M i f d f (by decide+kernel)
 obtain⟨s2,E,o⟩:=mT (c:=4618441417868443648) (iG (x:=4611686018427387904) (Nat.le_refl _) (by decide)) A C f (cS _ (by decide)) (by decide+kernel)
 obtain⟨z,W,O⟩:=mT (c:=4621256167635550208) A A f f (cS _ (by decide)) (by decide+kernel)
 obtain⟨T,Y,bh⟩:=ML O;obtain⟨v,X,Z⟩:=mT (c:=fi ((6*nineN 10:Nat):Int)) o bh (cS _ (by decide)) (jk 10 (by decide)).1 (cS _ (by decide+kernel)) (by decide+kernel)
 have J:=Qt G.1 G.2;have g:af (fi 2000):=cS _ (by decide+kernel)
 obtain⟨ab,D,m⟩:=mT (c:=fi 2000) J (iG (x:=4604418534311723008) (c:=4607182418800017408) (by decide) (by decide)) g d g (by decide+kernel)
 obtain rfl:=Option.some.inj (D.symm.trans q8);obtain⟨B,u,q⟩:=mT (c:=fi 2000) J (iG (x:=4461442080421002358) (c:=4607182418800017408) (by decide) (by decide)) g d g (by decide+kernel)
 obtain rfl:=Option.some.inj (u.symm.trans q9);obtain⟨c,L,bc⟩:=vz (c:=fi ((6*nineN 10+2000:Nat):Int)) Z q (cS _ (by decide+kernel)) g (cS _ (by decide+kernel)) (by decide+kernel)
 obtain⟨y,ey,n⟩:=vz (c:=fi ((6*nineN 10+4000:Nat):Int)) m bc g (cS _ (by decide+kernel)) (cS _ (by decide+kernel)) (by decide+kernel)
 refine⟨y,?_,n.num⟩
 unfold lnO;rw [V,show opO .mul (some 4611686018427387904) (some s)=_ from E,show opO .mul (some s) (some s)=_ from W,show ((some z).bind fun z=>bj lnL z)=_ from Y,show opO .mul (some s2) (some T)=_ from X,show opO .add (some v) (some B)=_ from L]
 exact ey
theorem tA (u:Int) (w:World) (h:U64 u) (hc:ah u=true\/(ah u=false/\sgB u=true/\(szI u==0)=false)) :
  Calls Tryz.prog 148 #[.int .u64 u] w fun e a=>e=.returned (.int .u64 9221120237041090561)/\a=w:=by
 rcases hc with b | ⟨b,g,i⟩
 ·have c:=hideS (aj u · h);rw [b] at c
  clear h b
  go_enter Tryz.func148,Tryz.ntmps148
  go_wp2_with fail
  refine (c.out _).mono ?_
  rintro e a ⟨rfl,rfl⟩
  go_wp2_with fail
  go_ret
  exact⟨rfl,rfl⟩
 ·have c:=hideS (aj u · h);have d:Hid (∀ w,Calls Tryz.prog 151 #[.int .u64 u] w fun e a=>e=.returned (.bool true)/\a=w):=fun w=>by
   have:=bV u w;rw [g] at this;exact this
  have f:=hideS (aI u · h);have j:(szI u !=0)=true:=by rw [bne,i];rfl
  rw [b] at c
  clear h b g
  go_enter Tryz.func148,Tryz.ntmps148
  go_wp2_with fail
  refine (c.out _).mono ?_
  rintro e a ⟨rfl,rfl⟩
  go_wp2_with fail
  refine (d.out _).mono ?_
  rintro e a ⟨rfl,rfl⟩
  go_wp2_with fail
  refine (f.out _).mono ?_
  rintro e a ⟨rfl,rfl⟩
  go_wp2_with fail
  go_ret
  exact⟨rfl,rfl⟩
theorem Bi (u:Int) (w:World) (h:U64 u) (f:ah u=false) (j:(szI u==0)=true) :
  Calls Tryz.prog 148 #[.int .u64 u] w fun e a=>e=.returned (.int .u64 18442240474082181120)/\a=w:=by
 have g:=hideS (aj u · h);have c:=hideS (aI u · h);have i:=hideS fun w=>fB 9218868437227405312 9218868437227405312 18442240474082181120 w rfl (by unfold U64;omega) rfl
 have k:(szI u !=0)=false:=by rw [bne,j];rfl
 rw [f] at g
 cases d:sgB u
 all_goals
  have b:Hid (∀ w,Calls Tryz.prog 151 #[.int .u64 u] w fun e a=>e=.returned (.bool (sgB u))/\a=w):=fun w=>bV u w
  rw [d] at b
  clear f d
  go_enter Tryz.func148,Tryz.ntmps148
  go_wp2_with fail
  refine (g.out _).mono ?_
  rintro e a ⟨rfl,rfl⟩
  go_wp2_with fail
  refine (b.out _).mono ?_
  rintro e a ⟨rfl,rfl⟩
  go_wp2_with (first | (go_at_call 76;refine (c.out _).mono ?_;rintro e a ⟨rfl,rfl⟩) | (go_at_call 34;refine (i.out _).mono ?_;rintro e a ⟨rfl,rfl⟩))
  go_ret
  exact⟨rfl,rfl⟩
theorem Fc (u:Int) (w:World) (h:U64 u) (g:ah u=false) (f:sgB u=false) (k:(szI u==0)=false) (d:aY u=true) :
  Calls Tryz.prog 148 #[.int .u64 u] w fun e a=>e=.returned (.int .u64 u)/\a=w:=by
 have j:=hideS (aj u · h);have c:=hideS (aI u · h);have i:=hideS (aw u · h);have b:Hid (∀ w,Calls Tryz.prog 151 #[.int .u64 u] w fun e a=>e=.returned (.bool false)/\a=w):=fun w=>by
  have:=bV u w;rw [f] at this;exact this
 rw [g] at j
 rw [d] at i
 clear h g f d
 go_enter Tryz.func148,Tryz.ntmps148
 go_wp2_with fail
 refine (j.out _).mono ?_
 rintro e a ⟨rfl,rfl⟩
 go_wp2_with fail
 refine (b.out _).mono ?_
 rintro e a ⟨rfl,rfl⟩
 go_wp2_with (first | (go_at_call 76;refine (c.out _).mono ?_;rintro e a ⟨rfl,rfl⟩) | (go_at_call 72;refine (i.out _).mono ?_;rintro e a ⟨rfl,rfl⟩))
 go_ret
 exact⟨rfl,rfl⟩
structure BothL (x:Nat) (u z:Int):Prop where
 prog:∀ w,Calls Tryz.prog 223 #[.float .f64 x] w fun e w'=>∃ y,e=.returned (.float .f64 y)/\(eV (y:Int) z=true/\U64 (y:Int))/\Below w.heap.size w w'
 doc:∀ w,Calls Tryz.prog 148 #[.int .u64 u] w fun e w'=>e=.returned (.int .u64 z)/\Below w.heap.size w w'
 uz:U64 z
theorem Qu {x:Nat} {u z:Int} {y:Nat} (h:∀ w,Calls Tryz.prog 223 #[.float .f64 x] w fun e c=>e=.returned (.float .f64 y)/\c=w) (g:∀ w,Calls Tryz.prog 148 #[.int .u64 u] w fun e c=>e=.returned (.int .u64 z)/\c=w) (d:z=(y:Int)) (f:U64 (y:Int)):BothL x u z:=
 ⟨fun w=>(h w).mono fun _ _ ⟨a,b⟩=>⟨y,a,⟨by rw [d];exact gV _,f⟩,by rw [b];exact Below.refl _ _⟩,fun w=>(g w).mono fun _ _ ⟨a,b⟩=>⟨a,by rw [b];exact Below.refl _ _⟩,by rw [d];exact f⟩
structure BothO (x:Nat) (u:Int) (o:Option Nat):Prop where
 prog:∀ w,Calls Tryz.prog 223 #[.float .f64 x] w fun e w'=>∃ y,e=.returned (.float .f64 y)/\Ag o y/\Below w.heap.size w w'
 doc:∀ w,Calls Tryz.prog 148 #[.int .u64 u] w fun e w'=>e=.returned (.int .u64 (cn o))/\Below w.heap.size w w'
 lt:cn o<18446744073709551616
 nan:ah (x:Int)=true->o=none
 fin:af x->sB x=false->x % 9223372036854775808≠0->∃ y,o=some y/\af y
theorem yd {x:Nat} {u z:Int} {y:Nat} (f:∀ w,Calls Tryz.prog 223 #[.float .f64 x] w fun e c=>e=.returned (.float .f64 y)/\c=w) (d:∀ w,Calls Tryz.prog 148 #[.int .u64 u] w fun e c=>e=.returned (.int .u64 z)/\c=w) (g:z=(y:Int)) (h:U64 (y:Int)) (hn:ah (x:Int)=false) (hc:¬ (af x/\x % 9223372036854775808≠0)):BothO x u (some y):=
 ⟨fun w=>(f w).mono fun _ _ ⟨a,b⟩=>⟨y,a,rfl,by rw [b];exact Below.refl _ _⟩,fun w=>(d w).mono fun _ _ ⟨a,b⟩=>⟨by rw [a,g];rfl,by rw [b];exact Below.refl _ _⟩,by have:=h.2;rw [ar];omega,fun a=>(by rw [hn] at a;cases a),fun a _ b=>absurd ⟨a,b⟩ hc⟩
theorem tB {x:Nat} {u:Int} {y:Nat} (f:∀ w,Calls Tryz.prog 223 #[.float .f64 x] w fun e c=>e=.returned (.float .f64 y)/\c=w) (d:∀ w,Calls Tryz.prog 148 #[.int .u64 u] w fun e c=>e=.returned (.int .u64 9221120237041090561)/\c=w) (hn:ah (y:Int)=true:=by first | assumption | decide) (g:y<18446744073709551616:=by first | assumption | decide) (hc:af x->sB x=true):BothO x u none:=
 ⟨fun w=>(f w).mono fun _ _ ⟨a,b⟩=>⟨y,a,⟨hn,g⟩,by rw [b];exact Below.refl _ _⟩,fun w=>(d w).mono fun _ _ ⟨a,b⟩=>⟨by rw [a];rfl,by rw [b];exact Below.refl _ _⟩,by rw [lu];omega,fun _=>rfl,fun a b _=>by rw [hc a] at b;cases b⟩
theorem Jo (x:Nat) (u:Int) (n:u=(x:Int)) (h:U64 x):∃ o,BothO x u o:=by
 have i:x<18446744073709551616:=by have:=h.2;omega
 have A:U64 u:=by rw [n];exact h
 have un:U64 ((9221120237041090561:Nat):Int):=by unfold U64;omega
 cases b:ah (x:Int) with
 | true=>exact⟨none,tB (fun w=>OY x w h b) (fun w=>tA u w A (Or.inl (by rw [n];exact b))) (hc:=fun a=>by rw [iA a] at b;cases b)⟩
 | false=>
  have g:ah u=false:=by rw [n];exact b
  have C:=bI n;have U:U64 ((0:Nat):Int):=by unfold U64;omega
  have B:=jB h U b (by decide)
  have H:=eI h U b (by decide)
  have F:ae ((0:Nat):Int)=0:=by decide
  rw [F] at B H
  have j:=bW i b;have p:sgB u=sB x:=by rw [n];exact fQ i
  have hl:=eN b
  by_cases D:x % 9223372036854775808=0
  ·have d:(szI u==0)=true:=by rw [C,D];rfl
   have t:ae (x:Int)=0:=by rw [<- j,D];unfold sgn;split<;>rfl
   refine⟨some 18442240474082181120,yd (fun w=>MH x w h b ?_ ?_) (fun w=>Bi u w A g d) rfl (by unfold U64;omega) b (fun a=>a.2 D)⟩
   ·rw [B,t];rfl
   ·rw [H,t];rfl
  ·have d:(szI u==0)=false:=by rw [C];simp;omega
   cases m:sB x with
   | true=>
    have z:ae (x:Int)<0:=by
     rw [<- j];have l:(x / 9223372036854775808 % 2==1)=true:=m;rw [l];unfold sgn;simp;omega
    refine⟨none,tB (fun w=>OZ x w h b ?_) (fun w=>tA u w A (Or.inr ⟨g,by rw [p];exact m,d⟩)) (hc:=fun _=>m)⟩
    rw [B];exact decide_eq_true z
   | false=>
    have l:(x / 9223372036854775808 % 2==1)=false:=m;have f:ae (x:Int)=((x % 9223372036854775808:Nat):Int):=by rw [<- j,l];rfl
    have T:(FloatKind.f64.format.order x 0==some .lt)=false:=by rw [B,f,decide_eq_false_iff_not];omega
    have Q:(FloatKind.f64.format.order x 0==some .eq)=false:=by rw [H,f,decide_eq_false_iff_not];omega
    have um:U64 ((9218868437227405311:Nat):Int):=by unfold U64;omega
    have P:=lL h um b (by decide)
    have I:ae ((9218868437227405311:Nat):Int)=9218868437227405311:=by decide
    rw [I,f] at P
    by_cases v:x % 9223372036854775808=9218868437227405312
    ·refine⟨some x,?_⟩
     refine yd (y:=x) (fun w=>Pa x w h b T Q ?_) (fun w=>Fc u w A g (by rw [p];exact m) d (by unfold aY;rw [C,v];rfl)) n h b (fun a=>by have:=a.1;unfold af at this;omega)
     rw [P];exact decide_eq_true (by omega)
    ·have q:af x:=by unfold af;omega
     have a3:(FloatKind.f64.format.order x 9218868437227405311==some .gt)=false:=by rw [P,decide_eq_false_iff_not];omega
     have G:aY u=false:=by unfold aY;rw [C];simp;omega
     have c:mg (x % 9223372036854775808)≠0:=fy D;have Z:pl (x % 9223372036854775808)<=2045:=by unfold pl;omega
     obtain⟨N,E⟩:∃ N,N=mg (x % 9223372036854775808):=⟨_,rfl⟩;obtain⟨e,S⟩:∃ e:Int,e= -1074+(pl (x % 9223372036854775808):Int):=⟨_,rfl⟩;have s:OfR x false N e:=⟨by rw [E];exact ns _,by omega,by omega,by rw [E,S];unfold aV V;congr 2;omega,fun _=>m.symm,fun _=>⟨E,S⟩⟩
     rw [<- E] at c
     have k:=s.lt;have ad:=s.lo;have ab:=s.hi;have Y:N.log2<=52:=by have:=(Nat.log2_lt c).2 (show N<2^53 from k);omega
     have hk: -2000<=lnK N e/\lnK N e<=2000:=by unfold lnK;split<;>omega
     have X:=(Dj c k).1;have R:af 4607182418800017408:=by unfold af;decide
     have W:=(wV (a:=lnK N e) rfl (by omega) (by omega)).2.2.1
     have L:=oD X R;have J:=lp X R;have M:=fP W (show af 4604418534311723008 by unfold af;decide)
     have O:=fP W (show af 4461442080421002358 by unfold af;decide)
     refine⟨_,⟨fun w=>(Qs x (lnM N) _ _ _ _ _ (lnK N e) w h b T Q a3 (fun w=>Be x N e h q s c w) L J rfl M O).mono ?_,fun w=>Fa x N _ _ _ _ u e _ w n A g (by rw [p];exact m) d G q s c L J M O rfl,qB (by simp) _ _,fun a=>(by rw [b] at a;cases a),fun _ _ _=>Fb c k hk L J M O⟩⟩
     rintro r w' ⟨y,rfl,K,hb⟩;exact⟨y,rfl,K,hb⟩
theorem Jp {a b:Int} (h:eV a b=true) (c:ah b=true):ah a=true:=by
 unfold eV at h
 rw [Bool.or_eq_true] at h
 rcases h with h | h
 ·rw [of_decide_eq_true h];exact c
 ·exact (Bool.and_eq_true_iff.1 h).1
structure ExpR (x:Nat) (o:Option Nat):Prop where
 prog:∀ w,Calls Tryz.prog 54 #[.float .f64 x] w fun e w'=>∃ y,e=.returned (.float .f64 y)/\(Ag o y/\y<18446744073709551616)/\Below w.heap.size w w'
 doc:Qc 64 (x:Int) (cn o)
 nan:ah (x:Int)=true->o=none
 num:ah (x:Int)=false->∃ y,o=some y/\y<=9218868437227405312
theorem Jq (x:Nat):∃ o,x<18446744073709551616->ExpR x o:=by
 by_cases h:x<18446744073709551616
 ·obtain⟨y,z,c,k,j⟩:=EZ x (x:Int) rfl (ag h);have f:y<18446744073709551616:=by have:=c.uy.2;omega
  cases d:ah (x:Int) with
  | true=>
   have g:=k d;have e:ah (y:Int)=true:=Jp c.same (by rw [g];decide)
   exact⟨none,fun _=>⟨fun w=>(c.prog w).mono fun _ _ ⟨a,b⟩=>⟨y,a,⟨⟨e,f⟩,f⟩,b⟩,fun w=>(c.doc w).mono fun _ _ ⟨a,b⟩=>⟨by rw [a,g];rfl,b⟩,fun _=>rfl,fun a=>by rw [d] at a;cases a⟩⟩
  | false=>
   obtain⟨l,i⟩:=j d;exact⟨some y,fun _=>⟨fun w=>(c.prog w).mono fun _ _ ⟨a,b⟩=>⟨y,a,⟨rfl,f⟩,b⟩,fun w=>(c.doc w).mono fun _ _ ⟨a,b⟩=>⟨by rw [a,i];rfl,b⟩,fun a=>(by rw [d] at a;cases a),fun _=>⟨y,rfl,l⟩⟩⟩
 ·exact⟨none,fun a=>absurd a h⟩
noncomputable def lQ (x:Nat):Option Nat:=Classical.choose (Jq x)
theorem ce {x:Nat} (h:x<18446744073709551616):ExpR x (lQ x):=Classical.choose_spec (Jq x) h
noncomputable def Pe (o:Option Nat):Option Nat:=o.bind lQ
structure LnR (x:Nat) (o:Option Nat):Prop where
 prog:∀ w,Calls Tryz.prog 223 #[.float .f64 x] w fun e w'=>∃ y,e=.returned (.float .f64 y)/\(Ag o y/\y<18446744073709551616)/\Below w.heap.size w w'
 doc:Qc 148 (x:Int) (cn o)
 lt:cn o<18446744073709551616
 nan:ah (x:Int)=true->o=none
 fin:af x->sB x=false->x % 9223372036854775808≠0->∃ y,o=some y/\af y
theorem Oe (x:Nat):∃ o,x<18446744073709551616->LnR x o:=by
 by_cases h:x<18446744073709551616
 ·obtain⟨o,b⟩:=Jo x (x:Int) rfl (ag h);refine⟨o,fun _=>⟨fun w=>(b.prog w).mono ?_,b.doc,b.lt,b.nan,b.fin⟩⟩
  rintro _ f ⟨y,rfl,c,d⟩;exact⟨y,rfl,⟨c,Qr c fun q e=>by have:=b.lt;rw [e,ar] at this;exact this⟩,d⟩
 ·exact⟨none,fun a=>absurd a h⟩
noncomputable def lnF (x:Nat):Option Nat:=Classical.choose (Oe x)
theorem jl {x:Nat} (h:x<18446744073709551616):LnR x (lnF x):=Classical.choose_spec (Oe x) h
def AgU (o:Option Nat) (x:Nat):Prop:=Ag o x/\x<18446744073709551616
theorem AgU.u {o:Option Nat} {x:Nat} (h:AgU o x):U64 (x:Int):=ag h.2
def Pf (o:Option Nat):Option Nat:=o.map flipN
theorem Jr {x:Nat} (h:x<18446744073709551616):ah (flipN x:Int)=ah (x:Int):=by
 obtain⟨_,a,_⟩:=cz h;unfold ah;rw [dR,dR,a]
theorem Js {x:Nat} (h:x<18446744073709551616):Op.negFloat .f64 x=flipN x:=(show Op.negFloat .f64 x=x^^^9223372036854775808 from rfl).trans (sQ h)
def endN (x:Nat):Nat:=if aM (x:Int)=true/\szI (x:Int)≠0 then x else 0
def kp (X Y:Nat):Nat:=(70 - (bl X:Int)+(bl Y:Int)).toNat
def tP (P Q:Int):Int:=if P=0 then 0 else bJ (decide (P<0)) (P.natAbs*2^kp P.natAbs Q.natAbs / Q.natAbs) (0 - (kp P.natAbs Q.natAbs:Int) - 0) (decide (0<nd (P.natAbs*2^kp P.natAbs Q.natAbs % Q.natAbs)))
theorem sw (nx e:Bool) (b g:Value) (ex ey:Int) (w:World) (i:DN w b 0) :
  Calls Tryz.prog 61 #[.agg #[.bool nx,b,.int .i64 ex],.agg #[.bool e,g,.int .i64 ey]] w fun x d=>x=.returned (.int .u64 0)/\Below w.heap.size w d:=by
 have a:Hid (Below w.heap.size w (boxN (boxN w nx b ex) e g ey)):=(aE w nx b ex).trans ((aE (boxN w nx b ex) e g ey).mono (by simp))
 have h:=aa fun d (j:Below w.heap.size w d)=>aZ nx b ex 0 true d (i.below j) rfl
 clear i
 go_enter Tryz.func61,Tryz.ntmps61
 go_wp2_with fail
 refine (h.out _ a.out).mono ?_
 rintro x k ⟨rfl,c⟩;have f:=aa (a.out.trans (c.mono a.out.size));clear c
 go_wp2_with fail
 go_ret
 exact⟨rfl,f.out⟩
theorem FO (P Q:Int) (c:Bool) (a b:Value) (w:World) (d:DN w a P.natAbs) (h:DN w b Q.natAbs) (m: -1000000000<=P) (g:P<=1000000000) (j:0<Q) (i:Q<=1000000000) :
  Calls Tryz.prog 61 #[.agg #[.bool (decide (P<0)),a,.int .i64 0],.agg #[.bool c,b,.int .i64 0]] w fun x f=>x=.returned (.int .u64 (tP P Q))/\Below w.heap.size w f:=by
 unfold tP
 by_cases e:P=0
 ·subst e;rw [if_pos rfl];exact sw _ c a b 0 0 w d
 ·rw [if_neg e];have k:nd P.natAbs<=1:=bL (by simp;omega)
  have l:nd Q.natAbs<=1:=bL (by simp;omega)
  exact je _ c _ a b 0 0 _ P.natAbs Q.natAbs (kp P.natAbs Q.natAbs) _ w d h (by omega) (by omega) (by omega) (by omega) (by omega) (by omega) (by omega) (by omega) (by unfold kp;omega) rfl rfl rfl
def Two (b:Nat) (P Q:Int) (w:World):Prop:=w.cell? ⟨b,0,none⟩=some (.int .i64 P)/\w.cell? ⟨b,1,none⟩=some (.int .i64 Q)
theorem Two.below {w a:World} {b s:Nat} {P Q:Int} (h:Two b P Q w) (d:Below s w a) (c:b<s):Two b P Q a:=
 ⟨(d.cell (p:=⟨b,0,none⟩) c).trans h.1,(d.cell (p:=⟨b,1,none⟩) c).trans h.2⟩
def rf (X Y:Nat):Nat:=nearR (aP X Y 200) (-1 - ((200:Nat):Int))
theorem zk {X Y:Nat} (b:X≠0) (a:Y≠0) (c:Y<=1000000000):kp X Y<=200/\54+Y.log2<=X.log2+kp X Y:=by
 have d:=eA b;have e:=eA a;have f:Y.log2<30:=(Nat.log2_lt a).2 (by omega)
 unfold kp;omega
theorem Kw {P Q:Int} (g:P≠0) (l:0<Q) (j:Q<=1000000000):tP P Q=gB (decide (P<0))+(rf P.natAbs Q.natAbs:Int):=by
 have c:P.natAbs≠0:=by omega
 have d:Q.natAbs≠0:=by omega
 have b:Q.natAbs<=1000000000:=by omega
 unfold tP rf;rw [if_neg g];generalize P.natAbs=X at *
 generalize Q.natAbs=Y at *
 obtain⟨h,i⟩:=zk c d b;generalize kp X Y=k at *
 have f:=jd c d i;rw [kG _ _ _ f.1,<- jc (p:=-1) (by omega) h f.2]
 have e:2*(X*2^k / Y)+(if decide (0<nd (X*2^k % Y))=true then 1 else 0)=aP X Y k:=by
  unfold aP
  congr 1
  by_cases a:X*2^k % Y=0
  ·rw [a];rfl
  ·have:=dm a;rw [if_neg a,if_pos (decide_eq_true (show 0<nd (X*2^k % Y) from this))]
 rw [e,show (0:Int) - (k:Int) - 0 - 1= -1 - (k:Int) by omega]
theorem FP {X Y:Nat} (h:X<=1000000000):rf X Y<9218868437227405312:=by
 unfold rf;have a:aP X Y 200<=1*2^232:=by
  unfold aP;have c:X*2^200 / Y<=X*2^200:=Nat.div_le_self _ _;have b:X*2^200<=1073741824*2^200:=Nat.mul_le_mul_right _ (by omega)
  rw [show (1073741824:Nat)*2^200=2^230 by decide] at b
  split<;>omega
 refine Nat.lt_of_le_of_lt (bS _ a) ?_
 rw [show (-1:Int) - ((200:Nat):Int)=31 - ((232:Nat):Int) by decide,bf (by decide)]
 decide
theorem zl (X Y a k:Nat):aP (X*2^a) Y k=aP X Y (a+k):=by
 unfold aP;rw [Nat.mul_assoc,<- Nat.pow_add]
theorem nS (X Y k c:Nat) (hc:0<c):aP (X*c) (Y*c) k=aP X Y k:=by
 unfold aP;rw [show X*c*2^k=X*2^k*c by rw [Nat.mul_assoc,Nat.mul_comm c,<- Nat.mul_assoc],Nat.mul_div_mul_right _ _ hc,Nat.mul_mod_mul_right]
 have:(X*2^k % Y*c=0)↔(X*2^k % Y=0):=by
  rw [Nat.mul_eq_zero];omega
 simp only [this]
theorem FQ {A B X Y p q m t:Nat} (b:A*2^p=X*2^t) (a:B*2^q=Y*2^t):aP A B (p+m)=aP X Y (q+m):=by
 rw [<- zl A B p m,b,<- nS _ B m (2^q) (Nat.two_pow_pos _),a,show X*2^t*2^q=X*2^q*2^t by rw [Nat.mul_assoc,Nat.mul_comm (2^t),<- Nat.mul_assoc],nS _ _ _ _ (Nat.two_pow_pos _),zl]
theorem FR {x y X Y:Nat} (m:af x) (o:af y) (c:aV x=X*2^1074) (d:aV y=Y*2^1074) (b:X≠0) (a:Y≠0) (e:Y<=1000000000) :
  floatBits .quo .f64 x y=some (wrd (sB x^^sB y) (rf X Y)):=by
 have j:=Nat.two_pow_pos 1074;have f:x % 9223372036854775808≠0:=by
  intro h;unfold aV at c
  rw [h,bp] at c
  have:=Nat.mul_pos (show 0<X by omega) j
  omega
 have g:y % 9223372036854775808≠0:=by
  intro h;unfold aV at d
  rw [h,bp] at d
  have:=Nat.mul_pos (show 0<Y by omega) j
  omega
 unfold aV V at c d
 have u:=fy f;have l:=fy g;have v:=ns (x % 9223372036854775808);have t:=ns (y % 9223372036854775808);have w:(mg (y % 9223372036854775808)).log2<53:=(Nat.log2_lt l).2 (by omega)
 rw [jL m o f g rfl rfl rfl rfl (k:=pl (x % 9223372036854775808)+300) (by omega),FQ c d]
 obtain⟨s,r⟩:=zk b a e;have i:=jd b a r;have q:=jc (X:=X) (Y:=Y) (p:=-1) (by omega) (show kp X Y<=pl (y % 9223372036854775808)+300 by omega) i.2
 have n:=jc (X:=X) (Y:=Y) (p:=-1) (by omega) s i.2
 unfold rf;rw [<- n,q]
 congr 3
 omega
theorem nW (m:Int):floatOfInt .f64 m=fi m:=by
 show Ieee.double.nearest (decide (m<0)) m.natAbs 0=_
 unfold fi aJ
 by_cases b:m=0
 ·subst b;rfl
 ·rw [if_neg b,bR _ (by omega)]
  by_cases a:m<0
  ·simp only [a,decide_true,if_true];rw [gA]
  ·simp only [a,decide_false,if_false];rw [ia]
theorem KR {m:Int} {K:Nat} (e:K=1074) (h: -1000000000<=m) (g:m<=1000000000):af (fi m)/\aV (fi m)=m.natAbs*2^K/\sB (fi m)=decide (m<0)/\fi m<18446744073709551616:=by
 obtain⟨a,b,c,d⟩:=nA (m:=m) e (by omega) (by omega)
 refine⟨b,?_,c,d⟩
 unfold aV;have f:(vI (fi m)).natAbs=V (fi m % 9223372036854775808):=by
  unfold vI
  split<;>simp
 rw [<- f,a,Int.natAbs_mul,Int.natAbs_natCast]
def yW (P Q:Int):Nat:=if P=0 then 0 else wrd (decide (P<0)) (rf P.natAbs Q.natAbs)
theorem KS {P Q:Int} (n: -1000000000<=P) (j:P<=1000000000) (q:0<Q) (l:Q<=1000000000):floatBits .quo .f64 (fi P) (fi Q)=some (yW P Q):=by
 obtain⟨K,c⟩:∃ K:Nat,K=1074:=⟨_,rfl⟩;obtain⟨p,h,o,_⟩:=KR (m:=P) c n j;obtain⟨d,b,f,_⟩:=KR (m:=Q) c (by omega) l
 have g:decide (Q<0)=false:=decide_eq_false (by omega)
 have k:=Nat.two_pow_pos K;unfold yW
 by_cases a:P=0
 ·rw [if_pos a];subst a;have i:fi Q % 9223372036854775808≠0:=fun e=>by
   unfold aV at b
   rw [e,bp] at b
   have:=Nat.mul_pos (show 0<Q.natAbs by omega) k
   omega
  rw [show fi 0=0 from LT,pL (by rfl) d i,f,g]
  rfl
 ·rw [if_neg a];subst c;rw [FR p d h b (by omega) (by omega) (by omega),o,f,g]
  simp
theorem PH {P Q:Int} (d:0<Q) (b:Q<=1000000000):tP P Q=(yW P Q:Int):=by
 unfold yW
 by_cases a:P=0
 ·rw [if_pos a];unfold tP;rw [if_pos a];rfl
 ·rw [if_neg a,Kw a d b];unfold gB wrd
  by_cases c:P<0
  ·simp [c]
  ·simp [c]
theorem zE (kind W a b P Q:Int) (v:Value) (w:World) (h: -1000000000<=P) (f:P<=1000000000) (i:0<Q) (g:Q<=1000000000) (H:Hid (FracH w kind W a b P Q 0 v)) :
  Calls Tryz.prog 53 #[.int .i64 kind,.agg #[.int .i64 W,v],.int .i64 a,.int .i64 b] w fun e l=>e=.returned (.tuple #[.float .f64 (yW P Q),.int .i64 0])/\Below w.heap.size w l:=by
 have c:=hideS (bU w W v);have n:=nW P;have p:=nW Q;have d:=KS h f i g;unfold FracH at H
 clear h f i g;generalize yW P Q=R at *
 generalize fi P=X at *
 generalize fi Q=Y at *
 have o:=fun j=>run_float_arith (P:=Tryz.prog) j .quo 27 .f64 X Y R d
 clear d
 go_enter Tryz.func53,Tryz.ntmps53
 go_wp2_with (go_at_call 79;refine (H.out _ c.out).mono ?_;rintro e m ⟨rfl,k⟩)
 go_ret2
 exact⟨rfl,c.out.trans (k.mono c.out.size)⟩
theorem Ga (kind W a b E:Int) (v:Value) (w:World) (d:E≠0) (H:Hid (FracH w kind W a b 0 0 E v)) :
  Calls Tryz.prog 53 #[.int .i64 kind,.agg #[.int .i64 W,v],.int .i64 a,.int .i64 b] w fun e f=>e=.returned (.tuple #[.float .f64 0,.int .i64 E])/\Below w.heap.size w f:=by
 have c:=hideS (bU w W v);have g:(E !=0)=true:=bne_iff_ne.2 d;unfold FracH at H
 clear d
 go_enter Tryz.func53,Tryz.ntmps53
 go_wp2_with (go_at_call 79;refine (H.out _ c.out).mono ?_;rintro e i ⟨rfl,h⟩)
 go_ret2
 exact⟨rfl,c.out.trans (h.mono c.out.size)⟩
def QF (w:World) (kind W a b:Int) (R:Nat) (E:Int) (v:Value):Prop:=∀ c,Below w.heap.size w c->Calls Tryz.prog 53 #[.int .i64 kind,.agg #[.int .i64 W,v],.int .i64 a,.int .i64 b] c fun e d=>e=.returned (.tuple #[.float .f64 R,.int .i64 E])/\Below c.heap.size c d
theorem FracH.later {w c:World} {kind W a b P Q E:Int} {v:Value} (h:FracH w kind W a b P Q E v) (d:Below w.heap.size w c):FracH c kind W a b P Q E v:=fun f e=>h f (d.trans (e.mono d.size))
theorem KT {kind:Int}:0<eH kind/\eH kind<=1000000000:=by
 unfold eH
 split
 ·decide
 ·split
  ·decide
  ·split<;>decide
theorem FracR.bd {kind W a b P Q E:Int} {rs:List Rul} (h:FracR kind W a b rs P Q E): -1000000000<=P/\P<=1000000000/\(E=0->0<Q/\Q<=1000000000)/\(E≠0->P=0/\Q=0):=by
 cases h with
 | fine f d i j e=>
  have:=zj (opB W rs) (kind:=kind) i j;exact⟨this.1,this.2,fun _=>KT,fun c=>absurd rfl c⟩
 | kind h=>exact⟨by decide,by decide,fun c=>absurd c (by decide),fun _=>⟨rfl,rfl⟩⟩
 | cal A B e h g=>exact⟨by decide,by decide,fun c=>absurd c g,fun _=>⟨rfl,rfl⟩⟩
 | day f d h e=>exact⟨by decide,by decide,fun c=>absurd c (by decide),fun _=>⟨rfl,rfl⟩⟩
theorem FracR.year {kind W a b P Q E:Int} {rs:List Rul} (h:FracR kind W a b rs P Q E) (p:Option Addr) (g off c:Nat) (w:World) (m:RSrc w p g off rs) (o:rs.length<=9223372036854775807):QF w kind W a b (yW P Q) E (.slice p rs.length c):=fun j e=>by
 have f:=(h.prog p g off c w m o).later e;obtain⟨l,n,i,k⟩:=h.bd
 by_cases d:E=0
 ·subst d;exact zE kind W a b P Q _ j l n (i rfl).1 (i rfl).2 f
 ·obtain⟨rfl,rfl⟩:=k d;exact Ga kind W a b E _ j d f
theorem Cp {f:Nat} {args:Array Value} {w:World} {R R':Value->World->Prop} (hi:Tryz.prog.inits.idxOf? f=none) (h:Calls Tryz.prog f args w fun e a=>∃ v,e=.returned v/\R v a) (t:Calls Tryz.prog f args w fun e a=>∃ v,e=.returned v/\R' v a):∃ v a,R v a/\R' v a:=by
 have b:∀ {Q:Value->World->Prop},(Calls Tryz.prog f args w fun e a=>∃ v,e=.returned v/\Q v a)->∃ n v a,runN Tryz.prog n (lone (Frame.enter Tryz.prog f args .normal) [] w)=.ended (.done v) a/\Q v a:=fun q=>
  Calls.done (q.mono fun e a ⟨v,g,r⟩=>by subst g;exact r) hi
 obtain⟨n,v,i,g,p⟩:=b h;obtain⟨m,u,j,d,o⟩:=b t;have l:∀ {n m:Nat} {v u:Value} {i j:World} {M:Machine},n<=m->runN Tryz.prog n M=.ended (.done v) i->runN Tryz.prog m M=.ended (.done u) j->v=u/\i=j:=by
  intro n m v u i j M s g d;obtain⟨k,rfl⟩:∃ k,m=n+k:=⟨m - n,by omega⟩
  rw [runN_add,g] at d
  simp at d
  exact d
 rcases Nat.le_total n m with c | c
 ·obtain⟨rfl,rfl⟩:=l c g d;exact⟨v,i,p,o⟩
 ·obtain⟨rfl,rfl⟩:=l c d g;exact⟨u,j,p,o⟩
theorem oQ {x y:Nat} (g:x<18446744073709551616) (hn:ah (x:Int)=false) (w:World) (h:Calls Tryz.prog 54 #[.float .f64 x] w fun e d=>e=.returned (.float .f64 y)/\Below w.heap.size w d):lQ x=some y:=by
 have f:=ce g;obtain⟨v,d,⟨a,_⟩,z,b,c⟩:=Cp (R:=fun v _=>v=.float .f64 y/\True) (R':=fun v _=>∃ z,v=.float .f64 z/\Ag (lQ x) z) (by kernel_rfl) (h.mono fun e d ⟨a,_⟩=>⟨_,a,rfl,trivial⟩) ((f.prog w).mono fun e d ⟨z,a,b,_⟩=>⟨_,a,z,rfl,b.1⟩)
 rw [a] at b
 obtain rfl:y=z:=by injection b
 obtain⟨q,e,_⟩:=f.num hn;rw [e] at c ⊢
 rw [cR c]
theorem Lg (w:World):Calls Tryz.prog 54 #[.float .f64 9223372036854775808] w fun e a=>e=.returned (.float .f64 4607182418800017408)/\Below w.heap.size w a:=by
 have:=lM 9223372036854775808 9223372036854775808 4602678819172646912 0 0 0 9223372036854775808 9223372036854775808 4607182418800017408 0 w (by unfold U64;omega) (by decide) (by decide) (by decide) (by decide) (by decide) (by decide+kernel) (by decide+kernel) qw (by decide+kernel) (by decide+kernel) (by decide+kernel) (by decide+kernel) (by show _=_;decide+kernel) (by show U64 _;unfold U64;omega) (by decide+kernel) (by omega) (by decide+kernel) (by decide+kernel)
 rw [show aJ (aA (4607182418800017408:Nat)) (aQ (4607182418800017408:Nat)+0)=4607182418800017408 by decide+kernel] at this
 exact this
theorem PU (a:World):lQ 0=some 4607182418800017408:=oQ (by decide) (by decide) a (QL a)
theorem NM (a:World):lQ 9223372036854775808=some 4607182418800017408:=oQ (by decide) (by decide) a (Lg a)
theorem NO (a:World) (s:Bool):Pe (Pf (some (wrd s 0)))=some 4607182418800017408:=by
 cases s
 ·exact NM a
 ·exact PU a
end Go.Proofs.YtfdddijdjpijbaaGreat
