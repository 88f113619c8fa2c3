/-  -/
import Derived.Test.YtfdddijdjpijbaaGreatHar
import Derived.Deep.RegionHeld3
import Derived.Test.YtfdddijdjpijbaaGreatHac
import Derived.Deep.RegionWith
import Derived.Lib.MinMax
import Derived.Test.YtfdddijdjpijbaaGreatHaq
set_option maxHeartbeats 2000000
set_option maxRecDepth 10000
namespace Go.Proofs.YtfdddijdjpijbaaGreat
open Go.RowKit
def bP (N n:Nat):Bool:=decide (N % 2^n≠0)
theorem DK (N:Nat):bP N 0=false:=by unfold bP;rw [Nat.pow_zero,Nat.mod_one];rfl
theorem DL (N k:Nat):bP N (32*(k+1))=(bP N (32*k)||decide (dgt N k≠0)):=by
 unfold bP;rw [fj];have c:=Nat.two_pow_pos (32*k)
 by_cases a:N % 2^(32*k)=0
 ·by_cases b:dgt N k=0
  ·simp [a,b]
  ·have:dgt N k*2^(32*k)≠0:=Nat.mul_ne_zero b (by omega)
   simp [a,b];exact this
 ·simp [a]
theorem GL {N q r n:Nat} (hn:n=32*q+r) (f:r<32):bP N n=(bP N (32*q)||decide (dgt N q % 2^r≠0)):=by
 unfold bP;have e:N % 2^n=N % 2^(32*q)+2^(32*q)*(N / 2^(32*q) % 2^r):=by rw [hn,Nat.pow_add,Nat.mod_mul]
 have c:dgt N q % 2^r=N / 2^(32*q) % 2^r:=by
  unfold dgt;exact Nat.mod_mod_of_dvd _ (by rw [show (4294967296:Nat)=2^r*2^(32 - r) by rw [<- Nat.pow_add,show r+(32 - r)=32 by omega]];exact Nat.dvd_mul_right _ _)
 rw [e,c];have d:=Nat.two_pow_pos (32*q)
 by_cases a:N % 2^(32*q)=0
 ·by_cases b:N / 2^(32*q) % 2^r=0
  ·simp [a,b]
  ·have:2^(32*q)*(N / 2^(32*q) % 2^r)≠0:=Nat.mul_ne_zero (by omega) b
   simp [a,b];exact this
 ·simp [a]
theorem Aj (N q r n i:Nat) (hn:n=32*q+r) (d:r<32):(dgt N (i+q)+dgt N (i+q+1)*4294967296) / 2^r % 4294967296=dgt (N / 2^n) i:=by
 have b:dgt N (i+q)+dgt N (i+q+1)*4294967296=N / 2^(32*(i+q)) % (4294967296*4294967296):=by
  unfold dgt;rw [gr,<- Nat.div_div_eq_div_mul];rw [Nat.mod_mul,Nat.mul_comm 4294967296]
 rw [b];unfold dgt;have a:N / 2^n / 2^(32*i)=N / 2^(32*(i+q)) / 2^r:=by
  rw [Nat.div_div_eq_div_mul,Nat.div_div_eq_div_mul,<- Nat.pow_add,<- Nat.pow_add];congr 2;omega
 rw [a];generalize N / 2^(32*(i+q))=Y;have c:(4294967296*4294967296:Nat)=2^r*(4294967296*2^(32 - r)):=by
  rw [Nat.mul_left_comm,<- Nat.pow_add,show r+(32 - r)=32 by omega]
 rw [c,Nat.mod_mul_right_div_self];exact Nat.mod_mod_of_dvd _ (Nat.dvd_mul_right _ _)
theorem oZ {r:Nat} (h:r<32):IntKind.u64.wrap (2^r)=((2^r:Nat):Int):=by
 have b:(2:Nat)^r<=2^31:=Nat.pow_le_pow_right (by decide) (by omega)
 have a:((2:Int)^r)=((2^r:Nat):Int):=by rw [Int.natCast_pow];rfl
 rw [a,IntKind.wrap_u64];generalize 2^r=z at *
 omega
theorem sH (g m c N kk:Nat) (i:Int) (w:World) (f:RowIs w g m N) (d:N<2^(32*m)) (hi:Hid (i=kk)) :
  Calls Tryz.prog 142 #[.slice (some ⟨g,0,none⟩) m c,.int .i64 i] w fun e b=>e=.returned (.int .u64 (dgt N kk:Int))/\b=w:=by
 rw [hi.out]
 by_cases a:kk<m
 ·exact wF g m c kk _ w a (f kk a)
 ·rw [mw (Nat.lt_of_lt_of_le d (Nat.pow_le_pow_right (by decide) (by omega)))];exact mz _ _ c kk w (by omega)
theorem CD {w:World} {g m N b j:Nat} {v:Value} (h:RowIs w g m N) (a:b≠g):RowIs (w.setCell ⟨b,j,none⟩ v) g m N:=
 fun i hi=>(World.cell?_setCell_far w ⟨b,j,none⟩ ⟨g,i,none⟩ v a).trans (h i hi)
theorem ut {v:Value} {a b:Bool} (h:a=b):Ending.returned (.tuple #[v,.bool a])=.returned (.tuple #[v,.bool b]):=by rw [h]
theorem LI (D P:Nat):((D:Int) % (P:Int) !=0)=decide (D % P≠0):=by
 by_cases h:D % P=0
 ·have:(D:Int) % (P:Int)=0:=by rw [<- Int.natCast_emod,h];rfl
  simp [h,this]
 ·have:(D:Int) % (P:Int)≠0:=by rw [<- Int.natCast_emod];omega
  simp [h,this]
theorem wI {N q r n i:Nat} (hn:n=32*q+r) (b:r<32):(((dgt N (i+q):Int)+(dgt N (i+q+1):Int)*4294967296) / 2^r).tmod 4294967296=(dgt (N / 2^n) i:Int):=by
 have e:=Aj N q r n i hn b;have a:((dgt N (i+q):Int)+(dgt N (i+q+1):Int)*4294967296) / 2^r=(((dgt N (i+q)+dgt N (i+q+1)*4294967296) / 2^r:Nat):Int):=by
  rw [Int.natCast_ediv,Int.natCast_add,Int.natCast_mul,Int.natCast_pow];rfl
 rw [a,Int.tmod_eq_emod_of_nonneg (Int.natCast_nonneg _),<- e,Int.natCast_emod];rfl
def rO (w:World) (b n M j:Nat):Prop:=w.rowIs b 41 n (fun i=>.int .u64 ((if i<j then dgt M i else 0:Nat):Int))
theorem jF (w:World) (n M:Nat):rO (w.alloc (.cells (madeCells #[.int .u64 0] n) 41)) w.heap.size n M 0:=
 (World.rowIs_made w (.int .u64 0) n 41).congr (fun i _=>by rw [if_neg (by omega)];rfl)
theorem jG {w:World} {b n M j:Nat} {x:Int} (h:rO w b n M j) (a:x=(dgt M j:Int)):rO (w.setCell ⟨b,j,none⟩ (.int .u64 x)) b n M (j+1):=by
 refine (h.set j (.int .u64 x)).congr fun i _=>?_
 by_cases c:i=j
 ·rw [if_pos c,if_pos (by omega),a,c]
 ·rw [if_neg c]
  by_cases d:i<j
  ·rw [if_pos d,if_pos (by omega)]
  ·rw [if_neg d,if_neg (by omega)]
theorem lg {w:World} {b n M:Nat} (h:rO w b n M n):Own w b n M:=h.congr (fun i hi=>by rw [if_pos hi])
theorem kg (p:Option Addr) (m c:Nat) (n:Int) (w:World) (b:m<=10000000) (h:32*(m:Int)<=n) :
  Calls Tryz.prog 143 #[.slice p m c,.int .i64 n] w fun e a=>e=.returned (.tuple #[.slice none 0 0,.bool (decide (0<m))])/\a=w:=by
 go_enter Tryz.func143,Tryz.ntmps143
 go_wp2
 go_ret2
 exact⟨rfl,rfl⟩
theorem rP (g c N m n q r:Nat) (w:World) (hm:1<=m) (am:m<=10000000) (hn:(n:Int)<32*m) (hq:(n:Int) / 32=q) (hr:(n:Int) % 32=r) (b:Hid (RowIs w g m N)) (hg:g<w.heap.size) (hN:Hid (N<2^(32*m))) :
  Calls Tryz.prog 143 #[.slice (some ⟨g,0,none⟩) m c,.int .i64 n] w fun e a=>∃ v,e=.returned (.tuple #[v,.bool (bP N n)])/\DN a v (N / 2^n)/\Below w.heap.size w a:=by
 have K:r<32:=by omega
 have ak:q<m:=by omega
 have T:Hid (n=32*q+r):=by show _=_;omega
 go_enter Tryz.func143,Tryz.ntmps143
 go_wp2
 go_loop [6,7] (fun l i=>∃ k:Nat,k<=q/\l=.bool (bP N (32*k))/\i=.int .i64 k) (fun _ i=>q - (intOf i).toNat)
 case atStart=>exact⟨0,Nat.zero_le _,by rw [Nat.mul_zero,DK],rfl⟩
 case round=>
  obtain⟨k,hk,rfl,rfl⟩:=hrel
  by_cases Y:k<q
  ·have hc:=b.out k (by omega)
   have O:=aa (DL N k);have J:Hid (∀ D,dgt N k=D->bP N (32*(k+1))=(bP N (32*k)||decide (D≠0))):=fun D H=>by rw [<- H];exact O.out
   generalize H:dgt N k=D at hc
   have O:=aa (J.out D H);clear H J;cases X:bP N (32*k)
   ·rw [X,Bool.false_or] at O
    by_cases Z:D=0
    ·subst Z;go_wp2
     go_round
     case rel=>exact⟨k+1,by omega,by rw [O.out];rfl,by go_num⟩
     case measure=>simp [intOf];omega
    ·have h1:((D:Int) !=0)=true:=by simpa using Z
     have H0:=aa Z;clear Z;go_wp2
     go_round
     case rel=>exact⟨k+1,by omega,by rw [O.out,decide_eq_true H0.out],by go_num⟩
     case measure=>simp [intOf];omega
   ·rw [X,Bool.true_or] at O
    go_wp2
    go_round
    case rel=>exact⟨k+1,by omega,by rw [O.out],by go_num⟩
    case measure=>simp [intOf];omega
  ·obtain rfl:k=q:=by omega
   have ac:=b.out k ak;have as:(k:Int)<(m:Int):=by omega
   have S:=aa (GL (N:=N) T.out K);have J:Hid (∀ D,dgt N k=D->bP N n=(bP N (32*k)||decide (D % 2^r≠0))):=fun D H=>by rw [<- H];exact S.out
   have b1:=bw N k;generalize H:dgt N k=D at ac b1
   have S:=aa (J.out D H);clear H J;cases X:bP N (32*k)
   ·rw [X,Bool.false_or] at S
    have al:=oZ K;have hP:=Nat.two_pow_pos r;generalize 2^r=P at al S hP
    go_wp2_with fail
    go_quiet (fail)
    have L:=fun w=>run_make_row' (P:=Tryz.prog) 33 41 (.int .u64 0) 8 Tryz.underlying33 dT rfl .i64 .i64 (m - k) (by omega) (by omega) w
    have V:((m - k:Nat):Int)=(m:Int) - (k:Int):=by omega
    rw [V] at L
    clear V
    go_wp2_with fail
    rw [hr]
    go_loopw [9] (fun i t=>∃ j:Nat,j<=m - k/\i=.int .i64 j/\Hid (rO t w.heap.size (m - k) (N / 2^n) j)/\Hid (Below w.heap.size w t)) (fun i _=>m - k - (intOf i).toNat)
    case atStart=>exact⟨0,Nat.zero_le _,rfl,jF (w.drewN nq) (m - k) _,below_drewN ((Below.refl _ _).alloc (Nat.le_refl _) _) _⟩
    case round=>
     obtain⟨j,hj,rfl,F,I⟩:=hrel
     by_cases Y:j<m - k
     ·have o:t.cell? ⟨g,j+k,none⟩=some (.int .u64 (dgt N (j+k):Int)):=(I.out.cell (p:=⟨g,j+k,none⟩) hg).trans (b.out (j+k) (by omega))
      have Q:Hid (RowIs t g m N):=b.out.below hg I.out;have h1:=F.out.cell (i:=j) (by omega)
      have f1:=F.out.frozen j;have b2:=bw N (j+k);have b3:=bw N (j+k+1);generalize hE:(if j<j then dgt (N / 2^n) j else 0:Nat)=E at h1
      clear hE;have ai:(j:Int)+(k:Int)<(m:Int):=by omega
      have ad:(j:Int)<((m - k:Nat):Int):=by omega
      go_wp2_with fail
      generalize y:dgt N (j+k)=z at o b2
      have R:=aa y;clear y;generalize G:dgt N (j+k+1)=s at b3
      have u:=aa G;clear G;have t1:(n:Int).tdiv 32=(k:Int):=by rw [Int.tdiv_eq_ediv_of_nonneg (by omega)];exact hq
      have t2:(n:Int).tmod 32=(r:Int):=by rw [Int.tmod_eq_emod_of_nonneg (by omega)];exact hr
      have w0:IntKind.i64.wrap (k:Int)=(k:Int):=by rw [IntKind.wrap_i64];omega
      have ab:IntKind.i64.wrap (r:Int)=(r:Int):=by rw [IntKind.wrap_i64];omega
      have nn:(0:Int)<=(j:Int)+(k:Int):=by omega
      have tn:((j:Int)+(k:Int)).toNat=j+k:=by omega
      have w1:IntKind.i64.wrap ((j:Int)+(k:Int))=(j:Int)+(k:Int):=by rw [IntKind.wrap_i64];omega
      have w2:IntKind.i64.wrap ((j:Int)+(k:Int)+1)=(j:Int)+(k:Int)+1:=by rw [IntKind.wrap_i64];omega
      have w3:IntKind.u64.wrap ((s:Int)*4294967296)=(s:Int)*4294967296:=by rw [IntKind.wrap_u64];omega
      have w4:IntKind.u64.wrap ((z:Int)+(s:Int)*4294967296)=(z:Int)+(s:Int)*4294967296:=by rw [IntKind.wrap_u64];omega
      have d:∀ a,RowIs a g m N->Calls Tryz.prog 142 #[.slice (some ⟨g,0,none⟩) m c,.int .i64 ((j:Int)+(k:Int)+1)] a fun e M=>e=.returned (.int .u64 (s:Int))/\M=a:=fun a h=>by
       have:=sH g m c N (j+k+1) ((j:Int)+(k:Int)+1) a h hN.out (by show _=_;omega)
       rw [u.out] at this;exact this
      have C:=aa d;clear d;have f:w.heap.size≠g:=by omega
      have A:Hid (rO (t.setCell ⟨w.heap.size,j,none⟩ (.int .u64 ((((z:Int)+(s:Int)*4294967296) / 2^r).tmod 4294967296))).drew w.heap.size (m - k) (N / 2^n) (j+1)):=jG F.out (by rw [<- R.out,<- u.out];exact wI T.out K)
      have B:Hid (Below w.heap.size w (t.setCell ⟨w.heap.size,j,none⟩ (.int .u64 ((((z:Int)+(s:Int)*4294967296) / 2^r).tmod 4294967296))).drew):=(I.out.setCell (Nat.le_refl _) _).drew
      go_region_held3 (fun a=>a.cell? ⟨g,j+k,none⟩=some (.int .u64 (z:Int))/\RowIs a g m N) (first | exact⟨o,Q.out⟩| exact⟨(World.cell?_setCell_far _ _ _ _ f).trans o,CD Q.out f⟩| go_keep) ((go_at_call 142;refine (C.out _ (by first | assumption | exact Q.out)).mono ?_;rintro e a ⟨rfl,rfl⟩))
      go_wp2_with fail
      go_roundw
      case rel=>first | exact⟨j+1,by omega,by go_num,A,B⟩| ((repeat apply Exists.intro);exact⟨⟨j+1,by omega,by go_num,A,B⟩,rfl⟩)
      case measure=>simp [intOf];omega
     ·obtain rfl:j=m - k:=by omega
      have U:=aa (lg F.out);have W:Hid (N / 2^n<2^(32*(m - k))):=by
       show _<_
       rw [Nat.div_lt_iff_lt_mul (Nat.two_pow_pos _),<- Nat.pow_add];refine Nat.lt_of_lt_of_le hN.out (Nat.pow_le_pow_right (by decide) ?_)
       have:=T.out;omega
      have x:=F.out.lt;have J:=aa (nv U.out.row W.out (Nat.le_refl _) x)
      go_wp2_with fail
      refine (dq _ _ _ _ _ U.out.row W.out (Nat.le_refl _) (by omega)).mono ?_
      rintro e a ⟨rfl,rfl⟩
      go_wp2_with fail
      go_ret2
      exact⟨_,ut (by rw [S.out];exact LI D P),J.out,I.out⟩
   ·rw [X,Bool.true_or] at S
    go_wp2_with fail
    go_quiet (fail)
    have L:=fun w=>run_make_row' (P:=Tryz.prog) 33 41 (.int .u64 0) 8 Tryz.underlying33 dT rfl .i64 .i64 (m - k) (by omega) (by omega) w
    have V:((m - k:Nat):Int)=(m:Int) - (k:Int):=by omega
    rw [V] at L
    clear V
    go_wp2_with fail
    go_loopw [9] (fun i t=>∃ j:Nat,j<=m - k/\i=.int .i64 j/\Hid (rO t w.heap.size (m - k) (N / 2^n) j)/\Hid (Below w.heap.size w t)) (fun i _=>m - k - (intOf i).toNat)
    case atStart=>exact⟨0,Nat.zero_le _,rfl,jF (w.drewN nq) (m - k) _,below_drewN ((Below.refl _ _).alloc (Nat.le_refl _) _) _⟩
    case round=>
     obtain⟨j,hj,rfl,F,I⟩:=hrel
     by_cases Y:j<m - k
     ·have o:t.cell? ⟨g,j+k,none⟩=some (.int .u64 (dgt N (j+k):Int)):=(I.out.cell (p:=⟨g,j+k,none⟩) hg).trans (b.out (j+k) (by omega))
      have Q:Hid (RowIs t g m N):=b.out.below hg I.out;have h1:=F.out.cell (i:=j) (by omega)
      have f1:=F.out.frozen j;have b2:=bw N (j+k);have b3:=bw N (j+k+1);generalize hE:(if j<j then dgt (N / 2^n) j else 0:Nat)=E at h1
      clear hE;have ai:(j:Int)+(k:Int)<(m:Int):=by omega
      have ad:(j:Int)<((m - k:Nat):Int):=by omega
      go_wp2_with fail
      generalize y:dgt N (j+k)=z at o b2
      have R:=aa y;clear y;generalize G:dgt N (j+k+1)=s at b3
      have u:=aa G;clear G;have t1:(n:Int).tdiv 32=(k:Int):=by rw [Int.tdiv_eq_ediv_of_nonneg (by omega)];exact hq
      have t2:(n:Int).tmod 32=(r:Int):=by rw [Int.tmod_eq_emod_of_nonneg (by omega)];exact hr
      have w0:IntKind.i64.wrap (k:Int)=(k:Int):=by rw [IntKind.wrap_i64];omega
      have ab:IntKind.i64.wrap (r:Int)=(r:Int):=by rw [IntKind.wrap_i64];omega
      have nn:(0:Int)<=(j:Int)+(k:Int):=by omega
      have tn:((j:Int)+(k:Int)).toNat=j+k:=by omega
      have w1:IntKind.i64.wrap ((j:Int)+(k:Int))=(j:Int)+(k:Int):=by rw [IntKind.wrap_i64];omega
      have w2:IntKind.i64.wrap ((j:Int)+(k:Int)+1)=(j:Int)+(k:Int)+1:=by rw [IntKind.wrap_i64];omega
      have w3:IntKind.u64.wrap ((s:Int)*4294967296)=(s:Int)*4294967296:=by rw [IntKind.wrap_u64];omega
      have w4:IntKind.u64.wrap ((z:Int)+(s:Int)*4294967296)=(z:Int)+(s:Int)*4294967296:=by rw [IntKind.wrap_u64];omega
      have d:∀ a,RowIs a g m N->Calls Tryz.prog 142 #[.slice (some ⟨g,0,none⟩) m c,.int .i64 ((j:Int)+(k:Int)+1)] a fun e M=>e=.returned (.int .u64 (s:Int))/\M=a:=fun a h=>by
       have:=sH g m c N (j+k+1) ((j:Int)+(k:Int)+1) a h hN.out (by show _=_;omega)
       rw [u.out] at this;exact this
      have C:=aa d;clear d;have f:w.heap.size≠g:=by omega
      have A:Hid (rO (t.setCell ⟨w.heap.size,j,none⟩ (.int .u64 ((((z:Int)+(s:Int)*4294967296) / 2^r).tmod 4294967296))).drew w.heap.size (m - k) (N / 2^n) (j+1)):=jG F.out (by rw [<- R.out,<- u.out];exact wI T.out K)
      have B:Hid (Below w.heap.size w (t.setCell ⟨w.heap.size,j,none⟩ (.int .u64 ((((z:Int)+(s:Int)*4294967296) / 2^r).tmod 4294967296))).drew):=(I.out.setCell (Nat.le_refl _) _).drew
      go_region_held3 (fun a=>a.cell? ⟨g,j+k,none⟩=some (.int .u64 (z:Int))/\RowIs a g m N) (first | exact⟨o,Q.out⟩| exact⟨(World.cell?_setCell_far _ _ _ _ f).trans o,CD Q.out f⟩| go_keep) ((go_at_call 142;refine (C.out _ (by first | assumption | exact Q.out)).mono ?_;rintro e a ⟨rfl,rfl⟩))
      go_wp2_with fail
      go_roundw
      case rel=>first | exact⟨j+1,by omega,by go_num,A,B⟩| ((repeat apply Exists.intro);exact⟨⟨j+1,by omega,by go_num,A,B⟩,rfl⟩)
      case measure=>simp [intOf];omega
     ·obtain rfl:j=m - k:=by omega
      have U:=aa (lg F.out);have W:Hid (N / 2^n<2^(32*(m - k))):=by
       show _<_
       rw [Nat.div_lt_iff_lt_mul (Nat.two_pow_pos _),<- Nat.pow_add];refine Nat.lt_of_lt_of_le hN.out (Nat.pow_le_pow_right (by decide) ?_)
       have:=T.out;omega
      have x:=F.out.lt;have J:=aa (nv U.out.row W.out (Nat.le_refl _) x)
      go_wp2_with fail
      refine (dq _ _ _ _ _ U.out.row W.out (Nat.le_refl _) (by omega)).mono ?_
      rintro e a ⟨rfl,rfl⟩
      go_wp2_with fail
      go_ret2
      exact⟨_,ut S.out.symm,J.out,I.out⟩
theorem rQ (v:Value) (N n:Nat) (w:World) (h:DN w v N) (f:nd N<=10000000) :
  Calls Tryz.prog 143 #[v,.int .i64 n] w fun e d=>∃ v,e=.returned (.tuple #[v,.bool (bP N n)])/\DN d v (N / 2^n)/\Below w.heap.size w d:=by
 rcases h with⟨b,p,c,rfl⟩| ⟨b,g,c,rfl,m,l,k⟩
 ·refine (kg p 0 c n w (by omega) (by omega)).mono ?_
  rintro e d ⟨rfl,rfl⟩;exact⟨_,ut (by rw [b];unfold bP;rw [Nat.zero_mod];rfl),Or.inl ⟨by rw [b,Nat.zero_div],none,0,rfl⟩,Below.refl _ _⟩
 ·have j:=dm b
  by_cases i:32*(nd N:Int)<=n
  ·have a:N<2^n:=Nat.lt_of_lt_of_le (cZ N) (Nat.pow_le_pow_right (by decide) (by omega))
   refine (kg _ (nd N) c n w f i).mono ?_
   rintro e d ⟨rfl,rfl⟩;exact⟨_,ut (by unfold bP;rw [Nat.mod_eq_of_lt a];simp [b];omega),Or.inl ⟨Nat.div_eq_of_lt a,none,0,rfl⟩,Below.refl _ _⟩
  ·exact rP g c N (nd N) n (n / 32) (n % 32) w j f (by omega) (by omega) (by omega) k l (cZ N)
theorem fq (v:Value) (N k:Nat) (i:Int) (q:Int) (w:World) (h:DN w v N) (hi:Hid (i=k)) (b:Hid ((dgt N k:Int)=q)) :
  Calls Tryz.prog 142 #[v,.int .i64 i] w fun e a=>e=.returned (.int .u64 q)/\a=w:=by
 rw [hi.out,<- b.out];exact jE v N k w h
theorem Ak (v:Value) (N n:Nat) (i:Int) (w:World) (h:DN w v N) (b:nd N<=10000000) (hn:n<=100000000) (hi:Hid (i=n)) :
  Calls Tryz.prog 97 #[v,.int .i64 i] w fun e a=>∃ v,e=.returned v/\DN a v (N*2^n)/\Below w.heap.size w a:=by
 rw [hi.out];exact nw v N n w h b hn
theorem gY (v:Value) (N n:Nat) (i:Int) (w:World) (h:DN w v N) (b:nd N<=10000000) (hi:Hid (i=n)) :
  Calls Tryz.prog 143 #[v,.int .i64 i] w fun e a=>∃ v,e=.returned (.tuple #[v,.bool (bP N n)])/\DN a v (N / 2^n)/\Below w.heap.size w a:=by
 rw [hi.out];exact rQ v N n w h b
theorem DN.drewN {w:World} {v:Value} {N:Nat} (h:DN w v N) (n:Nat):DN (w.drewN n) v N:=h
theorem Al (v:Value) (N:Nat) (e L:Int) (more:Bool) (w:World) (h:DN w v N) (Q:nd N<=1000000) (R: -10000000<=e) (y:e<=10000000) (l:Hid (L=aL N e)) (c:L<=e) (t:L+1074<=3000) :
  Calls Tryz.prog 140 #[v,.int .i64 e,.bool more,.int .i64 53,.int .i64 (-1074)] w fun x s=>x=.returned (.int .u64 (rnd53 N e more:Int))/\Below w.heap.size w s:=by
 have o:=sE N;have HK:Hid (N*2^(e - L).toNat<9007199254740992):=by rw [l.out] at c ⊢;exact CC c
 have A: -1074<=L:=by rw [l.out];exact us N e
 have r:Hid ((rnd53 N e more:Int)=(L+1074)*4503599627370496+(dgt (N*2^(e - L).toNat) 0:Int)+(dgt (N*2^(e - L).toNat) 1:Int)*4294967296):=by
  show _=_
  have z:=gW (K:=N*2^(e - L).toNat) (by have:=HK.out;omega)
  have D:rnd53 N e more=(L+1074).toNat*4503599627370496+N*2^(e - L).toNat:=by
   unfold rnd53 kv;rw [<- l.out,if_pos c]
  rw [D];generalize N*2^(e - L).toNat=K at *
  omega
 have d:max ((bl N:Int) - 53+e) (-1074)=L:=by rw [l.out];rfl
 have I:=bw (N*2^(e - L).toNat) 0;have p:dgt (N*2^(e - L).toNat) 1<=2097152:=by
  have z:=gW (K:=N*2^(e - L).toNat) (by have:=HK.out;omega)
  have:=HK.out;omega
 rw [r.out];generalize i:dgt (N*2^(e - L).toNat) 0=k at I
 generalize a:dgt (N*2^(e - L).toNat) 1=j at p
 have m:Hid ((dgt (N*2^(e - L).toNat) 0:Int)=k):=by show _=_;rw [i]
 have n:Hid ((dgt (N*2^(e - L).toNat) 1:Int)=j):=by show _=_;rw [a]
 clear i a r;have H:=aa h;clear h;have b:=aa (fun w (h:DN w v N)=>oA v N w h (by omega))
 generalize C:(bl N:Int)=B at d b
 have u:0<=B:=by omega
 have E:B<=32000000:=by omega
 clear C o;have F:IntKind.i64.wrap (L+1074)=L+1074:=by rw [IntKind.wrap_i64];omega
 have M:IntKind.u64.wrap (L+1074)=L+1074:=by rw [IntKind.wrap_u64];omega
 have P:IntKind.u64.wrap ((L+1074)*4503599627370496)=(L+1074)*4503599627370496:=by rw [IntKind.wrap_u64];omega
 have O:IntKind.u64.wrap ((L+1074)*4503599627370496+(k:Int))=(L+1074)*4503599627370496+(k:Int):=by rw [IntKind.wrap_u64];omega
 have J:IntKind.u64.wrap ((j:Int)*4294967296)=(j:Int)*4294967296:=by rw [IntKind.wrap_u64];omega
 have S:IntKind.u64.wrap ((L+1074)*4503599627370496+(k:Int)+(j:Int)*4294967296)=(L+1074)*4503599627370496+(k:Int)+(j:Int)*4294967296:=by rw [IntKind.wrap_u64];omega
 go_enter Tryz.func140,Tryz.ntmps140
 go_wp2_with fail
 refine (Af b _ H.out).mono ?_
 rintro x s ⟨rfl,rfl⟩
 go_wp2_with fail
 refine (Ak v N (e - L).toNat _ _ H.out (by omega) (by omega) (by show _=_;omega)).mono ?_
 rintro x F ⟨q,rfl,a,g⟩;have f:=aa a;have G:=aa g;clear a g
 go_wp2_with fail
 go_quiet ((first | (go_at_call_of 142 (Value.int IntKind.i64 0);exact Calls.quiet_of_same (fq q _ 0 0 _ _ f.out rfl m)) | (go_at_call_of 142 (Value.int IntKind.i64 1);exact Calls.quiet_of_same (fq q _ 1 1 _ _ f.out rfl n))))
 go_wp2_with fail
 go_ret
 exact⟨rfl,below_drewN G.out _⟩
theorem uu (v:Value) (N d:Nat) (e L:Int) (more F lo n:Bool) (w:World) (h:DN w v N) (hb:nd N<=1000000) (he: -10000000<=e) (Z:e<=10000000) (s:Hid (L=aL N e)) (J:e<L) (U:L+1074<=3000) (M:Hid (L - e=d))
  (E:Hid (((dgt (N / 2^(d - 1)) 0:Int) % 2==1)=F)) (u:Hid (bP N (d - 1)=lo)) (l:Hid (((N / 2^d:Nat):Int) % 2=if n then 1 else 0)) :
  Calls Tryz.prog 140 #[v,.int .i64 e,.bool more,.int .i64 53,.int .i64 (-1074)] w fun x m=>x=.returned (.int .u64 ((L+1074)*4503599627370496+(((N / 2^d:Nat):Int)+if F&&(lo||more||n) then 1 else 0)))/\Below w.heap.size w m:=by
 have C:=sE N;have HQ:N / 2^d<9007199254740992:=by
  have:=sF (N:=N) (e:=e) (by rw [<- s.out];exact J)
  rw [<- s.out,show (L - e).toNat=d by have:=M.out;omega] at this;exact this
 have ab: -1074<=L:=by rw [s.out];exact us N e
 have g:max ((bl N:Int) - 53+e) (-1074)=L:=by rw [s.out];rfl
 have r:=gW (K:=N / 2^d) (by omega)
 have S:=bw (N / 2^d) 0;have R:dgt (N / 2^d) 1<=2097152:=by omega
 have bh:=bw (N / 2^(d - 1)) 0;generalize O:N / 2^d=Q at l HQ r
 have z:Hid (N / 2^d=Q):=O;rw [O] at S R
 generalize f:dgt Q 0=I at r S
 generalize k:dgt Q 1=G at r R
 have hh:=E.out;generalize j:dgt (N / 2^(d - 1)) 0=T at bh hh
 have t:Hid ((dgt Q 0:Int)=I):=by show _=_;rw [f]
 have A:Hid ((dgt Q 1:Int)=G):=by show _=_;rw [k]
 have HH:Hid ((dgt (N / 2^(d - 1)) 0:Int)=T):=by show _=_;rw [j]
 clear f k j;have V:(I:Int)+(G:Int)*4294967296=(Q:Int):=by omega
 clear O r;have H:=aa h;clear h;have b:=aa (fun w (h:DN w v N)=>oA v N w h (by omega))
 have Y:=aa (show L - e=(d:Int) from M.out)
 have D:Hid (L - e - 1=((d - 1:Nat):Int)):=by show _=_;have:=M.out;omega
 generalize hB:(bl N:Int)=B at g b
 have W:0<=B:=by omega
 have ac:B<=32000000:=by omega
 clear hB C;have ad:((Q:Int) % 2==1)=n:=by have:=l.out;cases n<;>simp at this ⊢<;>omega
 cases F<;>cases lo<;>cases more<;>cases n
 all_goals
  simp only [Bool.false_and,Bool.true_and,Bool.or_true,Bool.or_false,Bool.false_eq_true,if_true,if_false,Int.add_zero]
  go_enter Tryz.func140,Tryz.ntmps140
  go_wp2_with fail
  refine (Af b _ H.out).mono ?_
  rintro x m ⟨rfl,rfl⟩
  go_wp2_with fail
  refine (gY v N d _ _ H.out (by omega) Y).mono ?_
  rintro x w1 ⟨P,rfl,p,i⟩;have a:=aa p;have q:=aa i;clear p i
  go_wp2_with fail
  refine (gY v N (d - 1) _ _ (H.out.below q.out) (by omega) D).mono ?_
  rw [u.out];rintro x w2 ⟨X,rfl,o,c⟩;have y:=aa o;have a:=aa (a.out.below c);have q:=aa (q.out.trans (c.mono q.out.size));clear o c;rw [z.out] at a
  go_wp2_with fail
  refine (fq P Q 0 0 I _ a.out rfl t).mono ?_
  rintro x m ⟨rfl,rfl⟩
  go_wp2_with fail
  refine (fq P Q 1 1 G _ a.out rfl A).mono ?_
  rintro x m ⟨rfl,rfl⟩
  go_wp2_with fail
  refine (fq X _ 0 0 T _ y.out rfl HH).mono ?_
  rintro x m ⟨rfl,rfl⟩
  go_wp2_with fail
  go_ret
  exact⟨bu (by omega),q.out⟩
theorem GM (N k:Nat):((dgt (N / 2^k) 0:Int) % 2==1)=decide (N / 2^k % 2=1):=by
 unfold dgt;rw [Nat.mul_zero,Nat.pow_zero,Nat.div_one];generalize N / 2^k=z
 by_cases h:z % 2=1
 ·rw [decide_eq_true h];simp;omega
 ·rw [decide_eq_false h];simp;omega
theorem wJ (v:Value) (N:Nat) (e:Int) (more:Bool) (w:World) (h:DN w v N) (f:nd N<=1000000) (g: -10000000<=e) (b:e<=10000000) (a:aL N e+1074<=3000) :
  Calls Tryz.prog 140 #[v,.int .i64 e,.bool more,.int .i64 53,.int .i64 (-1074)] w fun x i=>x=.returned (.int .u64 (rnd53 N e more:Int))/\Below w.heap.size w i:=by
 by_cases d:aL N e<=e
 ·exact Al v N e (aL N e) more w h f g b rfl d a
 ·have l:=us N e;have c:=uu v N (aL N e - e).toNat e (aL N e) more (decide (N / 2^((aL N e - e).toNat - 1) % 2=1)) (bP N ((aL N e - e).toNat - 1)) (decide (N / 2^(aL N e - e).toNat % 2=1)) w h f g b rfl (by omega) a (by show _=_;omega) (GM N _) rfl
   (by show _=_;generalize N / 2^(aL N e - e).toNat=z;by_cases h:z % 2=1<;>simp [h]<;>omega)
  have j:(rnd53 N e more:Int)=(aL N e+1074)*4503599627370496+(((N / 2^(aL N e - e).toNat:Nat):Int)+if decide (N / 2^((aL N e - e).toNat - 1) % 2=1)&&(bP N ((aL N e - e).toNat - 1)||more||decide (N / 2^(aL N e - e).toNat % 2=1)) then 1 else 0):=by
   unfold rnd53 kv nu bP;rw [if_neg d];have k:(((decide (N / 2^((aL N e - e).toNat - 1) % 2=1)&&(decide (N % 2^((aL N e - e).toNat - 1)≠0)||more||decide (N / 2^(aL N e - e).toNat % 2=1)))=true)↔(N / 2^((aL N e - e).toNat - 1) % 2=1/\(N % 2^((aL N e - e).toNat - 1)≠0\/more=true\/N / 2^(aL N e - e).toNat % 2=1))):=by
    simp only [Bool.and_eq_true,Bool.or_eq_true,decide_eq_true_eq,or_assoc]
   simp only [k]
   split<;>omega
  rw [j];exact c
def dU (neg:Bool) (v:Value) (e:Int):Value:=.agg #[.bool neg,v,.int .i64 e]
def cw (neg:Bool) (u:Int):Int:=if neg then min u 9218868437227405312+9223372036854775808 else min u 9218868437227405312
theorem wK (neg:Bool) (u:Int) (w:World) (c:0<=u) (b:u<18446744073709551616) :
  Calls Tryz.prog 139 #[.bool neg,.int .u64 u] w fun e a=>e=.returned (.int .u64 (cw neg u))/\a=w:=by
 unfold cw;cases neg
 ·simp only [Bool.false_eq_true,if_false]
  go_enter Tryz.func139,Tryz.ntmps139
  go_wp2
  go_ret
  exact⟨rfl,rfl⟩
 ·simp only [if_true]
  go_enter Tryz.func139,Tryz.ntmps139
  go_wp2
  go_ret
  exact⟨bu (by omega),rfl⟩
theorem GN (neg:Bool) (v:Value) (e:Int) (N:Nat) (w:World) (h:DN w v N) :
  Calls Tryz.prog 75 #[dU neg v e] w fun x b=>x=.returned (.bool (decide (N=0)))/\Below w.heap.size w b:=by
 unfold dU;rcases h with⟨a,p,c,rfl⟩| ⟨a,g,c,rfl,j,k,d⟩
 ·go_enter Tryz.func75,Tryz.ntmps75
  go_wp2
  go_ret
  exact⟨gk (by simp [a]),(Below.refl _ _).alloc (Nat.le_refl _) _⟩
 ·have f:=dm a;have i:((nd N:Int)==0)=false:=by simp;omega
  clear d
  go_enter Tryz.func75,Tryz.ntmps75
  go_wp2
  go_ret
  exact⟨gk (by simp [a]),(Below.refl _ _).alloc (Nat.le_refl _) _⟩
def jZ (N:Nat) (e:Int):Bool:=decide (1100<(bl N:Int)+e)||decide ((bl N:Int)+e< -1200)
theorem mA (v:Value) (N:Nat) (B:Int) (w:World) (h:DN w v N) (c:nd N<=100000000) (b:Hid ((bl N:Int)=B)) :
  Calls Tryz.prog 95 #[v] w fun e a=>e=.returned (.int .i64 B)/\a=w:=by
 rw [<- b.out];exact oA v N w h c
theorem LJ (neg:Bool) (v:Value) (e:Int) (N:Nat) (w:World) (h:DN w v N) (o:nd N<=1000000) (p: -10000000<=e) (j:e<=10000000) :
  Calls Tryz.prog 138 #[dU neg v e] w fun x k=>x=.returned (.bool (jZ N e))/\Below w.heap.size w k:=by
 unfold dU jZ;have a:=sE N;have d:Hid (∀ n,DN ((w.alloc (.cells #[.bool neg,v,.int .i64 e] 83)).drewN n) v N):=fun n=>h.below (below_drewN ((Below.refl _ _).alloc (Nat.le_refl _) _) n)
 generalize c:(bl N:Int)=B;have g:=aa c;have i:0<=B:=by omega
 have l:B<=32000000:=by omega
 clear c a h;have m:IntKind.i64.wrap (B+e)=B+e:=by rw [IntKind.wrap_i64];omega
 by_cases f:1100<B+e
 ·have b:decide (1100<B+e)=true:=by simpa using f
  rw [b,Bool.true_or]
  go_enter Tryz.func138,Tryz.ntmps138
  go_wp2_with fail
  go_quiet ((go_at_call 95;exact Calls.quiet_of_same (mA v N B _ (d.out _) (by omega) g)))
  go_wp2_with fail
  go_ret
  exact⟨rfl,below_drewN ((Below.refl _ _).alloc (Nat.le_refl _) _) _⟩
 ·have b:decide (1100<B+e)=false:=by simpa using f
  rw [b,Bool.false_or]
  go_enter Tryz.func138,Tryz.ntmps138
  go_wp2_with fail
  go_quiet ((go_at_call 95;exact Calls.quiet_of_same (mA v N B _ (d.out _) (by omega) g)))
  go_wp2_with fail
  go_ret
  exact⟨rfl,below_drewN ((Below.refl _ _).alloc (Nat.le_refl _) _) _⟩
def bJ (neg:Bool) (N:Nat) (e:Int) (more:Bool):Int:=
 if N=0 then 0 else if jZ N e then (if 0<e\/0<(bl N:Int)+e then cw neg 9218868437227405312 else cw neg 0) else cw neg (rnd53 N e more)
theorem wL {W w1:World} (a:Below W.heap.size W w1):(∀ b o,b<W.heap.size->w1.cell? ⟨b,o,none⟩=W.cell? ⟨b,o,none⟩)/\(∀ b o,b<W.heap.size->w1.frozen? ⟨b,o,none⟩=W.frozen? ⟨b,o,none⟩):=
 ⟨fun b o h=>a.cell (p:=⟨b,o,none⟩) h,fun b o h=>a.frozen (p:=⟨b,o,none⟩) h⟩
theorem aZ (neg:Bool) (v:Value) (e:Int) (N:Nat) (z:Bool) (w:World) (h:DN w v N) (b:Hid (decide (N=0)=z)) :
  Calls Tryz.prog 75 #[.agg #[.bool neg,v,.int .i64 e]] w fun x a=>x=.returned (.bool z)/\Below w.heap.size w a:=by
 rw [<- b.out];exact GN neg v e N w h
theorem GO (neg:Bool) (v:Value) (e:Int) (N:Nat) (z:Bool) (w:World) (h:DN w v N) (d:nd N<=1000000) (f: -10000000<=e) (a:e<=10000000) (c:Hid (jZ N e=z)) :
  Calls Tryz.prog 138 #[.agg #[.bool neg,v,.int .i64 e]] w fun x b=>x=.returned (.bool z)/\Below w.heap.size w b:=by
 rw [<- c.out];exact LJ neg v e N w h d f a
theorem rR (neg more:Bool) (v:Value) (e:Int) (w:World) (h:DN w v 0) :
  Calls Tryz.prog 98 #[dU neg v e,.bool more] w fun x b=>x=.returned (.int .u64 0)/\Below w.heap.size w b:=by
 unfold dU;have c:=aa (h.below ((Below.refl w.heap.size w).alloc (Nat.le_refl _) (.cells #[.bool neg,v,.int .i64 e] 83)));clear h
 go_enter Tryz.func98,Tryz.ntmps98
 go_wp2_with fail
 refine (aZ _ _ _ 0 true _ c.out rfl).mono ?_
 rintro x f ⟨rfl,a⟩;have d:=aa a;clear a
 go_wp2_with fail
 go_ret
 exact⟨rfl,((Below.refl _ _).alloc (Nat.le_refl _) _).trans (d.out.mono (by simp))⟩
theorem jH {w w1:World} {neg:Bool} {v:Value} {e:Int} (a:Below (w.alloc (.cells #[.bool neg,v,.int .i64 e] 83)).heap.size (w.alloc (.cells #[.bool neg,v,.int .i64 e] 83)) w1) :
  w1.cell? ⟨w.heap.size,0,none⟩=some (.bool neg)/\w1.cell? ⟨w.heap.size,1,none⟩=some v/\w1.cell? ⟨w.heap.size,2,none⟩=some (.int .i64 e):=by
 refine⟨?_,?_,?_⟩
 ·rw [a.cell (p:=⟨w.heap.size,0,none⟩) (by simp)];simp
 ·rw [a.cell (p:=⟨w.heap.size,1,none⟩) (by simp)];simp
 ·rw [a.cell (p:=⟨w.heap.size,2,none⟩) (by simp)];simp
theorem wM (neg more:Bool) (v:Value) (e:Int) (N:Nat) (w:World) (h:DN w v N) (C:N≠0) (D:nd N<=1000000) (E: -10000000<=e) (k:e<=10000000) (G:Hid (jZ N e=false)) (R:Int) (I:Hid ((rnd53 N e more:Int)=R)) (m:0<=R) (o:R<18446744073709551616) (j:aL N e+1074<=3000) :
  Calls Tryz.prog 98 #[dU neg v e,.bool more] w fun x b=>x=.returned (.int .u64 (cw neg R))/\Below w.heap.size w b:=by
 unfold dU;have g:Hid (Below w.heap.size w (w.alloc (.cells #[.bool neg,v,.int .i64 e] 83))):=(Below.refl w.heap.size w).alloc (Nat.le_refl _) _;have z:=aa (h.below g.out);have J:=aa C;have r:=aa j;clear h C j
 go_enter Tryz.func98,Tryz.ntmps98
 go_wp2_with fail
 refine (aZ _ _ _ N false _ z.out (decide_eq_false J.out)).mono ?_
 rintro x H ⟨rfl,c⟩;have l:=aa c;have y:=aa (z.out.below c);obtain⟨c0,c1,c2⟩:=jH c;clear c
 go_wp2_with fail
 refine (GO _ _ _ N false _ y.out D E k G).mono ?_
 rintro x i ⟨rfl,a⟩;have q:w.heap.size<H.heap.size:=by have:=l.out.size;simp at this;omega
 have F:=aa (y.out.below a);have B:i.cell? ⟨w.heap.size,0,none⟩=some (.bool neg):=(a.cell (p:=⟨w.heap.size,0,none⟩) q).trans c0;have A:i.cell? ⟨w.heap.size,1,none⟩=some v:=(a.cell (p:=⟨w.heap.size,1,none⟩) q).trans c1;have u:i.cell? ⟨w.heap.size,2,none⟩=some (.int .i64 e):=(a.cell (p:=⟨w.heap.size,2,none⟩) q).trans c2;have t:Hid (Below w.heap.size w i):=(g.out.trans (l.out.mono (by simp))).trans (a.mono (by omega))
 have f:w.heap.size<i.heap.size:=by have:=a.size;omega
 have n:Hid (∀ b,DN b v N->Calls Tryz.prog 140 #[v,.int .i64 e,.bool more,.int .i64 53,.int .i64 (-1074)] b fun x s=>x=.returned (.int .u64 R)/\Below b.heap.size b s):=fun b h=>by
  have:=wJ v N e more b h D E k r.out;rw [I.out] at this;exact this
 clear a c0 c1 c2
 go_wp2_with fail
 go_region_held3 (fun b=>b.cell? ⟨w.heap.size,0,none⟩=some (.bool neg)/\b.cell? ⟨w.heap.size,1,none⟩=some v/\b.cell? ⟨w.heap.size,2,none⟩=some (.int .i64 e)) (first | exact⟨B,A,u⟩| exact⟨(d.cell (p:=⟨w.heap.size,0,none⟩) f).trans B,(d.cell (p:=⟨w.heap.size,1,none⟩) f).trans A,(d.cell (p:=⟨w.heap.size,2,none⟩) f).trans u⟩| go_keep) (first | ((go_at_call 140;refine (n.out _ (by exact F.out)).mono ?_;rintro x M ⟨rfl,d⟩)) | ((go_at_call 139;refine (wK _ _ _ m o).mono ?_;rintro x L ⟨rfl,rfl⟩)))
 go_wp2_with fail
 go_ret
 exact⟨rfl,(t.out.drew).trans (d.mono (by have K:w.heap.size<i.drew.heap.size:=f;omega))⟩
theorem uv (neg more:Bool) (v:Value) (e:Int) (N:Nat) (w:World) (h:DN w v N) (y:N≠0) (H:nd N<=1000000) (I: -10000000<=e) (k:e<=10000000) (D:Hid (jZ N e=true)) :
  Calls Tryz.prog 98 #[dU neg v e,.bool more] w fun x E=>x=.returned (.int .u64 (if 0<e\/0<(bl N:Int)+e then cw neg 9218868437227405312 else cw neg 0))/\Below w.heap.size w E:=by
 unfold dU;have c:Hid (Below w.heap.size w (w.alloc (.cells #[.bool neg,v,.int .i64 e] 83))):=(Below.refl w.heap.size w).alloc (Nat.le_refl _) _;have s:=aa (h.below c.out);have J:=aa y;have l:=sE N;clear h y;generalize t:(bl N:Int)=B;have G:=aa t;have A:0<=B:=by omega
 have F:B<=32000000:=by omega
 clear t l;have u:IntKind.i64.wrap (B+e)=B+e:=by rw [IntKind.wrap_i64];omega
 have d:(0<e/\decide (0<e)=true)\/(decide (0<e)=false/\0<B+e/\¬ 0<e)\/(decide (0<e)=false/\¬ 0<B+e/\¬ 0<e):=by
  by_cases f:0<e
  ·exact Or.inl ⟨f,by simpa using f⟩
  ·by_cases q:0<B+e
   ·exact Or.inr (Or.inl ⟨by simpa using f,q,f⟩)
   ·exact Or.inr (Or.inr ⟨by simpa using f,q,f⟩)
 rcases d with⟨n,j⟩| ⟨n,j,z⟩| ⟨n,j,z⟩
 all_goals first | rw [if_pos (Or.inl n)] | rw [if_pos (Or.inr j)] | rw [if_neg (fun h=>h.elim z j)]
 all_goals
  go_enter Tryz.func98,Tryz.ntmps98
  go_wp2_with fail
  refine (aZ _ _ _ N false _ s.out (decide_eq_false J.out)).mono ?_
  rintro x u ⟨rfl,b⟩;have g:=aa b;have r:=aa (s.out.below b);obtain⟨c0,c1,c2⟩:=jH b;clear b
  go_wp2_with fail
  refine (GO _ _ _ N true _ r.out H I k D).mono ?_
  rintro x i ⟨rfl,a⟩;have m:w.heap.size<u.heap.size:=by have:=g.out.size;simp at this;omega
  have C:=aa (r.out.below a);have O:i.cell? ⟨w.heap.size,0,none⟩=some (.bool neg):=(a.cell (p:=⟨w.heap.size,0,none⟩) m).trans c0;have M:i.cell? ⟨w.heap.size,1,none⟩=some v:=(a.cell (p:=⟨w.heap.size,1,none⟩) m).trans c1;have K:i.cell? ⟨w.heap.size,2,none⟩=some (.int .i64 e):=(a.cell (p:=⟨w.heap.size,2,none⟩) m).trans c2;have o:Hid (Below w.heap.size w i):=(c.out.trans (g.out.mono (by simp))).trans (a.mono (by omega))
  clear a c0 c1 c2
  go_wp2_with fail
  go_quiet ((go_at_call 95;exact Calls.quiet_of_same (mA v N B _ C.out (by omega) G)))
  go_wp2_with (go_at_call 139;refine (wK _ _ _ (by omega) (by omega)).mono ?_;rintro x L ⟨rfl,rfl⟩)
  go_ret
  exact⟨rfl,below_drewN o.out _⟩
theorem wN {N:Nat} {e:Int} (h:jZ N e=false):aL N e+1074<=3000:=by
 unfold jZ at h
 rw [Bool.or_eq_false_iff] at h
 have a:=of_decide_eq_false h.1;unfold aL;omega
theorem Oo {N:Nat} {e:Int} {more:Bool} (h:jZ N e=false):rnd53 N e more<18446744073709551616:=by
 have a:=wN h;have c:=LE N e more;have b:=us N e;unfold rnd53;omega
theorem lh (neg more:Bool) (v:Value) (e:Int) (N:Nat) (w:World) (h:DN w v N) (d:nd N<=1000000) (f: -10000000<=e) (a:e<=10000000) :
  Calls Tryz.prog 98 #[dU neg v e,.bool more] w fun x g=>x=.returned (.int .u64 (bJ neg N e more))/\Below w.heap.size w g:=by
 unfold bJ
 by_cases c:N=0
 ·subst c;rw [if_pos rfl];exact rR neg more v e w h
 ·rw [if_neg c];cases b:jZ N e
  ·simp only [Bool.false_eq_true,if_false];have i:=Oo (more:=more) b;exact wM neg more v e N w h c d f a b _ rfl (Int.natCast_nonneg _) (by omega) (wN b)
  ·simp only [if_true];exact uv neg more v e N w h c d f a b
theorem GP (neg:Bool) (v:Value) (e:Int) (N:Nat) (w:World) (h:DN w v N) (i:nd N<=1000000) (j: -10000000<=e) (c:e<=10000000) :
  Calls Tryz.prog 77 #[dU neg v e] w fun x g=>x=.returned (.int .u64 (bJ neg N e false))/\Below w.heap.size w g:=by
 have a:Hid (Below w.heap.size w (w.alloc (.cells #[.bool neg,v,.int .i64 e] 83))):=(Below.refl w.heap.size w).alloc (Nat.le_refl _) _;have f:=aa (lh neg false v e N _ (h.below a.out) i j c);unfold dU at f ⊢
 clear h
 go_enter Tryz.func77,Tryz.ntmps77
 go_wp2_with fail
 refine f.out.mono ?_
 rintro x k ⟨rfl,b⟩;have d:=aa b;clear b
 go_wp2_with fail
 go_ret
 exact⟨rfl,a.out.trans (d.out.mono (by simp))⟩
theorem pg {N:Nat} {e:Int} (c:N≠0) (h:(bl N:Int)+e< -1200):nearR N e=0:=by
 have f:=eA c;have a:an N e= -1074:=by unfold an;omega
 unfold nearR;rw [a,show (e - -1074).toNat=0 by omega,Nat.pow_zero,Nat.mul_one,gq]
 ·rfl
 ·have d:=GI N;have b:(2:Nat)^(bl N+1)<=2^(-1074 - e).toNat:=Nat.pow_le_pow_right (by decide) (by omega)
  rw [Nat.pow_succ] at b;omega
theorem fw (neg:Bool) {N:Nat} (e:Int) (b:N≠0):bJ neg N e false=(if neg then 9223372036854775808 else 0)+(nearR N e:Int):=by
 have f:=eA b;unfold bJ;rw [if_neg b];have c:(if jZ N e=true then if 0<e\/0<(bl N:Int)+e then cw neg 9218868437227405312 else cw neg 0 else cw neg (rnd53 N e false))=cw neg (nearR N e):=by
  cases a:jZ N e
  ·simp only [Bool.false_eq_true,if_false];rw [<- GK e b];unfold cw;cases neg<;>simp only [Bool.false_eq_true,if_true,if_false]<;>omega
  ·simp only [if_true];unfold jZ at a
   rw [Bool.or_eq_true,decide_eq_true_eq,decide_eq_true_eq] at a
   rcases a with a | a
   ·rw [if_pos (Or.inr (by omega)),jC b (by omega)];rfl
   ·rw [if_neg (by omega),pg b a];rfl
 rw [c];have d:nearR N e<=9218868437227405312:=Nat.min_le_right _ _;unfold cw;cases neg<;>simp only [Bool.false_eq_true,if_true,if_false]<;>omega
theorem DN.shape {w:World} {v:Value} {N:Nat} (h:DN w v N):∃ p l c,v=.slice p l c:=by
 rcases h with⟨_,p,c,rfl⟩| ⟨_,g,c,rfl,_⟩
 ·exact⟨p,0,c,rfl⟩
 ·exact⟨_,_,_,rfl⟩
theorem DS (n:Int) (w:World) (r:0<=n) (t:n<=9223372036854775807) :
  Calls Tryz.prog 62 #[.int .i64 n] w fun x h=>∃ v,x=.returned (dU false v 0)/\DN h v n.toNat/\Below w.heap.size w h:=by
 have i:Hid (n=(n.toNat:Int)):=by show _=_;omega
 unfold dU
 go_enter Tryz.func62,Tryz.ntmps62
 go_wp2_with fail
 refine (jD n n.toNat _ i (by omega)).mono ?_
 rintro x k ⟨q,rfl,f,e,d⟩;obtain⟨p,l,c,rfl⟩:=f.shape;have m:=aa d;obtain⟨j,s⟩:=wL d;have o:w.heap.size<k.heap.size:=by have:=d.size;simp at this;omega
 have g:=fun a b c=>((f.set e (a:=⟨w.heap.size,0,none⟩) (by simp) a).set e (a:=⟨w.heap.size,1,none⟩) (by simp) b).set e (a:=⟨w.heap.size,2,none⟩) (by simp) c
 have g:=aa g;clear f d e
 go_wp2_with fail
 refine bodyPost_ret (v:=.agg #[.bool false,.slice p l c,.int .i64 0]) (by simp [results,Tryz.results62,go_sem,j]) rfl ⟨_,rfl,g.out _ _ _,?_⟩
 exact ((((Below.refl w.heap.size w).alloc (Nat.le_refl _) _).trans (m.out.mono (by simp))).setCell (Nat.le_refl _) _).setCell (Nat.le_refl _) _ |>.setCell (Nat.le_refl _) _
theorem DT (n:Int) (w:World) (r:n<0) (t: -9223372036854775808<=n) :
  Calls Tryz.prog 62 #[.int .i64 n] w fun x h=>∃ v,x=.returned (dU true v 0)/\DN h v n.natAbs/\Below w.heap.size w h:=by
 have i:Hid (-(n+1)+1=(n.natAbs:Int)):=by show _=_;omega
 unfold dU
 go_enter Tryz.func62,Tryz.ntmps62
 go_wp2_with fail
 refine (jD _ n.natAbs _ i (by omega)).mono ?_
 rintro x k ⟨q,rfl,f,e,d⟩;obtain⟨p,l,c,rfl⟩:=f.shape;have m:=aa d;obtain⟨j,s⟩:=wL d;have o:w.heap.size<k.heap.size:=by have:=d.size;simp at this;omega
 have g:=fun a b c=>((f.set e (a:=⟨w.heap.size,0,none⟩) (by simp) a).set e (a:=⟨w.heap.size,1,none⟩) (by simp) b).set e (a:=⟨w.heap.size,2,none⟩) (by simp) c
 have g:=aa g;clear f d e
 go_wp2_with fail
 refine bodyPost_ret (v:=.agg #[.bool true,.slice p l c,.int .i64 0]) (by simp [results,Tryz.results62,go_sem,j]) rfl ⟨_,rfl,g.out _ _ _,?_⟩
 exact ((((Below.refl w.heap.size w).alloc (Nat.le_refl _) _).trans (m.out.mono (by simp))).setCell (Nat.le_refl _) _).setCell (Nat.le_refl _) _ |>.setCell (Nat.le_refl _) _
theorem jI (n:Int) (w:World) (c: -9223372036854775808<=n) (b:n<=9223372036854775807) :
  Calls Tryz.prog 62 #[.int .i64 n] w fun x a=>∃ v,x=.returned (dU (decide (n<0)) v 0)/\DN a v n.natAbs/\Below w.heap.size w a:=by
 by_cases h:n<0
 ·rw [decide_eq_true h];exact DT n w h c
 ·rw [decide_eq_false h,show n.natAbs=n.toNat by omega];exact DS n w (by omega) b
theorem gv (neg:Bool) (v:Value) (e:Int) (N:Nat) (w:World) (h:DN w v N) (c:nd N<=1000000) (d: -10000000<=e) (a:e<=10000000) :
  Calls Tryz.prog 77 #[.agg #[.bool neg,v,.int .i64 e]] w fun x b=>x=.returned (.int .u64 (bJ neg N e false))/\Below w.heap.size w b:=GP neg v e N w h c d a
theorem bZ (u:Int) (w:World) (h:U64 u) :
  Calls Tryz.prog 41 #[.int .u64 u] w fun e a=>e=.returned (.bool (az u))/\a=w:=by
 have b:=dD h
 go_enter Tryz.func41,Tryz.ntmps41
 go_wp2
 go_ret
 exact⟨rfl,rfl⟩
theorem ph {u:Int} (h:U64 u):bits .and .u64 u 4503599627370495=szI u % 4503599627370496:=by
 rw [pe h.1 h.2];unfold szI;omega
theorem pj {z:Int} (a:0<=z) (h:z<18446744073709551616):bits .and .u64 z 2047=z % 2048:=by
 obtain⟨b,rfl⟩:=Int.eq_ofNat_of_zero_le a;have:=bits_and_u64_nat b 2047 (by omega) (by decide)
 rw [show ((2047:Nat):Int)=2047 from rfl] at this
 rw [this];have e:=Nat.and_two_pow_sub_one_eq_mod b 11;rw [show (2:Nat)^11 - 1=2047 from rfl,show (2:Nat)^11=2048 from rfl] at e
 rw [e];omega
theorem Oq (u:Int) (w:World) (h:U64 u) (s:0<szI u) (m:szI u<4503599627370496) :
  Calls Tryz.prog 74 #[.int .u64 u] w fun x o=>∃ v,x=.returned (dU (sgB u) v (-1074))/\DN o v (szI u).toNat/\Below w.heap.size w o:=by
 have r:bits .and .u64 u 4503599627370495=szI u:=by rw [ph h];omega
 have D:bits .and .u64 (u / 4503599627370496) 2047=0:=by
  have:=h.1;have:=h.2;rw [pj (by omega) (by omega)];unfold szI at m;omega
 have k:(szI u==0)=false:=by simp;omega
 have n:Hid (szI u=((szI u).toNat:Int)):=by show _=_;omega
 have i:decide (9223372036854775808<=u)=sgB u:=rfl;have g:(szI u).toNat<18446744073709551616:=by omega
 generalize szI u=z at s m r k n g
 generalize sgB u=sg at i
 unfold dU
 go_enter Tryz.func74,Tryz.ntmps74
 go_wp2_with fail
 refine (jD z z.toNat _ n g).mono ?_
 rintro x t ⟨B,rfl,f,e,d⟩;obtain⟨p,l,c,rfl⟩:=f.shape;have y:=aa d;obtain⟨q,C⟩:=wL d;have A:w.heap.size<t.heap.size:=by have:=d.size;simp at this;omega
 have j:=fun a b c=>((f.set e (a:=⟨w.heap.size,0,none⟩) (by simp) a).set e (a:=⟨w.heap.size,1,none⟩) (by simp) b).set e (a:=⟨w.heap.size,2,none⟩) (by simp) c
 have j:=aa j;clear f d e
 go_wp2_with fail
 refine bodyPost_ret (v:=.agg #[.bool sg,.slice p l c,.int .i64 (-1074)]) (by simp [results,Tryz.results74,go_sem,q]) rfl ⟨_,rfl,j.out _ _ _,?_⟩
 exact ((((Below.refl w.heap.size w).alloc (Nat.le_refl _) _).trans (y.out.mono (by simp))).setCell (Nat.le_refl _) _).setCell (Nat.le_refl _) _ |>.setCell (Nat.le_refl _) _
theorem DU (u:Int) (w:World) (h:U64 u) (A:4503599627370496<=szI u) (o:szI u<9218868437227405312) :
  Calls Tryz.prog 74 #[.int .u64 u] w fun x r=>∃ v,x=.returned (dU (sgB u) v (szI u / 4503599627370496 - 1075))/\DN r v (4503599627370496+szI u % 4503599627370496).toNat/\Below w.heap.size w r:=by
 have y:bits .and .u64 u 4503599627370495=szI u % 4503599627370496:=ph h;have C:bits .and .u64 (u / 4503599627370496) 2047=szI u / 4503599627370496:=by
  have:=h.1;have:=h.2;rw [pj (by omega) (by omega)];unfold szI at o ⊢;omega
 have g:0<szI u / 4503599627370496:=by omega
 have j:szI u / 4503599627370496<2047:=by omega
 have m:0<=szI u % 4503599627370496:=by omega
 have n:szI u % 4503599627370496<4503599627370496:=by omega
 have i:decide (9223372036854775808<=u)=sgB u:=rfl;clear A o;generalize szI u % 4503599627370496=z at y m n
 generalize szI u / 4503599627370496=q at C g j
 generalize sgB u=sg at i
 have s:Hid (z+4503599627370496=((4503599627370496+z).toNat:Int)):=by show _=_;omega
 have E:(z+4503599627370496==0)=false:=by simp;omega
 unfold dU
 go_enter Tryz.func74,Tryz.ntmps74
 go_wp2_with fail
 refine (jD _ (4503599627370496+z).toNat _ s (by omega)).mono ?_
 rintro x B ⟨G,rfl,f,e,d⟩;obtain⟨p,l,c,rfl⟩:=f.shape;have D:=aa d;obtain⟨t,H⟩:=wL d;have F:w.heap.size<B.heap.size:=by have:=d.size;simp at this;omega
 have k:=fun a b c=>((f.set e (a:=⟨w.heap.size,0,none⟩) (by simp) a).set e (a:=⟨w.heap.size,1,none⟩) (by simp) b).set e (a:=⟨w.heap.size,2,none⟩) (by simp) c
 have k:=aa k;clear f d e
 go_wp2_with fail
 refine bodyPost_ret (v:=.agg #[.bool sg,.slice p l c,.int .i64 (q - 1075)]) (by simp [results,Tryz.results74,go_sem,t]) rfl ⟨_,rfl,k.out _ _ _,?_⟩
 exact ((((Below.refl w.heap.size w).alloc (Nat.le_refl _) _).trans (D.out.mono (by simp))).setCell (Nat.le_refl _) _).setCell (Nat.le_refl _) _ |>.setCell (Nat.le_refl _) _
theorem Ot (u:Int) (w:World) (h:U64 u) (c:0<szI u) (d:szI u<9218868437227405312) :
  Calls Tryz.prog 74 #[.int .u64 u] w fun x b=>∃ v,x=.returned (dU (sgB u) v (kw (szI u)))/\DN b v (fZ (szI u)).toNat/\Below w.heap.size w b:=by
 unfold kw fZ
 by_cases a:szI u<4503599627370496
 ·rw [if_pos a,if_pos a];exact Oq u w h c a
 ·rw [if_neg a,if_neg a];exact DU u w h (by omega) d
theorem DN.form {w:World} {v:Value} {N:Nat} (h:DN w v N):∃ p c,v=.slice p (nd N) c:=by
 rcases h with⟨a,p,c,rfl⟩| ⟨a,g,c,rfl,_⟩
 ·exact⟨p,c,by rw [a];rfl⟩
 ·exact⟨_,_,rfl⟩
theorem pk (p q:Option Addr) (c d m n L A B:Nat) (w:World) (U:Hid (DN w (.slice p m c) A)) (I:Hid (DN w (.slice q n d) B)) (W:max (m:Int) (n:Int)=(L:Int)) (X:m<=10000000) (hn:n<=10000000) (u:Hid (A<2^(32*m))) (y:Hid (B<2^(32*n))) :
  Calls Tryz.prog 114 #[.slice p m c,.slice q n d] w fun e j=>∃ v,e=.returned v/\DN j v (A+B)/\From w.heap.size v/\Below w.heap.size w j:=by
 have N:m<=L:=by omega
 have V:n<=L:=by omega
 have R:L<=10000000:=by omega
 have g:=fun w=>run_make_row' (P:=Tryz.prog) 33 41 (.int .u64 0) 8 Tryz.underlying33 dT rfl .i64 .i64 (L+1) (by omega) (by omega) w
 have E:((L+1:Nat):Int)=(L:Int)+1:=by omega
 rw [E] at g
 clear E;have F:=aa (jF w (L+1) (A+B))
 go_enter Tryz.func114,Tryz.ntmps114
 go_wp2_with fail
 go_loopw [7,8] (fun s i o=>∃ k c:Nat,k<=L+1/\c<=1/\i=.int .i64 k/\s=.int .u64 c/\Hid (c=cry A B k)/\Hid (rO o w.heap.size (L+1) (A+B) k)/\Hid (Below w.heap.size w o)) (fun _ i _=>L+1 - (intOf i).toNat)
 case atStart=>exact⟨0,0,Nat.zero_le _,Nat.zero_le _,rfl,rfl,(wO A B).symm,F,(Below.refl _ _).alloc (Nat.le_refl _) _⟩
 case round=>
  clear F g;obtain⟨k,x,hk,hx,rfl,rfl,S,r,t⟩:=hrel
  by_cases M:k<L+1
  ·have C:=aa (jE _ A k o (U.out.below t.out));have z:=aa (jE _ B k o (I.out.below t.out));have O:=bw A k;have Q:=bw B k;have Y:=r.out.cell (i:=k) (by omega)
   have Z:=r.out.frozen k;have l:=aa fun a b (J:a=dgt A k) (T:b=dgt B k)=>DW (s:=a+b+x) J T S.out rfl
   generalize G:dgt A k=a at C O
   generalize H:dgt B k=b at z Q
   have l:=aa (l.out a b G.symm H.symm);clear G H
   go_wp2_with fail
   refine C.out.mono ?_
   rintro e j ⟨rfl,rfl⟩
   go_wp2_with fail
   refine z.out.mono ?_
   rintro e j ⟨rfl,rfl⟩
   go_wp2_with fail
   go_roundw
   case rel=>exact⟨k+1,(a+b+x) / 4294967296,by omega,by omega,by go_num,by go_num,l.out.2,jG r.out (by rw [<- l.out.1];omega),t.out.setCell (Nat.le_refl _) _⟩
   case measure=>simp [intOf];omega
  ·obtain rfl:k=L+1:=by omega
   have f:=aa (lg r.out);have D:Hid (A+B<2^(32*(L+1))):=sum_lt u.out y.out (by omega) (by omega)
   have h:=f.out.lt;have K:=aa (nv f.out.row D.out (Nat.le_refl _) h)
   go_wp2_with fail
   refine (dq _ _ _ _ _ f.out.row D.out (Nat.le_refl _) (by omega)).mono ?_
   rintro e j ⟨rfl,rfl⟩
   go_wp2_with fail
   go_ret
   exact⟨_,rfl,K.out,gX _ _ _ _ (Nat.le_refl _),t.out⟩
theorem ki (u v:Value) (A B:Nat) (w:World) (f:DN w u A) (b:DN w v B) (g:nd A<=10000000) (h:nd B<=10000000) :
  Calls Tryz.prog 114 #[u,v] w fun e a=>∃ v,e=.returned v/\DN a v (A+B)/\From w.heap.size v/\Below w.heap.size w a:=by
 obtain⟨p,c,rfl⟩:=f.form;obtain⟨q,d,rfl⟩:=b.form;exact pk p q c d (nd A) (nd B) (max (nd A) (nd B)) A B w f b (by omega) g h (cZ A) (cZ B)
theorem rU (p:Option Addr) (c:Nat) (v:Value) (w:World) :
  Calls Tryz.prog 116 #[.slice p 0 c,v] w fun e a=>∃ v,e=.returned v/\DN a v 0/\From w.heap.size v/\Below w.heap.size w a:=by
 have b:=fun w=>run_make_row' (P:=Tryz.prog) 33 41 (.int .u64 0) 8 Tryz.underlying33 dT rfl .i64 .i64 0 (by omega) (by omega) w
 rw [show ((0:Nat):Int)=0 from rfl] at b
 go_enter Tryz.func116,Tryz.ntmps116
 go_wp2_with fail
 go_loopw [6,7] (fun s i d=>i=.int .i64 0/\s=.int .u64 0/\Hid (Below w.heap.size w d)) (fun _ _ _=>0)
 case atStart=>exact⟨rfl,rfl,(Below.refl _ _).alloc (Nat.le_refl _) _⟩
 case round=>
  obtain⟨rfl,rfl,f⟩:=hrel
  go_wp2_with fail
  refine (dq w.heap.size 0 0 0 _ (fun i hi=>absurd hi (by omega)) (by decide) (Nat.le_refl _) (by omega)).mono ?_
  rintro e a ⟨rfl,rfl⟩
  go_wp2_with fail
  go_ret
  exact⟨_,rfl,Or.inl ⟨rfl,_,_,rfl⟩,gX _ _ _ _ (Nat.le_refl _),f.out⟩
theorem rV (g:Nat) (v:Value) (c m B D:Nat) (w:World) (n:Hid (RowIs w g m (B+D))) (I:g<w.heap.size) (G:Hid (DN w v B)) (R:m<=10000000) (u:Hid (B+D<2^(32*m))) :
  Calls Tryz.prog 116 #[.slice (some ⟨g,0,none⟩) m c,v] w fun e y=>∃ v,e=.returned v/\DN y v D/\From w.heap.size v/\Below w.heap.size w y:=by
 have t:=fun w=>run_make_row' (P:=Tryz.prog) 33 41 (.int .u64 0) 8 Tryz.underlying33 dT rfl .i64 .i64 m (by omega) (by omega) w
 have E:=aa (jF w m D)
 go_enter Tryz.func116,Tryz.ntmps116
 go_wp2_with fail
 go_loopw [6,7] (fun s i l=>∃ k c:Nat,k<=m/\c<=1/\i=.int .i64 k/\s=.int .u64 c/\Hid (c=cry B D k)/\Hid (rO l w.heap.size m D k)/\Hid (Below w.heap.size w l)) (fun _ i _=>m - (intOf i).toNat)
 case atStart=>exact⟨0,0,Nat.zero_le _,Nat.zero_le _,rfl,rfl,(wO B D).symm,E,(Below.refl _ _).alloc (Nat.le_refl _) _⟩
 case round=>
  clear E t;obtain⟨k,x,V,W,rfl,rfl,O,o,r⟩:=hrel
  by_cases z:k<m
  ·have F:l.cell? ⟨g,k,none⟩=some (.int .u64 (dgt (B+D) k:Int)):=(r.out.cell (p:=⟨g,k,none⟩) I).trans (n.out k z);have A:=aa fun q=>jE _ B k (l.drewN q) (G.out.below (below_drewN r.out q))
   have L:=bw (B+D) k;have N:=bw B k;have S:=o.out.cell (i:=k) (by omega)
   have U:=o.out.frozen k;have d:=aa (DX (k:=k) rfl rfl O.out);generalize dgt (B+D) k=a at F L d
   generalize dgt B k=b at A N d
   have H:=d.out.1;have h:=d.out.2.2.1;have T:IntKind.u64.wrap ((a:Int)+4294967296)=(a:Int)+4294967296:=by rw [IntKind.wrap_u64];omega
   have Q:IntKind.u64.wrap ((a:Int)+4294967296 - (b:Int))=(a:Int)+4294967296 - (b:Int):=by rw [IntKind.wrap_u64];omega
   have K:IntKind.u64.wrap ((a:Int)+4294967296 - (b:Int) - (x:Int))=((a+4294967296 - b - x:Nat):Int):=by rw [IntKind.wrap_u64];omega
   have M:a+4294967296 - b - x<8589934592:=by omega
   generalize a+4294967296 - b - x=s at K d h M
   go_wp2_with fail
   go_quiet ((go_at_call 142;exact Calls.quiet_of_same (A.out _)))
   go_wp2_with fail
   go_roundw
   case rel=>exact⟨k+1,1 - s / 4294967296,by omega,by omega,by go_num,by go_num,d.out.2.2.2,jG (w:=l.drewN nq) o.out (by rw [<- d.out.2.1];omega),(below_drewN r.out _).setCell (Nat.le_refl _) _⟩
   case measure=>simp [intOf];omega
  ·obtain rfl:k=m:=by omega
   have f:=aa (lg o.out);have C:Hid (D<2^(32*k)):=by show _<_;have:=u.out;omega
   have j:=f.out.lt;have J:=aa (nv f.out.row C.out (Nat.le_refl _) j)
   go_wp2_with fail
   refine (dq _ _ _ _ _ f.out.row C.out (Nat.le_refl _) (by omega)).mono ?_
   rintro e y ⟨rfl,rfl⟩
   go_wp2_with fail
   go_ret
   exact⟨_,rfl,J.out,gX _ _ _ _ (Nat.le_refl _),r.out⟩
theorem dQ (u v:Value) (A B:Nat) (w:World) (k:DN w u A) (b:DN w v B) (i:nd A<=10000000) (d:B<=A) :
  Calls Tryz.prog 116 #[u,v] w fun e a=>∃ v,e=.returned v/\DN a v (A - B)/\From w.heap.size v/\Below w.heap.size w a:=by
 obtain⟨D,rfl⟩:∃ D,A=B+D:=⟨A - B,by omega⟩
 rw [Nat.add_sub_cancel_left];rcases k with⟨h,p,c,rfl⟩| ⟨h,g,c,rfl,l,f,j⟩
 ·rw [show D=0 by omega];exact rU p c v w
 ·exact rV g v c (nd (B+D)) B D w j f b i (cZ _)
theorem rW (p q:Option Addr) (m n c d A B:Nat) (w:World) (f:Hid (nd A=m)) (b:Hid (nd B=n)) (a:m≠n) :
  Calls Tryz.prog 115 #[.slice p m c,.slice q n d] w fun e g=>e=.returned (.int .i64 (mB A B))/\∃ q,g=w.drewN q:=by
 rcases Nat.lt_or_gt_of_ne a with h | h
 ·have e:mB A B= -1:=li (wQ (by rw [f.out,b.out];exact h))
  rw [e]
  go_enter Tryz.func115,Tryz.ntmps115
  go_wp2
  go_ret
  exact⟨rfl,0,rfl⟩
 ·have e:mB A B=1:=lk (wQ (by rw [f.out,b.out];exact h))
  rw [e]
  go_enter Tryz.func115,Tryz.ntmps115
  go_wp2
  go_ret
  exact⟨rfl,0,rfl⟩
theorem wR {A n:Nat} (h:A<2^(32*n)):A / 2^(32*n)=0:=Nat.div_eq_of_lt h
theorem rX (g f n c d A B:Nat) (w:World) (t:Hid (RowIs w g n A)) (v:Hid (RowIs w f n B)) (F:Hid (A<2^(32*n))) (C:Hid (B<2^(32*n))) (hn:n<=10000000) :
  Calls Tryz.prog 115 #[.slice (some ⟨g,0,none⟩) n c,.slice (some ⟨f,0,none⟩) n d] w fun e D=>e=.returned (.int .i64 (mB A B))/\∃ q,D=w.drewN q:=by
 go_enter Tryz.func115,Tryz.ntmps115
 go_wp2_with fail
 go_loopw [5] (fun i u=>∃ k:Nat,k<=n/\i=.int .i64 ((k:Int) - 1)/\Hid (A / 2^(32*k)=B / 2^(32*k))/\Hid (∃ q,u=w.drewN q)) (fun i _=>(intOf i+1).toNat)
 case atStart=>exact⟨n,Nat.le_refl _,rfl,by show _=_;rw [wR F.out,wR C.out],0,rfl⟩
 case round=>
  obtain⟨k,G,rfl,r,p⟩:=hrel;cases k with
  | zero=>
   have e:mB A B=0:=lj (by have:=r.out;rw [Nat.mul_zero,Nat.pow_zero,Nat.div_one,Nat.div_one] at this;exact this)
   have E:=aa e.symm;clear e
   go_wp2_with fail
   go_ret
   exact⟨bu E.out,p.out⟩
  | succ j=>
   have y:((j+1:Nat):Int) - 1=(j:Int):=by omega
   rw [y];have s:u.cell? ⟨g,j,none⟩=some (.int .u64 (dgt A j:Int)):=by obtain⟨q,rfl⟩:=p.out;exact t.out j (by omega)
   have x:u.cell? ⟨f,j,none⟩=some (.int .u64 (dgt B j:Int)):=by obtain⟨q,rfl⟩:=p.out;exact v.out j (by omega)
   clear y;have m:=aa fun h=>li (sJ r.out h)
   have l:=aa fun h=>lk (sJ r.out.symm h)
   have o:=aa fun h=>DY r.out h
   generalize dgt A j=a at s m l o
   generalize dgt B j=b at x m l o
   clear r;rcases Nat.lt_trichotomy a b with h | h | h
   ·have e:=m.out h;have E:=aa e.symm;clear e m l o
    go_wp2_with fail
    go_quiet (fail)
    go_wp2_with fail
    go_ret
    refine⟨bu E.out,?_⟩
    obtain⟨q,rfl⟩:=p.out;exact⟨_,World.drewN_drewN _ _ _⟩
   ·have z:=aa (o.out h);clear m l o;subst h
    go_wp2_with fail
    go_quiet (fail)
    go_wp2_with fail
    go_quiet (fail)
    go_wp2_with fail
    go_roundw
    case rel=>
     refine⟨j,by omega,by go_num,z,?_⟩
     obtain⟨q,rfl⟩:=p.out;exact⟨_,by first | exact World.drewN_drewN _ _ _ | rw [World.drewN_drewN,World.drewN_drewN]⟩
    case measure=>simp [intOf]
   ·have e:=l.out h;have E:=aa e.symm;clear e m l o
    go_wp2_with fail
    go_quiet (fail)
    go_wp2_with fail
    go_quiet (fail)
    go_wp2_with fail
    go_ret
    refine⟨bu E.out,?_⟩
    obtain⟨q,rfl⟩:=p.out;exact⟨_,by first | exact World.drewN_drewN _ _ _ | rw [World.drewN_drewN,World.drewN_drewN]⟩
theorem rY (p q:Option Addr) (c d:Nat) (w:World) :
  Calls Tryz.prog 115 #[.slice p 0 c,.slice q 0 d] w fun e a=>e=.returned (.int .i64 0)/\∃ q,a=w.drewN q:=by
 go_enter Tryz.func115,Tryz.ntmps115
 go_wp2_with fail
 go_loop [5] (fun i=>i=.int .i64 (-1)) (fun _=>0)
 case atStart=>rfl
 case round=>
  subst hrel
  go_wp2_with fail
  go_ret
  exact⟨rfl,0,rfl⟩
theorem cL (u v:Value) (A B:Nat) (w:World) (k:DN w u A) (i:DN w v B) (m:nd A<=10000000) :
  Calls Tryz.prog 115 #[u,v] w fun e n=>e=.returned (.int .i64 (mB A B))/\∃ q,n=w.drewN q:=by
 by_cases a:nd A=nd B
 ·rcases k with⟨h,p,c,rfl⟩| ⟨h,g,c,rfl,t,x,s⟩
  ·rcases i with⟨b,q,d,rfl⟩| ⟨b,f,d,rfl,r,o,j⟩
   ·rw [lj (h.trans b.symm)];exact rY p q c d w
   ·exfalso;have l:=dm b;rw [h,ur] at a;omega
  ·rcases i with⟨b,q,d,rfl⟩| ⟨b,f,d,rfl,r,o,j⟩
   ·exfalso;have l:=dm h;rw [b,ur] at a;omega
   ·rw [<- a] at j ⊢
    exact rX g f (nd A) c d A B w s j (cZ A) (by show _<_;rw [a];exact cZ B) m
 ·obtain⟨p,c,rfl⟩:=k.form;obtain⟨q,d,rfl⟩:=i.form;exact rW p q _ _ c d A B w rfl rfl a
end Go.Proofs.YtfdddijdjpijbaaGreat
