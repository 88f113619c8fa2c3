/-  -/
import Derived.Test.YtfdddijdjpijbaaGreatHar
import Derived.Deep.RegionHeld3
import Derived.Test.YtfdddijdjpijbaaGreatHac
import Derived.Deep.RegionWith
import Derived.Lib.MinMax
import Derived.Test.YtfdddijdjpijbaaGreatHaq
set_option maxHeartbeats 2000000
set_option maxRecDepth 10000
namespace Go.Proofs.YtfdddijdjpijbaaGreat
open Go.RowKit
def bP (N n:Nat):Bool:=decide (N % 2^n≠0)
theorem DK (N:Nat):bP N 0=false:=by unfold bP;rw [Nat.pow_zero,Nat.mod_one];rfl
theorem DL (N k:Nat):bP N (32*(k+1))=(bP N (32*k)||decide (dgt N k≠0)):=by
 unfold bP;rw [fj];have c:=Nat.two_pow_pos (32*k)
 by_cases b:N % 2^(32*k)=0
 ·by_cases a:dgt N k=0
  ·simp [b,a]
  ·have:dgt N k*2^(32*k)≠0:=Nat.mul_ne_zero a (by omega)
   simp [b,a];exact this
 ·simp [b]
theorem GL {N q r n:Nat} (hn:n=32*q+r) (f:r<32):bP N n=(bP N (32*q)||decide (dgt N q % 2^r≠0)):=by
 unfold bP;have e:N % 2^n=N % 2^(32*q)+2^(32*q)*(N / 2^(32*q) % 2^r):=by rw [hn,Nat.pow_add,Nat.mod_mul]
 have c:dgt N q % 2^r=N / 2^(32*q) % 2^r:=by
  unfold dgt;exact Nat.mod_mod_of_dvd _ (by rw [show (4294967296:Nat)=2^r*2^(32 - r) by rw [<- Nat.pow_add,show r+(32 - r)=32 by omega]];exact Nat.dvd_mul_right _ _)
 rw [e,c];have d:=Nat.two_pow_pos (32*q)
 by_cases a:N % 2^(32*q)=0
 ·by_cases b:N / 2^(32*q) % 2^r=0
  ·simp [a,b]
  ·have:2^(32*q)*(N / 2^(32*q) % 2^r)≠0:=Nat.mul_ne_zero (by omega) b
   simp [a,b];exact this
 ·simp [a]
theorem Aj (N q r n i:Nat) (hn:n=32*q+r) (d:r<32):(dgt N (i+q)+dgt N (i+q+1)*4294967296) / 2^r % 4294967296=dgt (N / 2^n) i:=by
 have b:dgt N (i+q)+dgt N (i+q+1)*4294967296=N / 2^(32*(i+q)) % (4294967296*4294967296):=by
  unfold dgt;rw [gr,<- Nat.div_div_eq_div_mul];rw [Nat.mod_mul,Nat.mul_comm 4294967296]
 rw [b];unfold dgt;have c:N / 2^n / 2^(32*i)=N / 2^(32*(i+q)) / 2^r:=by
  rw [Nat.div_div_eq_div_mul,Nat.div_div_eq_div_mul,<- Nat.pow_add,<- Nat.pow_add];congr 2;omega
 rw [c];generalize N / 2^(32*(i+q))=Y;have a:(4294967296*4294967296:Nat)=2^r*(4294967296*2^(32 - r)):=by
  rw [Nat.mul_left_comm,<- Nat.pow_add,show r+(32 - r)=32 by omega]
 rw [a,Nat.mod_mul_right_div_self];exact Nat.mod_mod_of_dvd _ (Nat.dvd_mul_right _ _)
theorem oZ {r:Nat} (h:r<32):IntKind.u64.wrap (2^r)=((2^r:Nat):Int):=by
 have b:(2:Nat)^r<=2^31:=Nat.pow_le_pow_right (by decide) (by omega)
 have a:((2:Int)^r)=((2^r:Nat):Int):=by rw [Int.natCast_pow];rfl
 rw [a,IntKind.wrap_u64];generalize 2^r=z at *
 omega
theorem sH (g m c N kk:Nat) (i:Int) (w:World) (f:RowIs w g m N) (d:N<2^(32*m)) (hi:Hid (i=kk)) :
  Calls Tryz.prog 142 #[.slice (some ⟨g,0,none⟩) m c,.int .i64 i] w fun e b=>e=.returned (.int .u64 (dgt N kk:Int))/\b=w:=by
 rw [hi.out]
 by_cases a:kk<m
 ·exact wF g m c kk _ w a (f kk a)
 ·rw [mw (Nat.lt_of_lt_of_le d (Nat.pow_le_pow_right (by decide) (by omega)))];exact mz _ _ c kk w (by omega)
theorem CD {w:World} {g m N b j:Nat} {v:Value} (h:RowIs w g m N) (a:b≠g):RowIs (w.setCell ⟨b,j,none⟩ v) g m N:=
 fun i hi=>(World.cell?_setCell_far w ⟨b,j,none⟩ ⟨g,i,none⟩ v a).trans (h i hi)
theorem ut {v:Value} {a b:Bool} (h:a=b):Ending.returned (.tuple #[v,.bool a])=.returned (.tuple #[v,.bool b]):=by rw [h]
theorem LI (D P:Nat):((D:Int) % (P:Int) !=0)=decide (D % P≠0):=by
 by_cases h:D % P=0
 ·have:(D:Int) % (P:Int)=0:=by rw [<- Int.natCast_emod,h];rfl
  simp [h,this]
 ·have:(D:Int) % (P:Int)≠0:=by rw [<- Int.natCast_emod];omega
  simp [h,this]
theorem wI {N q r n i:Nat} (hn:n=32*q+r) (a:r<32):(((dgt N (i+q):Int)+(dgt N (i+q+1):Int)*4294967296) / 2^r).tmod 4294967296=(dgt (N / 2^n) i:Int):=by
 have e:=Aj N q r n i hn a;have b:((dgt N (i+q):Int)+(dgt N (i+q+1):Int)*4294967296) / 2^r=(((dgt N (i+q)+dgt N (i+q+1)*4294967296) / 2^r:Nat):Int):=by
  rw [Int.natCast_ediv,Int.natCast_add,Int.natCast_mul,Int.natCast_pow];rfl
 rw [b,Int.tmod_eq_emod_of_nonneg (Int.natCast_nonneg _),<- e,Int.natCast_emod];rfl
def rO (w:World) (b n M j:Nat):Prop:=w.rowIs b 41 n (fun i=>.int .u64 ((if i<j then dgt M i else 0:Nat):Int))
theorem jF (w:World) (n M:Nat):rO (w.alloc (.cells (madeCells #[.int .u64 0] n) 41)) w.heap.size n M 0:=
 (World.rowIs_made w (.int .u64 0) n 41).congr (fun i _=>by rw [if_neg (by omega)];rfl)
theorem jG {w:World} {b n M j:Nat} {x:Int} (h:rO w b n M j) (a:x=(dgt M j:Int)):rO (w.setCell ⟨b,j,none⟩ (.int .u64 x)) b n M (j+1):=by
 refine (h.set j (.int .u64 x)).congr fun i _=>?_
 by_cases c:i=j
 ·rw [if_pos c,if_pos (by omega),a,c]
 ·rw [if_neg c]
  by_cases d:i<j
  ·rw [if_pos d,if_pos (by omega)]
  ·rw [if_neg d,if_neg (by omega)]
theorem lg {w:World} {b n M:Nat} (h:rO w b n M n):Own w b n M:=h.congr (fun i hi=>by rw [if_pos hi])
theorem kg (p:Option Addr) (m c:Nat) (n:Int) (w:World) (b:m<=10000000) (h:32*(m:Int)<=n) :
  Calls Tryz.prog 143 #[.slice p m c,.int .i64 n] w fun e a=>e=.returned (.tuple #[.slice none 0 0,.bool (decide (0<m))])/\a=w:=by
 go_enter Tryz.func143,Tryz.ntmps143
 go_wp2
 go_ret2
 exact⟨rfl,rfl⟩
theorem rP (g c N m n q r:Nat) (w:World) (hm:1<=m) (ba:m<=10000000) (hn:(n:Int)<32*m) (hq:(n:Int) / 32=q) (hr:(n:Int) % 32=r) (b:Hid (RowIs w g m N)) (hg:g<w.heap.size) (Z:Hid (N<2^(32*m))) :
  Calls Tryz.prog 143 #[.slice (some ⟨g,0,none⟩) m c,.int .i64 n] w fun e a=>∃ v,e=.returned (.tuple #[v,.bool (bP N n)])/\DN a v (N / 2^n)/\Below w.heap.size w a:=by
 have H:r<32:=by omega
 have ak:q<m:=by omega
 have V:Hid (n=32*q+r):=by show _=_;omega
 go_enter Tryz.func143,Tryz.ntmps143
 go_wp2
 go_loop [6,7] (fun l i=>∃ k:Nat,k<=q/\l=.bool (bP N (32*k))/\i=.int .i64 k) (fun _ i=>q - (intOf i).toNat)
 case atStart=>exact⟨0,Nat.zero_le _,by rw [Nat.mul_zero,DK],rfl⟩
 case round=>
  obtain⟨k,hk,rfl,rfl⟩:=hrel
  by_cases W:k<q
  ·have hc:=b.out k (by omega)
   have R:=aa (DL N k);have J:Hid (∀ D,dgt N k=D->bP N (32*(k+1))=(bP N (32*k)||decide (D≠0))):=fun D I=>by rw [<- I];exact R.out
   generalize I:dgt N k=D at hc
   have R:=aa (J.out D I);clear I J;cases U:bP N (32*k)
   ·rw [U,Bool.false_or] at R
    by_cases Y:D=0
    ·subst Y;go_wp2
     go_round
     case rel=>exact⟨k+1,by omega,by rw [R.out];rfl,by go_num⟩
     case measure=>simp [intOf];omega
    ·have h1:((D:Int) !=0)=true:=by simpa using Y
     have H0:=aa Y;clear Y;go_wp2
     go_round
     case rel=>exact⟨k+1,by omega,by rw [R.out,decide_eq_true H0.out],by go_num⟩
     case measure=>simp [intOf];omega
   ·rw [U,Bool.true_or] at R
    go_wp2
    go_round
    case rel=>exact⟨k+1,by omega,by rw [R.out],by go_num⟩
    case measure=>simp [intOf];omega
  ·obtain rfl:k=q:=by omega
   have ai:=b.out k ak;have bb:(k:Int)<(m:Int):=by omega
   have O:=aa (GL (N:=N) V.out H);have J:Hid (∀ D,dgt N k=D->bP N n=(bP N (32*k)||decide (D % 2^r≠0))):=fun D I=>by rw [<- I];exact O.out
   have b1:=bw N k;generalize I:dgt N k=D at ai b1
   have O:=aa (J.out D I);clear I J;cases U:bP N (32*k)
   ·rw [U,Bool.false_or] at O
    have ad:=oZ H;have hP:=Nat.two_pow_pos r;generalize 2^r=P at ad O hP
    go_wp2_with fail
    go_quiet (fail)
    have M:=fun w=>run_make_row' (P:=Tryz.prog) 33 41 (.int .u64 0) 8 Tryz.underlying33 dT rfl .i64 .i64 (m - k) (by omega) (by omega) w
    have S:((m - k:Nat):Int)=(m:Int) - (k:Int):=by omega
    rw [S] at M
    clear S
    go_wp2_with fail
    rw [hr]
    go_loopw [9] (fun i wr=>∃ j:Nat,j<=m - k/\i=.int .i64 j/\Hid (rO wr w.heap.size (m - k) (N / 2^n) j)/\Hid (Below w.heap.size w wr)) (fun i _=>m - k - (intOf i).toNat)
    case atStart=>exact⟨0,Nat.zero_le _,rfl,jF (w.drewN nq) (m - k) _,below_drewN ((Below.refl _ _).alloc (Nat.le_refl _) _) _⟩
    case round=>
     obtain⟨j,hj,rfl,t,G⟩:=hrel
     by_cases W:j<m - k
     ·have s:wr.cell? ⟨g,j+k,none⟩=some (.int .u64 (dgt N (j+k):Int)):=(G.out.cell (p:=⟨g,j+k,none⟩) hg).trans (b.out (j+k) (by omega))
      have Q:Hid (RowIs wr g m N):=b.out.below hg G.out;have h1:=t.out.cell (i:=j) (by omega)
      have f1:=t.out.frozen j;have b2:=bw N (j+k);have b3:=bw N (j+k+1);generalize hE:(if j<j then dgt (N / 2^n) j else 0:Nat)=E at h1
      clear hE;have al:(j:Int)+(k:Int)<(m:Int):=by omega
      have am:(j:Int)<((m - k:Nat):Int):=by omega
      go_wp2_with fail
      generalize A:dgt N (j+k)=x at s b2
      have L:=aa A;clear A;generalize C:dgt N (j+k+1)=o at b3
      have B:=aa C;clear C;have t1:(n:Int).tdiv 32=(k:Int):=by rw [Int.tdiv_eq_ediv_of_nonneg (by omega)];exact hq
      have t2:(n:Int).tmod 32=(r:Int):=by rw [Int.tmod_eq_emod_of_nonneg (by omega)];exact hr
      have w0:IntKind.i64.wrap (k:Int)=(k:Int):=by rw [IntKind.wrap_i64];omega
      have ab:IntKind.i64.wrap (r:Int)=(r:Int):=by rw [IntKind.wrap_i64];omega
      have nn:(0:Int)<=(j:Int)+(k:Int):=by omega
      have tn:((j:Int)+(k:Int)).toNat=j+k:=by omega
      have w1:IntKind.i64.wrap ((j:Int)+(k:Int))=(j:Int)+(k:Int):=by rw [IntKind.wrap_i64];omega
      have w2:IntKind.i64.wrap ((j:Int)+(k:Int)+1)=(j:Int)+(k:Int)+1:=by rw [IntKind.wrap_i64];omega
      have w3:IntKind.u64.wrap ((o:Int)*4294967296)=(o:Int)*4294967296:=by rw [IntKind.wrap_u64];omega
      have w4:IntKind.u64.wrap ((x:Int)+(o:Int)*4294967296)=(x:Int)+(o:Int)*4294967296:=by rw [IntKind.wrap_u64];omega
      have f:∀ a,RowIs a g m N->Calls Tryz.prog 142 #[.slice (some ⟨g,0,none⟩) m c,.int .i64 ((j:Int)+(k:Int)+1)] a fun e K=>e=.returned (.int .u64 (o:Int))/\K=a:=fun a h=>by
       have:=sH g m c N (j+k+1) ((j:Int)+(k:Int)+1) a h Z.out (by show _=_;omega)
       rw [B.out] at this;exact this
      have u:=aa f;clear f;have d:w.heap.size≠g:=by omega
      have z:Hid (rO (wr.setCell ⟨w.heap.size,j,none⟩ (.int .u64 ((((x:Int)+(o:Int)*4294967296) / 2^r).tmod 4294967296))).drew w.heap.size (m - k) (N / 2^n) (j+1)):=jG t.out (by rw [<- L.out,<- B.out];exact wI V.out H)
      have F:Hid (Below w.heap.size w (wr.setCell ⟨w.heap.size,j,none⟩ (.int .u64 ((((x:Int)+(o:Int)*4294967296) / 2^r).tmod 4294967296))).drew):=(G.out.setCell (Nat.le_refl _) _).drew
      go_region_held3 (fun a=>a.cell? ⟨g,j+k,none⟩=some (.int .u64 (x:Int))/\RowIs a g m N) (first | exact⟨s,Q.out⟩| exact⟨(World.cell?_setCell_far _ _ _ _ d).trans s,CD Q.out d⟩| go_keep) ((go_at_call 142;refine (u.out _ (by first | assumption | exact Q.out)).mono ?_;rintro e a ⟨rfl,rfl⟩))
      go_wp2_with fail
      go_roundw
      case rel=>first | exact⟨j+1,by omega,by go_num,z,F⟩| ((repeat apply Exists.intro);exact⟨⟨j+1,by omega,by go_num,z,F⟩,rfl⟩)
      case measure=>simp [intOf];omega
     ·obtain rfl:j=m - k:=by omega
      have T:=aa (lg t.out);have X:Hid (N / 2^n<2^(32*(m - k))):=by
       show _<_
       rw [Nat.div_lt_iff_lt_mul (Nat.two_pow_pos _),<- Nat.pow_add];refine Nat.lt_of_lt_of_le Z.out (Nat.pow_le_pow_right (by decide) ?_)
       have:=V.out;omega
      have y:=t.out.lt;have J:=aa (nv T.out.row X.out (Nat.le_refl _) y)
      go_wp2_with fail
      refine (dq _ _ _ _ _ T.out.row X.out (Nat.le_refl _) (by omega)).mono ?_
      rintro e a ⟨rfl,rfl⟩
      go_wp2_with fail
      go_ret2
      exact⟨_,ut (by rw [O.out];exact LI D P),J.out,G.out⟩
   ·rw [U,Bool.true_or] at O
    go_wp2_with fail
    go_quiet (fail)
    have M:=fun w=>run_make_row' (P:=Tryz.prog) 33 41 (.int .u64 0) 8 Tryz.underlying33 dT rfl .i64 .i64 (m - k) (by omega) (by omega) w
    have S:((m - k:Nat):Int)=(m:Int) - (k:Int):=by omega
    rw [S] at M
    clear S
    go_wp2_with fail
    go_loopw [9] (fun i wr=>∃ j:Nat,j<=m - k/\i=.int .i64 j/\Hid (rO wr w.heap.size (m - k) (N / 2^n) j)/\Hid (Below w.heap.size w wr)) (fun i _=>m - k - (intOf i).toNat)
    case atStart=>exact⟨0,Nat.zero_le _,rfl,jF (w.drewN nq) (m - k) _,below_drewN ((Below.refl _ _).alloc (Nat.le_refl _) _) _⟩
    case round=>
     obtain⟨j,hj,rfl,t,G⟩:=hrel
     by_cases W:j<m - k
     ·have s:wr.cell? ⟨g,j+k,none⟩=some (.int .u64 (dgt N (j+k):Int)):=(G.out.cell (p:=⟨g,j+k,none⟩) hg).trans (b.out (j+k) (by omega))
      have Q:Hid (RowIs wr g m N):=b.out.below hg G.out;have h1:=t.out.cell (i:=j) (by omega)
      have f1:=t.out.frozen j;have b2:=bw N (j+k);have b3:=bw N (j+k+1);generalize hE:(if j<j then dgt (N / 2^n) j else 0:Nat)=E at h1
      clear hE;have al:(j:Int)+(k:Int)<(m:Int):=by omega
      have am:(j:Int)<((m - k:Nat):Int):=by omega
      go_wp2_with fail
      generalize A:dgt N (j+k)=x at s b2
      have L:=aa A;clear A;generalize C:dgt N (j+k+1)=o at b3
      have B:=aa C;clear C;have t1:(n:Int).tdiv 32=(k:Int):=by rw [Int.tdiv_eq_ediv_of_nonneg (by omega)];exact hq
      have t2:(n:Int).tmod 32=(r:Int):=by rw [Int.tmod_eq_emod_of_nonneg (by omega)];exact hr
      have w0:IntKind.i64.wrap (k:Int)=(k:Int):=by rw [IntKind.wrap_i64];omega
      have ab:IntKind.i64.wrap (r:Int)=(r:Int):=by rw [IntKind.wrap_i64];omega
      have nn:(0:Int)<=(j:Int)+(k:Int):=by omega
      have tn:((j:Int)+(k:Int)).toNat=j+k:=by omega
      have w1:IntKind.i64.wrap ((j:Int)+(k:Int))=(j:Int)+(k:Int):=by rw [IntKind.wrap_i64];omega
      have w2:IntKind.i64.wrap ((j:Int)+(k:Int)+1)=(j:Int)+(k:Int)+1:=by rw [IntKind.wrap_i64];omega
      have w3:IntKind.u64.wrap ((o:Int)*4294967296)=(o:Int)*4294967296:=by rw [IntKind.wrap_u64];omega
      have w4:IntKind.u64.wrap ((x:Int)+(o:Int)*4294967296)=(x:Int)+(o:Int)*4294967296:=by rw [IntKind.wrap_u64];omega
      have f:∀ a,RowIs a g m N->Calls Tryz.prog 142 #[.slice (some ⟨g,0,none⟩) m c,.int .i64 ((j:Int)+(k:Int)+1)] a fun e K=>e=.returned (.int .u64 (o:Int))/\K=a:=fun a h=>by
       have:=sH g m c N (j+k+1) ((j:Int)+(k:Int)+1) a h Z.out (by show _=_;omega)
       rw [B.out] at this;exact this
      have u:=aa f;clear f;have d:w.heap.size≠g:=by omega
      have z:Hid (rO (wr.setCell ⟨w.heap.size,j,none⟩ (.int .u64 ((((x:Int)+(o:Int)*4294967296) / 2^r).tmod 4294967296))).drew w.heap.size (m - k) (N / 2^n) (j+1)):=jG t.out (by rw [<- L.out,<- B.out];exact wI V.out H)
      have F:Hid (Below w.heap.size w (wr.setCell ⟨w.heap.size,j,none⟩ (.int .u64 ((((x:Int)+(o:Int)*4294967296) / 2^r).tmod 4294967296))).drew):=(G.out.setCell (Nat.le_refl _) _).drew
      go_region_held3 (fun a=>a.cell? ⟨g,j+k,none⟩=some (.int .u64 (x:Int))/\RowIs a g m N) (first | exact⟨s,Q.out⟩| exact⟨(World.cell?_setCell_far _ _ _ _ d).trans s,CD Q.out d⟩| go_keep) ((go_at_call 142;refine (u.out _ (by first | assumption | exact Q.out)).mono ?_;rintro e a ⟨rfl,rfl⟩))
      go_wp2_with fail
      go_roundw
      case rel=>first | exact⟨j+1,by omega,by go_num,z,F⟩| ((repeat apply Exists.intro);exact⟨⟨j+1,by omega,by go_num,z,F⟩,rfl⟩)
      case measure=>simp [intOf];omega
     ·obtain rfl:j=m - k:=by omega
      have T:=aa (lg t.out);have X:Hid (N / 2^n<2^(32*(m - k))):=by
       show _<_
       rw [Nat.div_lt_iff_lt_mul (Nat.two_pow_pos _),<- Nat.pow_add];refine Nat.lt_of_lt_of_le Z.out (Nat.pow_le_pow_right (by decide) ?_)
       have:=V.out;omega
      have y:=t.out.lt;have J:=aa (nv T.out.row X.out (Nat.le_refl _) y)
      go_wp2_with fail
      refine (dq _ _ _ _ _ T.out.row X.out (Nat.le_refl _) (by omega)).mono ?_
      rintro e a ⟨rfl,rfl⟩
      go_wp2_with fail
      go_ret2
      exact⟨_,ut O.out.symm,J.out,G.out⟩
theorem rQ (v:Value) (N n:Nat) (w:World) (h:DN w v N) (f:nd N<=10000000) :
  Calls Tryz.prog 143 #[v,.int .i64 n] w fun e d=>∃ v,e=.returned (.tuple #[v,.bool (bP N n)])/\DN d v (N / 2^n)/\Below w.heap.size w d:=by
 rcases h with⟨a,p,c,rfl⟩| ⟨a,g,c,rfl,m,k,l⟩
 ·refine (kg p 0 c n w (by omega) (by omega)).mono ?_
  rintro e d ⟨rfl,rfl⟩;exact⟨_,ut (by rw [a];unfold bP;rw [Nat.zero_mod];rfl),Or.inl ⟨by rw [a,Nat.zero_div],none,0,rfl⟩,Below.refl _ _⟩
 ·have j:=dm a
  by_cases i:32*(nd N:Int)<=n
  ·have b:N<2^n:=Nat.lt_of_lt_of_le (cZ N) (Nat.pow_le_pow_right (by decide) (by omega))
   refine (kg _ (nd N) c n w f i).mono ?_
   rintro e d ⟨rfl,rfl⟩;exact⟨_,ut (by unfold bP;rw [Nat.mod_eq_of_lt b];simp [a];omega),Or.inl ⟨Nat.div_eq_of_lt b,none,0,rfl⟩,Below.refl _ _⟩
  ·exact rP g c N (nd N) n (n / 32) (n % 32) w j f (by omega) (by omega) (by omega) l k (cZ N)
theorem fq (v:Value) (N k:Nat) (i:Int) (q:Int) (w:World) (h:DN w v N) (hi:Hid (i=k)) (b:Hid ((dgt N k:Int)=q)) :
  Calls Tryz.prog 142 #[v,.int .i64 i] w fun e a=>e=.returned (.int .u64 q)/\a=w:=by
 rw [hi.out,<- b.out];exact jE v N k w h
theorem Ak (v:Value) (N n:Nat) (i:Int) (w:World) (h:DN w v N) (b:nd N<=10000000) (hn:n<=100000000) (hi:Hid (i=n)) :
  Calls Tryz.prog 97 #[v,.int .i64 i] w fun e a=>∃ v,e=.returned v/\DN a v (N*2^n)/\Below w.heap.size w a:=by
 rw [hi.out];exact nw v N n w h b hn
theorem gY (v:Value) (N n:Nat) (i:Int) (w:World) (h:DN w v N) (b:nd N<=10000000) (hi:Hid (i=n)) :
  Calls Tryz.prog 143 #[v,.int .i64 i] w fun e a=>∃ v,e=.returned (.tuple #[v,.bool (bP N n)])/\DN a v (N / 2^n)/\Below w.heap.size w a:=by
 rw [hi.out];exact rQ v N n w h b
theorem DN.drewN {w:World} {v:Value} {N:Nat} (h:DN w v N) (n:Nat):DN (w.drewN n) v N:=h
theorem Al (v:Value) (N:Nat) (e L:Int) (more:Bool) (w:World) (h:DN w v N) (P:nd N<=1000000) (S: -10000000<=e) (F:e<=10000000) (l:Hid (L=aL N e)) (c:L<=e) (C:L+1074<=3000) :
  Calls Tryz.prog 140 #[v,.int .i64 e,.bool more,.int .i64 53,.int .i64 (-1074)] w fun x s=>x=.returned (.int .u64 (rnd53 N e more:Int))/\Below w.heap.size w s:=by
 have p:=sE N;have HK:Hid (N*2^(e - L).toNat<9007199254740992):=by rw [l.out] at c ⊢;exact CC c
 have E: -1074<=L:=by rw [l.out];exact us N e
 have r:Hid ((rnd53 N e more:Int)=(L+1074)*4503599627370496+(dgt (N*2^(e - L).toNat) 0:Int)+(dgt (N*2^(e - L).toNat) 1:Int)*4294967296):=by
  show _=_
  have D:=gW (K:=N*2^(e - L).toNat) (by have:=HK.out;omega)
  have z:rnd53 N e more=(L+1074).toNat*4503599627370496+N*2^(e - L).toNat:=by
   unfold rnd53 kv;rw [<- l.out,if_pos c]
  rw [z];generalize N*2^(e - L).toNat=K at *
  omega
 have i:max ((bl N:Int) - 53+e) (-1074)=L:=by rw [l.out];rfl
 have I:=bw (N*2^(e - L).toNat) 0;have m:dgt (N*2^(e - L).toNat) 1<=2097152:=by
  have D:=gW (K:=N*2^(e - L).toNat) (by have:=HK.out;omega)
  have:=HK.out;omega
 rw [r.out];generalize k:dgt (N*2^(e - L).toNat) 0=j at I
 generalize a:dgt (N*2^(e - L).toNat) 1=d at m
 have n:Hid ((dgt (N*2^(e - L).toNat) 0:Int)=j):=by show _=_;rw [k]
 have o:Hid ((dgt (N*2^(e - L).toNat) 1:Int)=d):=by show _=_;rw [a]
 clear k a r;have H:=aa h;clear h;have b:=aa (fun w (h:DN w v N)=>oA v N w h (by omega))
 generalize u:(bl N:Int)=B at i b
 have A:0<=B:=by omega
 have G:B<=32000000:=by omega
 clear u p;have t:IntKind.i64.wrap (L+1074)=L+1074:=by rw [IntKind.wrap_i64];omega
 have O:IntKind.u64.wrap (L+1074)=L+1074:=by rw [IntKind.wrap_u64];omega
 have Q:IntKind.u64.wrap ((L+1074)*4503599627370496)=(L+1074)*4503599627370496:=by rw [IntKind.wrap_u64];omega
 have M:IntKind.u64.wrap ((L+1074)*4503599627370496+(j:Int))=(L+1074)*4503599627370496+(j:Int):=by rw [IntKind.wrap_u64];omega
 have R:IntKind.u64.wrap ((d:Int)*4294967296)=(d:Int)*4294967296:=by rw [IntKind.wrap_u64];omega
 have J:IntKind.u64.wrap ((L+1074)*4503599627370496+(j:Int)+(d:Int)*4294967296)=(L+1074)*4503599627370496+(j:Int)+(d:Int)*4294967296:=by rw [IntKind.wrap_u64];omega
 go_enter Tryz.func140,Tryz.ntmps140
 go_wp2_with fail
 refine (Af b _ H.out).mono ?_
 rintro x s ⟨rfl,rfl⟩
 go_wp2_with fail
 refine (Ak v N (e - L).toNat _ _ H.out (by omega) (by omega) (by show _=_;omega)).mono ?_
 rintro x t ⟨q,rfl,a,f⟩;have g:=aa a;have y:=aa f;clear a f
 go_wp2_with fail
 go_quiet ((first | (go_at_call_of 142 (Value.int IntKind.i64 0);exact Calls.quiet_of_same (fq q _ 0 0 _ _ g.out rfl n)) | (go_at_call_of 142 (Value.int IntKind.i64 1);exact Calls.quiet_of_same (fq q _ 1 1 _ _ g.out rfl o))))
 go_wp2_with fail
 go_ret
 exact⟨rfl,below_drewN y.out _⟩
theorem uu (v:Value) (N d:Nat) (e L:Int) (more y lo q:Bool) (w:World) (h:DN w v N) (hb:nd N<=1000000) (he: -10000000<=e) (ak:e<=10000000) (s:Hid (L=aL N e)) (A:e<L) (ad:L+1074<=3000) (C:Hid (L - e=d))
  (E:Hid (((dgt (N / 2^(d - 1)) 0:Int) % 2==1)=y)) (z:Hid (bP N (d - 1)=lo)) (i:Hid (((N / 2^d:Nat):Int) % 2=if q then 1 else 0)) :
  Calls Tryz.prog 140 #[v,.int .i64 e,.bool more,.int .i64 53,.int .i64 (-1074)] w fun x o=>x=.returned (.int .u64 ((L+1074)*4503599627370496+(((N / 2^d:Nat):Int)+if y&&(lo||more||q) then 1 else 0)))/\Below w.heap.size w o:=by
 have O:=sE N;have HQ:N / 2^d<9007199254740992:=by
  have:=sF (N:=N) (e:=e) (by rw [<- s.out];exact A)
  rw [<- s.out,show (L - e).toNat=d by have:=C.out;omega] at this;exact this
 have ai: -1074<=L:=by rw [s.out];exact us N e
 have m:max ((bl N:Int) - 53+e) (-1074)=L:=by rw [s.out];rfl
 have r:=gW (K:=N / 2^d) (by omega)
 have T:=bw (N / 2^d) 0;have S:dgt (N / 2^d) 1<=2097152:=by omega
 have bh:=bw (N / 2^(d - 1)) 0;generalize t:N / 2^d=Q at i HQ r
 have u:Hid (N / 2^d=Q):=t;rw [t] at T S
 generalize n:dgt Q 0=G at r T
 generalize f:dgt Q 1=F at r S
 have hh:=E.out;generalize l:dgt (N / 2^(d - 1)) 0=P at bh hh
 have I:Hid ((dgt Q 0:Int)=G):=by show _=_;rw [n]
 have M:Hid ((dgt Q 1:Int)=F):=by show _=_;rw [f]
 have U:Hid ((dgt (N / 2^(d - 1)) 0:Int)=P):=by show _=_;rw [l]
 clear n f l;have W:(G:Int)+(F:Int)*4294967296=(Q:Int):=by omega
 clear t r;have H:=aa h;clear h;have b:=aa (fun w (h:DN w v N)=>oA v N w h (by omega))
 have X:=aa (show L - e=(d:Int) from C.out)
 have D:Hid (L - e - 1=((d - 1:Nat):Int)):=by show _=_;have:=C.out;omega
 generalize Y:(bl N:Int)=B at m b
 have ab:0<=B:=by omega
 have al:B<=32000000:=by omega
 clear Y O;have V:((Q:Int) % 2==1)=q:=by have:=i.out;cases q<;>simp at this ⊢<;>omega
 cases y<;>cases lo<;>cases more<;>cases q
 all_goals
  simp only [Bool.false_and,Bool.true_and,Bool.or_true,Bool.or_false,Bool.false_eq_true,if_true,if_false,Int.add_zero]
  go_enter Tryz.func140,Tryz.ntmps140
  go_wp2_with fail
  refine (Af b _ H.out).mono ?_
  rintro x o ⟨rfl,rfl⟩
  go_wp2_with fail
  refine (gY v N d _ _ H.out (by omega) X).mono ?_
  rintro x w1 ⟨R,rfl,p,k⟩;have a:=aa p;have j:=aa k;clear p k
  go_wp2_with fail
  refine (gY v N (d - 1) _ _ (H.out.below j.out) (by omega) D).mono ?_
  rw [z.out];rintro x w2 ⟨Z,rfl,g,c⟩;have J:=aa g;have a:=aa (a.out.below c);have j:=aa (j.out.trans (c.mono j.out.size));clear g c;rw [u.out] at a
  go_wp2_with fail
  refine (fq R Q 0 0 G _ a.out rfl I).mono ?_
  rintro x o ⟨rfl,rfl⟩
  go_wp2_with fail
  refine (fq R Q 1 1 F _ a.out rfl M).mono ?_
  rintro x o ⟨rfl,rfl⟩
  go_wp2_with fail
  refine (fq Z _ 0 0 P _ J.out rfl U).mono ?_
  rintro x o ⟨rfl,rfl⟩
  go_wp2_with fail
  go_ret
  exact⟨bu (by omega),j.out⟩
theorem GM (N k:Nat):((dgt (N / 2^k) 0:Int) % 2==1)=decide (N / 2^k % 2=1):=by
 unfold dgt;rw [Nat.mul_zero,Nat.pow_zero,Nat.div_one];generalize N / 2^k=z
 by_cases h:z % 2=1
 ·rw [decide_eq_true h];simp;omega
 ·rw [decide_eq_false h];simp;omega
theorem wJ (v:Value) (N:Nat) (e:Int) (more:Bool) (w:World) (h:DN w v N) (g:nd N<=1000000) (f: -10000000<=e) (b:e<=10000000) (a:aL N e+1074<=3000) :
  Calls Tryz.prog 140 #[v,.int .i64 e,.bool more,.int .i64 53,.int .i64 (-1074)] w fun x i=>x=.returned (.int .u64 (rnd53 N e more:Int))/\Below w.heap.size w i:=by
 by_cases d:aL N e<=e
 ·exact Al v N e (aL N e) more w h g f b rfl d a
 ·have l:=us N e;have c:=uu v N (aL N e - e).toNat e (aL N e) more (decide (N / 2^((aL N e - e).toNat - 1) % 2=1)) (bP N ((aL N e - e).toNat - 1)) (decide (N / 2^(aL N e - e).toNat % 2=1)) w h g f b rfl (by omega) a (by show _=_;omega) (GM N _) rfl
   (by show _=_;generalize N / 2^(aL N e - e).toNat=z;by_cases h:z % 2=1<;>simp [h]<;>omega)
  have j:(rnd53 N e more:Int)=(aL N e+1074)*4503599627370496+(((N / 2^(aL N e - e).toNat:Nat):Int)+if decide (N / 2^((aL N e - e).toNat - 1) % 2=1)&&(bP N ((aL N e - e).toNat - 1)||more||decide (N / 2^(aL N e - e).toNat % 2=1)) then 1 else 0):=by
   unfold rnd53 kv nu bP;rw [if_neg d];have k:(((decide (N / 2^((aL N e - e).toNat - 1) % 2=1)&&(decide (N % 2^((aL N e - e).toNat - 1)≠0)||more||decide (N / 2^(aL N e - e).toNat % 2=1)))=true)↔(N / 2^((aL N e - e).toNat - 1) % 2=1/\(N % 2^((aL N e - e).toNat - 1)≠0\/more=true\/N / 2^(aL N e - e).toNat % 2=1))):=by
    simp only [Bool.and_eq_true,Bool.or_eq_true,decide_eq_true_eq,or_assoc]
   simp only [k]
   split<;>omega
  rw [j];exact c
def dU (neg:Bool) (v:Value) (e:Int):Value:=.agg #[.bool neg,v,.int .i64 e]
def cw (neg:Bool) (u:Int):Int:=if neg then min u 9218868437227405312+9223372036854775808 else min u 9218868437227405312
theorem wK (neg:Bool) (u:Int) (w:World) (b:0<=u) (c:u<18446744073709551616) :
  Calls Tryz.prog 139 #[.bool neg,.int .u64 u] w fun e a=>e=.returned (.int .u64 (cw neg u))/\a=w:=by
 unfold cw;cases neg
 ·simp only [Bool.false_eq_true,if_false]
  go_enter Tryz.func139,Tryz.ntmps139
  go_wp2
  go_ret
  exact⟨rfl,rfl⟩
 ·simp only [if_true]
  go_enter Tryz.func139,Tryz.ntmps139
  go_wp2
  go_ret
  exact⟨bu (by omega),rfl⟩
theorem GN (neg:Bool) (v:Value) (e:Int) (N:Nat) (w:World) (h:DN w v N) :
  Calls Tryz.prog 75 #[dU neg v e] w fun x b=>x=.returned (.bool (decide (N=0)))/\Below w.heap.size w b:=by
 unfold dU;rcases h with⟨a,p,c,rfl⟩| ⟨a,g,c,rfl,f,k,d⟩
 ·go_enter Tryz.func75,Tryz.ntmps75
  go_wp2
  go_ret
  exact⟨gk (by simp [a]),(Below.refl _ _).alloc (Nat.le_refl _) _⟩
 ·have j:=dm a;have i:((nd N:Int)==0)=false:=by simp;omega
  clear d
  go_enter Tryz.func75,Tryz.ntmps75
  go_wp2
  go_ret
  exact⟨gk (by simp [a]),(Below.refl _ _).alloc (Nat.le_refl _) _⟩
def jZ (N:Nat) (e:Int):Bool:=decide (1100<(bl N:Int)+e)||decide ((bl N:Int)+e< -1200)
theorem mA (v:Value) (N:Nat) (B:Int) (w:World) (h:DN w v N) (c:nd N<=100000000) (b:Hid ((bl N:Int)=B)) :
  Calls Tryz.prog 95 #[v] w fun e a=>e=.returned (.int .i64 B)/\a=w:=by
 rw [<- b.out];exact oA v N w h c
theorem LJ (neg:Bool) (v:Value) (e:Int) (N:Nat) (w:World) (h:DN w v N) (o:nd N<=1000000) (p: -10000000<=e) (k:e<=10000000) :
  Calls Tryz.prog 138 #[dU neg v e] w fun x j=>x=.returned (.bool (jZ N e))/\Below w.heap.size w j:=by
 unfold dU jZ;have b:=sE N;have g:Hid (∀ n,DN ((w.alloc (.cells #[.bool neg,v,.int .i64 e] 83)).drewN n) v N):=fun n=>h.below (below_drewN ((Below.refl _ _).alloc (Nat.le_refl _) _) n)
 generalize c:(bl N:Int)=B;have d:=aa c;have i:0<=B:=by omega
 have l:B<=32000000:=by omega
 clear c b h;have m:IntKind.i64.wrap (B+e)=B+e:=by rw [IntKind.wrap_i64];omega
 by_cases f:1100<B+e
 ·have a:decide (1100<B+e)=true:=by simpa using f
  rw [a,Bool.true_or]
  go_enter Tryz.func138,Tryz.ntmps138
  go_wp2_with fail
  go_quiet ((go_at_call 95;exact Calls.quiet_of_same (mA v N B _ (g.out _) (by omega) d)))
  go_wp2_with fail
  go_ret
  exact⟨rfl,below_drewN ((Below.refl _ _).alloc (Nat.le_refl _) _) _⟩
 ·have a:decide (1100<B+e)=false:=by simpa using f
  rw [a,Bool.false_or]
  go_enter Tryz.func138,Tryz.ntmps138
  go_wp2_with fail
  go_quiet ((go_at_call 95;exact Calls.quiet_of_same (mA v N B _ (g.out _) (by omega) d)))
  go_wp2_with fail
  go_ret
  exact⟨rfl,below_drewN ((Below.refl _ _).alloc (Nat.le_refl _) _) _⟩
def bJ (neg:Bool) (N:Nat) (e:Int) (more:Bool):Int:=
 if N=0 then 0 else if jZ N e then (if 0<e\/0<(bl N:Int)+e then cw neg 9218868437227405312 else cw neg 0) else cw neg (rnd53 N e more)
theorem wL {W w1:World} (a:Below W.heap.size W w1):(∀ b o,b<W.heap.size->w1.cell? ⟨b,o,none⟩=W.cell? ⟨b,o,none⟩)/\(∀ b o,b<W.heap.size->w1.frozen? ⟨b,o,none⟩=W.frozen? ⟨b,o,none⟩):=
 ⟨fun b o h=>a.cell (p:=⟨b,o,none⟩) h,fun b o h=>a.frozen (p:=⟨b,o,none⟩) h⟩
theorem aZ (neg:Bool) (v:Value) (e:Int) (N:Nat) (z:Bool) (w:World) (h:DN w v N) (b:Hid (decide (N=0)=z)) :
  Calls Tryz.prog 75 #[.agg #[.bool neg,v,.int .i64 e]] w fun x a=>x=.returned (.bool z)/\Below w.heap.size w a:=by
 rw [<- b.out];exact GN neg v e N w h
theorem GO (neg:Bool) (v:Value) (e:Int) (N:Nat) (z:Bool) (w:World) (h:DN w v N) (f:nd N<=1000000) (d: -10000000<=e) (a:e<=10000000) (c:Hid (jZ N e=z)) :
  Calls Tryz.prog 138 #[.agg #[.bool neg,v,.int .i64 e]] w fun x b=>x=.returned (.bool z)/\Below w.heap.size w b:=by
 rw [<- c.out];exact LJ neg v e N w h f d a
theorem rR (neg more:Bool) (v:Value) (e:Int) (w:World) (h:DN w v 0) :
  Calls Tryz.prog 98 #[dU neg v e,.bool more] w fun x b=>x=.returned (.int .u64 0)/\Below w.heap.size w b:=by
 unfold dU;have d:=aa (h.below ((Below.refl w.heap.size w).alloc (Nat.le_refl _) (.cells #[.bool neg,v,.int .i64 e] 83)));clear h
 go_enter Tryz.func98,Tryz.ntmps98
 go_wp2_with fail
 refine (aZ _ _ _ 0 true _ d.out rfl).mono ?_
 rintro x f ⟨rfl,a⟩;have c:=aa a;clear a
 go_wp2_with fail
 go_ret
 exact⟨rfl,((Below.refl _ _).alloc (Nat.le_refl _) _).trans (c.out.mono (by simp))⟩
theorem jH {w w1:World} {neg:Bool} {v:Value} {e:Int} (a:Below (w.alloc (.cells #[.bool neg,v,.int .i64 e] 83)).heap.size (w.alloc (.cells #[.bool neg,v,.int .i64 e] 83)) w1) :
  w1.cell? ⟨w.heap.size,0,none⟩=some (.bool neg)/\w1.cell? ⟨w.heap.size,1,none⟩=some v/\w1.cell? ⟨w.heap.size,2,none⟩=some (.int .i64 e):=by
 refine⟨?_,?_,?_⟩
 ·rw [a.cell (p:=⟨w.heap.size,0,none⟩) (by simp)];simp
 ·rw [a.cell (p:=⟨w.heap.size,1,none⟩) (by simp)];simp
 ·rw [a.cell (p:=⟨w.heap.size,2,none⟩) (by simp)];simp
theorem wM (neg more:Bool) (v:Value) (e:Int) (N:Nat) (w:World) (h:DN w v N) (B:N≠0) (A:nd N<=1000000) (E: -10000000<=e) (l:e<=10000000) (J:Hid (jZ N e=false)) (R:Int) (G:Hid ((rnd53 N e more:Int)=R)) (n:0<=R) (t:R<18446744073709551616) (j:aL N e+1074<=3000) :
  Calls Tryz.prog 98 #[dU neg v e,.bool more] w fun x b=>x=.returned (.int .u64 (cw neg R))/\Below w.heap.size w b:=by
 unfold dU;have g:Hid (Below w.heap.size w (w.alloc (.cells #[.bool neg,v,.int .i64 e] 83))):=(Below.refl w.heap.size w).alloc (Nat.le_refl _) _;have D:=aa (h.below g.out);have H:=aa B;have q:=aa j;clear h B j
 go_enter Tryz.func98,Tryz.ntmps98
 go_wp2_with fail
 refine (aZ _ _ _ N false _ D.out (decide_eq_false H.out)).mono ?_
 rintro x F ⟨rfl,c⟩;have k:=aa c;have y:=aa (D.out.below c);obtain⟨c0,c1,c2⟩:=jH c;clear c
 go_wp2_with fail
 refine (GO _ _ _ N false _ y.out A E l J).mono ?_
 rintro x i ⟨rfl,a⟩;have o:w.heap.size<F.heap.size:=by have:=k.out.size;simp at this;omega
 have I:=aa (y.out.below a);have z:i.cell? ⟨w.heap.size,0,none⟩=some (.bool neg):=(a.cell (p:=⟨w.heap.size,0,none⟩) o).trans c0;have u:i.cell? ⟨w.heap.size,1,none⟩=some v:=(a.cell (p:=⟨w.heap.size,1,none⟩) o).trans c1;have C:i.cell? ⟨w.heap.size,2,none⟩=some (.int .i64 e):=(a.cell (p:=⟨w.heap.size,2,none⟩) o).trans c2;have s:Hid (Below w.heap.size w i):=(g.out.trans (k.out.mono (by simp))).trans (a.mono (by omega))
 have d:w.heap.size<i.heap.size:=by have:=a.size;omega
 have r:Hid (∀ b,DN b v N->Calls Tryz.prog 140 #[v,.int .i64 e,.bool more,.int .i64 53,.int .i64 (-1074)] b fun x m=>x=.returned (.int .u64 R)/\Below b.heap.size b m):=fun b h=>by
  have:=wJ v N e more b h A E l q.out;rw [G.out] at this;exact this
 clear a c0 c1 c2
 go_wp2_with fail
 go_region_held3 (fun b=>b.cell? ⟨w.heap.size,0,none⟩=some (.bool neg)/\b.cell? ⟨w.heap.size,1,none⟩=some v/\b.cell? ⟨w.heap.size,2,none⟩=some (.int .i64 e)) (first | exact⟨z,u,C⟩| exact⟨(f.cell (p:=⟨w.heap.size,0,none⟩) d).trans z,(f.cell (p:=⟨w.heap.size,1,none⟩) d).trans u,(f.cell (p:=⟨w.heap.size,2,none⟩) d).trans C⟩| go_keep) (first | ((go_at_call 140;refine (r.out _ (by exact I.out)).mono ?_;rintro x L ⟨rfl,f⟩)) | ((go_at_call 139;refine (wK _ _ _ n t).mono ?_;rintro x K ⟨rfl,rfl⟩)))
 go_wp2_with fail
 go_ret
 exact⟨rfl,(s.out.drew).trans (f.mono (by have M:w.heap.size<i.drew.heap.size:=d;omega))⟩
theorem uv (neg more:Bool) (v:Value) (e:Int) (N:Nat) (w:World) (h:DN w v N) (y:N≠0) (G:nd N<=1000000) (J: -10000000<=e) (n:e<=10000000) (F:Hid (jZ N e=true)) :
  Calls Tryz.prog 98 #[dU neg v e,.bool more] w fun x H=>x=.returned (.int .u64 (if 0<e\/0<(bl N:Int)+e then cw neg 9218868437227405312 else cw neg 0))/\Below w.heap.size w H:=by
 unfold dU;have c:Hid (Below w.heap.size w (w.alloc (.cells #[.bool neg,v,.int .i64 e] 83))):=(Below.refl w.heap.size w).alloc (Nat.le_refl _) _;have z:=aa (h.below c.out);have C:=aa y;have o:=sE N;clear h y;generalize u:(bl N:Int)=B;have A:=aa u;have E:0<=B:=by omega
 have I:B<=32000000:=by omega
 clear u o;have r:IntKind.i64.wrap (B+e)=B+e:=by rw [IntKind.wrap_i64];omega
 have d:(0<e/\decide (0<e)=true)\/(decide (0<e)=false/\0<B+e/\¬ 0<e)\/(decide (0<e)=false/\¬ 0<B+e/\¬ 0<e):=by
  by_cases f:0<e
  ·exact Or.inl ⟨f,by simpa using f⟩
  ·by_cases q:0<B+e
   ·exact Or.inr (Or.inl ⟨by simpa using f,q,f⟩)
   ·exact Or.inr (Or.inr ⟨by simpa using f,q,f⟩)
 rcases d with⟨l,i⟩| ⟨l,i,t⟩| ⟨l,i,t⟩
 all_goals first | rw [if_pos (Or.inl l)] | rw [if_pos (Or.inr i)] | rw [if_neg (fun h=>h.elim t i)]
 all_goals
  go_enter Tryz.func98,Tryz.ntmps98
  go_wp2_with fail
  refine (aZ _ _ _ N false _ z.out (decide_eq_false C.out)).mono ?_
  rintro x r ⟨rfl,b⟩;have g:=aa b;have s:=aa (z.out.below b);obtain⟨c0,c1,c2⟩:=jH b;clear b
  go_wp2_with fail
  refine (GO _ _ _ N true _ s.out G J n F).mono ?_
  rintro x j ⟨rfl,a⟩;have k:w.heap.size<r.heap.size:=by have:=g.out.size;simp at this;omega
  have D:=aa (s.out.below a);have M:j.cell? ⟨w.heap.size,0,none⟩=some (.bool neg):=(a.cell (p:=⟨w.heap.size,0,none⟩) k).trans c0;have K:j.cell? ⟨w.heap.size,1,none⟩=some v:=(a.cell (p:=⟨w.heap.size,1,none⟩) k).trans c1;have O:j.cell? ⟨w.heap.size,2,none⟩=some (.int .i64 e):=(a.cell (p:=⟨w.heap.size,2,none⟩) k).trans c2;have m:Hid (Below w.heap.size w j):=(c.out.trans (g.out.mono (by simp))).trans (a.mono (by omega))
  clear a c0 c1 c2
  go_wp2_with fail
  go_quiet ((go_at_call 95;exact Calls.quiet_of_same (mA v N B _ D.out (by omega) A)))
  go_wp2_with (go_at_call 139;refine (wK _ _ _ (by omega) (by omega)).mono ?_;rintro x L ⟨rfl,rfl⟩)
  go_ret
  exact⟨rfl,below_drewN m.out _⟩
theorem wN {N:Nat} {e:Int} (h:jZ N e=false):aL N e+1074<=3000:=by
 unfold jZ at h
 rw [Bool.or_eq_false_iff] at h
 have a:=of_decide_eq_false h.1;unfold aL;omega
theorem Oo {N:Nat} {e:Int} {more:Bool} (h:jZ N e=false):rnd53 N e more<18446744073709551616:=by
 have b:=wN h;have a:=LE N e more;have c:=us N e;unfold rnd53;omega
theorem lh (neg more:Bool) (v:Value) (e:Int) (N:Nat) (w:World) (h:DN w v N) (f:nd N<=1000000) (d: -10000000<=e) (a:e<=10000000) :
  Calls Tryz.prog 98 #[dU neg v e,.bool more] w fun x g=>x=.returned (.int .u64 (bJ neg N e more))/\Below w.heap.size w g:=by
 unfold bJ
 by_cases b:N=0
 ·subst b;rw [if_pos rfl];exact rR neg more v e w h
 ·rw [if_neg b];cases c:jZ N e
  ·simp only [Bool.false_eq_true,if_false];have i:=Oo (more:=more) c;exact wM neg more v e N w h b f d a c _ rfl (Int.natCast_nonneg _) (by omega) (wN c)
  ·simp only [if_true];exact uv neg more v e N w h b f d a c
theorem GP (neg:Bool) (v:Value) (e:Int) (N:Nat) (w:World) (h:DN w v N) (j:nd N<=1000000) (i: -10000000<=e) (d:e<=10000000) :
  Calls Tryz.prog 77 #[dU neg v e] w fun x g=>x=.returned (.int .u64 (bJ neg N e false))/\Below w.heap.size w g:=by
 have a:Hid (Below w.heap.size w (w.alloc (.cells #[.bool neg,v,.int .i64 e] 83))):=(Below.refl w.heap.size w).alloc (Nat.le_refl _) _;have f:=aa (lh neg false v e N _ (h.below a.out) j i d);unfold dU at f ⊢
 clear h
 go_enter Tryz.func77,Tryz.ntmps77
 go_wp2_with fail
 refine f.out.mono ?_
 rintro x k ⟨rfl,b⟩;have c:=aa b;clear b
 go_wp2_with fail
 go_ret
 exact⟨rfl,a.out.trans (c.out.mono (by simp))⟩
theorem pg {N:Nat} {e:Int} (a:N≠0) (h:(bl N:Int)+e< -1200):nearR N e=0:=by
 have f:=eA a;have b:an N e= -1074:=by unfold an;omega
 unfold nearR;rw [b,show (e - -1074).toNat=0 by omega,Nat.pow_zero,Nat.mul_one,gq]
 ·rfl
 ·have d:=GI N;have c:(2:Nat)^(bl N+1)<=2^(-1074 - e).toNat:=Nat.pow_le_pow_right (by decide) (by omega)
  rw [Nat.pow_succ] at c;omega
theorem fw (neg:Bool) {N:Nat} (e:Int) (b:N≠0):bJ neg N e false=(if neg then 9223372036854775808 else 0)+(nearR N e:Int):=by
 have f:=eA b;unfold bJ;rw [if_neg b];have c:(if jZ N e=true then if 0<e\/0<(bl N:Int)+e then cw neg 9218868437227405312 else cw neg 0 else cw neg (rnd53 N e false))=cw neg (nearR N e):=by
  cases a:jZ N e
  ·simp only [Bool.false_eq_true,if_false];rw [<- GK e b];unfold cw;cases neg<;>simp only [Bool.false_eq_true,if_true,if_false]<;>omega
  ·simp only [if_true];unfold jZ at a
   rw [Bool.or_eq_true,decide_eq_true_eq,decide_eq_true_eq] at a
   rcases a with a | a
   ·rw [if_pos (Or.inr (by omega)),jC b (by omega)];rfl
   ·rw [if_neg (by omega),pg b a];rfl
 rw [c];have d:nearR N e<=9218868437227405312:=Nat.min_le_right _ _;unfold cw;cases neg<;>simp only [Bool.false_eq_true,if_true,if_false]<;>omega
theorem DN.shape {w:World} {v:Value} {N:Nat} (h:DN w v N):∃ p l c,v=.slice p l c:=by
 rcases h with⟨_,p,c,rfl⟩| ⟨_,g,c,rfl,_⟩
 ·exact⟨p,0,c,rfl⟩
 ·exact⟨_,_,_,rfl⟩
theorem DS (n:Int) (w:World) (o:0<=n) (t:n<=9223372036854775807) :
  Calls Tryz.prog 62 #[.int .i64 n] w fun x h=>∃ v,x=.returned (dU false v 0)/\DN h v n.toNat/\Below w.heap.size w h:=by
 have m:Hid (n=(n.toNat:Int)):=by show _=_;omega
 unfold dU
 go_enter Tryz.func62,Tryz.ntmps62
 go_wp2_with fail
 refine (jD n n.toNat _ m (by omega)).mono ?_
 rintro x i ⟨q,rfl,f,d,e⟩;obtain⟨p,l,c,rfl⟩:=f.shape;have j:=aa e;obtain⟨k,s⟩:=wL e;have r:w.heap.size<i.heap.size:=by have:=e.size;simp at this;omega
 have g:=fun a b c=>((f.set d (a:=⟨w.heap.size,0,none⟩) (by simp) a).set d (a:=⟨w.heap.size,1,none⟩) (by simp) b).set d (a:=⟨w.heap.size,2,none⟩) (by simp) c
 have g:=aa g;clear f e d
 go_wp2_with fail
 refine bodyPost_ret (v:=.agg #[.bool false,.slice p l c,.int .i64 0]) (by simp [results,Tryz.results62,go_sem,k]) rfl ⟨_,rfl,g.out _ _ _,?_⟩
 exact ((((Below.refl w.heap.size w).alloc (Nat.le_refl _) _).trans (j.out.mono (by simp))).setCell (Nat.le_refl _) _).setCell (Nat.le_refl _) _ |>.setCell (Nat.le_refl _) _
theorem DT (n:Int) (w:World) (o:n<0) (t: -9223372036854775808<=n) :
  Calls Tryz.prog 62 #[.int .i64 n] w fun x h=>∃ v,x=.returned (dU true v 0)/\DN h v n.natAbs/\Below w.heap.size w h:=by
 have m:Hid (-(n+1)+1=(n.natAbs:Int)):=by show _=_;omega
 unfold dU
 go_enter Tryz.func62,Tryz.ntmps62
 go_wp2_with fail
 refine (jD _ n.natAbs _ m (by omega)).mono ?_
 rintro x i ⟨q,rfl,f,d,e⟩;obtain⟨p,l,c,rfl⟩:=f.shape;have j:=aa e;obtain⟨k,s⟩:=wL e;have r:w.heap.size<i.heap.size:=by have:=e.size;simp at this;omega
 have g:=fun a b c=>((f.set d (a:=⟨w.heap.size,0,none⟩) (by simp) a).set d (a:=⟨w.heap.size,1,none⟩) (by simp) b).set d (a:=⟨w.heap.size,2,none⟩) (by simp) c
 have g:=aa g;clear f e d
 go_wp2_with fail
 refine bodyPost_ret (v:=.agg #[.bool true,.slice p l c,.int .i64 0]) (by simp [results,Tryz.results62,go_sem,k]) rfl ⟨_,rfl,g.out _ _ _,?_⟩
 exact ((((Below.refl w.heap.size w).alloc (Nat.le_refl _) _).trans (j.out.mono (by simp))).setCell (Nat.le_refl _) _).setCell (Nat.le_refl _) _ |>.setCell (Nat.le_refl _) _
theorem jI (n:Int) (w:World) (b: -9223372036854775808<=n) (c:n<=9223372036854775807) :
  Calls Tryz.prog 62 #[.int .i64 n] w fun x a=>∃ v,x=.returned (dU (decide (n<0)) v 0)/\DN a v n.natAbs/\Below w.heap.size w a:=by
 by_cases h:n<0
 ·rw [decide_eq_true h];exact DT n w h b
 ·rw [decide_eq_false h,show n.natAbs=n.toNat by omega];exact DS n w (by omega) c
theorem gv (neg:Bool) (v:Value) (e:Int) (N:Nat) (w:World) (h:DN w v N) (d:nd N<=1000000) (c: -10000000<=e) (a:e<=10000000) :
  Calls Tryz.prog 77 #[.agg #[.bool neg,v,.int .i64 e]] w fun x b=>x=.returned (.int .u64 (bJ neg N e false))/\Below w.heap.size w b:=GP neg v e N w h d c a
theorem bZ (u:Int) (w:World) (h:U64 u) :
  Calls Tryz.prog 41 #[.int .u64 u] w fun e a=>e=.returned (.bool (az u))/\a=w:=by
 have b:=dD h
 go_enter Tryz.func41,Tryz.ntmps41
 go_wp2
 go_ret
 exact⟨rfl,rfl⟩
theorem ph {u:Int} (h:U64 u):bits .and .u64 u 4503599627370495=szI u % 4503599627370496:=by
 rw [pe h.1 h.2];unfold szI;omega
theorem pj {z:Int} (a:0<=z) (h:z<18446744073709551616):bits .and .u64 z 2047=z % 2048:=by
 obtain⟨b,rfl⟩:=Int.eq_ofNat_of_zero_le a;have:=bits_and_u64_nat b 2047 (by omega) (by decide)
 rw [show ((2047:Nat):Int)=2047 from rfl] at this
 rw [this];have e:=Nat.and_two_pow_sub_one_eq_mod b 11;rw [show (2:Nat)^11 - 1=2047 from rfl,show (2:Nat)^11=2048 from rfl] at e
 rw [e];omega
theorem Oq (u:Int) (w:World) (h:U64 u) (s:0<szI u) (m:szI u<4503599627370496) :
  Calls Tryz.prog 74 #[.int .u64 u] w fun x n=>∃ v,x=.returned (dU (sgB u) v (-1074))/\DN n v (szI u).toNat/\Below w.heap.size w n:=by
 have y:bits .and .u64 u 4503599627370495=szI u:=by rw [ph h];omega
 have D:bits .and .u64 (u / 4503599627370496) 2047=0:=by
  have:=h.1;have:=h.2;rw [pj (by omega) (by omega)];unfold szI at m;omega
 have j:(szI u==0)=false:=by simp;omega
 have o:Hid (szI u=((szI u).toNat:Int)):=by show _=_;omega
 have k:decide (9223372036854775808<=u)=sgB u:=rfl;have g:(szI u).toNat<18446744073709551616:=by omega
 generalize szI u=z at s m y j o g
 generalize sgB u=sg at k
 unfold dU
 go_enter Tryz.func74,Tryz.ntmps74
 go_wp2_with fail
 refine (jD z z.toNat _ o g).mono ?_
 rintro x q ⟨A,rfl,f,d,e⟩;obtain⟨p,l,c,rfl⟩:=f.shape;have r:=aa e;obtain⟨t,C⟩:=wL e;have B:w.heap.size<q.heap.size:=by have:=e.size;simp at this;omega
 have i:=fun a b c=>((f.set d (a:=⟨w.heap.size,0,none⟩) (by simp) a).set d (a:=⟨w.heap.size,1,none⟩) (by simp) b).set d (a:=⟨w.heap.size,2,none⟩) (by simp) c
 have i:=aa i;clear f e d
 go_wp2_with fail
 refine bodyPost_ret (v:=.agg #[.bool sg,.slice p l c,.int .i64 (-1074)]) (by simp [results,Tryz.results74,go_sem,t]) rfl ⟨_,rfl,i.out _ _ _,?_⟩
 exact ((((Below.refl w.heap.size w).alloc (Nat.le_refl _) _).trans (r.out.mono (by simp))).setCell (Nat.le_refl _) _).setCell (Nat.le_refl _) _ |>.setCell (Nat.le_refl _) _
theorem DU (u:Int) (w:World) (h:U64 u) (y:4503599627370496<=szI u) (o:szI u<9218868437227405312) :
  Calls Tryz.prog 74 #[.int .u64 u] w fun x r=>∃ v,x=.returned (dU (sgB u) v (szI u / 4503599627370496 - 1075))/\DN r v (4503599627370496+szI u % 4503599627370496).toNat/\Below w.heap.size w r:=by
 have E:bits .and .u64 u 4503599627370495=szI u % 4503599627370496:=ph h;have C:bits .and .u64 (u / 4503599627370496) 2047=szI u / 4503599627370496:=by
  have:=h.1;have:=h.2;rw [pj (by omega) (by omega)];unfold szI at o ⊢;omega
 have j:0<szI u / 4503599627370496:=by omega
 have g:szI u / 4503599627370496<2047:=by omega
 have i:0<=szI u % 4503599627370496:=by omega
 have k:szI u % 4503599627370496<4503599627370496:=by omega
 have m:decide (9223372036854775808<=u)=sgB u:=rfl;clear y o;generalize szI u % 4503599627370496=z at E i k
 generalize szI u / 4503599627370496=q at C j g
 generalize sgB u=sg at m
 have B:Hid (z+4503599627370496=((4503599627370496+z).toNat:Int)):=by show _=_;omega
 have D:(z+4503599627370496==0)=false:=by simp;omega
 unfold dU
 go_enter Tryz.func74,Tryz.ntmps74
 go_wp2_with fail
 refine (jD _ (4503599627370496+z).toNat _ B (by omega)).mono ?_
 rintro x s ⟨F,rfl,f,d,e⟩;obtain⟨p,l,c,rfl⟩:=f.shape;have t:=aa e;obtain⟨A,H⟩:=wL e;have G:w.heap.size<s.heap.size:=by have:=e.size;simp at this;omega
 have n:=fun a b c=>((f.set d (a:=⟨w.heap.size,0,none⟩) (by simp) a).set d (a:=⟨w.heap.size,1,none⟩) (by simp) b).set d (a:=⟨w.heap.size,2,none⟩) (by simp) c
 have n:=aa n;clear f e d
 go_wp2_with fail
 refine bodyPost_ret (v:=.agg #[.bool sg,.slice p l c,.int .i64 (q - 1075)]) (by simp [results,Tryz.results74,go_sem,A]) rfl ⟨_,rfl,n.out _ _ _,?_⟩
 exact ((((Below.refl w.heap.size w).alloc (Nat.le_refl _) _).trans (t.out.mono (by simp))).setCell (Nat.le_refl _) _).setCell (Nat.le_refl _) _ |>.setCell (Nat.le_refl _) _
theorem Ot (u:Int) (w:World) (h:U64 u) (d:0<szI u) (c:szI u<9218868437227405312) :
  Calls Tryz.prog 74 #[.int .u64 u] w fun x b=>∃ v,x=.returned (dU (sgB u) v (kw (szI u)))/\DN b v (fZ (szI u)).toNat/\Below w.heap.size w b:=by
 unfold kw fZ
 by_cases a:szI u<4503599627370496
 ·rw [if_pos a,if_pos a];exact Oq u w h d a
 ·rw [if_neg a,if_neg a];exact DU u w h (by omega) c
theorem DN.form {w:World} {v:Value} {N:Nat} (h:DN w v N):∃ p c,v=.slice p (nd N) c:=by
 rcases h with⟨a,p,c,rfl⟩| ⟨a,g,c,rfl,_⟩
 ·exact⟨p,c,by rw [a];rfl⟩
 ·exact⟨_,_,rfl⟩
theorem pk (p q:Option Addr) (c d m n L A B:Nat) (w:World) (H:Hid (DN w (.slice p m c) A)) (K:Hid (DN w (.slice q n d) B)) (Z:max (m:Int) (n:Int)=(L:Int)) (hm:m<=10000000) (hn:n<=10000000) (u:Hid (A<2^(32*m))) (t:Hid (B<2^(32*n))) :
  Calls Tryz.prog 114 #[.slice p m c,.slice q n d] w fun e h=>∃ v,e=.returned v/\DN h v (A+B)/\From w.heap.size v/\Below w.heap.size w h:=by
 have R:m<=L:=by omega
 have T:n<=L:=by omega
 have M:L<=10000000:=by omega
 have j:=fun w=>run_make_row' (P:=Tryz.prog) 33 41 (.int .u64 0) 8 Tryz.underlying33 dT rfl .i64 .i64 (L+1) (by omega) (by omega) w
 have z:((L+1:Nat):Int)=(L:Int)+1:=by omega
 rw [z] at j
 clear z;have D:=aa (jF w (L+1) (A+B))
 go_enter Tryz.func114,Tryz.ntmps114
 go_wp2_with fail
 go_loopw [7,8] (fun s i wr=>∃ k c:Nat,k<=L+1/\c<=1/\i=.int .i64 k/\s=.int .u64 c/\Hid (c=cry A B k)/\Hid (rO wr w.heap.size (L+1) (A+B) k)/\Hid (Below w.heap.size w wr)) (fun _ i _=>L+1 - (intOf i).toNat)
 case atStart=>exact⟨0,0,Nat.zero_le _,Nat.zero_le _,rfl,rfl,(wO A B).symm,D,(Below.refl _ _).alloc (Nat.le_refl _) _⟩
 case round=>
  clear D j;obtain⟨k,x,V,X,rfl,rfl,S,l,o⟩:=hrel
  by_cases J:k<L+1
  ·have G:=aa (jE _ A k wr (H.out.below o.out));have y:=aa (jE _ B k wr (K.out.below o.out));have I:=bw A k;have O:=bw B k;have Y:=l.out.cell (i:=k) (by omega)
   have W:=l.out.frozen k;have r:=aa fun a b (N:a=dgt A k) (Q:b=dgt B k)=>DW (s:=a+b+x) N Q S.out rfl
   generalize E:dgt A k=a at G I
   generalize F:dgt B k=b at y O
   have r:=aa (r.out a b E.symm F.symm);clear E F
   go_wp2_with fail
   refine G.out.mono ?_
   rintro e h ⟨rfl,rfl⟩
   go_wp2_with fail
   refine y.out.mono ?_
   rintro e h ⟨rfl,rfl⟩
   go_wp2_with fail
   go_roundw
   case rel=>exact⟨k+1,(a+b+x) / 4294967296,by omega,by omega,by go_num,by go_num,r.out.2,jG l.out (by rw [<- r.out.1];omega),o.out.setCell (Nat.le_refl _) _⟩
   case measure=>simp [intOf];omega
  ·obtain rfl:k=L+1:=by omega
   have f:=aa (lg l.out);have C:Hid (A+B<2^(32*(L+1))):=sum_lt u.out t.out (by omega) (by omega)
   have g:=f.out.lt;have U:=aa (nv f.out.row C.out (Nat.le_refl _) g)
   go_wp2_with fail
   refine (dq _ _ _ _ _ f.out.row C.out (Nat.le_refl _) (by omega)).mono ?_
   rintro e h ⟨rfl,rfl⟩
   go_wp2_with fail
   go_ret
   exact⟨_,rfl,U.out,gX _ _ _ _ (Nat.le_refl _),o.out⟩
theorem ki (u v:Value) (A B:Nat) (w:World) (f:DN w u A) (b:DN w v B) (g:nd A<=10000000) (h:nd B<=10000000) :
  Calls Tryz.prog 114 #[u,v] w fun e a=>∃ v,e=.returned v/\DN a v (A+B)/\From w.heap.size v/\Below w.heap.size w a:=by
 obtain⟨p,c,rfl⟩:=f.form;obtain⟨q,d,rfl⟩:=b.form;exact pk p q c d (nd A) (nd B) (max (nd A) (nd B)) A B w f b (by omega) g h (cZ A) (cZ B)
theorem rU (p:Option Addr) (c:Nat) (v:Value) (w:World) :
  Calls Tryz.prog 116 #[.slice p 0 c,v] w fun e a=>∃ v,e=.returned v/\DN a v 0/\From w.heap.size v/\Below w.heap.size w a:=by
 have b:=fun w=>run_make_row' (P:=Tryz.prog) 33 41 (.int .u64 0) 8 Tryz.underlying33 dT rfl .i64 .i64 0 (by omega) (by omega) w
 rw [show ((0:Nat):Int)=0 from rfl] at b
 go_enter Tryz.func116,Tryz.ntmps116
 go_wp2_with fail
 go_loopw [6,7] (fun s i wr=>i=.int .i64 0/\s=.int .u64 0/\Hid (Below w.heap.size w wr)) (fun _ _ _=>0)
 case atStart=>exact⟨rfl,rfl,(Below.refl _ _).alloc (Nat.le_refl _) _⟩
 case round=>
  obtain⟨rfl,rfl,d⟩:=hrel
  go_wp2_with fail
  refine (dq w.heap.size 0 0 0 _ (fun i hi=>absurd hi (by omega)) (by decide) (Nat.le_refl _) (by omega)).mono ?_
  rintro e a ⟨rfl,rfl⟩
  go_wp2_with fail
  go_ret
  exact⟨_,rfl,Or.inl ⟨rfl,_,_,rfl⟩,gX _ _ _ _ (Nat.le_refl _),d.out⟩
theorem rV (g:Nat) (v:Value) (c m B D:Nat) (w:World) (h:Hid (RowIs w g m (B+D))) (F:g<w.heap.size) (G:Hid (DN w v B)) (V:m<=10000000) (t:Hid (B+D<2^(32*m))) :
  Calls Tryz.prog 116 #[.slice (some ⟨g,0,none⟩) m c,v] w fun e u=>∃ v,e=.returned v/\DN u v D/\From w.heap.size v/\Below w.heap.size w u:=by
 have y:=fun w=>run_make_row' (P:=Tryz.prog) 33 41 (.int .u64 0) 8 Tryz.underlying33 dT rfl .i64 .i64 m (by omega) (by omega) w
 have C:=aa (jF w m D)
 go_enter Tryz.func116,Tryz.ntmps116
 go_wp2_with fail
 go_loopw [6,7] (fun s i wr=>∃ k c:Nat,k<=m/\c<=1/\i=.int .i64 k/\s=.int .u64 c/\Hid (c=cry B D k)/\Hid (rO wr w.heap.size m D k)/\Hid (Below w.heap.size w wr)) (fun _ i _=>m - (intOf i).toNat)
 case atStart=>exact⟨0,0,Nat.zero_le _,Nat.zero_le _,rfl,rfl,(wO B D).symm,C,(Below.refl _ _).alloc (Nat.le_refl _) _⟩
 case round=>
  clear C y;obtain⟨k,x,Q,S,rfl,rfl,L,n,o⟩:=hrel
  by_cases r:k<m
  ·have K:wr.cell? ⟨g,k,none⟩=some (.int .u64 (dgt (B+D) k:Int)):=(o.out.cell (p:=⟨g,k,none⟩) F).trans (h.out k r);have z:=aa fun q=>jE _ B k (wr.drewN q) (G.out.below (below_drewN o.out q))
   have E:=bw (B+D) k;have I:=bw B k;have U:=n.out.cell (i:=k) (by omega)
   have R:=n.out.frozen k;have f:=aa (DX (k:=k) rfl rfl L.out);generalize dgt (B+D) k=a at K E f
   generalize dgt B k=b at z I f
   have J:=f.out.1;have j:=f.out.2.2.1;have O:IntKind.u64.wrap ((a:Int)+4294967296)=(a:Int)+4294967296:=by rw [IntKind.wrap_u64];omega
   have T:IntKind.u64.wrap ((a:Int)+4294967296 - (b:Int))=(a:Int)+4294967296 - (b:Int):=by rw [IntKind.wrap_u64];omega
   have M:IntKind.u64.wrap ((a:Int)+4294967296 - (b:Int) - (x:Int))=((a+4294967296 - b - x:Nat):Int):=by rw [IntKind.wrap_u64];omega
   have H:a+4294967296 - b - x<8589934592:=by omega
   generalize a+4294967296 - b - x=s at M f j H
   go_wp2_with fail
   go_quiet ((go_at_call 142;exact Calls.quiet_of_same (z.out _)))
   go_wp2_with fail
   go_roundw
   case rel=>exact⟨k+1,1 - s / 4294967296,by omega,by omega,by go_num,by go_num,f.out.2.2.2,jG (w:=wr.drewN nq) n.out (by rw [<- f.out.2.1];omega),(below_drewN o.out _).setCell (Nat.le_refl _) _⟩
   case measure=>simp [intOf];omega
  ·obtain rfl:k=m:=by omega
   have d:=aa (lg n.out);have A:Hid (D<2^(32*k)):=by show _<_;have:=t.out;omega
   have l:=d.out.lt;have N:=aa (nv d.out.row A.out (Nat.le_refl _) l)
   go_wp2_with fail
   refine (dq _ _ _ _ _ d.out.row A.out (Nat.le_refl _) (by omega)).mono ?_
   rintro e u ⟨rfl,rfl⟩
   go_wp2_with fail
   go_ret
   exact⟨_,rfl,N.out,gX _ _ _ _ (Nat.le_refl _),o.out⟩
theorem dQ (u v:Value) (A B:Nat) (w:World) (d:DN w u A) (h:DN w v B) (j:nd A<=10000000) (k:B<=A) :
  Calls Tryz.prog 116 #[u,v] w fun e a=>∃ v,e=.returned v/\DN a v (A - B)/\From w.heap.size v/\Below w.heap.size w a:=by
 obtain⟨D,rfl⟩:∃ D,A=B+D:=⟨A - B,by omega⟩
 rw [Nat.add_sub_cancel_left];rcases d with⟨b,p,c,rfl⟩| ⟨b,g,c,rfl,l,f,i⟩
 ·rw [show D=0 by omega];exact rU p c v w
 ·exact rV g v c (nd (B+D)) B D w i f h j (cZ _)
theorem rW (p q:Option Addr) (m n c d A B:Nat) (w:World) (f:Hid (nd A=m)) (b:Hid (nd B=n)) (a:m≠n) :
  Calls Tryz.prog 115 #[.slice p m c,.slice q n d] w fun e g=>e=.returned (.int .i64 (mB A B))/\∃ q,g=w.drewN q:=by
 rcases Nat.lt_or_gt_of_ne a with h | h
 ·have e:mB A B= -1:=li (wQ (by rw [f.out,b.out];exact h))
  rw [e]
  go_enter Tryz.func115,Tryz.ntmps115
  go_wp2
  go_ret
  exact⟨rfl,0,rfl⟩
 ·have e:mB A B=1:=lk (wQ (by rw [f.out,b.out];exact h))
  rw [e]
  go_enter Tryz.func115,Tryz.ntmps115
  go_wp2
  go_ret
  exact⟨rfl,0,rfl⟩
theorem wR {A n:Nat} (h:A<2^(32*n)):A / 2^(32*n)=0:=Nat.div_eq_of_lt h
theorem rX (g f n c d A B:Nat) (w:World) (v:Hid (RowIs w g n A)) (t:Hid (RowIs w f n B)) (y:Hid (A<2^(32*n))) (z:Hid (B<2^(32*n))) (hn:n<=10000000) :
  Calls Tryz.prog 115 #[.slice (some ⟨g,0,none⟩) n c,.slice (some ⟨f,0,none⟩) n d] w fun e C=>e=.returned (.int .i64 (mB A B))/\∃ q,C=w.drewN q:=by
 go_enter Tryz.func115,Tryz.ntmps115
 go_wp2_with fail
 go_loopw [5] (fun i wr=>∃ k:Nat,k<=n/\i=.int .i64 ((k:Int) - 1)/\Hid (A / 2^(32*k)=B / 2^(32*k))/\Hid (∃ q,wr=w.drewN q)) (fun i _=>(intOf i+1).toNat)
 case atStart=>exact⟨n,Nat.le_refl _,rfl,by show _=_;rw [wR y.out,wR z.out],0,rfl⟩
 case round=>
  obtain⟨k,F,rfl,r,o⟩:=hrel;cases k with
  | zero=>
   have e:mB A B=0:=lj (by have:=r.out;rw [Nat.mul_zero,Nat.pow_zero,Nat.div_one,Nat.div_one] at this;exact this)
   have E:=aa e.symm;clear e
   go_wp2_with fail
   go_ret
   exact⟨bu E.out,o.out⟩
  | succ j=>
   have x:((j+1:Nat):Int) - 1=(j:Int):=by omega
   rw [x];have u:wr.cell? ⟨g,j,none⟩=some (.int .u64 (dgt A j:Int)):=by obtain⟨q,rfl⟩:=o.out;exact v.out j (by omega)
   have s:wr.cell? ⟨f,j,none⟩=some (.int .u64 (dgt B j:Int)):=by obtain⟨q,rfl⟩:=o.out;exact t.out j (by omega)
   clear x;have p:=aa fun h=>li (sJ r.out h)
   have l:=aa fun h=>lk (sJ r.out.symm h)
   have m:=aa fun h=>DY r.out h
   generalize dgt A j=a at u p l m
   generalize dgt B j=b at s p l m
   clear r;rcases Nat.lt_trichotomy a b with h | h | h
   ·have e:=p.out h;have E:=aa e.symm;clear e p l m
    go_wp2_with fail
    go_quiet (fail)
    go_wp2_with fail
    go_ret
    refine⟨bu E.out,?_⟩
    obtain⟨q,rfl⟩:=o.out;exact⟨_,World.drewN_drewN _ _ _⟩
   ·have D:=aa (m.out h);clear p l m;subst h
    go_wp2_with fail
    go_quiet (fail)
    go_wp2_with fail
    go_quiet (fail)
    go_wp2_with fail
    go_roundw
    case rel=>
     refine⟨j,by omega,by go_num,D,?_⟩
     obtain⟨q,rfl⟩:=o.out;exact⟨_,by first | exact World.drewN_drewN _ _ _ | rw [World.drewN_drewN,World.drewN_drewN]⟩
    case measure=>simp [intOf]
   ·have e:=l.out h;have E:=aa e.symm;clear e p l m
    go_wp2_with fail
    go_quiet (fail)
    go_wp2_with fail
    go_quiet (fail)
    go_wp2_with fail
    go_ret
    refine⟨bu E.out,?_⟩
    obtain⟨q,rfl⟩:=o.out;exact⟨_,by first | exact World.drewN_drewN _ _ _ | rw [World.drewN_drewN,World.drewN_drewN]⟩
theorem rY (p q:Option Addr) (c d:Nat) (w:World) :
  Calls Tryz.prog 115 #[.slice p 0 c,.slice q 0 d] w fun e a=>e=.returned (.int .i64 0)/\∃ q,a=w.drewN q:=by
 go_enter Tryz.func115,Tryz.ntmps115
 go_wp2_with fail
 go_loop [5] (fun i=>i=.int .i64 (-1)) (fun _=>0)
 case atStart=>rfl
 case round=>
  subst hrel
  go_wp2_with fail
  go_ret
  exact⟨rfl,0,rfl⟩
theorem cL (u v:Value) (A B:Nat) (w:World) (k:DN w u A) (i:DN w v B) (o:nd A<=10000000) :
  Calls Tryz.prog 115 #[u,v] w fun e r=>e=.returned (.int .i64 (mB A B))/\∃ q,r=w.drewN q:=by
 by_cases a:nd A=nd B
 ·rcases k with⟨h,p,c,rfl⟩| ⟨h,g,c,rfl,x,t,n⟩
  ·rcases i with⟨b,q,d,rfl⟩| ⟨b,f,d,rfl,s,m,j⟩
   ·rw [lj (h.trans b.symm)];exact rY p q c d w
   ·exfalso;have l:=dm b;rw [h,ur] at a;omega
  ·rcases i with⟨b,q,d,rfl⟩| ⟨b,f,d,rfl,s,m,j⟩
   ·exfalso;have l:=dm h;rw [b,ur] at a;omega
   ·rw [<- a] at j ⊢
    exact rX g f (nd A) c d A B w n j (cZ A) (by show _<_;rw [a];exact cZ B) o
 ·obtain⟨p,c,rfl⟩:=k.form;obtain⟨q,d,rfl⟩:=i.form;exact rW p q _ _ c d A B w rfl rfl a
end Go.Proofs.YtfdddijdjpijbaaGreat
