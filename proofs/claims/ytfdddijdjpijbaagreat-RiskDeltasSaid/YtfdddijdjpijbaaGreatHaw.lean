/-  -/
import Derived.Test.YtfdddijdjpijbaaGreatHar
import Derived.Deep.RegionHeld3
import Derived.Test.YtfdddijdjpijbaaGreatHac
import Derived.Deep.RegionWith
import Derived.Lib.MinMax
import Derived.Test.YtfdddijdjpijbaaGreatHaq
set_option maxHeartbeats 2000000
set_option maxRecDepth 10000
namespace Go.Proofs.YtfdddijdjpijbaaGreat
open Go.RowKit
def bT (N n:Nat):Bool:=decide (N % 2^n≠0)
theorem Er (N:Nat):bT N 0=false:=by unfold bT;rw [Nat.pow_zero,Nat.mod_one];rfl
theorem Es (N k:Nat):bT N (32*(k+1))=(bT N (32*k)||decide (dgt N k≠0)):=by
 unfold bT;rw [fG];have c:=Nat.two_pow_pos (32*k)
 by_cases b:N % 2^(32*k)=0
 ·by_cases a:dgt N k=0
  ·simp [b,a]
  ·have:dgt N k*2^(32*k)≠0:=Nat.mul_ne_zero a (by omega)
   simp [b,a];exact this
 ·simp [b]
theorem Ht {N q r n:Nat} (hn:n=32*q+r) (f:r<32):bT N n=(bT N (32*q)||decide (dgt N q % 2^r≠0)):=by
 unfold bT;have e:N % 2^n=N % 2^(32*q)+2^(32*q)*(N / 2^(32*q) % 2^r):=by rw [hn,Nat.pow_add,Nat.mod_mul]
 have c:dgt N q % 2^r=N / 2^(32*q) % 2^r:=by
  unfold dgt;exact Nat.mod_mod_of_dvd _ (by rw [show (4294967296:Nat)=2^r*2^(32 - r) by rw [<- Nat.pow_add,show r+(32 - r)=32 by omega]];exact Nat.dvd_mul_right _ _)
 rw [e,c];have d:=Nat.two_pow_pos (32*q)
 by_cases b:N % 2^(32*q)=0
 ·by_cases a:N / 2^(32*q) % 2^r=0
  ·simp [b,a]
  ·have:2^(32*q)*(N / 2^(32*q) % 2^r)≠0:=Nat.mul_ne_zero (by omega) a
   simp [b,a];exact this
 ·simp [b]
theorem AJ (N q r n i:Nat) (hn:n=32*q+r) (d:r<32):(dgt N (i+q)+dgt N (i+q+1)*4294967296) / 2^r % 4294967296=dgt (N / 2^n) i:=by
 have b:dgt N (i+q)+dgt N (i+q+1)*4294967296=N / 2^(32*(i+q)) % (4294967296*4294967296):=by
  unfold dgt;rw [gH,<- Nat.div_div_eq_div_mul];rw [Nat.mod_mul,Nat.mul_comm 4294967296]
 rw [b];unfold dgt;have c:N / 2^n / 2^(32*i)=N / 2^(32*(i+q)) / 2^r:=by
  rw [Nat.div_div_eq_div_mul,Nat.div_div_eq_div_mul,<- Nat.pow_add,<- Nat.pow_add];congr 2;omega
 rw [c];generalize N / 2^(32*(i+q))=Y;have a:(4294967296*4294967296:Nat)=2^r*(4294967296*2^(32 - r)):=by
  rw [Nat.mul_left_comm,<- Nat.pow_add,show r+(32 - r)=32 by omega]
 rw [a,Nat.mod_mul_right_div_self];exact Nat.mod_mod_of_dvd _ (Nat.dvd_mul_right _ _)
theorem pD {r:Nat} (h:r<32):IntKind.u64.wrap (2^r)=((2^r:Nat):Int):=by
 have b:(2:Nat)^r<=2^31:=Nat.pow_le_pow_right (by decide) (by omega)
 have a:((2:Int)^r)=((2^r:Nat):Int):=by rw [Int.natCast_pow];rfl
 rw [a,IntKind.wrap_u64];generalize 2^r=z at *
 omega
theorem tc (g m c N kk:Nat) (i:Int) (w:World) (f:RowIs w g m N) (b:N<2^(32*m)) (hi:Hid (i=kk)) :
  Calls Tryz.prog 142 #[.slice (some ⟨g,0,none⟩) m c,.int .i64 i] w fun e d=>e=.returned (.int .u64 (dgt N kk:Int))/\d=w:=by
 rw [hi.out]
 by_cases a:kk<m
 ·exact wZ g m c kk _ w a (f kk a)
 ·rw [mI (Nat.lt_of_lt_of_le b (Nat.pow_le_pow_right (by decide) (by omega)))];exact mJ _ _ c kk w (by omega)
theorem Dd {w:World} {g m N b j:Nat} {v:Value} (h:RowIs w g m N) (a:b≠g):RowIs (w.setCell ⟨b,j,none⟩ v) g m N:=
 fun i hi=>(World.cell?_setCell_far w ⟨b,j,none⟩ ⟨g,i,none⟩ v a).trans (h i hi)
theorem uU {v:Value} {a b:Bool} (h:a=b):Ending.returned (.tuple #[v,.bool a])=.returned (.tuple #[v,.bool b]):=by rw [h]
theorem Mm (D P:Nat):((D:Int) % (P:Int) !=0)=decide (D % P≠0):=by
 by_cases h:D % P=0
 ·have:(D:Int) % (P:Int)=0:=by rw [<- Int.natCast_emod,h];rfl
  simp [h,this]
 ·have:(D:Int) % (P:Int)≠0:=by rw [<- Int.natCast_emod];omega
  simp [h,this]
theorem xe {N q r n i:Nat} (hn:n=32*q+r) (a:r<32):(((dgt N (i+q):Int)+(dgt N (i+q+1):Int)*4294967296) / 2^r).tmod 4294967296=(dgt (N / 2^n) i:Int):=by
 have e:=AJ N q r n i hn a;have b:((dgt N (i+q):Int)+(dgt N (i+q+1):Int)*4294967296) / 2^r=(((dgt N (i+q)+dgt N (i+q+1)*4294967296) / 2^r:Nat):Int):=by
  rw [Int.natCast_ediv,Int.natCast_add,Int.natCast_mul,Int.natCast_pow];rfl
 rw [b,Int.tmod_eq_emod_of_nonneg (Int.natCast_nonneg _),<- e,Int.natCast_emod];rfl
def sj (w:World) (b n M j:Nat):Prop:=w.rowIs b 41 n (fun i=>.int .u64 ((if i<j then dgt M i else 0:Nat):Int))
theorem jO (w:World) (n M:Nat):sj (w.alloc (.cells (madeCells #[.int .u64 0] n) 41)) w.heap.size n M 0:=
 (World.rowIs_made w (.int .u64 0) n 41).congr (fun i _=>by rw [if_neg (by omega)];rfl)
theorem jP {w:World} {b n M j:Nat} {x:Int} (h:sj w b n M j) (a:x=(dgt M j:Int)):sj (w.setCell ⟨b,j,none⟩ (.int .u64 x)) b n M (j+1):=by
 refine (h.set j (.int .u64 x)).congr fun i _=>?_
 by_cases c:i=j
 ·rw [if_pos c,if_pos (by omega),a,c]
 ·rw [if_neg c]
  by_cases d:i<j
  ·rw [if_pos d,if_pos (by omega)]
  ·rw [if_neg d,if_neg (by omega)]
theorem lj {w:World} {b n M:Nat} (h:sj w b n M n):Own w b n M:=h.congr (fun i hi=>by rw [if_pos hi])
theorem kq (p:Option Addr) (m c:Nat) (n:Int) (w:World) (b:m<=10000000) (h:32*(m:Int)<=n) :
  Calls Tryz.prog 143 #[.slice p m c,.int .i64 n] w fun e a=>e=.returned (.tuple #[.slice none 0 0,.bool (decide (0<m))])/\a=w:=by
 go_enter Tryz.func143,Tryz.ntmps143
 go_wp2
 go_ret2
 exact⟨rfl,rfl⟩
theorem sk (g c N m n q r:Nat) (w:World) (hm:1<=m) (bb:m<=10000000) (hn:(n:Int)<32*m) (hq:(n:Int) / 32=q) (hr:(n:Int) % 32=r) (b:Hid (RowIs w g m N)) (hg:g<w.heap.size) (Y:Hid (N<2^(32*m))) :
  Calls Tryz.prog 143 #[.slice (some ⟨g,0,none⟩) m c,.int .i64 n] w fun e a=>∃ v,e=.returned (.tuple #[v,.bool (bT N n)])/\DN a v (N / 2^n)/\Below w.heap.size w a:=by
 have I:r<32:=by omega
 have ba:q<m:=by omega
 have W:Hid (n=32*q+r):=by show _=_;omega
 go_enter Tryz.func143,Tryz.ntmps143
 go_wp2
 go_loop [6,7] (fun l i=>∃ k:Nat,k<=q/\l=.bool (bT N (32*k))/\i=.int .i64 k) (fun _ i=>q - (intOf i).toNat)
 case atStart=>exact⟨0,Nat.zero_le _,by rw [Nat.mul_zero,Er],rfl⟩
 case round=>
  obtain⟨k,hk,rfl,rfl⟩:=hrel
  by_cases S:k<q
  ·have hc:=b.out k (by omega)
   have R:=aa (Es N k);have J:Hid (∀ D,dgt N k=D->bT N (32*(k+1))=(bT N (32*k)||decide (D≠0))):=fun D G=>by rw [<- G];exact R.out
   generalize G:dgt N k=D at hc
   have R:=aa (J.out D G);clear G J;cases T:bT N (32*k)
   ·rw [T,Bool.false_or] at R
    by_cases h0:D=0
    ·subst h0;go_wp2
     go_round
     case rel=>exact⟨k+1,by omega,by rw [R.out];rfl,by go_num⟩
     case measure=>simp [intOf];omega
    ·have Z:((D:Int) !=0)=true:=by simpa using h0
     have H0:=aa h0;clear h0;go_wp2
     go_round
     case rel=>exact⟨k+1,by omega,by rw [R.out,decide_eq_true H0.out],by go_num⟩
     case measure=>simp [intOf];omega
   ·rw [T,Bool.true_or] at R
    go_wp2
    go_round
    case rel=>exact⟨k+1,by omega,by rw [R.out],by go_num⟩
    case measure=>simp [intOf];omega
  ·obtain rfl:k=q:=by omega
   have al:=b.out k ba;have bc:(k:Int)<(m:Int):=by omega
   have K:=aa (Ht (N:=N) W.out I);have J:Hid (∀ D,dgt N k=D->bT N n=(bT N (32*k)||decide (D % 2^r≠0))):=fun D G=>by rw [<- G];exact K.out
   have b1:=bB N k;generalize G:dgt N k=D at al b1
   have K:=aa (J.out D G);clear G J;cases T:bT N (32*k)
   ·rw [T,Bool.false_or] at K
    have ai:=pD I;have hP:=Nat.two_pow_pos r;generalize 2^r=P at ai K hP
    go_wp2_with fail
    go_quiet (fail)
    have Q:=fun w=>run_make_row' (P:=Tryz.prog) 33 41 (.int .u64 0) 8 Tryz.underlying33 eA rfl .i64 .i64 (m - k) (by omega) (by omega) w
    have U:((m - k:Nat):Int)=(m:Int) - (k:Int):=by omega
    rw [U] at Q
    clear U
    go_wp2_with fail
    rw [hr]
    go_loopw [9] (fun i wr=>∃ j:Nat,j<=m - k/\i=.int .i64 j/\Hid (sj wr w.heap.size (m - k) (N / 2^n) j)/\Hid (Below w.heap.size w wr)) (fun i _=>m - k - (intOf i).toNat)
    case atStart=>exact⟨0,Nat.zero_le _,rfl,jO (w.drewN nq) (m - k) _,below_drewN ((Below.refl _ _).alloc (Nat.le_refl _) _) _⟩
    case round=>
     obtain⟨j,hj,rfl,C,H⟩:=hrel
     by_cases S:j<m - k
     ·have o:wr.cell? ⟨g,j+k,none⟩=some (.int .u64 (dgt N (j+k):Int)):=(H.out.cell (p:=⟨g,j+k,none⟩) hg).trans (b.out (j+k) (by omega))
      have M:Hid (RowIs wr g m N):=b.out.below hg H.out;have Z:=C.out.cell (i:=j) (by omega)
      have f1:=C.out.frozen j;have b2:=bB N (j+k);have b3:=bB N (j+k+1);generalize hE:(if j<j then dgt (N / 2^n) j else 0:Nat)=E at Z
      clear hE;have am:(j:Int)+(k:Int)<(m:Int):=by omega
      have ad:(j:Int)<((m - k:Nat):Int):=by omega
      go_wp2_with fail
      generalize y:dgt N (j+k)=F at o b2
      have L:=aa y;clear y;generalize A:dgt N (j+k+1)=s at b3
      have z:=aa A;clear A;have t1:(n:Int).tdiv 32=(k:Int):=by rw [Int.tdiv_eq_ediv_of_nonneg (by omega)];exact hq
      have t2:(n:Int).tmod 32=(r:Int):=by rw [Int.tmod_eq_emod_of_nonneg (by omega)];exact hr
      have w0:IntKind.i64.wrap (k:Int)=(k:Int):=by rw [IntKind.wrap_i64];omega
      have ab:IntKind.i64.wrap (r:Int)=(r:Int):=by rw [IntKind.wrap_i64];omega
      have nn:(0:Int)<=(j:Int)+(k:Int):=by omega
      have tn:((j:Int)+(k:Int)).toNat=j+k:=by omega
      have w1:IntKind.i64.wrap ((j:Int)+(k:Int))=(j:Int)+(k:Int):=by rw [IntKind.wrap_i64];omega
      have w2:IntKind.i64.wrap ((j:Int)+(k:Int)+1)=(j:Int)+(k:Int)+1:=by rw [IntKind.wrap_i64];omega
      have w3:IntKind.u64.wrap ((s:Int)*4294967296)=(s:Int)*4294967296:=by rw [IntKind.wrap_u64];omega
      have w4:IntKind.u64.wrap ((F:Int)+(s:Int)*4294967296)=(F:Int)+(s:Int)*4294967296:=by rw [IntKind.wrap_u64];omega
      have d:∀ a,RowIs a g m N->Calls Tryz.prog 142 #[.slice (some ⟨g,0,none⟩) m c,.int .i64 ((j:Int)+(k:Int)+1)] a fun e O=>e=.returned (.int .u64 (s:Int))/\O=a:=fun a h=>by
       have:=tc g m c N (j+k+1) ((j:Int)+(k:Int)+1) a h Y.out (by show _=_;omega)
       rw [z.out] at this;exact this
      have B:=aa d;clear d;have f:w.heap.size≠g:=by omega
      have u:Hid (sj (wr.setCell ⟨w.heap.size,j,none⟩ (.int .u64 ((((F:Int)+(s:Int)*4294967296) / 2^r).tmod 4294967296))).drew w.heap.size (m - k) (N / 2^n) (j+1)):=jP C.out (by rw [<- L.out,<- z.out];exact xe W.out I)
      have x:Hid (Below w.heap.size w (wr.setCell ⟨w.heap.size,j,none⟩ (.int .u64 ((((F:Int)+(s:Int)*4294967296) / 2^r).tmod 4294967296))).drew):=(H.out.setCell (Nat.le_refl _) _).drew
      go_region_held3 (fun a=>a.cell? ⟨g,j+k,none⟩=some (.int .u64 (F:Int))/\RowIs a g m N) (first | exact⟨o,M.out⟩| exact⟨(World.cell?_setCell_far _ _ _ _ f).trans o,Dd M.out f⟩| go_keep) ((go_at_call 142;refine (B.out _ (by first | assumption | exact M.out)).mono ?_;rintro e a ⟨rfl,rfl⟩))
      go_wp2_with fail
      go_roundw
      case rel=>first | exact⟨j+1,by omega,by go_num,u,x⟩| ((repeat apply Exists.intro);exact⟨⟨j+1,by omega,by go_num,u,x⟩,rfl⟩)
      case measure=>simp [intOf];omega
     ·obtain rfl:j=m - k:=by omega
      have X:=aa (lj C.out);have V:Hid (N / 2^n<2^(32*(m - k))):=by
       show _<_
       rw [Nat.div_lt_iff_lt_mul (Nat.two_pow_pos _),<- Nat.pow_add];refine Nat.lt_of_lt_of_le Y.out (Nat.pow_le_pow_right (by decide) ?_)
       have:=W.out;omega
      have t:=C.out.lt;have J:=aa (nH X.out.row V.out (Nat.le_refl _) t)
      go_wp2_with fail
      refine (du _ _ _ _ _ X.out.row V.out (Nat.le_refl _) (by omega)).mono ?_
      rintro e a ⟨rfl,rfl⟩
      go_wp2_with fail
      go_ret2
      exact⟨_,uU (by rw [K.out];exact Mm D P),J.out,H.out⟩
   ·rw [T,Bool.true_or] at K
    go_wp2_with fail
    go_quiet (fail)
    have Q:=fun w=>run_make_row' (P:=Tryz.prog) 33 41 (.int .u64 0) 8 Tryz.underlying33 eA rfl .i64 .i64 (m - k) (by omega) (by omega) w
    have U:((m - k:Nat):Int)=(m:Int) - (k:Int):=by omega
    rw [U] at Q
    clear U
    go_wp2_with fail
    go_loopw [9] (fun i wr=>∃ j:Nat,j<=m - k/\i=.int .i64 j/\Hid (sj wr w.heap.size (m - k) (N / 2^n) j)/\Hid (Below w.heap.size w wr)) (fun i _=>m - k - (intOf i).toNat)
    case atStart=>exact⟨0,Nat.zero_le _,rfl,jO (w.drewN nq) (m - k) _,below_drewN ((Below.refl _ _).alloc (Nat.le_refl _) _) _⟩
    case round=>
     obtain⟨j,hj,rfl,C,H⟩:=hrel
     by_cases S:j<m - k
     ·have o:wr.cell? ⟨g,j+k,none⟩=some (.int .u64 (dgt N (j+k):Int)):=(H.out.cell (p:=⟨g,j+k,none⟩) hg).trans (b.out (j+k) (by omega))
      have M:Hid (RowIs wr g m N):=b.out.below hg H.out;have Z:=C.out.cell (i:=j) (by omega)
      have f1:=C.out.frozen j;have b2:=bB N (j+k);have b3:=bB N (j+k+1);generalize hE:(if j<j then dgt (N / 2^n) j else 0:Nat)=E at Z
      clear hE;have am:(j:Int)+(k:Int)<(m:Int):=by omega
      have ad:(j:Int)<((m - k:Nat):Int):=by omega
      go_wp2_with fail
      generalize y:dgt N (j+k)=F at o b2
      have L:=aa y;clear y;generalize A:dgt N (j+k+1)=s at b3
      have z:=aa A;clear A;have t1:(n:Int).tdiv 32=(k:Int):=by rw [Int.tdiv_eq_ediv_of_nonneg (by omega)];exact hq
      have t2:(n:Int).tmod 32=(r:Int):=by rw [Int.tmod_eq_emod_of_nonneg (by omega)];exact hr
      have w0:IntKind.i64.wrap (k:Int)=(k:Int):=by rw [IntKind.wrap_i64];omega
      have ab:IntKind.i64.wrap (r:Int)=(r:Int):=by rw [IntKind.wrap_i64];omega
      have nn:(0:Int)<=(j:Int)+(k:Int):=by omega
      have tn:((j:Int)+(k:Int)).toNat=j+k:=by omega
      have w1:IntKind.i64.wrap ((j:Int)+(k:Int))=(j:Int)+(k:Int):=by rw [IntKind.wrap_i64];omega
      have w2:IntKind.i64.wrap ((j:Int)+(k:Int)+1)=(j:Int)+(k:Int)+1:=by rw [IntKind.wrap_i64];omega
      have w3:IntKind.u64.wrap ((s:Int)*4294967296)=(s:Int)*4294967296:=by rw [IntKind.wrap_u64];omega
      have w4:IntKind.u64.wrap ((F:Int)+(s:Int)*4294967296)=(F:Int)+(s:Int)*4294967296:=by rw [IntKind.wrap_u64];omega
      have d:∀ a,RowIs a g m N->Calls Tryz.prog 142 #[.slice (some ⟨g,0,none⟩) m c,.int .i64 ((j:Int)+(k:Int)+1)] a fun e O=>e=.returned (.int .u64 (s:Int))/\O=a:=fun a h=>by
       have:=tc g m c N (j+k+1) ((j:Int)+(k:Int)+1) a h Y.out (by show _=_;omega)
       rw [z.out] at this;exact this
      have B:=aa d;clear d;have f:w.heap.size≠g:=by omega
      have u:Hid (sj (wr.setCell ⟨w.heap.size,j,none⟩ (.int .u64 ((((F:Int)+(s:Int)*4294967296) / 2^r).tmod 4294967296))).drew w.heap.size (m - k) (N / 2^n) (j+1)):=jP C.out (by rw [<- L.out,<- z.out];exact xe W.out I)
      have x:Hid (Below w.heap.size w (wr.setCell ⟨w.heap.size,j,none⟩ (.int .u64 ((((F:Int)+(s:Int)*4294967296) / 2^r).tmod 4294967296))).drew):=(H.out.setCell (Nat.le_refl _) _).drew
      go_region_held3 (fun a=>a.cell? ⟨g,j+k,none⟩=some (.int .u64 (F:Int))/\RowIs a g m N) (first | exact⟨o,M.out⟩| exact⟨(World.cell?_setCell_far _ _ _ _ f).trans o,Dd M.out f⟩| go_keep) ((go_at_call 142;refine (B.out _ (by first | assumption | exact M.out)).mono ?_;rintro e a ⟨rfl,rfl⟩))
      go_wp2_with fail
      go_roundw
      case rel=>first | exact⟨j+1,by omega,by go_num,u,x⟩| ((repeat apply Exists.intro);exact⟨⟨j+1,by omega,by go_num,u,x⟩,rfl⟩)
      case measure=>simp [intOf];omega
     ·obtain rfl:j=m - k:=by omega
      have X:=aa (lj C.out);have V:Hid (N / 2^n<2^(32*(m - k))):=by
       show _<_
       rw [Nat.div_lt_iff_lt_mul (Nat.two_pow_pos _),<- Nat.pow_add];refine Nat.lt_of_lt_of_le Y.out (Nat.pow_le_pow_right (by decide) ?_)
       have:=W.out;omega
      have t:=C.out.lt;have J:=aa (nH X.out.row V.out (Nat.le_refl _) t)
      go_wp2_with fail
      refine (du _ _ _ _ _ X.out.row V.out (Nat.le_refl _) (by omega)).mono ?_
      rintro e a ⟨rfl,rfl⟩
      go_wp2_with fail
      go_ret2
      exact⟨_,uU K.out.symm,J.out,H.out⟩
theorem sn (v:Value) (N n:Nat) (w:World) (h:DN w v N) (f:nd N<=10000000) :
  Calls Tryz.prog 143 #[v,.int .i64 n] w fun e d=>∃ v,e=.returned (.tuple #[v,.bool (bT N n)])/\DN d v (N / 2^n)/\Below w.heap.size w d:=by
 rcases h with⟨b,p,c,rfl⟩| ⟨b,g,c,rfl,m,k,j⟩
 ·refine (kq p 0 c n w (by omega) (by omega)).mono ?_
  rintro e d ⟨rfl,rfl⟩;exact⟨_,uU (by rw [b];unfold bT;rw [Nat.zero_mod];rfl),Or.inl ⟨by rw [b,Nat.zero_div],none,0,rfl⟩,Below.refl _ _⟩
 ·have l:=dt b
  by_cases i:32*(nd N:Int)<=n
  ·have a:N<2^n:=Nat.lt_of_lt_of_le (dh N) (Nat.pow_le_pow_right (by decide) (by omega))
   refine (kq _ (nd N) c n w f i).mono ?_
   rintro e d ⟨rfl,rfl⟩;exact⟨_,uU (by unfold bT;rw [Nat.mod_eq_of_lt a];simp [b];omega),Or.inl ⟨Nat.div_eq_of_lt a,none,0,rfl⟩,Below.refl _ _⟩
  ·exact sk g c N (nd N) n (n / 32) (n % 32) w l f (by omega) (by omega) (by omega) j k (dh N)
theorem fH (v:Value) (N k:Nat) (i:Int) (q:Int) (w:World) (h:DN w v N) (hi:Hid (i=k)) (a:Hid ((dgt N k:Int)=q)) :
  Calls Tryz.prog 142 #[v,.int .i64 i] w fun e b=>e=.returned (.int .u64 q)/\b=w:=by
 rw [hi.out,<- a.out];exact jN v N k w h
theorem AK (v:Value) (N n:Nat) (i:Int) (w:World) (h:DN w v N) (b:nd N<=10000000) (hn:n<=100000000) (hi:Hid (i=n)) :
  Calls Tryz.prog 97 #[v,.int .i64 i] w fun e a=>∃ v,e=.returned v/\DN a v (N*2^n)/\Below w.heap.size w a:=by
 rw [hi.out];exact nI v N n w h b hn
theorem ik (v:Value) (N n:Nat) (i:Int) (w:World) (h:DN w v N) (b:nd N<=10000000) (hi:Hid (i=n)) :
  Calls Tryz.prog 143 #[v,.int .i64 i] w fun e a=>∃ v,e=.returned (.tuple #[v,.bool (bT N n)])/\DN a v (N / 2^n)/\Below w.heap.size w a:=by
 rw [hi.out];exact sn v N n w h b
theorem DN.drewN {w:World} {v:Value} {N:Nat} (h:DN w v N) (n:Nat):DN (w.drewN n) v N:=h
theorem AL (v:Value) (N:Nat) (e L:Int) (more:Bool) (w:World) (h:DN w v N) (Q:nd N<=1000000) (P: -10000000<=e) (A:e<=10000000) (l:Hid (L=aK N e)) (c:L<=e) (u:L+1074<=3000) :
  Calls Tryz.prog 140 #[v,.int .i64 e,.bool more,.int .i64 53,.int .i64 (-1074)] w fun x r=>x=.returned (.int .u64 (rnd53 N e more:Int))/\Below w.heap.size w r:=by
 have m:=sX N;have HK:Hid (N*2^(e - L).toNat<9007199254740992):=by rw [l.out] at c ⊢;exact Dc c
 have y: -1074<=L:=by rw [l.out];exact uT N e
 have s:Hid ((rnd53 N e more:Int)=(L+1074)*4503599627370496+(dgt (N*2^(e - L).toNat) 0:Int)+(dgt (N*2^(e - L).toNat) 1:Int)*4294967296):=by
  show _=_
  have D:=ii (K:=N*2^(e - L).toNat) (by have:=HK.out;omega)
  have G:rnd53 N e more=(L+1074).toNat*4503599627370496+N*2^(e - L).toNat:=by
   unfold rnd53 kD;rw [<- l.out,if_pos c]
  rw [G];generalize N*2^(e - L).toNat=K at *
  omega
 have d:max ((bl N:Int) - 53+e) (-1074)=L:=by rw [l.out];rfl
 have E:=bB (N*2^(e - L).toNat) 0;have n:dgt (N*2^(e - L).toNat) 1<=2097152:=by
  have D:=ii (K:=N*2^(e - L).toNat) (by have:=HK.out;omega)
  have:=HK.out;omega
 rw [s.out];generalize f:dgt (N*2^(e - L).toNat) 0=g at E
 generalize a:dgt (N*2^(e - L).toNat) 1=k at n
 have p:Hid ((dgt (N*2^(e - L).toNat) 0:Int)=g):=by show _=_;rw [f]
 have o:Hid ((dgt (N*2^(e - L).toNat) 1:Int)=k):=by show _=_;rw [a]
 clear f a s;have H:=aa h;clear h;have b:=aa (fun w (h:DN w v N)=>oO v N w h (by omega))
 generalize I:(bl N:Int)=B at d b
 have F:0<=B:=by omega
 have z:B<=32000000:=by omega
 clear I m;have C:IntKind.i64.wrap (L+1074)=L+1074:=by rw [IntKind.wrap_i64];omega
 have M:IntKind.u64.wrap (L+1074)=L+1074:=by rw [IntKind.wrap_u64];omega
 have O:IntKind.u64.wrap ((L+1074)*4503599627370496)=(L+1074)*4503599627370496:=by rw [IntKind.wrap_u64];omega
 have S:IntKind.u64.wrap ((L+1074)*4503599627370496+(g:Int))=(L+1074)*4503599627370496+(g:Int):=by rw [IntKind.wrap_u64];omega
 have J:IntKind.u64.wrap ((k:Int)*4294967296)=(k:Int)*4294967296:=by rw [IntKind.wrap_u64];omega
 have R:IntKind.u64.wrap ((L+1074)*4503599627370496+(g:Int)+(k:Int)*4294967296)=(L+1074)*4503599627370496+(g:Int)+(k:Int)*4294967296:=by rw [IntKind.wrap_u64];omega
 go_enter Tryz.func140,Tryz.ntmps140
 go_wp2_with fail
 refine (AG b _ H.out).mono ?_
 rintro x r ⟨rfl,rfl⟩
 go_wp2_with fail
 refine (AK v N (e - L).toNat _ _ H.out (by omega) (by omega) (by show _=_;omega)).mono ?_
 rintro x C ⟨q,rfl,a,i⟩;have j:=aa a;have t:=aa i;clear a i
 go_wp2_with fail
 go_quiet ((first | (go_at_call_of 142 (Value.int IntKind.i64 0);exact Calls.quiet_of_same (fH q _ 0 0 _ _ j.out rfl p)) | (go_at_call_of 142 (Value.int IntKind.i64 1);exact Calls.quiet_of_same (fH q _ 1 1 _ _ j.out rfl o))))
 go_wp2_with fail
 go_ret
 exact⟨rfl,below_drewN t.out _⟩
theorem uW (v:Value) (N d:Nat) (e L:Int) (more u lo p:Bool) (w:World) (h:DN w v N) (hb:nd N<=1000000) (he: -10000000<=e) (Z:e<=10000000) (s:Hid (L=aK N e)) (D:e<L) (U:L+1074<=3000) (I:Hid (L - e=d))
  (z:Hid (((dgt (N / 2^(d - 1)) 0:Int) % 2==1)=u)) (M:Hid (bT N (d - 1)=lo)) (o:Hid (((N / 2^d:Nat):Int) % 2=if p then 1 else 0)) :
  Calls Tryz.prog 140 #[v,.int .i64 e,.bool more,.int .i64 53,.int .i64 (-1074)] w fun x n=>x=.returned (.int .u64 ((L+1074)*4503599627370496+(((N / 2^d:Nat):Int)+if u&&(lo||more||p) then 1 else 0)))/\Below w.heap.size w n:=by
 have t:=sX N;have HQ:N / 2^d<9007199254740992:=by
  have:=sY (N:=N) (e:=e) (by rw [<- s.out];exact D)
  rw [<- s.out,show (L - e).toNat=d by have:=I.out;omega] at this;exact this
 have X: -1074<=L:=by rw [s.out];exact uT N e
 have f:max ((bl N:Int) - 53+e) (-1074)=L:=by rw [s.out];rfl
 have r:=ii (K:=N / 2^d) (by omega)
 have S:=bB (N / 2^d) 0;have T:dgt (N / 2^d) 1<=2097152:=by omega
 have V:=bB (N / 2^(d - 1)) 0;generalize y:N / 2^d=Q at o HQ r
 have O:Hid (N / 2^d=Q):=y;rw [y] at S T
 generalize k:dgt Q 0=A at r S
 generalize q:dgt Q 1=J at r T
 have hh:=z.out;generalize l:dgt (N / 2^(d - 1)) 0=R at V hh
 have G:Hid ((dgt Q 0:Int)=A):=by show _=_;rw [k]
 have C:Hid ((dgt Q 1:Int)=J):=by show _=_;rw [q]
 have HH:Hid ((dgt (N / 2^(d - 1)) 0:Int)=R):=by show _=_;rw [l]
 clear k q l;have ab:(A:Int)+(J:Int)*4294967296=(Q:Int):=by omega
 clear y r;have H:=aa h;clear h;have b:=aa (fun w (h:DN w v N)=>oO v N w h (by omega))
 have HE:=aa (show L - e=(d:Int) from I.out)
 have E:Hid (L - e - 1=((d - 1:Nat):Int)):=by show _=_;have:=I.out;omega
 generalize hB:(bl N:Int)=B at f b
 have ai:0<=B:=by omega
 have Y:B<=32000000:=by omega
 clear hB t;have ad:((Q:Int) % 2==1)=p:=by have:=o.out;cases p<;>simp at this ⊢<;>omega
 cases u<;>cases lo<;>cases more<;>cases p
 all_goals
  simp only [Bool.false_and,Bool.true_and,Bool.or_true,Bool.or_false,Bool.false_eq_true,if_true,if_false,Int.add_zero]
  go_enter Tryz.func140,Tryz.ntmps140
  go_wp2_with fail
  refine (AG b _ H.out).mono ?_
  rintro x n ⟨rfl,rfl⟩
  go_wp2_with fail
  refine (ik v N d _ _ H.out (by omega) HE).mono ?_
  rintro x w1 ⟨P,rfl,m,j⟩;have a:=aa m;have i:=aa j;clear m j
  go_wp2_with fail
  refine (ik v N (d - 1) _ _ (H.out.below i.out) (by omega) E).mono ?_
  rw [M.out];rintro x w2 ⟨W,rfl,g,c⟩;have F:=aa g;have a:=aa (a.out.below c);have i:=aa (i.out.trans (c.mono i.out.size));clear g c;rw [O.out] at a
  go_wp2_with fail
  refine (fH P Q 0 0 A _ a.out rfl G).mono ?_
  rintro x n ⟨rfl,rfl⟩
  go_wp2_with fail
  refine (fH P Q 1 1 J _ a.out rfl C).mono ?_
  rintro x n ⟨rfl,rfl⟩
  go_wp2_with fail
  refine (fH W _ 0 0 R _ F.out rfl HH).mono ?_
  rintro x n ⟨rfl,rfl⟩
  go_wp2_with fail
  go_ret
  exact⟨bA (by omega),i.out⟩
theorem Hv (N k:Nat):((dgt (N / 2^k) 0:Int) % 2==1)=decide (N / 2^k % 2=1):=by
 unfold dgt;rw [Nat.mul_zero,Nat.pow_zero,Nat.div_one];generalize N / 2^k=z
 by_cases h:z % 2=1
 ·rw [decide_eq_true h];simp;omega
 ·rw [decide_eq_false h];simp;omega
theorem xf (v:Value) (N:Nat) (e:Int) (more:Bool) (w:World) (h:DN w v N) (f:nd N<=1000000) (d: -10000000<=e) (b:e<=10000000) (a:aK N e+1074<=3000) :
  Calls Tryz.prog 140 #[v,.int .i64 e,.bool more,.int .i64 53,.int .i64 (-1074)] w fun x i=>x=.returned (.int .u64 (rnd53 N e more:Int))/\Below w.heap.size w i:=by
 by_cases g:aK N e<=e
 ·exact AL v N e (aK N e) more w h f d b rfl g a
 ·have l:=uT N e;have c:=uW v N (aK N e - e).toNat e (aK N e) more (decide (N / 2^((aK N e - e).toNat - 1) % 2=1)) (bT N ((aK N e - e).toNat - 1)) (decide (N / 2^(aK N e - e).toNat % 2=1)) w h f d b rfl (by omega) a (by show _=_;omega) (Hv N _) rfl
   (by show _=_;generalize N / 2^(aK N e - e).toNat=z;by_cases h:z % 2=1<;>simp [h]<;>omega)
  have j:(rnd53 N e more:Int)=(aK N e+1074)*4503599627370496+(((N / 2^(aK N e - e).toNat:Nat):Int)+if decide (N / 2^((aK N e - e).toNat - 1) % 2=1)&&(bT N ((aK N e - e).toNat - 1)||more||decide (N / 2^(aK N e - e).toNat % 2=1)) then 1 else 0):=by
   unfold rnd53 kD nG bT;rw [if_neg g];have k:(((decide (N / 2^((aK N e - e).toNat - 1) % 2=1)&&(decide (N % 2^((aK N e - e).toNat - 1)≠0)||more||decide (N / 2^(aK N e - e).toNat % 2=1)))=true)↔(N / 2^((aK N e - e).toNat - 1) % 2=1/\(N % 2^((aK N e - e).toNat - 1)≠0\/more=true\/N / 2^(aK N e - e).toNat % 2=1))):=by
    simp only [Bool.and_eq_true,Bool.or_eq_true,decide_eq_true_eq,or_assoc]
   simp only [k]
   split<;>omega
  rw [j];exact c
def eC (neg:Bool) (v:Value) (e:Int):Value:=.agg #[.bool neg,v,.int .i64 e]
def cC (neg:Bool) (u:Int):Int:=if neg then min u 9218868437227405312+9223372036854775808 else min u 9218868437227405312
theorem xg (neg:Bool) (u:Int) (w:World) (b:0<=u) (c:u<18446744073709551616) :
  Calls Tryz.prog 139 #[.bool neg,.int .u64 u] w fun e a=>e=.returned (.int .u64 (cC neg u))/\a=w:=by
 unfold cC;cases neg
 ·simp only [Bool.false_eq_true,if_false]
  go_enter Tryz.func139,Tryz.ntmps139
  go_wp2
  go_ret
  exact⟨rfl,rfl⟩
 ·simp only [if_true]
  go_enter Tryz.func139,Tryz.ntmps139
  go_wp2
  go_ret
  exact⟨bA (by omega),rfl⟩
theorem Hw (neg:Bool) (v:Value) (e:Int) (N:Nat) (w:World) (h:DN w v N) :
  Calls Tryz.prog 75 #[eC neg v e] w fun x b=>x=.returned (.bool (decide (N=0)))/\Below w.heap.size w b:=by
 unfold eC;rcases h with⟨a,p,c,rfl⟩| ⟨a,g,c,rfl,f,i,d⟩
 ·go_enter Tryz.func75,Tryz.ntmps75
  go_wp2
  go_ret
  exact⟨gE (by simp [a]),(Below.refl _ _).alloc (Nat.le_refl _) _⟩
 ·have k:=dt a;have j:((nd N:Int)==0)=false:=by simp;omega
  clear d
  go_enter Tryz.func75,Tryz.ntmps75
  go_wp2
  go_ret
  exact⟨gE (by simp [a]),(Below.refl _ _).alloc (Nat.le_refl _) _⟩
def km (N:Nat) (e:Int):Bool:=decide (1100<(bl N:Int)+e)||decide ((bl N:Int)+e< -1200)
theorem mK (v:Value) (N:Nat) (B:Int) (w:World) (h:DN w v N) (b:nd N<=100000000) (c:Hid ((bl N:Int)=B)) :
  Calls Tryz.prog 95 #[v] w fun e a=>e=.returned (.int .i64 B)/\a=w:=by
 rw [<- c.out];exact oO v N w h b
theorem Mn (neg:Bool) (v:Value) (e:Int) (N:Nat) (w:World) (h:DN w v N) (p:nd N<=1000000) (o: -10000000<=e) (j:e<=10000000) :
  Calls Tryz.prog 138 #[eC neg v e] w fun x k=>x=.returned (.bool (km N e))/\Below w.heap.size w k:=by
 unfold eC km;have a:=sX N;have c:Hid (∀ n,DN ((w.alloc (.cells #[.bool neg,v,.int .i64 e] 83)).drewN n) v N):=fun n=>h.below (below_drewN ((Below.refl _ _).alloc (Nat.le_refl _) _) n)
 generalize g:(bl N:Int)=B;have d:=aa g;have l:0<=B:=by omega
 have i:B<=32000000:=by omega
 clear g a h;have m:IntKind.i64.wrap (B+e)=B+e:=by rw [IntKind.wrap_i64];omega
 by_cases f:1100<B+e
 ·have b:decide (1100<B+e)=true:=by simpa using f
  rw [b,Bool.true_or]
  go_enter Tryz.func138,Tryz.ntmps138
  go_wp2_with fail
  go_quiet ((go_at_call 95;exact Calls.quiet_of_same (mK v N B _ (c.out _) (by omega) d)))
  go_wp2_with fail
  go_ret
  exact⟨rfl,below_drewN ((Below.refl _ _).alloc (Nat.le_refl _) _) _⟩
 ·have b:decide (1100<B+e)=false:=by simpa using f
  rw [b,Bool.false_or]
  go_enter Tryz.func138,Tryz.ntmps138
  go_wp2_with fail
  go_quiet ((go_at_call 95;exact Calls.quiet_of_same (mK v N B _ (c.out _) (by omega) d)))
  go_wp2_with fail
  go_ret
  exact⟨rfl,below_drewN ((Below.refl _ _).alloc (Nat.le_refl _) _) _⟩
def bN (neg:Bool) (N:Nat) (e:Int) (more:Bool):Int:=
 if N=0 then 0 else if km N e then (if 0<e\/0<(bl N:Int)+e then cC neg 9218868437227405312 else cC neg 0) else cC neg (rnd53 N e more)
theorem xh {W w1:World} (a:Below W.heap.size W w1):(∀ b o,b<W.heap.size->w1.cell? ⟨b,o,none⟩=W.cell? ⟨b,o,none⟩)/\(∀ b o,b<W.heap.size->w1.frozen? ⟨b,o,none⟩=W.frozen? ⟨b,o,none⟩):=
 ⟨fun b o h=>a.cell (p:=⟨b,o,none⟩) h,fun b o h=>a.frozen (p:=⟨b,o,none⟩) h⟩
theorem aY (neg:Bool) (v:Value) (e:Int) (N:Nat) (z:Bool) (w:World) (h:DN w v N) (a:Hid (decide (N=0)=z)) :
  Calls Tryz.prog 75 #[.agg #[.bool neg,v,.int .i64 e]] w fun x b=>x=.returned (.bool z)/\Below w.heap.size w b:=by
 rw [<- a.out];exact Hw neg v e N w h
theorem Ia (neg:Bool) (v:Value) (e:Int) (N:Nat) (z:Bool) (w:World) (h:DN w v N) (f:nd N<=1000000) (b: -10000000<=e) (a:e<=10000000) (c:Hid (km N e=z)) :
  Calls Tryz.prog 138 #[.agg #[.bool neg,v,.int .i64 e]] w fun x d=>x=.returned (.bool z)/\Below w.heap.size w d:=by
 rw [<- c.out];exact Mn neg v e N w h f b a
theorem sp (neg more:Bool) (v:Value) (e:Int) (w:World) (h:DN w v 0) :
  Calls Tryz.prog 98 #[eC neg v e,.bool more] w fun x b=>x=.returned (.int .u64 0)/\Below w.heap.size w b:=by
 unfold eC;have c:=aa (h.below ((Below.refl w.heap.size w).alloc (Nat.le_refl _) (.cells #[.bool neg,v,.int .i64 e] 83)));clear h
 go_enter Tryz.func98,Tryz.ntmps98
 go_wp2_with fail
 refine (aY _ _ _ 0 true _ c.out rfl).mono ?_
 rintro x f ⟨rfl,a⟩;have d:=aa a;clear a
 go_wp2_with fail
 go_ret
 exact⟨rfl,((Below.refl _ _).alloc (Nat.le_refl _) _).trans (d.out.mono (by simp))⟩
theorem jQ {w w1:World} {neg:Bool} {v:Value} {e:Int} (a:Below (w.alloc (.cells #[.bool neg,v,.int .i64 e] 83)).heap.size (w.alloc (.cells #[.bool neg,v,.int .i64 e] 83)) w1) :
  w1.cell? ⟨w.heap.size,0,none⟩=some (.bool neg)/\w1.cell? ⟨w.heap.size,1,none⟩=some v/\w1.cell? ⟨w.heap.size,2,none⟩=some (.int .i64 e):=by
 refine⟨?_,?_,?_⟩
 ·rw [a.cell (p:=⟨w.heap.size,0,none⟩) (by simp)];simp
 ·rw [a.cell (p:=⟨w.heap.size,1,none⟩) (by simp)];simp
 ·rw [a.cell (p:=⟨w.heap.size,2,none⟩) (by simp)];simp
theorem xj (neg more:Bool) (v:Value) (e:Int) (N:Nat) (w:World) (h:DN w v N) (y:N≠0) (C:nd N<=1000000) (z: -10000000<=e) (l:e<=10000000) (F:Hid (km N e=false)) (R:Int) (G:Hid ((rnd53 N e more:Int)=R)) (t:0<=R) (m:R<18446744073709551616) (k:aK N e+1074<=3000) :
  Calls Tryz.prog 98 #[eC neg v e,.bool more] w fun x b=>x=.returned (.int .u64 (cC neg R))/\Below w.heap.size w b:=by
 unfold eC;have g:Hid (Below w.heap.size w (w.alloc (.cells #[.bool neg,v,.int .i64 e] 83))):=(Below.refl w.heap.size w).alloc (Nat.le_refl _) _;have B:=aa (h.below g.out);have H:=aa y;have q:=aa k;clear h y k
 go_enter Tryz.func98,Tryz.ntmps98
 go_wp2_with fail
 refine (aY _ _ _ N false _ B.out (decide_eq_false H.out)).mono ?_
 rintro x I ⟨rfl,c⟩;have j:=aa c;have A:=aa (B.out.below c);obtain⟨c0,c1,c2⟩:=jQ c;clear c
 go_wp2_with fail
 refine (Ia _ _ _ N false _ A.out C z l F).mono ?_
 rintro x i ⟨rfl,a⟩;have o:w.heap.size<I.heap.size:=by have:=j.out.size;simp at this;omega
 have J:=aa (A.out.below a);have u:i.cell? ⟨w.heap.size,0,none⟩=some (.bool neg):=(a.cell (p:=⟨w.heap.size,0,none⟩) o).trans c0;have E:i.cell? ⟨w.heap.size,1,none⟩=some v:=(a.cell (p:=⟨w.heap.size,1,none⟩) o).trans c1;have D:i.cell? ⟨w.heap.size,2,none⟩=some (.int .i64 e):=(a.cell (p:=⟨w.heap.size,2,none⟩) o).trans c2;have r:Hid (Below w.heap.size w i):=(g.out.trans (j.out.mono (by simp))).trans (a.mono (by omega))
 have f:w.heap.size<i.heap.size:=by have:=a.size;omega
 have n:Hid (∀ b,DN b v N->Calls Tryz.prog 140 #[v,.int .i64 e,.bool more,.int .i64 53,.int .i64 (-1074)] b fun x s=>x=.returned (.int .u64 R)/\Below b.heap.size b s):=fun b h=>by
  have:=xf v N e more b h C z l q.out;rw [G.out] at this;exact this
 clear a c0 c1 c2
 go_wp2_with fail
 go_region_held3 (fun b=>b.cell? ⟨w.heap.size,0,none⟩=some (.bool neg)/\b.cell? ⟨w.heap.size,1,none⟩=some v/\b.cell? ⟨w.heap.size,2,none⟩=some (.int .i64 e)) (first | exact⟨u,E,D⟩| exact⟨(d.cell (p:=⟨w.heap.size,0,none⟩) f).trans u,(d.cell (p:=⟨w.heap.size,1,none⟩) f).trans E,(d.cell (p:=⟨w.heap.size,2,none⟩) f).trans D⟩| go_keep) (first | ((go_at_call 140;refine (n.out _ (by exact J.out)).mono ?_;rintro x L ⟨rfl,d⟩)) | ((go_at_call 139;refine (xg _ _ _ t m).mono ?_;rintro x M ⟨rfl,rfl⟩)))
 go_wp2_with fail
 go_ret
 exact⟨rfl,(r.out.drew).trans (d.mono (by have K:w.heap.size<i.drew.heap.size:=f;omega))⟩
theorem uX (neg more:Bool) (v:Value) (e:Int) (N:Nat) (w:World) (h:DN w v N) (r:N≠0) (H:nd N<=1000000) (F: -10000000<=e) (n:e<=10000000) (A:Hid (km N e=true)) :
  Calls Tryz.prog 98 #[eC neg v e,.bool more] w fun x G=>x=.returned (.int .u64 (if 0<e\/0<(bl N:Int)+e then cC neg 9218868437227405312 else cC neg 0))/\Below w.heap.size w G:=by
 unfold eC;have c:Hid (Below w.heap.size w (w.alloc (.cells #[.bool neg,v,.int .i64 e] 83))):=(Below.refl w.heap.size w).alloc (Nat.le_refl _) _;have u:=aa (h.below c.out);have D:=aa r;have k:=sX N;clear h r;generalize z:(bl N:Int)=B;have C:=aa z;have I:0<=B:=by omega
 have E:B<=32000000:=by omega
 clear z k;have s:IntKind.i64.wrap (B+e)=B+e:=by rw [IntKind.wrap_i64];omega
 have d:(0<e/\decide (0<e)=true)\/(decide (0<e)=false/\0<B+e/\¬ 0<e)\/(decide (0<e)=false/\¬ 0<B+e/\¬ 0<e):=by
  by_cases f:0<e
  ·exact Or.inl ⟨f,by simpa using f⟩
  ·by_cases q:0<B+e
   ·exact Or.inr (Or.inl ⟨by simpa using f,q,f⟩)
   ·exact Or.inr (Or.inr ⟨by simpa using f,q,f⟩)
 rcases d with⟨o,j⟩| ⟨o,j,y⟩| ⟨o,j,y⟩
 all_goals first | rw [if_pos (Or.inl o)] | rw [if_pos (Or.inr j)] | rw [if_neg (fun h=>h.elim y j)]
 all_goals
  go_enter Tryz.func98,Tryz.ntmps98
  go_wp2_with fail
  refine (aY _ _ _ N false _ u.out (decide_eq_false D.out)).mono ?_
  rintro x s ⟨rfl,b⟩;have g:=aa b;have t:=aa (u.out.below b);obtain⟨c0,c1,c2⟩:=jQ b;clear b
  go_wp2_with fail
  refine (Ia _ _ _ N true _ t.out H F n A).mono ?_
  rintro x i ⟨rfl,a⟩;have l:w.heap.size<s.heap.size:=by have:=g.out.size;simp at this;omega
  have J:=aa (t.out.below a);have K:i.cell? ⟨w.heap.size,0,none⟩=some (.bool neg):=(a.cell (p:=⟨w.heap.size,0,none⟩) l).trans c0;have M:i.cell? ⟨w.heap.size,1,none⟩=some v:=(a.cell (p:=⟨w.heap.size,1,none⟩) l).trans c1;have L:i.cell? ⟨w.heap.size,2,none⟩=some (.int .i64 e):=(a.cell (p:=⟨w.heap.size,2,none⟩) l).trans c2;have m:Hid (Below w.heap.size w i):=(c.out.trans (g.out.mono (by simp))).trans (a.mono (by omega))
  clear a c0 c1 c2
  go_wp2_with fail
  go_quiet ((go_at_call 95;exact Calls.quiet_of_same (mK v N B _ J.out (by omega) C)))
  go_wp2_with (go_at_call 139;refine (xg _ _ _ (by omega) (by omega)).mono ?_;rintro x O ⟨rfl,rfl⟩)
  go_ret
  exact⟨rfl,below_drewN m.out _⟩
theorem xk {N:Nat} {e:Int} (h:km N e=false):aK N e+1074<=3000:=by
 unfold km at h
 rw [Bool.or_eq_false_iff] at h
 have a:=of_decide_eq_false h.1;unfold aK;omega
theorem OV {N:Nat} {e:Int} {more:Bool} (h:km N e=false):rnd53 N e more<18446744073709551616:=by
 have c:=xk h;have b:=Mi N e more;have a:=uT N e;unfold rnd53;omega
theorem lk (neg more:Bool) (v:Value) (e:Int) (N:Nat) (w:World) (h:DN w v N) (f:nd N<=1000000) (d: -10000000<=e) (a:e<=10000000) :
  Calls Tryz.prog 98 #[eC neg v e,.bool more] w fun x g=>x=.returned (.int .u64 (bN neg N e more))/\Below w.heap.size w g:=by
 unfold bN
 by_cases b:N=0
 ·subst b;rw [if_pos rfl];exact sp neg more v e w h
 ·rw [if_neg b];cases c:km N e
  ·simp only [Bool.false_eq_true,if_false];have i:=OV (more:=more) c;exact xj neg more v e N w h b f d a c _ rfl (Int.natCast_nonneg _) (by omega) (xk c)
  ·simp only [if_true];exact uX neg more v e N w h b f d a c
theorem Ib (neg:Bool) (v:Value) (e:Int) (N:Nat) (w:World) (h:DN w v N) (j:nd N<=1000000) (g: -10000000<=e) (d:e<=10000000) :
  Calls Tryz.prog 77 #[eC neg v e] w fun x i=>x=.returned (.int .u64 (bN neg N e false))/\Below w.heap.size w i:=by
 have a:Hid (Below w.heap.size w (w.alloc (.cells #[.bool neg,v,.int .i64 e] 83))):=(Below.refl w.heap.size w).alloc (Nat.le_refl _) _;have f:=aa (lk neg false v e N _ (h.below a.out) j g d);unfold eC at f ⊢
 clear h
 go_enter Tryz.func77,Tryz.ntmps77
 go_wp2_with fail
 refine f.out.mono ?_
 rintro x k ⟨rfl,b⟩;have c:=aa b;clear b
 go_wp2_with fail
 go_ret
 exact⟨rfl,a.out.trans (c.out.mono (by simp))⟩
theorem pG {N:Nat} {e:Int} (a:N≠0) (h:(bl N:Int)+e< -1200):nearR N e=0:=by
 have d:=eK a;have c:ak N e= -1074:=by unfold ak;omega
 unfold nearR;rw [c,show (e - -1074).toNat=0 by omega,Nat.pow_zero,Nat.mul_one,gG]
 ·rfl
 ·have f:=Hp N;have b:(2:Nat)^(bl N+1)<=2^(-1074 - e).toNat:=Nat.pow_le_pow_right (by decide) (by omega)
  rw [Nat.pow_succ] at b;omega
theorem fJ (neg:Bool) {N:Nat} (e:Int) (b:N≠0):bN neg N e false=(if neg then 9223372036854775808 else 0)+(nearR N e:Int):=by
 have f:=eK b;unfold bN;rw [if_neg b];have c:(if km N e=true then if 0<e\/0<(bl N:Int)+e then cC neg 9218868437227405312 else cC neg 0 else cC neg (rnd53 N e false))=cC neg (nearR N e):=by
  cases a:km N e
  ·simp only [Bool.false_eq_true,if_false];rw [<- Hs e b];unfold cC;cases neg<;>simp only [Bool.false_eq_true,if_true,if_false]<;>omega
  ·simp only [if_true];unfold km at a
   rw [Bool.or_eq_true,decide_eq_true_eq,decide_eq_true_eq] at a
   rcases a with a | a
   ·rw [if_pos (Or.inr (by omega)),jL b (by omega)];rfl
   ·rw [if_neg (by omega),pG b a];rfl
 rw [c];have d:nearR N e<=9218868437227405312:=Nat.min_le_right _ _;unfold cC;cases neg<;>simp only [Bool.false_eq_true,if_true,if_false]<;>omega
theorem DN.shape {w:World} {v:Value} {N:Nat} (h:DN w v N):∃ p l c,v=.slice p l c:=by
 rcases h with⟨_,p,c,rfl⟩| ⟨_,g,c,rfl,_⟩
 ·exact⟨p,0,c,rfl⟩
 ·exact⟨_,_,_,rfl⟩
theorem Ex (n:Int) (w:World) (t:0<=n) (r:n<=9223372036854775807) :
  Calls Tryz.prog 62 #[.int .i64 n] w fun x h=>∃ v,x=.returned (eC false v 0)/\DN h v n.toNat/\Below w.heap.size w h:=by
 have j:Hid (n=(n.toNat:Int)):=by show _=_;omega
 unfold eC
 go_enter Tryz.func62,Tryz.ntmps62
 go_wp2_with fail
 refine (jM n n.toNat _ j (by omega)).mono ?_
 rintro x k ⟨q,rfl,f,e,d⟩;obtain⟨p,l,c,rfl⟩:=f.shape;have i:=aa d;obtain⟨m,o⟩:=xh d;have s:w.heap.size<k.heap.size:=by have:=d.size;simp at this;omega
 have g:=fun a b c=>((f.set e (a:=⟨w.heap.size,0,none⟩) (by simp) a).set e (a:=⟨w.heap.size,1,none⟩) (by simp) b).set e (a:=⟨w.heap.size,2,none⟩) (by simp) c
 have g:=aa g;clear f d e
 go_wp2_with fail
 refine bodyPost_ret (v:=.agg #[.bool false,.slice p l c,.int .i64 0]) (by simp [results,Tryz.results62,go_sem,m]) rfl ⟨_,rfl,g.out _ _ _,?_⟩
 exact ((((Below.refl w.heap.size w).alloc (Nat.le_refl _) _).trans (i.out.mono (by simp))).setCell (Nat.le_refl _) _).setCell (Nat.le_refl _) _ |>.setCell (Nat.le_refl _) _
theorem Ey (n:Int) (w:World) (t:n<0) (r: -9223372036854775808<=n) :
  Calls Tryz.prog 62 #[.int .i64 n] w fun x h=>∃ v,x=.returned (eC true v 0)/\DN h v n.natAbs/\Below w.heap.size w h:=by
 have j:Hid (-(n+1)+1=(n.natAbs:Int)):=by show _=_;omega
 unfold eC
 go_enter Tryz.func62,Tryz.ntmps62
 go_wp2_with fail
 refine (jM _ n.natAbs _ j (by omega)).mono ?_
 rintro x k ⟨q,rfl,f,e,d⟩;obtain⟨p,l,c,rfl⟩:=f.shape;have i:=aa d;obtain⟨m,o⟩:=xh d;have s:w.heap.size<k.heap.size:=by have:=d.size;simp at this;omega
 have g:=fun a b c=>((f.set e (a:=⟨w.heap.size,0,none⟩) (by simp) a).set e (a:=⟨w.heap.size,1,none⟩) (by simp) b).set e (a:=⟨w.heap.size,2,none⟩) (by simp) c
 have g:=aa g;clear f d e
 go_wp2_with fail
 refine bodyPost_ret (v:=.agg #[.bool true,.slice p l c,.int .i64 0]) (by simp [results,Tryz.results62,go_sem,m]) rfl ⟨_,rfl,g.out _ _ _,?_⟩
 exact ((((Below.refl w.heap.size w).alloc (Nat.le_refl _) _).trans (i.out.mono (by simp))).setCell (Nat.le_refl _) _).setCell (Nat.le_refl _) _ |>.setCell (Nat.le_refl _) _
theorem jR (n:Int) (w:World) (b: -9223372036854775808<=n) (c:n<=9223372036854775807) :
  Calls Tryz.prog 62 #[.int .i64 n] w fun x a=>∃ v,x=.returned (eC (decide (n<0)) v 0)/\DN a v n.natAbs/\Below w.heap.size w a:=by
 by_cases h:n<0
 ·rw [decide_eq_true h];exact Ey n w h b
 ·rw [decide_eq_false h,show n.natAbs=n.toNat by omega];exact Ex n w (by omega) c
theorem gJ (neg:Bool) (v:Value) (e:Int) (N:Nat) (w:World) (h:DN w v N) (d:nd N<=1000000) (b: -10000000<=e) (a:e<=10000000) :
  Calls Tryz.prog 77 #[.agg #[.bool neg,v,.int .i64 e]] w fun x c=>x=.returned (.int .u64 (bN neg N e false))/\Below w.heap.size w c:=Ib neg v e N w h d b a
theorem ch (u:Int) (w:World) (h:U64 u) :
  Calls Tryz.prog 41 #[.int .u64 u] w fun e a=>e=.returned (.bool (ay u))/\a=w:=by
 have b:=dK h
 go_enter Tryz.func41,Tryz.ntmps41
 go_wp2
 go_ret
 exact⟨rfl,rfl⟩
theorem pH {u:Int} (h:U64 u):bits .and .u64 u 4503599627370495=szI u % 4503599627370496:=by
 rw [pF h.1 h.2];unfold szI;omega
theorem pI {z:Int} (a:0<=z) (h:z<18446744073709551616):bits .and .u64 z 2047=z % 2048:=by
 obtain⟨b,rfl⟩:=Int.eq_ofNat_of_zero_le a;have:=bits_and_u64_nat b 2047 (by omega) (by decide)
 rw [show ((2047:Nat):Int)=2047 from rfl] at this
 rw [this];have e:=Nat.and_two_pow_sub_one_eq_mod b 11;rw [show (2:Nat)^11 - 1=2047 from rfl,show (2:Nat)^11=2048 from rfl] at e
 rw [e];omega
theorem OW (u:Int) (w:World) (h:U64 u) (r:0<szI u) (m:szI u<4503599627370496) :
  Calls Tryz.prog 74 #[.int .u64 u] w fun x o=>∃ v,x=.returned (eC (sgB u) v (-1074))/\DN o v (szI u).toNat/\Below w.heap.size w o:=by
 have s:bits .and .u64 u 4503599627370495=szI u:=by rw [pH h];omega
 have D:bits .and .u64 (u / 4503599627370496) 2047=0:=by
  have:=h.1;have:=h.2;rw [pI (by omega) (by omega)];unfold szI at m;omega
 have i:(szI u==0)=false:=by simp;omega
 have n:Hid (szI u=((szI u).toNat:Int)):=by show _=_;omega
 have k:decide (9223372036854775808<=u)=sgB u:=rfl;have g:(szI u).toNat<18446744073709551616:=by omega
 generalize szI u=z at r m s i n g
 generalize sgB u=sg at k
 unfold eC
 go_enter Tryz.func74,Tryz.ntmps74
 go_wp2_with fail
 refine (jM z z.toNat _ n g).mono ?_
 rintro x t ⟨B,rfl,f,e,d⟩;obtain⟨p,l,c,rfl⟩:=f.shape;have q:=aa d;obtain⟨y,A⟩:=xh d;have C:w.heap.size<t.heap.size:=by have:=d.size;simp at this;omega
 have j:=fun a b c=>((f.set e (a:=⟨w.heap.size,0,none⟩) (by simp) a).set e (a:=⟨w.heap.size,1,none⟩) (by simp) b).set e (a:=⟨w.heap.size,2,none⟩) (by simp) c
 have j:=aa j;clear f d e
 go_wp2_with fail
 refine bodyPost_ret (v:=.agg #[.bool sg,.slice p l c,.int .i64 (-1074)]) (by simp [results,Tryz.results74,go_sem,y]) rfl ⟨_,rfl,j.out _ _ _,?_⟩
 exact ((((Below.refl w.heap.size w).alloc (Nat.le_refl _) _).trans (q.out.mono (by simp))).setCell (Nat.le_refl _) _).setCell (Nat.le_refl _) _ |>.setCell (Nat.le_refl _) _
theorem Ez (u:Int) (w:World) (h:U64 u) (t:4503599627370496<=szI u) (o:szI u<9218868437227405312) :
  Calls Tryz.prog 74 #[.int .u64 u] w fun x r=>∃ v,x=.returned (eC (sgB u) v (szI u / 4503599627370496 - 1075))/\DN r v (4503599627370496+szI u % 4503599627370496).toNat/\Below w.heap.size w r:=by
 have C:bits .and .u64 u 4503599627370495=szI u % 4503599627370496:=pH h;have A:bits .and .u64 (u / 4503599627370496) 2047=szI u / 4503599627370496:=by
  have:=h.1;have:=h.2;rw [pI (by omega) (by omega)];unfold szI at o ⊢;omega
 have i:0<szI u / 4503599627370496:=by omega
 have n:szI u / 4503599627370496<2047:=by omega
 have g:0<=szI u % 4503599627370496:=by omega
 have j:szI u % 4503599627370496<4503599627370496:=by omega
 have m:decide (9223372036854775808<=u)=sgB u:=rfl;clear t o;generalize szI u % 4503599627370496=z at C g j
 generalize szI u / 4503599627370496=q at A i n
 generalize sgB u=sg at m
 have y:Hid (z+4503599627370496=((4503599627370496+z).toNat:Int)):=by show _=_;omega
 have B:(z+4503599627370496==0)=false:=by simp;omega
 unfold eC
 go_enter Tryz.func74,Tryz.ntmps74
 go_wp2_with fail
 refine (jM _ (4503599627370496+z).toNat _ y (by omega)).mono ?_
 rintro x D ⟨G,rfl,f,e,d⟩;obtain⟨p,l,c,rfl⟩:=f.shape;have s:=aa d;obtain⟨E,F⟩:=xh d;have H:w.heap.size<D.heap.size:=by have:=d.size;simp at this;omega
 have k:=fun a b c=>((f.set e (a:=⟨w.heap.size,0,none⟩) (by simp) a).set e (a:=⟨w.heap.size,1,none⟩) (by simp) b).set e (a:=⟨w.heap.size,2,none⟩) (by simp) c
 have k:=aa k;clear f d e
 go_wp2_with fail
 refine bodyPost_ret (v:=.agg #[.bool sg,.slice p l c,.int .i64 (q - 1075)]) (by simp [results,Tryz.results74,go_sem,E]) rfl ⟨_,rfl,k.out _ _ _,?_⟩
 exact ((((Below.refl w.heap.size w).alloc (Nat.le_refl _) _).trans (s.out.mono (by simp))).setCell (Nat.le_refl _) _).setCell (Nat.le_refl _) _ |>.setCell (Nat.le_refl _) _
theorem OX (u:Int) (w:World) (h:U64 u) (d:0<szI u) (c:szI u<9218868437227405312) :
  Calls Tryz.prog 74 #[.int .u64 u] w fun x b=>∃ v,x=.returned (eC (sgB u) v (kE (szI u)))/\DN b v (gz (szI u)).toNat/\Below w.heap.size w b:=by
 unfold kE gz
 by_cases a:szI u<4503599627370496
 ·rw [if_pos a,if_pos a];exact OW u w h d a
 ·rw [if_neg a,if_neg a];exact Ez u w h (by omega) c
theorem DN.form {w:World} {v:Value} {N:Nat} (h:DN w v N):∃ p c,v=.slice p (nd N) c:=by
 rcases h with⟨a,p,c,rfl⟩| ⟨a,g,c,rfl,_⟩
 ·exact⟨p,c,by rw [a];rfl⟩
 ·exact⟨_,_,rfl⟩
theorem pJ (p q:Option Addr) (c d m n L A B:Nat) (w:World) (S:Hid (DN w (.slice p m c) A)) (U:Hid (DN w (.slice q n d) B)) (Y:max (m:Int) (n:Int)=(L:Int)) (Z:m<=10000000) (hn:n<=10000000) (t:Hid (A<2^(32*m))) (u:Hid (B<2^(32*n))) :
  Calls Tryz.prog 114 #[.slice p m c,.slice q n d] w fun e h=>∃ v,e=.returned v/\DN h v (A+B)/\From w.heap.size v/\Below w.heap.size w h:=by
 have I:m<=L:=by omega
 have R:n<=L:=by omega
 have J:L<=10000000:=by omega
 have j:=fun w=>run_make_row' (P:=Tryz.prog) 33 41 (.int .u64 0) 8 Tryz.underlying33 eA rfl .i64 .i64 (L+1) (by omega) (by omega) w
 have F:((L+1:Nat):Int)=(L:Int)+1:=by omega
 rw [F] at j
 clear F;have G:=aa (jO w (L+1) (A+B))
 go_enter Tryz.func114,Tryz.ntmps114
 go_wp2_with fail
 go_loopw [7,8] (fun s i wr=>∃ k c:Nat,k<=L+1/\c<=1/\i=.int .i64 k/\s=.int .u64 c/\Hid (c=cry A B k)/\Hid (sj wr w.heap.size (L+1) (A+B) k)/\Hid (Below w.heap.size w wr)) (fun _ i _=>L+1 - (intOf i).toNat)
 case atStart=>exact⟨0,0,Nat.zero_le _,Nat.zero_le _,rfl,rfl,(xl A B).symm,G,(Below.refl _ _).alloc (Nat.le_refl _) _⟩
 case round=>
  clear G j;obtain⟨k,x,hk,X,rfl,rfl,T,o,l⟩:=hrel
  by_cases H:k<L+1
  ·have D:=aa (jN _ A k wr (S.out.below l.out));have C:=aa (jN _ B k wr (U.out.below l.out));have O:=bB A k;have K:=bB B k;have W:=o.out.cell (i:=k) (by omega)
   have V:=o.out.frozen k;have r:=aa fun a b (Q:a=dgt A k) (M:b=dgt B k)=>EA (s:=a+b+x) Q M T.out rfl
   generalize z:dgt A k=a at D O
   generalize y:dgt B k=b at C K
   have r:=aa (r.out a b z.symm y.symm);clear z y
   go_wp2_with fail
   refine D.out.mono ?_
   rintro e h ⟨rfl,rfl⟩
   go_wp2_with fail
   refine C.out.mono ?_
   rintro e h ⟨rfl,rfl⟩
   go_wp2_with fail
   go_roundw
   case rel=>exact⟨k+1,(a+b+x) / 4294967296,by omega,by omega,by go_num,by go_num,r.out.2,jP o.out (by rw [<- r.out.1];omega),l.out.setCell (Nat.le_refl _) _⟩
   case measure=>simp [intOf];omega
  ·obtain rfl:k=L+1:=by omega
   have f:=aa (lj o.out);have E:Hid (A+B<2^(32*(L+1))):=sum_lt t.out u.out (by omega) (by omega)
   have g:=f.out.lt;have N:=aa (nH f.out.row E.out (Nat.le_refl _) g)
   go_wp2_with fail
   refine (du _ _ _ _ _ f.out.row E.out (Nat.le_refl _) (by omega)).mono ?_
   rintro e h ⟨rfl,rfl⟩
   go_wp2_with fail
   go_ret
   exact⟨_,rfl,N.out,ij _ _ _ _ (Nat.le_refl _),l.out⟩
theorem kt (u v:Value) (A B:Nat) (w:World) (f:DN w u A) (b:DN w v B) (h:nd A<=10000000) (g:nd B<=10000000) :
  Calls Tryz.prog 114 #[u,v] w fun e a=>∃ v,e=.returned v/\DN a v (A+B)/\From w.heap.size v/\Below w.heap.size w a:=by
 obtain⟨p,c,rfl⟩:=f.form;obtain⟨q,d,rfl⟩:=b.form;exact pJ p q c d (nd A) (nd B) (max (nd A) (nd B)) A B w f b (by omega) h g (dh A) (dh B)
theorem sv (p:Option Addr) (c:Nat) (v:Value) (w:World) :
  Calls Tryz.prog 116 #[.slice p 0 c,v] w fun e a=>∃ v,e=.returned v/\DN a v 0/\From w.heap.size v/\Below w.heap.size w a:=by
 have b:=fun w=>run_make_row' (P:=Tryz.prog) 33 41 (.int .u64 0) 8 Tryz.underlying33 eA rfl .i64 .i64 0 (by omega) (by omega) w
 rw [show ((0:Nat):Int)=0 from rfl] at b
 go_enter Tryz.func116,Tryz.ntmps116
 go_wp2_with fail
 go_loopw [6,7] (fun s i wr=>i=.int .i64 0/\s=.int .u64 0/\Hid (Below w.heap.size w wr)) (fun _ _ _=>0)
 case atStart=>exact⟨rfl,rfl,(Below.refl _ _).alloc (Nat.le_refl _) _⟩
 case round=>
  obtain⟨rfl,rfl,d⟩:=hrel
  go_wp2_with fail
  refine (du w.heap.size 0 0 0 _ (fun i hi=>absurd hi (by omega)) (by decide) (Nat.le_refl _) (by omega)).mono ?_
  rintro e a ⟨rfl,rfl⟩
  go_wp2_with fail
  go_ret
  exact⟨_,rfl,Or.inl ⟨rfl,_,_,rfl⟩,ij _ _ _ _ (Nat.le_refl _),d.out⟩
theorem sw (g:Nat) (v:Value) (c m B D:Nat) (w:World) (j:Hid (RowIs w g m (B+D))) (G:g<w.heap.size) (N:Hid (DN w v B)) (T:m<=10000000) (t:Hid (B+D<2^(32*m))) :
  Calls Tryz.prog 116 #[.slice (some ⟨g,0,none⟩) m c,v] w fun e u=>∃ v,e=.returned v/\DN u v D/\From w.heap.size v/\Below w.heap.size w u:=by
 have y:=fun w=>run_make_row' (P:=Tryz.prog) 33 41 (.int .u64 0) 8 Tryz.underlying33 eA rfl .i64 .i64 m (by omega) (by omega) w
 have C:=aa (jO w m D)
 go_enter Tryz.func116,Tryz.ntmps116
 go_wp2_with fail
 go_loopw [6,7] (fun s i wr=>∃ k c:Nat,k<=m/\c<=1/\i=.int .i64 k/\s=.int .u64 c/\Hid (c=cry B D k)/\Hid (sj wr w.heap.size m D k)/\Hid (Below w.heap.size w wr)) (fun _ i _=>m - (intOf i).toNat)
 case atStart=>exact⟨0,0,Nat.zero_le _,Nat.zero_le _,rfl,rfl,(xl B D).symm,C,(Below.refl _ _).alloc (Nat.le_refl _) _⟩
 case round=>
  clear C y;obtain⟨k,x,V,S,rfl,rfl,M,o,n⟩:=hrel
  by_cases r:k<m
  ·have K:wr.cell? ⟨g,k,none⟩=some (.int .u64 (dgt (B+D) k:Int)):=(n.out.cell (p:=⟨g,k,none⟩) G).trans (j.out k r);have z:=aa fun q=>jN _ B k (wr.drewN q) (N.out.below (below_drewN n.out q))
   have J:=bB (B+D) k;have E:=bB B k;have Q:=o.out.cell (i:=k) (by omega)
   have O:=o.out.frozen k;have f:=aa (EB (k:=k) rfl rfl M.out);generalize dgt (B+D) k=a at K J f
   generalize dgt B k=b at z E f
   have L:=f.out.1;have l:=f.out.2.2.1;have U:IntKind.u64.wrap ((a:Int)+4294967296)=(a:Int)+4294967296:=by rw [IntKind.wrap_u64];omega
   have R:IntKind.u64.wrap ((a:Int)+4294967296 - (b:Int))=(a:Int)+4294967296 - (b:Int):=by rw [IntKind.wrap_u64];omega
   have F:IntKind.u64.wrap ((a:Int)+4294967296 - (b:Int) - (x:Int))=((a+4294967296 - b - x:Nat):Int):=by rw [IntKind.wrap_u64];omega
   have H:a+4294967296 - b - x<8589934592:=by omega
   generalize a+4294967296 - b - x=s at F f l H
   go_wp2_with fail
   go_quiet ((go_at_call 142;exact Calls.quiet_of_same (z.out _)))
   go_wp2_with fail
   go_roundw
   case rel=>exact⟨k+1,1 - s / 4294967296,by omega,by omega,by go_num,by go_num,f.out.2.2.2,jP (w:=wr.drewN nq) o.out (by rw [<- f.out.2.1];omega),(below_drewN n.out _).setCell (Nat.le_refl _) _⟩
   case measure=>simp [intOf];omega
  ·obtain rfl:k=m:=by omega
   have d:=aa (lj o.out);have A:Hid (D<2^(32*k)):=by show _<_;have:=t.out;omega
   have h:=d.out.lt;have I:=aa (nH d.out.row A.out (Nat.le_refl _) h)
   go_wp2_with fail
   refine (du _ _ _ _ _ d.out.row A.out (Nat.le_refl _) (by omega)).mono ?_
   rintro e u ⟨rfl,rfl⟩
   go_wp2_with fail
   go_ret
   exact⟨_,rfl,I.out,ij _ _ _ _ (Nat.le_refl _),n.out⟩
theorem dZ (u v:Value) (A B:Nat) (w:World) (i:DN w u A) (k:DN w v B) (h:nd A<=10000000) (j:B<=A) :
  Calls Tryz.prog 116 #[u,v] w fun e a=>∃ v,e=.returned v/\DN a v (A - B)/\From w.heap.size v/\Below w.heap.size w a:=by
 obtain⟨D,rfl⟩:∃ D,A=B+D:=⟨A - B,by omega⟩
 rw [Nat.add_sub_cancel_left];rcases i with⟨d,p,c,rfl⟩| ⟨d,g,c,rfl,l,b,f⟩
 ·rw [show D=0 by omega];exact sv p c v w
 ·exact sw g v c (nd (B+D)) B D w f b k h (dh _)
theorem sx (p q:Option Addr) (m n c d A B:Nat) (w:World) (f:Hid (nd A=m)) (b:Hid (nd B=n)) (a:m≠n) :
  Calls Tryz.prog 115 #[.slice p m c,.slice q n d] w fun e g=>e=.returned (.int .i64 (mL A B))/\∃ q,g=w.drewN q:=by
 rcases Nat.lt_or_gt_of_ne a with h | h
 ·have e:mL A B= -1:=ll (xn (by rw [f.out,b.out];exact h))
  rw [e]
  go_enter Tryz.func115,Tryz.ntmps115
  go_wp2
  go_ret
  exact⟨rfl,0,rfl⟩
 ·have e:mL A B=1:=lp (xn (by rw [f.out,b.out];exact h))
  rw [e]
  go_enter Tryz.func115,Tryz.ntmps115
  go_wp2
  go_ret
  exact⟨rfl,0,rfl⟩
theorem xo {A n:Nat} (h:A<2^(32*n)):A / 2^(32*n)=0:=Nat.div_eq_of_lt h
theorem sy (g f n c d A B:Nat) (w:World) (t:Hid (RowIs w g n A)) (s:Hid (RowIs w f n B)) (C:Hid (A<2^(32*n))) (D:Hid (B<2^(32*n))) (hn:n<=10000000) :
  Calls Tryz.prog 115 #[.slice (some ⟨g,0,none⟩) n c,.slice (some ⟨f,0,none⟩) n d] w fun e z=>e=.returned (.int .i64 (mL A B))/\∃ q,z=w.drewN q:=by
 go_enter Tryz.func115,Tryz.ntmps115
 go_wp2_with fail
 go_loopw [5] (fun i wr=>∃ k:Nat,k<=n/\i=.int .i64 ((k:Int) - 1)/\Hid (A / 2^(32*k)=B / 2^(32*k))/\Hid (∃ q,wr=w.drewN q)) (fun i _=>(intOf i+1).toNat)
 case atStart=>exact⟨n,Nat.le_refl _,rfl,by show _=_;rw [xo C.out,xo D.out],0,rfl⟩
 case round=>
  obtain⟨k,F,rfl,r,l⟩:=hrel;cases k with
  | zero=>
   have e:mL A B=0:=lm (by have:=r.out;rw [Nat.mul_zero,Nat.pow_zero,Nat.div_one,Nat.div_one] at this;exact this)
   have E:=aa e.symm;clear e
   go_wp2_with fail
   go_ret
   exact⟨bA E.out,l.out⟩
  | succ j=>
   have x:((j+1:Nat):Int) - 1=(j:Int):=by omega
   rw [x];have u:wr.cell? ⟨g,j,none⟩=some (.int .u64 (dgt A j:Int)):=by obtain⟨q,rfl⟩:=l.out;exact t.out j (by omega)
   have v:wr.cell? ⟨f,j,none⟩=some (.int .u64 (dgt B j:Int)):=by obtain⟨q,rfl⟩:=l.out;exact s.out j (by omega)
   clear x;have o:=aa fun h=>ll (te r.out h)
   have m:=aa fun h=>lp (te r.out.symm h)
   have p:=aa fun h=>EC r.out h
   generalize dgt A j=a at u o m p
   generalize dgt B j=b at v o m p
   clear r;rcases Nat.lt_trichotomy a b with h | h | h
   ·have e:=o.out h;have E:=aa e.symm;clear e o m p
    go_wp2_with fail
    go_quiet (fail)
    go_wp2_with fail
    go_ret
    refine⟨bA E.out,?_⟩
    obtain⟨q,rfl⟩:=l.out;exact⟨_,World.drewN_drewN _ _ _⟩
   ·have y:=aa (p.out h);clear o m p;subst h
    go_wp2_with fail
    go_quiet (fail)
    go_wp2_with fail
    go_quiet (fail)
    go_wp2_with fail
    go_roundw
    case rel=>
     refine⟨j,by omega,by go_num,y,?_⟩
     obtain⟨q,rfl⟩:=l.out;exact⟨_,by first | exact World.drewN_drewN _ _ _ | rw [World.drewN_drewN,World.drewN_drewN]⟩
    case measure=>simp [intOf]
   ·have e:=m.out h;have E:=aa e.symm;clear e o m p
    go_wp2_with fail
    go_quiet (fail)
    go_wp2_with fail
    go_quiet (fail)
    go_wp2_with fail
    go_ret
    refine⟨bA E.out,?_⟩
    obtain⟨q,rfl⟩:=l.out;exact⟨_,by first | exact World.drewN_drewN _ _ _ | rw [World.drewN_drewN,World.drewN_drewN]⟩
theorem sA (p q:Option Addr) (c d:Nat) (w:World) :
  Calls Tryz.prog 115 #[.slice p 0 c,.slice q 0 d] w fun e a=>e=.returned (.int .i64 0)/\∃ q,a=w.drewN q:=by
 go_enter Tryz.func115,Tryz.ntmps115
 go_wp2_with fail
 go_loop [5] (fun i=>i=.int .i64 (-1)) (fun _=>0)
 case atStart=>rfl
 case round=>
  subst hrel
  go_wp2_with fail
  go_ret
  exact⟨rfl,0,rfl⟩
theorem cO (u v:Value) (A B:Nat) (w:World) (k:DN w u A) (i:DN w v B) (s:nd A<=10000000) :
  Calls Tryz.prog 115 #[u,v] w fun e n=>e=.returned (.int .i64 (mL A B))/\∃ q,n=w.drewN q:=by
 by_cases a:nd A=nd B
 ·rcases k with⟨h,p,c,rfl⟩| ⟨h,g,c,rfl,x,t,o⟩
  ·rcases i with⟨b,q,d,rfl⟩| ⟨b,f,d,rfl,r,l,j⟩
   ·rw [lm (h.trans b.symm)];exact sA p q c d w
   ·exfalso;have m:=dt b;rw [h,uS] at a;omega
  ·rcases i with⟨b,q,d,rfl⟩| ⟨b,f,d,rfl,r,l,j⟩
   ·exfalso;have m:=dt h;rw [b,uS] at a;omega
   ·rw [<- a] at j ⊢
    exact sy g f (nd A) c d A B w o j (dh A) (by show _<_;rw [a];exact dh B) s
 ·obtain⟨p,c,rfl⟩:=k.form;obtain⟨q,d,rfl⟩:=i.form;exact sx p q _ _ c d A B w rfl rfl a
end Go.Proofs.YtfdddijdjpijbaaGreat
