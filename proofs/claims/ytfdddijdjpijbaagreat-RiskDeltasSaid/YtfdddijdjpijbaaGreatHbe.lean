/-  -/
import Derived.Test.YtfdddijdjpijbaaGreatHax
import Derived.Deep.QuietTactic
import Derived.BigQuiet
import Derived.RegionTactic
import Derived.Deep.RegionHeld3
import Derived.Deep.RegionLaw
set_option maxHeartbeats 6400000
set_option maxRecDepth 20000
namespace Go.Proofs.YtfdddijdjpijbaaGreat
open Go.RowKit
theorem rY {c:Array Oper} {o:Oper} {a:Act} {w:World} {K:Act->World->Prop} {Q:Exit->Act->World->Prop} {E:Prop} (i:o.guard=none) (s x:Operand)
  (t:o.op=.call { callee:=.builtin .append,args:=#[s,x],argTypes:=#[36,36] })
  (base:Nat) (v:Value) (n:Nat) (xs:List Flw) (B:a.eval s=v) (b:w.ownsRow base 68 3 v n (gC aB xs)) (p:base<=w.heap.size)
  (g:Nat) (z:Flw) (C:a.eval x=.slice (some ⟨g,0,none⟩) 1 1) (hc:FCells aB w g 0 z) (hn:(n+1)*24<=140737488355328)
  (h:∀ f d,d.ownsRow base 68 3 f (n+1) (gC aB (xs++[z]))->Below base w d->K (a.put o.dst f) d) :
  if Region.wanted o (yielded c a.tmps)=true then Oper.wp Tryz.prog o a w K Q else E:=by
 have D:Region.wanted o (yielded c a.tmps)=true:=by simp [Region.wanted,i]
 rw [if_pos D];obtain⟨y,hi,k,l,m⟩:=info_parts Nz;refine wp_append_own w s x 36 t base 68 y (.agg #[.int .i64 0,aB 0,.int .i64 0]) 3 24 Tryz.underlying36 hi k l m rfl (by decide) v n (gC aB xs) B b ⟨g,0,none⟩ 1 1 (gC aB [z]) C (by rw [qX];rfl) ?_ (zp (fun _=>rfl) [z]) (by unfold maxLen;omega) (by omega) p ?_
 ·intro j u e;have A:j<3:=by
   have:=(List.getElem?_eq_some_iff.1 e).1
   rw [qX] at this
   exact this
  rw [Addr.add_lit];rcases (show j=0\/j=1\/j=2 by omega) with rfl | rfl | rfl
  ·rw [<- e];exact hc.c0
  ·rw [<- e];exact hc.c1
  ·rw [<- e];exact hc.c2
 ·intro f d q r _;refine h f d ?_ (wE b r p)
  rw [nW];exact q
theorem CS (w:World) (f:Flw):FCells aB (w.alloc (.cells #[.int .i64 f.day,.int .u64 (f.am:Int),.int .i64 f.cur] 68)) w.heap.size 0 f:=
 ⟨by simp,by simp [aB],by simp⟩
theorem Oz (l:List Flw):nE id l l.length=l:=by rw [LV];simp
theorem Aq (l:List Flw) (p:Option Addr) (b off c N:Nat) (w:World) (E:JSrc aF w p b off l) (L:l.length=N) (hc:N*24<=140737488355328) :
  Calls Tryz.prog 9 #[.slice p N c] w fun e K=>(∃ u,e=.returned u/\K.ownsRow w.heap.size 68 3 u N (gC aB l))/\Below w.heap.size w K:=by
 have y:=hideS L;have M:=hideS E;have P:Hid (0<N->p=some ⟨b,off,none⟩):=fun h=>E.at_ (by omega)
 have O:=hideS hc;have Q:N<=140737488355328:=by omega
 have j:=hideS (Kx aB w w.heap.size 68);clear E L hc
 go_enter Tryz.func9,Tryz.ntmps9
 go_wp2_with fail
 go_loopw [3,4] (fun g i a=>∃ (k:Nat) (q:Option Addr) (x:Nat),k<=N/\i=.int .i64 k/\g=.slice q k x/\Hid (a.ownsRow w.heap.size 68 3 (.slice q k x) k (gC aB (nE id l k)))/\Hid (Below w.heap.size w a)) (fun _ i _=>N - (intOf i).toNat)
 case atStart=>exact⟨0,none,0,Nat.zero_le _,rfl,rfl,j,Below.refl _ _⟩
 case round=>
  clear j;obtain⟨k,q,x,Y,rfl,rfl,I,o⟩:=hrel
  by_cases G:k<N
  ·obtain rfl:=P.out (by omega)
   obtain⟨c0,c1,c2⟩:=(M.out.below o.out).cell k (by rw [y.out];exact G)
   have C:b<a.heap.size:=Nat.lt_of_lt_of_le (M.out.lt (by rw [y.out];omega)) o.out.size
   have H:Hid (nE id l (k+1)=nE id l k++[l.getD k aC]):=GW id l k;obtain⟨f,J⟩:∃ f,l.getD k aC=f:=⟨_,rfl⟩;rw [J] at H c0 c1 c2
   clear J;obtain⟨m,r,v⟩:=f;dsimp only [aF] at *
   have U:b≠a.heap.size:=Nat.ne_of_lt C;have n:=hideS ((Below.refl a.heap.size a).drew.alloc (Nat.le_refl _) (.cells #[.int .i64 m,.int .u64 (r:Int),.int .i64 v] 68));have D:=hideS (BY I.out n.out);have t:=hideS (o.out.trans (n.out.mono o.out.size));have z:Hid (FCells aB (a.drew.alloc (.cells #[.int .i64 m,.int .u64 (r:Int),.int .i64 v] 68)) a.heap.size 0 ⟨m,r,v⟩):=CS a.drew ⟨m,r,v⟩;have X:(0:Int)<=(k:Int):=by omega
   have Z:(k:Int)<(N:Int):=by omega
   go_wp2_with fail
   go_region_law (first | (go_simp;go_at_call 11;refine (turned (fC _ _)).mono ?_;rintro e wb ⟨rfl,rfl⟩) | (refine rY rfl (.tmp 11) (.tmp 29) rfl w.heap.size (.slice q k x) k (nE id l k) rfl D.out t.out.size a.heap.size ⟨m,r,v⟩ rfl z.out (by have:=O.out;omega) ?_;intro v5 V d s;rw [<- H.out] at d;have F:=hideS (t.out.trans s);obtain⟨R,W,T,B,_,_,_,S⟩:=zq d (LU _ _ _);subst B;have A:=hideS d;clear d s))
   all_goals
    go_wp2_with fail
    go_roundw
    case rel=>exact⟨k+1,R,T,by omega,by go_num,rfl,A,F⟩
    case measure=>simp [intOf];omega
  ·obtain rfl:k=N:=by omega
   go_wp2_with fail
   go_ret
   refine⟨⟨_,rfl,?_⟩,o.out⟩
   have:=I.out;rw [<- y.out,Oz,y.out] at this
   exact this
theorem mC (n:Int) (w:World) :
  Calls Tryz.prog 106 #[.int .i64 n] w fun e b=>e=.returned (.bool (decide (1<=n/\n<=8)))/\b=w:=by
 by_cases c:1<=n<;>by_cases a:n<=8
 all_goals
  first | rw [decide_eq_true (⟨c,a⟩:1<=n/\n<=8)] | rw [decide_eq_false (fun h:1<=n/\n<=8=>by omega)]
  go_enter Tryz.func106,Tryz.ntmps106
  go_wp2
  go_ret
  exact⟨rfl,rfl⟩
theorem rZ (l:List Flw) (p:Option Addr) (b off c N:Nat) (E K:Int) (w:World) (D:JSrc aB w p b off l) (M:l.length=N) (hc:N<=9223372036854775807) (L:dB l) (G:ChkF l E K) :
  Calls Tryz.prog 105 #[.slice p N c] w fun e x=>e=.returned (.tuple #[.int .i64 E,.int .i64 K])/\Below w.heap.size w x:=by
 have A:=hideS M;have T:=hideS G;have Z:=hideS D;have Y:=hideS L
 by_cases hm:4096<N
 ·obtain⟨rfl,rfl⟩:=aM G (.many (by omega))
  clear G D M L
  go_enter Tryz.func105,Tryz.ntmps105
  go_wp2
  go_ret2
  exact⟨rfl,Below.refl _ _⟩
 ·have X:Hid (0<N->p=some ⟨b,off,none⟩):=fun h=>D.at_ (by omega)
  clear G D M L
  go_enter Tryz.func105,Tryz.ntmps105
  go_wp2_with fail
  go_loopw [4] (fun i W=>∃ k:Nat,k<=N/\i=.int .i64 k/\Hid (∀ j<k,fZ (l.getD j aC)=0)/\Hid (Below w.heap.size w W)) (fun i _=>N - (intOf i).toNat)
  case atStart=>exact⟨0,Nat.zero_le _,rfl,fun j V=>by omega,Below.refl _ _⟩
  case round=>
   obtain⟨k,hk,rfl,t,s⟩:=hrel
   by_cases B:k<N
   ·obtain rfl:=X.out (by omega)
    obtain⟨c0,c1,c2⟩:=(Z.out.below s.out).cell k (by rw [A.out];exact B)
    have z:=hideS (Y.out k);obtain⟨F,I⟩:∃ F,fZ (l.getD k aC)=F:=⟨_,rfl⟩;have u:=hideS I;have a:Hid ((if ¬ (0<=(l.getD k aC).day/\(l.getD k aC).day<=109572) then 51 else if aE (l.getD k aC).am=false then 91 else if ¬ (1<=(l.getD k aC).cur/\(l.getD k aC).cur<=8) then 140 else 0)=F):=I
    clear I;have g:Hid (F≠0->F=E/\(k:Int)=K):=fun J=>aM (.bad (by rw [A.out];omega) k (by rw [A.out];exact B) F u.out J t.out) T.out
    have f:Hid (F=0->∀ j<k+1,fZ (l.getD j aC)=0):=fun J j V=>by
     by_cases c:j<k
     ·exact t.out j c
     ·obtain rfl:j=k:=by omega
      rw [u.out];exact J
    obtain⟨q,P⟩:∃ q,l.getD k aC=q:=⟨_,rfl⟩;rw [P] at c0 c1 c2 a z
    clear P u;obtain⟨Q,U,O⟩:=q;dsimp only [aB] at *
    have o:=hideS fun H=>bK (U:Int) H (by have:=z.out;unfold U64;omega)
    have r:=hideS fun H=>mC O H
    by_cases R:0<=Q
    ·by_cases S:Q<=109572
     ·rw [if_neg (not_not_intro ⟨R,S⟩)] at a
      cases y:aE (U:Int)
      ·rw [y] at o a
       have d:F=91:=a.out.symm;have n:=g.out (by rw [d];decide)
       rw [d] at n
       have m:=hideS n;clear a d n y g f
       go_wp2_with fail
       refine (o.out _).mono ?_
       rintro e x ⟨rfl,rfl⟩
       go_wp2_with fail
       go_ret2
       obtain⟨rfl,rfl⟩:=m.out;exact⟨rfl,s.out⟩
      ·rw [y] at o a
       rw [if_neg (by simp)] at a
       by_cases v:1<=O/\O<=8
       ·rw [if_neg (not_not_intro v)] at a
        rw [decide_eq_true v] at r
        replace f:=hideS (f.out a.out.symm)
        clear a y v g
        go_wp2_with fail
        refine (o.out _).mono ?_
        rintro e x ⟨rfl,rfl⟩
        go_wp2_with fail
        refine (r.out _).mono ?_
        rintro e x ⟨rfl,rfl⟩
        go_wp2_with fail
        go_roundw
        case rel=>exact⟨k+1,by omega,by simp,f,s⟩
        case measure=>simp [intOf];omega
       ·rw [if_pos v] at a
        rw [decide_eq_false v] at r
        have d:F=140:=a.out.symm;have n:=g.out (by rw [d];decide)
        rw [d] at n
        have m:=hideS n;clear a d n y v g f
        go_wp2_with fail
        refine (o.out _).mono ?_
        rintro e x ⟨rfl,rfl⟩
        go_wp2_with fail
        refine (r.out _).mono ?_
        rintro e x ⟨rfl,rfl⟩
        go_wp2_with fail
        go_ret2
        obtain⟨rfl,rfl⟩:=m.out;exact⟨rfl,s.out⟩
     ·rw [if_pos (fun h=>S h.2)] at a
      have d:F=51:=a.out.symm;have n:=g.out (by rw [d];decide)
      rw [d] at n
      have m:=hideS n;clear a d n g f
      go_wp2_with fail
      go_ret2
      obtain⟨rfl,rfl⟩:=m.out;exact⟨rfl,s.out⟩
    ·rw [if_pos (fun h=>R h.1)] at a
     have d:F=51:=a.out.symm;have n:=g.out (by rw [d];decide)
     rw [d] at n
     have m:=hideS n;clear a d n g f
     go_wp2_with fail
     go_ret2
     obtain⟨rfl,rfl⟩:=m.out;exact⟨rfl,s.out⟩
   ·obtain rfl:k=N:=by omega
    have C:(0:Int)=E/\(0:Int)=K:=aM (.fine (by rw [A.out];omega) (by rw [A.out];exact t.out)) T.out
    have g:=hideS C;clear C
    go_wp2_with fail
    go_ret2
    obtain⟨rfl,rfl⟩:=g.out;exact⟨rfl,s.out⟩
end Go.Proofs.YtfdddijdjpijbaaGreat
