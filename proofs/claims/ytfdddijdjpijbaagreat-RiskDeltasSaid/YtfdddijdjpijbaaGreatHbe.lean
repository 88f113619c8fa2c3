/-  -/
import Derived.Test.YtfdddijdjpijbaaGreatHax
import Derived.Deep.QuietTactic
import Derived.BigQuiet
import Derived.RegionTactic
import Derived.Deep.RegionHeld3
import Derived.Deep.RegionLaw
set_option maxHeartbeats 6400000
set_option maxRecDepth 20000
namespace Go.Proofs.YtfdddijdjpijbaaGreat
open Go.RowKit
theorem rY {d:Array Oper} {o:Oper} {a:Act} {w:World} {K:Act->World->Prop} {Q:Exit->Act->World->Prop} {E:Prop} (l:o.guard=none) (s x:Operand)
  (D:o.op=.call { callee:=.builtin .append,args:=#[s,x],argTypes:=#[36,36] })
  (base:Nat) (v:Value) (n:Nat) (xs:List Flw) (B:a.eval s=v) (b:w.ownsRow base 68 3 v n (gC aB xs)) (p:base<=w.heap.size)
  (g:Nat) (z:Flw) (y:a.eval x=.slice (some ⟨g,0,none⟩) 1 1) (hc:FCells aB w g 0 z) (hn:(n+1)*24<=140737488355328)
  (h:∀ f c,c.ownsRow base 68 3 f (n+1) (gC aB (xs++[z]))->Below base w c->K (a.put o.dst f) c) :
  if Region.wanted o (yielded d a.tmps)=true then Oper.wp Tryz.prog o a w K Q else E:=by
 have C:Region.wanted o (yielded d a.tmps)=true:=by simp [Region.wanted,l]
 rw [if_pos C];obtain⟨r,hi,i,k,m⟩:=info_parts Nz;refine wp_append_own w s x 36 D base 68 r (.agg #[.int .i64 0,aB 0,.int .i64 0]) 3 24 Tryz.underlying36 hi i k m rfl (by decide) v n (gC aB xs) B b ⟨g,0,none⟩ 1 1 (gC aB [z]) y (by rw [qX];rfl) ?_ (zp (fun _=>rfl) [z]) (by unfold maxLen;omega) (by omega) p ?_
 ·intro j u e;have q:j<3:=by
   have:=(List.getElem?_eq_some_iff.1 e).1
   rw [qX] at this
   exact this
  rw [Addr.add_lit];rcases (show j=0\/j=1\/j=2 by omega) with rfl | rfl | rfl
  ·rw [<- e];exact hc.c0
  ·rw [<- e];exact hc.c1
  ·rw [<- e];exact hc.c2
 ·intro f c A t _;refine h f c ?_ (wE b t p)
  rw [nW];exact A
theorem CS (w:World) (f:Flw):FCells aB (w.alloc (.cells #[.int .i64 f.day,.int .u64 (f.am:Int),.int .i64 f.cur] 68)) w.heap.size 0 f:=
 ⟨by simp,by simp [aB],by simp⟩
theorem Oz (l:List Flw):nE id l l.length=l:=by rw [LV];simp
theorem Aq (l:List Flw) (p:Option Addr) (b off c N:Nat) (w:World) (C:JSrc aF w p b off l) (H:l.length=N) (hc:N*24<=140737488355328) :
  Calls Tryz.prog 9 #[.slice p N c] w fun e I=>(∃ u,e=.returned u/\I.ownsRow w.heap.size 68 3 u N (gC aB l))/\Below w.heap.size w I:=by
 have v:=hideS H;have J:=hideS C;have Q:Hid (0<N->p=some ⟨b,off,none⟩):=fun h=>C.at_ (by omega)
 have S:=hideS hc;have T:N<=140737488355328:=by omega
 have r:=hideS (Kx aB w w.heap.size 68);clear C H hc
 go_enter Tryz.func9,Tryz.ntmps9
 go_wp2_with fail
 go_loopw [3,4] (fun g i wr=>∃ (k:Nat) (q:Option Addr) (x:Nat),k<=N/\i=.int .i64 k/\g=.slice q k x/\Hid (wr.ownsRow w.heap.size 68 3 (.slice q k x) k (gC aB (nE id l k)))/\Hid (Below w.heap.size w wr)) (fun _ i _=>N - (intOf i).toNat)
 case atStart=>exact⟨0,none,0,Nat.zero_le _,rfl,rfl,r,Below.refl _ _⟩
 case round=>
  clear r;obtain⟨k,q,x,Z,rfl,rfl,L,m⟩:=hrel
  by_cases y:k<N
  ·obtain rfl:=Q.out (by omega)
   obtain⟨c0,c1,c2⟩:=(J.out.below m.out).cell k (by rw [v.out];exact y)
   have z:b<wr.heap.size:=Nat.lt_of_lt_of_le (J.out.lt (by rw [v.out];omega)) m.out.size
   have K:Hid (nE id l (k+1)=nE id l k++[l.getD k aC]):=GW id l k;obtain⟨f,G⟩:∃ f,l.getD k aC=f:=⟨_,rfl⟩;rw [G] at K c0 c1 c2
   clear G;obtain⟨s,j,t⟩:=f;dsimp only [aF] at *
   have O:b≠wr.heap.size:=Nat.ne_of_lt z;have d:=hideS ((Below.refl wr.heap.size wr).drew.alloc (Nat.le_refl _) (.cells #[.int .i64 s,.int .u64 (j:Int),.int .i64 t] 68));have D:=hideS (BY L.out d.out);have o:=hideS (m.out.trans (d.out.mono m.out.size));have E:Hid (FCells aB (wr.drew.alloc (.cells #[.int .i64 s,.int .u64 (j:Int),.int .i64 t] 68)) wr.heap.size 0 ⟨s,j,t⟩):=CS wr.drew ⟨s,j,t⟩;have Y:(0:Int)<=(k:Int):=by omega
   have X:(k:Int)<(N:Int):=by omega
   go_wp2_with fail
   go_region_law (first | (go_simp;go_at_call 11;refine (turned (fC _ _)).mono ?_;rintro e wb ⟨rfl,rfl⟩) | (refine rY rfl (.tmp 11) (.tmp 29) rfl w.heap.size (.slice q k x) k (nE id l k) rfl D.out o.out.size wr.heap.size ⟨s,j,t⟩ rfl E.out (by have:=S.out;omega) ?_;intro V U a n;rw [<- K.out] at a;have B:=hideS (o.out.trans n);obtain⟨M,W,R,A,_,_,_,P⟩:=zq a (LU _ _ _);subst A;have F:=hideS a;clear a n))
   all_goals
    go_wp2_with fail
    go_roundw
    case rel=>exact⟨k+1,M,R,by omega,by go_num,rfl,F,B⟩
    case measure=>simp [intOf];omega
  ·obtain rfl:k=N:=by omega
   go_wp2_with fail
   go_ret
   refine⟨⟨_,rfl,?_⟩,m.out⟩
   have:=L.out;rw [<- v.out,Oz,v.out] at this
   exact this
theorem mC (n:Int) (w:World) :
  Calls Tryz.prog 106 #[.int .i64 n] w fun e a=>e=.returned (.bool (decide (1<=n/\n<=8)))/\a=w:=by
 by_cases c:1<=n<;>by_cases b:n<=8
 all_goals
  first | rw [decide_eq_true (⟨c,b⟩:1<=n/\n<=8)] | rw [decide_eq_false (fun h:1<=n/\n<=8=>by omega)]
  go_enter Tryz.func106,Tryz.ntmps106
  go_wp2
  go_ret
  exact⟨rfl,rfl⟩
theorem rZ (l:List Flw) (p:Option Addr) (b off c N:Nat) (E K:Int) (w:World) (G:JSrc aB w p b off l) (J:l.length=N) (hc:N<=9223372036854775807) (H:dB l) (D:ChkF l E K) :
  Calls Tryz.prog 105 #[.slice p N c] w fun e x=>e=.returned (.tuple #[.int .i64 E,.int .i64 K])/\Below w.heap.size w x:=by
 have A:=hideS J;have S:=hideS D;have V:=hideS G;have W:=hideS H
 by_cases Y:4096<N
 ·obtain⟨rfl,rfl⟩:=aM D (.many (by omega))
  clear D G J H
  go_enter Tryz.func105,Tryz.ntmps105
  go_wp2
  go_ret2
  exact⟨rfl,Below.refl _ _⟩
 ·have X:Hid (0<N->p=some ⟨b,off,none⟩):=fun h=>G.at_ (by omega)
  clear D G J H
  go_enter Tryz.func105,Tryz.ntmps105
  go_wp2_with fail
  go_loopw [4] (fun i wr=>∃ k:Nat,k<=N/\i=.int .i64 k/\Hid (∀ j<k,fZ (l.getD j aC)=0)/\Hid (Below w.heap.size w wr)) (fun i _=>N - (intOf i).toNat)
  case atStart=>exact⟨0,Nat.zero_le _,rfl,fun j U=>by omega,Below.refl _ _⟩
  case round=>
   obtain⟨k,Z,rfl,u,t⟩:=hrel
   by_cases y:k<N
   ·obtain rfl:=X.out (by omega)
    obtain⟨c0,c1,c2⟩:=(V.out.below t.out).cell k (by rw [A.out];exact y)
    have B:=hideS (W.out k);obtain⟨F,hF⟩:∃ F,fZ (l.getD k aC)=F:=⟨_,rfl⟩;have s:=hideS hF;have a:Hid ((if ¬ (0<=(l.getD k aC).day/\(l.getD k aC).day<=109572) then 51 else if aE (l.getD k aC).am=false then 91 else if ¬ (1<=(l.getD k aC).cur/\(l.getD k aC).cur<=8) then 140 else 0)=F):=hF
    clear hF;have g:Hid (F≠0->F=E/\(k:Int)=K):=fun I=>aM (.bad (by rw [A.out];omega) k (by rw [A.out];exact y) F s.out I u.out) S.out
    have f:Hid (F=0->∀ j<k+1,fZ (l.getD j aC)=0):=fun I j U=>by
     by_cases c:j<k
     ·exact u.out j c
     ·obtain rfl:j=k:=by omega
      rw [s.out];exact I
    obtain⟨q,R⟩:∃ q,l.getD k aC=q:=⟨_,rfl⟩;rw [R] at c0 c1 c2 a B
    clear R s;obtain⟨T,O,M⟩:=q;dsimp only [aB] at *
    have o:=hideS fun L=>bK (O:Int) L (by have:=B.out;unfold U64;omega)
    have r:=hideS fun L=>mC M L
    by_cases Q:0<=T
    ·by_cases P:T<=109572
     ·rw [if_neg (not_not_intro ⟨Q,P⟩)] at a
      cases z:aE (O:Int)
      ·rw [z] at o a
       have d:F=91:=a.out.symm;have m:=g.out (by rw [d];decide)
       rw [d] at m
       have n:=hideS m;clear a d m z g f
       go_wp2_with fail
       refine (o.out _).mono ?_
       rintro e x ⟨rfl,rfl⟩
       go_wp2_with fail
       go_ret2
       obtain⟨rfl,rfl⟩:=n.out;exact⟨rfl,t.out⟩
      ·rw [z] at o a
       rw [if_neg (by simp)] at a
       by_cases v:1<=M/\M<=8
       ·rw [if_neg (not_not_intro v)] at a
        rw [decide_eq_true v] at r
        replace f:=hideS (f.out a.out.symm)
        clear a z v g
        go_wp2_with fail
        refine (o.out _).mono ?_
        rintro e x ⟨rfl,rfl⟩
        go_wp2_with fail
        refine (r.out _).mono ?_
        rintro e x ⟨rfl,rfl⟩
        go_wp2_with fail
        go_roundw
        case rel=>exact⟨k+1,by omega,by simp,f,t⟩
        case measure=>simp [intOf];omega
       ·rw [if_pos v] at a
        rw [decide_eq_false v] at r
        have d:F=140:=a.out.symm;have m:=g.out (by rw [d];decide)
        rw [d] at m
        have n:=hideS m;clear a d m z v g f
        go_wp2_with fail
        refine (o.out _).mono ?_
        rintro e x ⟨rfl,rfl⟩
        go_wp2_with fail
        refine (r.out _).mono ?_
        rintro e x ⟨rfl,rfl⟩
        go_wp2_with fail
        go_ret2
        obtain⟨rfl,rfl⟩:=n.out;exact⟨rfl,t.out⟩
     ·rw [if_pos (fun h=>P h.2)] at a
      have d:F=51:=a.out.symm;have m:=g.out (by rw [d];decide)
      rw [d] at m
      have n:=hideS m;clear a d m g f
      go_wp2_with fail
      go_ret2
      obtain⟨rfl,rfl⟩:=n.out;exact⟨rfl,t.out⟩
    ·rw [if_pos (fun h=>Q h.1)] at a
     have d:F=51:=a.out.symm;have m:=g.out (by rw [d];decide)
     rw [d] at m
     have n:=hideS m;clear a d m g f
     go_wp2_with fail
     go_ret2
     obtain⟨rfl,rfl⟩:=n.out;exact⟨rfl,t.out⟩
   ·obtain rfl:k=N:=by omega
    have C:(0:Int)=E/\(0:Int)=K:=aM (.fine (by rw [A.out];omega) (by rw [A.out];exact u.out)) S.out
    have g:=hideS C;clear C
    go_wp2_with fail
    go_ret2
    obtain⟨rfl,rfl⟩:=g.out;exact⟨rfl,t.out⟩
end Go.Proofs.YtfdddijdjpijbaaGreat
