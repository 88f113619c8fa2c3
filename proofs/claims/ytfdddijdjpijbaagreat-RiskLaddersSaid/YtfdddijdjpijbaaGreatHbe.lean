/-  -/
import Derived.Test.YtfdddijdjpijbaaGreatHax
import Derived.Deep.QuietTactic
import Derived.BigQuiet
import Derived.RegionTactic
import Derived.Deep.RegionHeld3
import Derived.Deep.RegionLaw
set_option maxHeartbeats 6400000
set_option maxRecDepth 20000
namespace Go.Proofs.YtfdddijdjpijbaaGreat
open Go.RowKit
theorem rH {c:Array Oper} {o:Oper} {a:Act} {w:World} {K:Act->World->Prop} {Q:Exit->Act->World->Prop} {E:Prop} (i:o.guard=none) (s x:Operand)
  (D:o.op=.call { callee:=.builtin .append,args:=#[s,x],argTypes:=#[36,36] })
  (base:Nat) (v:Value) (n:Nat) (xs:List Flw) (B:a.eval s=v) (b:w.ownsRow base 68 3 v n (gg aB xs)) (p:base<=w.heap.size)
  (g:Nat) (z:Flw) (r:a.eval x=.slice (some ⟨g,0,none⟩) 1 1) (hc:FCells aB w g 0 z) (hn:(n+1)*24<=140737488355328)
  (h:∀ f d,d.ownsRow base 68 3 f (n+1) (gg aB (xs++[z]))->Below base w d->K (a.put o.dst f) d) :
  if Region.wanted o (yielded c a.tmps)=true then Oper.wp Tryz.prog o a w K Q else E:=by
 have t:Region.wanted o (yielded c a.tmps)=true:=by simp [Region.wanted,i]
 rw [if_pos t];obtain⟨C,hi,l,k,m⟩:=info_parts MU;refine wp_append_own w s x 36 D base 68 C (.agg #[.int .i64 0,aB 0,.int .i64 0]) 3 24 Tryz.underlying36 hi l k m rfl (by decide) v n (gg aB xs) B b ⟨g,0,none⟩ 1 1 (gg aB [z]) r (by rw [qK];rfl) ?_ (yP (fun _=>rfl) [z]) (by unfold maxLen;omega) (by omega) p ?_
 ·intro j u e;have y:j<3:=by
   have:=(List.getElem?_eq_some_iff.1 e).1
   rw [qK] at this
   exact this
  rw [Addr.add_lit];rcases (show j=0\/j=1\/j=2 by omega) with rfl | rfl | rfl
  ·rw [<- e];exact hc.c0
  ·rw [<- e];exact hc.c1
  ·rw [<- e];exact hc.c2
 ·intro f d A q _;refine h f d ?_ (vF b q p)
  rw [nN];exact A
theorem Cr (w:World) (f:Flw):FCells aB (w.alloc (.cells #[.int .i64 f.day,.int .u64 (f.am:Int),.int .i64 f.cur] 68)) w.heap.size 0 f:=
 ⟨by simp,by simp [aB],by simp⟩
theorem NT (l:List Flw):nj id l l.length=l:=by rw [Lo];simp
theorem zX (l:List Flw) (p:Option Addr) (b off c N:Nat) (w:World) (D:JSrc aF w p b off l) (K:l.length=N) (hc:N*24<=140737488355328) :
  Calls Tryz.prog 9 #[.slice p N c] w fun e J=>(∃ u,e=.returned u/\J.ownsRow w.heap.size 68 3 u N (gg aB l))/\Below w.heap.size w J:=by
 have x:=hideS K;have H:=hideS D;have P:Hid (0<N->p=some ⟨b,off,none⟩):=fun h=>D.at_ (by omega)
 have S:=hideS hc;have O:N<=140737488355328:=by omega
 have j:=hideS (JS aB w w.heap.size 68);clear D K hc
 go_enter Tryz.func9,Tryz.ntmps9
 go_wp2_with fail
 go_loopw [3,4] (fun g i wr=>∃ (k:Nat) (q:Option Addr) (v:Nat),k<=N/\i=.int .i64 k/\g=.slice q k v/\Hid (wr.ownsRow w.heap.size 68 3 (.slice q k v) k (gg aB (nj id l k)))/\Hid (Below w.heap.size w wr)) (fun _ i _=>N - (intOf i).toNat)
 case atStart=>exact⟨0,none,0,Nat.zero_le _,rfl,rfl,j,Below.refl _ _⟩
 case round=>
  clear j;obtain⟨k,q,v,V,rfl,rfl,I,r⟩:=hrel
  by_cases z:k<N
  ·obtain rfl:=P.out (by omega)
   obtain⟨c0,c1,c2⟩:=(H.out.below r.out).cell k (by rw [x.out];exact z)
   have E:b<wr.heap.size:=Nat.lt_of_lt_of_le (H.out.lt (by rw [x.out];omega)) r.out.size
   have L:Hid (nj id l (k+1)=nj id l k++[l.getD k aD]):=Gs id l k;obtain⟨f,G⟩:∃ f,l.getD k aD=f:=⟨_,rfl⟩;rw [G] at L c0 c1 c2
   clear G;obtain⟨d,s,t⟩:=f;dsimp only [aF] at *
   have T:b≠wr.heap.size:=Nat.ne_of_lt E;have m:=hideS ((Below.refl wr.heap.size wr).drew.alloc (Nat.le_refl _) (.cells #[.int .i64 d,.int .u64 (s:Int),.int .i64 t] 68));have y:=hideS (BA I.out m.out);have n:=hideS (r.out.trans (m.out.mono r.out.size));have C:Hid (FCells aB (wr.drew.alloc (.cells #[.int .i64 d,.int .u64 (s:Int),.int .i64 t] 68)) wr.heap.size 0 ⟨d,s,t⟩):=Cr wr.drew ⟨d,s,t⟩;have W:(0:Int)<=(k:Int):=by omega
   have X:(k:Int)<(N:Int):=by omega
   go_wp2_with fail
   go_region_law (first | (go_simp;go_at_call 11;refine (turned (gn _ _)).mono ?_;rintro e Z ⟨rfl,rfl⟩) | (refine rH rfl (.tmp 11) (.tmp 29) rfl w.heap.size (.slice q k v) k (nj id l k) rfl y.out n.out.size wr.heap.size ⟨d,s,t⟩ rfl C.out (by have:=S.out;omega) ?_;intro U w5 a o;rw [<- L.out] at a;have F:=hideS (n.out.trans o);obtain⟨M,Y,R,A,_,_,_,Q⟩:=yQ a (Ln _ _ _);subst A;have B:=hideS a;clear a o))
   all_goals
    go_wp2_with fail
    go_roundw
    case rel=>exact⟨k+1,M,R,by omega,by go_num,rfl,B,F⟩
    case measure=>simp [intOf];omega
  ·obtain rfl:k=N:=by omega
   go_wp2_with fail
   go_ret
   refine⟨⟨_,rfl,?_⟩,r.out⟩
   have:=I.out;rw [<- x.out,NT,x.out] at this
   exact this
theorem mr (n:Int) (w:World) :
  Calls Tryz.prog 106 #[.int .i64 n] w fun e a=>e=.returned (.bool (decide (1<=n/\n<=8)))/\a=w:=by
 by_cases c:1<=n<;>by_cases b:n<=8
 all_goals
  first | rw [decide_eq_true (⟨c,b⟩:1<=n/\n<=8)] | rw [decide_eq_false (fun h:1<=n/\n<=8=>by omega)]
  go_enter Tryz.func106,Tryz.ntmps106
  go_wp2
  go_ret
  exact⟨rfl,rfl⟩
theorem rJ (l:List Flw) (p:Option Addr) (b off c N:Nat) (E K:Int) (w:World) (G:JSrc aB w p b off l) (L:l.length=N) (hc:N<=9223372036854775807) (I:eu l) (D:ChkF l E K) :
  Calls Tryz.prog 105 #[.slice p N c] w fun e x=>e=.returned (.tuple #[.int .i64 E,.int .i64 K])/\Below w.heap.size w x:=by
 have A:=hideS L;have R:=hideS D;have W:=hideS G;have X:=hideS I
 by_cases Y:4096<N
 ·obtain⟨rfl,rfl⟩:=aO D (.many (by omega))
  clear D G L I
  go_enter Tryz.func105,Tryz.ntmps105
  go_wp2
  go_ret2
  exact⟨rfl,Below.refl _ _⟩
 ·have V:Hid (0<N->p=some ⟨b,off,none⟩):=fun h=>G.at_ (by omega)
  clear D G L I
  go_enter Tryz.func105,Tryz.ntmps105
  go_wp2_with fail
  go_loopw [4] (fun i wr=>∃ k:Nat,k<=N/\i=.int .i64 k/\Hid (∀ j<k,fL (l.getD j aD)=0)/\Hid (Below w.heap.size w wr)) (fun i _=>N - (intOf i).toNat)
  case atStart=>exact⟨0,Nat.zero_le _,rfl,fun j U=>by omega,Below.refl _ _⟩
  case round=>
   obtain⟨k,Z,rfl,u,s⟩:=hrel
   by_cases z:k<N
   ·obtain rfl:=V.out (by omega)
    obtain⟨c0,c1,c2⟩:=(W.out.below s.out).cell k (by rw [A.out];exact z)
    have B:=hideS (X.out k);obtain⟨F,hF⟩:∃ F,fL (l.getD k aD)=F:=⟨_,rfl⟩;have t:=hideS hF;have a:Hid ((if ¬ (0<=(l.getD k aD).day/\(l.getD k aD).day<=109572) then 51 else if aM (l.getD k aD).am=false then 91 else if ¬ (1<=(l.getD k aD).cur/\(l.getD k aD).cur<=8) then 140 else 0)=F):=hF
    clear hF;have g:Hid (F≠0->F=E/\(k:Int)=K):=fun H=>aO (.bad (by rw [A.out];omega) k (by rw [A.out];exact z) F t.out H u.out) R.out
    have f:Hid (F=0->∀ j<k+1,fL (l.getD j aD)=0):=fun H j U=>by
     by_cases c:j<k
     ·exact u.out j c
     ·obtain rfl:j=k:=by omega
      rw [t.out];exact H
    obtain⟨q,P⟩:∃ q,l.getD k aD=q:=⟨_,rfl⟩;rw [P] at c0 c1 c2 a B
    clear P t;obtain⟨O,S,M⟩:=q;dsimp only [aB] at *
    have o:=hideS fun J=>co (S:Int) J (by have:=B.out;unfold U64;omega)
    have r:=hideS fun J=>mr M J
    by_cases T:0<=O
    ·by_cases Q:O<=109572
     ·rw [if_neg (not_not_intro ⟨T,Q⟩)] at a
      cases C:aM (S:Int)
      ·rw [C] at o a
       have d:F=91:=a.out.symm;have n:=g.out (by rw [d];decide)
       rw [d] at n
       have m:=hideS n;clear a d n C g f
       go_wp2_with fail
       refine (o.out _).mono ?_
       rintro e x ⟨rfl,rfl⟩
       go_wp2_with fail
       go_ret2
       obtain⟨rfl,rfl⟩:=m.out;exact⟨rfl,s.out⟩
      ·rw [C] at o a
       rw [if_neg (by simp)] at a
       by_cases v:1<=M/\M<=8
       ·rw [if_neg (not_not_intro v)] at a
        rw [decide_eq_true v] at r
        replace f:=hideS (f.out a.out.symm)
        clear a C v g
        go_wp2_with fail
        refine (o.out _).mono ?_
        rintro e x ⟨rfl,rfl⟩
        go_wp2_with fail
        refine (r.out _).mono ?_
        rintro e x ⟨rfl,rfl⟩
        go_wp2_with fail
        go_roundw
        case rel=>exact⟨k+1,by omega,by simp,f,s⟩
        case measure=>simp [intOf];omega
       ·rw [if_pos v] at a
        rw [decide_eq_false v] at r
        have d:F=140:=a.out.symm;have n:=g.out (by rw [d];decide)
        rw [d] at n
        have m:=hideS n;clear a d n C v g f
        go_wp2_with fail
        refine (o.out _).mono ?_
        rintro e x ⟨rfl,rfl⟩
        go_wp2_with fail
        refine (r.out _).mono ?_
        rintro e x ⟨rfl,rfl⟩
        go_wp2_with fail
        go_ret2
        obtain⟨rfl,rfl⟩:=m.out;exact⟨rfl,s.out⟩
     ·rw [if_pos (fun h=>Q h.2)] at a
      have d:F=51:=a.out.symm;have n:=g.out (by rw [d];decide)
      rw [d] at n
      have m:=hideS n;clear a d n g f
      go_wp2_with fail
      go_ret2
      obtain⟨rfl,rfl⟩:=m.out;exact⟨rfl,s.out⟩
    ·rw [if_pos (fun h=>T h.1)] at a
     have d:F=51:=a.out.symm;have n:=g.out (by rw [d];decide)
     rw [d] at n
     have m:=hideS n;clear a d n g f
     go_wp2_with fail
     go_ret2
     obtain⟨rfl,rfl⟩:=m.out;exact⟨rfl,s.out⟩
   ·obtain rfl:k=N:=by omega
    have y:(0:Int)=E/\(0:Int)=K:=aO (.fine (by rw [A.out];omega) (by rw [A.out];exact u.out)) R.out
    have g:=hideS y;clear y
    go_wp2_with fail
    go_ret2
    obtain⟨rfl,rfl⟩:=g.out;exact⟨rfl,s.out⟩
end Go.Proofs.YtfdddijdjpijbaaGreat
