/-  -/
import Derived.Test.YtfdddijdjpijbaaGreatHax
import Derived.Deep.QuietTactic
import Derived.BigQuiet
import Derived.RegionTactic
import Derived.Deep.RegionHeld3
import Derived.Deep.RegionLaw
set_option maxHeartbeats 6400000
set_option maxRecDepth 20000
namespace Go.Proofs.YtfdddijdjpijbaaGreat
open Go.RowKit
theorem rH {c:Array Oper} {o:Oper} {a:Act} {w:World} {K:Act->World->Prop} {Q:Exit->Act->World->Prop} {E:Prop} (l:o.guard=none) (s x:Operand)
  (t:o.op=.call { callee:=.builtin .append,args:=#[s,x],argTypes:=#[36,36] })
  (base:Nat) (v:Value) (n:Nat) (xs:List Flw) (C:a.eval s=v) (b:w.ownsRow base 68 3 v n (gg aB xs)) (p:base<=w.heap.size)
  (g:Nat) (z:Flw) (D:a.eval x=.slice (some ⟨g,0,none⟩) 1 1) (hc:FCells aB w g 0 z) (hn:(n+1)*24<=140737488355328)
  (h:∀ f d,d.ownsRow base 68 3 f (n+1) (gg aB (xs++[z]))->Below base w d->K (a.put o.dst f) d) :
  if Region.wanted o (yielded c a.tmps)=true then Oper.wp Tryz.prog o a w K Q else E:=by
 have y:Region.wanted o (yielded c a.tmps)=true:=by simp [Region.wanted,l]
 rw [if_pos y];obtain⟨r,hi,m,i,k⟩:=info_parts MU;refine wp_append_own w s x 36 t base 68 r (.agg #[.int .i64 0,aB 0,.int .i64 0]) 3 24 Tryz.underlying36 hi m i k rfl (by decide) v n (gg aB xs) C b ⟨g,0,none⟩ 1 1 (gg aB [z]) D (by rw [qK];rfl) ?_ (yP (fun _=>rfl) [z]) (by unfold maxLen;omega) (by omega) p ?_
 ·intro j u e;have B:j<3:=by
   have:=(List.getElem?_eq_some_iff.1 e).1
   rw [qK] at this
   exact this
  rw [Addr.add_lit];rcases (show j=0\/j=1\/j=2 by omega) with rfl | rfl | rfl
  ·rw [<- e];exact hc.c0
  ·rw [<- e];exact hc.c1
  ·rw [<- e];exact hc.c2
 ·intro f d A q _;refine h f d ?_ (vF b q p)
  rw [nN];exact A
theorem Cr (w:World) (f:Flw):FCells aB (w.alloc (.cells #[.int .i64 f.day,.int .u64 (f.am:Int),.int .i64 f.cur] 68)) w.heap.size 0 f:=
 ⟨by simp,by simp [aB],by simp⟩
theorem NT (l:List Flw):nj id l l.length=l:=by rw [Lo];simp
theorem zX (l:List Flw) (p:Option Addr) (b off c N:Nat) (w:World) (C:JSrc aF w p b off l) (M:l.length=N) (hc:N*24<=140737488355328) :
  Calls Tryz.prog 9 #[.slice p N c] w fun e I=>(∃ u,e=.returned u/\I.ownsRow w.heap.size 68 3 u N (gg aB l))/\Below w.heap.size w I:=by
 have y:=hideS M;have K:=hideS C;have T:Hid (0<N->p=some ⟨b,off,none⟩):=fun h=>C.at_ (by omega)
 have U:=hideS hc;have P:N<=140737488355328:=by omega
 have r:=hideS (JS aB w w.heap.size 68);clear C M hc
 go_enter Tryz.func9,Tryz.ntmps9
 go_wp2_with fail
 go_loopw [3,4] (fun g i a=>∃ (k:Nat) (q:Option Addr) (x:Nat),k<=N/\i=.int .i64 k/\g=.slice q k x/\Hid (a.ownsRow w.heap.size 68 3 (.slice q k x) k (gg aB (nj id l k)))/\Hid (Below w.heap.size w a)) (fun _ i _=>N - (intOf i).toNat)
 case atStart=>exact⟨0,none,0,Nat.zero_le _,rfl,rfl,r,Below.refl _ _⟩
 case round=>
  clear r;obtain⟨k,q,x,Y,rfl,rfl,L,v⟩:=hrel
  by_cases E:k<N
  ·obtain rfl:=T.out (by omega)
   obtain⟨c0,c1,c2⟩:=(K.out.below v.out).cell k (by rw [y.out];exact E)
   have z:b<a.heap.size:=Nat.lt_of_lt_of_le (K.out.lt (by rw [y.out];omega)) v.out.size
   have H:Hid (nj id l (k+1)=nj id l k++[l.getD k aD]):=Gs id l k;obtain⟨f,J⟩:∃ f,l.getD k aD=f:=⟨_,rfl⟩;rw [J] at H c0 c1 c2
   clear J;obtain⟨t,j,n⟩:=f;dsimp only [aF] at *
   have Q:b≠a.heap.size:=Nat.ne_of_lt z;have m:=hideS ((Below.refl a.heap.size a).drew.alloc (Nat.le_refl _) (.cells #[.int .i64 t,.int .u64 (j:Int),.int .i64 n] 68));have F:=hideS (BA L.out m.out);have s:=hideS (v.out.trans (m.out.mono v.out.size));have B:Hid (FCells aB (a.drew.alloc (.cells #[.int .i64 t,.int .u64 (j:Int),.int .i64 n] 68)) a.heap.size 0 ⟨t,j,n⟩):=Cr a.drew ⟨t,j,n⟩;have g3:(0:Int)<=(k:Int):=by omega
   have Z:(k:Int)<(N:Int):=by omega
   go_wp2_with fail
   go_region_law (first | (go_simp;go_at_call 11;refine (turned (gn _ _)).mono ?_;rintro e W ⟨rfl,rfl⟩) | (refine rH rfl (.tmp 11) (.tmp 29) rfl w.heap.size (.slice q k x) k (nj id l k) rfl F.out s.out.size a.heap.size ⟨t,j,n⟩ rfl B.out (by have:=U.out;omega) ?_;intro v5 V d o;rw [<- H.out] at d;have D:=hideS (s.out.trans o);obtain⟨S,X,R,G,_,_,_,O⟩:=yQ d (Ln _ _ _);subst G;have A:=hideS d;clear d o))
   all_goals
    go_wp2_with fail
    go_roundw
    case rel=>exact⟨k+1,S,R,by omega,by go_num,rfl,A,D⟩
    case measure=>simp [intOf];omega
  ·obtain rfl:k=N:=by omega
   go_wp2_with fail
   go_ret
   refine⟨⟨_,rfl,?_⟩,v.out⟩
   have:=L.out;rw [<- y.out,NT,y.out] at this
   exact this
theorem mr (n:Int) (w:World) :
  Calls Tryz.prog 106 #[.int .i64 n] w fun e a=>e=.returned (.bool (decide (1<=n/\n<=8)))/\a=w:=by
 by_cases b:1<=n<;>by_cases c:n<=8
 all_goals
  first | rw [decide_eq_true (⟨b,c⟩:1<=n/\n<=8)] | rw [decide_eq_false (fun h:1<=n/\n<=8=>by omega)]
  go_enter Tryz.func106,Tryz.ntmps106
  go_wp2
  go_ret
  exact⟨rfl,rfl⟩
theorem rJ (l:List Flw) (p:Option Addr) (b off c N:Nat) (E K:Int) (w:World) (D:JSrc aB w p b off l) (M:l.length=N) (hc:N<=9223372036854775807) (L:eu l) (G:ChkF l E K) :
  Calls Tryz.prog 105 #[.slice p N c] w fun e v=>e=.returned (.tuple #[.int .i64 E,.int .i64 K])/\Below w.heap.size w v:=by
 have C:=hideS M;have Q:=hideS G;have Y:=hideS D;have V:=hideS L
 by_cases hm:4096<N
 ·obtain⟨rfl,rfl⟩:=aO G (.many (by omega))
  clear G D M L
  go_enter Tryz.func105,Tryz.ntmps105
  go_wp2
  go_ret2
  exact⟨rfl,Below.refl _ _⟩
 ·have Z:Hid (0<N->p=some ⟨b,off,none⟩):=fun h=>D.at_ (by omega)
  clear G D M L
  go_enter Tryz.func105,Tryz.ntmps105
  go_wp2_with fail
  go_loopw [4] (fun i X=>∃ k:Nat,k<=N/\i=.int .i64 k/\Hid (∀ j<k,fL (l.getD j aD)=0)/\Hid (Below w.heap.size w X)) (fun i _=>N - (intOf i).toNat)
  case atStart=>exact⟨0,Nat.zero_le _,rfl,fun j W=>by omega,Below.refl _ _⟩
  case round=>
   obtain⟨k,hk,rfl,s,u⟩:=hrel
   by_cases z:k<N
   ·obtain rfl:=Z.out (by omega)
    obtain⟨c0,c1,c2⟩:=(Y.out.below u.out).cell k (by rw [C.out];exact z)
    have A:=hideS (V.out k);obtain⟨F,H⟩:∃ F,fL (l.getD k aD)=F:=⟨_,rfl⟩;have t:=hideS H;have a:Hid ((if ¬ (0<=(l.getD k aD).day/\(l.getD k aD).day<=109572) then 51 else if aM (l.getD k aD).am=false then 91 else if ¬ (1<=(l.getD k aD).cur/\(l.getD k aD).cur<=8) then 140 else 0)=F):=H
    clear H;have g:Hid (F≠0->F=E/\(k:Int)=K):=fun J=>aO (.bad (by rw [C.out];omega) k (by rw [C.out];exact z) F t.out J s.out) Q.out
    have f:Hid (F=0->∀ j<k+1,fL (l.getD j aD)=0):=fun J j W=>by
     by_cases c:j<k
     ·exact s.out j c
     ·obtain rfl:j=k:=by omega
      rw [t.out];exact J
    obtain⟨q,P⟩:∃ q,l.getD k aD=q:=⟨_,rfl⟩;rw [P] at c0 c1 c2 a A
    clear P t;obtain⟨U,S,I⟩:=q;dsimp only [aB] at *
    have o:=hideS fun O=>co (S:Int) O (by have:=A.out;unfold U64;omega)
    have r:=hideS fun O=>mr I O
    by_cases T:0<=U
    ·by_cases R:U<=109572
     ·rw [if_neg (not_not_intro ⟨T,R⟩)] at a
      cases y:aM (S:Int)
      ·rw [y] at o a
       have d:F=91:=a.out.symm;have n:=g.out (by rw [d];decide)
       rw [d] at n
       have m:=hideS n;clear a d n y g f
       go_wp2_with fail
       refine (o.out _).mono ?_
       rintro e v ⟨rfl,rfl⟩
       go_wp2_with fail
       go_ret2
       obtain⟨rfl,rfl⟩:=m.out;exact⟨rfl,u.out⟩
      ·rw [y] at o a
       rw [if_neg (by simp)] at a
       by_cases x:1<=I/\I<=8
       ·rw [if_neg (not_not_intro x)] at a
        rw [decide_eq_true x] at r
        replace f:=hideS (f.out a.out.symm)
        clear a y x g
        go_wp2_with fail
        refine (o.out _).mono ?_
        rintro e v ⟨rfl,rfl⟩
        go_wp2_with fail
        refine (r.out _).mono ?_
        rintro e v ⟨rfl,rfl⟩
        go_wp2_with fail
        go_roundw
        case rel=>exact⟨k+1,by omega,by simp,f,u⟩
        case measure=>simp [intOf];omega
       ·rw [if_pos x] at a
        rw [decide_eq_false x] at r
        have d:F=140:=a.out.symm;have n:=g.out (by rw [d];decide)
        rw [d] at n
        have m:=hideS n;clear a d n y x g f
        go_wp2_with fail
        refine (o.out _).mono ?_
        rintro e v ⟨rfl,rfl⟩
        go_wp2_with fail
        refine (r.out _).mono ?_
        rintro e v ⟨rfl,rfl⟩
        go_wp2_with fail
        go_ret2
        obtain⟨rfl,rfl⟩:=m.out;exact⟨rfl,u.out⟩
     ·rw [if_pos (fun h=>R h.2)] at a
      have d:F=51:=a.out.symm;have n:=g.out (by rw [d];decide)
      rw [d] at n
      have m:=hideS n;clear a d n g f
      go_wp2_with fail
      go_ret2
      obtain⟨rfl,rfl⟩:=m.out;exact⟨rfl,u.out⟩
    ·rw [if_pos (fun h=>T h.1)] at a
     have d:F=51:=a.out.symm;have n:=g.out (by rw [d];decide)
     rw [d] at n
     have m:=hideS n;clear a d n g f
     go_wp2_with fail
     go_ret2
     obtain⟨rfl,rfl⟩:=m.out;exact⟨rfl,u.out⟩
   ·obtain rfl:k=N:=by omega
    have B:(0:Int)=E/\(0:Int)=K:=aO (.fine (by rw [C.out];omega) (by rw [C.out];exact s.out)) Q.out
    have g:=hideS B;clear B
    go_wp2_with fail
    go_ret2
    obtain⟨rfl,rfl⟩:=g.out;exact⟨rfl,u.out⟩
end Go.Proofs.YtfdddijdjpijbaaGreat
