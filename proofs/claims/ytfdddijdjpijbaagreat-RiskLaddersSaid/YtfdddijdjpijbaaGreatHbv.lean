/-  -/
import Derived.Test.YtfdddijdjpijbaaGreatHbu
import Derived.Test.YtfdddijdjpijbaaGreatHax
set_option maxHeartbeats 1600000
set_option maxRecDepth 20000
namespace Go.Proofs.YtfdddijdjpijbaaGreat
open Go.RowKit
theorem wc (u:Nat) (w:World) (c:U64 (u:Int)) :
  Calls Tryz.prog 68 #[.int .u64 (u:Int)] w fun e b=>e=.returned (.tuple #[.int .u64 (tldV u:Int),.int .i64 (gM u)])/\b=w:=by
 have d:=hideS fun w=>co (u:Int) w c
 unfold tldV gM;cases a:aM (u:Int)
 all_goals
  rw [a] at d
  clear a c;simp only [Bool.false_eq_true,if_false,if_true]
  go_enter Tryz.func68,Tryz.ntmps68
  go_wp2_with (go_at_call 41;refine (d.out _).mono ?_;rintro e b ⟨rfl,rfl⟩)
  go_ret2
  exact⟨rfl,rfl⟩
theorem sy (neg:Bool) (v:Value) (M:Nat) (e N:Int) (k:Nat) (w:World) (f:DN w v M) (i:DV 0 neg M e N k) (n:oe k) :
  Calls Tryz.prog 45 #[AV 0 neg v e] w fun r j=>r=.returned (.tuple #[.int .u64 (tldV (valF N):Int),.int .i64 (gM (valF N))])/\Below w.heap.size w j:=by
 obtain⟨p,l,c,rfl⟩:=f.shape;have g:Hid (Below w.heap.size w (boxA w 0 neg (.slice p l c) e)):=(Below.refl _ _).alloc (Nat.le_refl _) _;have b:=kJ w 0 neg (.slice p l c) e;have d:=hideS (OJ 0 neg (.slice p l c) M e N k _ (f.below g.out) i n);have m:=hideS fun o=>wc (valF N) o (ag (vN _))
 rw [uW] at d
 generalize valF N=X at *
 have c0:(boxA w 0 neg (.slice p l c) e).cell? ⟨w.heap.size,0,none⟩=some (.int .i64 0):=by simp
 have c1:=b.1;have c2:=b.2.1;have c3:=b.2.2;clear f i b
 go_enter Tryz.func45,Tryz.ntmps45
 go_wp2_with fail
 refine d.out.mono ?_
 rintro r q ⟨rfl,a⟩;have h:=hideS (g.out.trans (a.mono g.out.size));clear a d c0 c1 c2 c3
 go_wp2_with (go_at_call 68;refine (m.out _).mono ?_;rintro e j ⟨rfl,rfl⟩)
 go_ret2
 exact⟨rfl,h.out⟩
theorem ms (l:List Flw) (cur:Int) (c:Cv) (pl:Option Addr) (bl W U N:Nat) (n m:Option Addr) (bd I u Z X o:Nat) (w:World) (V:Nat) (E:Int) (h:PreR l cur c V E) (Q:JSrc aB w pl bl W l) (hN:l.length=N) (C:N<=900) (P:eu l) (Y:CSrcD w n m bd I Z X c.ds c.fs) (J:c.Fit) :
  Calls Tryz.prog 26 #[.slice pl N U,.int .i64 cur,.agg #[.int .i64 c.base,.int .i64 c.kind,.slice n c.ds.length u,.slice m c.fs.length o]] w fun e w'=>e=.returned (.tuple #[.int .u64 (V:Int),.int .i64 E])/\Below w.heap.size w w':=by
 obtain⟨F,z⟩:=Ds l cur c;have HK:=hideS (fW w c.base c.kind (.slice n c.ds.length u) (.slice m c.fs.length o));have G:=hideS fun wx (hb:Below w.heap.size w wx)=>zY l cur c pl bl W U N n m bd I u Z X o wx F z (Q.below hb) hN C P (Y.below hb) J
 have T:=hideS h;have y:=hideS z;clear h z Q hN P Y J;obtain⟨L,b⟩:∃ S,(if F=0 then wsI cur c l else 0)=S:=⟨_,rfl⟩
 rw [b] at G
 have A:=hideS b;clear b;generalize Value.slice n c.ds.length u=vd at *
 generalize Value.slice m c.fs.length o=vf at *
 go_enter Tryz.func26,Tryz.ntmps26
 go_wp2_with fail
 refine (G.out _ HK.out.bl).mono ?_
 intro e f hD;obtain⟨⟨neg,v,M,t,rfl,H,j⟩,i⟩:=hD;obtain⟨p,q,x,rfl⟩:=H.shape;have HK2:=hideS (HK.out.step i);have a:Hid (Below f.heap.size f (boxA f 0 neg (.slice p q x) t)):=(Below.refl _ _).alloc (Nat.le_refl _) _;have B:=hideS (sy neg (.slice p q x) M t L N _ (H.below a.out) j (oE (by omega)))
 have s:=kJ f 0 neg (.slice p q x) t;have c0:(boxA f 0 neg (.slice p q x) t).cell? ⟨f.heap.size,0,none⟩=some (.int .i64 0):=by simp
 have c1:=s.1;have c2:=s.2.1;have c3:=s.2.2;clear i H j s HK G
 by_cases g:F=0
 ·have d:=mX T.out ((jU y.out).1 g);have R:L=wsI cur c l:=by rw [<- A.out,if_pos g]
  rw [R] at B
  have O:Hid (tldV (valF (wsI cur c l))=V/\gM (valF (wsI cur c l))=E):=⟨d.1.symm,d.2.symm⟩;rw [O.out.1,O.out.2] at B
  subst g;clear d R
  go_wp2_with fail
  refine B.out.mono ?_
  rintro r w3 ⟨rfl,k⟩;have D:=hideS ((HK2.out.step a.out).step k).bl;clear k
  go_wp2_with fail
  go_ret2
  exact⟨rfl,D.out⟩
 ·have d:V=0/\E=F:=by
   cases T.out with
   | bad E' h hE=>exact⟨rfl,bN h y.out⟩
   | ok h=>exact absurd ((jU y.out).2 h) g
  have d1:(F !=0)=true:=bne_iff_ne.2 g;have K:=hideS d;clear d g
  go_wp2_with fail
  go_ret2
  rw [K.out.1,K.out.2];exact⟨rfl,(HK2.out.step a.out).bl⟩
theorem kt (cur base kind E h:Int) (pl:Option Addr) (N l:Nat) (a b:Value) (w:World) (m:E≠0) (o:Hid (∀ f,Below w.heap.size w f->Calls Tryz.prog 24 #[.slice pl N l,.int .i64 cur,.agg #[.int .i64 base,.int .i64 kind,a,b],.int .u64 h] f fun e i=>e=.returned (.tuple #[.int .u64 0,.int .i64 E])/\Below f.heap.size f i)) :
  Calls Tryz.prog 8 #[.slice pl N l,.int .i64 cur,.agg #[.int .i64 base,.int .i64 kind,a,b],.int .u64 h] w fun e i=>e=.returned (.tuple #[.slice none 0 0,.int .i64 E])/\Below w.heap.size w i:=by
 have r:(E !=0)=true:=bne_iff_ne.2 m;have n:=hideS (Dy w base kind a b);have d:Hid (Below w.heap.size w (w.alloc (.cells #[.int .i64 base,.int .i64 kind,a,b] 39))):=(Below.refl _ _).alloc (Nat.le_refl _) _;clear m;obtain⟨k,j⟩:∃ k,w.alloc (.cells #[.int .i64 base,.int .i64 kind,a,b] 39)=k:=⟨_,rfl⟩;rw [j] at n d
 obtain⟨u,p,q,s⟩:=n.out.t
 go_enter Tryz.func8,Tryz.ntmps8
 go_wp2_with fail
 refine (o.out _ d.out).mono ?_
 rintro e v ⟨rfl,c⟩;have g:=hideS (d.out.trans (c.mono d.out.size));clear c
 go_wp2_with fail
 go_ret2
 exact⟨rfl,g.out⟩
theorem jz (l:List Flw) (cur:Int) (c:Cv) (h k:Nat):lnE l cur c h k=erK (bmE c k h) (prE l cur (c.bump k h)) (gM (chO l cur (c.bump k h) (prV l cur c))):=by
 unfold lnE rE chE erK
 split<;>rfl
theorem Lp {l:List Flw} {cur:Int} {c:Cv} {h k:Nat} (e:lnE l cur c h k=0):lnV l cur c h k=tldV (chO l cur (c.bump k h) (prV l cur c)):=by
 rw [jz] at e
 unfold erK at e
 have a:bmE c k h=0:=by
  by_cases a:bmE c k h=0
  ·exact a
  ·rw [if_neg a] at e;exact absurd e a
 rw [if_pos a] at e
 have b:prE l cur (c.bump k h)=0:=by
  by_cases b:prE l cur (c.bump k h)=0
  ·exact b
  ·rw [if_neg b] at e;exact absurd e b
 unfold lnV rD chV;rw [if_pos a,if_pos b]
theorem we (l:List Flw) (cur:Int) (c:Cv) (h:Nat) (pl:Option Addr) (bl R n N:Nat) (u t:Option Addr) (bd C y T S v:Nat) (w:World) (Q:h<18446744073709551616) (W:JSrc aB w pl bl R l) (Y:l.length=N) (D:N<=900) (V:eu l) (X:CSrcD w u t bd C T S c.ds c.fs) (K:c.Fit) :
  Calls Tryz.prog 8 #[.slice pl N n,.int .i64 cur,.agg #[.int .i64 c.base,.int .i64 c.kind,.slice u c.ds.length y,.slice t c.fs.length v],.int .u64 (h:Int)] w fun e z=>((prE l cur c≠0/\e=.returned (.tuple #[.slice none 0 0,.int .i64 (prE l cur c)]))\/(prE l cur c=0/\LsD w c.ds.length (lnV l cur c h) (lnE l cur c h) e z))/\Below w.heap.size w z:=by
 have m:PS w pl N n cur c.base c.kind (.slice u c.ds.length y) (.slice t c.fs.length v) (prV l cur c) (prE l cur c):=fun g f=>ms l cur c pl bl R n N u t bd C y T S v g _ _ (prR l cur c) (W.below f) Y D V (X.below f) K
 by_cases x:prE l cur c=0
 ·obtain⟨fp,_,fv,vl⟩:=gh x;have I:=fp.ok;rw [x] at m
  cases i:aM (h:Int) with
  | false=>
   have J:∀ k,bmE c k h=91:=fun k=>by
    unfold bmE bmB;rw [i,Bool.false_and,if_neg (by decide)]
   have F:∀ k,lnE l cur c h k=91:=fun k=>by
    rw [jz,J k];rfl
   refine (kt cur c.base c.kind 91 h pl N n _ _ w (by decide) (fun g f=>?_)).mono ?_
   ·have:=oa pl N n cur c.base c.kind h (.slice u c.ds.length y) (.slice t c.fs.length v) (prV l cur c) g Q (fun H B=>m H (f.trans (B.mono f.size)))
    rw [i] at this
    exact this
   ·rintro e z ⟨rfl,f⟩;refine⟨Or.inr ⟨x,Or.inl ⟨0,I.lo,by rw [F];decide,fun j L=>absurd L (by omega),by rw [F]⟩⟩,f⟩
  | true=>
   have E:=I.len;rw [E] at m ⊢
   have O:=vZ cur c.base c.kind h c.ds.length (prV l cur c) (fun k=>c.bump k h) (fun k=>bmE c k h) (fun k=>prE l cur (c.bump k h)) (fun k=>gM (chO l cur (c.bump k h) (prV l cur c))) (fun k=>prV l cur (c.bump k h)) (fun k=>tldV (chO l cur (c.bump k h) (prV l cur c))) pl N n u t bd C y v w I.hi
    (fun g f=>by
     have:=oa pl N n cur c.base c.kind h (.slice u c.ds.length y) (.slice t c.ds.length v) (prV l cur c) g Q (fun H B=>m H (f.trans (B.mono f.size)))
     rw [i] at this
     exact this)
    (fun k o g f=>by
     obtain⟨d,hd,he⟩:=zS (h:=h) I o;have:=zM c d (k:Nat) (bmE c k h) h u t bd C y T S v g Q (X.below f) K hd;rw [E] at this
     refine this.mono fun e z a=>⟨a.bad,fun U=>?_,a.bl⟩
     have:=a.ok U;rw [he U] at this
     exact this)
    (fun k o s g b kk qx qy nx Z ny ky gy hS f=>by
     obtain⟨rfl,rfl,rfl,rfl,hc⟩:=hS.ok s;have M:bmB c k h=true:=by
      rcases bmE_cases c k h with⟨a,_⟩| ⟨_,a⟩
      ·exact a
      ·have A:bmE c k h=0:=s;rw [a] at A;cases A
     exact ms l cur (c.bump k h) pl bl R n N qx qy bd C Z gy 0 ky g _ _ (prR l cur (c.bump k h)) (W.below f) Y D V hc (zH I K o M))
    (fun k o s A g=>by
     have G:prE l cur (c.bump k h)=0:=A;obtain⟨r,q⟩:=Ci (V0:=prV l cur c) G fv;exact zU _ _ _ g (gh G).2.2.2 vl r q.2.1)
   refine O.mono ?_
   rintro e z ⟨a,f⟩;refine⟨Or.inr ⟨x,?_⟩,f⟩
   rcases a with⟨k,o,s,A,P⟩| ⟨s,p,cc,P,ho⟩
   ·exact Or.inl ⟨k,o,by rw [jz];exact s,fun j L=>by rw [jz];exact A j L,by rw [jz];exact P⟩
   ·refine Or.inr ⟨fun k o=>by rw [jz];exact s k o,p,cc,P,?_⟩
    have:(List.range c.ds.length).map (lnV l cur c h)=(List.range c.ds.length).map (fun k=>tldV (chO l cur (c.bump k h) (prV l cur c))):=List.map_congr_left fun k o=>Lp (by rw [jz];exact s k (List.mem_range.1 o))
    rw [this];exact ho
 ·refine (kt cur c.base c.kind (prE l cur c) h pl N n _ _ w x (fun g f=>vW pl N n cur c.base c.kind (prE l cur c) h _ _ (prV l cur c) g x (fun H B=>m H (f.trans (B.mono f.size))))).mono ?_
  rintro e z ⟨a,b⟩;exact⟨Or.inl ⟨x,a⟩,b⟩
def Lq (l:List Flw) (cur:Int) (c:Cv) (h:Nat) (xs:List Nat) (E:Int):Prop:=
 (prE l cur c≠0/\xs=[]/\E=prE l cur c)\/(prE l cur c=0/\((∃ k<c.ds.length,lnE l cur c h k≠0/\(∀ j<k,lnE l cur c h j=0)/\xs=[]/\E=lnE l cur c h k)\/((∀ k<c.ds.length,lnE l cur c h k=0)/\xs=(List.range c.ds.length).map (lnV l cur c h)/\E=0)))
theorem Lr {l:List Flw} {cur:Int} {c:Cv} {h:Nat} {xs ys:List Nat} {E F:Int} (a:Lq l cur c h xs E) (b:Lq l cur c h ys F):xs=ys/\E=F:=by
 rcases a with⟨o,e,g⟩| ⟨o,a⟩ <;>rcases b with⟨p,f,i⟩| ⟨p,b⟩
 ·exact⟨by rw [e,f],by rw [g,i]⟩
 ·exact absurd p o
 ·exact absurd o p
 ·rcases a with⟨k,q,e,g,n,s⟩| ⟨e,g,n⟩ <;>rcases b with⟨j,t,f,i,m,r⟩| ⟨f,i,m⟩
  ·have:k=j:=by
    rcases Nat.lt_trichotomy k j with d | d | d
    ·exact absurd (i k d) e
    ·exact d
    ·exact absurd (g j d) f
   subst this;exact⟨by rw [n,m],by rw [s,r]⟩
  ·exact absurd (f k q) e
  ·exact absurd (e j t) f
  ·exact⟨by rw [g,i],by rw [n,m]⟩
theorem Qa {l:List Flw} {cur:Int} {c:Cv} {h k:Nat} (d:prE l cur c=0) (e:lnE l cur c h k=0):lnV l cur c h k<18446744073709551616:=by
 rw [Lp e];rw [jz] at e
 unfold erK at e
 have a:bmE c k h=0:=by
  by_cases a:bmE c k h=0
  ·exact a
  ·rw [if_neg a] at e;exact absurd e a
 rw [if_pos a] at e
 have b:prE l cur (c.bump k h)=0:=by
  by_cases b:prE l cur (c.bump k h)=0
  ·exact b
  ·rw [if_neg b] at e;exact absurd e b
 have:=(Ci (V0:=prV l cur c) b (gh d).2.2.1).2.2.1;unfold tldV
 split
 ·exact this
 ·decide
theorem Ls {l:List Flw} {cur:Int} {c:Cv} {h:Nat} {xs:List Nat} {E:Int} (a:Lq l cur c h xs E):FitL xs/\xs.length<=c.ds.length:=by
 have b:FitL ([]:List Nat)/\([]:List Nat).length<=c.ds.length:=⟨fun x d=>absurd d (by simp),Nat.zero_le _⟩
 rcases a with⟨_,rfl,_⟩| ⟨e,⟨_,_,_,_,rfl,_⟩| ⟨g,rfl,_⟩⟩
 ·exact b
 ·exact b
 ·refine⟨fun x d=>?_,by simp⟩
  obtain⟨k,f,rfl⟩:=List.mem_map.1 d;exact Qa e (g k (List.mem_range.1 f))
theorem Lt {l:List Flw} {cur:Int} {c:Cv} {h:Nat} {w r:World} {e:Ending} (a:(prE l cur c≠0/\e=.returned (.tuple #[.slice none 0 0,.int .i64 (prE l cur c)]))\/(prE l cur c=0/\LsO w c.ds.length (lnV l cur c h) (lnE l cur c h) e r)):∃ p g n v E xs,e=.returned (.tuple #[.slice p n v,.int .i64 E])/\Src r p g 0 xs/\xs.length=n/\Lq l cur c h xs E:=by
 have i:Src r none 0 0 []:=⟨fun h=>absurd h (by simp),fun h=>absurd h (by simp),fun j o=>absurd o (by simp)⟩
 rcases a with⟨m,f⟩| ⟨m,⟨k,x,f,q,u⟩| ⟨f,g,q,s⟩⟩
 ·exact⟨none,0,0,0,_,[],f,i,rfl,Or.inl ⟨m,rfl,rfl⟩⟩
 ·exact⟨none,0,0,0,_,[],u,i,rfl,Or.inr ⟨m,Or.inl ⟨k,x,f,q,rfl,rfl⟩⟩⟩
 ·have t:=(gh m).1.ok.lo;obtain⟨A,z,y,d,_⟩:=dO s (by simp) (by omega)
  injection y with b _ _;injection b with b;injection b with b;subst b;exact⟨_,g,_,_,0,_,q,⟨fun _=>rfl,fun _=>d.lt (by omega),fun j o=>d.cell j (by simpa using o)⟩,by simp,Or.inr ⟨m,Or.inr ⟨f,rfl,rfl⟩⟩⟩
theorem NU {l:List Flw} {cur:Int} {c:Cv} {h:Nat} {w i:World} {e:Ending} (a:(prE l cur c≠0/\e=.returned (.tuple #[.slice none 0 0,.int .i64 (prE l cur c)]))\/(prE l cur c=0/\LsD w c.ds.length (lnV l cur c h) (lnE l cur c h) e i)):∃ p n f E xs,e=.returned (.tuple #[.slice p n f,.int .i64 E])/\OwnF i w.heap.size 41 uV (.slice p n f) xs/\Lq l cur c h xs E:=by
 rcases a with⟨d,b⟩| ⟨d,⟨k,o,b,g,m⟩| ⟨b,p,f,g,j⟩⟩
 ·exact⟨none,0,0,_,[],b,⟨gF _ _⟩,Or.inl ⟨d,rfl,rfl⟩⟩
 ·exact⟨none,0,0,_,[],m,⟨gF _ _⟩,Or.inr ⟨d,Or.inl ⟨k,o,b,g,rfl,rfl⟩⟩⟩
 ·refine⟨p,_,f,0,_,g,⟨?_⟩,Or.inr ⟨d,Or.inr ⟨b,rfl,rfl⟩⟩⟩
  rw [show ((List.range c.ds.length).map (lnV l cur c h)).length=c.ds.length by simp]
  exact j
end Go.Proofs.YtfdddijdjpijbaaGreat
