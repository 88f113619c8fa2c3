/-  -/
import Derived.Test.YtfdddijdjpijbaaGreatHbu
import Derived.Test.YtfdddijdjpijbaaGreatHax
set_option maxHeartbeats 1600000
set_option maxRecDepth 20000
namespace Go.Proofs.YtfdddijdjpijbaaGreat
open Go.RowKit
theorem wc (u:Nat) (w:World) (b:U64 (u:Int)) :
  Calls Tryz.prog 68 #[.int .u64 (u:Int)] w fun e a=>e=.returned (.tuple #[.int .u64 (tldV u:Int),.int .i64 (gM u)])/\a=w:=by
 have c:=hideS fun w=>co (u:Int) w b
 unfold tldV gM;cases d:aM (u:Int)
 all_goals
  rw [d] at c
  clear d b;simp only [Bool.false_eq_true,if_false,if_true]
  go_enter Tryz.func68,Tryz.ntmps68
  go_wp2_with (go_at_call 41;refine (c.out _).mono ?_;rintro e a ⟨rfl,rfl⟩)
  go_ret2
  exact⟨rfl,rfl⟩
theorem sy (neg:Bool) (v:Value) (M:Nat) (e N:Int) (k:Nat) (w:World) (h:DN w v M) (j:DV 0 neg M e N k) (m:oe k) :
  Calls Tryz.prog 45 #[AV 0 neg v e] w fun r i=>r=.returned (.tuple #[.int .u64 (tldV (valF N):Int),.int .i64 (gM (valF N))])/\Below w.heap.size w i:=by
 obtain⟨p,l,c,rfl⟩:=h.shape;have d:Hid (Below w.heap.size w (boxA w 0 neg (.slice p l c) e)):=(Below.refl _ _).alloc (Nat.le_refl _) _;have b:=kJ w 0 neg (.slice p l c) e;have f:=hideS (OJ 0 neg (.slice p l c) M e N k _ (h.below d.out) j m);have o:=hideS fun n=>wc (valF N) n (ag (vN _))
 rw [uW] at f
 generalize valF N=X at *
 have c0:(boxA w 0 neg (.slice p l c) e).cell? ⟨w.heap.size,0,none⟩=some (.int .i64 0):=by simp
 have c1:=b.1;have c2:=b.2.1;have c3:=b.2.2;clear h j b
 go_enter Tryz.func45,Tryz.ntmps45
 go_wp2_with fail
 refine f.out.mono ?_
 rintro r q ⟨rfl,a⟩;have g:=hideS (d.out.trans (a.mono d.out.size));clear a f c0 c1 c2 c3
 go_wp2_with (go_at_call 68;refine (o.out _).mono ?_;rintro e i ⟨rfl,rfl⟩)
 go_ret2
 exact⟨rfl,g.out⟩
theorem ms (l:List Flw) (cur:Int) (c:Cv) (pl:Option Addr) (bl ol U N:Nat) (k j:Option Addr) (bd I q W K s:Nat) (w:World) (V:Nat) (E:Int) (h:PreR l cur c V E) (Z:JSrc aB w pl bl ol l) (Y:l.length=N) (y:N<=900) (P:eu l) (R:CSrcD w k j bd I W K c.ds c.fs) (hv:c.Fit) :
  Calls Tryz.prog 26 #[.slice pl N U,.int .i64 cur,.agg #[.int .i64 c.base,.int .i64 c.kind,.slice k c.ds.length q,.slice j c.fs.length s]] w fun e w'=>e=.returned (.tuple #[.int .u64 (V:Int),.int .i64 E])/\Below w.heap.size w w':=by
 obtain⟨F,hF⟩:=Ds l cur c;have HK:=hideS (fW w c.base c.kind (.slice k c.ds.length q) (.slice j c.fs.length s));have C:=hideS fun Q (X:Below w.heap.size w Q)=>zY l cur c pl bl ol U N k j bd I q W K s Q F hF (Z.below X) Y y P (R.below X) hv
 have H:=hideS h;have G:=hideS hF;clear h hF Z Y P R hv;obtain⟨O,a⟩:∃ S,(if F=0 then wsI cur c l else 0)=S:=⟨_,rfl⟩
 rw [a] at C
 have A:=hideS a;clear a;generalize Value.slice k c.ds.length q=vd at *
 generalize Value.slice j c.fs.length s=vf at *
 go_enter Tryz.func26,Tryz.ntmps26
 go_wp2_with fail
 refine (C.out _ HK.out.bl).mono ?_
 intro e f hD;obtain⟨⟨neg,v,M,u,rfl,D,m⟩,i⟩:=hD;obtain⟨p,t,o,rfl⟩:=D.shape;have HK2:=hideS (HK.out.step i);have b:Hid (Below f.heap.size f (boxA f 0 neg (.slice p t o) u)):=(Below.refl _ _).alloc (Nat.le_refl _) _;have B:=hideS (sy neg (.slice p t o) M u O N _ (D.below b.out) m (oE (by omega)))
 have x:=kJ f 0 neg (.slice p t o) u;have c0:(boxA f 0 neg (.slice p t o) u).cell? ⟨f.heap.size,0,none⟩=some (.int .i64 0):=by simp
 have c1:=x.1;have c2:=x.2.1;have c3:=x.2.2;clear i D m x HK C
 by_cases d:F=0
 ·have g:=mX H.out ((jU G.out).1 d);have L:O=wsI cur c l:=by rw [<- A.out,if_pos d]
  rw [L] at B
  have T:Hid (tldV (valF (wsI cur c l))=V/\gM (valF (wsI cur c l))=E):=⟨g.1.symm,g.2.symm⟩;rw [T.out.1,T.out.2] at B
  subst d;clear g L
  go_wp2_with fail
  refine B.out.mono ?_
  rintro r w3 ⟨rfl,n⟩;have z:=hideS ((HK2.out.step b.out).step n).bl;clear n
  go_wp2_with fail
  go_ret2
  exact⟨rfl,z.out⟩
 ·have g:V=0/\E=F:=by
   cases H.out with
   | bad E' h hE=>exact⟨rfl,bN h G.out⟩
   | ok h=>exact absurd ((jU G.out).2 h) d
  have d1:(F !=0)=true:=bne_iff_ne.2 d;have J:=hideS g;clear g d
  go_wp2_with fail
  go_ret2
  rw [J.out.1,J.out.2];exact⟨rfl,(HK2.out.step b.out).bl⟩
theorem kt (cur base kind E h:Int) (pl:Option Addr) (N m:Nat) (a b:Value) (w:World) (n:E≠0) (o:Hid (∀ d,Below w.heap.size w d->Calls Tryz.prog 24 #[.slice pl N m,.int .i64 cur,.agg #[.int .i64 base,.int .i64 kind,a,b],.int .u64 h] d fun e g=>e=.returned (.tuple #[.int .u64 0,.int .i64 E])/\Below d.heap.size d g)) :
  Calls Tryz.prog 8 #[.slice pl N m,.int .i64 cur,.agg #[.int .i64 base,.int .i64 kind,a,b],.int .u64 h] w fun e g=>e=.returned (.tuple #[.slice none 0 0,.int .i64 E])/\Below w.heap.size w g:=by
 have q:(E !=0)=true:=bne_iff_ne.2 n;have l:=hideS (Dy w base kind a b);have f:Hid (Below w.heap.size w (w.alloc (.cells #[.int .i64 base,.int .i64 kind,a,b] 39))):=(Below.refl _ _).alloc (Nat.le_refl _) _;clear n;obtain⟨k,i⟩:∃ k,w.alloc (.cells #[.int .i64 base,.int .i64 kind,a,b] 39)=k:=⟨_,rfl⟩;rw [i] at l f
 obtain⟨s,p,u,r⟩:=l.out.t
 go_enter Tryz.func8,Tryz.ntmps8
 go_wp2_with fail
 refine (o.out _ f.out).mono ?_
 rintro e v ⟨rfl,c⟩;have j:=hideS (f.out.trans (c.mono f.out.size));clear c
 go_wp2_with fail
 go_ret2
 exact⟨rfl,j.out⟩
theorem jz (l:List Flw) (cur:Int) (c:Cv) (h k:Nat):lnE l cur c h k=erK (bmE c k h) (prE l cur (c.bump k h)) (gM (chO l cur (c.bump k h) (prV l cur c))):=by
 unfold lnE rE chE erK
 split<;>rfl
theorem Lp {l:List Flw} {cur:Int} {c:Cv} {h k:Nat} (e:lnE l cur c h k=0):lnV l cur c h k=tldV (chO l cur (c.bump k h) (prV l cur c)):=by
 rw [jz] at e
 unfold erK at e
 have a:bmE c k h=0:=by
  by_cases a:bmE c k h=0
  ·exact a
  ·rw [if_neg a] at e;exact absurd e a
 rw [if_pos a] at e
 have b:prE l cur (c.bump k h)=0:=by
  by_cases b:prE l cur (c.bump k h)=0
  ·exact b
  ·rw [if_neg b] at e;exact absurd e b
 unfold lnV rD chV;rw [if_pos a,if_pos b]
theorem we (l:List Flw) (cur:Int) (c:Cv) (h:Nat) (pl:Option Addr) (bl T o N:Nat) (t s:Option Addr) (bd D x Q L y:Nat) (w:World) (P:h<18446744073709551616) (Y:JSrc aB w pl bl T l) (W:l.length=N) (B:N<=900) (U:eu l) (V:CSrcD w t s bd D Q L c.ds c.fs) (S:c.Fit) :
  Calls Tryz.prog 8 #[.slice pl N o,.int .i64 cur,.agg #[.int .i64 c.base,.int .i64 c.kind,.slice t c.ds.length x,.slice s c.fs.length y],.int .u64 (h:Int)] w fun e A=>((prE l cur c≠0/\e=.returned (.tuple #[.slice none 0 0,.int .i64 (prE l cur c)]))\/(prE l cur c=0/\LsD w c.ds.length (lnV l cur c h) (lnE l cur c h) e A))/\Below w.heap.size w A:=by
 have m:PS w pl N o cur c.base c.kind (.slice t c.ds.length x) (.slice s c.fs.length y) (prV l cur c) (prE l cur c):=fun g f=>ms l cur c pl bl T o N t s bd D x Q L y g _ _ (prR l cur c) (Y.below f) W B U (V.below f) S
 by_cases v:prE l cur c=0
 ·obtain⟨Z,_,fv,vl⟩:=gh v;have H:=Z.ok;rw [v] at m
  cases i:aM (h:Int) with
  | false=>
   have K:∀ k,bmE c k h=91:=fun k=>by
    unfold bmE bmB;rw [i,Bool.false_and,if_neg (by decide)]
   have G:∀ k,lnE l cur c h k=91:=fun k=>by
    rw [jz,K k];rfl
   refine (kt cur c.base c.kind 91 h pl N o _ _ w (by decide) (fun g f=>?_)).mono ?_
   ·have:=oa pl N o cur c.base c.kind h (.slice t c.ds.length x) (.slice s c.fs.length y) (prV l cur c) g P (fun I F=>m I (f.trans (F.mono f.size)))
    rw [i] at this
    exact this
   ·rintro e A ⟨rfl,f⟩;refine⟨Or.inr ⟨v,Or.inl ⟨0,H.lo,by rw [G];decide,fun j J=>absurd J (by omega),by rw [G]⟩⟩,f⟩
  | true=>
   have E:=H.len;rw [E] at m ⊢
   have R:=vZ cur c.base c.kind h c.ds.length (prV l cur c) (fun k=>c.bump k h) (fun k=>bmE c k h) (fun k=>prE l cur (c.bump k h)) (fun k=>gM (chO l cur (c.bump k h) (prV l cur c))) (fun k=>prV l cur (c.bump k h)) (fun k=>tldV (chO l cur (c.bump k h) (prV l cur c))) pl N o t s bd D x y w H.hi
    (fun g f=>by
     have:=oa pl N o cur c.base c.kind h (.slice t c.ds.length x) (.slice s c.ds.length y) (prV l cur c) g P (fun I F=>m I (f.trans (F.mono f.size)))
     rw [i] at this
     exact this)
    (fun k n g f=>by
     obtain⟨d,hd,he⟩:=zS (h:=h) H n;have:=zM c d (k:Nat) (bmE c k h) h t s bd D x Q L y g P (V.below f) S hd;rw [E] at this
     refine this.mono fun e A a=>⟨a.bad,fun X=>?_,a.bl⟩
     have:=a.ok X;rw [he X] at this
     exact this)
    (fun k n u g b kk qx qy nx kx ny ky gy hS f=>by
     obtain⟨rfl,rfl,rfl,rfl,hc⟩:=hS.ok u;have M:bmB c k h=true:=by
      rcases bmE_cases c k h with⟨a,_⟩| ⟨_,a⟩
      ·exact a
      ·have z:bmE c k h=0:=u;rw [a] at z;cases z
     exact ms l cur (c.bump k h) pl bl T o N qx qy bd D kx gy 0 ky g _ _ (prR l cur (c.bump k h)) (Y.below f) W B U hc (zH H S n M))
    (fun k n u z g=>by
     have C:prE l cur (c.bump k h)=0:=z;obtain⟨r,q⟩:=Ci (V0:=prV l cur c) C fv;exact zU _ _ _ g (gh C).2.2.2 vl r q.2.1)
   refine R.mono ?_
   rintro e A ⟨a,f⟩;refine⟨Or.inr ⟨v,?_⟩,f⟩
   rcases a with⟨k,n,u,z,O⟩| ⟨u,p,cc,O,ho⟩
   ·exact Or.inl ⟨k,n,by rw [jz];exact u,fun j J=>by rw [jz];exact z j J,by rw [jz];exact O⟩
   ·refine Or.inr ⟨fun k n=>by rw [jz];exact u k n,p,cc,O,?_⟩
    have:(List.range c.ds.length).map (lnV l cur c h)=(List.range c.ds.length).map (fun k=>tldV (chO l cur (c.bump k h) (prV l cur c))):=List.map_congr_left fun k n=>Lp (by rw [jz];exact u k (List.mem_range.1 n))
    rw [this];exact ho
 ·refine (kt cur c.base c.kind (prE l cur c) h pl N o _ _ w v (fun g f=>vW pl N o cur c.base c.kind (prE l cur c) h _ _ (prV l cur c) g v (fun I F=>m I (f.trans (F.mono f.size))))).mono ?_
  rintro e A ⟨a,b⟩;exact⟨Or.inl ⟨v,a⟩,b⟩
def Lq (l:List Flw) (cur:Int) (c:Cv) (h:Nat) (xs:List Nat) (E:Int):Prop:=
 (prE l cur c≠0/\xs=[]/\E=prE l cur c)\/(prE l cur c=0/\((∃ k<c.ds.length,lnE l cur c h k≠0/\(∀ j<k,lnE l cur c h j=0)/\xs=[]/\E=lnE l cur c h k)\/((∀ k<c.ds.length,lnE l cur c h k=0)/\xs=(List.range c.ds.length).map (lnV l cur c h)/\E=0)))
theorem Lr {l:List Flw} {cur:Int} {c:Cv} {h:Nat} {xs ys:List Nat} {E F:Int} (a:Lq l cur c h xs E) (b:Lq l cur c h ys F):xs=ys/\E=F:=by
 rcases a with⟨p,e,i⟩| ⟨p,a⟩ <;>rcases b with⟨o,f,g⟩| ⟨o,b⟩
 ·exact⟨by rw [e,f],by rw [i,g]⟩
 ·exact absurd o p
 ·exact absurd p o
 ·rcases a with⟨k,r,e,i,n,q⟩| ⟨e,i,n⟩ <;>rcases b with⟨j,t,f,g,m,s⟩| ⟨f,g,m⟩
  ·have:k=j:=by
    rcases Nat.lt_trichotomy k j with d | d | d
    ·exact absurd (g k d) e
    ·exact d
    ·exact absurd (i j d) f
   subst this;exact⟨by rw [n,m],by rw [q,s]⟩
  ·exact absurd (f k r) e
  ·exact absurd (e j t) f
  ·exact⟨by rw [i,g],by rw [n,m]⟩
theorem Qa {l:List Flw} {cur:Int} {c:Cv} {h k:Nat} (d:prE l cur c=0) (e:lnE l cur c h k=0):lnV l cur c h k<18446744073709551616:=by
 rw [Lp e];rw [jz] at e
 unfold erK at e
 have a:bmE c k h=0:=by
  by_cases a:bmE c k h=0
  ·exact a
  ·rw [if_neg a] at e;exact absurd e a
 rw [if_pos a] at e
 have b:prE l cur (c.bump k h)=0:=by
  by_cases b:prE l cur (c.bump k h)=0
  ·exact b
  ·rw [if_neg b] at e;exact absurd e b
 have:=(Ci (V0:=prV l cur c) b (gh d).2.2.1).2.2.1;unfold tldV
 split
 ·exact this
 ·decide
theorem Ls {l:List Flw} {cur:Int} {c:Cv} {h:Nat} {xs:List Nat} {E:Int} (a:Lq l cur c h xs E):FitL xs/\xs.length<=c.ds.length:=by
 have b:FitL ([]:List Nat)/\([]:List Nat).length<=c.ds.length:=⟨fun x d=>absurd d (by simp),Nat.zero_le _⟩
 rcases a with⟨_,rfl,_⟩| ⟨f,⟨_,_,_,_,rfl,_⟩| ⟨e,rfl,_⟩⟩
 ·exact b
 ·exact b
 ·refine⟨fun x d=>?_,by simp⟩
  obtain⟨k,g,rfl⟩:=List.mem_map.1 d;exact Qa f (e k (List.mem_range.1 g))
theorem Lt {l:List Flw} {cur:Int} {c:Cv} {h:Nat} {w q:World} {e:Ending} (a:(prE l cur c≠0/\e=.returned (.tuple #[.slice none 0 0,.int .i64 (prE l cur c)]))\/(prE l cur c=0/\LsO w c.ds.length (lnV l cur c h) (lnE l cur c h) e q)):∃ p g n v E xs,e=.returned (.tuple #[.slice p n v,.int .i64 E])/\Src q p g 0 xs/\xs.length=n/\Lq l cur c h xs E:=by
 have f:Src q none 0 0 []:=⟨fun h=>absurd h (by simp),fun h=>absurd h (by simp),fun j o=>absurd o (by simp)⟩
 rcases a with⟨m,b⟩| ⟨m,⟨k,s,b,r,t⟩| ⟨b,g,r,y⟩⟩
 ·exact⟨none,0,0,0,_,[],b,f,rfl,Or.inl ⟨m,rfl,rfl⟩⟩
 ·exact⟨none,0,0,0,_,[],t,f,rfl,Or.inr ⟨m,Or.inl ⟨k,s,b,r,rfl,rfl⟩⟩⟩
 ·have u:=(gh m).1.ok.lo;obtain⟨z,A,x,d,_⟩:=dO y (by simp) (by omega)
  injection x with i _ _;injection i with i;injection i with i;subst i;exact⟨_,g,_,_,0,_,r,⟨fun _=>rfl,fun _=>d.lt (by omega),fun j o=>d.cell j (by simpa using o)⟩,by simp,Or.inr ⟨m,Or.inr ⟨b,rfl,rfl⟩⟩⟩
theorem NU {l:List Flw} {cur:Int} {c:Cv} {h:Nat} {w i:World} {e:Ending} (a:(prE l cur c≠0/\e=.returned (.tuple #[.slice none 0 0,.int .i64 (prE l cur c)]))\/(prE l cur c=0/\LsD w c.ds.length (lnV l cur c h) (lnE l cur c h) e i)):∃ p n d E xs,e=.returned (.tuple #[.slice p n d,.int .i64 E])/\OwnF i w.heap.size 41 uV (.slice p n d) xs/\Lq l cur c h xs E:=by
 rcases a with⟨f,b⟩| ⟨f,⟨k,j,b,g,m⟩| ⟨b,p,d,g,o⟩⟩
 ·exact⟨none,0,0,_,[],b,⟨gF _ _⟩,Or.inl ⟨f,rfl,rfl⟩⟩
 ·exact⟨none,0,0,_,[],m,⟨gF _ _⟩,Or.inr ⟨f,Or.inl ⟨k,j,b,g,rfl,rfl⟩⟩⟩
 ·refine⟨p,_,d,0,_,g,⟨?_⟩,Or.inr ⟨f,Or.inr ⟨b,rfl,rfl⟩⟩⟩
  rw [show ((List.range c.ds.length).map (lnV l cur c h)).length=c.ds.length by simp]
  exact o
end Go.Proofs.YtfdddijdjpijbaaGreat
