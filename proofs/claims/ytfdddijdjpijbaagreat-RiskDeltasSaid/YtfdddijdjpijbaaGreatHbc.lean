/-  -/
import Derived.Test.YtfdddijdjpijbaaGreatHaz
import Derived.Test.YtfdddijdjpijbaaGreatHau
import Derived.Test.YtfdddijdjpijbaaGreatHar
set_option maxHeartbeats 12800000
namespace Go.Proofs.YtfdddijdjpijbaaGreat
open Go.RowKit
def slB (a b:Nat):Nat:=if (ltB 0 (a:Nat)&&ltB 0 (b:Nat))||(ltB (a:Nat) 0&&ltB (b:Nat) 0) then sDiv 4611686018427387904 (sAdd (sDiv 4607182418800017408 a) (sDiv 4607182418800017408 b)) else 0
def eR (xs:List Int) (ys:List Nat):Nat->List Nat
 | 0=>[steepB xs ys 0]
 | k+1=>eR xs ys k++[slB (steepB xs ys k) (steepB xs ys (k+1))]
def bI (xs:List Int) (ys:List Nat) (n:Nat):List Nat:=if n=1 then [0] else eR xs ys (n - 2)++[steepB xs ys (n - 2)]
theorem fw (xs:List Int) (ys:List Nat):∀ k,(eR xs ys k).length=k+1
 | 0=>rfl
 | k+1=>by show (eR xs ys k++[_]).length=_;rw [List.length_append,fw xs ys k];rfl
theorem mO (xs:List Int) (ys:List Nat) (k:Nat):steepB xs ys k<18446744073709551616:=jV _ _
theorem Pg (a b:Nat):slB a b<18446744073709551616:=by
 unfold slB
 split
 ·exact jV _ _
 ·decide
theorem EL (kind:Int) (q m:Option Addr) (j i cx g d cy n k:Nat) (xs:List Int) (ys:List Nat) (w:World) (h:OkT kind xs ys) (hn:xs.length=n) (c:TSrc w q m j i g d xs ys) (v:k+1<n) :
  Calls Tryz.prog 186 #[.agg #[.int .i64 kind,.slice q n cx,.slice m n cy],.int .i64 (k:Int)] w fun e r=>e=.returned (.int .u64 (steepB xs ys k:Int))/\Below w.heap.size w r:=by
 obtain rfl:=c.x.at_ (by omega)
 have s:=h.len;obtain rfl:=c.y.at_ (by omega)
 have b:Below w.heap.size w (w.alloc (.cells #[.int .i64 kind,.slice (some ⟨j,i,none⟩) n cx,.slice (some ⟨g,d,none⟩) n cy] 156)):=(Below.refl _ _).alloc (Nat.le_refl _) _;have l:=bU w kind (.slice (some ⟨j,i,none⟩) n cx) (.slice (some ⟨g,d,none⟩) n cy);have a:=c.below b;have o:=ap (h.node k (by omega))
 have p:=ap (h.node (k+1) (by omega))
 have t:=c.f k (by omega)
 have u:=c.f (k+1) (by omega)
 have hi:=h.hi;exact EK kind j i cx g d cy n k (xs.getD k 0) (xs.getD (k+1) 0) (ys.getD k 0) (ys.getD (k+1) 0) w _ rfl ⟨l.t1,l.t2,a.x.cell k (by omega),a.x.cell (k+1) (by omega),a.y.cell k (by omega),a.y.cell (k+1) (by omega)⟩ (by omega) (by omega) (a.x.lt (by omega)) (a.y.lt (by omega)) b l.lt o.1 o.2.1 p.1 p.2.1 (by have:=t.2;omega) (by have:=u.2;omega)
theorem iE (xs:List Int) (ys:List Nat) (k:Nat):eR xs ys (k+1)=eR xs ys k++[slB (steepB xs ys k) (steepB xs ys (k+1))]:=rfl
theorem jW {w:World} {base a n:Nat} {v:Value} {xs:List Value} (h:w.ownsRow base 41 1 v n xs) (d:a<=base):w.ownsRow a 41 1 v n xs:=by
 refine⟨h.1,?_⟩
 rcases h.2 with f | ⟨g,c,b,e,i,rest⟩
 ·exact .inl f
 ·exact .inr ⟨g,c,b,e,Nat.le_trans d i,rest⟩
theorem TBox.stay {w wr b:World} {kind:Int} {d c:Value} (h:TBox w kind d c wr) (a:Below (w.heap.size+1) wr b):TBox w kind d c b:=
 ⟨(a.cell (p:=⟨w.heap.size,0,none⟩) (Nat.lt_succ_self _)).trans h.t0,(a.cell (p:=⟨w.heap.size,1,none⟩) (Nat.lt_succ_self _)).trans h.t1,(a.cell (p:=⟨w.heap.size,2,none⟩) (Nat.lt_succ_self _)).trans h.t2,h.bl.trans (a.mono (Nat.le_succ _)),Nat.lt_of_lt_of_le h.lt a.size⟩
structure SlH (w:World) (kind:Int) (v1 v2:Value) (n:Nat) (st:Nat->Nat):Prop where
 chk:∀ wx,Below w.heap.size w wx->Calls Tryz.prog 167 #[.agg #[.int .i64 kind,v1,v2]] wx fun e w'=>e=.returned (.int .i64 0)/\Below wx.heap.size wx w'
 steep:∀ k,k+1<n->∀ wx,Below w.heap.size w wx->Calls Tryz.prog 186 #[.agg #[.int .i64 kind,v1,v2],.int .i64 (k:Int)] wx fun e w'=>e=.returned (.int .u64 (st k:Int))/\Below wx.heap.size wx w'
theorem Bc (kind:Int) (d:Option Addr) (cx:Nat) (c:Value) (j:Nat->Nat) (w:World) (H:Hid (SlH w kind (.slice d 1 cx) c 1 j)) :
  Calls Tryz.prog 168 #[.agg #[.int .i64 kind,.slice d 1 cx,c]] w fun e f=>∃ v,e=.returned (.tuple #[v,.int .i64 0])/\f.ownsRow w.heap.size 41 1 v 1 ([0].map uV)/\Below w.heap.size w f:=by
 have g:=hideS (bU w kind (.slice d 1 cx) c)
 go_enter Tryz.func168,Tryz.ntmps168
 go_wp2_with fail
 refine (H.out.chk _ g.out.bl).mono ?_
 rintro e i ⟨rfl,b⟩;have a:=hideS (g.out.step b);clear b;obtain⟨l,m,k,_,_⟩:=a.out;have h:=hideS (xI i 0)
 go_wp2_with fail
 go_ret2
 exact⟨_,rfl,jW h.out a.out.bl.size,a.out.bl.alloc a.out.bl.size _⟩
inductive SlO (a b:Nat):Nat->Prop
 | up (h1:ltB 0 (a:Nat)=true) (h2:ltB 0 (b:Nat)=true):SlO a b (sDiv 4611686018427387904 (sAdd (sDiv 4607182418800017408 a) (sDiv 4607182418800017408 b)))
 | down1 (h1:ltB 0 (a:Nat)=false) (h3:ltB (a:Nat) 0=true) (h4:ltB (b:Nat) 0=true):SlO a b (sDiv 4611686018427387904 (sAdd (sDiv 4607182418800017408 a) (sDiv 4607182418800017408 b)))
 | flat1 (h1:ltB 0 (a:Nat)=false) (h3:ltB (a:Nat) 0=true) (h4:ltB (b:Nat) 0=false):SlO a b 0
 | flat2 (h1:ltB 0 (a:Nat)=false) (h3:ltB (a:Nat) 0=false):SlO a b 0
 | flat3 (h1:ltB 0 (a:Nat)=true) (h2:ltB 0 (b:Nat)=false) (h3:ltB (a:Nat) 0=false):SlO a b 0
theorem II {u v:Int} (h:ltB u v=true):ltB v u=false:=by
 unfold ltB at h ⊢
 simp only [Bool.and_eq_true,Bool.not_eq_true',decide_eq_true_eq] at h
 rw [h.1.1,h.1.2];simp;omega
theorem IJ (a b:Nat):SlO a b (slB a b):=by
 unfold slB;cases d:ltB 0 (a:Nat)
 ·cases c:ltB (a:Nat) 0
  ·simp;exact .flat2 d c
  ·cases e:ltB (b:Nat) 0
   ·simp;exact .flat1 d c e
   ·simp;exact .down1 d c e
 ·have c:=II d;cases f:ltB 0 (b:Nat)
  ·rw [c];simp;exact .flat3 d f c
  ·simp;exact .up d f
theorem xJ (kind:Int) (O:Option Addr) (cx n:Nat) (G:Value) (r:Nat->Nat) (q:Nat->List Nat) (w:World) (H:Hid (SlH w kind (.slice O n cx) G n r)) (hn:2<=n) (cm:n<=256) (bb:∀ k,r k<18446744073709551616) (ad:q 0=[r 0]) (bi:∀ k,q (k+1)=q k++[slB (r k) (r (k+1))]) (bk:∀ k,(q k).length=k+1) :
  Calls Tryz.prog 168 #[.agg #[.int .i64 kind,.slice O n cx,G]] w fun e P=>∃ v,e=.returned (.tuple #[v,.int .i64 0])/\P.ownsRow w.heap.size 41 1 v n ((q (n - 2)++[r (n - 2)]).map uV)/\Below w.heap.size w P:=by
 have HB:=hideS (bU w kind (.slice O n cx) G);have HT:=hideS bb;have HL:=hideS bi;have cf:=hideS bk;have cr:((n:Int)==1)=false:=beq_false_of_ne (by omega)
 have N:=hideS fun (u v:Int) (p:World) (hu:U64 u) (hv:U64 v)=>gF u v p hu hv
 clear bb bi bk
 go_enter Tryz.func168,Tryz.ntmps168
 go_wp2_with fail
 refine (H.out.chk _ HB.out.bl).mono ?_
 rintro e w1 ⟨rfl,bc⟩;have Q:=hideS (HB.out.step bc);clear bc HB;obtain⟨t0,t1,t2,_,_⟩:=Q.out;have bs:Hid (Calls Tryz.prog 186 #[.agg #[.int .i64 kind,.slice O n cx,G],.int .i64 0] w1 fun e P=>e=.returned (.int .u64 (r 0:Int))/\Below w1.heap.size w1 P):=H.out.steep 0 (by omega) _ Q.out.bl
 go_wp2_with fail
 refine bs.out.mono ?_
 rintro e w2 ⟨rfl,bo⟩;have V:=hideS (Q.out.step bo);clear bo Q bs t0 t1 t2;have ca:Hid ((w2.alloc (.cells #[.int .u64 (r 0:Int)] 41)).ownsRow (w.heap.size+1) 41 1 (.slice (some ⟨w2.heap.size,0,none⟩) 1 1) 1 ((q 0).map uV)):=by
  show World.ownsRow _ _ _ _ _ _ _
  rw [ad];exact jW (xI w2 (r 0)) V.out.lt
 have cd:=hideS (V.out.step ((Below.refl _ w2).alloc (Nat.le_refl _) (.cells #[.int .u64 (r 0:Int)] 41)));clear ad V
 go_wp2_with fail
 go_loopw [6,7,8,9,10] (fun v i _ _ _ wr=>∃ m k:Nat,m+1=k/\k+1<=n/\i=.int .i64 k/\Hid (wr.ownsRow (w.heap.size+1) 41 1 v k ((q m).map uV))/\Hid (TBox w kind (.slice O n cx) G wr)) (fun _ i _ _ _ _=>n - (intOf i).toNat)
 case atStart=>exact⟨0,1,rfl,by omega,rfl,ca,cd⟩
 case round=>
  obtain⟨m,k,Y,hk,rfl,HO,s⟩:=hrel;obtain⟨q0,g0,E,rfl,_,_,_,_⟩:=bq HO.out (by rw [cf.out];omega)
  have cp:(k:Int) - 1=(m:Int):=by omega
  obtain⟨t0,t1,t2,_,_⟩:=s.out
  by_cases bv:k+1<n
  ·have ci:(k:Int)+1<(n:Int):=by omega
   have J:=hideS (H.out.steep m (by omega) _ s.out.bl)
   have bz:=hideS Y;clear Y
   go_wp2_with fail
   refine J.out.mono ?_
   rintro e w3 ⟨rfl,y⟩;have D:=hideS (s.out.step y);have R:=hideS (aq HO.out y);clear y s HO t0 t1 t2 J;obtain⟨t0,t1,t2,_,_⟩:=D.out;have ba:=hideS (H.out.steep k bv _ D.out.bl)
   go_wp2_with fail
   refine ba.out.mono ?_
   rintro e A ⟨rfl,U⟩;have F:=hideS (D.out.step U);have L:=hideS (aq R.out U);clear U D R t0 t1 t2 ba;have HN:Hid (q k=q m++[slB (r m) (r k)]):=by show _=_;rw [<- bz.out];exact HL.out m
   have ha:=HT.out m;have hb:=HT.out k;generalize r m=a at *
   generalize r k=b at *
   have u0:U64 (0:Int):=by unfold U64;decide
   have ua:U64 ((a:Nat):Int):=aU ha;have ub:U64 ((b:Nat):Int):=aU hb;have am:Hid (∀ p,Calls Tryz.prog 144 #[.int .u64 4607182418800017408,.int .u64 (a:Int)] p fun e P=>e=.returned (.int .u64 (sDiv 4607182418800017408 a:Int))/\Below p.heap.size p P):=fun p=>gR 4607182418800017408 a p (by decide) ha
   have al:Hid (∀ p,Calls Tryz.prog 144 #[.int .u64 4607182418800017408,.int .u64 (b:Int)] p fun e P=>e=.returned (.int .u64 (sDiv 4607182418800017408 b:Int))/\Below p.heap.size p P):=fun p=>gR 4607182418800017408 b p (by decide) hb
   have ai:=hideS fun p=>xH (sDiv 4607182418800017408 a) (sDiv 4607182418800017408 b) p (jV _ _) (jV _ _)
   have bh:Hid (∀ p,Calls Tryz.prog 144 #[.int .u64 4611686018427387904,.int .u64 (sAdd (sDiv 4607182418800017408 a) (sDiv 4607182418800017408 b):Int)] p fun e P=>e=.returned (.int .u64 (sDiv 4611686018427387904 (sAdd (sDiv 4607182418800017408 a) (sDiv 4607182418800017408 b)):Int))/\Below p.heap.size p P):=fun p=>gR 4611686018427387904 _ p (by decide) (vz _ _)
   have cc:=IJ a b;generalize slB a b=z at *
   clear ha hb;cases cc with
   | flat2 h1 h3=>
    have f:Hid (∀ o,(A.alloc o).ownsRow (w.heap.size+1) 41 1 (.slice q0 k E) k ((q m).map uV)):=fun o=>aq L.out ((Below.refl _ A).alloc (Nat.le_refl _) o)
    have c:Hid (∀ o,TBox w kind (.slice O n cx) G (A.alloc o)):=fun o=>F.out.step ((Below.refl _ A).alloc (Nat.le_refl _) o)
    go_wp2_with (first | (go_at_call 60;refine (turned (N.out _ _ _ (by assumption) (by assumption))).mono ?_;rintro e w5 ⟨rfl,rfl⟩) | (at_builtin;refine aO _ rfl (.tmp 58) (.tmp 60) rfl (w.heap.size+1) _ k (q m) rfl (f.out _) A.heap.size 0 rfl (by simp) (by omega) (by have:=(c.out (.cells #[.int .u64 0] 41)).lt;exact this) ?_;intro v6 w6 h g;have d:=be (f.out _) g (by have:=(c.out (.cells #[.int .u64 0] 41)).lt;exact this);have j:=hideS ((c.out _).stay d);have l:=hideS h;clear h g d))
    go_roundw
    case rel=>exact⟨k,k+1,rfl,by omega,by simp,by show World.ownsRow _ _ _ _ _ _ _;rw [HN.out];exact l.out,j⟩
    case measure=>simp [intOf];omega
   | flat1 h1 h3 h4=>
    have f:Hid (∀ o,(A.alloc o).ownsRow (w.heap.size+1) 41 1 (.slice q0 k E) k ((q m).map uV)):=fun o=>aq L.out ((Below.refl _ A).alloc (Nat.le_refl _) o)
    have c:Hid (∀ o,TBox w kind (.slice O n cx) G (A.alloc o)):=fun o=>F.out.step ((Below.refl _ A).alloc (Nat.le_refl _) o)
    go_wp2_with (first | (go_at_call 60;refine (turned (N.out _ _ _ (by assumption) (by assumption))).mono ?_;rintro e w5 ⟨rfl,rfl⟩) | (at_builtin;refine aO _ rfl (.tmp 58) (.tmp 60) rfl (w.heap.size+1) _ k (q m) rfl (f.out _) A.heap.size 0 rfl (by simp) (by omega) (by have:=(c.out (.cells #[.int .u64 0] 41)).lt;exact this) ?_;intro v6 w6 h g;have d:=be (f.out _) g (by have:=(c.out (.cells #[.int .u64 0] 41)).lt;exact this);have j:=hideS ((c.out _).stay d);have l:=hideS h;clear h g d))
    go_roundw
    case rel=>exact⟨k,k+1,rfl,by omega,by simp,by show World.ownsRow _ _ _ _ _ _ _;rw [HN.out];exact l.out,j⟩
    case measure=>simp [intOf];omega
   | flat3 h1 h2 h3=>
    have f:Hid (∀ o,(A.alloc o).ownsRow (w.heap.size+1) 41 1 (.slice q0 k E) k ((q m).map uV)):=fun o=>aq L.out ((Below.refl _ A).alloc (Nat.le_refl _) o)
    have c:Hid (∀ o,TBox w kind (.slice O n cx) G (A.alloc o)):=fun o=>F.out.step ((Below.refl _ A).alloc (Nat.le_refl _) o)
    go_wp2_with (first | (go_at_call 60;refine (turned (N.out _ _ _ (by assumption) (by assumption))).mono ?_;rintro e w5 ⟨rfl,rfl⟩) | (at_builtin;refine aO _ rfl (.tmp 58) (.tmp 60) rfl (w.heap.size+1) _ k (q m) rfl (f.out _) A.heap.size 0 rfl (by simp) (by omega) (by have:=(c.out (.cells #[.int .u64 0] 41)).lt;exact this) ?_;intro v6 w6 h g;have d:=be (f.out _) g (by have:=(c.out (.cells #[.int .u64 0] 41)).lt;exact this);have j:=hideS ((c.out _).stay d);have l:=hideS h;clear h g d))
    go_roundw
    case rel=>exact⟨k,k+1,rfl,by omega,by simp,by show World.ownsRow _ _ _ _ _ _ _;rw [HN.out];exact l.out,j⟩
    case measure=>simp [intOf];omega
   | up h1 h2=>
    go_wp2_with (first | (go_at_call 60;refine (turned (N.out _ _ _ (by assumption) (by assumption))).mono ?_;rintro e wl ⟨rfl,rfl⟩) | (go_at_call 144;(with_reducible refine (am.out _).mono ?_);rintro e w5 ⟨rfl,x⟩;have j:=hideS (F.out.step x);have l:=hideS (aq L.out x);clear x) | (go_at_call 144;(with_reducible refine (al.out _).mono ?_);rintro e w6 ⟨rfl,C⟩;have T:=hideS (j.out.step C);have W:=hideS (aq l.out C);clear C) | (go_at_call 50;refine (ai.out _).mono ?_;rintro e w7 ⟨rfl,t⟩;have X:=hideS (T.out.step t);have S:=hideS (aq W.out t);clear t) | (go_at_call 144;(with_reducible refine (bh.out _).mono ?_);rintro e K ⟨rfl,B⟩;have ab:=hideS (X.out.step B);have Z:=hideS (aq S.out B);have f:Hid (∀ o,(K.alloc o).ownsRow (w.heap.size+1) 41 1 (.slice q0 k E) k ((q m).map uV)):=(fun o=>aq Z.out ((Below.refl _ K).alloc (Nat.le_refl _) o));have c:Hid (∀ o,TBox w kind (.slice O n cx) G (K.alloc o)):=(fun o=>ab.out.step ((Below.refl _ K).alloc (Nat.le_refl _) o));clear B) | (at_builtin;refine aO _ rfl (.tmp 58) (.tmp 60) rfl (w.heap.size+1) _ k (q m) rfl (f.out _) K.heap.size (sDiv 4611686018427387904 (sAdd (sDiv 4607182418800017408 a) (sDiv 4607182418800017408 b))) rfl (by simp) (by omega) (by have:=(c.out (.cells #[.int .u64 ((sDiv 4611686018427387904 (sAdd (sDiv 4607182418800017408 a) (sDiv 4607182418800017408 b))):Int)] 41)).lt;exact this) ?_;intro v6 bx h g;have d:=be (f.out _) g (by have:=(c.out (.cells #[.int .u64 ((sDiv 4611686018427387904 (sAdd (sDiv 4607182418800017408 a) (sDiv 4607182418800017408 b))):Int)] 41)).lt;exact this);have M:=hideS ((c.out _).stay d);have I:=hideS h;clear h g d))
    go_roundw
    case rel=>exact⟨k,k+1,rfl,by omega,by simp,by show World.ownsRow _ _ _ _ _ _ _;rw [HN.out];exact I.out,M⟩
    case measure=>simp [intOf];omega
   | down1 h1 h3 h4=>
    go_wp2_with (first | (go_at_call 60;refine (turned (N.out _ _ _ (by assumption) (by assumption))).mono ?_;rintro e wl ⟨rfl,rfl⟩) | (go_at_call 144;(with_reducible refine (am.out _).mono ?_);rintro e w5 ⟨rfl,x⟩;have j:=hideS (F.out.step x);have l:=hideS (aq L.out x);clear x) | (go_at_call 144;(with_reducible refine (al.out _).mono ?_);rintro e w6 ⟨rfl,C⟩;have T:=hideS (j.out.step C);have W:=hideS (aq l.out C);clear C) | (go_at_call 50;refine (ai.out _).mono ?_;rintro e w7 ⟨rfl,t⟩;have X:=hideS (T.out.step t);have S:=hideS (aq W.out t);clear t) | (go_at_call 144;(with_reducible refine (bh.out _).mono ?_);rintro e K ⟨rfl,B⟩;have ab:=hideS (X.out.step B);have Z:=hideS (aq S.out B);have f:Hid (∀ o,(K.alloc o).ownsRow (w.heap.size+1) 41 1 (.slice q0 k E) k ((q m).map uV)):=(fun o=>aq Z.out ((Below.refl _ K).alloc (Nat.le_refl _) o));have c:Hid (∀ o,TBox w kind (.slice O n cx) G (K.alloc o)):=(fun o=>ab.out.step ((Below.refl _ K).alloc (Nat.le_refl _) o));clear B) | (at_builtin;refine aO _ rfl (.tmp 58) (.tmp 60) rfl (w.heap.size+1) _ k (q m) rfl (f.out _) K.heap.size (sDiv 4611686018427387904 (sAdd (sDiv 4607182418800017408 a) (sDiv 4607182418800017408 b))) rfl (by simp) (by omega) (by have:=(c.out (.cells #[.int .u64 ((sDiv 4611686018427387904 (sAdd (sDiv 4607182418800017408 a) (sDiv 4607182418800017408 b))):Int)] 41)).lt;exact this) ?_;intro v6 bx h g;have d:=be (f.out _) g (by have:=(c.out (.cells #[.int .u64 ((sDiv 4611686018427387904 (sAdd (sDiv 4607182418800017408 a) (sDiv 4607182418800017408 b))):Int)] 41)).lt;exact this);have M:=hideS ((c.out _).stay d);have I:=hideS h;clear h g d))
    go_roundw
    case rel=>exact⟨k,k+1,rfl,by omega,by simp,by show World.ownsRow _ _ _ _ _ _ _;rw [HN.out];exact I.out,M⟩
    case measure=>simp [intOf];omega
  ·have br:k+1=n:=by omega
   have cq:¬ (k:Int)+1<(n:Int):=by omega
   have cl:(n:Int) - 2=(m:Int):=by omega
   have J:=hideS (H.out.steep m (by omega) _ s.out.bl)
   have HE:Hid (k+1=n/\n - 2=m):=⟨br,by omega⟩
   clear br Y
   go_wp2_with fail
   refine J.out.mono ?_
   rintro e w3 ⟨rfl,y⟩;have D:=hideS (s.out.step y);have R:=hideS (aq HO.out y);clear y s HO t0 t1 t2 J;have f:Hid (∀ o,(w3.alloc o).ownsRow (w.heap.size+1) 41 1 (.slice q0 k E) k ((q m).map uV)):=fun o=>aq R.out ((Below.refl _ w3).alloc (Nat.le_refl _) o)
   have c:Hid (∀ o,TBox w kind (.slice O n cx) G (w3.alloc o)):=fun o=>D.out.step ((Below.refl _ w3).alloc (Nat.le_refl _) o)
   go_wp2_with (at_builtin;refine aO _ rfl (.tmp 62) (.tmp 67) rfl (w.heap.size+1) _ k (q m) rfl (f.out _) w3.heap.size (r m) rfl (by simp) (by omega) (by have:=(c.out (.cells #[.int .u64 (r m:Int)] 41)).lt;exact this) ?_;intro v6 w6 h g;have d:=be (f.out _) g (by have:=(c.out (.cells #[.int .u64 (r m:Int)] 41)).lt;exact this);have j:=hideS ((c.out _).stay d);have l:=hideS h;clear h g d)
   go_ret2
   obtain⟨e1,e2⟩:=HE.out;refine⟨_,rfl,?_,j.out.bl⟩
   rw [e2];have:=jW l.out (Nat.le_succ w.heap.size);rw [e1] at this
   exact this
theorem qg (kind:Int) (a b:Option Addr) (m l cx f c cy n:Nat) (xs:List Int) (ys:List Nat) (w:World) (h:OkT kind xs ys) (hn:xs.length=n) (o:TSrc w a b m l f c xs ys) :
  Calls Tryz.prog 168 #[.agg #[.int .i64 kind,.slice a n cx,.slice b n cy]] w fun e p=>∃ v,e=.returned (.tuple #[v,.int .i64 0])/\p.ownsRow w.heap.size 41 1 v n ((bI xs ys n).map uV)/\Below w.heap.size w p:=by
 have g:=h.len;have H:SlH w kind (.slice a n cx) (.slice b n cy) n (steepB xs ys):=⟨fun i j=>by
  have:=dr kind 0 a b m l cx f c cy xs ys i (.ok h) (o.below j);rw [g,hn] at this
  exact this,fun k r i j=>EL kind a b m l cx f c cy n k xs ys i h hn (o.below j) r⟩
 have q:=h.lo;have s:=h.hi;unfold bI
 by_cases d:n=1
 ·rw [if_pos d];subst d;exact Bc kind a cx _ _ w H
 ·rw [if_neg d];exact xJ kind a cx n _ (steepB xs ys) (eR xs ys) w H (by omega) (by omega) (mO xs ys) rfl (iE xs ys) (fw xs ys)
def heldN (v a b:Nat):Nat:=(dJ (v:Nat) (a:Nat) (b:Nat)).toNat
theorem fO {v a b:Nat} (d:v<18446744073709551616) (e:a<18446744073709551616) (c:b<18446744073709551616):((heldN v a b:Nat):Int)=dJ (v:Nat) (a:Nat) (b:Nat):=by
 have:=(xK (aU d) (aU e) (aU c)).1;unfold heldN;omega
theorem jo {v a b:Nat} (d:v<18446744073709551616) (f:a<18446744073709551616) (c:b<18446744073709551616):heldN v a b<18446744073709551616:=by
 have:=xK (aU d) (aU f) (aU c);have e:=fO d f c;have:=this.2;omega
theorem mP (v a b:Nat) (w:World) (d:v<18446744073709551616) (f:a<18446744073709551616) (c:b<18446744073709551616) :
  Calls Tryz.prog 149 #[.int .u64 (v:Int),.int .u64 (a:Int),.int .u64 (b:Int)] w fun e g=>e=.returned (.int .u64 (heldN v a b:Int))/\g=w:=by
 rw [fO d f c];exact IL _ _ _ w (aU d) (aU f) (aU c)
def ptP (h d a b:Nat):Nat:=heldN (sAdd a (sDiv (sMul d h) (fi 3))) a b
def ptQ (h d b p:Nat):Nat:=heldN (sSub b (sDiv (sMul d h) (fi 3))) p b
theorem IM:fi 3<18446744073709551616:=kw (by decide) (by decide)
theorem Be {h d a b:Nat} (e:a<18446744073709551616) (c:b<18446744073709551616):ptP h d a b<18446744073709551616:=jo (vz _ _) e c
theorem Ph {h d b p:Nat} (a:b<18446744073709551616) (c:p<18446744073709551616):ptQ h d b p<18446744073709551616:=jo (vw _ _) c a
theorem EN (w:World) (a b c d:Nat):(w.alloc (.cells #[.int .u64 (a:Int),.int .u64 (b:Int),.int .u64 (c:Int),.int .u64 (d:Int)] 41)).ownsRow w.heap.size 41 1 (.slice (some ⟨w.heap.size,0,none⟩) 4 4) 4 ([a,b,c,d].map uV):=
 ⟨rfl,.inr ⟨w.heap.size,4,#[.int .u64 (a:Int),.int .u64 (b:Int),.int .u64 (c:Int),.int .u64 (d:Int)],rfl,Nat.le_refl _,heap_alloc_new w _,Nat.le_refl _,by unfold maxLen;omega,rfl,rfl⟩⟩
def Pi (w:World) (kind:Int) (f c:Value) (n:Nat) (d:List Nat):Prop:=∀ a,Below w.heap.size w a->Calls Tryz.prog 168 #[.agg #[.int .i64 kind,f,c]] a fun e b=>∃ v,e=.returned (.tuple #[v,.int .i64 0])/\b.ownsRow a.heap.size 41 1 v n (d.map uV)/\Below a.heap.size a b
structure PRd (w:World) (B:Nat) (vx vy:Value) (bx ox b2 oy bd k:Nat) (x0 x1:Int) (y0 y1 d0 d1:Nat):Prop where
 t1:w.cell? ⟨B,1,none⟩=some vx
 t2:w.cell? ⟨B,2,none⟩=some vy
 a0:w.cell? ⟨bx,ox+k,none⟩=some (.int .i64 x0)
 a1:w.cell? ⟨bx,ox+(k+1),none⟩=some (.int .i64 x1)
 b0:w.cell? ⟨b2,oy+k,none⟩=some (.int .u64 (y0:Int))
 b1:w.cell? ⟨b2,oy+(k+1),none⟩=some (.int .u64 (y1:Int))
 e0:w.cell? ⟨bd,k,none⟩=some (.int .u64 (d0:Int))
 e1:w.cell? ⟨bd,k+1,none⟩=some (.int .u64 (d1:Int))
 lB:B<w.heap.size
 lx:bx<w.heap.size
 ly:b2<w.heap.size
 ld:bd<w.heap.size
theorem PRd.step {w m:World} {B:Nat} {l f:Value} {e d c b bd k:Nat} {j g:Int} {y0 y1 i n:Nat} (h:PRd w B l f e d c b bd k j g y0 y1 i n) (a:Below w.heap.size w m):PRd m B l f e d c b bd k j g y0 y1 i n:=
 ⟨(a.cell (p:=⟨B,1,none⟩) h.lB).trans h.t1,(a.cell (p:=⟨B,2,none⟩) h.lB).trans h.t2,(a.cell (p:=⟨e,d+k,none⟩) h.lx).trans h.a0,(a.cell (p:=⟨e,d+(k+1),none⟩) h.lx).trans h.a1,(a.cell (p:=⟨c,b+k,none⟩) h.ly).trans h.b0,(a.cell (p:=⟨c,b+(k+1),none⟩) h.ly).trans h.b1,(a.cell (p:=⟨bd,k,none⟩) h.ld).trans h.e0,(a.cell (p:=⟨bd,k+1,none⟩) h.ld).trans h.e1,Nat.lt_of_lt_of_le h.lB a.size,Nat.lt_of_lt_of_le h.lx a.size,Nat.lt_of_lt_of_le h.ly a.size,Nat.lt_of_lt_of_le h.ld a.size⟩
theorem PRd.drew {w:World} {B:Nat} {j e:Value} {b l c f bd k:Nat} {d i:Int} {y0 y1 a g:Nat} (h:PRd w B j e b l c f bd k d i y0 y1 a g):PRd w.drew B j e b l c f bd k d i y0 y1 a g:=⟨h.t1,h.t2,h.a0,h.a1,h.b0,h.b1,h.e0,h.e1,h.lB,h.lx,h.ly,h.ld⟩
theorem PRd.three {w:World} {B:Nat} {e i:Value} {a b g j bd k:Nat} {c d:Int} {y0 y1 f l:Nat} (h:PRd w B e i a b g j bd k c d y0 y1 f l):w.cell? ⟨B,1,none⟩=some e/\w.cell? ⟨a,b+k,none⟩=some (.int .i64 c)/\w.cell? ⟨a,b+(k+1),none⟩=some (.int .i64 d):=⟨h.t1,h.a0,h.a1⟩
theorem Bf (kind:Int) (m o cx B A cy n k:Nat) (f g:Int) (y0 y1 a c:Nat) (R:List Nat) (w:World) (hd:R.length=n) (L:R.getD k 0=a) (O:R.getD (k+1) 0=c)
  (hR:∀ l,Below w.heap.size w l->∀ bd,bd<l.heap.size->w.heap.size<l.heap.size->TBox w kind (.slice (some ⟨m,o,none⟩) n cx) (.slice (some ⟨B,A,none⟩) n cy) l->l.cell? ⟨bd,k,none⟩=some (.int .u64 (a:Int))->l.cell? ⟨bd,k+1,none⟩=some (.int .u64 (c:Int))->PRd l w.heap.size (.slice (some ⟨m,o,none⟩) n cx) (.slice (some ⟨B,A,none⟩) n cy) m o B A bd k f g y0 y1 a c)
  (hk:k+1<n) (hn:n<=256) (h0:0<=f) (h1:f<=109572) (h2:0<=g) (h3:g<=109572) (p:y0<18446744073709551616) (j:y1<18446744073709551616) (D:a<18446744073709551616) (S:c<18446744073709551616)
  (H:Hid (Pi w kind (.slice (some ⟨m,o,none⟩) n cx) (.slice (some ⟨B,A,none⟩) n cy) n R)) :
  Calls Tryz.prog 147 #[.agg #[.int .i64 kind,.slice (some ⟨m,o,none⟩) n cx,.slice (some ⟨B,A,none⟩) n cy],.int .i64 (k:Int)] w fun e l=>∃ v,e=.returned (.tuple #[v,.int .i64 0])/\l.ownsRow w.heap.size 41 1 v 4 ([y0,ptP (fi (g - f)) a y0 y1,ptQ (fi (g - f)) c y1 (ptP (fi (g - f)) a y0 y1),y1].map uV)/\Below w.heap.size w l:=by
 have Y:=hideS (bU w kind (.slice (some ⟨m,o,none⟩) n cx) (.slice (some ⟨B,A,none⟩) n cy));unfold Pi at H
 have HR:=hideS hR;have C:k+1<R.length:=by omega
 have y:=hideS (And.intro hd (And.intro L O));have f1:IntKind.i64.wrap ((k:Int)+1)=(k:Int)+1:=by rw [IntKind.wrap_i64];omega
 have f2:IntKind.i64.wrap (g - f)=g - f:=by rw [IntKind.wrap_i64];omega
 have g1:(0:Int)<=(k:Int)+1:=by omega
 have g2:(k:Int)+1<(n:Int):=by omega
 have g3:(0:Int)<=(k:Int):=by omega
 have g4:(k:Int)<(n:Int):=by omega
 have g5:decide ((k:Int)<0)=false:=decide_eq_false (by omega)
 have g6:decide ((n:Int) - 1<=(k:Int))=false:=decide_eq_false (by omega)
 have bh:k<n:=by omega
 have HI:=hideS fun b=>cY (g - f) b (by omega) (by omega)
 have bc:=hideS fun b=>cY 3 b (by decide) (by decide)
 have hF:=kw (n:=g - f) (by omega) (by omega)
 generalize fi (g - f)=F at *
 have T:=hideS fun b=>xG a F b D hF
 have ad:=hideS fun b=>xG c F b S hF
 have al:=hideS fun b=>gR (sMul a F) (fi 3) b (Dn _ _) IM
 have U:=hideS fun b=>gR (sMul c F) (fi 3) b (Dn _ _) IM
 have bb:=hideS fun b=>xH y0 (sDiv (sMul a F) (fi 3)) b p (jV _ _)
 have am:=hideS fun b=>xF y1 (sDiv (sMul c F) (fi 3)) b j (jV _ _)
 have M:=hideS fun b=>mP (sAdd y0 (sDiv (sMul a F) (fi 3))) y0 y1 b (vz _ _) p j
 have hP:=Be (h:=F) (d:=a) p j;have K:=hideS fun b=>mP (sSub y1 (sDiv (sMul c F) (fi 3))) (ptP F a y0 y1) y1 b (vw _ _) hP j
 have eP:heldN (sAdd y0 (sDiv (sMul a F) (fi 3))) y0 y1=ptP F a y0 y1:=rfl;have eQ:heldN (sSub y1 (sDiv (sMul c F) (fi 3))) (ptP F a y0 y1) y1=ptQ F c y1 (ptP F a y0 y1):=rfl;rw [eP] at M
 rw [eQ] at K
 clear eP eQ;generalize ptQ F c y1 (ptP F a y0 y1)=Q at *
 generalize ptP F a y0 y1=P at *
 generalize sAdd y0 (sDiv (sMul a F) (fi 3))=A0 at *
 generalize sSub y1 (sDiv (sMul c F) (fi 3))=S1 at *
 generalize sDiv (sMul a F) (fi 3)=V0 at *
 generalize sDiv (sMul c F) (fi 3)=V1 at *
 generalize sMul a F=M0 at *
 generalize sMul c F=M1 at *
 generalize fi 3=T3 at *
 clear hR hd L O p j D S hF hP h0 h1 h2 h3
 go_enter Tryz.func147,Tryz.ntmps147
 go_wp2_with fail
 refine (H.out _ Y.out.bl).mono ?_
 rintro e w1 ⟨v,rfl,ho,G⟩;obtain⟨pd,bd,cd,rfl,E,ba,W,ab⟩:=bq ho y.out.1;obtain rfl:=E.at_ (by omega)
 have i:=hideS (Y.out.step G);have z0:w1.cell? ⟨bd,k,none⟩=some (.int .u64 (a:Int)):=by have:=E.cell k (by omega);rw [Nat.zero_add,y.out.2.1] at this;exact this
 have z1:w1.cell? ⟨bd,k+1,none⟩=some (.int .u64 (c:Int)):=by have:=E.cell (k+1) C;rw [Nat.zero_add,y.out.2.2] at this;exact this
 have K0:=hideS (HR.out w1 i.out.bl bd (E.lt (by omega)) i.out.lt i.out z0 z1)
 have B0:=hideS i.out.bl;clear G ho E ba W ab z0 z1 i Y HR H;obtain⟨t1,t2,a0,a1,b0,b1,e0,e1,_,_,_,_⟩:=K0.out
 go_wp2_with fail
 go_region_held3 (fun x=>x.cell? ⟨w.heap.size,1,none⟩=some (.slice (some ⟨m,o,none⟩) n cx)/\x.cell? ⟨m,o+k,none⟩=some (.int .i64 f)/\x.cell? ⟨m,o+(k+1),none⟩=some (.int .i64 g)) (first | exact K0.out.three | exact X.out.three | go_keep) ((go_at_call 101;refine (HI.out _).mono ?_;rintro e w2 ⟨rfl,s⟩;have B1:=hideS (B0.out.drew.trans (s.mono B0.out.size));have X:=hideS (K0.out.drew.step s);clear s))
 all_goals
  clear t1 t2 a0 a1 b0 b1 e0 e1;obtain⟨t1,t2,a0,a1,b0,b1,e0,e1,_,_,_,_⟩:=X.out
  go_wp2_with (go_at_call 101;refine (bc.out _).mono ?_;rintro e w3 ⟨rfl,u⟩;have B2:=hideS (B1.out.trans (u.mono B1.out.size));have V:=hideS (X.out.step u);have ai:=V.out.e0;have q:=V.out.e1;clear u)
  refine (T.out _).mono ?_
  rintro e w4 ⟨rfl,r⟩;have B3:=hideS (B2.out.trans (r.mono B2.out.size));have K3:=hideS (V.out.step r);clear r ai q
  go_wp2_with fail
  refine (al.out _).mono ?_
  rintro e w5 ⟨rfl,t⟩;have B4:=hideS (B3.out.trans (t.mono B3.out.size));have K4:=hideS (K3.out.step t);clear t
  go_wp2_with fail
  refine (bb.out _).mono ?_
  rintro e w6 ⟨rfl,z⟩;have B5:=hideS (B4.out.trans (z.mono B4.out.size));have K5:=hideS (K4.out.step z);clear z;have q:=K5.out.e1
  go_wp2_with (go_at_call 149;refine (turned (M.out _)).mono ?_;rintro e wh ⟨rfl,rfl⟩)
  refine (ad.out _).mono ?_
  rintro e w7 ⟨rfl,I⟩;have B6:=hideS (B5.out.trans (I.mono B5.out.size));clear I q
  go_wp2_with fail
  refine (U.out _).mono ?_
  rintro e w8 ⟨rfl,N⟩;have B7:=hideS (B6.out.trans (N.mono B6.out.size));clear N
  go_wp2_with fail
  refine (am.out _).mono ?_
  rintro e w9 ⟨rfl,J⟩;have Z:=hideS (B7.out.trans (J.mono B7.out.size));clear J;have HO:=hideS (EN w9 y0 P Q y1)
  go_wp2_with (go_at_call 149;refine (turned (K.out _)).mono ?_;rintro e wh ⟨rfl,rfl⟩)
  go_ret2
  exact⟨_,rfl,jW HO.out Z.out.size,Z.out.alloc Z.out.size _⟩
def ptL (xs:List Int) (ys:List Nat) (k:Nat):List Nat:=
 [ys.getD k 0,ptP (fi (xs.getD (k+1) 0 - xs.getD k 0)) ((bI xs ys xs.length).getD k 0) (ys.getD k 0) (ys.getD (k+1) 0),ptQ (fi (xs.getD (k+1) 0 - xs.getD k 0)) ((bI xs ys xs.length).getD (k+1) 0) (ys.getD (k+1) 0) (ptP (fi (xs.getD (k+1) 0 - xs.getD k 0)) ((bI xs ys xs.length).getD k 0) (ys.getD k 0) (ys.getD (k+1) 0)),ys.getD (k+1) 0]
theorem xL (xs:List Int) (ys:List Nat):∀ k,∀ d ∈ eR xs ys k,d<18446744073709551616
 | 0,d,h=>by
  have:d=steepB xs ys 0:=by simpa [eR] using h
  rw [this];exact mO _ _ _
 | k+1,d,h=>by
  rw [iE,List.mem_append] at h
  rcases h with h | h
  ·exact xL xs ys k d h
  ·have:d=slB (steepB xs ys k) (steepB xs ys (k+1)):=by simpa using h
   rw [this];exact Pg _ _
theorem EO {xs:List Int} {ys:List Nat} {n:Nat} (hn:1<=n):(bI xs ys n).length=n:=by
 unfold bI
 split
 ·rename_i h;rw [h];rfl
 ·rw [List.length_append,fw];simp;omega
theorem xM {xs:List Int} {ys:List Nat} {n:Nat} (i:Nat):(bI xs ys n).getD i 0<18446744073709551616:=by
 by_cases hi:i<(bI xs ys n).length
 ·have e:(bI xs ys n).getD i 0=(bI xs ys n)[i]:=by simp [List.getD,List.getElem?_eq_getElem hi]
  rw [e];have a:=List.getElem_mem hi;generalize (bI xs ys n)[i]=d at *
  unfold bI at a
  split at a
  ·have:d=0:=by simpa using a
   rw [this];decide
  ·rw [List.mem_append] at a
   rcases a with h | h
   ·exact xL xs ys _ d h
   ·have:d=steepB xs ys (n - 2):=by simpa using h
    rw [this];exact mO _ _ _
 ·have e:(bI xs ys n).getD i 0=0:=by simp [List.getD,List.getElem?_eq_none (show (bI xs ys n).length<=i by omega)]
  rw [e];decide
theorem qh (kind:Int) (d c:Option Addr) (q o cx j i cy n k:Nat) (xs:List Int) (ys:List Nat) (w:World) (h:OkT kind xs ys) (hn:xs.length=n) (b:TSrc w d c q o j i xs ys) (E:k+1<n) :
  Calls Tryz.prog 147 #[.agg #[.int .i64 kind,.slice d n cx,.slice c n cy],.int .i64 (k:Int)] w fun e l=>∃ v,e=.returned (.tuple #[v,.int .i64 0])/\l.ownsRow w.heap.size 41 1 v 4 ((ptL xs ys k).map uV)/\Below w.heap.size w l:=by
 have A:=h.len;have D:=h.lo;have G:=h.hi;have H:Pi w kind (.slice d n cx) (.slice c n cy) n (bI xs ys n):=fun B m=>qg kind d c q o cx j i cy n xs ys B h hn (b.below m)
 obtain rfl:=b.x.at_ (by omega)
 obtain rfl:=b.y.at_ (by omega)
 have r:=ap (h.node k (by omega))
 have s:=ap (h.node (k+1) (by omega))
 have C:=b.f k (by omega)
 have F:=b.f (k+1) (by omega)
 unfold ptL;rw [hn];exact Bf kind q o cx j i cy n k (xs.getD k 0) (xs.getD (k+1) 0) (ys.getD k 0) (ys.getD (k+1) 0) _ _ (bI xs ys n) w (EO (by omega)) rfl rfl
  (fun l m bd p g t u z=>by
   have a:=b.below m;exact⟨t.t1,t.t2,a.x.cell k (by omega),a.x.cell (k+1) (by omega),a.y.cell k (by omega),a.y.cell (k+1) (by omega),u,z,g,a.x.lt (by omega),a.y.lt (by omega),p⟩)
  E (by omega) r.1 r.2.1 s.1 s.2.1 (by have:=C.2;omega) (by have:=F.2;omega) (xM _) (xM _) H
end Go.Proofs.YtfdddijdjpijbaaGreat
