/-  -/
import Derived.Test.YtfdddijdjpijbaaGreatHaz
import Derived.Test.YtfdddijdjpijbaaGreatHau
import Derived.Test.YtfdddijdjpijbaaGreatHar
set_option maxHeartbeats 12800000
namespace Go.Proofs.YtfdddijdjpijbaaGreat
open Go.RowKit
def slB (a b:Nat):Nat:=if (ltB 0 (a:Nat)&&ltB 0 (b:Nat))||(ltB (a:Nat) 0&&ltB (b:Nat) 0) then sDiv 4611686018427387904 (sAdd (sDiv 4607182418800017408 a) (sDiv 4607182418800017408 b)) else 0
def eG (xs:List Int) (ys:List Nat):Nat->List Nat
 | 0=>[steepB xs ys 0]
 | k+1=>eG xs ys k++[slB (steepB xs ys k) (steepB xs ys (k+1))]
def bG (xs:List Int) (ys:List Nat) (n:Nat):List Nat:=if n=1 then [0] else eG xs ys (n - 2)++[steepB xs ys (n - 2)]
theorem eS (xs:List Int) (ys:List Nat):∀ k,(eG xs ys k).length=k+1
 | 0=>rfl
 | k+1=>by show (eG xs ys k++[_]).length=_;rw [List.length_append,eS xs ys k];rfl
theorem mE (xs:List Int) (ys:List Nat) (k:Nat):steepB xs ys k<18446744073709551616:=jM _ _
theorem OD (a b:Nat):slB a b<18446744073709551616:=by
 unfold slB
 split
 ·exact jM _ _
 ·decide
theorem Eg (kind:Int) (q p:Option Addr) (d g cx i j cy n k:Nat) (xs:List Int) (ys:List Nat) (w:World) (h:OkT kind xs ys) (hn:xs.length=n) (b:TSrc w q p d g i j xs ys) (v:k+1<n) :
  Calls Tryz.prog 186 #[.agg #[.int .i64 kind,.slice q n cx,.slice p n cy],.int .i64 (k:Int)] w fun e t=>e=.returned (.int .u64 (steepB xs ys k:Int))/\Below w.heap.size w t:=by
 obtain rfl:=b.x.at_ (by omega)
 have r:=h.len;obtain rfl:=b.y.at_ (by omega)
 have c:Below w.heap.size w (w.alloc (.cells #[.int .i64 kind,.slice (some ⟨d,g,none⟩) n cx,.slice (some ⟨i,j,none⟩) n cy] 156)):=(Below.refl _ _).alloc (Nat.le_refl _) _;have l:=bQ w kind (.slice (some ⟨d,g,none⟩) n cx) (.slice (some ⟨i,j,none⟩) n cy);have a:=b.below c;have o:=aq (h.node k (by omega))
 have m:=aq (h.node (k+1) (by omega))
 have u:=b.f k (by omega)
 have s:=b.f (k+1) (by omega)
 have hi:=h.hi;exact Ef kind d g cx i j cy n k (xs.getD k 0) (xs.getD (k+1) 0) (ys.getD k 0) (ys.getD (k+1) 0) w _ rfl ⟨l.t1,l.t2,a.x.cell k (by omega),a.x.cell (k+1) (by omega),a.y.cell k (by omega),a.y.cell (k+1) (by omega)⟩ (by omega) (by omega) (a.x.lt (by omega)) (a.y.lt (by omega)) c l.lt o.1 o.2.1 m.1 m.2.1 (by have:=u.2;omega) (by have:=s.2;omega)
theorem iv (xs:List Int) (ys:List Nat) (k:Nat):eG xs ys (k+1)=eG xs ys k++[slB (steepB xs ys k) (steepB xs ys (k+1))]:=rfl
theorem jN {w:World} {base a n:Nat} {v:Value} {xs:List Value} (h:w.ownsRow base 41 1 v n xs) (i:a<=base):w.ownsRow a 41 1 v n xs:=by
 refine⟨h.1,?_⟩
 rcases h.2 with d | ⟨g,b,c,e,f,rest⟩
 ·exact .inl d
 ·exact .inr ⟨g,b,c,e,Nat.le_trans i f,rest⟩
theorem TBox.stay {w wr b:World} {kind:Int} {c d:Value} (h:TBox w kind c d wr) (a:Below (w.heap.size+1) wr b):TBox w kind c d b:=
 ⟨(a.cell (p:=⟨w.heap.size,0,none⟩) (Nat.lt_succ_self _)).trans h.t0,(a.cell (p:=⟨w.heap.size,1,none⟩) (Nat.lt_succ_self _)).trans h.t1,(a.cell (p:=⟨w.heap.size,2,none⟩) (Nat.lt_succ_self _)).trans h.t2,h.bl.trans (a.mono (Nat.le_succ _)),Nat.lt_of_lt_of_le h.lt a.size⟩
structure SlH (w:World) (kind:Int) (v1 v2:Value) (n:Nat) (st:Nat->Nat):Prop where
 chk:∀ wx,Below w.heap.size w wx->Calls Tryz.prog 167 #[.agg #[.int .i64 kind,v1,v2]] wx fun e w'=>e=.returned (.int .i64 0)/\Below wx.heap.size wx w'
 steep:∀ k,k+1<n->∀ wx,Below w.heap.size w wx->Calls Tryz.prog 186 #[.agg #[.int .i64 kind,v1,v2],.int .i64 (k:Int)] wx fun e w'=>e=.returned (.int .u64 (st k:Int))/\Below wx.heap.size wx w'
theorem AC (kind:Int) (c:Option Addr) (cx:Nat) (d:Value) (j:Nat->Nat) (w:World) (H:Hid (SlH w kind (.slice c 1 cx) d 1 j)) :
  Calls Tryz.prog 168 #[.agg #[.int .i64 kind,.slice c 1 cx,d]] w fun e f=>∃ v,e=.returned (.tuple #[v,.int .i64 0])/\f.ownsRow w.heap.size 41 1 v 1 ([0].map uV)/\Below w.heap.size w f:=by
 have g:=hideS (bQ w kind (.slice c 1 cx) d)
 go_enter Tryz.func168,Tryz.ntmps168
 go_wp2_with fail
 refine (H.out.chk _ g.out.bl).mono ?_
 rintro e h ⟨rfl,b⟩;have a:=hideS (g.out.step b);clear b;obtain⟨k,l,m,_,_⟩:=a.out;have i:=hideS (xm h 0)
 go_wp2_with fail
 go_ret2
 exact⟨_,rfl,jN i.out a.out.bl.size,a.out.bl.alloc a.out.bl.size _⟩
inductive SlO (a b:Nat):Nat->Prop
 | up (h1:ltB 0 (a:Nat)=true) (h2:ltB 0 (b:Nat)=true):SlO a b (sDiv 4611686018427387904 (sAdd (sDiv 4607182418800017408 a) (sDiv 4607182418800017408 b)))
 | down1 (h1:ltB 0 (a:Nat)=false) (h3:ltB (a:Nat) 0=true) (h4:ltB (b:Nat) 0=true):SlO a b (sDiv 4611686018427387904 (sAdd (sDiv 4607182418800017408 a) (sDiv 4607182418800017408 b)))
 | flat1 (h1:ltB 0 (a:Nat)=false) (h3:ltB (a:Nat) 0=true) (h4:ltB (b:Nat) 0=false):SlO a b 0
 | flat2 (h1:ltB 0 (a:Nat)=false) (h3:ltB (a:Nat) 0=false):SlO a b 0
 | flat3 (h1:ltB 0 (a:Nat)=true) (h2:ltB 0 (b:Nat)=false) (h3:ltB (a:Nat) 0=false):SlO a b 0
theorem Id {u v:Int} (h:ltB u v=true):ltB v u=false:=by
 unfold ltB at h ⊢
 simp only [Bool.and_eq_true,Bool.not_eq_true',decide_eq_true_eq] at h
 rw [h.1.1,h.1.2];simp;omega
theorem Ie (a b:Nat):SlO a b (slB a b):=by
 unfold slB;cases c:ltB 0 (a:Nat)
 ·cases d:ltB (a:Nat) 0
  ·simp;exact .flat2 c d
  ·cases e:ltB (b:Nat) 0
   ·simp;exact .flat1 c d e
   ·simp;exact .down1 c d e
 ·have d:=Id c;cases f:ltB 0 (b:Nat)
  ·rw [d];simp;exact .flat3 c f d
  ·simp;exact .up c f
theorem xn (kind:Int) (J:Option Addr) (cx n:Nat) (O:Value) (r:Nat->Nat) (p:Nat->List Nat) (w:World) (H:Hid (SlH w kind (.slice J n cx) O n r)) (hn:2<=n) (cp:n<=256) (bb:∀ k,r k<18446744073709551616) (ak:p 0=[r 0]) (am:∀ k,p (k+1)=p k++[slB (r k) (r (k+1))]) (bo:∀ k,(p k).length=k+1) :
  Calls Tryz.prog 168 #[.agg #[.int .i64 kind,.slice J n cx,O]] w fun e P=>∃ v,e=.returned (.tuple #[v,.int .i64 0])/\P.ownsRow w.heap.size 41 1 v n ((p (n - 2)++[r (n - 2)]).map uV)/\Below w.heap.size w P:=by
 have HB:=hideS (bQ w kind (.slice J n cx) O);have HT:=hideS bb;have HL:=hideS am;have bx:=hideS bo;have cl:((n:Int)==1)=false:=beq_false_of_ne (by omega)
 have L:=hideS fun (u v:Int) (q:World) (hu:U64 u) (hv:U64 v)=>go u v q hu hv
 clear bb am bo
 go_enter Tryz.func168,Tryz.ntmps168
 go_wp2_with fail
 refine (H.out.chk _ HB.out.bl).mono ?_
 rintro e w1 ⟨rfl,al⟩;have R:=hideS (HB.out.step al);clear al HB;obtain⟨t0,t1,t2,_,_⟩:=R.out;have bh:Hid (Calls Tryz.prog 186 #[.agg #[.int .i64 kind,.slice J n cx,O],.int .i64 0] w1 fun e P=>e=.returned (.int .u64 (r 0:Int))/\Below w1.heap.size w1 P):=H.out.steep 0 (by omega) _ R.out.bl
 go_wp2_with fail
 refine bh.out.mono ?_
 rintro e w2 ⟨rfl,ba⟩;have Y:=hideS (R.out.step ba);clear ba R bh t0 t1 t2;have cd:Hid ((w2.alloc (.cells #[.int .u64 (r 0:Int)] 41)).ownsRow (w.heap.size+1) 41 1 (.slice (some ⟨w2.heap.size,0,none⟩) 1 1) 1 ((p 0).map uV)):=by
  show World.ownsRow _ _ _ _ _ _ _
  rw [ak];exact jN (xm w2 (r 0)) Y.out.lt
 have ca:=hideS (Y.out.step ((Below.refl _ w2).alloc (Nat.le_refl _) (.cells #[.int .u64 (r 0:Int)] 41)));clear ak Y
 go_wp2_with fail
 go_loopw [6,7,8,9,10] (fun v i _ _ _ wr=>∃ m k:Nat,m+1=k/\k+1<=n/\i=.int .i64 k/\Hid (wr.ownsRow (w.heap.size+1) 41 1 v k ((p m).map uV))/\Hid (TBox w kind (.slice J n cx) O wr)) (fun _ i _ _ _ _=>n - (intOf i).toNat)
 case atStart=>exact⟨0,1,rfl,by omega,rfl,cd,ca⟩
 case round=>
  obtain⟨m,k,T,hk,rfl,HO,s⟩:=hrel;obtain⟨q0,g0,D,rfl,_,_,_,_⟩:=bq HO.out (by rw [bx.out];omega)
  have ci:(k:Int) - 1=(m:Int):=by omega
  obtain⟨t0,t1,t2,_,_⟩:=s.out
  by_cases cc:k+1<n
  ·have cf:(k:Int)+1<(n:Int):=by omega
   have N:=hideS (H.out.steep m (by omega) _ s.out.bl)
   have bv:=hideS T;clear T
   go_wp2_with fail
   refine N.out.mono ?_
   rintro e w3 ⟨rfl,B⟩;have E:=hideS (s.out.step B);have Q:=hideS (ao HO.out B);clear B s HO t0 t1 t2 N;obtain⟨t0,t1,t2,_,_⟩:=E.out;have bc:=hideS (H.out.steep k cc _ E.out.bl)
   go_wp2_with fail
   refine bc.out.mono ?_
   rintro e C ⟨rfl,X⟩;have M:=hideS (E.out.step X);have G:=hideS (ao Q.out X);clear X E Q t0 t1 t2 bc;have HN:Hid (p k=p m++[slB (r m) (r k)]):=by show _=_;rw [<- bv.out];exact HL.out m
   have ha:=HT.out m;have hb:=HT.out k;generalize r m=a at *
   generalize r k=b at *
   have u0:U64 (0:Int):=by unfold U64;decide
   have ua:U64 ((a:Nat):Int):=aU ha;have ub:U64 ((b:Nat):Int):=aU hb;have ai:Hid (∀ q,Calls Tryz.prog 144 #[.int .u64 4607182418800017408,.int .u64 (a:Int)] q fun e P=>e=.returned (.int .u64 (sDiv 4607182418800017408 a:Int))/\Below q.heap.size q P):=fun q=>gE 4607182418800017408 a q (by decide) ha
   have bk:Hid (∀ q,Calls Tryz.prog 144 #[.int .u64 4607182418800017408,.int .u64 (b:Int)] q fun e P=>e=.returned (.int .u64 (sDiv 4607182418800017408 b:Int))/\Below q.heap.size q P):=fun q=>gE 4607182418800017408 b q (by decide) hb
   have ad:=hideS fun q=>xl (sDiv 4607182418800017408 a) (sDiv 4607182418800017408 b) q (jM _ _) (jM _ _)
   have br:Hid (∀ q,Calls Tryz.prog 144 #[.int .u64 4611686018427387904,.int .u64 (sAdd (sDiv 4607182418800017408 a) (sDiv 4607182418800017408 b):Int)] q fun e P=>e=.returned (.int .u64 (sDiv 4611686018427387904 (sAdd (sDiv 4607182418800017408 a) (sDiv 4607182418800017408 b)):Int))/\Below q.heap.size q P):=fun q=>gE 4611686018427387904 _ q (by decide) (uO _ _)
   have bz:=Ie a b;generalize slB a b=z at *
   clear ha hb;cases bz with
   | flat2 h1 h3=>
    have f:Hid (∀ o,(C.alloc o).ownsRow (w.heap.size+1) 41 1 (.slice q0 k D) k ((p m).map uV)):=fun o=>ao G.out ((Below.refl _ C).alloc (Nat.le_refl _) o)
    have c:Hid (∀ o,TBox w kind (.slice J n cx) O (C.alloc o)):=fun o=>M.out.step ((Below.refl _ C).alloc (Nat.le_refl _) o)
    go_wp2_with (first | (go_at_call 60;refine (turned (L.out _ _ _ (by assumption) (by assumption))).mono ?_;rintro e w5 ⟨rfl,rfl⟩) | (at_builtin;refine aH _ rfl (.tmp 58) (.tmp 60) rfl (w.heap.size+1) _ k (p m) rfl (f.out _) C.heap.size 0 rfl (by simp) (by omega) (by have:=(c.out (.cells #[.int .u64 0] 41)).lt;exact this) ?_;intro v6 w6 h g;have d:=aW (f.out _) g (by have:=(c.out (.cells #[.int .u64 0] 41)).lt;exact this);have l:=hideS ((c.out _).stay d);have j:=hideS h;clear h g d))
    go_roundw
    case rel=>exact⟨k,k+1,rfl,by omega,by simp,by show World.ownsRow _ _ _ _ _ _ _;rw [HN.out];exact j.out,l⟩
    case measure=>simp [intOf];omega
   | flat1 h1 h3 h4=>
    have f:Hid (∀ o,(C.alloc o).ownsRow (w.heap.size+1) 41 1 (.slice q0 k D) k ((p m).map uV)):=fun o=>ao G.out ((Below.refl _ C).alloc (Nat.le_refl _) o)
    have c:Hid (∀ o,TBox w kind (.slice J n cx) O (C.alloc o)):=fun o=>M.out.step ((Below.refl _ C).alloc (Nat.le_refl _) o)
    go_wp2_with (first | (go_at_call 60;refine (turned (L.out _ _ _ (by assumption) (by assumption))).mono ?_;rintro e w5 ⟨rfl,rfl⟩) | (at_builtin;refine aH _ rfl (.tmp 58) (.tmp 60) rfl (w.heap.size+1) _ k (p m) rfl (f.out _) C.heap.size 0 rfl (by simp) (by omega) (by have:=(c.out (.cells #[.int .u64 0] 41)).lt;exact this) ?_;intro v6 w6 h g;have d:=aW (f.out _) g (by have:=(c.out (.cells #[.int .u64 0] 41)).lt;exact this);have l:=hideS ((c.out _).stay d);have j:=hideS h;clear h g d))
    go_roundw
    case rel=>exact⟨k,k+1,rfl,by omega,by simp,by show World.ownsRow _ _ _ _ _ _ _;rw [HN.out];exact j.out,l⟩
    case measure=>simp [intOf];omega
   | flat3 h1 h2 h3=>
    have f:Hid (∀ o,(C.alloc o).ownsRow (w.heap.size+1) 41 1 (.slice q0 k D) k ((p m).map uV)):=fun o=>ao G.out ((Below.refl _ C).alloc (Nat.le_refl _) o)
    have c:Hid (∀ o,TBox w kind (.slice J n cx) O (C.alloc o)):=fun o=>M.out.step ((Below.refl _ C).alloc (Nat.le_refl _) o)
    go_wp2_with (first | (go_at_call 60;refine (turned (L.out _ _ _ (by assumption) (by assumption))).mono ?_;rintro e w5 ⟨rfl,rfl⟩) | (at_builtin;refine aH _ rfl (.tmp 58) (.tmp 60) rfl (w.heap.size+1) _ k (p m) rfl (f.out _) C.heap.size 0 rfl (by simp) (by omega) (by have:=(c.out (.cells #[.int .u64 0] 41)).lt;exact this) ?_;intro v6 w6 h g;have d:=aW (f.out _) g (by have:=(c.out (.cells #[.int .u64 0] 41)).lt;exact this);have l:=hideS ((c.out _).stay d);have j:=hideS h;clear h g d))
    go_roundw
    case rel=>exact⟨k,k+1,rfl,by omega,by simp,by show World.ownsRow _ _ _ _ _ _ _;rw [HN.out];exact j.out,l⟩
    case measure=>simp [intOf];omega
   | up h1 h2=>
    go_wp2_with (first | (go_at_call 60;refine (turned (L.out _ _ _ (by assumption) (by assumption))).mono ?_;rintro e wl ⟨rfl,rfl⟩) | (go_at_call 144;(with_reducible refine (ai.out _).mono ?_);rintro e w5 ⟨rfl,t⟩;have l:=hideS (M.out.step t);have j:=hideS (ao G.out t);clear t) | (go_at_call 144;(with_reducible refine (bk.out _).mono ?_);rintro e w6 ⟨rfl,x⟩;have U:=hideS (l.out.step x);have Z:=hideS (ao j.out x);clear x) | (go_at_call 50;refine (ad.out _).mono ?_;rintro e w7 ⟨rfl,y⟩;have V:=hideS (U.out.step y);have W:=hideS (ao Z.out y);clear y) | (go_at_call 144;(with_reducible refine (br.out _).mono ?_);rintro e K ⟨rfl,A⟩;have S:=hideS (V.out.step A);have ab:=hideS (ao W.out A);have f:Hid (∀ o,(K.alloc o).ownsRow (w.heap.size+1) 41 1 (.slice q0 k D) k ((p m).map uV)):=(fun o=>ao ab.out ((Below.refl _ K).alloc (Nat.le_refl _) o));have c:Hid (∀ o,TBox w kind (.slice J n cx) O (K.alloc o)):=(fun o=>S.out.step ((Below.refl _ K).alloc (Nat.le_refl _) o));clear A) | (at_builtin;refine aH _ rfl (.tmp 58) (.tmp 60) rfl (w.heap.size+1) _ k (p m) rfl (f.out _) K.heap.size (sDiv 4611686018427387904 (sAdd (sDiv 4607182418800017408 a) (sDiv 4607182418800017408 b))) rfl (by simp) (by omega) (by have:=(c.out (.cells #[.int .u64 ((sDiv 4611686018427387904 (sAdd (sDiv 4607182418800017408 a) (sDiv 4607182418800017408 b))):Int)] 41)).lt;exact this) ?_;intro v6 bs h g;have d:=aW (f.out _) g (by have:=(c.out (.cells #[.int .u64 ((sDiv 4611686018427387904 (sAdd (sDiv 4607182418800017408 a) (sDiv 4607182418800017408 b))):Int)] 41)).lt;exact this);have F:=hideS ((c.out _).stay d);have I:=hideS h;clear h g d))
    go_roundw
    case rel=>exact⟨k,k+1,rfl,by omega,by simp,by show World.ownsRow _ _ _ _ _ _ _;rw [HN.out];exact I.out,F⟩
    case measure=>simp [intOf];omega
   | down1 h1 h3 h4=>
    go_wp2_with (first | (go_at_call 60;refine (turned (L.out _ _ _ (by assumption) (by assumption))).mono ?_;rintro e wl ⟨rfl,rfl⟩) | (go_at_call 144;(with_reducible refine (ai.out _).mono ?_);rintro e w5 ⟨rfl,t⟩;have l:=hideS (M.out.step t);have j:=hideS (ao G.out t);clear t) | (go_at_call 144;(with_reducible refine (bk.out _).mono ?_);rintro e w6 ⟨rfl,x⟩;have U:=hideS (l.out.step x);have Z:=hideS (ao j.out x);clear x) | (go_at_call 50;refine (ad.out _).mono ?_;rintro e w7 ⟨rfl,y⟩;have V:=hideS (U.out.step y);have W:=hideS (ao Z.out y);clear y) | (go_at_call 144;(with_reducible refine (br.out _).mono ?_);rintro e K ⟨rfl,A⟩;have S:=hideS (V.out.step A);have ab:=hideS (ao W.out A);have f:Hid (∀ o,(K.alloc o).ownsRow (w.heap.size+1) 41 1 (.slice q0 k D) k ((p m).map uV)):=(fun o=>ao ab.out ((Below.refl _ K).alloc (Nat.le_refl _) o));have c:Hid (∀ o,TBox w kind (.slice J n cx) O (K.alloc o)):=(fun o=>S.out.step ((Below.refl _ K).alloc (Nat.le_refl _) o));clear A) | (at_builtin;refine aH _ rfl (.tmp 58) (.tmp 60) rfl (w.heap.size+1) _ k (p m) rfl (f.out _) K.heap.size (sDiv 4611686018427387904 (sAdd (sDiv 4607182418800017408 a) (sDiv 4607182418800017408 b))) rfl (by simp) (by omega) (by have:=(c.out (.cells #[.int .u64 ((sDiv 4611686018427387904 (sAdd (sDiv 4607182418800017408 a) (sDiv 4607182418800017408 b))):Int)] 41)).lt;exact this) ?_;intro v6 bs h g;have d:=aW (f.out _) g (by have:=(c.out (.cells #[.int .u64 ((sDiv 4611686018427387904 (sAdd (sDiv 4607182418800017408 a) (sDiv 4607182418800017408 b))):Int)] 41)).lt;exact this);have F:=hideS ((c.out _).stay d);have I:=hideS h;clear h g d))
    go_roundw
    case rel=>exact⟨k,k+1,rfl,by omega,by simp,by show World.ownsRow _ _ _ _ _ _ _;rw [HN.out];exact I.out,F⟩
    case measure=>simp [intOf];omega
  ·have bi:k+1=n:=by omega
   have cm:¬ (k:Int)+1<(n:Int):=by omega
   have cq:(n:Int) - 2=(m:Int):=by omega
   have N:=hideS (H.out.steep m (by omega) _ s.out.bl)
   have HE:Hid (k+1=n/\n - 2=m):=⟨bi,by omega⟩
   clear bi T
   go_wp2_with fail
   refine N.out.mono ?_
   rintro e w3 ⟨rfl,B⟩;have E:=hideS (s.out.step B);have Q:=hideS (ao HO.out B);clear B s HO t0 t1 t2 N;have f:Hid (∀ o,(w3.alloc o).ownsRow (w.heap.size+1) 41 1 (.slice q0 k D) k ((p m).map uV)):=fun o=>ao Q.out ((Below.refl _ w3).alloc (Nat.le_refl _) o)
   have c:Hid (∀ o,TBox w kind (.slice J n cx) O (w3.alloc o)):=fun o=>E.out.step ((Below.refl _ w3).alloc (Nat.le_refl _) o)
   go_wp2_with (at_builtin;refine aH _ rfl (.tmp 62) (.tmp 67) rfl (w.heap.size+1) _ k (p m) rfl (f.out _) w3.heap.size (r m) rfl (by simp) (by omega) (by have:=(c.out (.cells #[.int .u64 (r m:Int)] 41)).lt;exact this) ?_;intro v6 w6 h g;have d:=aW (f.out _) g (by have:=(c.out (.cells #[.int .u64 (r m:Int)] 41)).lt;exact this);have l:=hideS ((c.out _).stay d);have j:=hideS h;clear h g d)
   go_ret2
   obtain⟨e1,e2⟩:=HE.out;refine⟨_,rfl,?_,l.out.bl⟩
   rw [e2];have:=jN j.out (Nat.le_succ w.heap.size);rw [e1] at this
   exact this
theorem pN (kind:Int) (a b:Option Addr) (c f cx j m cy n:Nat) (xs:List Int) (ys:List Nat) (w:World) (h:OkT kind xs ys) (hn:xs.length=n) (o:TSrc w a b c f j m xs ys) :
  Calls Tryz.prog 168 #[.agg #[.int .i64 kind,.slice a n cx,.slice b n cy]] w fun e p=>∃ v,e=.returned (.tuple #[v,.int .i64 0])/\p.ownsRow w.heap.size 41 1 v n ((bG xs ys n).map uV)/\Below w.heap.size w p:=by
 have d:=h.len;have H:SlH w kind (.slice a n cx) (.slice b n cy) n (steepB xs ys):=⟨fun g l=>by
  have:=dl kind 0 a b c f cx j m cy xs ys g (.ok h) (o.below l);rw [d,hn] at this
  exact this,fun k q g l=>Eg kind a b c f cx j m cy n k xs ys g h hn (o.below l) q⟩
 have r:=h.lo;have s:=h.hi;unfold bG
 by_cases i:n=1
 ·rw [if_pos i];subst i;exact AC kind a cx _ _ w H
 ·rw [if_neg i];exact xn kind a cx n _ (steepB xs ys) (eG xs ys) w H (by omega) (by omega) (mE xs ys) rfl (iv xs ys) (eS xs ys)
def heldN (v a b:Nat):Nat:=(dC (v:Nat) (a:Nat) (b:Nat)).toNat
theorem fC {v a b:Nat} (c:v<18446744073709551616) (d:a<18446744073709551616) (e:b<18446744073709551616):((heldN v a b:Nat):Int)=dC (v:Nat) (a:Nat) (b:Nat):=by
 have:=(xo (aU c) (aU d) (aU e)).1;unfold heldN;omega
theorem jg {v a b:Nat} (c:v<18446744073709551616) (d:a<18446744073709551616) (f:b<18446744073709551616):heldN v a b<18446744073709551616:=by
 have:=xo (aU c) (aU d) (aU f);have e:=fC c d f;have:=this.2;omega
theorem mF (v a b:Nat) (w:World) (c:v<18446744073709551616) (d:a<18446744073709551616) (f:b<18446744073709551616) :
  Calls Tryz.prog 149 #[.int .u64 (v:Int),.int .u64 (a:Int),.int .u64 (b:Int)] w fun e g=>e=.returned (.int .u64 (heldN v a b:Int))/\g=w:=by
 rw [fC c d f];exact If _ _ _ w (aU c) (aU d) (aU f)
def ptP (h d a b:Nat):Nat:=heldN (sAdd a (sDiv (sMul d h) (fi 3))) a b
def ptQ (h d b p:Nat):Nat:=heldN (sSub b (sDiv (sMul d h) (fi 3))) p b
theorem Ig:fi 3<18446744073709551616:=kn (by decide) (by decide)
theorem AD {h d a b:Nat} (c:a<18446744073709551616) (e:b<18446744073709551616):ptP h d a b<18446744073709551616:=jg (uO _ _) c e
theorem OE {h d b p:Nat} (c:b<18446744073709551616) (a:p<18446744073709551616):ptQ h d b p<18446744073709551616:=jg (uN _ _) a c
theorem Ei (w:World) (a b c d:Nat):(w.alloc (.cells #[.int .u64 (a:Int),.int .u64 (b:Int),.int .u64 (c:Int),.int .u64 (d:Int)] 41)).ownsRow w.heap.size 41 1 (.slice (some ⟨w.heap.size,0,none⟩) 4 4) 4 ([a,b,c,d].map uV):=
 ⟨rfl,.inr ⟨w.heap.size,4,#[.int .u64 (a:Int),.int .u64 (b:Int),.int .u64 (c:Int),.int .u64 (d:Int)],rfl,Nat.le_refl _,heap_alloc_new w _,Nat.le_refl _,by unfold maxLen;omega,rfl,rfl⟩⟩
def OF (w:World) (kind:Int) (c d:Value) (n:Nat) (f:List Nat):Prop:=∀ a,Below w.heap.size w a->Calls Tryz.prog 168 #[.agg #[.int .i64 kind,c,d]] a fun e b=>∃ v,e=.returned (.tuple #[v,.int .i64 0])/\b.ownsRow a.heap.size 41 1 v n (f.map uV)/\Below a.heap.size a b
structure PRd (w:World) (B:Nat) (vx vy:Value) (bx ox b2 oy bd k:Nat) (x0 x1:Int) (y0 y1 d0 d1:Nat):Prop where
 t1:w.cell? ⟨B,1,none⟩=some vx
 t2:w.cell? ⟨B,2,none⟩=some vy
 a0:w.cell? ⟨bx,ox+k,none⟩=some (.int .i64 x0)
 a1:w.cell? ⟨bx,ox+(k+1),none⟩=some (.int .i64 x1)
 b0:w.cell? ⟨b2,oy+k,none⟩=some (.int .u64 (y0:Int))
 b1:w.cell? ⟨b2,oy+(k+1),none⟩=some (.int .u64 (y1:Int))
 e0:w.cell? ⟨bd,k,none⟩=some (.int .u64 (d0:Int))
 e1:w.cell? ⟨bd,k+1,none⟩=some (.int .u64 (d1:Int))
 lB:B<w.heap.size
 lx:bx<w.heap.size
 ly:b2<w.heap.size
 ld:bd<w.heap.size
theorem PRd.step {w m:World} {B:Nat} {g i:Value} {b c d e bd k:Nat} {n j:Int} {y0 y1 l f:Nat} (h:PRd w B g i b c d e bd k n j y0 y1 l f) (a:Below w.heap.size w m):PRd m B g i b c d e bd k n j y0 y1 l f:=
 ⟨(a.cell (p:=⟨B,1,none⟩) h.lB).trans h.t1,(a.cell (p:=⟨B,2,none⟩) h.lB).trans h.t2,(a.cell (p:=⟨b,c+k,none⟩) h.lx).trans h.a0,(a.cell (p:=⟨b,c+(k+1),none⟩) h.lx).trans h.a1,(a.cell (p:=⟨d,e+k,none⟩) h.ly).trans h.b0,(a.cell (p:=⟨d,e+(k+1),none⟩) h.ly).trans h.b1,(a.cell (p:=⟨bd,k,none⟩) h.ld).trans h.e0,(a.cell (p:=⟨bd,k+1,none⟩) h.ld).trans h.e1,Nat.lt_of_lt_of_le h.lB a.size,Nat.lt_of_lt_of_le h.lx a.size,Nat.lt_of_lt_of_le h.ly a.size,Nat.lt_of_lt_of_le h.ld a.size⟩
theorem PRd.drew {w:World} {B:Nat} {c e:Value} {b f l i bd k:Nat} {a g:Int} {y0 y1 j d:Nat} (h:PRd w B c e b f l i bd k a g y0 y1 j d):PRd w.drew B c e b f l i bd k a g y0 y1 j d:=⟨h.t1,h.t2,h.a0,h.a1,h.b0,h.b1,h.e0,h.e1,h.lB,h.lx,h.ly,h.ld⟩
theorem PRd.three {w:World} {B:Nat} {d g:Value} {a b l i bd k:Nat} {c e:Int} {y0 y1 j f:Nat} (h:PRd w B d g a b l i bd k c e y0 y1 j f):w.cell? ⟨B,1,none⟩=some d/\w.cell? ⟨a,b+k,none⟩=some (.int .i64 c)/\w.cell? ⟨a,b+(k+1),none⟩=some (.int .i64 e):=⟨h.t1,h.a0,h.a1⟩
theorem AE (kind:Int) (m o cx B A cy n k:Nat) (g f:Int) (y0 y1 a c:Nat) (C:List Nat) (w:World) (hd:C.length=n) (J:C.getD k 0=a) (D:C.getD (k+1) 0=c)
  (hR:∀ l,Below w.heap.size w l->∀ bd,bd<l.heap.size->w.heap.size<l.heap.size->TBox w kind (.slice (some ⟨m,o,none⟩) n cx) (.slice (some ⟨B,A,none⟩) n cy) l->l.cell? ⟨bd,k,none⟩=some (.int .u64 (a:Int))->l.cell? ⟨bd,k+1,none⟩=some (.int .u64 (c:Int))->PRd l w.heap.size (.slice (some ⟨m,o,none⟩) n cx) (.slice (some ⟨B,A,none⟩) n cy) m o B A bd k g f y0 y1 a c)
  (hk:k+1<n) (hn:n<=256) (h0:0<=g) (h1:g<=109572) (h2:0<=f) (h3:f<=109572) (p:y0<18446744073709551616) (i:y1<18446744073709551616) (M:a<18446744073709551616) (L:c<18446744073709551616)
  (H:Hid (OF w kind (.slice (some ⟨m,o,none⟩) n cx) (.slice (some ⟨B,A,none⟩) n cy) n C)) :
  Calls Tryz.prog 147 #[.agg #[.int .i64 kind,.slice (some ⟨m,o,none⟩) n cx,.slice (some ⟨B,A,none⟩) n cy],.int .i64 (k:Int)] w fun e l=>∃ v,e=.returned (.tuple #[v,.int .i64 0])/\l.ownsRow w.heap.size 41 1 v 4 ([y0,ptP (fi (f - g)) a y0 y1,ptQ (fi (f - g)) c y1 (ptP (fi (f - g)) a y0 y1),y1].map uV)/\Below w.heap.size w l:=by
 have U:=hideS (bQ w kind (.slice (some ⟨m,o,none⟩) n cx) (.slice (some ⟨B,A,none⟩) n cy));unfold OF at H
 have HR:=hideS hR;have G:k+1<C.length:=by omega
 have z:=hideS (And.intro hd (And.intro J D));have f1:IntKind.i64.wrap ((k:Int)+1)=(k:Int)+1:=by rw [IntKind.wrap_i64];omega
 have f2:IntKind.i64.wrap (f - g)=f - g:=by rw [IntKind.wrap_i64];omega
 have g1:(0:Int)<=(k:Int)+1:=by omega
 have g2:(k:Int)+1<(n:Int):=by omega
 have g3:(0:Int)<=(k:Int):=by omega
 have g4:(k:Int)<(n:Int):=by omega
 have g5:decide ((k:Int)<0)=false:=decide_eq_false (by omega)
 have g6:decide ((n:Int) - 1<=(k:Int))=false:=decide_eq_false (by omega)
 have bb:k<n:=by omega
 have HI:=hideS fun b=>cV (f - g) b (by omega) (by omega)
 have W:=hideS fun b=>cV 3 b (by decide) (by decide)
 have hF:=kn (n:=f - g) (by omega) (by omega)
 generalize fi (f - g)=F at *
 have ab:=hideS fun b=>xk a F b M hF
 have Y:=hideS fun b=>xk c F b L hF
 have T:=hideS fun b=>gE (sMul a F) (fi 3) b (CN _ _) Ig
 have al:=hideS fun b=>gE (sMul c F) (fi 3) b (CN _ _) Ig
 have ak:=hideS fun b=>xl y0 (sDiv (sMul a F) (fi 3)) b p (jM _ _)
 have Z:=hideS fun b=>xj y1 (sDiv (sMul c F) (fi 3)) b i (jM _ _)
 have S:=hideS fun b=>mF (sAdd y0 (sDiv (sMul a F) (fi 3))) y0 y1 b (uO _ _) p i
 have hP:=AD (h:=F) (d:=a) p i;have O:=hideS fun b=>mF (sSub y1 (sDiv (sMul c F) (fi 3))) (ptP F a y0 y1) y1 b (uN _ _) hP i
 have eP:heldN (sAdd y0 (sDiv (sMul a F) (fi 3))) y0 y1=ptP F a y0 y1:=rfl;have eQ:heldN (sSub y1 (sDiv (sMul c F) (fi 3))) (ptP F a y0 y1) y1=ptQ F c y1 (ptP F a y0 y1):=rfl;rw [eP] at S
 rw [eQ] at O
 clear eP eQ;generalize ptQ F c y1 (ptP F a y0 y1)=Q at *
 generalize ptP F a y0 y1=P at *
 generalize sAdd y0 (sDiv (sMul a F) (fi 3))=A0 at *
 generalize sSub y1 (sDiv (sMul c F) (fi 3))=S1 at *
 generalize sDiv (sMul a F) (fi 3)=V0 at *
 generalize sDiv (sMul c F) (fi 3)=V1 at *
 generalize sMul a F=M0 at *
 generalize sMul c F=M1 at *
 generalize fi 3=T3 at *
 clear hR hd J D p i M L hF hP h0 h1 h2 h3
 go_enter Tryz.func147,Tryz.ntmps147
 go_wp2_with fail
 refine (H.out _ U.out.bl).mono ?_
 rintro e X ⟨v,rfl,ho,I⟩;obtain⟨pd,bd,cd,rfl,N,ai,ba,am⟩:=bq ho z.out.1;obtain rfl:=N.at_ (by omega)
 have j:=hideS (U.out.step I);have z0:X.cell? ⟨bd,k,none⟩=some (.int .u64 (a:Int)):=by have:=N.cell k (by omega);rw [Nat.zero_add,z.out.2.1] at this;exact this
 have z1:X.cell? ⟨bd,k+1,none⟩=some (.int .u64 (c:Int)):=by have:=N.cell (k+1) G;rw [Nat.zero_add,z.out.2.2] at this;exact this
 have V:=hideS (HR.out X j.out.bl bd (N.lt (by omega)) j.out.lt j.out z0 z1)
 have B0:=hideS j.out.bl;clear I ho N ai ba am z0 z1 j U HR H;obtain⟨t1,t2,a0,a1,b0,b1,e0,e1,_,_,_,_⟩:=V.out
 go_wp2_with fail
 go_region_held3 (fun x=>x.cell? ⟨w.heap.size,1,none⟩=some (.slice (some ⟨m,o,none⟩) n cx)/\x.cell? ⟨m,o+k,none⟩=some (.int .i64 g)/\x.cell? ⟨m,o+(k+1),none⟩=some (.int .i64 f)) (first | exact V.out.three | exact K1.out.three | go_keep) ((go_at_call 101;refine (HI.out _).mono ?_;rintro e w2 ⟨rfl,t⟩;have B1:=hideS (B0.out.drew.trans (t.mono B0.out.size));have K1:=hideS (V.out.drew.step t);clear t))
 all_goals
  clear t1 t2 a0 a1 b0 b1 e0 e1;obtain⟨t1,t2,a0,a1,b0,b1,e0,e1,_,_,_,_⟩:=K1.out
  go_wp2_with (go_at_call 101;refine (W.out _).mono ?_;rintro e w3 ⟨rfl,u⟩;have B2:=hideS (B1.out.trans (u.mono B1.out.size));have K2:=hideS (K1.out.step u);have ad:=K2.out.e0;have y:=K2.out.e1;clear u)
  refine (ab.out _).mono ?_
  rintro e w4 ⟨rfl,s⟩;have B3:=hideS (B2.out.trans (s.mono B2.out.size));have K3:=hideS (K2.out.step s);clear s ad y
  go_wp2_with fail
  refine (T.out _).mono ?_
  rintro e w5 ⟨rfl,q⟩;have B4:=hideS (B3.out.trans (q.mono B3.out.size));have K4:=hideS (K3.out.step q);clear q
  go_wp2_with fail
  refine (ak.out _).mono ?_
  rintro e w6 ⟨rfl,r⟩;have B5:=hideS (B4.out.trans (r.mono B4.out.size));have K5:=hideS (K4.out.step r);clear r;have y:=K5.out.e1
  go_wp2_with (go_at_call 149;refine (turned (S.out _)).mono ?_;rintro e wh ⟨rfl,rfl⟩)
  refine (Y.out _).mono ?_
  rintro e w7 ⟨rfl,E⟩;have B6:=hideS (B5.out.trans (E.mono B5.out.size));clear E y
  go_wp2_with fail
  refine (al.out _).mono ?_
  rintro e w8 ⟨rfl,K⟩;have B7:=hideS (B6.out.trans (K.mono B6.out.size));clear K
  go_wp2_with fail
  refine (Z.out _).mono ?_
  rintro e w9 ⟨rfl,R⟩;have B8:=hideS (B7.out.trans (R.mono B7.out.size));clear R;have HO:=hideS (Ei w9 y0 P Q y1)
  go_wp2_with (go_at_call 149;refine (turned (O.out _)).mono ?_;rintro e wh ⟨rfl,rfl⟩)
  go_ret2
  exact⟨_,rfl,jN HO.out B8.out.size,B8.out.alloc B8.out.size _⟩
def ptL (xs:List Int) (ys:List Nat) (k:Nat):List Nat:=
 [ys.getD k 0,ptP (fi (xs.getD (k+1) 0 - xs.getD k 0)) ((bG xs ys xs.length).getD k 0) (ys.getD k 0) (ys.getD (k+1) 0),ptQ (fi (xs.getD (k+1) 0 - xs.getD k 0)) ((bG xs ys xs.length).getD (k+1) 0) (ys.getD (k+1) 0) (ptP (fi (xs.getD (k+1) 0 - xs.getD k 0)) ((bG xs ys xs.length).getD k 0) (ys.getD k 0) (ys.getD (k+1) 0)),ys.getD (k+1) 0]
theorem xp (xs:List Int) (ys:List Nat):∀ k,∀ d ∈ eG xs ys k,d<18446744073709551616
 | 0,d,h=>by
  have:d=steepB xs ys 0:=by simpa [eG] using h
  rw [this];exact mE _ _ _
 | k+1,d,h=>by
  rw [iv,List.mem_append] at h
  rcases h with h | h
  ·exact xp xs ys k d h
  ·have:d=slB (steepB xs ys k) (steepB xs ys (k+1)):=by simpa using h
   rw [this];exact OD _ _
theorem Ej {xs:List Int} {ys:List Nat} {n:Nat} (hn:1<=n):(bG xs ys n).length=n:=by
 unfold bG
 split
 ·rename_i h;rw [h];rfl
 ·rw [List.length_append,eS];simp;omega
theorem xq {xs:List Int} {ys:List Nat} {n:Nat} (i:Nat):(bG xs ys n).getD i 0<18446744073709551616:=by
 by_cases hi:i<(bG xs ys n).length
 ·have e:(bG xs ys n).getD i 0=(bG xs ys n)[i]:=by simp [List.getD,List.getElem?_eq_getElem hi]
  rw [e];have a:=List.getElem_mem hi;generalize (bG xs ys n)[i]=d at *
  unfold bG at a
  split at a
  ·have:d=0:=by simpa using a
   rw [this];decide
  ·rw [List.mem_append] at a
   rcases a with h | h
   ·exact xp xs ys _ d h
   ·have:d=steepB xs ys (n - 2):=by simpa using h
    rw [this];exact mE _ _ _
 ·have e:(bG xs ys n).getD i 0=0:=by simp [List.getD,List.getElem?_eq_none (show (bG xs ys n).length<=i by omega)]
  rw [e];decide
theorem pO (kind:Int) (d c:Option Addr) (g i cx m q cy n k:Nat) (xs:List Int) (ys:List Nat) (w:World) (h:OkT kind xs ys) (hn:xs.length=n) (b:TSrc w d c g i m q xs ys) (z:k+1<n) :
  Calls Tryz.prog 147 #[.agg #[.int .i64 kind,.slice d n cx,.slice c n cy],.int .i64 (k:Int)] w fun e p=>∃ v,e=.returned (.tuple #[v,.int .i64 0])/\p.ownsRow w.heap.size 41 1 v 4 ((ptL xs ys k).map uV)/\Below w.heap.size w p:=by
 have u:=h.len;have D:=h.lo;have G:=h.hi;have H:OF w kind (.slice d n cx) (.slice c n cy) n (bG xs ys n):=fun A o=>pN kind d c g i cx m q cy n xs ys A h hn (b.below o)
 obtain rfl:=b.x.at_ (by omega)
 obtain rfl:=b.y.at_ (by omega)
 have s:=aq (h.node k (by omega))
 have r:=aq (h.node (k+1) (by omega))
 have F:=b.f k (by omega)
 have C:=b.f (k+1) (by omega)
 unfold ptL;rw [hn];exact AE kind g i cx m q cy n k (xs.getD k 0) (xs.getD (k+1) 0) (ys.getD k 0) (ys.getD (k+1) 0) _ _ (bG xs ys n) w (Ej (by omega)) rfl rfl
  (fun p o bd l j t E B=>by
   have a:=b.below o;exact⟨t.t1,t.t2,a.x.cell k (by omega),a.x.cell (k+1) (by omega),a.y.cell k (by omega),a.y.cell (k+1) (by omega),E,B,j,a.x.lt (by omega),a.y.lt (by omega),l⟩)
  z (by omega) s.1 s.2.1 r.1 r.2.1 (by have:=F.2;omega) (by have:=C.2;omega) (xq _) (xq _) H
end Go.Proofs.YtfdddijdjpijbaaGreat
