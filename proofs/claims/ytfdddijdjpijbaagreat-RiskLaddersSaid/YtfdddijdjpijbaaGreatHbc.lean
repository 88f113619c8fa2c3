/-  -/
import Derived.Test.YtfdddijdjpijbaaGreatHaz
import Derived.Test.YtfdddijdjpijbaaGreatHau
import Derived.Test.YtfdddijdjpijbaaGreatHar
set_option maxHeartbeats 12800000
namespace Go.Proofs.YtfdddijdjpijbaaGreat
open Go.RowKit
def slB (a b:Nat):Nat:=if (ltB 0 (a:Nat)&&ltB 0 (b:Nat))||(ltB (a:Nat) 0&&ltB (b:Nat) 0) then sDiv 4611686018427387904 (sAdd (sDiv 4607182418800017408 a) (sDiv 4607182418800017408 b)) else 0
def eG (xs:List Int) (ys:List Nat):Nat->List Nat
 | 0=>[steepB xs ys 0]
 | k+1=>eG xs ys k++[slB (steepB xs ys k) (steepB xs ys (k+1))]
def bG (xs:List Int) (ys:List Nat) (n:Nat):List Nat:=if n=1 then [0] else eG xs ys (n - 2)++[steepB xs ys (n - 2)]
theorem eS (xs:List Int) (ys:List Nat):∀ k,(eG xs ys k).length=k+1
 | 0=>rfl
 | k+1=>by show (eG xs ys k++[_]).length=_;rw [List.length_append,eS xs ys k];rfl
theorem mE (xs:List Int) (ys:List Nat) (k:Nat):steepB xs ys k<18446744073709551616:=jM _ _
theorem OD (a b:Nat):slB a b<18446744073709551616:=by
 unfold slB
 split
 ·exact jM _ _
 ·decide
theorem Eg (kind:Int) (p o:Option Addr) (g i cx j d cy n k:Nat) (xs:List Int) (ys:List Nat) (w:World) (h:OkT kind xs ys) (hn:xs.length=n) (c:TSrc w p o g i j d xs ys) (v:k+1<n) :
  Calls Tryz.prog 186 #[.agg #[.int .i64 kind,.slice p n cx,.slice o n cy],.int .i64 (k:Int)] w fun e t=>e=.returned (.int .u64 (steepB xs ys k:Int))/\Below w.heap.size w t:=by
 obtain rfl:=c.x.at_ (by omega)
 have u:=h.len;obtain rfl:=c.y.at_ (by omega)
 have b:Below w.heap.size w (w.alloc (.cells #[.int .i64 kind,.slice (some ⟨g,i,none⟩) n cx,.slice (some ⟨j,d,none⟩) n cy] 156)):=(Below.refl _ _).alloc (Nat.le_refl _) _;have l:=bQ w kind (.slice (some ⟨g,i,none⟩) n cx) (.slice (some ⟨j,d,none⟩) n cy);have a:=c.below b;have m:=aq (h.node k (by omega))
 have q:=aq (h.node (k+1) (by omega))
 have r:=c.f k (by omega)
 have s:=c.f (k+1) (by omega)
 have hi:=h.hi;exact Ef kind g i cx j d cy n k (xs.getD k 0) (xs.getD (k+1) 0) (ys.getD k 0) (ys.getD (k+1) 0) w _ rfl ⟨l.t1,l.t2,a.x.cell k (by omega),a.x.cell (k+1) (by omega),a.y.cell k (by omega),a.y.cell (k+1) (by omega)⟩ (by omega) (by omega) (a.x.lt (by omega)) (a.y.lt (by omega)) b l.lt m.1 m.2.1 q.1 q.2.1 (by have:=r.2;omega) (by have:=s.2;omega)
theorem iv (xs:List Int) (ys:List Nat) (k:Nat):eG xs ys (k+1)=eG xs ys k++[slB (steepB xs ys k) (steepB xs ys (k+1))]:=rfl
theorem jN {w:World} {base a n:Nat} {v:Value} {xs:List Value} (h:w.ownsRow base 41 1 v n xs) (d:a<=base):w.ownsRow a 41 1 v n xs:=by
 refine⟨h.1,?_⟩
 rcases h.2 with f | ⟨g,c,b,e,i,rest⟩
 ·exact .inl f
 ·exact .inr ⟨g,c,b,e,Nat.le_trans d i,rest⟩
theorem TBox.stay {w wr c:World} {kind:Int} {d b:Value} (h:TBox w kind d b wr) (a:Below (w.heap.size+1) wr c):TBox w kind d b c:=
 ⟨(a.cell (p:=⟨w.heap.size,0,none⟩) (Nat.lt_succ_self _)).trans h.t0,(a.cell (p:=⟨w.heap.size,1,none⟩) (Nat.lt_succ_self _)).trans h.t1,(a.cell (p:=⟨w.heap.size,2,none⟩) (Nat.lt_succ_self _)).trans h.t2,h.bl.trans (a.mono (Nat.le_succ _)),Nat.lt_of_lt_of_le h.lt a.size⟩
structure SlH (w:World) (kind:Int) (v1 v2:Value) (n:Nat) (st:Nat->Nat):Prop where
 chk:∀ wx,Below w.heap.size w wx->Calls Tryz.prog 167 #[.agg #[.int .i64 kind,v1,v2]] wx fun e w'=>e=.returned (.int .i64 0)/\Below wx.heap.size wx w'
 steep:∀ k,k+1<n->∀ wx,Below w.heap.size w wx->Calls Tryz.prog 186 #[.agg #[.int .i64 kind,v1,v2],.int .i64 (k:Int)] wx fun e w'=>e=.returned (.int .u64 (st k:Int))/\Below wx.heap.size wx w'
theorem AC (kind:Int) (d:Option Addr) (cx:Nat) (c:Value) (h:Nat->Nat) (w:World) (H:Hid (SlH w kind (.slice d 1 cx) c 1 h)) :
  Calls Tryz.prog 168 #[.agg #[.int .i64 kind,.slice d 1 cx,c]] w fun e f=>∃ v,e=.returned (.tuple #[v,.int .i64 0])/\f.ownsRow w.heap.size 41 1 v 1 ([0].map uV)/\Below w.heap.size w f:=by
 have g:=hideS (bQ w kind (.slice d 1 cx) c)
 go_enter Tryz.func168,Tryz.ntmps168
 go_wp2_with fail
 refine (H.out.chk _ g.out.bl).mono ?_
 rintro e i ⟨rfl,b⟩;have a:=hideS (g.out.step b);clear b;obtain⟨l,k,m,_,_⟩:=a.out;have j:=hideS (xm i 0)
 go_wp2_with fail
 go_ret2
 exact⟨_,rfl,jN j.out a.out.bl.size,a.out.bl.alloc a.out.bl.size _⟩
inductive SlO (a b:Nat):Nat->Prop
 | up (h1:ltB 0 (a:Nat)=true) (h2:ltB 0 (b:Nat)=true):SlO a b (sDiv 4611686018427387904 (sAdd (sDiv 4607182418800017408 a) (sDiv 4607182418800017408 b)))
 | down1 (h1:ltB 0 (a:Nat)=false) (h3:ltB (a:Nat) 0=true) (h4:ltB (b:Nat) 0=true):SlO a b (sDiv 4611686018427387904 (sAdd (sDiv 4607182418800017408 a) (sDiv 4607182418800017408 b)))
 | flat1 (h1:ltB 0 (a:Nat)=false) (h3:ltB (a:Nat) 0=true) (h4:ltB (b:Nat) 0=false):SlO a b 0
 | flat2 (h1:ltB 0 (a:Nat)=false) (h3:ltB (a:Nat) 0=false):SlO a b 0
 | flat3 (h1:ltB 0 (a:Nat)=true) (h2:ltB 0 (b:Nat)=false) (h3:ltB (a:Nat) 0=false):SlO a b 0
theorem Id {u v:Int} (h:ltB u v=true):ltB v u=false:=by
 unfold ltB at h ⊢
 simp only [Bool.and_eq_true,Bool.not_eq_true',decide_eq_true_eq] at h
 rw [h.1.1,h.1.2];simp;omega
theorem Ie (a b:Nat):SlO a b (slB a b):=by
 unfold slB;cases c:ltB 0 (a:Nat)
 ·cases d:ltB (a:Nat) 0
  ·simp;exact .flat2 c d
  ·cases e:ltB (b:Nat) 0
   ·simp;exact .flat1 c d e
   ·simp;exact .down1 c d e
 ·have d:=Id c;cases f:ltB 0 (b:Nat)
  ·rw [d];simp;exact .flat3 c f d
  ·simp;exact .up c f
theorem xn (kind:Int) (O:Option Addr) (cx n:Nat) (M:Value) (r:Nat->Nat) (p:Nat->List Nat) (w:World) (H:Hid (SlH w kind (.slice O n cx) M n r)) (hn:2<=n) (cl:n<=256) (as:∀ k,r k<18446744073709551616) (al:p 0=[r 0]) (ak:∀ k,p (k+1)=p k++[slB (r k) (r (k+1))]) (bi:∀ k,(p k).length=k+1) :
  Calls Tryz.prog 168 #[.agg #[.int .i64 kind,.slice O n cx,M]] w fun e P=>∃ v,e=.returned (.tuple #[v,.int .i64 0])/\P.ownsRow w.heap.size 41 1 v n ((p (n - 2)++[r (n - 2)]).map uV)/\Below w.heap.size w P:=by
 have HB:=hideS (bQ w kind (.slice O n cx) M);have HT:=hideS as;have HL:=hideS ak;have bo:=hideS bi;have ci:((n:Int)==1)=false:=beq_false_of_ne (by omega)
 have L:=hideS fun (u v:Int) (q:World) (hu:U64 u) (hv:U64 v)=>go u v q hu hv
 clear as ak bi
 go_enter Tryz.func168,Tryz.ntmps168
 go_wp2_with fail
 refine (H.out.chk _ HB.out.bl).mono ?_
 rintro e w1 ⟨rfl,am⟩;have R:=hideS (HB.out.step am);clear am HB;obtain⟨t0,t1,t2,_,_⟩:=R.out;have ac:Hid (Calls Tryz.prog 186 #[.agg #[.int .i64 kind,.slice O n cx,M],.int .i64 0] w1 fun e P=>e=.returned (.int .u64 (r 0:Int))/\Below w1.heap.size w1 P):=H.out.steep 0 (by omega) _ R.out.bl
 go_wp2_with fail
 refine ac.out.mono ?_
 rintro e w2 ⟨rfl,ba⟩;have ab:=hideS (R.out.step ba);clear ba R ac t0 t1 t2;have bz:Hid ((w2.alloc (.cells #[.int .u64 (r 0:Int)] 41)).ownsRow (w.heap.size+1) 41 1 (.slice (some ⟨w2.heap.size,0,none⟩) 1 1) 1 ((p 0).map uV)):=by
  show World.ownsRow _ _ _ _ _ _ _
  rw [al];exact jN (xm w2 (r 0)) ab.out.lt
 have bx:=hideS (ab.out.step ((Below.refl _ w2).alloc (Nat.le_refl _) (.cells #[.int .u64 (r 0:Int)] 41)));clear al ab
 go_wp2_with fail
 go_loopw [6,7,8,9,10] (fun v i _ _ _ wr=>∃ m k:Nat,m+1=k/\k+1<=n/\i=.int .i64 k/\Hid (wr.ownsRow (w.heap.size+1) 41 1 v k ((p m).map uV))/\Hid (TBox w kind (.slice O n cx) M wr)) (fun _ i _ _ _ _=>n - (intOf i).toNat)
 case atStart=>exact⟨0,1,rfl,by omega,rfl,bz,bx⟩
 case round=>
  obtain⟨m,k,S,hk,rfl,HO,x⟩:=hrel;obtain⟨q0,g0,D,rfl,_,_,_,_⟩:=bq HO.out (by rw [bo.out];omega)
  have cf:(k:Int) - 1=(m:Int):=by omega
  obtain⟨t0,t1,t2,_,_⟩:=x.out
  by_cases ca:k+1<n
  ·have cc:(k:Int)+1<(n:Int):=by omega
   have I:=hideS (H.out.steep m (by omega) _ x.out.bl)
   have bv:=hideS S;clear S
   go_wp2_with fail
   refine I.out.mono ?_
   rintro e w3 ⟨rfl,C⟩;have E:=hideS (x.out.step C);have Q:=hideS (ao HO.out C);clear C x HO t0 t1 t2 I;obtain⟨t0,t1,t2,_,_⟩:=E.out;have bb:=hideS (H.out.steep k ca _ E.out.bl)
   go_wp2_with fail
   refine bb.out.mono ?_
   rintro e t ⟨rfl,X⟩;have N:=hideS (E.out.step X);have F:=hideS (ao Q.out X);clear X E Q t0 t1 t2 bb;have HN:Hid (p k=p m++[slB (r m) (r k)]):=by show _=_;rw [<- bv.out];exact HL.out m
   have ha:=HT.out m;have hb:=HT.out k;generalize r m=a at *
   generalize r k=b at *
   have u0:U64 (0:Int):=by unfold U64;decide
   have ua:U64 ((a:Nat):Int):=aU ha;have ub:U64 ((b:Nat):Int):=aU hb;have bc:Hid (∀ q,Calls Tryz.prog 144 #[.int .u64 4607182418800017408,.int .u64 (a:Int)] q fun e P=>e=.returned (.int .u64 (sDiv 4607182418800017408 a:Int))/\Below q.heap.size q P):=fun q=>gE 4607182418800017408 a q (by decide) ha
   have ad:Hid (∀ q,Calls Tryz.prog 144 #[.int .u64 4607182418800017408,.int .u64 (b:Int)] q fun e P=>e=.returned (.int .u64 (sDiv 4607182418800017408 b:Int))/\Below q.heap.size q P):=fun q=>gE 4607182418800017408 b q (by decide) hb
   have bh:=hideS fun q=>xl (sDiv 4607182418800017408 a) (sDiv 4607182418800017408 b) q (jM _ _) (jM _ _)
   have bk:Hid (∀ q,Calls Tryz.prog 144 #[.int .u64 4611686018427387904,.int .u64 (sAdd (sDiv 4607182418800017408 a) (sDiv 4607182418800017408 b):Int)] q fun e P=>e=.returned (.int .u64 (sDiv 4611686018427387904 (sAdd (sDiv 4607182418800017408 a) (sDiv 4607182418800017408 b)):Int))/\Below q.heap.size q P):=fun q=>gE 4611686018427387904 _ q (by decide) (uO _ _)
   have br:=Ie a b;generalize slB a b=z at *
   clear ha hb;cases br with
   | flat2 h1 h3=>
    have h:Hid (∀ o,(t.alloc o).ownsRow (w.heap.size+1) 41 1 (.slice q0 k D) k ((p m).map uV)):=fun o=>ao F.out ((Below.refl _ t).alloc (Nat.le_refl _) o)
    have c:Hid (∀ o,TBox w kind (.slice O n cx) M (t.alloc o)):=fun o=>N.out.step ((Below.refl _ t).alloc (Nat.le_refl _) o)
    go_wp2_with (first | (go_at_call 60;refine (turned (L.out _ _ _ (by assumption) (by assumption))).mono ?_;rintro e w5 ⟨rfl,rfl⟩) | (at_builtin;refine aH _ rfl (.tmp 58) (.tmp 60) rfl (w.heap.size+1) _ k (p m) rfl (h.out _) t.heap.size 0 rfl (by simp) (by omega) (by have:=(c.out (.cells #[.int .u64 0] 41)).lt;exact this) ?_;intro v6 w6 g d;have f:=aW (h.out _) d (by have:=(c.out (.cells #[.int .u64 0] 41)).lt;exact this);have l:=hideS ((c.out _).stay f);have j:=hideS g;clear g d f))
    go_roundw
    case rel=>exact⟨k,k+1,rfl,by omega,by simp,by show World.ownsRow _ _ _ _ _ _ _;rw [HN.out];exact j.out,l⟩
    case measure=>simp [intOf];omega
   | flat1 h1 h3 h4=>
    have h:Hid (∀ o,(t.alloc o).ownsRow (w.heap.size+1) 41 1 (.slice q0 k D) k ((p m).map uV)):=fun o=>ao F.out ((Below.refl _ t).alloc (Nat.le_refl _) o)
    have c:Hid (∀ o,TBox w kind (.slice O n cx) M (t.alloc o)):=fun o=>N.out.step ((Below.refl _ t).alloc (Nat.le_refl _) o)
    go_wp2_with (first | (go_at_call 60;refine (turned (L.out _ _ _ (by assumption) (by assumption))).mono ?_;rintro e w5 ⟨rfl,rfl⟩) | (at_builtin;refine aH _ rfl (.tmp 58) (.tmp 60) rfl (w.heap.size+1) _ k (p m) rfl (h.out _) t.heap.size 0 rfl (by simp) (by omega) (by have:=(c.out (.cells #[.int .u64 0] 41)).lt;exact this) ?_;intro v6 w6 g d;have f:=aW (h.out _) d (by have:=(c.out (.cells #[.int .u64 0] 41)).lt;exact this);have l:=hideS ((c.out _).stay f);have j:=hideS g;clear g d f))
    go_roundw
    case rel=>exact⟨k,k+1,rfl,by omega,by simp,by show World.ownsRow _ _ _ _ _ _ _;rw [HN.out];exact j.out,l⟩
    case measure=>simp [intOf];omega
   | flat3 h1 h2 h3=>
    have h:Hid (∀ o,(t.alloc o).ownsRow (w.heap.size+1) 41 1 (.slice q0 k D) k ((p m).map uV)):=fun o=>ao F.out ((Below.refl _ t).alloc (Nat.le_refl _) o)
    have c:Hid (∀ o,TBox w kind (.slice O n cx) M (t.alloc o)):=fun o=>N.out.step ((Below.refl _ t).alloc (Nat.le_refl _) o)
    go_wp2_with (first | (go_at_call 60;refine (turned (L.out _ _ _ (by assumption) (by assumption))).mono ?_;rintro e w5 ⟨rfl,rfl⟩) | (at_builtin;refine aH _ rfl (.tmp 58) (.tmp 60) rfl (w.heap.size+1) _ k (p m) rfl (h.out _) t.heap.size 0 rfl (by simp) (by omega) (by have:=(c.out (.cells #[.int .u64 0] 41)).lt;exact this) ?_;intro v6 w6 g d;have f:=aW (h.out _) d (by have:=(c.out (.cells #[.int .u64 0] 41)).lt;exact this);have l:=hideS ((c.out _).stay f);have j:=hideS g;clear g d f))
    go_roundw
    case rel=>exact⟨k,k+1,rfl,by omega,by simp,by show World.ownsRow _ _ _ _ _ _ _;rw [HN.out];exact j.out,l⟩
    case measure=>simp [intOf];omega
   | up h1 h2=>
    go_wp2_with (first | (go_at_call 60;refine (turned (L.out _ _ _ (by assumption) (by assumption))).mono ?_;rintro e wl ⟨rfl,rfl⟩) | (go_at_call 144;(with_reducible refine (bc.out _).mono ?_);rintro e w5 ⟨rfl,A⟩;have l:=hideS (N.out.step A);have j:=hideS (ao F.out A);clear A) | (go_at_call 144;(with_reducible refine (ad.out _).mono ?_);rintro e w6 ⟨rfl,s⟩;have T:=hideS (l.out.step s);have U:=hideS (ao j.out s);clear s) | (go_at_call 50;refine (bh.out _).mono ?_;rintro e w7 ⟨rfl,y⟩;have Z:=hideS (T.out.step y);have V:=hideS (ao U.out y);clear y) | (go_at_call 144;(with_reducible refine (bk.out _).mono ?_);rintro e G ⟨rfl,B⟩;have Y:=hideS (Z.out.step B);have W:=hideS (ao V.out B);have h:Hid (∀ o,(G.alloc o).ownsRow (w.heap.size+1) 41 1 (.slice q0 k D) k ((p m).map uV)):=(fun o=>ao W.out ((Below.refl _ G).alloc (Nat.le_refl _) o));have c:Hid (∀ o,TBox w kind (.slice O n cx) M (G.alloc o)):=(fun o=>Y.out.step ((Below.refl _ G).alloc (Nat.le_refl _) o));clear B) | (at_builtin;refine aH _ rfl (.tmp 58) (.tmp 60) rfl (w.heap.size+1) _ k (p m) rfl (h.out _) G.heap.size (sDiv 4611686018427387904 (sAdd (sDiv 4607182418800017408 a) (sDiv 4607182418800017408 b))) rfl (by simp) (by omega) (by have:=(c.out (.cells #[.int .u64 ((sDiv 4611686018427387904 (sAdd (sDiv 4607182418800017408 a) (sDiv 4607182418800017408 b))):Int)] 41)).lt;exact this) ?_;intro v6 bs g d;have f:=aW (h.out _) d (by have:=(c.out (.cells #[.int .u64 ((sDiv 4611686018427387904 (sAdd (sDiv 4607182418800017408 a) (sDiv 4607182418800017408 b))):Int)] 41)).lt;exact this);have J:=hideS ((c.out _).stay f);have K:=hideS g;clear g d f))
    go_roundw
    case rel=>exact⟨k,k+1,rfl,by omega,by simp,by show World.ownsRow _ _ _ _ _ _ _;rw [HN.out];exact K.out,J⟩
    case measure=>simp [intOf];omega
   | down1 h1 h3 h4=>
    go_wp2_with (first | (go_at_call 60;refine (turned (L.out _ _ _ (by assumption) (by assumption))).mono ?_;rintro e wl ⟨rfl,rfl⟩) | (go_at_call 144;(with_reducible refine (bc.out _).mono ?_);rintro e w5 ⟨rfl,A⟩;have l:=hideS (N.out.step A);have j:=hideS (ao F.out A);clear A) | (go_at_call 144;(with_reducible refine (ad.out _).mono ?_);rintro e w6 ⟨rfl,s⟩;have T:=hideS (l.out.step s);have U:=hideS (ao j.out s);clear s) | (go_at_call 50;refine (bh.out _).mono ?_;rintro e w7 ⟨rfl,y⟩;have Z:=hideS (T.out.step y);have V:=hideS (ao U.out y);clear y) | (go_at_call 144;(with_reducible refine (bk.out _).mono ?_);rintro e G ⟨rfl,B⟩;have Y:=hideS (Z.out.step B);have W:=hideS (ao V.out B);have h:Hid (∀ o,(G.alloc o).ownsRow (w.heap.size+1) 41 1 (.slice q0 k D) k ((p m).map uV)):=(fun o=>ao W.out ((Below.refl _ G).alloc (Nat.le_refl _) o));have c:Hid (∀ o,TBox w kind (.slice O n cx) M (G.alloc o)):=(fun o=>Y.out.step ((Below.refl _ G).alloc (Nat.le_refl _) o));clear B) | (at_builtin;refine aH _ rfl (.tmp 58) (.tmp 60) rfl (w.heap.size+1) _ k (p m) rfl (h.out _) G.heap.size (sDiv 4611686018427387904 (sAdd (sDiv 4607182418800017408 a) (sDiv 4607182418800017408 b))) rfl (by simp) (by omega) (by have:=(c.out (.cells #[.int .u64 ((sDiv 4611686018427387904 (sAdd (sDiv 4607182418800017408 a) (sDiv 4607182418800017408 b))):Int)] 41)).lt;exact this) ?_;intro v6 bs g d;have f:=aW (h.out _) d (by have:=(c.out (.cells #[.int .u64 ((sDiv 4611686018427387904 (sAdd (sDiv 4607182418800017408 a) (sDiv 4607182418800017408 b))):Int)] 41)).lt;exact this);have J:=hideS ((c.out _).stay f);have K:=hideS g;clear g d f))
    go_roundw
    case rel=>exact⟨k,k+1,rfl,by omega,by simp,by show World.ownsRow _ _ _ _ _ _ _;rw [HN.out];exact K.out,J⟩
    case measure=>simp [intOf];omega
  ·have ai:k+1=n:=by omega
   have cd:¬ (k:Int)+1<(n:Int):=by omega
   have cm:(n:Int) - 2=(m:Int):=by omega
   have I:=hideS (H.out.steep m (by omega) _ x.out.bl)
   have HE:Hid (k+1=n/\n - 2=m):=⟨ai,by omega⟩
   clear ai S
   go_wp2_with fail
   refine I.out.mono ?_
   rintro e w3 ⟨rfl,C⟩;have E:=hideS (x.out.step C);have Q:=hideS (ao HO.out C);clear C x HO t0 t1 t2 I;have h:Hid (∀ o,(w3.alloc o).ownsRow (w.heap.size+1) 41 1 (.slice q0 k D) k ((p m).map uV)):=fun o=>ao Q.out ((Below.refl _ w3).alloc (Nat.le_refl _) o)
   have c:Hid (∀ o,TBox w kind (.slice O n cx) M (w3.alloc o)):=fun o=>E.out.step ((Below.refl _ w3).alloc (Nat.le_refl _) o)
   go_wp2_with (at_builtin;refine aH _ rfl (.tmp 62) (.tmp 67) rfl (w.heap.size+1) _ k (p m) rfl (h.out _) w3.heap.size (r m) rfl (by simp) (by omega) (by have:=(c.out (.cells #[.int .u64 (r m:Int)] 41)).lt;exact this) ?_;intro v6 w6 g d;have f:=aW (h.out _) d (by have:=(c.out (.cells #[.int .u64 (r m:Int)] 41)).lt;exact this);have l:=hideS ((c.out _).stay f);have j:=hideS g;clear g d f)
   go_ret2
   obtain⟨e1,e2⟩:=HE.out;refine⟨_,rfl,?_,l.out.bl⟩
   rw [e2];have:=jN j.out (Nat.le_succ w.heap.size);rw [e1] at this
   exact this
theorem pN (kind:Int) (a b:Option Addr) (f g cx j d cy n:Nat) (xs:List Int) (ys:List Nat) (w:World) (h:OkT kind xs ys) (hn:xs.length=n) (p:TSrc w a b f g j d xs ys) :
  Calls Tryz.prog 168 #[.agg #[.int .i64 kind,.slice a n cx,.slice b n cy]] w fun e o=>∃ v,e=.returned (.tuple #[v,.int .i64 0])/\o.ownsRow w.heap.size 41 1 v n ((bG xs ys n).map uV)/\Below w.heap.size w o:=by
 have l:=h.len;have H:SlH w kind (.slice a n cx) (.slice b n cy) n (steepB xs ys):=⟨fun m c=>by
  have:=dl kind 0 a b f g cx j d cy xs ys m (.ok h) (p.below c);rw [l,hn] at this
  exact this,fun k s m c=>Eg kind a b f g cx j d cy n k xs ys m h hn (p.below c) s⟩
 have r:=h.lo;have q:=h.hi;unfold bG
 by_cases i:n=1
 ·rw [if_pos i];subst i;exact AC kind a cx _ _ w H
 ·rw [if_neg i];exact xn kind a cx n _ (steepB xs ys) (eG xs ys) w H (by omega) (by omega) (mE xs ys) rfl (iv xs ys) (eS xs ys)
def heldN (v a b:Nat):Nat:=(dC (v:Nat) (a:Nat) (b:Nat)).toNat
theorem fC {v a b:Nat} (d:v<18446744073709551616) (c:a<18446744073709551616) (e:b<18446744073709551616):((heldN v a b:Nat):Int)=dC (v:Nat) (a:Nat) (b:Nat):=by
 have:=(xo (aU d) (aU c) (aU e)).1;unfold heldN;omega
theorem jg {v a b:Nat} (d:v<18446744073709551616) (c:a<18446744073709551616) (f:b<18446744073709551616):heldN v a b<18446744073709551616:=by
 have:=xo (aU d) (aU c) (aU f);have e:=fC d c f;have:=this.2;omega
theorem mF (v a b:Nat) (w:World) (d:v<18446744073709551616) (c:a<18446744073709551616) (f:b<18446744073709551616) :
  Calls Tryz.prog 149 #[.int .u64 (v:Int),.int .u64 (a:Int),.int .u64 (b:Int)] w fun e g=>e=.returned (.int .u64 (heldN v a b:Int))/\g=w:=by
 rw [fC d c f];exact If _ _ _ w (aU d) (aU c) (aU f)
def ptP (h d a b:Nat):Nat:=heldN (sAdd a (sDiv (sMul d h) (fi 3))) a b
def ptQ (h d b p:Nat):Nat:=heldN (sSub b (sDiv (sMul d h) (fi 3))) p b
theorem Ig:fi 3<18446744073709551616:=kn (by decide) (by decide)
theorem AD {h d a b:Nat} (c:a<18446744073709551616) (e:b<18446744073709551616):ptP h d a b<18446744073709551616:=jg (uO _ _) c e
theorem OE {h d b p:Nat} (c:b<18446744073709551616) (a:p<18446744073709551616):ptQ h d b p<18446744073709551616:=jg (uN _ _) a c
theorem Ei (w:World) (a b c d:Nat):(w.alloc (.cells #[.int .u64 (a:Int),.int .u64 (b:Int),.int .u64 (c:Int),.int .u64 (d:Int)] 41)).ownsRow w.heap.size 41 1 (.slice (some ⟨w.heap.size,0,none⟩) 4 4) 4 ([a,b,c,d].map uV):=
 ⟨rfl,.inr ⟨w.heap.size,4,#[.int .u64 (a:Int),.int .u64 (b:Int),.int .u64 (c:Int),.int .u64 (d:Int)],rfl,Nat.le_refl _,heap_alloc_new w _,Nat.le_refl _,by unfold maxLen;omega,rfl,rfl⟩⟩
def OF (w:World) (kind:Int) (f d:Value) (n:Nat) (c:List Nat):Prop:=∀ a,Below w.heap.size w a->Calls Tryz.prog 168 #[.agg #[.int .i64 kind,f,d]] a fun e b=>∃ v,e=.returned (.tuple #[v,.int .i64 0])/\b.ownsRow a.heap.size 41 1 v n (c.map uV)/\Below a.heap.size a b
structure PRd (w:World) (B:Nat) (vx vy:Value) (bx ox b2 oy bd k:Nat) (x0 x1:Int) (y0 y1 d0 d1:Nat):Prop where
 t1:w.cell? ⟨B,1,none⟩=some vx
 t2:w.cell? ⟨B,2,none⟩=some vy
 a0:w.cell? ⟨bx,ox+k,none⟩=some (.int .i64 x0)
 a1:w.cell? ⟨bx,ox+(k+1),none⟩=some (.int .i64 x1)
 b0:w.cell? ⟨b2,oy+k,none⟩=some (.int .u64 (y0:Int))
 b1:w.cell? ⟨b2,oy+(k+1),none⟩=some (.int .u64 (y1:Int))
 e0:w.cell? ⟨bd,k,none⟩=some (.int .u64 (d0:Int))
 e1:w.cell? ⟨bd,k+1,none⟩=some (.int .u64 (d1:Int))
 lB:B<w.heap.size
 lx:bx<w.heap.size
 ly:b2<w.heap.size
 ld:bd<w.heap.size
theorem PRd.step {w l:World} {B:Nat} {g n:Value} {c d e b bd k:Nat} {f i:Int} {y0 y1 m j:Nat} (h:PRd w B g n c d e b bd k f i y0 y1 m j) (a:Below w.heap.size w l):PRd l B g n c d e b bd k f i y0 y1 m j:=
 ⟨(a.cell (p:=⟨B,1,none⟩) h.lB).trans h.t1,(a.cell (p:=⟨B,2,none⟩) h.lB).trans h.t2,(a.cell (p:=⟨c,d+k,none⟩) h.lx).trans h.a0,(a.cell (p:=⟨c,d+(k+1),none⟩) h.lx).trans h.a1,(a.cell (p:=⟨e,b+k,none⟩) h.ly).trans h.b0,(a.cell (p:=⟨e,b+(k+1),none⟩) h.ly).trans h.b1,(a.cell (p:=⟨bd,k,none⟩) h.ld).trans h.e0,(a.cell (p:=⟨bd,k+1,none⟩) h.ld).trans h.e1,Nat.lt_of_lt_of_le h.lB a.size,Nat.lt_of_lt_of_le h.lx a.size,Nat.lt_of_lt_of_le h.ly a.size,Nat.lt_of_lt_of_le h.ld a.size⟩
theorem PRd.drew {w:World} {B:Nat} {d l:Value} {j a c f bd k:Nat} {b e:Int} {y0 y1 g i:Nat} (h:PRd w B d l j a c f bd k b e y0 y1 g i):PRd w.drew B d l j a c f bd k b e y0 y1 g i:=⟨h.t1,h.t2,h.a0,h.a1,h.b0,h.b1,h.e0,h.e1,h.lB,h.lx,h.ly,h.ld⟩
theorem PRd.three {w:World} {B:Nat} {d l:Value} {b a f g bd k:Nat} {c e:Int} {y0 y1 i j:Nat} (h:PRd w B d l b a f g bd k c e y0 y1 i j):w.cell? ⟨B,1,none⟩=some d/\w.cell? ⟨b,a+k,none⟩=some (.int .i64 c)/\w.cell? ⟨b,a+(k+1),none⟩=some (.int .i64 e):=⟨h.t1,h.a0,h.a1⟩
theorem AE (kind:Int) (m p cx A B cy n k:Nat) (f g:Int) (y0 y1 a c:Nat) (R:List Nat) (w:World) (hd:R.length=n) (J:R.getD k 0=a) (D:R.getD (k+1) 0=c)
  (hR:∀ l,Below w.heap.size w l->∀ bd,bd<l.heap.size->w.heap.size<l.heap.size->TBox w kind (.slice (some ⟨m,p,none⟩) n cx) (.slice (some ⟨A,B,none⟩) n cy) l->l.cell? ⟨bd,k,none⟩=some (.int .u64 (a:Int))->l.cell? ⟨bd,k+1,none⟩=some (.int .u64 (c:Int))->PRd l w.heap.size (.slice (some ⟨m,p,none⟩) n cx) (.slice (some ⟨A,B,none⟩) n cy) m p A B bd k f g y0 y1 a c)
  (hk:k+1<n) (hn:n<=256) (h0:0<=f) (h1:f<=109572) (h2:0<=g) (h3:g<=109572) (o:y0<18446744073709551616) (j:y1<18446744073709551616) (E:a<18446744073709551616) (L:c<18446744073709551616)
  (H:Hid (OF w kind (.slice (some ⟨m,p,none⟩) n cx) (.slice (some ⟨A,B,none⟩) n cy) n R)) :
  Calls Tryz.prog 147 #[.agg #[.int .i64 kind,.slice (some ⟨m,p,none⟩) n cx,.slice (some ⟨A,B,none⟩) n cy],.int .i64 (k:Int)] w fun e l=>∃ v,e=.returned (.tuple #[v,.int .i64 0])/\l.ownsRow w.heap.size 41 1 v 4 ([y0,ptP (fi (g - f)) a y0 y1,ptQ (fi (g - f)) c y1 (ptP (fi (g - f)) a y0 y1),y1].map uV)/\Below w.heap.size w l:=by
 have Y:=hideS (bQ w kind (.slice (some ⟨m,p,none⟩) n cx) (.slice (some ⟨A,B,none⟩) n cy));unfold OF at H
 have HR:=hideS hR;have C:k+1<R.length:=by omega
 have q:=hideS (And.intro hd (And.intro J D));have f1:IntKind.i64.wrap ((k:Int)+1)=(k:Int)+1:=by rw [IntKind.wrap_i64];omega
 have f2:IntKind.i64.wrap (g - f)=g - f:=by rw [IntKind.wrap_i64];omega
 have g1:(0:Int)<=(k:Int)+1:=by omega
 have g2:(k:Int)+1<(n:Int):=by omega
 have g3:(0:Int)<=(k:Int):=by omega
 have g4:(k:Int)<(n:Int):=by omega
 have g5:decide ((k:Int)<0)=false:=decide_eq_false (by omega)
 have g6:decide ((n:Int) - 1<=(k:Int))=false:=decide_eq_false (by omega)
 have am:k<n:=by omega
 have HI:=hideS fun b=>cV (g - f) b (by omega) (by omega)
 have ak:=hideS fun b=>cV 3 b (by decide) (by decide)
 have hF:=kn (n:=g - f) (by omega) (by omega)
 generalize fi (g - f)=F at *
 have X:=hideS fun b=>xk a F b E hF
 have T:=hideS fun b=>xk c F b L hF
 have ad:=hideS fun b=>gE (sMul a F) (fi 3) b (CN _ _) Ig
 have ac:=hideS fun b=>gE (sMul c F) (fi 3) b (CN _ _) Ig
 have ab:=hideS fun b=>xl y0 (sDiv (sMul a F) (fi 3)) b o (jM _ _)
 have ai:=hideS fun b=>xj y1 (sDiv (sMul c F) (fi 3)) b j (jM _ _)
 have N:=hideS fun b=>mF (sAdd y0 (sDiv (sMul a F) (fi 3))) y0 y1 b (uO _ _) o j
 have hP:=AD (h:=F) (d:=a) o j;have I:=hideS fun b=>mF (sSub y1 (sDiv (sMul c F) (fi 3))) (ptP F a y0 y1) y1 b (uN _ _) hP j
 have eP:heldN (sAdd y0 (sDiv (sMul a F) (fi 3))) y0 y1=ptP F a y0 y1:=rfl;have eQ:heldN (sSub y1 (sDiv (sMul c F) (fi 3))) (ptP F a y0 y1) y1=ptQ F c y1 (ptP F a y0 y1):=rfl;rw [eP] at N
 rw [eQ] at I
 clear eP eQ;generalize ptQ F c y1 (ptP F a y0 y1)=Q at *
 generalize ptP F a y0 y1=P at *
 generalize sAdd y0 (sDiv (sMul a F) (fi 3))=A0 at *
 generalize sSub y1 (sDiv (sMul c F) (fi 3))=S1 at *
 generalize sDiv (sMul a F) (fi 3)=V0 at *
 generalize sDiv (sMul c F) (fi 3)=V1 at *
 generalize sMul a F=M0 at *
 generalize sMul c F=M1 at *
 generalize fi 3=T3 at *
 clear hR hd J D o j E L hF hP h0 h1 h2 h3
 go_enter Tryz.func147,Tryz.ntmps147
 go_wp2_with fail
 refine (H.out _ Y.out.bl).mono ?_
 rintro e w1 ⟨v,rfl,ho,G⟩;obtain⟨pd,bd,cd,rfl,O,al,U,Z⟩:=bq ho q.out.1;obtain rfl:=O.at_ (by omega)
 have i:=hideS (Y.out.step G);have z0:w1.cell? ⟨bd,k,none⟩=some (.int .u64 (a:Int)):=by have:=O.cell k (by omega);rw [Nat.zero_add,q.out.2.1] at this;exact this
 have z1:w1.cell? ⟨bd,k+1,none⟩=some (.int .u64 (c:Int)):=by have:=O.cell (k+1) C;rw [Nat.zero_add,q.out.2.2] at this;exact this
 have K0:=hideS (HR.out w1 i.out.bl bd (O.lt (by omega)) i.out.lt i.out z0 z1)
 have B0:=hideS i.out.bl;clear G ho O al U Z z0 z1 i Y HR H;obtain⟨t1,t2,a0,a1,b0,b1,e0,e1,_,_,_,_⟩:=K0.out
 go_wp2_with fail
 go_region_held3 (fun x=>x.cell? ⟨w.heap.size,1,none⟩=some (.slice (some ⟨m,p,none⟩) n cx)/\x.cell? ⟨m,p+k,none⟩=some (.int .i64 f)/\x.cell? ⟨m,p+(k+1),none⟩=some (.int .i64 g)) (first | exact K0.out.three | exact V.out.three | go_keep) ((go_at_call 101;refine (HI.out _).mono ?_;rintro e w2 ⟨rfl,s⟩;have B1:=hideS (B0.out.drew.trans (s.mono B0.out.size));have V:=hideS (K0.out.drew.step s);clear s))
 all_goals
  clear t1 t2 a0 a1 b0 b1 e0 e1;obtain⟨t1,t2,a0,a1,b0,b1,e0,e1,_,_,_,_⟩:=V.out
  go_wp2_with (go_at_call 101;refine (ak.out _).mono ?_;rintro e w3 ⟨rfl,y⟩;have B2:=hideS (B1.out.trans (y.mono B1.out.size));have K2:=hideS (V.out.step y);have W:=K2.out.e0;have z:=K2.out.e1;clear y)
  refine (X.out _).mono ?_
  rintro e w4 ⟨rfl,t⟩;have B3:=hideS (B2.out.trans (t.mono B2.out.size));have K3:=hideS (K2.out.step t);clear t W z
  go_wp2_with fail
  refine (ad.out _).mono ?_
  rintro e w5 ⟨rfl,u⟩;have B4:=hideS (B3.out.trans (u.mono B3.out.size));have K4:=hideS (K3.out.step u);clear u
  go_wp2_with fail
  refine (ab.out _).mono ?_
  rintro e w6 ⟨rfl,r⟩;have B5:=hideS (B4.out.trans (r.mono B4.out.size));have K5:=hideS (K4.out.step r);clear r;have z:=K5.out.e1
  go_wp2_with (go_at_call 149;refine (turned (N.out _)).mono ?_;rintro e wh ⟨rfl,rfl⟩)
  refine (T.out _).mono ?_
  rintro e w7 ⟨rfl,K⟩;have B6:=hideS (B5.out.trans (K.mono B5.out.size));clear K z
  go_wp2_with fail
  refine (ac.out _).mono ?_
  rintro e w8 ⟨rfl,M⟩;have B7:=hideS (B6.out.trans (M.mono B6.out.size));clear M
  go_wp2_with fail
  refine (ai.out _).mono ?_
  rintro e w9 ⟨rfl,S⟩;have B8:=hideS (B7.out.trans (S.mono B7.out.size));clear S;have HO:=hideS (Ei w9 y0 P Q y1)
  go_wp2_with (go_at_call 149;refine (turned (I.out _)).mono ?_;rintro e wh ⟨rfl,rfl⟩)
  go_ret2
  exact⟨_,rfl,jN HO.out B8.out.size,B8.out.alloc B8.out.size _⟩
def ptL (xs:List Int) (ys:List Nat) (k:Nat):List Nat:=
 [ys.getD k 0,ptP (fi (xs.getD (k+1) 0 - xs.getD k 0)) ((bG xs ys xs.length).getD k 0) (ys.getD k 0) (ys.getD (k+1) 0),ptQ (fi (xs.getD (k+1) 0 - xs.getD k 0)) ((bG xs ys xs.length).getD (k+1) 0) (ys.getD (k+1) 0) (ptP (fi (xs.getD (k+1) 0 - xs.getD k 0)) ((bG xs ys xs.length).getD k 0) (ys.getD k 0) (ys.getD (k+1) 0)),ys.getD (k+1) 0]
theorem xp (xs:List Int) (ys:List Nat):∀ k,∀ d ∈ eG xs ys k,d<18446744073709551616
 | 0,d,h=>by
  have:d=steepB xs ys 0:=by simpa [eG] using h
  rw [this];exact mE _ _ _
 | k+1,d,h=>by
  rw [iv,List.mem_append] at h
  rcases h with h | h
  ·exact xp xs ys k d h
  ·have:d=slB (steepB xs ys k) (steepB xs ys (k+1)):=by simpa using h
   rw [this];exact OD _ _
theorem Ej {xs:List Int} {ys:List Nat} {n:Nat} (hn:1<=n):(bG xs ys n).length=n:=by
 unfold bG
 split
 ·rename_i h;rw [h];rfl
 ·rw [List.length_append,eS];simp;omega
theorem xq {xs:List Int} {ys:List Nat} {n:Nat} (i:Nat):(bG xs ys n).getD i 0<18446744073709551616:=by
 by_cases hi:i<(bG xs ys n).length
 ·have e:(bG xs ys n).getD i 0=(bG xs ys n)[i]:=by simp [List.getD,List.getElem?_eq_getElem hi]
  rw [e];have a:=List.getElem_mem hi;generalize (bG xs ys n)[i]=d at *
  unfold bG at a
  split at a
  ·have:d=0:=by simpa using a
   rw [this];decide
  ·rw [List.mem_append] at a
   rcases a with h | h
   ·exact xp xs ys _ d h
   ·have:d=steepB xs ys (n - 2):=by simpa using h
    rw [this];exact mE _ _ _
 ·have e:(bG xs ys n).getD i 0=0:=by simp [List.getD,List.getElem?_eq_none (show (bG xs ys n).length<=i by omega)]
  rw [e];decide
theorem pO (kind:Int) (d c:Option Addr) (l m cx q i cy n k:Nat) (xs:List Int) (ys:List Nat) (w:World) (h:OkT kind xs ys) (hn:xs.length=n) (b:TSrc w d c l m q i xs ys) (E:k+1<n) :
  Calls Tryz.prog 147 #[.agg #[.int .i64 kind,.slice d n cx,.slice c n cy],.int .i64 (k:Int)] w fun e o=>∃ v,e=.returned (.tuple #[v,.int .i64 0])/\o.ownsRow w.heap.size 41 1 v 4 ((ptL xs ys k).map uV)/\Below w.heap.size w o:=by
 have F:=h.len;have B:=h.lo;have A:=h.hi;have H:OF w kind (.slice d n cx) (.slice c n cy) n (bG xs ys n):=fun G g=>pN kind d c l m cx q i cy n xs ys G h hn (b.below g)
 obtain rfl:=b.x.at_ (by omega)
 obtain rfl:=b.y.at_ (by omega)
 have r:=aq (h.node k (by omega))
 have t:=aq (h.node (k+1) (by omega))
 have u:=b.f k (by omega)
 have D:=b.f (k+1) (by omega)
 unfold ptL;rw [hn];exact AE kind l m cx q i cy n k (xs.getD k 0) (xs.getD (k+1) 0) (ys.getD k 0) (ys.getD (k+1) 0) _ _ (bG xs ys n) w (Ej (by omega)) rfl rfl
  (fun o g bd j p s C z=>by
   have a:=b.below g;exact⟨s.t1,s.t2,a.x.cell k (by omega),a.x.cell (k+1) (by omega),a.y.cell k (by omega),a.y.cell (k+1) (by omega),C,z,p,a.x.lt (by omega),a.y.lt (by omega),j⟩)
  E (by omega) r.1 r.2.1 t.1 t.2.1 (by have:=u.2;omega) (by have:=D.2;omega) (xq _) (xq _) H
end Go.Proofs.YtfdddijdjpijbaaGreat
