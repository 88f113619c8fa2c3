/-  -/
import Derived.Test.YtjjlnmihkadlmaaGreatHbb
import Derived.Test.YtjjlnmihkadlmaaGreatHat
import Derived.Test.YtjjlnmihkadlmaaGreatHaq
namespace Go.Proofs.YtjjlnmihkadlmaaGreat
open Go.RowKit

def slB (a b:Nat):Nat:=if (ltB 0 (a:Nat)&&ltB 0 (b:Nat))||(ltB (a:Nat) 0&&ltB (b:Nat) 0) then sDiv 4611686018427387904 (sAdd (sDiv 4607182418800017408 a) (sDiv 4607182418800017408 b)) else 0
def dH (xs:List Int) (ys:List Nat):Nat→List Nat
 | 0=>[steepB xs ys 0]
 | k+1=>dH xs ys k++[slB (steepB xs ys k) (steepB xs ys (k+1))]
def bA (xs:List Int) (ys:List Nat) (n:Nat):List Nat:=if n=1 then [0] else dH xs ys (n - 2)++[steepB xs ys (n - 2)]
theorem dP (xs:List Int) (ys:List Nat):∀ k,(dH xs ys k).length=k+1
 | 0=>rfl
 | k+1=>by show (dH xs ys k++[_]).length=_;rw [List.length_append,dP xs ys k];rfl
theorem kD (xs:List Int) (ys:List Nat) (k:Nat):steepB xs ys k<18446744073709551616:=iE _ _
theorem Jh (a b:Nat):slB a b<18446744073709551616:=by
 unfold slB
 split
 ·exact iE _ _
 ·decide
theorem AD (kind:Int) (px py:Option Addr) (bx ox cx b2 oy cy n k:Nat) (xs:List Int) (ys:List Nat) (w:World) (h:OkT kind xs ys) (hn:xs.length=n) (hs:TSrc w px py bx ox b2 oy xs ys) (hk:k+1<n) :
  Calls Tryz.prog 189 #[.agg #[.int .i64 kind,.slice px n cx,.slice py n cy],.int .i64 (k:Int)] w fun e w'=>e=.returned (.int .u64 (steepB xs ys k:Int))∧Below w.heap.size w w':=by
 obtain rfl:=hs.x.at_ (by omega)
 have hyl:=h.len
 obtain rfl:=hs.y.at_ (by omega)
 have hbl:Below w.heap.size w (w.alloc (.cells #[.int .i64 kind,.slice (some ⟨bx,ox,none⟩) n cx,.slice (some ⟨b2,oy,none⟩) n cy] 169)):=(Below.refl _ _).alloc (Nat.le_refl _) _
 have ht:=bL w kind (.slice (some ⟨bx,ox,none⟩) n cx) (.slice (some ⟨b2,oy,none⟩) n cy)
 have hs1:=hs.below hbl
 have n0:=ao (h.node k (by omega))
 have n1:=ao (h.node (k+1) (by omega))
 have y0:=hs.f k (by omega)
 have y1:=hs.f (k+1) (by omega)
 have hi:=h.hi
 exact AC kind bx ox cx b2 oy cy n k (xs.getD k 0) (xs.getD (k+1) 0) (ys.getD k 0) (ys.getD (k+1) 0) w _ rfl ⟨ht.t1,ht.t2,hs1.x.cell k (by omega),hs1.x.cell (k+1) (by omega),hs1.y.cell k (by omega),hs1.y.cell (k+1) (by omega)⟩ (by omega) (by omega) (hs1.x.lt (by omega)) (hs1.y.lt (by omega)) hbl ht.lt n0.1 n0.2.1 n1.1 n1.2.1 (by have:=y0.2;omega) (by have:=y1.2;omega)
theorem gl (xs:List Int) (ys:List Nat) (k:Nat):dH xs ys (k+1)=dH xs ys k++[slB (steepB xs ys k) (steepB xs ys (k+1))]:=rfl
theorem iF {w:World} {base base' n:Nat} {v:Value} {xs:List Value} (h:w.ownsRow base 57 1 v n xs) (hb:base'≤base):w.ownsRow base' 57 1 v n xs:=by
 refine⟨h.1,?_⟩
 rcases h.2 with hn | ⟨g,cap,cur,e,hg,rest⟩
 ·exact .inl hn
 ·exact .inr ⟨g,cap,cur,e,Nat.le_trans hb hg,rest⟩
theorem TBox.stay {w wr w':World} {kind:Int} {vx vy:Value} (h:TBox w kind vx vy wr) (hb:Below (w.heap.size+1) wr w'):TBox w kind vx vy w':=
 ⟨(hb.cell (p:=⟨w.heap.size,0,none⟩) (Nat.lt_succ_self _)).trans h.t0,(hb.cell (p:=⟨w.heap.size,1,none⟩) (Nat.lt_succ_self _)).trans h.t1,(hb.cell (p:=⟨w.heap.size,2,none⟩) (Nat.lt_succ_self _)).trans h.t2,h.bl.trans (hb.mono (Nat.le_succ _)),Nat.lt_of_lt_of_le h.lt hb.size⟩
structure SlH (w:World) (kind:Int) (v1 v2:Value) (n:Nat) (st:Nat→Nat):Prop where
 chk:∀ wx,Below w.heap.size w wx→Calls Tryz.prog 169 #[.agg #[.int .i64 kind,v1,v2]] wx fun e w'=>e=.returned (.int .i64 0)∧Below wx.heap.size wx w'
 steep:∀ k,k+1<n→∀ wx,Below w.heap.size w wx→Calls Tryz.prog 189 #[.agg #[.int .i64 kind,v1,v2],.int .i64 (k:Int)] wx fun e w'=>e=.returned (.int .u64 (st k:Int))∧Below wx.heap.size wx w'
set_option maxHeartbeats 800000 in
theorem xo (kind:Int) (px:Option Addr) (cx:Nat) (v2:Value) (st:Nat→Nat) (w:World) (H:Hid (SlH w kind (.slice px 1 cx) v2 1 st)) :
  Calls Tryz.prog 171 #[.agg #[.int .i64 kind,.slice px 1 cx,v2]] w fun e w'=>∃ v,e=.returned (.tuple #[v,.int .i64 0])∧w'.ownsRow w.heap.size 57 1 v 1 ([0].map uV)∧Below w.heap.size w w':=by
 have HB:=hideS (bL w kind (.slice px 1 cx) v2)
 go_enter Tryz.func171,Tryz.ntmps171
 go_wp2_with fail
 refine (H.out.chk _ HB.out.bl).mono ?_
 rintro e w1 ⟨rfl,hb1⟩
 have HB1:=hideS (HB.out.step hb1)
 clear hb1
 obtain⟨t0,t1,t2,_,_⟩:=HB1.out
 have HO:=hideS (tW w1 0)
 go_wp2_with fail
 go_ret2
 exact⟨_,rfl,iF HO.out HB1.out.bl.size,HB1.out.bl.alloc HB1.out.bl.size _⟩
inductive SlO (a b:Nat):Nat→Prop
 | up (h1:ltB 0 (a:Nat)=true) (h2:ltB 0 (b:Nat)=true):SlO a b (sDiv 4611686018427387904 (sAdd (sDiv 4607182418800017408 a) (sDiv 4607182418800017408 b)))
 | down1 (h1:ltB 0 (a:Nat)=false) (h3:ltB (a:Nat) 0=true) (h4:ltB (b:Nat) 0=true):SlO a b (sDiv 4611686018427387904 (sAdd (sDiv 4607182418800017408 a) (sDiv 4607182418800017408 b)))
 | flat1 (h1:ltB 0 (a:Nat)=false) (h3:ltB (a:Nat) 0=true) (h4:ltB (b:Nat) 0=false):SlO a b 0
 | flat2 (h1:ltB 0 (a:Nat)=false) (h3:ltB (a:Nat) 0=false):SlO a b 0
 | flat3 (h1:ltB 0 (a:Nat)=true) (h2:ltB 0 (b:Nat)=false) (h3:ltB (a:Nat) 0=false):SlO a b 0
theorem DK {u v:Int} (h:ltB u v=true):ltB v u=false:=by
 unfold ltB at h ⊢
 simp only [Bool.and_eq_true,Bool.not_eq_true',decide_eq_true_eq] at h
 rw [h.1.1,h.1.2]
 simp
 omega
theorem DL (a b:Nat):SlO a b (slB a b):=by
 unfold slB
 cases h1:ltB 0 (a:Nat)
 ·cases h3:ltB (a:Nat) 0
  ·simp;exact .flat2 h1 h3
  ·cases h4:ltB (b:Nat) 0
   ·simp;exact .flat1 h1 h3 h4
   ·simp;exact .down1 h1 h3 h4
 ·have h3:=DK h1
  cases h2:ltB 0 (b:Nat)
  ·rw [h3];simp;exact .flat3 h1 h2 h3
  ·simp;exact .up h1 h2
set_option maxHeartbeats 12800000 in
theorem tX (kind:Int) (px:Option Addr) (cx n:Nat) (v2:Value) (st:Nat→Nat) (sl:Nat→List Nat) (w:World) (H:Hid (SlH w kind (.slice px n cx) v2 n st)) (hn:2≤n) (hn':n≤256) (hst:∀ k,st k<18446744073709551616) (hl0:sl 0=[st 0]) (hls:∀ k,sl (k+1)=sl k++[slB (st k) (st (k+1))]) (hll:∀ k,(sl k).length=k+1) :
  Calls Tryz.prog 171 #[.agg #[.int .i64 kind,.slice px n cx,v2]] w fun e w'=>∃ v,e=.returned (.tuple #[v,.int .i64 0])∧w'.ownsRow w.heap.size 57 1 v n ((sl (n - 2)++[st (n - 2)]).map uV)∧Below w.heap.size w w':=by
 have HB:=hideS (bL w kind (.slice px n cx) v2)
 have HT:=hideS hst
 have HL:=hideS hls
 have HLL:=hideS hll
 have hn1:((n:Int)==1)=false:=beq_false_of_ne (by omega)
 have HLt:=hideS fun (u v:Int) (wx:World) (hu:U64 u) (hv:U64 v)=>il u v wx hu hv
 clear hst hls hll
 go_enter Tryz.func171,Tryz.ntmps171
 go_wp2_with fail
 refine (H.out.chk _ HB.out.bl).mono ?_
 rintro e w1 ⟨rfl,hb1⟩
 have HB1:=hideS (HB.out.step hb1)
 clear hb1 HB
 obtain⟨t0,t1,t2,_,_⟩:=HB1.out
 have HS0:Hid (Calls Tryz.prog 189 #[.agg #[.int .i64 kind,.slice px n cx,v2],.int .i64 0] w1 fun e w'=>e=.returned (.int .u64 (st 0:Int))∧Below w1.heap.size w1 w'):=H.out.steep 0 (by omega) _ HB1.out.bl
 go_wp2_with fail
 refine HS0.out.mono ?_
 rintro e w2 ⟨rfl,hb2⟩
 have HB2:=hideS (HB1.out.step hb2)
 clear hb2 HB1 HS0 t0 t1 t2
 have HO2:Hid ((w2.alloc (.cells #[.int .u64 (st 0:Int)] 57)).ownsRow (w.heap.size+1) 57 1 (.slice (some ⟨w2.heap.size,0,none⟩) 1 1) 1 ((sl 0).map uV)):=by
  show World.ownsRow _ _ _ _ _ _ _
  rw [hl0];exact iF (tW w2 (st 0)) HB2.out.lt
 have HB3:=hideS (HB2.out.step ((Below.refl _ w2).alloc (Nat.le_refl _) (.cells #[.int .u64 (st 0:Int)] 57)))
 clear hl0 HB2
 go_wp2_with fail
 go_loopw [6,7,8,9,10] (fun v i _ _ _ wr=>∃ m k:Nat,m+1=k∧k+1≤n∧i=.int .i64 k∧Hid (wr.ownsRow (w.heap.size+1) 57 1 v k ((sl m).map uV))∧Hid (TBox w kind (.slice px n cx) v2 wr)) (fun _ i _ _ _ _=>n - (intOf i).toNat)
 case atStart=>exact⟨0,1,rfl,by omega,rfl,HO2,HB3⟩
 case round=>
  obtain⟨m,k,hmk,hk,rfl,HO,HBr⟩:=hrel
  obtain⟨q0,g0,cc0,rfl,_,_,_,_⟩:=bY HO.out (by rw [HLL.out];omega)
  have hkm:(k:Int) - 1=(m:Int):=by omega
  obtain⟨t0,t1,t2,_,_⟩:=HBr.out
  by_cases hlt:k+1<n
  ·have hlt':(k:Int)+1<(n:Int):=by omega
   have HSm:=hideS (H.out.steep m (by omega) _ HBr.out.bl)
   have HMK:=hideS hmk
   clear hmk
   go_wp2_with fail
   refine HSm.out.mono ?_
   rintro e w3 ⟨rfl,hb3⟩
   have HB4:=hideS (HBr.out.step hb3)
   have HO4:=hideS (aB HO.out hb3)
   clear hb3 HBr HO t0 t1 t2 HSm
   obtain⟨t0,t1,t2,_,_⟩:=HB4.out
   have HSk:=hideS (H.out.steep k hlt _ HB4.out.bl)
   go_wp2_with fail
   refine HSk.out.mono ?_
   rintro e w4 ⟨rfl,hb4⟩
   have HB5:=hideS (HB4.out.step hb4)
   have HO5:=hideS (aB HO4.out hb4)
   clear hb4 HB4 HO4 t0 t1 t2 HSk
   have HN:Hid (sl k=sl m++[slB (st m) (st k)]):=by show _=_;rw [← HMK.out];exact HL.out m
   have ha:=HT.out m
   have hb:=HT.out k
   generalize st m=a at *
   generalize st k=b at *
   have u0:U64 (0:Int):=by unfold U64;decide
   have ua:U64 ((a:Nat):Int):=aQ ha
   have ub:U64 ((b:Nat):Int):=aQ hb
   have HD1:Hid (∀ wx,Calls Tryz.prog 64 #[.int .u64 4607182418800017408,.int .u64 (a:Int)] wx fun e w'=>e=.returned (.int .u64 (sDiv 4607182418800017408 a:Int))∧Below wx.heap.size wx w'):=fun wx=>fA 4607182418800017408 a wx (by decide) ha
   have HD2:Hid (∀ wx,Calls Tryz.prog 64 #[.int .u64 4607182418800017408,.int .u64 (b:Int)] wx fun e w'=>e=.returned (.int .u64 (sDiv 4607182418800017408 b:Int))∧Below wx.heap.size wx w'):=fun wx=>fA 4607182418800017408 b wx (by decide) hb
   have HAd:=hideS fun wx=>tU (sDiv 4607182418800017408 a) (sDiv 4607182418800017408 b) wx (iE _ _) (iE _ _)
   have HD3:Hid (∀ wx,Calls Tryz.prog 64 #[.int .u64 4611686018427387904,.int .u64 (sAdd (sDiv 4607182418800017408 a) (sDiv 4607182418800017408 b):Int)] wx fun e w'=>e=.returned (.int .u64 (sDiv 4611686018427387904 (sAdd (sDiv 4607182418800017408 a) (sDiv 4607182418800017408 b)):Int))∧Below wx.heap.size wx w'):=fun wx=>fA 4611686018427387904 _ wx (by decide) (rJ _ _)
   have HSl:=DL a b
   generalize slB a b=z at *
   clear ha hb
   cases HSl with
   | flat2 h1 h3=>
    have HOa:Hid (∀ o,(w4.alloc o).ownsRow (w.heap.size+1) 57 1 (.slice q0 k cc0) k ((sl m).map uV)):=fun o=>aB HO5.out ((Below.refl _ w4).alloc (Nat.le_refl _) o)
    have HBa:Hid (∀ o,TBox w kind (.slice px n cx) v2 (w4.alloc o)):=fun o=>HB5.out.step ((Below.refl _ w4).alloc (Nat.le_refl _) o)
    go_wp2_with (first | (go_at_call 97;refine (turned (HLt.out _ _ _ (by assumption) (by assumption))).mono ?_;rintro e w5 ⟨rfl,rfl⟩) | (at_builtin;refine bj _ rfl (.tmp 58) (.tmp 60) rfl (w.heap.size+1) _ k (sl m) rfl (HOa.out _) w4.heap.size 0 rfl (by simp) (by omega) (by have:=(HBa.out (.cells #[.int .u64 0] 57)).lt;exact this) ?_;intro v6 w6 ho6 hg6;have hbl:=bM (HOa.out _) hg6 (by have:=(HBa.out (.cells #[.int .u64 0] 57)).lt;exact this);have HB6:=hideS ((HBa.out _).stay hbl);have HO6:=hideS ho6;clear ho6 hg6 hbl))
    go_roundw
    case rel=>exact⟨k,k+1,rfl,by omega,by simp,by show World.ownsRow _ _ _ _ _ _ _;rw [HN.out];exact HO6.out,HB6⟩
    case measure=>simp [intOf];omega
   | flat1 h1 h3 h4=>
    have HOa:Hid (∀ o,(w4.alloc o).ownsRow (w.heap.size+1) 57 1 (.slice q0 k cc0) k ((sl m).map uV)):=fun o=>aB HO5.out ((Below.refl _ w4).alloc (Nat.le_refl _) o)
    have HBa:Hid (∀ o,TBox w kind (.slice px n cx) v2 (w4.alloc o)):=fun o=>HB5.out.step ((Below.refl _ w4).alloc (Nat.le_refl _) o)
    go_wp2_with (first | (go_at_call 97;refine (turned (HLt.out _ _ _ (by assumption) (by assumption))).mono ?_;rintro e w5 ⟨rfl,rfl⟩) | (at_builtin;refine bj _ rfl (.tmp 58) (.tmp 60) rfl (w.heap.size+1) _ k (sl m) rfl (HOa.out _) w4.heap.size 0 rfl (by simp) (by omega) (by have:=(HBa.out (.cells #[.int .u64 0] 57)).lt;exact this) ?_;intro v6 w6 ho6 hg6;have hbl:=bM (HOa.out _) hg6 (by have:=(HBa.out (.cells #[.int .u64 0] 57)).lt;exact this);have HB6:=hideS ((HBa.out _).stay hbl);have HO6:=hideS ho6;clear ho6 hg6 hbl))
    go_roundw
    case rel=>exact⟨k,k+1,rfl,by omega,by simp,by show World.ownsRow _ _ _ _ _ _ _;rw [HN.out];exact HO6.out,HB6⟩
    case measure=>simp [intOf];omega
   | flat3 h1 h2 h3=>
    have HOa:Hid (∀ o,(w4.alloc o).ownsRow (w.heap.size+1) 57 1 (.slice q0 k cc0) k ((sl m).map uV)):=fun o=>aB HO5.out ((Below.refl _ w4).alloc (Nat.le_refl _) o)
    have HBa:Hid (∀ o,TBox w kind (.slice px n cx) v2 (w4.alloc o)):=fun o=>HB5.out.step ((Below.refl _ w4).alloc (Nat.le_refl _) o)
    go_wp2_with (first | (go_at_call 97;refine (turned (HLt.out _ _ _ (by assumption) (by assumption))).mono ?_;rintro e w5 ⟨rfl,rfl⟩) | (at_builtin;refine bj _ rfl (.tmp 58) (.tmp 60) rfl (w.heap.size+1) _ k (sl m) rfl (HOa.out _) w4.heap.size 0 rfl (by simp) (by omega) (by have:=(HBa.out (.cells #[.int .u64 0] 57)).lt;exact this) ?_;intro v6 w6 ho6 hg6;have hbl:=bM (HOa.out _) hg6 (by have:=(HBa.out (.cells #[.int .u64 0] 57)).lt;exact this);have HB6:=hideS ((HBa.out _).stay hbl);have HO6:=hideS ho6;clear ho6 hg6 hbl))
    go_roundw
    case rel=>exact⟨k,k+1,rfl,by omega,by simp,by show World.ownsRow _ _ _ _ _ _ _;rw [HN.out];exact HO6.out,HB6⟩
    case measure=>simp [intOf];omega
   | up h1 h2=>
    go_wp2_with (first | (go_at_call 97;refine (turned (HLt.out _ _ _ (by assumption) (by assumption))).mono ?_;rintro e wl ⟨rfl,rfl⟩) | (go_at_call 64;(with_reducible refine (HD1.out _).mono ?_);rintro e w5 ⟨rfl,hb5⟩;have HB6:=hideS (HB5.out.step hb5);have HO6:=hideS (aB HO5.out hb5);clear hb5) | (go_at_call 64;(with_reducible refine (HD2.out _).mono ?_);rintro e w6 ⟨rfl,hb6⟩;have HB7:=hideS (HB6.out.step hb6);have HO7:=hideS (aB HO6.out hb6);clear hb6) | (go_at_call 172;refine (HAd.out _).mono ?_;rintro e w7 ⟨rfl,hb7⟩;have HB8:=hideS (HB7.out.step hb7);have HO8:=hideS (aB HO7.out hb7);clear hb7) | (go_at_call 64;(with_reducible refine (HD3.out _).mono ?_);rintro e w8 ⟨rfl,hb8⟩;have HB9:=hideS (HB8.out.step hb8);have HO9:=hideS (aB HO8.out hb8);have HOa:Hid (∀ o,(w8.alloc o).ownsRow (w.heap.size+1) 57 1 (.slice q0 k cc0) k ((sl m).map uV)):=(fun o=>aB HO9.out ((Below.refl _ w8).alloc (Nat.le_refl _) o));have HBa:Hid (∀ o,TBox w kind (.slice px n cx) v2 (w8.alloc o)):=(fun o=>HB9.out.step ((Below.refl _ w8).alloc (Nat.le_refl _) o));clear hb8) | (at_builtin;refine bj _ rfl (.tmp 58) (.tmp 60) rfl (w.heap.size+1) _ k (sl m) rfl (HOa.out _) w8.heap.size (sDiv 4611686018427387904 (sAdd (sDiv 4607182418800017408 a) (sDiv 4607182418800017408 b))) rfl (by simp) (by omega) (by have:=(HBa.out (.cells #[.int .u64 ((sDiv 4611686018427387904 (sAdd (sDiv 4607182418800017408 a) (sDiv 4607182418800017408 b))):Int)] 57)).lt;exact this) ?_;intro v6 w10 ho6 hg6;have hbl:=bM (HOa.out _) hg6 (by have:=(HBa.out (.cells #[.int .u64 ((sDiv 4611686018427387904 (sAdd (sDiv 4607182418800017408 a) (sDiv 4607182418800017408 b))):Int)] 57)).lt;exact this);have HB10:=hideS ((HBa.out _).stay hbl);have HO10:=hideS ho6;clear ho6 hg6 hbl))
    go_roundw
    case rel=>exact⟨k,k+1,rfl,by omega,by simp,by show World.ownsRow _ _ _ _ _ _ _;rw [HN.out];exact HO10.out,HB10⟩
    case measure=>simp [intOf];omega
   | down1 h1 h3 h4=>
    go_wp2_with (first | (go_at_call 97;refine (turned (HLt.out _ _ _ (by assumption) (by assumption))).mono ?_;rintro e wl ⟨rfl,rfl⟩) | (go_at_call 64;(with_reducible refine (HD1.out _).mono ?_);rintro e w5 ⟨rfl,hb5⟩;have HB6:=hideS (HB5.out.step hb5);have HO6:=hideS (aB HO5.out hb5);clear hb5) | (go_at_call 64;(with_reducible refine (HD2.out _).mono ?_);rintro e w6 ⟨rfl,hb6⟩;have HB7:=hideS (HB6.out.step hb6);have HO7:=hideS (aB HO6.out hb6);clear hb6) | (go_at_call 172;refine (HAd.out _).mono ?_;rintro e w7 ⟨rfl,hb7⟩;have HB8:=hideS (HB7.out.step hb7);have HO8:=hideS (aB HO7.out hb7);clear hb7) | (go_at_call 64;(with_reducible refine (HD3.out _).mono ?_);rintro e w8 ⟨rfl,hb8⟩;have HB9:=hideS (HB8.out.step hb8);have HO9:=hideS (aB HO8.out hb8);have HOa:Hid (∀ o,(w8.alloc o).ownsRow (w.heap.size+1) 57 1 (.slice q0 k cc0) k ((sl m).map uV)):=(fun o=>aB HO9.out ((Below.refl _ w8).alloc (Nat.le_refl _) o));have HBa:Hid (∀ o,TBox w kind (.slice px n cx) v2 (w8.alloc o)):=(fun o=>HB9.out.step ((Below.refl _ w8).alloc (Nat.le_refl _) o));clear hb8) | (at_builtin;refine bj _ rfl (.tmp 58) (.tmp 60) rfl (w.heap.size+1) _ k (sl m) rfl (HOa.out _) w8.heap.size (sDiv 4611686018427387904 (sAdd (sDiv 4607182418800017408 a) (sDiv 4607182418800017408 b))) rfl (by simp) (by omega) (by have:=(HBa.out (.cells #[.int .u64 ((sDiv 4611686018427387904 (sAdd (sDiv 4607182418800017408 a) (sDiv 4607182418800017408 b))):Int)] 57)).lt;exact this) ?_;intro v6 w10 ho6 hg6;have hbl:=bM (HOa.out _) hg6 (by have:=(HBa.out (.cells #[.int .u64 ((sDiv 4611686018427387904 (sAdd (sDiv 4607182418800017408 a) (sDiv 4607182418800017408 b))):Int)] 57)).lt;exact this);have HB10:=hideS ((HBa.out _).stay hbl);have HO10:=hideS ho6;clear ho6 hg6 hbl))
    go_roundw
    case rel=>exact⟨k,k+1,rfl,by omega,by simp,by show World.ownsRow _ _ _ _ _ _ _;rw [HN.out];exact HO10.out,HB10⟩
    case measure=>simp [intOf];omega
  ·have hkn:k+1=n:=by omega
   have hge:¬ (k:Int)+1<(n:Int):=by omega
   have hn2:(n:Int) - 2=(m:Int):=by omega
   have HSm:=hideS (H.out.steep m (by omega) _ HBr.out.bl)
   have HE:Hid (k+1=n∧n - 2=m):=⟨hkn,by omega⟩
   clear hkn hmk
   go_wp2_with fail
   refine HSm.out.mono ?_
   rintro e w3 ⟨rfl,hb3⟩
   have HB4:=hideS (HBr.out.step hb3)
   have HO4:=hideS (aB HO.out hb3)
   clear hb3 HBr HO t0 t1 t2 HSm
   have HOa:Hid (∀ o,(w3.alloc o).ownsRow (w.heap.size+1) 57 1 (.slice q0 k cc0) k ((sl m).map uV)):=fun o=>aB HO4.out ((Below.refl _ w3).alloc (Nat.le_refl _) o)
   have HBa:Hid (∀ o,TBox w kind (.slice px n cx) v2 (w3.alloc o)):=fun o=>HB4.out.step ((Below.refl _ w3).alloc (Nat.le_refl _) o)
   go_wp2_with (at_builtin;refine bj _ rfl (.tmp 62) (.tmp 67) rfl (w.heap.size+1) _ k (sl m) rfl (HOa.out _) w3.heap.size (st m) rfl (by simp) (by omega) (by have:=(HBa.out (.cells #[.int .u64 (st m:Int)] 57)).lt;exact this) ?_;intro v6 w6 ho6 hg6;have hbl:=bM (HOa.out _) hg6 (by have:=(HBa.out (.cells #[.int .u64 (st m:Int)] 57)).lt;exact this);have HB6:=hideS ((HBa.out _).stay hbl);have HO6:=hideS ho6;clear ho6 hg6 hbl)
   go_ret2
   obtain⟨e1,e2⟩:=HE.out
   refine⟨_,rfl,?_,HB6.out.bl⟩
   rw [e2]
   have:=iF HO6.out (Nat.le_succ w.heap.size)
   rw [e1] at this
   exact this
theorem ni (kind:Int) (px py:Option Addr) (bx ox cx b2 oy cy n:Nat) (xs:List Int) (ys:List Nat) (w:World) (h:OkT kind xs ys) (hn:xs.length=n) (hs:TSrc w px py bx ox b2 oy xs ys) :
  Calls Tryz.prog 171 #[.agg #[.int .i64 kind,.slice px n cx,.slice py n cy]] w fun e w'=>∃ v,e=.returned (.tuple #[v,.int .i64 0])∧w'.ownsRow w.heap.size 57 1 v n ((bA xs ys n).map uV)∧Below w.heap.size w w':=by
 have hyl:=h.len
 have H:SlH w kind (.slice px n cx) (.slice py n cy) n (steepB xs ys):=⟨fun wx hb=>by
  have:=cR kind 0 px py bx ox cx b2 oy cy xs ys wx (.ok h) (hs.below hb)
  rw [hyl,hn] at this
  exact this,fun k hk wx hb=>AD kind px py bx ox cx b2 oy cy n k xs ys wx h hn (hs.below hb) hk⟩
 have hlo:=h.lo
 have hhi:=h.hi
 unfold bA
 by_cases h1:n=1
 ·rw [if_pos h1]
  subst h1
  exact xo kind px cx _ _ w H
 ·rw [if_neg h1]
  exact tX kind px cx n _ (steepB xs ys) (dH xs ys) w H (by omega) (by omega) (kD xs ys) rfl (gl xs ys) (dP xs ys)
end Go.Proofs.YtjjlnmihkadlmaaGreat
namespace Go.Proofs.YtjjlnmihkadlmaaGreat
open Go.RowKit

def heldN (v a b:Nat):Nat:=(cY (v:Nat) (a:Nat) (b:Nat)).toNat
theorem eA {v a b:Nat} (hv:v<18446744073709551616) (ha:a<18446744073709551616) (hb:b<18446744073709551616):((heldN v a b:Nat):Int)=cY (v:Nat) (a:Nat) (b:Nat):=by
 have:=(tY (aQ hv) (aQ ha) (aQ hb)).1
 unfold heldN;omega
theorem gY {v a b:Nat} (hv:v<18446744073709551616) (ha:a<18446744073709551616) (hb:b<18446744073709551616):heldN v a b<18446744073709551616:=by
 have:=tY (aQ hv) (aQ ha) (aQ hb)
 have e:=eA hv ha hb
 have:=this.2
 omega
theorem kE (v a b:Nat) (w:World) (hv:v<18446744073709551616) (ha:a<18446744073709551616) (hb:b<18446744073709551616) :
  Calls Tryz.prog 143 #[.int .u64 (v:Int),.int .u64 (a:Int),.int .u64 (b:Int)] w fun e w'=>e=.returned (.int .u64 (heldN v a b:Int))∧w'=w:=by
 rw [eA hv ha hb]
 exact DM _ _ _ w (aQ hv) (aQ ha) (aQ hb)
def ptP (h d a b:Nat):Nat:=heldN (sAdd a (sDiv (sMul d h) (fi 3))) a b
def ptQ (h d b p:Nat):Nat:=heldN (sSub b (sDiv (sMul d h) (fi 3))) p b
theorem DO:fi 3<18446744073709551616:=iW (by decide) (by decide)
theorem xp {h d a b:Nat} (ha:a<18446744073709551616) (hb:b<18446744073709551616):ptP h d a b<18446744073709551616:=gY (rJ _ _) ha hb
theorem Ji {h d b p:Nat} (hb:b<18446744073709551616) (hp:p<18446744073709551616):ptQ h d b p<18446744073709551616:=gY (rH _ _) hp hb
theorem AF (w:World) (a b c d:Nat):(w.alloc (.cells #[.int .u64 (a:Int),.int .u64 (b:Int),.int .u64 (c:Int),.int .u64 (d:Int)] 57)).ownsRow w.heap.size 57 1 (.slice (some ⟨w.heap.size,0,none⟩) 4 4) 4 ([a,b,c,d].map uV):=
 ⟨rfl,.inr ⟨w.heap.size,4,#[.int .u64 (a:Int),.int .u64 (b:Int),.int .u64 (c:Int),.int .u64 (d:Int)],rfl,Nat.le_refl _,heap_alloc_new w _,Nat.le_refl _,by unfold maxLen;omega,rfl,rfl⟩⟩
def Jj (w:World) (kind:Int) (v1 v2:Value) (n:Nat) (ds:List Nat):Prop:=∀ wx,Below w.heap.size w wx→Calls Tryz.prog 171 #[.agg #[.int .i64 kind,v1,v2]] wx fun e w'=>∃ v,e=.returned (.tuple #[v,.int .i64 0])∧w'.ownsRow wx.heap.size 57 1 v n (ds.map uV)∧Below wx.heap.size wx w'
structure PRd (w:World) (B:Nat) (vx vy:Value) (bx ox b2 oy bd k:Nat) (x0 x1:Int) (y0 y1 d0 d1:Nat):Prop where
 t1:w.cell? ⟨B,1,none⟩=some vx
 t2:w.cell? ⟨B,2,none⟩=some vy
 a0:w.cell? ⟨bx,ox+k,none⟩=some (.int .i64 x0)
 a1:w.cell? ⟨bx,ox+(k+1),none⟩=some (.int .i64 x1)
 b0:w.cell? ⟨b2,oy+k,none⟩=some (.int .u64 (y0:Int))
 b1:w.cell? ⟨b2,oy+(k+1),none⟩=some (.int .u64 (y1:Int))
 e0:w.cell? ⟨bd,k,none⟩=some (.int .u64 (d0:Int))
 e1:w.cell? ⟨bd,k+1,none⟩=some (.int .u64 (d1:Int))
 lB:B<w.heap.size
 lx:bx<w.heap.size
 ly:b2<w.heap.size
 ld:bd<w.heap.size
theorem PRd.step {w w':World} {B:Nat} {vx vy:Value} {bx ox b2 oy bd k:Nat} {x0 x1:Int} {y0 y1 d0 d1:Nat} (h:PRd w B vx vy bx ox b2 oy bd k x0 x1 y0 y1 d0 d1) (hb:Below w.heap.size w w'):PRd w' B vx vy bx ox b2 oy bd k x0 x1 y0 y1 d0 d1:=
 ⟨(hb.cell (p:=⟨B,1,none⟩) h.lB).trans h.t1,(hb.cell (p:=⟨B,2,none⟩) h.lB).trans h.t2,(hb.cell (p:=⟨bx,ox+k,none⟩) h.lx).trans h.a0,(hb.cell (p:=⟨bx,ox+(k+1),none⟩) h.lx).trans h.a1,(hb.cell (p:=⟨b2,oy+k,none⟩) h.ly).trans h.b0,(hb.cell (p:=⟨b2,oy+(k+1),none⟩) h.ly).trans h.b1,(hb.cell (p:=⟨bd,k,none⟩) h.ld).trans h.e0,(hb.cell (p:=⟨bd,k+1,none⟩) h.ld).trans h.e1,Nat.lt_of_lt_of_le h.lB hb.size,Nat.lt_of_lt_of_le h.lx hb.size,Nat.lt_of_lt_of_le h.ly hb.size,Nat.lt_of_lt_of_le h.ld hb.size⟩
theorem PRd.drew {w:World} {B:Nat} {vx vy:Value} {bx ox b2 oy bd k:Nat} {x0 x1:Int} {y0 y1 d0 d1:Nat} (h:PRd w B vx vy bx ox b2 oy bd k x0 x1 y0 y1 d0 d1):PRd w.drew B vx vy bx ox b2 oy bd k x0 x1 y0 y1 d0 d1:=⟨h.t1,h.t2,h.a0,h.a1,h.b0,h.b1,h.e0,h.e1,h.lB,h.lx,h.ly,h.ld⟩
theorem PRd.three {w:World} {B:Nat} {vx vy:Value} {bx ox b2 oy bd k:Nat} {x0 x1:Int} {y0 y1 d0 d1:Nat} (h:PRd w B vx vy bx ox b2 oy bd k x0 x1 y0 y1 d0 d1):w.cell? ⟨B,1,none⟩=some vx∧w.cell? ⟨bx,ox+k,none⟩=some (.int .i64 x0)∧w.cell? ⟨bx,ox+(k+1),none⟩=some (.int .i64 x1):=⟨h.t1,h.a0,h.a1⟩
set_option maxHeartbeats 6400000 in
theorem xq (kind:Int) (bx ox cx b2 oy cy n k:Nat) (x0 x1:Int) (y0 y1 d0 d1:Nat) (ds:List Nat) (w:World) (hd:ds.length=n) (hd0:ds.getD k 0=d0) (hd1:ds.getD (k+1) 0=d1)
  (hR:∀ w',Below w.heap.size w w'→∀ bd,bd<w'.heap.size→w.heap.size<w'.heap.size→TBox w kind (.slice (some ⟨bx,ox,none⟩) n cx) (.slice (some ⟨b2,oy,none⟩) n cy) w'→w'.cell? ⟨bd,k,none⟩=some (.int .u64 (d0:Int))→w'.cell? ⟨bd,k+1,none⟩=some (.int .u64 (d1:Int))→PRd w' w.heap.size (.slice (some ⟨bx,ox,none⟩) n cx) (.slice (some ⟨b2,oy,none⟩) n cy) bx ox b2 oy bd k x0 x1 y0 y1 d0 d1)
  (hk:k+1<n) (hn:n≤256) (h0:0≤x0) (h1:x0≤109572) (h2:0≤x1) (h3:x1≤109572) (hy0:y0<18446744073709551616) (hy1:y1<18446744073709551616) (hq0:d0<18446744073709551616) (hq1:d1<18446744073709551616)
  (H:Hid (Jj w kind (.slice (some ⟨bx,ox,none⟩) n cx) (.slice (some ⟨b2,oy,none⟩) n cy) n ds)) :
  Calls Tryz.prog 140 #[.agg #[.int .i64 kind,.slice (some ⟨bx,ox,none⟩) n cx,.slice (some ⟨b2,oy,none⟩) n cy],.int .i64 (k:Int)] w fun e w'=>∃ v,e=.returned (.tuple #[v,.int .i64 0])∧w'.ownsRow w.heap.size 57 1 v 4 ([y0,ptP (fi (x1 - x0)) d0 y0 y1,ptQ (fi (x1 - x0)) d1 y1 (ptP (fi (x1 - x0)) d0 y0 y1),y1].map uV)∧Below w.heap.size w w':=by
 have HB:=hideS (bL w kind (.slice (some ⟨bx,ox,none⟩) n cx) (.slice (some ⟨b2,oy,none⟩) n cy))
 unfold Jj at H
 have HR:=hideS hR
 have hlen:k+1<ds.length:=by omega
 have HDS:=hideS (And.intro hd (And.intro hd0 hd1))
 have f1:IntKind.i64.wrap ((k:Int)+1)=(k:Int)+1:=by rw [IntKind.wrap_i64];omega
 have f2:IntKind.i64.wrap (x1 - x0)=x1 - x0:=by rw [IntKind.wrap_i64];omega
 have g1:(0:Int)≤(k:Int)+1:=by omega
 have g2:(k:Int)+1<(n:Int):=by omega
 have g3:(0:Int)≤(k:Int):=by omega
 have g4:(k:Int)<(n:Int):=by omega
 have g5:decide ((k:Int)<0)=false:=decide_eq_false (by omega)
 have g6:decide ((n:Int) - 1≤(k:Int))=false:=decide_eq_false (by omega)
 have hkn:k<n:=by omega
 have HI:=hideS fun wx=>cJ (x1 - x0) wx (by omega) (by omega)
 have HI3:=hideS fun wx=>cJ 3 wx (by decide) (by decide)
 have hF:=iW (n:=x1 - x0) (by omega) (by omega)
 generalize fi (x1 - x0)=F at *
 have HM0:=hideS fun wx=>tT d0 F wx hq0 hF
 have HM1:=hideS fun wx=>tT d1 F wx hq1 hF
 have HV0:=hideS fun wx=>fA (sMul d0 F) (fi 3) wx (zd _ _) DO
 have HV1:=hideS fun wx=>fA (sMul d1 F) (fi 3) wx (zd _ _) DO
 have HA0:=hideS fun wx=>tU y0 (sDiv (sMul d0 F) (fi 3)) wx hy0 (iE _ _)
 have HS1:=hideS fun wx=>tS y1 (sDiv (sMul d1 F) (fi 3)) wx hy1 (iE _ _)
 have HH0:=hideS fun wx=>kE (sAdd y0 (sDiv (sMul d0 F) (fi 3))) y0 y1 wx (rJ _ _) hy0 hy1
 have hP:=xp (h:=F) (d:=d0) hy0 hy1
 have HH1:=hideS fun wx=>kE (sSub y1 (sDiv (sMul d1 F) (fi 3))) (ptP F d0 y0 y1) y1 wx (rH _ _) hP hy1
 have eP:heldN (sAdd y0 (sDiv (sMul d0 F) (fi 3))) y0 y1=ptP F d0 y0 y1:=rfl
 have eQ:heldN (sSub y1 (sDiv (sMul d1 F) (fi 3))) (ptP F d0 y0 y1) y1=ptQ F d1 y1 (ptP F d0 y0 y1):=rfl
 rw [eP] at HH0
 rw [eQ] at HH1
 clear eP eQ
 generalize ptQ F d1 y1 (ptP F d0 y0 y1)=Q at *
 generalize ptP F d0 y0 y1=P at *
 generalize sAdd y0 (sDiv (sMul d0 F) (fi 3))=A0 at *
 generalize sSub y1 (sDiv (sMul d1 F) (fi 3))=S1 at *
 generalize sDiv (sMul d0 F) (fi 3)=V0 at *
 generalize sDiv (sMul d1 F) (fi 3)=V1 at *
 generalize sMul d0 F=M0 at *
 generalize sMul d1 F=M1 at *
 generalize fi 3=T3 at *
 clear hR hd hd0 hd1 hy0 hy1 hq0 hq1 hF hP h0 h1 h2 h3
 go_enter Tryz.func140,Tryz.ntmps140
 go_wp2_with fail
 refine (H.out _ HB.out.bl).mono ?_
 rintro e w1 ⟨v,rfl,ho,hb1⟩
 obtain⟨pd,bd,cd,rfl,hu,hlo,hc1,hc2⟩:=bY ho HDS.out.1
 obtain rfl:=hu.at_ (by omega)
 have HB1:=hideS (HB.out.step hb1)
 have z0:w1.cell? ⟨bd,k,none⟩=some (.int .u64 (d0:Int)):=by have:=hu.cell k (by omega);rw [Nat.zero_add,HDS.out.2.1] at this;exact this
 have z1:w1.cell? ⟨bd,k+1,none⟩=some (.int .u64 (d1:Int)):=by have:=hu.cell (k+1) hlen;rw [Nat.zero_add,HDS.out.2.2] at this;exact this
 have K0:=hideS (HR.out w1 HB1.out.bl bd (hu.lt (by omega)) HB1.out.lt HB1.out z0 z1)
 have B0:=hideS HB1.out.bl
 clear hb1 ho hu hlo hc1 hc2 z0 z1 HB1 HB HR H
 obtain⟨t1,t2,a0,a1,b0,b1,e0,e1,_,_,_,_⟩:=K0.out
 go_wp2_with fail
 go_region_held3 (fun x=>x.cell? ⟨w.heap.size,1,none⟩=some (.slice (some ⟨bx,ox,none⟩) n cx)∧x.cell? ⟨bx,ox+k,none⟩=some (.int .i64 x0)∧x.cell? ⟨bx,ox+(k+1),none⟩=some (.int .i64 x1)) (first | exact K0.out.three | exact K1.out.three | go_keep) ((go_at_call 170;refine (HI.out _).mono ?_;rintro e w2 ⟨rfl,hb2⟩;have B1:=hideS (B0.out.drew.trans (hb2.mono B0.out.size));have K1:=hideS (K0.out.drew.step hb2);clear hb2))
 all_goals
  clear t1 t2 a0 a1 b0 b1 e0 e1
  obtain⟨t1,t2,a0,a1,b0,b1,e0,e1,_,_,_,_⟩:=K1.out
  go_wp2_with (go_at_call 170;refine (HI3.out _).mono ?_;rintro e w3 ⟨rfl,hb3⟩;have B2:=hideS (B1.out.trans (hb3.mono B1.out.size));have K2:=hideS (K1.out.step hb3);have e0':=K2.out.e0;have e1':=K2.out.e1;clear hb3)
  refine (HM0.out _).mono ?_
  rintro e w4 ⟨rfl,hb4⟩
  have B3:=hideS (B2.out.trans (hb4.mono B2.out.size))
  have K3:=hideS (K2.out.step hb4)
  clear hb4 e0' e1'
  go_wp2_with fail
  refine (HV0.out _).mono ?_
  rintro e w5 ⟨rfl,hb5⟩
  have B4:=hideS (B3.out.trans (hb5.mono B3.out.size))
  have K4:=hideS (K3.out.step hb5)
  clear hb5
  go_wp2_with fail
  refine (HA0.out _).mono ?_
  rintro e w6 ⟨rfl,hb6⟩
  have B5:=hideS (B4.out.trans (hb6.mono B4.out.size))
  have K5:=hideS (K4.out.step hb6)
  clear hb6
  have e1':=K5.out.e1
  go_wp2_with (go_at_call 143;refine (turned (HH0.out _)).mono ?_;rintro e wh ⟨rfl,rfl⟩)
  refine (HM1.out _).mono ?_
  rintro e w7 ⟨rfl,hb7⟩
  have B6:=hideS (B5.out.trans (hb7.mono B5.out.size))
  clear hb7 e1'
  go_wp2_with fail
  refine (HV1.out _).mono ?_
  rintro e w8 ⟨rfl,hb8⟩
  have B7:=hideS (B6.out.trans (hb8.mono B6.out.size))
  clear hb8
  go_wp2_with fail
  refine (HS1.out _).mono ?_
  rintro e w9 ⟨rfl,hb9⟩
  have B8:=hideS (B7.out.trans (hb9.mono B7.out.size))
  clear hb9
  have HO:=hideS (AF w9 y0 P Q y1)
  go_wp2_with (go_at_call 143;refine (turned (HH1.out _)).mono ?_;rintro e wh ⟨rfl,rfl⟩)
  go_ret2
  exact⟨_,rfl,iF HO.out B8.out.size,B8.out.alloc B8.out.size _⟩
def ptL (xs:List Int) (ys:List Nat) (k:Nat):List Nat:=
 [ys.getD k 0,ptP (fi (xs.getD (k+1) 0 - xs.getD k 0)) ((bA xs ys xs.length).getD k 0) (ys.getD k 0) (ys.getD (k+1) 0),ptQ (fi (xs.getD (k+1) 0 - xs.getD k 0)) ((bA xs ys xs.length).getD (k+1) 0) (ys.getD (k+1) 0) (ptP (fi (xs.getD (k+1) 0 - xs.getD k 0)) ((bA xs ys xs.length).getD k 0) (ys.getD k 0) (ys.getD (k+1) 0)),ys.getD (k+1) 0]
theorem tZ (xs:List Int) (ys:List Nat):∀ k,∀ d ∈ dH xs ys k,d<18446744073709551616
 | 0,d,h=>by
  have:d=steepB xs ys 0:=by simpa [dH] using h
  rw [this];exact kD _ _ _
 | k+1,d,h=>by
  rw [gl,List.mem_append] at h
  rcases h with h | h
  ·exact tZ xs ys k d h
  ·have:d=slB (steepB xs ys k) (steepB xs ys (k+1)):=by simpa using h
   rw [this];exact Jh _ _
theorem AG {xs:List Int} {ys:List Nat} {n:Nat} (hn:1≤n):(bA xs ys n).length=n:=by
 unfold bA
 split
 ·rename_i h;rw [h];rfl
 ·rw [List.length_append,dP];simp;omega
theorem uc {xs:List Int} {ys:List Nat} {n:Nat} (i:Nat):(bA xs ys n).getD i 0<18446744073709551616:=by
 by_cases hi:i<(bA xs ys n).length
 ·have e:(bA xs ys n).getD i 0=(bA xs ys n)[i]:=by simp [List.getD,List.getElem?_eq_getElem hi]
  rw [e]
  have hm:=List.getElem_mem hi
  generalize (bA xs ys n)[i]=d at *
  unfold bA at hm
  split at hm
  ·have:d=0:=by simpa using hm
   rw [this];decide
  ·rw [List.mem_append] at hm
   rcases hm with h | h
   ·exact tZ xs ys _ d h
   ·have:d=steepB xs ys (n - 2):=by simpa using h
    rw [this];exact kD _ _ _
 ·have e:(bA xs ys n).getD i 0=0:=by simp [List.getD,List.getElem?_eq_none (show (bA xs ys n).length≤i by omega)]
  rw [e];decide
theorem nj (kind:Int) (px py:Option Addr) (bx ox cx b2 oy cy n k:Nat) (xs:List Int) (ys:List Nat) (w:World) (h:OkT kind xs ys) (hn:xs.length=n) (hs:TSrc w px py bx ox b2 oy xs ys) (hk:k+1<n) :
  Calls Tryz.prog 140 #[.agg #[.int .i64 kind,.slice px n cx,.slice py n cy],.int .i64 (k:Int)] w fun e w'=>∃ v,e=.returned (.tuple #[v,.int .i64 0])∧w'.ownsRow w.heap.size 57 1 v 4 ((ptL xs ys k).map uV)∧Below w.heap.size w w':=by
 have hyl:=h.len
 have hlo:=h.lo
 have hhi:=h.hi
 have H:Jj w kind (.slice px n cx) (.slice py n cy) n (bA xs ys n):=fun wx hb=>ni kind px py bx ox cx b2 oy cy n xs ys wx h hn (hs.below hb)
 obtain rfl:=hs.x.at_ (by omega)
 obtain rfl:=hs.y.at_ (by omega)
 have n0:=ao (h.node k (by omega))
 have n1:=ao (h.node (k+1) (by omega))
 have y0:=hs.f k (by omega)
 have y1:=hs.f (k+1) (by omega)
 unfold ptL
 rw [hn]
 exact xq kind bx ox cx b2 oy cy n k (xs.getD k 0) (xs.getD (k+1) 0) (ys.getD k 0) (ys.getD (k+1) 0) _ _ (bA xs ys n) w (AG (by omega)) rfl rfl
  (fun w' hb bd hbd hlt ht e0 e1=>by
   have hs':=hs.below hb
   exact⟨ht.t1,ht.t2,hs'.x.cell k (by omega),hs'.x.cell (k+1) (by omega),hs'.y.cell k (by omega),hs'.y.cell (k+1) (by omega),e0,e1,hlt,hs'.x.lt (by omega),hs'.y.lt (by omega),hbd⟩)
  hk (by omega) n0.1 n0.2.1 n1.1 n1.2.1 (by have:=y0.2;omega) (by have:=y1.2;omega) (uc _) (uc _) H
end Go.Proofs.YtjjlnmihkadlmaaGreat
