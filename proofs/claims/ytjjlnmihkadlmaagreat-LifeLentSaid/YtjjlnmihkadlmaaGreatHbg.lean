/-  -/
import Derived.Test.YtjjlnmihkadlmaaGreatHbf
import Derived.Test.YtjjlnmihkadlmaaGreatHal
import Derived.Test.YtjjlnmihkadlmaaGreatHam
namespace Go.Proofs.YtjjlnmihkadlmaaGreat.A
open Go.RowKit

structure St where
 s:Nat
 N:Int
def mt (s t:Nat):Nat:=if s=t∨t=0 then s else if s=0 then t else 3
def St.merge (a b:St):St:=⟨mt a.s b.s,if mt a.s b.s=0 then a.N+b.N else 0⟩
def endN (u:Int):Nat:=if ag u then 3 else if sgB u then 2 else 1
def kA (u:Int):Int:=aC u*2^(aP u+2148).toNat
def cS (u:Int):St:=if aD u then ⟨0,kA u⟩ else ⟨endN u,0⟩
def ju (u v:Int):St:=⟨0,aC u*aC v*2^(aP u+aP v+2148).toNat⟩
structure St.Ok (a:St):Prop where
 s3:a.s≤3
 n0:a.s≠0→a.N=0

structure AccAt (w:World) (B b:Nat) (v:Value) (L:Nat) (a:St):Prop where
 blk:w.heap[b]? =some (.cells #[.int .u8 (a.s:Int),v] 134 (0,0))
 lo:B≤b
 own:∃ xs,OwnW w B v xs∧xs.length≤L∧Sg xs a.N
 ne:v.ownBlock≠some b
 ok:a.Ok
def Ft (b:Nat) (v:Value) (k:Nat):Prop:=k=b∨At v k
theorem AccAt.lt {w:World} {B b:Nat} {v:Value} {L:Nat} {a:St} (h:AccAt w B b v L a):b<w.heap.size:=(Array.getElem?_eq_some_iff.1 h.blk).1
theorem AccAt.base {w:World} {B b:Nat} {v:Value} {L:Nat} {a:St} (h:AccAt w B b v L a):∀ k,Ft b v k→B≤k∧k<w.heap.size:=by
 rintro k (rfl | hk)
 ·exact⟨h.lo,h.lt⟩
 ·obtain⟨xs,ho,_⟩:=h.own;exact ho.lt k hk
theorem AccAt.wrote {w w':World} {B b:Nat} {v:Value} {L:Nat} {a:St} {F:Nat→Prop} (h:AccAt w B b v L a) (hw:Wrote w w' F) (hF:∀ k,Ft b v k→¬ F k):AccAt w' B b v L a:=by
 obtain⟨xs,ho,hl,hs⟩:=h.own
 exact⟨(hw.block b h.lt (hF b (Or.inl rfl))).trans h.blk,h.lo,⟨xs,ho.wrote hw (fun k hk=>hF k (Or.inr hk)),hl,hs⟩,h.ne,h.ok⟩
theorem AccAt.below {w w':World} {B b:Nat} {v:Value} {L:Nat} {a:St} (h:AccAt w B b v L a) (hw:Below w.heap.size w w'):AccAt w' B b v L a:=
 h.wrote (F:=fun _=>False) (su hw) (fun _ _ hf=>hf)
theorem AccAt.drewN {w:World} {B b:Nat} {v:Value} {L:Nat} {a:St} (h:AccAt w B b v L a) (n:Nat):AccAt (w.drewN n) B b v L a:=by
 obtain⟨xs,ho,hl,hs⟩:=h.own
 exact⟨h.blk,h.lo,⟨xs,ho.drewN n,hl,hs⟩,h.ne,h.ok⟩
theorem AccAt.mono {w:World} {B b:Nat} {v:Value} {L L':Nat} {a:St} (h:AccAt w B b v L a) (hl:L≤L'):AccAt w B b v L' a:=by
 obtain⟨xs,ho,hl2,hs⟩:=h.own
 exact⟨h.blk,h.lo,⟨xs,ho,by omega,hs⟩,h.ne,h.ok⟩
theorem AccAt.cell0 {w:World} {B b:Nat} {v:Value} {L:Nat} {a:St} (h:AccAt w B b v L a):w.cell? ⟨b,0,none⟩=some (.int .u8 (a.s:Int)):=by simp [World.cell?,h.blk]
theorem AccAt.cell1 {w:World} {B b:Nat} {v:Value} {L:Nat} {a:St} (h:AccAt w B b v L a):w.cell? ⟨b,1,none⟩=some v:=by simp [World.cell?,h.blk]
theorem AccAt.frozen {w:World} {B b:Nat} {v:Value} {L:Nat} {a:St} (h:AccAt w B b v L a) (i:Nat):w.frozen? ⟨b,i,none⟩=false:=by simp [World.frozen?,h.blk]

theorem AccAt.stored {w w1:World} {B b:Nat} {v v':Value} {L L':Nat} {a:St} {zs:List Nat} {M:Int} (h:AccAt w B b v L a) (hw:Wrote w w1 (At v)) (ho:OwnW w1 B v' zs) (hl:zs.length≤L') (hs:Sg zs M) (hn:New w v v') (hok:a.s≠0→M=0) :
  AccAt (w1.setCell ⟨b,1,none⟩ v') B b v' L' ⟨a.s,M⟩ ∧Wrote w (w1.setCell ⟨b,1,none⟩ v') (Ft b v):=by
 have hne:v'.ownBlock≠some b:=fun e=>by
  rcases hn b e with h1 | h1
  ·exact h.ne h1
  ·have:=h.lt;omega
 have hb:w1.heap[b]? =some (.cells #[.int .u8 (a.s:Int),v] 134 (0,0)):=(hw.block b h.lt (fun e=>h.ne e)).trans h.blk
 have hset:Wrote w1 (w1.setCell ⟨b,1,none⟩ v') (fun k=>k=b):=⟨rfl,rfl,rfl,by simp,fun k _ hk=>Below.heap_setCell w1 ⟨b,1,none⟩ v' k hk⟩
 refine⟨⟨?_,h.lo,⟨zs,ho.wrote hset (fun k hk e=>hne (by rw [← e];exact hk)),hl,hs⟩,hne,⟨h.ok.s3,hok⟩⟩,?_⟩
 ·rw [heap_setCell_same w1 b 1 _ _ v' hb];rfl
 ·exact (hw.mono (fun k hk=>Or.inr hk)).trans hset (fun k _ hk=>Or.inl hk)
theorem AccAt.wroteAt {w w1:World} {B b:Nat} {v:Value} {L:Nat} {a:St} (h:AccAt w B b v L a) (hw:Wrote w w1 (At v)):w1.cell? ⟨b,1,none⟩=some v∧w1.frozen? ⟨b,1,none⟩=false:=by
 have hb:w1.heap[b]? =some (.cells #[.int .u8 (a.s:Int),v] 134 (0,0)):=(hw.block b h.lt (fun e=>h.ne e)).trans h.blk
 exact⟨by simp [World.cell?,hb],by simp [World.frozen?,hb]⟩

theorem BH (u:Int):ag u=true↔9218868437227405312<szI u:=by simp [ag]
theorem BI (u:Int):ag u=false↔szI u≤9218868437227405312:=by simp [ag]
theorem Fz {s t:Nat} (hs:s≤3) (ht:t≤3):mt s t≤3:=by unfold mt;split<;>(try split)<;>omega
set_option maxHeartbeats 800000 in
theorem vu (s t:Nat) (w:World) (hs:s≤3) (ht:t≤3) :
  Calls Tryz.prog 106 #[.int .u8 (s:Int),.int .u8 (t:Int)] w fun e w'=>e=.returned (.int .u8 (mt s t:Nat))∧w'=w:=by
 rcases (show s=0∨s=1∨s=2∨s=3 by omega) with rfl | rfl | rfl | rfl
 all_goals rcases (show t=0∨t=1∨t=2∨t=3 by omega) with rfl | rfl | rfl | rfl
 all_goals
  go_enter Tryz.func106,Tryz.ntmps106
  go_wp2
  go_ret
  exact⟨rfl,rfl⟩

set_option maxHeartbeats 400000 in
theorem yF (b:Nat) (u:Int) (w:World) (hu:Hid (u=b)) (h:U64 u) (hno:aD u=false) :
  Calls Tryz.prog 69 #[.float .f64 b] w fun e w'=>e=.returned (.int .u8 (endN u:Nat))∧w'=w:=by
 have HC:=hideS (fun w=>An b u w hu h)
 have HN:=hideS (fun w=>pB b w (by rw [← hu.out];exact h))
 rw [← hu.out] at HN
 have hge:9218868437227405312≤szI u:=by simp only [aD,decide_eq_false_iff_not] at hno;omega
 have HE:=hideS (show endN u=if ag u then 3 else if sgB u then 2 else 1 from rfl)
 cases hnan:ag u
 ·have hc:pw u=4:=by
   have:=(BI u).1 hnan
   rcases cls_cases u with⟨a,_⟩| ⟨a,_⟩| ⟨a,_⟩| ⟨_,a⟩| ⟨a,_⟩
   ·omega
   ·omega
   ·omega
   ·exact a
   ·omega
  rw [hc] at HC
  rw [hnan] at HN HE
  cases hsg:sgB u
  ·rw [hsg] at HN HE
   rw [HE.out]
   clear hu h hno hge hc hnan hsg HE
   go_enter Tryz.func69,Tryz.ntmps69
   go_wp2_with (first | (go_at_call 107;refine (HC.out _).mono ?_;rintro e w' ⟨rfl,rfl⟩) | (go_at_call 108;refine (HN.out _).mono ?_;rintro e w' ⟨rfl,rfl⟩))
   go_ret
   exact⟨rfl,rfl⟩
  ·rw [hsg] at HN HE
   rw [HE.out]
   clear hu h hno hge hc hnan hsg HE
   go_enter Tryz.func69,Tryz.ntmps69
   go_wp2_with (first | (go_at_call 107;refine (HC.out _).mono ?_;rintro e w' ⟨rfl,rfl⟩) | (go_at_call 108;refine (HN.out _).mono ?_;rintro e w' ⟨rfl,rfl⟩))
   go_ret
   exact⟨rfl,rfl⟩
 ·have hc:pw u=5:=by
   have:=(BH u).1 hnan
   rcases cls_cases u with⟨a,_⟩| ⟨a,_⟩| ⟨a,_⟩| ⟨a,_⟩| ⟨_,a⟩
   ·omega
   ·omega
   ·omega
   ·omega
   ·exact a
  rw [hc] at HC
  rw [hnan] at HE
  rw [HE.out]
  clear hu h hno hge hc hnan HE HN
  go_enter Tryz.func69,Tryz.ntmps69
  go_wp2_with (go_at_call 107;refine (HC.out _).mono ?_;rintro e w' ⟨rfl,rfl⟩)
  go_ret
  exact⟨rfl,rfl⟩

set_option maxHeartbeats 400000 in
theorem iH (m:Int) (w:World) (h0: -9007199254740992≤m) (h1:m≤9007199254740992) :
  Calls Tryz.prog 71 #[.int .i64 m] w fun e w'=>e=.returned (.int .u64 (m.natAbs:Nat))∧w'=w:=by
 obtain⟨k,hk⟩:∃ k:Nat,m.natAbs=k:=⟨_,rfl⟩
 rw [hk]
 have hmax:max m (-m)=(k:Int):=by omega
 have hw:IntKind.u64.wrap (k:Int)=(k:Int):=by rw [IntKind.wrap_u64];omega
 clear hk
 go_enter Tryz.func71,Tryz.ntmps71
 go_wp2
 go_ret
 exact⟨rfl,rfl⟩
end Go.Proofs.YtjjlnmihkadlmaaGreat.A
namespace Go.Proofs.YtjjlnmihkadlmaaGreat.A
open Go.RowKit

structure Did (w w':World) (B b:Nat) (v:Value) (L:Nat) (a:St) (v':Value):Prop where
 acc:AccAt w' B b v' L a
 wrote:Wrote w w' (Ft b v)
 new:New w v v'
theorem or_zero {hi lo:Nat}:hi||| lo=0↔hi=0∧lo=0:=Nat.or_eq_zero_iff

theorem Ht {w:World} {B b:Nat} {v:Value} {L:Nat} {a:St} (h:AccAt w B b v L a) (h0:a.s=0):AccAt w B b v L ⟨0,a.N⟩:=by
 obtain⟨s,N⟩:=a
 dsimp only at h0
 subst h0;exact h
set_option maxHeartbeats 800000 in
theorem xf (B b:Nat) (v:Value) (L:Nat) (a:St) (hi lo sh:Nat) (e:Int) (less:Bool) (w:World) (h:AccAt w B b v L a) (hB:B≤w.heap.size) (hhi:hi<4398046511104) (hlo:lo<18446744073709551616) (he:e+2148=(sh:Int)) (hsh:sh≤4300) (hL:L≤40000) :
  Calls Tryz.prog 70 #[.pointer (some ⟨b,0,none⟩),.int .u64 (hi:Int),.int .u64 (lo:Int),.int .i64 e,.bool less] w fun x w'=>x=.returned (.tuple #[])∧∃ v',Did w w' B b v (max L 70+1) ⟨a.s,if a.s=0 then a.N+sI less*(((hi*18446744073709551616+lo)*2^sh:Nat):Int) else a.N⟩ v':=by
 have HA:=hideS h
 have c0:=h.cell0
 have c1:=h.cell1
 have hor:=bits_or_u64_nat hi lo (by omega) hlo
 obtain⟨xs,ho,hl,hs⟩:=h.own
 have HW:=hideS (BG B v xs a.N hi lo sh less w ho hs hhi hlo (by omega) (by omega) hB)
 have HO:=hideS (And.intro ho (And.intro hl hs))
 clear h ho hl hs
 by_cases h0:a.s=0
 ·rw [if_pos h0,h0]
  rw [h0] at c0
  by_cases hz:hi||| lo=0
  ·obtain⟨rfl,rfl⟩:=or_zero.1 hz
   have hor2:bits .or .u64 0 0=0:=rfl
   clear hor
   go_enter Tryz.func70,Tryz.ntmps70
   go_wp2
   go_end0
   refine⟨rfl,v,?_,Wrote.refl _ _,New.refl _ _⟩
   have:=HA.out.mono (L':=max L 70+1) (by omega)
   simpa [h0] using Ht this h0
  ·obtain⟨q,hq⟩:∃ q:Int,((hi||| lo:Nat):Int)=q:=⟨_,rfl⟩
   rw [hq] at hor
   have hq0:(q !=0)=true:=by simp;omega
   clear hz hq
   go_enter Tryz.func70,Tryz.ntmps70
   go_wp2_with fail
   refine HW.out.mono ?_
   rintro x w1 ⟨v1,zs,rfl,o1,l1,s1,r1,n1⟩
   obtain⟨p1,g1,cc1,rfl,_⟩:=o1.shape
   obtain⟨d1,fz⟩:=HA.out.wroteAt r1
   have R:=hideS (HA.out.stored r1 o1 (L':=max L 70+1) (by have:=HO.out.2.1;omega) s1 n1 (fun h=>absurd h0 h))
   have RN:=hideS n1
   clear o1 l1 s1 r1 n1 HW
   go_wp2_with fail
   go_end0
   refine⟨rfl,_,?_,R.out.2,RN.out⟩
   rw [h0] at R
   exact R.out.1
 ·rw [if_neg h0]
  have hs3:=HA.out.ok.s3
  obtain⟨t,ht⟩:∃ t:Int,((a.s:Nat):Int)=t:=⟨_,rfl⟩
  rw [ht] at c0
  have ht0:(t==0)=false:=by simp;omega
  clear ht hor HW
  go_enter Tryz.func70,Tryz.ntmps70
  go_wp2_with fail
  go_end0
  exact⟨rfl,v,HA.out.mono (by omega),Wrote.refl _ _,New.refl _ _⟩

theorem AccAt.setState {w:World} {B b:Nat} {v:Value} {L:Nat} {a:St} (h:AccAt w B b v L a) (t:Nat) (ht:t≤3) (h0:t≠0→a.N=0) :
  AccAt (w.setCell ⟨b,0,none⟩ (.int .u8 (t:Int))) B b v L ⟨t,a.N⟩ ∧Wrote w (w.setCell ⟨b,0,none⟩ (.int .u8 (t:Int))) (fun k=>k=b):=by
 have hset:Wrote w (w.setCell ⟨b,0,none⟩ (.int .u8 (t:Int))) (fun k=>k=b):=⟨rfl,rfl,rfl,by simp,fun k _ hk=>Below.heap_setCell w ⟨b,0,none⟩ _ k hk⟩
 obtain⟨xs,ho,hl,hs⟩:=h.own
 refine⟨⟨?_,h.lo,⟨xs,ho.wrote hset (fun k hk e=>h.ne (by rw [← e];exact hk)),hl,hs⟩,h.ne,⟨ht,h0⟩⟩,hset⟩
 rw [heap_setCell_same w b 0 _ _ _ h.blk];rfl
theorem AccAt.setNil {w:World} {B b:Nat} {v:Value} {L:Nat} {a:St} {t:Nat} (h:AccAt w B b v L a) (ht:t≤3) (hbk:∀ w',w'=w.setCell ⟨b,0,none⟩ (.int .u8 (t:Int))→True) :
  AccAt ((w.setCell ⟨b,0,none⟩ (.int .u8 (t:Int))).setCell ⟨b,1,none⟩ (.slice none 0 0)) B b (.slice none 0 0) L ⟨t,0⟩ ∧Wrote w ((w.setCell ⟨b,0,none⟩ (.int .u8 (t:Int))).setCell ⟨b,1,none⟩ (.slice none 0 0)) (fun k=>k=b):=by
 have:=hbk _ rfl
 have h1:=heap_setCell_same w b 0 _ _ (.int .u8 (t:Int)) h.blk
 have hset:Wrote w ((w.setCell ⟨b,0,none⟩ (.int .u8 (t:Int))).setCell ⟨b,1,none⟩ (.slice none 0 0)) (fun k=>k=b):=
  ⟨rfl,rfl,rfl,by simp,fun k _ hk=>(Below.heap_setCell _ ⟨b,1,none⟩ _ k hk).trans (Below.heap_setCell w ⟨b,0,none⟩ _ k hk)⟩
 refine⟨⟨?_,h.lo,⟨[],⟨World.ownsRow_nil _ _ _ _,fun i=>by simp⟩,Nat.zero_le _,uM⟩,fun e=>(by cases e),⟨ht,fun _=>rfl⟩⟩,hset⟩
 rw [heap_setCell_same _ b 1 _ _ _ h1];rfl

set_option maxHeartbeats 800000 in
theorem sD (B b:Nat) (v:Value) (L:Nat) (a:St) (t:Nat) (w:World) (h:AccAt w B b v L a) (ht:t≤3) :
  Calls Tryz.prog 68 #[.pointer (some ⟨b,0,none⟩),.int .u8 (t:Int)] w fun x w'=>x=.returned (.tuple #[])∧∃ v',Did w w' B b v L ⟨mt a.s t,if mt a.s t=0 then a.N else 0⟩ v'∧(mt a.s t=0→v'=v):=by
 have HA:=hideS h
 have c0:=h.cell0
 have c1:=h.cell1
 have f0:=h.frozen 0
 have f1:=h.frozen 1
 have hs3:=h.ok.s3
 have HJ:=hideS (fun w=>vu a.s t w hs3 ht)
 have hm3:=Fz hs3 ht
 have HB:=hideS h.blk
 by_cases h0:mt a.s t=0
 ·rw [if_pos h0,h0]
  have HS:=hideS (h.setState 0 (by omega) (fun h=>absurd rfl h))
  rw [h0] at HJ
  have d0:(w.setCell ⟨b,0,none⟩ (.int .u8 0)).cell? ⟨b,0,none⟩=some (.int .u8 0):=HS.out.1.cell0
  clear h hs3 hm3 HB
  generalize (a.s:Int)=q at c0 HJ
  go_enter Tryz.func68,Tryz.ntmps68
  go_wp2_with (go_at_call 106;refine (turned (HJ.out _)).mono ?_;rintro e w' ⟨rfl,rfl⟩)
  go_end0
  exact⟨rfl,v,⟨HS.out.1,HS.out.2.mono (fun k hk=>Or.inl hk),New.refl _ _⟩,fun _=>rfl⟩
 ·rw [if_neg h0]
  have HS:=hideS (h.setNil hm3 (fun _ _=>trivial))
  have HS0:Hid ((w.setCell ⟨b,0,none⟩ (.int .u8 (mt a.s t:Nat))).cell? ⟨b,0,none⟩=some (.int .u8 (mt a.s t:Nat))∧(w.setCell ⟨b,0,none⟩ (.int .u8 (mt a.s t:Nat))).cell? ⟨b,1,none⟩=some v∧(w.setCell ⟨b,0,none⟩ (.int .u8 (mt a.s t:Nat))).frozen? ⟨b,1,none⟩=false):=by
   have h1:=heap_setCell_same w b 0 _ _ (.int .u8 (mt a.s t:Nat)) h.blk
   exact⟨by simp [World.cell?,h1],by simp [World.cell?,h1],by simp [World.frozen?,h1]⟩
  obtain⟨d0,d1,d2⟩:=HS0.out
  have hq0:¬ ((mt a.s t:Nat):Int)=0:=by omega
  clear h hs3 hm3 HB HS0
  have HM:=hideS h0
  clear h0
  generalize (a.s:Int)=q at c0 HJ
  obtain⟨r,hr⟩:∃ r:Int,((mt a.s t:Nat):Int)=r:=⟨_,rfl⟩
  have hr0:(r !=0)=true:=by rw [← hr];simpa using hq0
  rw [hr] at HJ HS d0 d1 d2
  clear hq0
  go_enter Tryz.func68,Tryz.ntmps68
  go_wp2_with (go_at_call 106;refine (turned (HJ.out _)).mono ?_;rintro e w' ⟨rfl,rfl⟩)
  go_end0
  exact⟨rfl,.slice none 0 0,⟨HS.out.1,HS.out.2.mono (fun k hk=>Or.inl hk),fun k hk=>by cases hk⟩,fun e=>absurd e HM.out⟩
end Go.Proofs.YtjjlnmihkadlmaaGreat.A
namespace Go.Proofs.YtjjlnmihkadlmaaGreat.A
open Go.RowKit

theorem qm (u:Int): -9007199254740992<aC u∧aC u<9007199254740992:=by
 unfold aC eB
 have:=pA u
 split
 ·split<;>split<;>omega
 ·omega
theorem qp (u:Int): -1074≤aP u∧aP u≤971:=by
 unfold aP ir
 split
 ·rename_i h
  simp only [Bool.and_eq_true,aD,decide_eq_true_eq] at h
  have:=pA u
  split<;>omega
 ·omega
theorem BJ {a b:St} (h:a.s=b.s) (h':a.N=b.N):a=b:=by
 cases a;cases b;simp_all
theorem oC {a:St} (h:a.Ok) (M:Int):(⟨a.s,if a.s=0 then a.N+M else a.N⟩:St)=a.merge ⟨0,M⟩:=by
 unfold St.merge
 have e:mt a.s 0=a.s:=by simp [mt]
 apply BJ
 ·exact e.symm
 ·show (if a.s=0 then a.N+M else a.N)=if mt a.s 0=0 then a.N+M else 0
  rw [e]
  by_cases h0:a.s=0
  ·rw [if_pos h0,if_pos h0]
  ·rw [if_neg h0,if_neg h0,h.n0 h0]
theorem yG (a:St) (t:Nat):(⟨mt a.s t,if mt a.s t=0 then a.N else 0⟩:St)=a.merge ⟨t,0⟩:=by
 unfold St.merge
 apply BJ
 ·rfl
 ·show _=if mt a.s t=0 then a.N+0 else 0
  rw [Int.add_zero]
theorem Ey (u:Int):endN u≤3:=by unfold endN;split<;>(try split)<;>omega

set_option maxHeartbeats 400000 in
theorem kX (w:World) (B:Nat) (hB:B≤w.heap.size) :
  Calls Tryz.prog 30 #[] w fun x w'=>x=.returned (.pointer (some ⟨w.heap.size,0,none⟩))∧AccAt w' B w.heap.size (.slice none 0 0) 0 ⟨0,0⟩ ∧Below w.heap.size w w':=by
 have HA:Hid (AccAt (w.alloc (.cells #[.int .u8 0,.slice none 0 0] 134)) B w.heap.size (.slice none 0 0) 0 ⟨0,0⟩):=
  ⟨heap_alloc_new w _,hB,⟨[],⟨World.ownsRow_nil _ _ _ _,fun i=>by simp⟩,Nat.le_refl _,uM⟩,fun e=>(by cases e),⟨Nat.zero_le _,fun h=>absurd rfl h⟩⟩
 go_enter Tryz.func30,Tryz.ntmps30
 go_wp2
 go_ret
 exact⟨rfl,HA.out,(Below.refl _ _).alloc (Nat.le_refl _) _⟩

set_option maxHeartbeats 800000 in
theorem Ez (B b:Nat) (v:Value) (L:Nat) (a:St) (x:Nat) (u:Int) (w:World) (h:AccAt w B b v L a) (hB:B≤w.heap.size) (hu:Hid (u=x)) (hx:U64 u) (hL:L≤40000) :
  Calls Tryz.prog 31 #[.pointer (some ⟨b,0,none⟩),.float .f64 x] w fun r w'=>r=.returned (.tuple #[])∧∃ v',Did w w' B b v (max L 70+1) (a.merge (cS u)) v':=by
 have HS:=hideS (dO x u w hu hx)
 obtain⟨tgt,htgt⟩:∃ tgt:St,a.merge (cS u)=tgt:=⟨_,rfl⟩
 rw [htgt]
 cases hok:aD u
 ·have HE:=hideS (yF x u w hu hx hok)
  have HM:=hideS (sD B b v L a (endN u) w h (Ey u))
  have HR:Hid (tgt=⟨mt a.s (endN u),if mt a.s (endN u)=0 then a.N else 0⟩):=by
   show _=_
   rw [← htgt]
   unfold cS
   rw [hok,yG];rfl
  rw [hok] at HS
  clear hu hx h hok htgt
  go_enter Tryz.func31,Tryz.ntmps31
  go_wp2_with (first | (go_at_call 67;refine (turned HS.out).mono ?_;rintro e w' ⟨rfl,rfl⟩) | (go_at_call 69;refine (turned HE.out).mono ?_;rintro e w' ⟨rfl,rfl⟩) | (go_at_call 68;refine HM.out.mono ?_;rintro e w1 ⟨rfl,v1,hd,_⟩))
  have HD:=hideS hd
  clear hd
  first | go_end0 | refine bodyPost_ret (results_none rfl _ _ _) rfl ?_
  exact⟨rfl,v1,⟨by rw [HR.out];exact HD.out.acc.mono (by omega),HD.out.wrote,HD.out.new⟩⟩
 ·have hm:=qm u
  have he:=qp u
  obtain⟨sh,hsh⟩:∃ sh:Nat,aP u+2148=sh:=⟨(aP u+2148).toNat,by omega⟩
  have HP:=hideS (xf B b v L a 0 (aC u).natAbs sh (aP u) (decide (aC u<0)) w h hB (by decide) (by omega) hsh (by omega) hL)
  have HZ:=hideS (fun w=>iH (aC u) w (by omega) (by omega))
  have HR:Hid (tgt=⟨a.s,if a.s=0 then a.N+sI (decide (aC u<0))*(((0*18446744073709551616+(aC u).natAbs)*2^sh:Nat):Int) else a.N⟩):=by
   show _=_
   rw [← htgt,oC h.ok]
   unfold cS
   rw [hok]
   simp only [if_true]
   congr 2
   unfold kA
   rw [hsh,Int.toNat_natCast,Nat.zero_mul,Nat.zero_add,Int.natCast_mul,← Int.mul_assoc,Int.natCast_pow]
   congr 1
   unfold sI
   by_cases h0:aC u<0
   ·simp [h0];omega
   ·simp [h0];omega
  rw [hok] at HS
  clear hu hx h hok htgt
  generalize aC u=m at *
  generalize aP u=ee at *
  go_enter Tryz.func31,Tryz.ntmps31
  go_wp2_with (first | (go_at_call 67;refine (turned HS.out).mono ?_;rintro e w' ⟨rfl,rfl⟩) | (go_at_call 71;refine (turned (HZ.out _)).mono ?_;rintro e w' ⟨rfl,rfl⟩))
  refine HP.out.mono ?_
  rintro e w1 ⟨rfl,v1,hd⟩
  have HD:=hideS hd
  clear hd
  go_wp2_with fail
  go_end0
  exact⟨rfl,v1,by rw [HR.out];exact HD.out⟩
end Go.Proofs.YtjjlnmihkadlmaaGreat.A
namespace Go.Proofs.YtjjlnmihkadlmaaGreat.A
open Go.RowKit

theorem yH (m n:Int):sI (decide (m<0) !=decide (n<0))*((m.natAbs:Int)*(n.natAbs:Int))=m*n:=by
 unfold sI
 by_cases h1:m<0
 ·have e1:(m.natAbs:Int)= -m:=by omega
  by_cases h2:n<0
  ·have e2:(n.natAbs:Int)= -n:=by omega
   simp [h1,h2,e1,e2,Int.neg_mul_neg]
  ·have e2:(n.natAbs:Int)=n:=by omega
   simp [h1,h2,e1,e2,Int.neg_mul]
 ·have e1:(m.natAbs:Int)=m:=by omega
  by_cases h2:n<0
  ·have e2:(n.natAbs:Int)= -n:=by omega
   simp [h1,h2,e1,e2,Int.mul_neg]
  ·have e2:(n.natAbs:Int)=n:=by omega
   simp [h1,h2,e1,e2]
theorem yI (x y:Nat) (w:World) (hx:x<18446744073709551616) (hy:y<18446744073709551616) :
  Calls Tryz.prog 131 #[.int .u64 x,.int .u64 y] w fun e w'=>e=.returned (.tuple #[.int .u64 ((x*y / 18446744073709551616:Nat):Int),.int .u64 ((x*y % 18446744073709551616:Nat):Int)])∧w'=w:=
 Any.bits_Mul64 Tryz.mulL x y hx hy w

set_option maxHeartbeats 800000 in
theorem sE (B b:Nat) (v:Value) (L:Nat) (a:St) (x y:Nat) (u t:Int) (w:World) (h:AccAt w B b v L a) (hB:B≤w.heap.size) (hu:Hid (u=x)) (hx:U64 u) (ht:Hid (t=y)) (hy:U64 t) (h1:aD u=true) (h2:aD t=true) (hL:L≤40000) :
  Calls Tryz.prog 94 #[.pointer (some ⟨b,0,none⟩),.float .f64 x,.float .f64 y] w fun r w'=>r=.returned (.tuple #[])∧∃ v',Did w w' B b v (max L 70+1) (a.merge (ju u t)) v':=by
 have HS:=hideS (dO x u w hu hx)
 have HT:=hideS (dO y t w ht hy)
 rw [h1] at HS
 rw [h2] at HT
 have hm:=qm u
 have he:=qp u
 have hn:=qm t
 have hf:=qp t
 obtain⟨sh,hsh⟩:∃ sh:Nat,aP u+aP t+2148=sh:=⟨(aP u+aP t+2148).toNat,by omega⟩
 have hP:(aC u).natAbs*(aC t).natAbs<9007199254740992*9007199254740992:=Nat.mul_lt_mul'' (by omega) (by omega)
 have HM:=hideS (fun w=>yI (aC u).natAbs (aC t).natAbs w (by omega) (by omega))
 have HZ:=hideS (fun w=>iH (aC u) w (by omega) (by omega))
 have HY:=hideS (fun w=>iH (aC t) w (by omega) (by omega))
 obtain⟨tgt,htgt⟩:∃ tgt:St,a.merge (ju u t)=tgt:=⟨_,rfl⟩
 rw [htgt]
 obtain⟨P,hPP⟩:∃ P,(aC u).natAbs*(aC t).natAbs=P:=⟨_,rfl⟩
 have HP:=hideS (xf B b v L a (P / 18446744073709551616) (P % 18446744073709551616) sh (aP u+aP t) (decide (aC u<0) !=decide (aC t<0)) w h hB (by omega) (by omega) hsh (by omega) hL)
 have HR:Hid (tgt=⟨a.s,if a.s=0 then a.N+sI (decide (aC u<0) !=decide (aC t<0))*(((P / 18446744073709551616*18446744073709551616+P % 18446744073709551616)*2^sh:Nat):Int) else a.N⟩):=by
  show _=_
  rw [← htgt,oC h.ok]
  congr 1
  unfold ju
  congr 1
  rw [hsh,Int.toNat_natCast,show P / 18446744073709551616*18446744073709551616+P % 18446744073709551616=P by omega,Int.natCast_mul,← Int.mul_assoc,Int.natCast_pow]
  congr 1
  rw [← hPP,Int.natCast_mul,yH]
 rw [hPP] at HM
 obtain⟨q1,hq1⟩:∃ q1,P / 18446744073709551616=q1:=⟨_,rfl⟩
 obtain⟨q2,hq2⟩:∃ q2,P % 18446744073709551616=q2:=⟨_,rfl⟩
 rw [hq1,hq2] at HM HP HR
 clear hu hx ht hy h h1 h2 hP hPP htgt hq1 hq2
 generalize aC u=m at *
 generalize aP u=ee at *
 generalize aC t=n at *
 generalize aP t=ff at *
 go_enter Tryz.func94,Tryz.ntmps94
 go_wp2_with fail
 refine (turned HS.out).mono ?_
 rintro e w' ⟨rfl,rfl⟩
 go_wp2_with fail
 refine (turned HT.out).mono ?_
 rintro e w' ⟨rfl,rfl⟩
 go_wp2_with fail
 refine (turned (HZ.out _)).mono ?_
 rintro e w' ⟨rfl,rfl⟩
 go_wp2_with fail
 refine (turned (HY.out _)).mono ?_
 rintro e w' ⟨rfl,rfl⟩
 go_wp2_with fail
 refine (turned (HM.out _)).mono ?_
 rintro e w' ⟨rfl,rfl⟩
 go_wp2_with fail
 refine HP.out.mono ?_
 rintro e w1 ⟨rfl,v1,hd⟩
 have HD:=hideS hd
 clear hd
 go_wp2_with fail
 go_end0
 exact⟨rfl,v1,by rw [HR.out];exact HD.out⟩

theorem oD (B:Nat) (v:Value) (ys:List Nat) (more neg:Bool) (w:World) (h:OwnW w B v ys) (hn:ys.length≤100000) (hm:more=true→0<ys.length) :
  Calls Tryz.prog 75 #[v,.bool more,.bool neg] w fun e w'=>e=.returned (.float .f64 (aG (sgM neg (mant (ps (fun i=>ys.getD i 0) ys.length) more)) (ib (ps (fun i=>ys.getD i 0) ys.length))))∧∃ q,w'=w.drewN q:=by
 obtain⟨p,g,c,rfl,hc1,hc2,hp,hc⟩:=h.shape
 by_cases h0:ys.length=0
 ·have hmo:more=false:=by cases more;rfl;exact absurd (hm rfl) (by omega)
  subst hmo
  rw [h0]
  have:=yC c p neg w
  refine this.mono ?_
  rintro e w' ⟨rfl,hq⟩
  refine⟨?_,hq⟩
  cases neg<;>rfl
 ·obtain⟨rfl,_⟩:=hp (by omega)
  exact yE (some ⟨g,0,none⟩) g c ys.length (fun i=>ys.getD i 0) more neg w (by omega) rfl hc hc1 (by unfold maxLen at hc2;omega) h.fit hn (fun k hk=>vj (some ⟨g,0,none⟩) g c k ys w (fun _=>rfl) (fun j hj=>hc j (by omega)) (by omega)) _ rfl

def mc (a:St):Nat:=if a.s=0 then jR a.N else if a.s=1 then 9218868437227405312 else if a.s=2 then 18442240474082181120 else 9221120237041090561
set_option maxHeartbeats 400000 in
theorem BK (s:Nat) (w:World) (h0:s≠0) (h3:s≤3) (N:Int) :
  Calls Tryz.prog 73 #[.int .u8 (s:Int)] w fun e w'=>e=.returned (.float .f64 (mc ⟨s,N⟩))∧w'=w:=by
 have hb:=bN
 rcases (show s=1∨s=2∨s=3 by omega) with rfl | rfl | rfl
 all_goals
  go_enter Tryz.func73,Tryz.ntmps73
  go_wp2_with go_in
  go_ret
  exact⟨rfl,rfl⟩

set_option maxHeartbeats 800000 in
theorem yJ (B b:Nat) (v:Value) (L:Nat) (a:St) (w:World) (h:AccAt w B b v L a) (hB:B≤w.heap.size) (hL:L≤40000) :
  Calls Tryz.prog 33 #[.pointer (some ⟨b,0,none⟩)] w fun r w'=>r=.returned (.float .f64 (mc a))∧Below w.heap.size w w':=by
 have c0:=h.cell0
 have c1:=h.cell1
 obtain⟨xs,ho,hl,hs⟩:=h.own
 have hs3:=h.ok.s3
 by_cases h0:a.s=0
 ·have HZ:=hideS (oB B v xs a.N w ho hs (by omega) hB)
  have HV:Hid (mc a=jR a.N):=by show _=_;unfold mc;rw [if_pos h0]
  rw [HV.out]
  rw [h0] at c0
  have HL:Hid (xs.length≤40000):=by show _≤_;omega
  clear h ho hl hs hs3 h0 HV
  go_enter Tryz.func33,Tryz.ntmps33
  go_wp2_with fail
  refine HZ.out.mono ?_
  rintro e w1 ⟨v1,ys,rfl,o1,l1,p1,b1⟩
  have HN:=hideS (oD B v1 ys false (decide (a.N<0)) w1 o1 (by have:=HL.out;omega) (fun h=>by cases h))
  rw [p1,yq] at HN
  have HB:=hideS b1
  clear o1 l1 p1 b1 HZ
  generalize decide (a.N<0)=ng at *
  go_wp2_with fail
  refine HN.out.mono ?_
  rintro e w2 ⟨rfl,q,rfl⟩
  go_wp2_with fail
  go_ret
  exact⟨rfl,⟨HB.out.os,HB.out.tape,HB.out.output,HB.out.size,HB.out.block⟩⟩
 ·have HF:=hideS (fun w=>BK a.s w h0 hs3 a.N)
  obtain⟨t,ht⟩:∃ t:Int,((a.s:Nat):Int)=t:=⟨_,rfl⟩
  rw [ht] at c0 HF
  have ht0:(t !=0)=true:=by simp;omega
  clear h ho hl hs hs3 h0 ht
  go_enter Tryz.func33,Tryz.ntmps33
  go_wp2_with (go_at_call 73;refine (HF.out _).mono ?_;rintro e w' ⟨rfl,rfl⟩)
  go_ret
  exact⟨rfl,Below.refl _ _⟩

end Go.Proofs.YtjjlnmihkadlmaaGreat.A
namespace Go.Proofs.YtjjlnmihkadlmaaGreat
open Go.RowKit

theorem Ce {b:Nat} (hb:b<18446744073709551616) (h:af b):aD (b:Int)=true∧∃ q:Nat,aC (b:Int)*((2^q:Nat):Int)=vI b∧(aC (b:Int)≠0→aP (b:Int)+1074=(q:Int)):=by
 unfold af at h
 obtain⟨r,hr⟩:∃ r,b % 9223372036854775808=r:=⟨_,rfl⟩
 have hsz:szI (b:Int)=(r:Int):=by unfold szI;omega
 have hok:aD (b:Int)=true:=by unfold aD;rw [hsz,decide_eq_true_eq];omega
 have hsg:sgB (b:Int)=(b / 9223372036854775808 % 2==1):=by
  have e:sgB (b:Int)=decide (b / 9223372036854775808 % 2=1):=by
   unfold sgB;apply decide_eq_decide.2;omega
  rw [e]
  by_cases h1:b / 9223372036854775808 % 2=1<;>simp [h1]
 have hmg:eB (r:Int)=(mg r:Int):=by
  unfold eB mg
  by_cases h1:r<4503599627370496
  ·rw [if_pos (by omega),if_pos h1]
  ·rw [if_neg (by omega),if_neg h1];omega
 have hM:aC (b:Int)=sgZ (b / 9223372036854775808 % 2==1) (mg r):=by
  unfold aC sgZ
  rw [hok,hsz,hmg,hsg];rfl
 refine⟨hok,pl r,?_,fun h0=>?_⟩
 ·rw [ov,hr,pW,hM]
 ·have hr0:r≠0:=fun c=>h0 (by
   rw [hM,c]
   have:mg 0=0:=rfl
   rw [this];unfold sgZ;simp)
  unfold aP ir pl
  rw [hok,hsz]
  have h1:((true&&decide ((r:Int)≠0))=true):=by simp;omega
  rw [if_pos h1]
  by_cases h2:r<4503599627370496
  ·rw [if_pos (by omega)];omega
  ·rw [if_neg (by omega)];omega
end Go.Proofs.YtjjlnmihkadlmaaGreat
