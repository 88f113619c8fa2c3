/-  -/
import Derived.Test.YtkooknagalgfpaaGreatHbx
namespace Go.Proofs.YtkooknagalgfpaaGreat
open Go.RowKit

theorem BJ {w:World} {R:List Nat×Int×Int} {base kind:Int} {ds:List Int} {e:Ending} {w':World} (h:BD w base kind ds R e w'):∃ x0 x1 p1 n1 kp p2 n2 kq E2 K2,e=.returned (.tuple #[.agg #[.int .i64 x0,.int .i64 x1,.slice p1 n1 kp,.slice p2 n2 kq],.int .i64 E2,.int .i64 K2]):=by
 rcases h with⟨_,he⟩| ⟨_,vX,vY,he,hx,hy,_⟩
 ·exact⟨_,_,_,_,_,_,_,_,_,_,he⟩
 ·obtain⟨qx,cx,rfl⟩:=aW hx
  obtain⟨qy,cy,rfl⟩:=aW hy
  exact⟨_,_,_,_,_,_,_,_,_,_,he⟩
set_option maxRecDepth 20000 in
set_option maxHeartbeats 3200000 in
theorem sf (base kind W a:Int) (p pq:Option Addr) (n c cq N:Nat) (w:World) (h:¬ (1≤a∧a≤(N:Int))) (HF:Hid (∀ wx,Below w.heap.size w wx→Calls Tryz.prog 14 #[.int .i64 base,.int .i64 kind,.agg #[.int .i64 W,.slice p n c],.slice pq N cq] wx fun e w'=>(∃ f,e=.returned (.bool f))∧Below wx.heap.size wx w')) :
  Calls Tryz.prog 7 #[.int .i64 base,.int .i64 kind,.agg #[.int .i64 W,.slice p n c],.slice pq N cq,.int .i64 a] w fun e w'=>e=.returned (.bool true)∧Below w.heap.size w w':=by
 have HB:=hideS (rh w W (.slice p n c))
 have HA:=hideS lN
 have hd:(decide (a<1)=true)∨(decide (a<1)=false∧decide ((N:Int)<a)=true):=by
  by_cases c:a<1
  ·exact Or.inl (decide_eq_true c)
  ·exact Or.inr ⟨decide_eq_false c,decide_eq_true (by omega)⟩
 clear h
 rcases hd with d1 | ⟨d1,d2⟩
 all_goals
  go_enter Tryz.func7,Tryz.ntmps7
  go_wp2_with fail
  refine (HF.out _ HB.out.bl).mono ?_
  rintro e w1 ⟨⟨f,rfl⟩,hb⟩
  have HB1:=hideS (HB.out.step hb)
  clear hb HF HB
  cases f
  all_goals
   go_wp2_with fail
   refine (HA.out _).mono ?_
   rintro e w2 ⟨rfl,hb⟩
   have HB2:=hideS (HB1.out.step hb)
   clear hb
   go_wp2_with fail
   go_ret
   exact⟨rfl,HB2.out.bl⟩
theorem rp (base kind a W:Int) (p:Option Addr) (b off c:Nat) (rs:List Rul) (pq:Option Addr) (bq oq cq:Nat) (qs:List Quo) (w:World) (hs:RSrc w p b off rs) (hl:rs.length≤9223372036854775807) (hq:QSrc w pq bq oq qs) (_hI:∀ q ∈ qs,QuoI q) (h1:qs.length≤cq) (h2:cq≤9223372036854775807) (_h3:I64 base) (_h4:I64 kind) (_h5:I64 a) :
  Calls Tryz.prog 7 #[.int .i64 base,.int .i64 kind,.agg #[.int .i64 W,.slice p rs.length c],.slice pq qs.length cq,.int .i64 a] w fun e w'=>e=.returned (.bool true)∧Below w.heap.size w w':=by
 have HF:Hid (∀ wx,Below w.heap.size w wx→Calls Tryz.prog 14 #[.int .i64 base,.int .i64 kind,.agg #[.int .i64 W,.slice p rs.length c],.slice pq qs.length cq] wx fun e w'=>(∃ f,e=.returned (.bool f))∧Below wx.heap.size wx w'):=fun wx hb=>FE base kind W p pq bq oq cq rs.length c qs wx (hq.below hb)
 by_cases h:1≤a∧a≤(qs.length:Int)
 ·obtain⟨m,rfl⟩:∃ m:Nat,a=m:=⟨a.toNat,by omega⟩
  have m1:1≤m:=by omega
  have m2:m≤qs.length:=by omega
  have hlm:(qs.take m).length=m:=by rw [List.length_take];omega
  obtain⟨A,B,hA⟩:=NW W rs
  obtain⟨E,K,hE⟩:=wD base kind A qs
  have B1:∀ R,BuiR base kind W A rs qs R→∀ wx,Below w.heap.size w wx→Calls Tryz.prog 12 #[.int .i64 base,.int .i64 kind,.agg #[.int .i64 W,.slice p rs.length c],.slice pq qs.length cq] wx fun e w'=>BD wx base kind (aM qs qs.length) R e w'∧Below wx.heap.size wx w':=fun R hR wx hb=>gV base kind W A B p pq b off c bq oq cq rs qs wx hA (hs.below hb) hl (hq.below hb) hR
  have B2:∀ R,BuiR base kind W A rs (qs.take m) R→∀ wx,Below w.heap.size w wx→Calls Tryz.prog 12 #[.int .i64 base,.int .i64 kind,.agg #[.int .i64 W,.slice p rs.length c],.slice pq m cq] wx fun e w'=>BD wx base kind (aM (qs.take m) m) R e w'∧Below wx.heap.size wx w':=fun R hR wx hb=>by
   have:=gV base kind W A B p pq b off c bq oq cq rs (qs.take m) wx hA (hs.below hb) hl ((hq.below hb).take m) hR
   rw [hlm] at this
   exact this
  have C1:∀ E K,Chk13 base kind A qs E K→∀ wx,Below w.heap.size w wx→Calls Tryz.prog 10 #[.int .i64 base,.int .i64 kind,.agg #[.int .i64 W,.slice p rs.length c],.slice pq qs.length cq] wx fun e w'=>e=.returned (.tuple #[.int .i64 E,.int .i64 K])∧Below wx.heap.size wx w':=fun E K hE wx hb=>ki base kind W A B E K p pq b off c bq oq cq rs qs wx hA (hs.below hb) hl (hq.below hb) hE
  have bad:∀ {wx:World} {R:List Nat×Int×Int} {e:Ending} {w':World} {ds:List Int},BD wx base kind ds R e w'→R.2.1≠0→e=.returned (.tuple #[.agg #[.int .i64 0,.int .i64 0,.slice none 0 0,.slice none 0 0],.int .i64 R.2.1,.int .i64 R.2.2]):=fun h h0=>by
   rcases h with⟨_,he⟩| ⟨hz,_⟩
   ·exact he
   ·exact absurd hz h0
  by_cases h0:E=0
  ·subst h0
   have hK:K=0:=by
    obtain⟨F,hF,⟨h0,h1,_⟩| ⟨_,_,_,_,_,_,_,_,hQ⟩⟩:=js hE
    ·exact absurd h1.symm h0
    ·generalize hz:(0:Int)=z at hQ
     cases hQ with
     | fine=>rfl
     | bad k hk e he h0=>exact absurd hz.symm h0
   subst hK
   obtain⟨hf,b0,b1,k1,k4,rfl,lo,hi⟩:=rf hE
   have hR1:=BuiR.go (W:=W) (rs:=rs) hE
   have hR2:=BuiR.go (W:=W) (rs:=rs) (BI hE m1 m2)
   rw [hlm,zw base kind W rs qs m m (Nat.le_refl _)] at hR2
   by_cases hz:(aq base kind W rs qs qs.length).2.1=0
   ·have hzm:=zA hz m2
    have hiv:=vK (W:=W) (rs:=rs) b0 b1 k1 k4 hi hf m m2 hzm
    obtain⟨d,hd⟩:∃ d,qs.length=m+d:=⟨qs.length - m,by omega⟩
    have hfst:=CX (base:=base) (kind:=kind) (W:=W) (rs:=rs) (qs:=qs) (n:=m) d (by rw [← hd];exact hz) hiv.1
    rw [← hd] at hfst
    refine rl base kind W p pq rs.length c cq qs.length m w m1 m2 h1 h2 (aM qs m) (aq base kind W rs qs m).1 (aM qs qs.length) (aq base kind W rs qs qs.length).1 hfst.2 (fun i hi'=>by rw [jp qs hi',jp qs (by omega)]) HF (fun wx hb=>(B1 _ hR1 wx hb).mono fun e w' ⟨hO,hb'⟩=>⟨?_,hb'⟩) (fun wx hb=>(B2 _ hR2 wx hb).mono fun e w' ⟨hO,hb'⟩=>⟨?_,hb'⟩) (C1 0 0 hE)
    ·obtain⟨g,k,g',k',he,s1,s2,q1,q2,_,_⟩:=lM hO hz (by rw [au];omega)
     rw [au] at he s1 s2
     exact⟨g,k,g',k',he,s1,s2,q1,q2⟩
    ·rw [rg qs (Nat.le_refl m)] at hO
     obtain⟨g,k,g',k',he,s1,s2,q1,q2,_,_⟩:=lM hO hzm (by rw [au];omega)
     rw [au] at he s1 s2
     exact⟨g,k,g',k',he,s1,s2,q1,q2⟩
   ·obtain⟨p1,p2,p3⟩:=tM qs.length hz
    by_cases hm:(aq base kind W rs qs qs.length).2.2<m
    ·have hme:aq base kind W rs qs m=aq base kind W rs qs qs.length:=by
      have e1:=jt (base:=base) (kind:=kind) (W:=W) (rs:=rs) (qs:=qs) (k:=(aq base kind W rs qs qs.length).2.2+1) (by rw [p2];exact hz) (m - ((aq base kind W rs qs qs.length).2.2+1))
      rw [show (aq base kind W rs qs qs.length).2.2+1+(m - ((aq base kind W rs qs qs.length).2.2+1))=m by omega] at e1
      rw [e1,p2]
     rw [hme] at hR2
     exact sc base kind W p pq rs.length c cq qs.length m w m1 m2 h1 h2 _ _ hz (by show (((aq base kind W rs qs qs.length).2.2:Nat):Int)<(m:Int);omega) HF (fun wx hb=>(B1 _ hR1 wx hb).mono fun e w' ⟨hO,hb'⟩=>⟨bad hO hz,hb'⟩) (fun wx hb=>(B2 _ hR2 wx hb).mono fun e w' ⟨hO,hb'⟩=>⟨bad hO hz,hb'⟩) (C1 0 0 hE)
    ·have hzm:=p3 m (by omega)
     refine rj base kind W p pq rs.length c cq qs.length m w m1 m2 h1 h2 _ _ hz (by show ¬ (((aq base kind W rs qs qs.length).2.2:Nat):Int)<(m:Int);omega) (aM qs m) (aq base kind W rs qs m).1 HF (fun wx hb=>(B1 _ hR1 wx hb).mono fun e w' ⟨hO,hb'⟩=>⟨bad hO hz,hb'⟩) (fun wx hb=>(B2 _ hR2 wx hb).mono fun e w' ⟨hO,hb'⟩=>⟨?_,hb'⟩) (C1 0 0 hE)
     rw [rg qs (Nat.le_refl m)] at hO
     obtain⟨g,k,g',k',he,s1,s2,q1,q2,_,_⟩:=lM hO hzm (by rw [au];omega)
     rw [au] at he s1 s2
     exact⟨g,k,g',k',he,s1,s2,q1,q2⟩
  ·obtain⟨R2,hR2⟩:=Nl base kind W A rs (qs.take m)
   exact sd base kind W p pq rs.length c cq qs.length m w m1 m2 h1 h2 E K h0 HF (fun wx hb=>(B1 _ (.bad E K hE h0) wx hb).mono fun e w' ⟨hO,hb'⟩=>⟨bad hO h0,hb'⟩) (fun wx hb=>(B2 _ hR2 wx hb).mono fun e w' ⟨hO,hb'⟩=>⟨BJ hO,hb'⟩) (C1 E K hE)
 ·exact sf base kind W a p pq rs.length c cq qs.length w h HF
end Go.Proofs.YtkooknagalgfpaaGreat
