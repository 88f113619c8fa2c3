/-  -/
import Derived.Test.YtjjlnmihkadlmaaGreatHbq
namespace Go.Proofs.YtjjlnmihkadlmaaGreat
open Go.RowKit

theorem pt {w:World} {Ba Bd:Nat} {u v:Value} {l:List Flw} (hu:w.ownsRow Ba 77 3 u l.length (aw aF l)) (hd:w.ownsRow Bd 104 3 v l.length (aw aB l)) (hl:l.length≤1000) (hf:dm l) :
  Calls Tryz.prog 15 #[u,v] w fun e w'=>e=.returned (.bool true)∧Below w.heap.size w w':=by
 obtain⟨p,b,c,rfl,hs,_,_,_⟩:=av hu rfl
 obtain⟨q,b2,c2,rfl,hs2,_,_,_⟩:=av hd rfl
 exact ed l p q b 0 c b2 0 c2 l.length w hs hs2 rfl (by omega) hf
set_option maxRecDepth 100000 in
set_option maxHeartbeats 3200000 in
theorem nT (vl:Option Addr) (M cl:Nat) (v1 v2 v3:Value) (w:World) (h6:60<M) :
  Calls Tryz.prog 7 #[.slice vl M cl,v1,v2,v3] w fun e w'=>e=.returned (.bool true)∧Below w.heap.size w w':=by
 have HW:=hideS fun wx=>re wx
 have d3:decide ((60:Int)<(M:Int))=true:=decide_eq_true (by omega)
 clear h6
 go_enter Tryz.func7,Tryz.ntmps7
 go_wp2_with fail
 refine (HW.out _).mono ?_
 rintro e wz ⟨rfl,hbz⟩
 have HBz:=hideS hbz
 clear hbz
 go_wp2_with fail
 go_ret
 exact⟨rfl,HBz.out⟩
set_option maxRecDepth 100000 in
set_option maxHeartbeats 12800000 in
theorem rh (pl:Option Addr) (bl ol cl M:Nat) (l:List Flw) (cur day en E:Int) (w:World) (hE:NwR l cur day E) (h0:E≠0) (hM60:M≤60) (hl:JSrc aF w pl bl ol l) (hM:l.length=M) (hf:dm l) (hnil:pl=none→M=0∧cl=0) :
  Calls Tryz.prog 7 #[.slice pl M cl,.int .i64 cur,.int .i64 day,.int .i64 en] w fun e w'=>e=.returned (.bool true)∧Below w.heap.size w w':=by
 have HN:=hideS fun wx px bx offx cx (hl:JSrc aF wx px bx offx l)=>nl l cur day E px bx offx cx M wx hE hl hM (by omega) hf
 have HD:=hideS fun wx px bx cx (hl:JSrc aB wx px bx 0 l)=>uc l cur day E px bx 0 cx M wx hE hl hM (by omega) hf
 have HOf:=hideS (kK l pl bl ol cl M w hl hM (by omega))
 have HW:=hideS fun wx=>re wx
 have d3:decide ((60:Int)<(M:Int))=false:=decide_eq_false (by omega)
 have HQ:=hideS (And.intro hl (And.intro hM hnil))
 have H0:=hideS h0
 have n1:(E !=0)=true:=bne_iff_ne.2 h0
 have n2:(E !=E)=false:=by simp
 clear hE h0 hl hM hf hnil
 go_enter Tryz.func7,Tryz.ntmps7
 go_wp2_with fail
 refine (HOf.out).mono ?_
 rintro e w1 ⟨⟨vo,rfl,ho1⟩,hb1⟩
 obtain⟨po1,go1,co1,hv,hs1,_,_,_⟩:=av ho1 HQ.out.2.1
 subst hv
 have HS1:=hideS hs1
 have HB1:=hideS hb1
 clear ho1 hs1 hb1 HOf d3
 go_wp2_with fail
 refine (HD.out _ _ _ _ HS1.out).mono ?_
 rintro e w2 ⟨h2,hb2⟩
 have h2':e=.returned (.tuple #[LV 0 0 (.slice none 0 0) 0 false (.slice none 0 0) 0,.int .i64 E]):=by
  rcases h2 with⟨_,h⟩| ⟨h,_⟩
  ·exact h
  ·exact absurd h H0.out
 subst h2'
 clear h2
 have HB2:Hid (Below w.heap.size w w2):=HB1.out.trans (hb2.mono HB1.out.size)
 clear hb2 HD HB1 HS1
 obtain⟨w3,hw3⟩:∃ w3,w2.alloc (.cells #[.int .i64 0,.int .i64 0,.slice none 0 0,.int .i64 0,.bool false,.slice none 0 0,.int .i64 0] 36)=w3:=⟨_,rfl⟩
 have hb3:Below w2.heap.size w2 w3:=by rw [← hw3];exact (Below.refl _ _).alloc (Nat.le_refl _) _
 have hz3:w3.heap.size=w2.heap.size+1:=by rw [← hw3];simp
 have HB3:Hid (Below w.heap.size w w3):=HB2.out.trans (hb3.mono HB2.out.size)
 have HE:=hideS (iM w3)
 have HB0:=hideS ((Below.refl _ w3).alloc (Nat.le_refl _) (.cells #[] 77))
 have HW3:=hideS hw3
 have HZ3:=hideS hz3
 clear hb3 hw3 hz3
 go_wp2_with (at_builtin;rw [HW3.out,← HZ3.out];refine aT _ rfl _ _ rfl w3.heap.size (.slice (some ⟨w3.heap.size,0,none⟩) 0 0) 0 [] rfl HE.out pl bl ol cl M l rfl HQ.out.2.1 (HQ.out.1.below (HB3.out.trans (HB0.out.mono HB3.out.size))) HQ.out.2.2 (by omega) HB0.out.size ?_)
 intro v4 w4 ho hg
 have HC4:=hideS (HB0.out.trans (bm HE.out hg HB0.out.size))
 have HO4:=hideS ho
 clear ho hg HE HB0 HW3
 have HO5:=hideS (ap HO4.out ((Below.refl _ w4).alloc (Nat.le_refl _) (.cells #[.int .i64 (-7),.float .f64 0,.int .i64 0] 77)))
 have HS5:=hideS (ui w4)
 have HZ4:=hideS (HC4.out.size)
 have HA5:Hid (Below w3.heap.size w4 (w4.alloc (.cells #[.int .i64 (-7),.float .f64 0,.int .i64 0] 77))):=(Below.refl _ w4).alloc HC4.out.size _
 go_wp2_with (at_builtin;refine aT _ rfl _ _ rfl w3.heap.size v4 M l rfl HO5.out (some ⟨w4.heap.size,0,none⟩) w4.heap.size 0 1 1 [f7m] rfl rfl HS5.out (fun h=>by cases h) (by omega) (Nat.le_trans HZ4.out HA5.out.size) ?_)
 intro v6 w6 ho6 hg6
 have HC6:=hideS (HC4.out.trans (HA5.out.trans (bm HO5.out hg6 (Nat.le_trans HZ4.out HA5.out.size))))
 have hlen:(l++[f7m]).length=M+1:=by rw [List.length_append,HQ.out.2.1];rfl
 obtain⟨po,go,co,rfl,so,hgo,hco,hcm⟩:=av ho6 hlen
 obtain rfl:=so.at_ (by simp)
 have HOw:=hideS ho6
 have HSo:=hideS so
 have HLe:=hideS hlen
 have HB6:=hideS (HB3.out.trans (HC6.out.mono HB3.out.size))
 have k1:(M:Int)≤(co:Int):=by omega
 have k2:(0:Int)≤(M:Int):=by omega
 have k3:M≤co:=by omega
 have k4:¬ (co:Int)<(M:Int):=by omega
 have k5:¬ (M:Int)<0:=by omega
 clear ho6 hg6 so hgo hco hcm hlen HO4 HO5 HS5 HZ4 HA5 HC4
 go_wp2_with fail
 clear k1 k2 k3 k4 k5
 refine (HN.out _ _ _ _ _ (xM HSo.out)).mono ?_
 rintro e w7 ⟨h7,hb7⟩
 have h7':e=.returned (.tuple #[.pointer none,.int .i64 E]):=by
  rcases h7 with⟨_,h⟩| ⟨h,_⟩
  ·exact h
  ·exact absurd h H0.out
 subst h7'
 clear h7
 have HB7:=hideS (HB6.out.trans (hb7.mono HB6.out.size))
 have ho7:=ap HOw.out hb7
 obtain⟨⟨o0,o1,o2⟩,_⟩:=nj ho7 HLe.out M (by omega)
 have hgt:(l++[f7m]).getD M ak=f7m:=by rw [← HQ.out.2.1];simp [List.getD]
 rw [hgt] at o0 o1 o2
 unfold f7m at o0 o1 o2
 dsimp only at o0 o1 o2
 have hne:=Dz (-7)
 have m1:(M:Int)<((M+1:Nat):Int):=by omega
 have m2:(M:Int)<(M:Int)+1:=by omega
 clear hb7 ho7 hgt HN HB6 HC6
 go_wp2_with fail
 refine (HW.out _).mono ?_
 rintro e wz ⟨rfl,hbz⟩
 have HBz:Hid (Below w.heap.size w wz):=HB7.out.trans (hbz.mono HB7.out.size)
 clear hbz
 go_wp2_with fail
 go_ret
 exact⟨rfl,HBz.out⟩
set_option maxRecDepth 100000 in
set_option maxHeartbeats 12800000 in
theorem uj (pl:Option Addr) (bl ol cl M:Nat) (l:List Flw) (cur day en E:Int) (w:World) (hE:NwR l cur day E) (h0:E=0) (hM60:M≤60) (hl:JSrc aF w pl bl ol l) (hM:l.length=M) (hf:dm l) (hnil:pl=none→M=0∧cl=0) :
  Calls Tryz.prog 7 #[.slice pl M cl,.int .i64 cur,.int .i64 day,.int .i64 en] w fun e w'=>e=.returned (.bool true)∧Below w.heap.size w w':=by
 subst h0
 obtain⟨hck,hc,hd,hpa⟩:=Fw hE
 have hbad:=(qU hck).2
 obtain⟨mine,hmine⟩:∃ mine,l.filter (cuB cur)=mine:=⟨_,rfl⟩
 have hmm:∀ f ∈ mine,f ∈ l∧f.cur=cur:=fun f hf=>by
  rw [← hmine] at hf
  exact⟨(List.mem_filter.1 hf).1,of_decide_eq_true (List.mem_filter.1 hf).2⟩
 have hb:∀ f ∈ mine,dl f=0:=fun f hf=>by
  obtain⟨i,hi,e⟩:=kl (hmm f hf).1
  rw [← e];exact hbad i hi
 have hmd:∀ f ∈ mine,day≤f.day:=fun f hf=>by
  have h1:=hpa f (hmm f hf).1
  unfold paB at h1
  rw [decide_eq_true (hmm f hf).2,Bool.true_and] at h1
  have:=of_decide_eq_false h1
  omega
 have hfm:dm mine:=by rw [← hmine];exact ew _ hf
 have h60:mine.length≤60:=by rw [← hmine];have:=List.length_filter_le (cuB cur) l;omega
 have HC:=hideS hc
 have HDd:=hideS hd
 have HMb:=hideS hb
 have HMd:=hideS hmd
 have HMf:=hideS hfm
 have HM6:=hideS h60
 clear hck hpa hbad hmm hb hmd hfm h60 hc hd
 have HN:=hideS fun wx px bx offx cx (hl:JSrc aF wx px bx offx l)=>nl l cur day 0 px bx offx cx M wx hE hl hM (by omega) hf
 have HD:=hideS fun wx px bx cx (hl:JSrc aB wx px bx 0 l)=>uc l cur day 0 px bx 0 cx M wx hE hl hM (by omega) hf
 have HOf:=hideS (kK l pl bl ol cl M w hl hM (by omega))
 have HW:=hideS fun wx=>re wx
 have d3:decide ((60:Int)<(M:Int))=false:=decide_eq_false (by omega)
 have HQ:=hideS (And.intro hl (And.intro hM hnil))
 clear hE hl hM hf hnil
 go_enter Tryz.func7,Tryz.ntmps7
 go_wp2_with fail
 refine (HOf.out).mono ?_
 rintro e w1 ⟨⟨vo,rfl,ho1⟩,hb1⟩
 obtain⟨po1,go1,co1,hv,hs1,_,_,_⟩:=av ho1 HQ.out.2.1
 subst hv
 have HS1:=hideS hs1
 have HB1:=hideS hb1
 clear ho1 hs1 hb1 HOf d3
 go_wp2_with fail
 refine (HD.out _ _ _ _ HS1.out).mono ?_
 rintro e w2 ⟨h2,hb2⟩
 rcases h2 with⟨h,_⟩| ⟨_,qD,mD,cD,hmD,rfl,hoD⟩
 ·exact absurd rfl h
 rw [hmine] at hmD hoD
 have HO2:=hideS hoD
 have HMD:=hideS hmD
 clear hoD hmD
 have HB2:Hid (Below w.heap.size w w2):=HB1.out.trans (hb2.mono HB1.out.size)
 clear hb2 HD HB1 HS1
 obtain⟨w3,hw3⟩:∃ w3,w2.alloc (.cells #[.int .i64 cur,.int .i64 day,.slice qD mD cD,.int .i64 0,.bool false,.slice none 0 0,.int .i64 0] 36)=w3:=⟨_,rfl⟩
 have hb3:Below w2.heap.size w2 w3:=by rw [← hw3];exact (Below.refl _ _).alloc (Nat.le_refl _) _
 have hz3:w3.heap.size=w2.heap.size+1:=by rw [← hw3];simp
 have HB3:Hid (Below w.heap.size w w3):=HB2.out.trans (hb3.mono HB2.out.size)
 have HL3:Hid (LB w3 w2.heap.size cur day (.slice qD mD cD) 0 false (.slice none 0 0) 0):=⟨by rw [← hw3];exact heap_alloc_new _ _⟩
 have HO3:=hideS (ap HO2.out hb3)
 clear HO2
 have HE:=hideS (iM w3)
 have HB0:=hideS ((Below.refl _ w3).alloc (Nat.le_refl _) (.cells #[] 77))
 have HW3:=hideS hw3
 have HZ3:=hideS hz3
 clear hb3 hw3 hz3
 go_wp2_with (at_builtin;rw [HW3.out,← HZ3.out];refine aT _ rfl _ _ rfl w3.heap.size (.slice (some ⟨w3.heap.size,0,none⟩) 0 0) 0 [] rfl HE.out pl bl ol cl M l rfl HQ.out.2.1 (HQ.out.1.below (HB3.out.trans (HB0.out.mono HB3.out.size))) HQ.out.2.2 (by omega) HB0.out.size ?_)
 intro v4 w4 ho hg
 have HC4:=hideS (HB0.out.trans (bm HE.out hg HB0.out.size))
 have HO4:=hideS ho
 clear ho hg HE HB0 HW3
 have HO5:=hideS (ap HO4.out ((Below.refl _ w4).alloc (Nat.le_refl _) (.cells #[.int .i64 (-7),.float .f64 0,.int .i64 0] 77)))
 have HS5:=hideS (ui w4)
 have HZ4:=hideS (HC4.out.size)
 have HA5:Hid (Below w3.heap.size w4 (w4.alloc (.cells #[.int .i64 (-7),.float .f64 0,.int .i64 0] 77))):=(Below.refl _ w4).alloc HC4.out.size _
 go_wp2_with (at_builtin;refine aT _ rfl _ _ rfl w3.heap.size v4 M l rfl HO5.out (some ⟨w4.heap.size,0,none⟩) w4.heap.size 0 1 1 [f7m] rfl rfl HS5.out (fun h=>by cases h) (by omega) (Nat.le_trans HZ4.out HA5.out.size) ?_)
 intro v6 w6 ho6 hg6
 have HC6:=hideS (HC4.out.trans (HA5.out.trans (bm HO5.out hg6 (Nat.le_trans HZ4.out HA5.out.size))))
 have hlen:(l++[f7m]).length=M+1:=by rw [List.length_append,HQ.out.2.1];rfl
 obtain⟨po,go,co,rfl,so,hgo,hco,hcm⟩:=av ho6 hlen
 obtain rfl:=so.at_ (by simp)
 have HOw:=hideS ho6
 have HSo:=hideS so
 have HLe:=hideS hlen
 have HB6:=hideS (HB3.out.trans (HC6.out.mono HB3.out.size))
 have k1:(M:Int)≤(co:Int):=by omega
 have k2:(0:Int)≤(M:Int):=by omega
 have k3:M≤co:=by omega
 have k4:¬ (co:Int)<(M:Int):=by omega
 have k5:¬ (M:Int)<0:=by omega
 clear ho6 hg6 so hgo hco hcm hlen HO4 HO5 HS5 HZ4 HA5 HC4
 go_wp2_with fail
 clear k1 k2 k3 k4 k5
 refine (HN.out _ _ _ _ _ (xM HSo.out)).mono ?_
 rintro e w7 ⟨h7,hb7⟩
 rcases h7 with⟨h,_⟩| ⟨_,bx,gx,vx,rfl,hx7⟩
 ·exact absurd rfl h
 rw [hmine] at hx7
 have HB7:=hideS (HB6.out.trans (hb7.mono HB6.out.size))
 have ho7:=ap HOw.out hb7
 obtain⟨⟨o0,o1,o2⟩,_⟩:=nj ho7 HLe.out M (by omega)
 have hgt:(l++[f7m]).getD M ak=f7m:=by rw [← HQ.out.2.1];simp [List.getD]
 rw [hgt] at o0 o1 o2
 unfold f7m at o0 o1 o2
 dsimp only at o0 o1 o2
 have hne:=Dz (-7)
 have m1:(M:Int)<((M+1:Nat):Int):=by omega
 have m2:(M:Int)<(M:Int)+1:=by omega
 have HRw:Hid (RwW w3.heap.size (.slice (some ⟨go,0,none⟩) (M+1) co) (M+1) w7):=⟨_,HLe.out,ho7⟩
 have hb37:Below w3.heap.size w3 w7:=HC6.out.trans (hb7.mono HC6.out.size)
 have HLt:Hid (LtW w w2.heap.size cur day (.slice qD mD cD) 0 false (.slice none 0 0) 0 mine w1.heap.size w6.heap.size bx gx 0 70 vx w7):=⟨HB7.out,HL3.out.step hb37,by have h:=ap HO3.out hb37;rw [HMD.out] at h ⊢;exact h,hx7,HB6.out.size⟩
 have HUp:Hid (∀ k,LdS bx vx k→w6.heap.size≤k):=fun k hk=>hx7.low hk
 have HGo:Hid (go<w6.heap.size∧w.heap.size≤w3.heap.size):=⟨(aM HOw.out rfl).2.1,HB3.out.size⟩
 clear hb7 ho7 hgt HN hx7 hb37 HL3 HO3 HB6 HC6 HOw HSo HLe HB7 HZ3 HQ HB3 HB2
 have HGl:Hid (∀ k,LdS bx vx k→go≠k):=fun k hk c=>by have:=HUp.out k hk;have:=HGo.out.1;omega
 obtain⟨K,hK⟩:∃ K,mine.length=K:=⟨_,rfl⟩
 have HK:=hideS hK
 have hK60:K≤60:=by have:=HM6.out;have:=HK.out;omega
 have HD0:Hid (0≤day∧day≤109572):=HDd.out
 clear HUp hK
 go_wp2_with fail
 clear o0 o1 o2 hne m1 m2
 go_loopw [14] (fun i wr=>∃ (k:Nat),k≤M∧i=.int .i64 k∧Hid (LtW w w2.heap.size cur day (.slice qD mD cD) 0 false (.slice none 0 0) 0 mine w1.heap.size w6.heap.size bx gx 0 70 vx wr)∧Hid (RwW w3.heap.size (.slice (some ⟨go,0,none⟩) (M+1) co) (M+1) wr)) (fun i _=>M - (intOf i).toNat)
 case atStart=>exact⟨0,Nat.zero_le _,rfl,HLt,HRw⟩
 case round=>
  clear HLt HRw
  obtain⟨k,hk,rfl,HLt,HRw⟩:=hrel
  by_cases hlt:k<M
  ·obtain⟨g',d,a,q,e,⟨c0,c1,c2⟩,fz⟩:=HRw.out.at_ (i:=k) (by omega)
   obtain rfl:go=g':=by injection e with e;injection e
   have HR5:=hideS (HRw.out.put (i:=k) (by omega) ⟨-1,0,0⟩)
   have HL5:=hideS (HLt.out.ch (rg wr go k co (M+1) ⟨-1,0,0⟩) HRw.out.ty (fun j hj=>by have:=(HRw.out.lo hj).1;have:=HGo.out.2;omega) (fun j hj c=>HGl.out j hj (by injection c)))
   obtain⟨w5,hw5⟩:∃ w5,(((wr.setCell ⟨go,k*3,none⟩ (.int .i64 (-1))).setCell ⟨go,k*3+1,none⟩ (.float .f64 (0:Nat))).setCell ⟨go,k*3+2,none⟩ (.int .i64 0))=w5:=⟨_,rfl⟩
   dsimp only at HR5 HL5
   rw [hw5] at HR5 HL5
   have z0:=fz (k*3)
   have z1:=fz (k*3+1)
   have z2:=fz (k*3+2)
   have hst:=cF
   have j1:(k:Int)<((M+1:Nat):Int):=by omega
   have j2:(k:Int)<(M:Int)+1:=by omega
   clear fz HLt HRw e
   go_wp2_with fail
   clear c0 c1 c2 z0 z1 z2 hst
   go_roundw
   case rel=>exact⟨k+1,by omega,by go_num,HL5,HR5⟩
   case measure=>simp [intOf];omega
  ·obtain rfl:k=M:=by omega
   obtain⟨wO,hwO⟩:∃ x,x=wr:=⟨_,rfl⟩
   subst hwO
   have HCp:=hideS (Ak _ _ _ _ _ _ _ _ _ wO HLt.out.x (by have:=HM6.out;omega))
   have HUx:Hid (∀ j,LdS bx vx j→j<wO.heap.size):=fun j hj=>HLt.out.up hj
   clear HRw hlt hk HGl
   go_wp2_with fail
   refine (HCp.out).mono ?_
   rintro e w8 ⟨⟨vc,rfl,hxc⟩,hb8⟩
   have HL8:=hideS (HLt.out.below hb8)
   have HX8:=hideS hxc
   have HSz:Hid (w.heap.size≤wO.heap.size):=HLt.out.bl.size
   have HS8:Hid (wO.heap.size≤w8.heap.size):=hb8.size
   have HUc:Hid (∀ j,LdS wO.heap.size vc j→j<w8.heap.size∧wO.heap.size≤j):=fun j hj=>⟨by
    rcases hj with rfl | hj
    ·exact hxc.lt
    ·exact (aM hxc.own hj).2.1,hxc.low hj⟩
   have HLf:=hideS (fj _ _ _ _ _ _ _ _ _ w8 HL8.out.x (by have:=HM6.out;omega))
   clear hxc hb8 HCp HLt
   go_wp2_with fail
   refine (HLf.out).mono ?_
   rintro e w9 ⟨⟨ua,rfl,hoa⟩,hb9⟩
   obtain⟨pa,ga,ca,hva,_,_,_,_⟩:=av hoa rfl
   rw [HK.out] at hva
   subst hva
   rw [HK.out] at hoa
   have HRa:Hid (RwW w8.heap.size (.slice pa K ca) K w9):=⟨mine,HK.out,hoa⟩
   have HL9:=hideS (HL8.out.below hb9)
   have HX9:=hideS (HX8.out.below hb9)
   clear hoa hb9 HLf HL8 HX8
   go_wp2_with fail
   go_loopw [17] (fun i wr=>∃ (k:Nat),k≤K∧i=.int .i64 k∧Hid (LtW w w2.heap.size cur day (.slice qD mD cD) 0 false (.slice none 0 0) 0 mine w1.heap.size w6.heap.size bx gx 0 70 vx wr)∧Hid (LdA wr wO.heap.size wO.heap.size gx cur day 0 70 vc mine)∧Hid (RwW w8.heap.size (.slice pa K ca) K wr)) (fun i _=>K - (intOf i).toNat)
   case atStart=>exact⟨0,Nat.zero_le _,rfl,HL9,HX9,HRa⟩
   case round=>
    clear HL9 HX9 HRa
    obtain⟨k2,hk2,rfl,HLt,HXc,HRw⟩:=hrel
    by_cases hlt:k2<K
    ·obtain⟨g',d,a,q,rfl,⟨c0,c1,c2⟩,fz⟩:=HRw.out.at_ (i:=k2) (by omega)
     have HR5:=hideS (HRw.out.put (i:=k2) (by omega) ⟨-2,0,0⟩)
     have hga:=(HRw.out.lo (k:=g') rfl).1
     have HL5:=hideS (HLt.out.ch (rg wr g' k2 ca K ⟨-2,0,0⟩) HRw.out.ty (fun j hj=>by have:=(HRw.out.lo hj).1;have:=HSz.out;have:=HS8.out;omega) (fun j hj c=>by have e2:g'=j:=(by injection c);have:=HUx.out j hj;have:=HS8.out;omega))
     have HX5:=hideS (HXc.out.apart (rg wr g' k2 ca K ⟨-2,0,0⟩) HRw.out.ty.oth (fun j hj c=>by have e2:g'=j:=(by injection c);have:=(HUc.out j hj).1;omega))
     obtain⟨w5,hw5⟩:∃ w5,(((wr.setCell ⟨g',k2*3,none⟩ (.int .i64 (-2))).setCell ⟨g',k2*3+1,none⟩ (.float .f64 (0:Nat))).setCell ⟨g',k2*3+2,none⟩ (.int .i64 0))=w5:=⟨_,rfl⟩
     dsimp only at HR5 HL5 HX5
     rw [hw5] at HR5 HL5 HX5
     have z0:=fz (k2*3)
     have z1:=fz (k2*3+1)
     have z2:=fz (k2*3+2)
     have hst:=cF
     have j1:(k2:Int)<(K:Int):=by omega
     clear fz HLt HRw HXc hga
     go_wp2_with fail
     clear c0 c1 c2 z0 z1 z2 hst
     go_roundw
     case rel=>exact⟨k2+1,by omega,by go_num,HL5,HX5,HR5⟩
     case measure=>simp [intOf];omega
    ·obtain rfl:k2=K:=by omega
     obtain⟨wP,hwP⟩:∃ x,x=wr:=⟨_,rfl⟩
     subst hwP
     have HPc:=hideS (ni wO.heap.size wO.heap.size gx 70 cur day 109572 0 vc mine wP HXc.out (by decide) (by decide) HD0.out.2 HMd.out HC.out (by have:=HM6.out;omega) HMb.out HMf.out (by decide))
     clear HRw hlt hk2
     go_wp2_with fail
     refine (HPc.out).mono ?_
     rintro e w10 ⟨⟨u9,rfl,_⟩,_,hc10⟩
     have HL10:=hideS (HLt.out.ch hc10 (FF HXc.out) (fun j hj=>by have:=(HUc.out j hj).2;have:=HSz.out;omega) (fun j hj c=>by have:=HUx.out j hj;have:=(HUc.out j c).2;omega))
     have HZ:Hid (∀ j,LdS bx vx j→j<w10.heap.size):=fun j hj=>HL10.out.up hj
     clear hc10 HPc HLt HXc HUc HUx HS8 HSz
     by_cases hb:(0≤en∧en≤109572)∧day≤en
     ·obtain⟨hn,hdn⟩:=hb
      have HPx:=hideS (ni w6.heap.size bx gx 70 cur day en 0 vx mine w10 HL10.out.x hn.1 hn.2 hdn HMd.out HC.out (by have:=HM6.out;omega) HMb.out HMf.out (by decide))
      have HDp:=hideS fun (wx:World) (bD:Nat) (h:JSrc aB wx qD bD 0 mine)=>Dt mine cur day en qD bD 0 cD mD wx h HMD.out.symm (by have:=HM6.out;have:=HMD.out;omega) HMf.out hn hdn
      clear hn hdn
      go_wp2_with fail
      refine (HPx.out).mono ?_
      rintro e w11 ⟨⟨u11,rfl,ho11⟩,⟨g11,v11,hv11,hx11⟩,hc11⟩
      obtain⟨P,hP⟩:∃ P,mine.filter (fun f=>decide (f.day<en))=P:=⟨_,rfl⟩
      rw [hP] at ho11 hx11
      obtain⟨R,hR⟩:∃ R,mine.filter (aQ en)=R:=⟨_,rfl⟩
      rw [hR] at hx11
      have HDp2:=HDp.out
      rw [hP,hR] at HDp2
      have HDp3:=hideS HDp2
      have hPm:P.length≤60:=by rw [← hP];exact Nat.le_trans (List.length_filter_le _ _) HM6.out
      have hRm:R.length≤60:=by rw [← hR];exact Nat.le_trans (List.length_filter_le _ _) HM6.out
      have hPf:dm P:=by rw [← hP];exact ew _ HMf.out
      have hRf:dm R:=by rw [← hR];exact ew _ HMf.out
      have HPR:=hideS (And.intro hPm (And.intro hRm (And.intro hPf hRf)))
      obtain⟨mp,hmp⟩:∃ mp,P.length=mp:=⟨_,rfl⟩
      have HMp:=hideS hmp
      have hmp6:mp≤60:=by omega
      rw [hmp] at ho11
      obtain⟨pp,bp,cp,hvp,hsp,_,_,_⟩:=av ho11 hmp
      subst hvp
      have hty:=FF HL10.out.x
      have hbox:LB w11 w2.heap.size cur day (.slice qD mD cD) 0 false (.slice none 0 0) 0:=HL10.out.box.far (hc11.block _ HL10.out.box.lt (fun c=>by rcases hty _ _ _ _ c HL10.out.box.blk with e | e<;>(revert e;decide)))
      have hdoc:w11.ownsRow w1.heap.size 104 3 (.slice qD mD cD) mine.length (aw aB mine):=bq HL10.out.doc hc11 (fun j hj c=>by
       obtain⟨cs,e⟩:=(aM HL10.out.doc hj).2.2
       rcases hty _ _ _ _ c e with e | e<;>(revert e;decide))
      have HBo:=hideS hbox
      have HDo:=hideS hdoc
      have HB11:Hid (Below w.heap.size w w11):=HL10.out.bl.trans (hc11.below HL10.out.bl.size (fun j hj=>Nat.le_trans HL10.out.xlo (HL10.out.x.low hj)))
      have HX11:=hideS hx11
      have HO11:=hideS ho11
      have HS11:=hideS hsp
      have HXl:Hid (w.heap.size≤w6.heap.size∧w.heap.size≤w10.heap.size):=⟨HL10.out.xlo,HL10.out.bl.size⟩
      have HZ11:Hid (∀ j,LdS bx v11 j→j<w10.heap.size):=fun j hj=>by
       rcases hj with rfl | hj
       ·exact HZ.out _ (Or.inl rfl)
       ·rw [hv11] at hj;exact HZ.out _ (Or.inr hj)
      obtain⟨⟨x0,x1,x2,x3,x4,x5,x6⟩,_⟩:=hbox.c
      clear hbox hdoc hty hx11 ho11 hsp hc11 hv11 HPx HDp HDp2 HL10 HZ hP hR hPm hRm hPf hRf hmp
      obtain⟨qD',bD,cD',hvD,hsD,_,_,_⟩:=av HDo.out rfl
      injection hvD with hq1 e2 e3
      subst hq1 e3
      clear e2
      go_wp2_with fail
      refine (HDp3.out _ _ hsD).mono ?_
      rintro e w12 ⟨⟨q1,m1,c1,q2,m2,c2,s,neg,qv,mv,cv,ee,rfl,hm1,hm2,ho1,ho2⟩,hb12⟩
      obtain⟨q1',b1,c1',hv1,hs1,_,_,_⟩:=av ho1 hm1.symm
      injection hv1 with hq1 e2 e3
      subst hq1 e3
      clear e2
      rw [HMp.out] at hm1
      have hm3:=hm1.symm
      subst hm3
      clear hm1
      have HX12:=hideS (HX11.out.below hb12)
      have HO12:=hideS (ap HO11.out hb12)
      have HS12:=hideS (HS11.out.below hb12)
      have HB12:=hideS (HB11.out.trans (hb12.mono HB11.out.size))
      have HS1:=hideS hs1
      have HO2:=hideS (And.intro ho2 hm2)
      clear ho1 ho2 hs1 hb12 hm2 HX11 HO11 HS11 HB11 HDp3 HBo HDo hsD x0 x1 x2 x3 x4 x5 x6
      obtain⟨w13,hw13⟩:∃ w13,w12.alloc (.cells #[.int .i64 cur,.int .i64 en,.slice q2 m2 c2,.int .i64 s,.bool neg,.slice qv mv cv,.int .i64 ee] 36)=w13:=⟨_,rfl⟩
      have hb13:Below w12.heap.size w12 w13:=by rw [← hw13];exact (Below.refl _ _).alloc (Nat.le_refl _) _
      have HT:Hid (LtW w w12.heap.size cur en (.slice q2 m2 c2) (s:Int) neg (.slice qv mv cv) ee R w11.heap.size w6.heap.size bx g11 (0+wsI cur parC P) (70+mine.length+71) v11 w13):=⟨HB12.out.trans (hb13.mono HB12.out.size),⟨by rw [← hw13];exact heap_alloc_new _ _⟩,by have h:=HO2.out.1;rw [HO2.out.2] at h ⊢;exact ap h hb13,HX12.out.below hb13,HXl.out.1⟩
      have HRp:Hid (RwW w10.heap.size (.slice pp mp cp) mp w13):=⟨P,HMp.out,ap HO12.out hb13⟩
      have HSm:=hideS (ed P pp q1 bp 0 cp b1 0 c1 mp w13 (HS12.out.below hb13) (HS1.out.below hb13) HMp.out (by have:=HMp.out;have:=HPR.out.1;omega) HPR.out.2.2.1)
      have HM2:Hid (R.length=m2∧m2≤60∧dm R):=⟨HO2.out.2.symm,by have:=HO2.out.2;have:=HPR.out.2.1;omega,HPR.out.2.2.2⟩
      have hZn:Hid (∀ j,LdS bx v11 j→j<w10.heap.size):=HZ11.out
      have n9:((0:Int) !=0)=false:=rfl
      have HW13:=hideS hw13
      clear hw13 hb13 HX12 HO12 HS12 HB12 HS1 HO2 HPR HMp HZ11
      go_wp2_with fail
      try rw [HW13.out]
      refine (HSm.out).mono ?_
      rintro e w14 ⟨rfl,hb14⟩
      have HT4:=hideS (HT.out.below hb14)
      have HR4:=hideS (HRp.out.below hb14)
      clear hb14 HSm HT HRp HW13
      go_wp2_with fail
      go_loopw [23] (fun i wr=>∃ (k:Nat),k≤mp∧i=.int .i64 k∧Hid (LtW w w12.heap.size cur en (.slice q2 m2 c2) (s:Int) neg (.slice qv mv cv) ee R w11.heap.size w6.heap.size bx g11 (0+wsI cur parC P) (70+mine.length+71) v11 wr)∧Hid (RwW w10.heap.size (.slice pp mp cp) mp wr)) (fun i _=>mp - (intOf i).toNat)
      case atStart=>exact⟨0,Nat.zero_le _,rfl,HT4,HR4⟩
      case round=>
       clear HT4 HR4
       obtain⟨k3,hk3,rfl,HLt,HRw⟩:=hrel
       by_cases hlt:k3<mp
       ·obtain⟨g',d,a,q,rfl,⟨c0,c1,c2'⟩,fz⟩:=HRw.out.at_ (i:=k3) (by omega)
        have HR5:=hideS (HRw.out.put (i:=k3) (by omega) ⟨-3,0,0⟩)
        have hga:=(HRw.out.lo (k:=g') rfl).1
        have HL5:=hideS (HLt.out.ch (rg wr g' k3 cp mp ⟨-3,0,0⟩) HRw.out.ty (fun j hj=>by have:=(HRw.out.lo hj).1;have:=HXl.out.2;omega) (fun j hj c=>by have e2:g'=j:=(by injection c);have:=hZn.out j hj;omega))
        obtain⟨w5,hw5⟩:∃ w5,(((wr.setCell ⟨g',k3*3,none⟩ (.int .i64 (-3))).setCell ⟨g',k3*3+1,none⟩ (.float .f64 (0:Nat))).setCell ⟨g',k3*3+2,none⟩ (.int .i64 0))=w5:=⟨_,rfl⟩
        dsimp only at HR5 HL5
        rw [hw5] at HR5 HL5
        have z0:=fz (k3*3)
        have z1:=fz (k3*3+1)
        have z2:=fz (k3*3+2)
        have hst:=cF
        have j1:(k3:Int)<(mp:Int):=by omega
        clear fz HLt HRw hga
        go_wp2_with fail
        clear c0 c1 c2' z0 z1 z2 hst
        go_roundw
        case rel=>exact⟨k3+1,by omega,by go_num,HL5,HR5⟩
        case measure=>simp [intOf];omega
       ·obtain rfl:k3=mp:=by omega
        have PZ:=hideS (HLt.out.below (show Below wr.heap.size wr wr.drew from cz (Below.refl _ _) 1))
        have HLf:=hideS fun wx (h:LtW w w12.heap.size cur en (.slice q2 m2 c2) (s:Int) neg (.slice qv mv cv) ee R w11.heap.size w6.heap.size bx g11 (0+wsI cur parC P) (70+mine.length+71) v11 wx)=>fj _ _ _ _ _ _ _ _ _ wx h.x (by have:=HM2.out.1;have:=HM2.out.2.1;omega)
        have HSm:=hideS fun wx Ba u (hu:wx.ownsRow Ba 77 3 u R.length (aw aF R)) (h:LtW w w12.heap.size cur en (.slice q2 m2 c2) (s:Int) neg (.slice qv mv cv) ee R w11.heap.size w6.heap.size bx g11 (0+wsI cur parC P) (70+mine.length+71) v11 wx)=>pt hu h.doc (by have:=HM2.out.1;have:=HM2.out.2.1;omega) HM2.out.2.2
        have HDay:=hideS fun wx (h:LtW w w12.heap.size cur en (.slice q2 m2 c2) (s:Int) neg (.slice qv mv cv) ee R w11.heap.size w6.heap.size bx g11 (0+wsI cur parC P) (70+mine.length+71) v11 wx)=>iL _ _ _ _ _ _ _ _ _ wx h.x
        obtain⟨⟨_,y1,y2,_,_,_,_⟩,_⟩:=HLt.out.box.c
        have y9:(en==en)=true:=beq_self_eq_true en
        clear HRw HLt hlt
        go_wp2_with fail
        go_region_held3 (fun x=>x.cell? ⟨w12.heap.size,1,none⟩=some (.int .i64 en)∧x.cell? ⟨w12.heap.size,2,none⟩=some (.slice q2 m2 c2))
         (first | exact⟨PZ.out.box.c.1.2.1,PZ.out.box.c.1.2.2.1⟩| go_keep)
         (first
          | (go_at_call 26;(with_reducible refine (HLf.out _ PZ.out).mono ?_);rintro e wz ⟨⟨ua,rfl,hoa⟩,hbz⟩;have PZ:=hideS (PZ.out.below hbz);have UA:=hideS hoa;clear hbz hoa)
          | (go_at_call 15;(with_reducible refine (HSm.out _ _ _ UA.out PZ.out).mono ?_);rintro e wz ⟨rfl,hbz⟩;have PZ:=hideS (PZ.out.below hbz);clear hbz)
          | (go_at_call 25;(with_reducible refine (turned (HDay.out _ PZ.out)).mono ?_);rintro e wz ⟨rfl,rfl⟩)
          | (go_at_call 8;(with_reducible refine (HW.out _).mono ?_);rintro e wz ⟨rfl,hbz⟩;have PZ:=hideS (PZ.out.below hbz);clear hbz))
        all_goals
         go_wp2_with fail
         go_ret
         exact⟨rfl,PZ.out.bl⟩
     ·obtain⟨E,hE⟩:∃ E:Int,(¬ (0≤en∧en≤109572)∧E=51)∨((0≤en∧en≤109572)∧en<day∧E=240):=by
       by_cases h:0≤en∧en≤109572
       ·exact⟨240,Or.inr ⟨h,(by have:¬ day≤en:=(fun c=>hb ⟨h,c⟩);omega),rfl⟩⟩
       ·exact⟨51,Or.inl ⟨h,rfl⟩⟩
      have HPx:=hideS (pk w6.heap.size bx gx 70 cur day en 0 E vx mine w10 HL10.out.x hE)
      have HDp:=hideS fun wx=>Ac cur day en E qD mD cD 0 false none 0 0 0 wx hE
      clear hE hb HZ
      go_wp2_with fail
      refine (HPx.out).mono ?_
      rintro e w11 ⟨rfl,hb11⟩
      have HL11:=hideS (HL10.out.below hb11)
      obtain⟨⟨x0,x1,x2,x3,x4,x5,x6⟩,_⟩:=HL11.out.box.c
      clear hb11 HL10 HPx
      go_wp2_with fail
      refine (HDp.out _).mono ?_
      rintro e w12 ⟨rfl,hb12⟩
      have HL12:=hideS (HL11.out.below hb12)
      clear hb12 HDp HL11 x0 x1 x2 x3 x4 x5 x6
      obtain⟨w13,hw13⟩:∃ w13,w12.alloc (.cells #[.int .i64 cur,.int .i64 day,.slice qD mD cD,.int .i64 0,.bool false,.slice none 0 0,.int .i64 0] 36)=w13:=⟨_,rfl⟩
      have hb13:Below w12.heap.size w12 w13:=by rw [← hw13];exact (Below.refl _ _).alloc (Nat.le_refl _) _
      have HT:Hid (LtW w w12.heap.size cur day (.slice qD mD cD) 0 false (.slice none 0 0) 0 mine w1.heap.size w6.heap.size bx gx 0 70 vx w13):=⟨HL12.out.bl.trans (hb13.mono HL12.out.bl.size),⟨by rw [← hw13];exact heap_alloc_new _ _⟩,ap HL12.out.doc hb13,HL12.out.x.below hb13,HL12.out.xlo⟩
      have HRp:Hid (RwW w10.heap.size (.slice none 0 0) 0 w13):=⟨[],rfl,cL _ _ _ _⟩
      have HSm:=hideS (ed [] none none 0 0 0 0 0 0 0 w13 ⟨fun h=>by simp at h,fun h=>by simp at h,fun i hi=>by simp at hi⟩ ⟨fun h=>by simp at h,fun h=>by simp at h,fun i hi=>by simp at hi⟩ rfl (by decide) (fun i=>by simp [ak]))
      have HM2:Hid (mine.length=mD∧mD≤60∧dm mine):=⟨HMD.out.symm,by have:=HMD.out;have:=HM6.out;omega,HMf.out⟩
      have n9:(E !=E)=false:=by simp
      have HW13:=hideS hw13
      clear hw13 hb13 HL12
      go_wp2_with fail
      try rw [HW13.out]
      refine (HSm.out).mono ?_
      rintro e w14 ⟨rfl,hb14⟩
      have HT4:=hideS (HT.out.below hb14)
      have HR4:=hideS (HRp.out.below hb14)
      clear hb14 HSm HT HRp HW13
      go_wp2_with fail
      go_loopw [23] (fun i wr=>∃ (k:Nat),k≤0∧i=.int .i64 k∧Hid (LtW w w12.heap.size cur day (.slice qD mD cD) 0 false (.slice none 0 0) 0 mine w1.heap.size w6.heap.size bx gx 0 70 vx wr)∧Hid (RwW w10.heap.size (.slice none 0 0) 0 wr)) (fun i _=>0 - (intOf i).toNat)
      case atStart=>exact⟨0,Nat.zero_le _,rfl,HT4,HR4⟩
      case round=>
       clear HT4 HR4
       obtain⟨k3,hk3,rfl,HLt,HRw⟩:=hrel
       by_cases hlt:k3<0
       ·exact absurd hlt (by omega)
       ·obtain rfl:k3=0:=by omega
        have PZ:=hideS (HLt.out.below (show Below wr.heap.size wr wr.drew from cz (Below.refl _ _) 1))
        have HLf:=hideS fun wx (h:LtW w w12.heap.size cur day (.slice qD mD cD) 0 false (.slice none 0 0) 0 mine w1.heap.size w6.heap.size bx gx 0 70 vx wx)=>fj _ _ _ _ _ _ _ _ _ wx h.x (by have:=HM2.out.1;have:=HM2.out.2.1;omega)
        have HSm:=hideS fun wx Ba u (hu:wx.ownsRow Ba 77 3 u mine.length (aw aF mine)) (h:LtW w w12.heap.size cur day (.slice qD mD cD) 0 false (.slice none 0 0) 0 mine w1.heap.size w6.heap.size bx gx 0 70 vx wx)=>pt hu h.doc (by have:=HM2.out.1;have:=HM2.out.2.1;omega) HM2.out.2.2
        have HDay:=hideS fun wx (h:LtW w w12.heap.size cur day (.slice qD mD cD) 0 false (.slice none 0 0) 0 mine w1.heap.size w6.heap.size bx gx 0 70 vx wx)=>iL _ _ _ _ _ _ _ _ _ wx h.x
        obtain⟨⟨_,y1,y2,_,_,_,_⟩,_⟩:=HLt.out.box.c
        have y9:(day==day)=true:=beq_self_eq_true day
        clear HRw HLt hlt
        go_wp2_with fail
        go_region_held3 (fun x=>x.cell? ⟨w12.heap.size,1,none⟩=some (.int .i64 day)∧x.cell? ⟨w12.heap.size,2,none⟩=some (.slice qD mD cD))
         (first | exact⟨PZ.out.box.c.1.2.1,PZ.out.box.c.1.2.2.1⟩| go_keep)
         (first
          | (go_at_call 26;(with_reducible refine (HLf.out _ PZ.out).mono ?_);rintro e wz ⟨⟨ua,rfl,hoa⟩,hbz⟩;have PZ:=hideS (PZ.out.below hbz);have UA:=hideS hoa;clear hbz hoa)
          | (go_at_call 15;(with_reducible refine (HSm.out _ _ _ UA.out PZ.out).mono ?_);rintro e wz ⟨rfl,hbz⟩;have PZ:=hideS (PZ.out.below hbz);clear hbz)
          | (go_at_call 25;(with_reducible refine (turned (HDay.out _ PZ.out)).mono ?_);rintro e wz ⟨rfl,rfl⟩)
          | (go_at_call 8;(with_reducible refine (HW.out _).mono ?_);rintro e wz ⟨rfl,hbz⟩;have PZ:=hideS (PZ.out.below hbz);clear hbz))
        all_goals
         go_wp2_with fail
         go_ret
         exact⟨rfl,PZ.out.bl⟩
theorem nU (pf0:Option Addr) (bf0 of0 cf0:Nat) (l0:List Flw) (a1 a2 a3:Int) (w:World) (hl:JSrc aF w pf0 bf0 of0 l0) (hf:dm l0) (_hn:l0.length≤17592186043904) (_h1:wH a1) (_h2:wH a2) (_h3:wH a3) (hnil:pf0=none→l0.length=0∧cf0=0) :
  Calls Tryz.prog 7 #[.slice pf0 l0.length cf0,.int .i64 a1,.int .i64 a2,.int .i64 a3] w fun e w'=>e=.returned (.bool true)∧Below w.heap.size w w':=by
 by_cases h6:60<l0.length
 ·exact nT pf0 _ cf0 _ _ _ w h6
 ·obtain⟨E,hE⟩:=GQ l0 a1 a2
  by_cases h0:E=0
  ·exact uj pf0 bf0 of0 cf0 _ l0 a1 a2 a3 E w hE h0 (by omega) hl rfl hf hnil
  ·exact rh pf0 bf0 of0 cf0 _ l0 a1 a2 a3 E w hE h0 (by omega) hl rfl hf hnil
end Go.Proofs.YtjjlnmihkadlmaaGreat
