/-  -/
import Derived.Test.YtpddmnmhdahnlabGreatHbw
import Derived.Test.YtpddmnmhdahnlabGreatFFlw
import Derived.Deep.QuietTactic
namespace Go.Proofs.YtpddmnmhdahnlabGreat
open Go.RowKit

set_option maxRecDepth 40000 in
set_option maxHeartbeats 3200000 in
theorem pO (cur base kind:Int) (h:Nat) (pl pd pf:Option Addr) (N cl D cd F cf:Nat) (w:World) (hn:¬ ((N≤20∧D≤8∧F≤8)∧(kind=1∨kind=2))) :
  Calls Tryz.prog 4 #[.slice pl N cl,.int .i64 cur,.agg #[.int .i64 base,.int .i64 kind,.slice pd D cd,.slice pf F cf],.float .f64 h] w fun e w'=>e=.returned (.bool true)∧Below w.heap.size w w':=by
 have HB:=hideS (bj w base kind (.slice pd D cd) (.slice pf F cf))
 have HSm:=hideS fun wx=>oW base kind pl pd pf N cl D cd F cf wx
 have HAw:=hideS Al
 have t0:=HB.out.t0
 have t1:=HB.out.t1
 have t2:=HB.out.t2
 have t3:=HB.out.t3
 by_cases h1:N≤20∧D≤8∧F≤8
 ·rw [decide_eq_true h1] at HSm
  have k1:(kind !=1)=true:=bne_iff_ne.2 (fun e=>hn ⟨h1,Or.inl e⟩)
  have k2:(kind !=2)=true:=bne_iff_ne.2 (fun e=>hn ⟨h1,Or.inr e⟩)
  clear hn h1
  go_enter Tryz.func4,Tryz.ntmps4
  go_wp2_with fail
  refine (HSm.out _).mono ?_
  rintro e w2 ⟨rfl,hb2⟩
  have HB2:=hideS (HB.out.step hb2)
  have t1:=HB2.out.t1
  clear hb2 HSm
  go_wp2_with fail
  refine (HAw.out _).mono ?_
  rintro e w3 ⟨rfl,hb3⟩
  have HB3:=hideS (HB2.out.bl.trans (hb3.mono HB2.out.bl.size))
  clear hb3
  go_wp2_with fail
  go_ret
  exact⟨rfl,HB3.out⟩
 ·rw [decide_eq_false h1] at HSm
  clear hn h1
  go_enter Tryz.func4,Tryz.ntmps4
  go_wp2_with fail
  refine (HSm.out _).mono ?_
  rintro e w2 ⟨rfl,hb2⟩
  have HB2:=hideS (HB.out.step hb2)
  clear hb2 HSm
  go_wp2_with fail
  refine (HAw.out _).mono ?_
  rintro e w3 ⟨rfl,hb3⟩
  have HB3:=hideS (HB2.out.bl.trans (hb3.mono HB2.out.bl.size))
  clear hb3
  go_wp2_with fail
  go_ret
  exact⟨rfl,HB3.out⟩
set_option maxRecDepth 40000 in
set_option maxHeartbeats 25600000 in
theorem sU (l:List Flw) (cur:Int) (c:Cv) (h:Nat) (pl:Option Addr) (bl ol cl N:Nat) (pd pf:Option Addr) (bd od cd b2 o2 cf:Nat) (w:World) (hl:JSrc aF w pl bl ol l) (hN:l.length=N) (hf:dr l) (hh:h<18446744073709551616) (hs:TFl w pd pf bd od b2 o2 c.ds c.fs) (hm:N≤20∧c.ds.length≤8∧c.fs.length≤8) (h12:c.kind=1∨c.kind=2) :
  Calls Tryz.prog 4 #[.slice pl N cl,.int .i64 cur,.agg #[.int .i64 c.base,.int .i64 c.kind,.slice pd c.ds.length cd,.slice pf c.fs.length cf],.float .f64 h] w fun e w'=>e=.returned (.bool true)∧Below w.heap.size w w':=by
 have HSm:=hideS fun wx=>oW c.base c.kind pl pd pf N cl c.ds.length cd c.fs.length cf wx
 rw [decide_eq_true hm] at HSm
 have HAw:=hideS Al
 have HLa:Hid (∀ wx,TFl wx pd pf bd od b2 o2 c.ds c.fs→JSrc aF wx pl bl ol l→_):=fun wx hx hj=>oV l cur c h pl bl ol cl N pd pf bd od cd b2 o2 cf wx hh hj hN (by omega) hf hx
 have HSd:Hid (∀ k<c.ds.length,(∀ f ∈ l,ltB (f.am:Int) 0=false)→prE l cur c=0→lnE l cur c h k=0→_):=fun k hk ha h0 hE=>JG (h:=h) hf hs.f hk h12 ha h0 hE
 have hA0:=(Below.refl w.heap.size w).alloc (Nat.le_refl _) (.cells #[.int .i64 c.base,.int .i64 c.kind,.slice pd c.ds.length cd,.slice pf c.fs.length cf] 27)
 obtain⟨base,hbase⟩:∃ b,c.base=b:=⟨_,rfl⟩
 obtain⟨kind,hkind⟩:∃ b,c.kind=b:=⟨_,rfl⟩
 obtain⟨n,hn⟩:∃ b,c.ds.length=b:=⟨_,rfl⟩
 obtain⟨m,hmm⟩:∃ b,c.fs.length=b:=⟨_,rfl⟩
 rw [hbase,hkind,hn,hmm] at hA0
 have HX:=hideS (oz w base kind (.slice pd n cd) (.slice pf m cf))
 have HSr:=hideS (hs.below hA0)
 have HFl:=hideS (hl.below hA0)
 have HBl:=hideS hA0
 obtain⟨w1,hw1⟩:∃ w1,w.alloc (.cells #[.int .i64 base,.int .i64 kind,.slice pd n cd,.slice pf m cf] 27)=w1:=⟨_,rfl⟩
 rw [hw1] at HX HSr HFl HBl
 have Hbase:=hideS hbase
 have Hkind:=hideS hkind
 have Hn:=hideS hn
 have Hm:=hideS hmm
 have k12:((kind !=1)&&(kind !=2))=false:=by
  rw [← hkind]
  rcases h12 with e | e<;>rw [e]<;>rfl
 have HN:=hideS hN
 have HFt:=hideS hf
 have Hhh:=hideS hh
 have hn8:n≤8:=by rw [← hn];exact hm.2.1
 have hN20:N≤20:=hm.1
 rw [hbase,hkind,hn,hmm]
 have t0:=HX.out.t.1
 have t1:=HX.out.t.2.1
 have t2:=HX.out.t.2.2.1
 have t3:=HX.out.t.2.2.2
 clear hl hN hf hs hm hA0 hbase hkind hn hmm hh h12
 go_enter Tryz.func4,Tryz.ntmps4
 go_wp2_with fail
 clear hw1 t0 t1 t2 t3
 have HSm1:=HSm.out w1
 rw [Hbase.out,Hkind.out,Hn.out,Hm.out] at HSm1
 refine HSm1.mono ?_
 rintro e w2 ⟨rfl,hb2⟩
 have HX2:=hideS (HX.out.step hb2)
 have HSr2:=hideS (HSr.out.below hb2)
 have HFl2:=hideS (HFl.out.below hb2)
 have HBl2:=hideS (HBl.out.trans (hb2.mono HBl.out.size))
 clear hb2 HX HSr HFl HBl HSm HSm1
 obtain⟨t0,t1,t2,t3⟩:=HX2.out.t
 have hkk:(kind !=1)=false∨((kind !=1)=true∧(kind !=2)=false):=by
  cases a:(kind !=1)
  ·exact Or.inl rfl
  ·rw [a] at k12;exact Or.inr ⟨rfl,by simpa using k12⟩
 clear k12
 refine Or.elim hkk (fun hk1=>?ka) (fun hk1=>?kb)
 case' kb=>obtain⟨hk1,hk2⟩:=hk1
 all_goals
  clear hkk
  go_wp2_with fail
  clear t0 t1 t2 t3
  go_loopw [9] (fun i wr=>∃ j:Nat,j≤N∧i=.int .i64 j∧Hid (∀ i<j,ltB ((l.getD i aD).am:Int) 0=false)∧wr=w2) (fun i _=>N - (intOf i).toNat)
  case atStart=>exact⟨0,Nat.zero_le _,rfl,fun i hi=>by omega,rfl⟩
  case round=>
   obtain⟨j,hj,rfl,HA,hw⟩:=hrel
   subst hw
   by_cases hlt:j<N
   ·obtain rfl:=HFl2.out.at_ (by rw [HN.out];omega)
    obtain⟨c0,c1,c2⟩:=HFl2.out.cell j (by rw [HN.out];exact hlt)
    have hu:U64 ((l.getD j aD).am:Int):=ah (HFt.out j)
    have ho:=Ko (x:=(l.getD j aD).am) (c:=0) hu (by unfold U64;omega)
    have l1:(0:Int)≤(j:Int):=Int.natCast_nonneg _
    have l2:(j:Int)<(N:Int):=by omega
    dsimp only [aF] at c1
    cases hb:ltB ((l.getD j aD).am:Int) ((0:Nat):Int) with
    | true=>
     rw [hb] at ho
     generalize (l.getD j aD).am=am at *
     clear hu hb
     go_wp2_with fail
     refine (HAw.out _).mono ?_
     rintro e w3 ⟨rfl,hb3⟩
     have HB3:=hideS (HBl2.out.trans (hb3.mono HBl2.out.size))
     clear hb3
     go_wp2_with fail
     go_ret
     exact⟨rfl,HB3.out⟩
    | false=>
     rw [hb] at ho
     have HA2:Hid (∀ i<j+1,ltB ((l.getD i aD).am:Int) 0=false):=fun i hi=>by
      rcases Nat.lt_or_eq_of_le (Nat.le_of_lt_succ hi) with d | d
      ·exact HA.out i d
      ·rw [d];exact hb
     generalize (l.getD j aD).am=am at *
     clear hu hb
     go_wp2_with fail
     go_roundw
     case rel=>exact⟨j+1,by omega,by simp,HA2,by first | rfl | trivial⟩
     case measure=>simp [intOf];omega
   ·obtain rfl:j=N:=by omega
    have HAm:Hid (∀ f ∈ l,ltB (f.am:Int) 0=false):=fun f hf=>by
     obtain⟨i,hi,rfl⟩:=iJ hf
     exact HA.out i (by rw [← HN.out];exact hi)
    obtain⟨t0,t1,t2,t3⟩:=HX2.out.t
    have HL1:=HLa.out _ HSr2.out HFl2.out
    rw [Hbase.out,Hkind.out,Hn.out,Hm.out] at HL1
    go_wp2_with fail
    refine HL1.mono ?_
    rintro e w3 ⟨ho,hb3⟩
    have HX3:=hideS (HX2.out.step hb3)
    have HSr3:=hideS (HSr2.out.below hb3)
    have HBl3:=hideS (HBl2.out.trans (hb3.mono HBl2.out.size))
    clear t0 t1 t2 t3 hb3 HL1
    rcases ho with⟨h0,rfl⟩| ⟨h0,ho⟩
    ·have dP:(prE l cur c !=0)=true:=bne_iff_ne.2 h0
     generalize prE l cur c=PE at *
     clear h0
     go_wp2_with fail
     refine (HAw.out _).mono ?_
     rintro e w4 ⟨rfl,hb4⟩
     have HB4:=hideS (HBl3.out.trans (hb4.mono HBl3.out.size))
     clear hb4
     go_wp2_with fail
     go_ret
     exact⟨rfl,HB4.out⟩
    ·rcases ho with⟨k,_,hE,_,rfl⟩| ⟨hE,g,rfl,ho⟩
     ·have dP:(lnE l cur c h k !=0)=true:=bne_iff_ne.2 hE
      generalize lnE l cur c h k=PE at *
      clear hE
      go_wp2_with fail
      refine (HAw.out _).mono ?_
      rintro e w4 ⟨rfl,hb4⟩
      have HB4:=hideS (HBl3.out.trans (hb4.mono HBl3.out.size))
      clear hb4
      go_wp2_with fail
      go_ret
      exact⟨rfl,HB4.out⟩
     ·have ok:=(eo h0).1.ok
      have hlo:1≤n:=by rw [← Hn.out];exact ok.lo
      obtain⟨g',c',e',hs',_⟩:=cQ ho (by simp) (by omega)
      injection e' with e1 _ _
      injection e1 with e1
      injection e1 with e1
      subst e1
      have HRw:Hid (∀ j<n,w3.cell? ⟨g,j,none⟩=some (.float .f64 (lnV l cur c h j))∧g<w3.heap.size):=fun j hj=>⟨by
       have:=hs'.cell j hj
       unfold flV at this
       rw [wh _ hj,Nat.zero_add] at this;exact this,hs'.lt (by omega)⟩
      have HNd:Hid (∀ j<n,_):=fun j hj=>HSd.out j (by rw [Hn.out];exact hj) HAm.out h0 (hE j hj)
      have HDy:Hid (∀ j<n,c.base<c.ds.getD j 0∧c.ds.getD j 0≤109572∧0≤c.base):=fun j hj=>by
       obtain⟨a,b⟩:=ok.day (k:=j) (by rw [Hn.out];exact hj)
       exact⟨a,b,ok.b0⟩
      obtain rfl:=HSr3.out.x.at_ (by rw [Hn.out];omega)
      obtain⟨t0,t1,t2,t3⟩:=HX3.out.t
      have dnn:((n:Int) !=(n:Int))=false:=by simp
      clear ho hE hs' h0 ok HSd HLa
      go_wp2_with fail
      clear t0 t1 t2 t3
      go_loopw [12,13,14] (fun i _ _ wr=>∃ k:Nat,k≤n∧i=.int .i64 k∧Hid (Below w3.heap.size w3 wr)) (fun i _ _ _=>n - (intOf i).toNat)
      case atStart=>exact⟨0,Nat.zero_le _,rfl,Below.refl _ _⟩
      case round=>
       obtain⟨k,hk,rfl,HBr⟩:=hrel
       by_cases hlt:k<n
       ·obtain⟨t0,t1,t2,t3⟩:=(HX3.out.step HBr.out).t
        have a0:=(HSr3.out.below HBr.out).x.cell k (by rw [Hn.out];exact hlt)
        unfold xV at a0
        obtain⟨d0,d1,d2⟩:=HDy.out k hlt
        obtain⟨v1,v2,v3,v4,v5,v6⟩:=HNd.out k hlt
        obtain⟨r0,rl⟩:=HRw.out k hlt
        rw [Hbase.out] at d0 d2 v3 v4 v5
        obtain⟨P,hP⟩:∃ P,P=c.ds.getD k 0 - base:=⟨_,rfl⟩
        obtain⟨n0,n1⟩:=mq d0 (by omega)
        obtain⟨p,hp,hpl,hex,_⟩:=yC (aE v6) n0
        have hq:=vV (P:=P) (Q:=365) (by omega) (by omega) (by decide) (by decide)
        have e365:fi 365=4645128764097822720:=by decide+kernel
        have eT:yW P 365=rkT base (c.ds.getD k 0):=by unfold rkT;rw [hP]
        rw [eT,e365] at hq
        have hw0:IntKind.i64.wrap (c.ds.getD k 0 - base)=P:=by rw [IntKind.wrap_i64];omega
        have f1:=im P
        have HE:=hideS fun wx=>Gu (bP hpl).1 hex wx
        have hfl:=uB hpl
        have lt1:=dz (a:=rkX base (c.ds.getD k 0) h) (b:=4607182418800017408) (ah (by omega)) (by unfold U64;omega) (iH v3) (by decide)
        have eq1:=cS (a:=rkX base (c.ds.getD k 0) h) (b:=4607182418800017408) (ah (by omega)) (by unfold U64;omega) (iH v3) (by decide)
        have gt1:=gr (a:=rkX base (c.ds.getD k 0) h) (b:=4607182418800017408) (ah (by omega)) (by unfold U64;omega) (iH v3) (by decide)
        have kg:=gr (a:=lnV l cur c h k) (b:=0) (ah v1) (by unfold U64;omega) v2 (by decide)
        have kl:=dz (a:=lnV l cur c h k) (b:=0) (ah v1) (by unfold U64;omega) v2 (by decide)
        rw [show aa ((0:Nat):Int)=0 by decide] at kg kl
        have HV4:=hideS v4
        have HV5:=hideS v5
        have HRk:=hideS (And.intro r0 rl)
        generalize lnV l cur c h k=X at *
        generalize aa (rkX base (c.ds.getD k 0) h:Nat)=R at *
        generalize aa ((4607182418800017408:Nat):Int)=O at *
        generalize rkX base (c.ds.getD k 0) h=x at *
        generalize rkT base (c.ds.getD k 0)=T at *
        generalize c.ds.getD k 0=D at *
        generalize fi P=FP at *
        generalize aa (X:Nat)=RX at *
        have hr:=fun wx=>run_float_arith (P:=Tryz.prog) wx .quo 23 .f64 FP 4645128764097822720 T hq
        have r1:=fun wx=>run_float_arith (P:=Tryz.prog) wx .mul 23 .f64 h T p hp
        have hneg:=vY
        generalize flipN p=fp at *
        have l1:(0:Int)≤(k:Int):=Int.natCast_nonneg _
        have l2:(k:Int)<(n:Int):=by omega
        have HBq:Hid (∀ q,Below w3.heap.size w3 (wr.drewN q)):=fun q=>⟨HBr.out.os,HBr.out.tape,HBr.out.output,HBr.out.size,HBr.out.block⟩
        clear hq hp hex hpl v1 v2 v3 v4 v5 v6 d0 d1 d2 n0 n1 eT e365 hP r0 rl
        go_wp2_with fail
        go_quiet (fail)
        go_wp2_with fail
        refine (HE.out _).mono ?_
        rintro e w5 ⟨rfl,hb5⟩
        have HB5:Hid (Below w3.heap.size w3 w5):=(HBq.out _).trans (hb5.mono (HBq.out _).size)
        have r0:=(HB5.out.cell (p:=⟨g,k,none⟩) HRk.out.2).trans HRk.out.1
        clear hb5 HE hr r1 hneg hw0 f1 hfl t0 t1 t2 t3 a0
        rcases Int.lt_trichotomy R O with hlt' | heq | hgt
        ·rw [decide_eq_true hlt'] at lt1
         rw [decide_eq_false (by omega)] at eq1 gt1
         rw [decide_eq_false (show ¬ 0<RX by have:=HV4.out (by omega);omega)] at kg
         clear hlt' kl
         go_wp2_with fail
         go_roundw
         case rel=>exact⟨k+1,by omega,by simp,HB5⟩
         case measure=>simp [intOf];omega
        ·rw [decide_eq_false (by omega)] at lt1 gt1
         rw [decide_eq_true heq] at eq1
         rw [decide_eq_false (show ¬ 0<RX by have:=HV4.out (by omega);omega)] at kg
         rw [decide_eq_false (show ¬ RX<0 by have:=HV5.out (by omega);omega)] at kl
         clear heq
         go_wp2_with fail
         go_roundw
         case rel=>exact⟨k+1,by omega,by simp,HB5⟩
         case measure=>simp [intOf];omega
        ·rw [decide_eq_false (by omega)] at lt1 eq1
         rw [decide_eq_true hgt] at gt1
         rw [decide_eq_false (show ¬ RX<0 by have:=HV5.out (by omega);omega)] at kl
         clear hgt kg
         go_wp2_with fail
         go_roundw
         case rel=>exact⟨k+1,by omega,by simp,HB5⟩
         case measure=>simp [intOf];omega
       ·obtain rfl:k=n:=by omega
        go_wp2_with fail
        refine (HAw.out _).mono ?_
        rintro e w4 ⟨rfl,hb4⟩
        have HB4:=hideS (HBl3.out.trans ((HBr.out.trans (hb4.mono HBr.out.size)).mono HBl3.out.size))
        clear hb4
        go_wp2_with fail
        go_ret
        exact⟨rfl,HB4.out⟩
theorem oX (pl:Option Addr) (bl ol cl:Nat) (l:List Flw) (cur:Int) (pd pf:Option Addr) (bd od cd b2 o2 cf:Nat) (c:Cv) (h:Nat) (w:World) (hl:JSrc aF w pl bl ol l) (hf:dr l) (_:l.length≤9223372036854775807) (_:GP cur) (hs:TFl w pd pf bd od b2 o2 c.ds c.fs) (hh:h<18446744073709551616) :
  Calls Tryz.prog 4 #[.slice pl l.length cl,.int .i64 cur,.agg #[.int .i64 c.base,.int .i64 c.kind,.slice pd c.ds.length cd,.slice pf c.fs.length cf],.float .f64 h] w fun e w'=>e=.returned (.bool true)∧Below w.heap.size w w':=by
 by_cases hm:(l.length≤20∧c.ds.length≤8∧c.fs.length≤8)∧(c.kind=1∨c.kind=2)
 ·exact sU l cur c h pl bl ol cl _ pd pf bd od cd b2 o2 cf w hl rfl hf hh hs hm.1 hm.2
 ·exact pO cur c.base c.kind h pl pd pf _ cl _ cd _ cf w hm
end Go.Proofs.YtpddmnmhdahnlabGreat
