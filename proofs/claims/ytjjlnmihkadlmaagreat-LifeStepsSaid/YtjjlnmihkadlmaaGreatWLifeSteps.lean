/-  -/
import Derived.Test.YtjjlnmihkadlmaaGreatLfO
namespace Go.Proofs.YtjjlnmihkadlmaaGreat
open Go.RowKit

theorem vN {w0 wr:World} {pl:Option Addr} {M cl:Nat} {cur en:Int} {ba bb:Nat} {qp:Option Addr} {np cp:Nat} {x:Act} (hx:∃ u:Nat→Value,x=lsM pl M cl cur en ba bb qp np cp u) (h:∀ u,∃ r,Tryz.f5.body.bind (dX 7)=some r∧r.wp Tryz.prog (fB w0) (lsM pl M cl cur en ba bb qp np cp u) wr):∃ r,Tryz.f5.body.bind (dX 7)=some r∧r.wp Tryz.prog (fB w0) x wr:=by
 obtain⟨u,rfl⟩:=hx
 exact h u
theorem CI (x:Int):∃ r:Int,bits .and .i64 x 1023=r∧0≤r∧r≤1023:=by
 have e:bits .and .i64 x 1023=IntKind.i64.wrap (((BitVec.ofInt 64 x&&& BitVec.ofInt 64 1023).toNat:Nat):Int):=rfl
 have h:(BitVec.ofInt 64 x&&& BitVec.ofInt 64 1023).toNat≤1023:=by
  rw [BitVec.toNat_and]
  exact Nat.le_trans Nat.and_le_right (by decide)
 refine⟨_,e,?_⟩
 generalize (BitVec.ofInt 64 x&&& BitVec.ofInt 64 1023).toNat=n at h
 rw [IntKind.wrap_i64]
 omega
theorem Ew {l:List Flw} {cur day:Int} (h:NwR l cur day 0):ChkF l 0 0∧(1≤cur∧cur≤8)∧(0≤day∧day≤109572)∧∀ f ∈ l,paB cur day f=false:=by
 generalize hz:(0:Int)=z at h
 cases h with
 | flow E K h hE=>exact absurd hz.symm hE
 | cur=>cases hz
 | day=>cases hz
 | past=>cases hz
 | ok h hc hd hp=>exact⟨h,hc,hd,hp⟩
set_option maxRecDepth 100000 in
set_option maxHeartbeats 3200000 in
theorem ns (pl:Option Addr) (bl ol cl M:Nat) (l:List Flw) (cur day en E:Int) (vs:Value) (w:World) (hE:NwR l cur day E) (h0:E≠0) (hl:JSrc aF w pl bl ol l) (hM:l.length=M) (hM2:M≤9223372036854775807) (hf:dL l) :
  Calls Tryz.prog 5 #[.slice pl M cl,.int .i64 cur,.int .i64 day,vs,.int .i64 en] w fun e w'=>e=.returned (.bool true)∧Below w.heap.size w w':=by
 have HN:=hideS fun wx (hb:Below w.heap.size w wx)=>jp l cur day E pl bl ol cl M wx hE (hl.below hb) hM hM2 hf
 have HW:=hideS fun wx=>jq wx
 have d1:(E !=0)=true:=bne_iff_ne.2 h0
 have d2:(E==E)=true:=beq_self_eq_true E
 have H0:=hideS h0
 clear hE h0 hl hM hf
 go_enter Tryz.func5,Tryz.ntmps5
 go_wp2_with fail
 refine (HN.out _ (Below.refl _ _)).mono ?_
 rintro e w1 ⟨h1,hb1⟩
 have h1':e=.returned (.tuple #[.pointer none,.int .i64 E]):=by
  rcases h1 with⟨_,h⟩| ⟨h,_⟩
  ·exact h
  ·exact absurd h H0.out
 subst h1'
 clear h1
 have HB1:=hideS hb1
 clear hb1
 go_wp2_with fail
 refine (HN.out _ HB1.out).mono ?_
 rintro e w2 ⟨h2,hb2⟩
 have h2':e=.returned (.tuple #[.pointer none,.int .i64 E]):=by
  rcases h2 with⟨_,h⟩| ⟨h,_⟩
  ·exact h
  ·exact absurd h H0.out
 subst h2'
 clear h2
 have HB2:Hid (Below w.heap.size w w2):=HB1.out.trans (hb2.mono HB1.out.size)
 clear hb2 HB1
 by_cases h6:60<M
 ·have d3:decide ((60:Int)<(M:Int))=true:=decide_eq_true (by omega)
  clear h6
  go_wp2_with fail
  refine (HW.out _).mono ?_
  rintro e wz ⟨rfl,hbz⟩
  have HBz:Hid (Below w.heap.size w wz):=HB2.out.trans (hbz.mono HB2.out.size)
  clear hbz
  go_wp2_with fail
  go_ret
  exact⟨rfl,HBz.out⟩
 ·have d3:decide ((60:Int)<(M:Int))=false:=decide_eq_false (by omega)
  clear h6
  go_wp2_with fail
  refine (HW.out _).mono ?_
  rintro e wz ⟨rfl,hbz⟩
  have HBz:Hid (Below w.heap.size w wz):=HB2.out.trans (hbz.mono HB2.out.size)
  clear hbz
  go_wp2_with fail
  go_ret
  exact⟨rfl,HBz.out⟩
set_option maxRecDepth 100000 in
set_option maxHeartbeats 3200000 in
theorem mF (pl:Option Addr) (bl ol cl M:Nat) (l:List Flw) (cur day en:Int) (vs:Value) (w:World) (hE:NwR l cur day 0) (h6:60<M) (hl:JSrc aF w pl bl ol l) (hM:l.length=M) (hM2:M≤9223372036854775807) (hf:dL l) :
  Calls Tryz.prog 5 #[.slice pl M cl,.int .i64 cur,.int .i64 day,vs,.int .i64 en] w fun e w'=>e=.returned (.bool true)∧Below w.heap.size w w':=by
 have HN:=hideS fun wx (hb:Below w.heap.size w wx)=>jp l cur day 0 pl bl ol cl M wx hE (hl.below hb) hM hM2 hf
 have HW:=hideS fun wx=>jq wx
 have d3:decide ((60:Int)<(M:Int))=true:=decide_eq_true (by omega)
 clear hE hl hM hf h6
 go_enter Tryz.func5,Tryz.ntmps5
 go_wp2_with fail
 refine (HN.out _ (Below.refl _ _)).mono ?_
 rintro e w1 ⟨h1,hb1⟩
 rcases h1 with⟨h,_⟩| ⟨_,ba,ga,va,rfl,_⟩
 ·exact absurd rfl h
 have HB1:=hideS hb1
 clear hb1
 go_wp2_with fail
 refine (HN.out _ HB1.out).mono ?_
 rintro e w2 ⟨h2,hb2⟩
 rcases h2 with⟨h,_⟩| ⟨_,bb,gb,vb,rfl,_⟩
 ·exact absurd rfl h
 have HB2:Hid (Below w.heap.size w w2):=HB1.out.trans (hb2.mono HB1.out.size)
 clear hb2 HB1
 go_wp2_with fail
 refine (HW.out _).mono ?_
 rintro e wz ⟨rfl,hbz⟩
 have HBz:Hid (Below w.heap.size w wz):=HB2.out.trans (hbz.mono HB2.out.size)
 clear hbz
 go_wp2_with fail
 go_ret
 exact⟨rfl,HBz.out⟩
set_option maxRecDepth 100000 in
set_option maxHeartbeats 12800000 in
theorem qE (pl:Option Addr) (bl ol cl M:Nat) (l:List Flw) (cur day en:Int) (ps:Option Addr) (bs os cs S:Nat) (st:List Int) (w:World) (hE:NwR l cur day 0) (hM60:M≤60) (hl:JSrc aF w pl bl ol l) (hM:l.length=M) (hf:dL l) (hst:VSrc w ps bs os S (xV st)) (hS:S≤9223372036854775807) :
  Calls Tryz.prog 5 #[.slice pl M cl,.int .i64 cur,.int .i64 day,.slice ps S cs,.int .i64 en] w fun e w'=>e=.returned (.bool true)∧Below w.heap.size w w':=by
 have HN:=hideS fun wx (hb:Below w.heap.size w wx)=>jp l cur day 0 pl bl ol cl M wx hE (hl.below hb) hM (by omega) hf
 have HW:=hideS fun wx=>jq wx
 have d3:decide ((60:Int)<(M:Int))=false:=decide_eq_false (by omega)
 obtain⟨hck,hc,hd,hpa⟩:=Ew hE
 have hbad:=(qt hck).2
 obtain⟨mine,hmine⟩:∃ mine,l.filter (cuB cur)=mine:=⟨_,rfl⟩
 have hmm:∀ f ∈ mine,f ∈ l∧f.cur=cur:=fun f hf=>by
  rw [← hmine] at hf
  exact⟨(List.mem_filter.1 hf).1,of_decide_eq_true (List.mem_filter.1 hf).2⟩
 have hb:∀ f ∈ mine,f.cur=cur∧cB f=0:=fun f hf=>by
  obtain⟨i,hi,e⟩:=eM (hmm f hf).1
  exact⟨(hmm f hf).2,by rw [← e];exact hbad i hi⟩
 have hmd:∀ f ∈ mine,day≤f.day:=fun f hf=>by
  have h1:=hpa f (hmm f hf).1
  unfold paB at h1
  rw [decide_eq_true (hmm f hf).2,Bool.true_and] at h1
  have:=of_decide_eq_false h1
  omega
 have hfm:dL mine:=by rw [← hmine];exact db _ hf
 have hfa:∀ f ∈ mine,f.am<18446744073709551616:=fun f hf'=>by
  obtain⟨i,_,rfl⟩:=eM hf'
  exact hfm i
 have h60:mine.length≤60:=by rw [← hmine];have:=List.length_filter_le (cuB cur) l;omega
 have hsm:mine.filter (ao day)=mine:=by
  rw [List.filter_eq_self]
  intro f hf
  exact decide_eq_true (hmd f hf)
 have HPk:=hideS (And.intro hmine (And.intro hl (And.intro hM (And.intro hM60 (And.intro hc (And.intro hb (And.intro hfm (And.intro hmd (And.intro h60 (And.intro hfa hd))))))))))
 have HSm:=hideS hsm
 have HSt:=hideS hst
 have HSt0:=hideS (SpI.start hmd hd.2 (cur:=cur))
 have hd0:0≤day:=hd.1
 have hd1:day≤109572:=hd.2
 clear hE hl hM hf hck hc hd hpa hbad hmine hmm hb hmd hfm hfa h60 hsm hst hM60
 go_enter Tryz.func5,Tryz.ntmps5
 go_wp2_with fail
 refine (HN.out _ (Below.refl _ _)).mono ?_
 rintro e w1 ⟨h1,hb1⟩
 rcases h1 with⟨h,_⟩| ⟨_,ba,ga,va,rfl,hx1⟩
 ·exact absurd rfl h
 rw [HPk.out.1] at hx1
 have HX1:=hideS hx1
 have HB1:=hideS hb1
 clear hb1 hx1
 go_wp2_with fail
 refine (HN.out _ HB1.out).mono ?_
 rintro e w2 ⟨h2,hb2⟩
 rcases h2 with⟨h,_⟩| ⟨_,bb,gb,vb,rfl,hx2⟩
 ·exact absurd rfl h
 rw [HPk.out.1] at hx2
 have HLs:Hid (LsW w w1.heap.size w2.heap.size ba ga cur day 0 70 va (mine.filter (ao day)) bb gb day 0 70 vb mine (.slice none 0 0) [] w2):=by
  show LsW _ _ _ _ _ _ _ _ _ _ _ _ _ _ _ _ _ _ _ _ _
  rw [HSm.out]
  refine⟨HB1.out.trans (hb2.mono HB1.out.size),HX1.out.below hb2,hx2,ef _ _ _ _,fun k hk=>?_,fun k hk=>?_,HB1.out.size,hb2.size,Nat.le_refl _⟩
  ·rcases hk with rfl | hk
   ·exact HX1.out.lt
   ·exact (cU HX1.out.own hk).2.1
  ·rcases hk with rfl | hk
   ·exact hx2.lt
   ·exact (cU hx2.own hk).2.1
 obtain⟨s1,hs1⟩:∃ s1,w1.heap.size=s1:=⟨_,rfl⟩
 obtain⟨s2,hs2⟩:∃ s2,w2.heap.size=s2:=⟨_,rfl⟩
 rw [hs1,hs2] at HLs
 clear hb2 hx2 HX1 HB1 HN hs1 hs2
 go_wp2_with fail
 rename_i K0 hK0
 have HK0:=hideS hK0
 clear hK0 d3
 go_loopw [15,16,17] (fun pd a i wr=>∃ (j:Nat) (at_ N:Int) (L g np cp:Nat) (v:Value) (qp:Option Addr) (P:List Flw),i=.int .i64 j∧j≤20∧a=.int .i64 at_∧pd=.slice qp np cp∧Hid (P.length=np)∧Hid (LsW w s1 s2 ba g cur at_ N L v (mine.filter (ao at_)) bb gb day 0 70 vb mine (.slice qp np cp) P wr)∧Hid (SpI mine P cur day at_ N L j)∧Hid (at_≤en∨at_=day)) (fun _ _ i _=>20 - (intOf i).toNat)
 case atStart=>exact⟨0,day,0,70,ga,0,0,va,none,[],rfl,by omega,rfl,rfl,rfl,HLs,HSt0,Or.inr rfl⟩
 case round=>
  clear HLs HSt0
  obtain⟨j,at_,N,L,g,np,cp,v,qp,P,rfl,hj,rfl,rfl,HNp,HLs,HSp,HAt⟩:=hrel
  have HEnd:Hid (∀ u,∃ r,Tryz.f5.body.bind (dX 7)=some r∧r.wp Tryz.prog (fB w) (lsM pl M cl cur en ba bb qp np cp u) wr):=fun u=>FR w wr s1 s2 ba g bb gb L j cur day at_ en N v vb l mine P pl bl ol cl M qp cp np u HLs.out HNp.out HSp.out hj HAt.out HPk.out.1 HPk.out.2.1 HPk.out.2.2.1 HPk.out.2.2.2.1 HPk.out.2.2.2.2.1 HPk.out.2.2.2.2.2.1 HPk.out.2.2.2.2.2.2.1 HPk.out.2.2.2.2.2.2.2.1
  by_cases hlt:j<S
  ·by_cases h20:j<20
   ·obtain rfl:=HSt.out.at_ (by omega)
    have hcs:wr.cell? ⟨bs,os+j,none⟩=some (.int .i64 (st.getD j 0)):=(HSt.out.below HLs.out.bl).cell j hlt
    generalize st.getD j 0=z at hcs
    obtain⟨r,hr,hr0,hr1⟩:=CI z
    have ha0:0≤at_:=by have:=HSp.out.lo;omega
    have ha1:at_≤109572:=HSp.out.hi
    obtain⟨n,hn⟩:∃ n,at_+r=n:=⟨_,rfl⟩
    have hwn:IntKind.i64.wrap (at_+r)=n:=by rw [IntKind.wrap_i64];omega
    have hgt:at_≤n:=by omega
    by_cases hen:en<n
    ·have e1:decide (en<n)=true:=decide_eq_true hen
     clear hen
     go_wp2_with fail
     refine HK0.out _ _ ?_
     refine gO (k:=7) (c:=Tryz.f5.body) (vN (pl:=pl) (M:=M) (cl:=cl) (cur:=cur) (en:=en) (ba:=ba) (bb:=bb) (qp:=qp) (np:=np) (cp:=cp) ?_ HEnd.out) rfl
     exact vM rfl
    ·have e1:decide (en<n)=false:=decide_eq_false hen
     by_cases hla:109572<n
     ·have e2:decide (109572<n)=true:=decide_eq_true hla
      have HPb:=hideS (gL w.heap.size ba g L cur at_ n N 51 v _ wr HLs.out.a (Or.inl ⟨by omega,rfl⟩))
      have HBl:=hideS HLs.out.bl
      clear hen hla
      go_wp2_with fail
      refine (HPb.out).mono ?_
      rintro e w5 ⟨rfl,hb5⟩
      have HB5:Hid (Below w.heap.size w w5):=HBl.out.trans (hb5.mono HBl.out.size)
      clear hb5
      go_wp2_with fail
      refine (HW.out _).mono ?_
      rintro e wz ⟨rfl,hbz⟩
      have HBz:Hid (Below w.heap.size w wz):=HB5.out.trans (hbz.mono HB5.out.size)
      clear hbz
      go_wp2_with fail
      go_ret
      exact⟨rfl,HBz.out⟩
     ·have e2:decide (109572<n)=false:=decide_eq_false hla
      have HPo:=hideS (gf w.heap.size ba g L cur at_ n N v (mine.filter (ao at_)) wr HLs.out.a (by omega) (by omega) hgt (fun f hf'=>of_decide_eq_true (List.mem_filter.1 hf').2) HPk.out.2.2.2.2.1 (by have:=List.length_filter_le (ao at_) mine;have:=HPk.out.2.2.2.2.2.2.2.2.1;omega) (fun f hf'=>(HPk.out.2.2.2.2.2.1 f (List.mem_filter.1 hf').1).2) (db _ HPk.out.2.2.2.2.2.2.1) (by have:=HSp.out.L;omega))
      have HSp5:=hideS (HSp.out.step HPk.out.2.2.2.2.2.1 HPk.out.2.2.2.2.2.2.2.2.2.1 HPk.out.2.2.2.2.2.2.2.2.1 hgt (show n≤109572 by omega))
      have HAt5:Hid (n≤en∨n=day):=Or.inl (by omega)
      have HSS:Hid ((mine.filter (ao at_)).filter (ao n)=mine.filter (ao n)):=gN hgt mine
      clear hen hla HEnd HAt
      go_wp2_with fail
      refine (HPo.out).mono ?_
      intro e w5 hp5
      obtain⟨g5,v5,hx5,q5,m5,c5,rfl,hm5,ho5⟩:=HLs.out.passA hp5
      rw [HSS.out] at hx5
      have HX5:=hideS hx5
      have HM5:=hideS hm5
      obtain⟨_,b5,_,hq5,hs5,_,_,_⟩:=av ho5 hm5.symm
      injection hq5 with hq5 _ hc5
      subst hq5 hc5
      have HS5:=hideS hs5
      have hnil5:q5=none→m5=0∧c5=0:=fun h=>by
       subst h
       rcases ho5.2 with⟨e,h⟩| ⟨g',cap,cs,e,_⟩
       ·injection e with _ e1 e2
        exact⟨h,e2⟩
       ·injection e with e;cases e
      have HNil:=hideS hnil5
      have HDa:=hideS (mD w.heap.size ba g5 _ cur n _ v5 _ w5 HX5.out.a)
      have x1:(n !=n)=false:=by simp
      have hm60:m5≤60:=by
       have a1:=HM5.out
       have a2:=List.length_filter_le (fun f:Flw=>decide (f.day<n)) (mine.filter (ao at_))
       have a3:=List.length_filter_le (ao at_) mine
       have a4:=HPk.out.2.2.2.2.2.2.2.2.1
       omega
      clear hx5 hm5 hs5 ho5 hp5 hnil5 HPo HLs hcs
      go_wp2_with fail
      refine (turned (HDa.out)).mono ?_
      rintro e w' ⟨rfl,rfl⟩
      go_wp2_with fail
      go_loopw [21] (fun i wx=>∃ (q:Nat),q≤m5∧i=.int .i64 q∧wx=w5) (fun i _=>m5 - (intOf i).toNat)
      case atStart=>exact⟨0,Nat.zero_le _,rfl,rfl⟩
      case round=>
       obtain⟨q,hq,rfl,rfl⟩:=hrel
       by_cases hlq:q<m5
       ·obtain rfl:=HS5.out.at_ (by have:=HM5.out;omega)
        obtain⟨c0,_,_⟩:=HS5.out.cell q (by rw [← HM5.out];exact hlq)
        rw [Nat.zero_add] at c0
        have hmem:=ce (show q<((mine.filter (ao at_)).filter (fun f=>decide (f.day<n))).length by rw [← HM5.out];exact hlq)
        have k1:=of_decide_eq_true (List.mem_filter.1 hmem).2
        have k2:at_≤_:=of_decide_eq_true (List.mem_filter.1 (List.mem_filter.1 hmem).1).2
        generalize (((mine.filter (ao at_)).filter (fun f=>decide (f.day<n))).getD q an).day=dq at *
        have y1:decide (dq<at_)=false:=decide_eq_false (by omega)
        have y2:decide (n≤dq)=false:=decide_eq_false (by omega)
        clear hmem k1 k2
        go_wp2_with fail
        go_roundw
        case rel=>exact⟨q+1,by omega,by simp,by trivial⟩
        case measure=>simp [intOf];omega
       ·obtain rfl:q=m5:=by omega
        have hge:¬ (q:Int)<(q:Int):=by omega
        have HPr:=hideS HX5.out.p
        have hpr:=HPr.out
        rw [HNp.out] at hpr
        have HPr2:=hideS hpr
        have hlen5:np+q≤60:=by
         have e3:=HSp5.out.len
         rw [List.length_append,HNp.out,← HM5.out] at e3
         have:=HPk.out.2.2.2.2.2.2.2.2.1
         omega
        clear hpr HPr hlq hq
        go_wp2_with (at_builtin;refine bE _ rfl (.tmp 151) (.tmp 152) rfl s2 (.slice qp np cp) np P rfl HPr2.out q5 b5 0 c5 q ((mine.filter (ao at_)).filter (fun f=>decide (f.day<n))) rfl HM5.out.symm HS5.out HNil.out (by omega) HX5.out.s2 ?_;intro v8 w8 ho8 hg8;have HO8:=hideS ho8;have HG8:=hideS hg8;obtain⟨q8,b8,k8,hv8,_,_,_,_⟩:=av ho8 (by rw [List.length_append,← HM5.out,HNp.out]);subst hv8;clear ho8 hg8)
        go_roundw
        case rel=>
         refine⟨j+1,n,_,_,g5,np+q,k8,v5,q8,P++(mine.filter (ao at_)).filter (fun f=>decide (f.day<n)),by simp,by omega,rfl,rfl,?_,?_,HSp5,HAt5⟩
         ·show _=_
          rw [List.length_append,← HM5.out,HNp.out]
         ·exact HX5.out.grow (by rw [List.length_append,← HM5.out,HNp.out];exact HO8.out) HG8.out
        case measure=>simp [intOf];omega
   ·have d4:decide ((j:Int)<20)=false:=decide_eq_false (by omega)
    go_wp2_with fail
    refine HK0.out _ _ ?_
    refine gO (k:=7) (c:=Tryz.f5.body) (vN (pl:=pl) (M:=M) (cl:=cl) (cur:=cur) (en:=en) (ba:=ba) (bb:=bb) (qp:=qp) (np:=np) (cp:=cp) ?_ HEnd.out) rfl
    exact vM rfl
  ·go_wp2_with fail
   refine HK0.out _ _ ?_
   refine gO (k:=7) (c:=Tryz.f5.body) (vN (pl:=pl) (M:=M) (cl:=cl) (cur:=cur) (en:=en) (ba:=ba) (bb:=bb) (qp:=qp) (np:=np) (cp:=cp) ?_ HEnd.out) rfl
   exact vM rfl
theorem mG (pf0:Option Addr) (bf0 of0 cf0:Nat) (l0:List Flw) (a1 a2:Int) (pp3:Option Addr) (bp3 op3 cp3:Nat) (xp3:List Int) (a4:Int) (w:World) (hl:JSrc aF w pf0 bf0 of0 l0) (hf:dL l0) (hn:l0.length≤17592186043904) (_h1:vJ a1) (_h2:vJ a2) (hp:VSrc w pp3 bp3 op3 xp3.length (xV xp3)) (_hpI:∀ i<xp3.length,Cs (xp3.getD i 0)) (hp2:xp3.length≤9223372036854775807) (_h4:vJ a4) :
  Calls Tryz.prog 5 #[.slice pf0 l0.length cf0,.int .i64 a1,.int .i64 a2,.slice pp3 xp3.length cp3,.int .i64 a4] w fun e w'=>e=.returned (.bool true)∧Below w.heap.size w w':=by
 obtain⟨E,hE⟩:=FI l0 a1 a2
 by_cases h0:E=0
 ·subst h0
  by_cases h6:60<l0.length
  ·exact mF pf0 bf0 of0 cf0 _ l0 a1 a2 a4 _ w hE h6 hl rfl (by omega) hf
  ·exact qE pf0 bf0 of0 cf0 _ l0 a1 a2 a4 pp3 bp3 op3 cp3 _ xp3 w hE (by omega) hl rfl hf hp (by omega)
 ·exact ns pf0 bf0 of0 cf0 _ l0 a1 a2 a4 E _ w hE h0 hl rfl (by omega) hf
end Go.Proofs.YtjjlnmihkadlmaaGreat
