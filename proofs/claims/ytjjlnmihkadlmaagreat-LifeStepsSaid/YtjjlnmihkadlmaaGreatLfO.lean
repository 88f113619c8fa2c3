/-  -/
import Derived.Test.YtjjlnmihkadlmaaGreatHbn
namespace Go.Proofs.YtjjlnmihkadlmaaGreat
open Go.RowKit

theorem Et {P:List Flw} {j:Nat} (h:j<P.length):uS (P.take (j+1))=uS (P.take j)+A.kj ((P.getD j an).am:Int):=by
 rw [fH h,gM]
 simp [uS]
theorem zt (N:Int) {u:Int} (h:aI u=true):(⟨0,N⟩:A.St).merge (A.kx u)=⟨0,N+A.kj u⟩:=by
 unfold A.kx
 rw [if_pos h]
 exact vz _ _
theorem Eu {u:Int} (h:finB u=true):aI u=true:=by
 unfold finB at h
 unfold aI
 exact h
set_option maxRecDepth 20000 in
def lsM (pl:Option Addr) (M cl:Nat) (cur en:Int) (a b:Nat) (qp:Option Addr) (np cp:Nat) (u:Nat→Value):Act:=⟨⟨.slice pl M cl::.int .i64 cur::u 2::u 3::.int .i64 en::u 5::u 6::u 7::u 8::u 9::u 10::.pointer (some ⟨a,0,none⟩)::u 12::.pointer (some ⟨b,0,none⟩)::u 14::.slice qp np cp::u 16::u 17::u 18::u 19::u 20::u 21::u 22::u 23::u 24::u 25::u 26::u 27::u 28::u 29::u 30::u 31::u 32::u 33::u 34::u 35::u 36::u 37::u 38::u 39::u 40::u 41::u 42::u 43::u 44::u 45::u 46::u 47::u 48::u 49::u 50::u 51::u 52::u 53::u 54::u 55::u 56::u 57::u 58::u 59::u 60::u 61::u 62::u 63::u 64::u 65::u 66::u 67::u 68::u 69::u 70::u 71::u 72::u 73::u 74::u 75::u 76::u 77::u 78::u 79::u 80::u 81::u 82::u 83::u 84::u 85::u 86::u 87::u 88::u 89::u 90::u 91::u 92::u 93::u 94::u 95::u 96::u 97::u 98::u 99::u 100::u 101::u 102::u 103::u 104::u 105::u 106::u 107::u 108::u 109::u 110::u 111::u 112::u 113::u 114::u 115::u 116::u 117::u 118::u 119::u 120::u 121::u 122::u 123::u 124::u 125::u 126::u 127::u 128::u 129::u 130::u 131::u 132::u 133::u 134::u 135::u 136::u 137::u 138::u 139::u 140::u 141::u 142::u 143::u 144::u 145::u 146::u 147::u 148::u 149::u 150::u 151::u 152::u 153::u 154::u 155::u 156::u 157::u 158::u 159::u 160::u 161::u 162::u 163::u 164::u 165::u 166::u 167::u 168::u 169::u 170::u 171::u 172::u 173::u 174::u 175::u 176::u 177::u 178::u 179::u 180::u 181::u 182::u 183::u 184::u 185::u 186::u 187::u 188::u 189::u 190::u 191::u 192::u 193::u 194::u 195::u 196::u 197::u 198::u 199::u 200::u 201::u 202::u 203::u 204::u 205::u 206::u 207::u 208::u 209::u 210::u 211::u 212::u 213::u 214::u 215::u 216::u 217::u 218::u 219::u 220::u 221::u 222::u 223::u 224::u 225::u 226::u 227::u 228::u 229::u 230::u 231::u 232::u 233::u 234::u 235::u 236::u 237::u 238::u 239::u 240::u 241::u 242::u 243::u 244::u 245::u 246::u 247::u 248::u 249::u 250::u 251::u 252::u 253::u 254::u 255::u 256::u 257::u 258::u 259::u 260::u 261::u 262::u 263::u 264::u 265::u 266::u 267::u 268::u 269::u 270::u 271::u 272::u 273::u 274::u 275::u 276::u 277::u 278::u 279::u 280::u 281::u 282::u 283::[]⟩,[]⟩
theorem vM {pl:Option Addr} {M cl:Nat} {cur en:Int} {a b:Nat} {qp:Option Addr} {np cp:Nat} {x:Act} (h:x=lsM pl M cl cur en a b qp np cp (fun k=>x.tmps.getD k undef)):∃ u:Nat→Value,x=lsM pl M cl cur en a b qp np cp u:=⟨_,h⟩
theorem Ev {w0 wr:World} {en:Int} {ba bb:Nat} {qp:Option Addr} {np cp:Nat} {qm:Option Addr} {nm cm s:Nat} {mi:Int} {x:Act} (hx:∃ u:Nat→Value,x=lsE en ba bb qp np cp qm nm cm s mi u) (h:∀ u,∃ r,Tryz.f5.body.bind (dX 15)=some r∧r.wp Tryz.prog (fB w0) (lsE en ba bb qp np cp qm nm cm s mi u) wr):∃ r,Tryz.f5.body.bind (dX 15)=some r∧r.wp Tryz.prog (fB w0) x wr:=by
 obtain⟨u,rfl⟩:=hx
 exact h u
set_option maxRecDepth 100000 in
set_option maxHeartbeats 6400000 in
theorem FR (w0 wr:World) (s1 s2 ba ga bb gb L k:Nat) (cur day at_ en N:Int) (va vb:Value) (l mine P:List Flw) (pl:Option Addr) (bl ol cl M:Nat) (qp:Option Addr) (cp np:Nat) (u:Nat→Value)
  (h:LsW w0 s1 s2 ba ga cur at_ N L va (mine.filter (ao at_)) bb gb day 0 70 vb mine (.slice qp np cp) P wr) (hnp:P.length=np)
  (hsp:SpI mine P cur day at_ N L k) (hk:k≤20) (hat:at_≤en∨at_=day) (hmine:l.filter (cuB cur)=mine) (hl:JSrc aF w0 pl bl ol l) (hM:l.length=M) (hM60:M≤60) (hc:1≤cur∧cur≤8) (hb:∀ f ∈ mine,f.cur=cur∧cB f=0) (hf:dL mine) (hmd:∀ f ∈ mine,day≤f.day) :
  ∃ r,Tryz.f5.body.bind (dX 7)=some r∧r.wp Tryz.prog (fB w0) (lsM pl M cl cur en ba bb qp np cp u) wr:=by
 refine⟨_,rfl,?_⟩
 unfold lsM fB
 have h60:mine.length≤60:=by rw [← hmine];have:=List.length_filter_le (cuB cur) l;omega
 have HW:=hideS fun wx=>jq wx
 have hL2:=hsp.L
 by_cases hbad:∃ E:Int,E≠0∧((¬ (0≤en∧en≤109572)∧E=51)∨((0≤en∧en≤109572)∧en<at_∧E=240))∧((¬ (0≤en∧en≤109572)∧E=51)∨((0≤en∧en≤109572)∧en<day∧E=240))
 ·obtain⟨E,hE0,hE1,hE2⟩:=hbad
  have HA:=hideS (gL w0.heap.size ba ga L cur at_ en N E va _ wr h.a hE1)
  have HBp:=hideS fun wx (hx:Below wr.heap.size wr wx)=>gL s1 bb gb 70 cur day en 0 E vb mine wx ((h.below hx).b) hE2
  have HBl:=hideS h.bl
  have d1:(E !=0)=true:=bne_iff_ne.2 hE0
  have d2:(E==E)=true:=beq_self_eq_true E
  clear h hnp hsp hk hat hmine hl hM hM60 hc hb hf hmd hE0 hE1 hE2 h60 hL2
  go_wp2_with fail
  refine (HA.out).mono ?_
  rintro e w1 ⟨rfl,hb1⟩
  have HB1:=hideS hb1
  clear hb1
  go_wp2_with fail
  refine (HBp.out _ HB1.out).mono ?_
  rintro e w2 ⟨rfl,hb2⟩
  have HB2:Hid (Below w0.heap.size w0 w2):=HBl.out.trans ((HB1.out.trans (hb2.mono HB1.out.size)).mono HBl.out.size)
  clear hb2 HB1
  go_wp2_with fail
  refine (HW.out _).mono ?_
  rintro e wz ⟨rfl,hbz⟩
  have HBz:Hid (Below w0.heap.size w0 wz):=HB2.out.trans (hbz.mono HB2.out.size)
  clear hbz
  go_wp2_with fail
  go_ret
  exact⟨rfl,HBz.out⟩
 ·have hrng:0≤en∧en≤109572:=Classical.byContradiction fun c=>hbad ⟨51,by decide,Or.inl ⟨c,rfl⟩,Or.inl ⟨c,rfl⟩⟩
  have hae:at_≤en:=by
   rcases hat with c | c
   ·exact c
   ·apply Classical.byContradiction
    intro d
    exact hbad ⟨240,by decide,Or.inr ⟨hrng,by omega,rfl⟩,Or.inr ⟨hrng,by omega,rfl⟩⟩
  have hlo:=hsp.lo
  have hfm:∀ f ∈ mine,f.am<18446744073709551616:=fun f hf'=>by
   obtain⟨i,_,rfl⟩:=eM hf'
   exact hf i
  have hsp2:=hsp.step hb hfm h60 hae hrng.2
  have HA:=hideS (gf w0.heap.size ba ga L cur at_ en N va (mine.filter (ao at_)) wr h.a hrng.1 hrng.2 hae (fun f hf'=>of_decide_eq_true (List.mem_filter.1 hf').2) hc (by have:=List.length_filter_le (ao at_) mine;omega) (fun f hf'=>(hb f (List.mem_filter.1 hf').1).2) (db _ hf) (by omega))
  have HBp:=hideS fun ga' va' N' L' la' vp' P' wx (hx:LsW w0 s1 s2 ba ga' cur en N' L' va' la' bb gb day 0 70 vb mine vp' P' wx)=>gf s1 bb gb 70 cur day en 0 vb mine wx hx.b hrng.1 hrng.2 (by omega) hmd hc (by omega) (fun f hf'=>(hb f hf').2) hf (by omega)
  have H:=hideS h
  have HSp:=hideS hsp2
  have HQ:=hideS hl
  have HM:=hideS hM
  have HPl:Hid (0<M→pl=some ⟨bl,ol,none⟩):=fun h=>hl.at_ (by omega)
  have HK:=hideS (And.intro hb (And.intro hf (And.intro hfm (And.intro hc (And.intro hrng (And.intro h60 hmine))))))
  have hnum:L+(mine.filter (ao at_)).length+71≤20000:=by have:=List.length_filter_le (ao at_) mine;omega
  have HNm:=hideS hnum
  have HNp:=hideS hnp
  have hnp60:np≤60:=by have:=hsp.len;omega
  have HNp6:=hideS hnp60
  have HSz:Hid (s2≤wr.heap.size):=h.s2
  have HSS:Hid ((mine.filter (ao at_)).filter (ao en)=mine.filter (ao en)):=gN hae mine
  clear h hnp hsp hsp2 hk hat hmine hl hM hc hb hf hmd h60 hL2 hbad hrng hae hlo hfm hnum hnp60
  go_wp2_with fail
  refine (HA.out).mono ?_
  intro e w1 hp1
  obtain⟨g1,v1,hx1,q1,m1,c1,rfl,hm1,ho1⟩:=H.out.passA hp1
  have HX1:=hideS hx1
  have HO1:=hideS ho1
  have HM1:=hideS hm1
  clear hx1 ho1 hm1 hp1 HA H
  go_wp2_with fail
  refine (HBp.out _ _ _ _ _ _ _ _ HX1.out).mono ?_
  intro e w2 hp2
  obtain⟨g2,v2,hx2,⟨q2,m2,c2x,rfl,hm2,_⟩,hch2⟩:=HX1.out.passB hp2
  have HO2:Hid (w2.ownsRow wr.heap.size 77 3 (.slice q1 m1 c1) m1 (aA aF ((mine.filter (ao at_)).filter (fun f=>decide (f.day<en))))):=cT HO1.out hch2 (fun k hk c=>by
   have h1:=(cU HO1.out hk).1
   have h2:=HX1.out.b1 k c
   have h3:=HSz.out
   omega)
  have HX2:=hideS hx2
  have HM2:=hideS hm2
  clear hx2 hm2 hp2 hch2 HX1 HO1 HBp
  obtain⟨p1,b1,k1,hq1,hs1,_,hnc1,hcm1⟩:=av HO2.out HM1.out.symm
  have hnil1:q1=none→m1=0∧c1=0:=fun h=>by
   subst h
   rcases HO2.out.2 with⟨e,h⟩| ⟨g',cap,cs,e,_⟩
   ·injection e with _ e1 e2
    exact⟨h,e2⟩
   ·injection e with e;cases e
  injection hq1 with hq1 _ hc1
  subst hq1 hc1
  have HS1:=hideS hs1
  have HNil:=hideS hnil1
  have HPn:Hid (P.length+((mine.filter (ao at_)).filter (fun f=>decide (f.day<en))).length≤60):=by
   show _≤_
   have e1:=HSp.out.len
   rw [List.length_append] at e1
   have:=HK.out.2.2.2.2.2.1
   omega
  have HPr:=hideS HX2.out.p
  have hlen3:np+m1≤60:=by have:=HPn.out;have:=HM1.out;have:=HNp.out;omega
  clear hs1 hnil1 hnc1 hcm1
  have hpr:=HPr.out
  rw [HNp.out] at hpr
  have HPr2:=hideS hpr
  clear hpr HPr
  go_wp2_with (at_builtin;refine bE _ rfl (.tmp 179) (.tmp 180) rfl s2 (.slice qp np cp) np P rfl HPr2.out q1 b1 0 c1 m1 ((mine.filter (ao at_)).filter (fun f=>decide (f.day<en))) rfl HM1.out.symm HS1.out HNil.out (by omega) HX2.out.s2 ?_;intro v3 w3 ho3 hg3;have HO3:=hideS ho3;have HG3:=hideS hg3;obtain⟨q3,b3,k3,hv3,hs3,_,_,_⟩:=av ho3 (by rw [List.length_append,← HM1.out,HNp.out]);have HS3:=hideS hs3;subst hv3;clear ho3 hg3 hs3)
  have HX3:Hid (LsW w0 s1 s2 ba g1 cur en _ _ v1 ((mine.filter (ao at_)).filter (ao en)) bb g2 en _ _ v2 (mine.filter (ao en)) (.slice q3 (np+m1) k3) (P++(mine.filter (ao at_)).filter (fun f=>decide (f.day<en))) w3):=HX2.out.grow (by rw [List.length_append,← HM1.out,HNp.out];exact HO3.out) HG3.out
  have hx3:=HX3.out
  rw [HSS.out] at hx3
  have hs3:=HS3.out
  have hsp3:=HSp.out
  obtain⟨P3,hP3⟩:∃ P3,P++(mine.filter (ao at_)).filter (fun f=>decide (f.day<en))=P3:=⟨_,rfl⟩
  have hl3:P3.length=np+m1:=by rw [← hP3,List.length_append,HNp.out,← HM1.out]
  rw [hP3] at hx3 hs3 hsp3
  obtain⟨n3,hn3⟩:∃ n3,np+m1=n3:=⟨_,rfl⟩
  rw [hn3] at hl3 hx3
  obtain⟨cc1,cc2⟩:=qC en mine
  have e1:=hsp3.len
  have e2:=hsp3.sum
  have hm23:n3=m2:=by rw [HM2.out,← hl3];omega
  have hcash:0+wsI cur parC (mine.filter (fun f=>decide (f.day<en)))=uS P3:=by
   rw [qB (fun f hf'=>HK.out.1 f (List.mem_filter.1 hf').1) (fun f hf'=>HK.out.2.2.1 f (List.mem_filter.1 hf').1)]
   omega
  have hcasha:=hsp3.cash
  rw [hcash] at hx3
  rw [hcasha] at hx3
  have HX:=hideS hx3
  have HS:=hideS hs3
  have HP:=hideS (And.intro hl3 (And.intro hsp3.mem e1))
  have HM3:=hideS hm23
  have hN60:n3≤60:=by omega
  have HMine:=hideS HK.out.2.2.2.2.2.2
  have hNwf:=hideS (A.jc w3 w3.heap.size (Nat.le_refl _))
  rw [hn3]
  clear hx3 hs3 hsp3 hP3 hl3 cc1 cc2 e1 e2 hm23 hcash hcasha HX3 HS3 HX2 HO2 HM1 HM2 HS1 HNil HPn HPr2 HO3 HG3 HSp HSS hn3 hlen3 HNp HNp6 HSz
  refine (hNwf.out).mono ?_
  rintro e w4 ⟨rfl,ha4,hb4⟩
  obtain⟨s,hs⟩:∃ s,w3.heap.size=s:=⟨_,rfl⟩
  have HRun0:Hid (∃ v,A.Run w3 w4 s v (70+0) ⟨0,uS (P3.take 0)⟩):=⟨.slice none 0 0,by rw [← hs];exact (⟨ha4,hb4⟩:A.Run w3 w4 w3.heap.size (.slice none 0 0) 0 ⟨0,0⟩).mono (by omega)⟩
  rw [hs]
  have HLo:Hid (w3.heap.size=s):=hs
  clear ha4 hb4 hNwf hs
  go_wp2_with fail
  go_loopw [28] (fun i wx=>∃ (j:Nat),j≤n3∧i=.int .i64 j∧Hid (∃ v,A.Run w3 wx s v (70+j) ⟨0,uS (P3.take j)⟩)) (fun i _=>n3 - (intOf i).toNat)
  case atStart=>exact⟨0,Nat.zero_le _,rfl,HRun0⟩
  case round=>
   clear HRun0
   obtain⟨j,hj,rfl,HR⟩:=hrel
   obtain⟨v,hR⟩:=HR.out
   by_cases hlt:j<n3
   ·obtain rfl:=HS.out.at_ (by rw [HP.out.1];omega)
    obtain⟨_,c1,_⟩:=(HS.out.below hR.bl).cell j (by rw [HP.out.1];exact hlt)
    rw [Nat.zero_add] at c1
    have hfin:=Eu (Co ((HK.out.1 _ (HP.out.2.1 _ (ce (show j<P3.length by rw [HP.out.1];exact hlt)))).2))
    have hfw:=HK.out.2.2.1 _ (HP.out.2.1 _ (ce (show j<P3.length by rw [HP.out.1];exact hlt)))
    have hun:=Et (P:=P3) (j:=j) (by rw [HP.out.1];exact hlt)
    generalize (P3.getD j an).am=am at *
    have HAd:=hideS (A.wv w3.heap.size s v (70+j) _ am (am:Int) _ hR.acc hR.bl.size rfl (ah hfw) (by omega))
    rw [zt _ hfin,← hun] at HAd
    have HRb:=hideS hR
    unfold aF at c1
    clear hR hfin hfw hun HR
    go_wp2_with fail
    refine (HAd.out).mono ?_
    rintro e w6 ⟨rfl,v6,hd6⟩
    have HR6:Hid (∃ v,A.Run w3 w6 s v (70+(j+1)) ⟨0,uS (P3.take (j+1))⟩):=⟨v6,(HRb.out.did hd6).mono (by omega)⟩
    clear hd6 HAd HRb
    go_wp2_with fail
    go_roundw
    case rel=>exact⟨j+1,by omega,by simp,HR6⟩
    case measure=>simp [intOf];omega
   ·obtain rfl:j=n3:=by omega
    have hge:¬ (j:Int)<(j:Int):=by omega
    have hall:P3.take j=P3:=by rw [← HP.out.1,List.take_length]
    rw [hall] at hR
    have HRn:=hideS hR
    have HXn:=hideS (HX.out.below hR.bl)
    clear hR HR hall
    go_wp2_with fail
    clear hge hlt hj
    rename_i K0 hK0
    have HK0:=hideS hK0
    clear hK0
    go_loopw [27,29] (fun c i wx=>∃ (j' c':Nat),j'≤M∧i=.int .i64 j'∧c=.int .i64 c'∧c'≤j'∧Hid (c'=((l.take j').filter (cuB cur)).length)∧wx=wr) (fun _ i _=>M - (intOf i).toNat)
    case atStart=>exact⟨0,0,Nat.zero_le _,rfl,rfl,Nat.le_refl _,rfl,rfl⟩
    case round=>
     obtain⟨i,c,hi,rfl,rfl,hci,HC,rfl⟩:=hrel
     by_cases hlt:i<M
     ·obtain rfl:=HPl.out (by omega)
      obtain⟨_,_,c2⟩:=(HQ.out.below HXn.out.bl).cell i (by rw [HM.out];exact hlt)
      have HS':=hideS (xc cur (l:=l) (k:=i) (by rw [HM.out];exact hlt))
      generalize l.getD i an=f at *
      obtain⟨qd,qa,qc⟩:=f
      dsimp only at *
      by_cases h1:qc=cur
      ·have d1:(qc==cur)=true:=beq_iff_eq.2 h1
       rw [if_pos h1] at HS'
       have HN2:Hid (c+1=((l.take (i+1)).filter (cuB cur)).length):=by show _=_;rw [HS'.out,List.length_append,← HC.out];rfl
       clear h1 HC
       go_wp2_with fail
       go_roundw
       case rel=>exact⟨i+1,c+1,by omega,by simp,by simp,by omega,HN2,by trivial⟩
       case measure=>simp [intOf];omega
      ·have d1:(qc==cur)=false:=beq_eq_false_iff_ne.2 h1
       rw [if_neg h1,List.append_nil] at HS'
       have HN2:Hid (c=((l.take (i+1)).filter (cuB cur)).length):=by show _=_;rw [HS'.out];exact HC.out
       clear h1 HC
       go_wp2_with fail
       go_roundw
       case rel=>exact⟨i+1,c,by omega,by simp,rfl,by omega,HN2,by trivial⟩
       case measure=>simp [intOf];omega
     ·obtain rfl:i=M:=by omega
      have hge:¬ (i:Int)<(i:Int):=by omega
      have hall:l.take i=l:=by rw [← HM.out,List.take_length]
      have hcm:c=mine.length:=by have:=HC.out;rw [hall,HMine.out] at this;exact this
      have HCm:=hideS hcm
      clear hall hcm HC hge hlt hi
      go_wp2_with fail
      refine HK0.out _ _ ?_
      refine gO (k:=15) (c:=Tryz.f5.body) (Ev (en:=en) (ba:=ba) (bb:=bb) (qp:=q3) (np:=j) (cp:=k3) (qm:=q2) (nm:=m2) (cm:=c2x) (s:=s) (mi:=(c:Int)) ?_ fun u=>FQ w0 wr s1 s2 ba g1 bb g2 _ _ cur en (uS P3) v1 v2 mine P3 q3 k3 j q2 m2 c2x s _ _ v c u HXn.out HP.out.1 rfl HM3.out (by rw [HCm.out,← HP.out.2.2,HP.out.1]) HNm.out (by have:=HK.out.2.2.2.2.2.1;omega) HK.out.2.2.2.2.2.1 hN60 HK.out.2.2.2.2.1.1 HK.out.2.2.2.2.1.2 HK.out.2.2.2.1 (fun f hf'=>(HK.out.1 f hf').2) HK.out.2.1 HRn.out.acc HRn.out.bl.size (by omega)) rfl
      exact FP rfl
end Go.Proofs.YtjjlnmihkadlmaaGreat
