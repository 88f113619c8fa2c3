/-  -/
import Derived.Test.YtjjlnmihkadlmaaGreatHbp
import Derived.Test.YtjjlnmihkadlmaaGreatHas
import Derived.Deep.RegionHeld3
import Derived.Test.YtjjlnmihkadlmaaGreatHbn
import Derived.Test.YtjjlnmihkadlmaaGreatHbd
import Derived.Test.YtjjlnmihkadlmaaGreatHay
import Derived.Laws.StructEq
namespace Go.Proofs.YtjjlnmihkadlmaaGreat
open Go.RowKit

theorem eA (w:World) {ops:Array Oper} {rest:List Oper} {o:Oper} {a:Act} {Q:Exit→Act→World→Prop} (hgd:o.guard=none) (s x:Operand)
  (ho:o.op=.call { callee:=.builtin .append,args:=#[s,x],argTypes:=#[29,29] })
  (base:Nat) (v:Value) (n:Nat) (xs:List Flw) (hs:a.eval s=v) (hown:w.ownsRow base 104 3 v n (aw aB xs)) (hb:base≤w.heap.size)
  (g:Nat) (z:Flw) (hx:a.eval x=.slice (some ⟨g,0,none⟩) 1 1) (hc:FCells aB w g 0 z) (hn:(n+1)*24≤140737488355328)
  (h:∀ v' w',w'.ownsRow base 104 3 v' (n+1) (aw aB (xs++[z]))→w.grownBy w' v.ownBlock→(v'.ownBlock=v.ownBlock∨v'.ownBlock=some w.heap.size)→wpList Tryz.prog ops Q rest (a.put o.dst v') w'):wpList Tryz.prog ops Q (o::rest) a w:=by
 refine kP w Tryz.underlying29 pE rfl (by decide) hgd s x ho base v n _ hs hown hb g 1 1 (flC aB z) hx rfl (fun j u hj=>?_) (fun u hu=>?_) (by omega) hn (fun v' w' h1 h2 h3=>h v' w' ?_ h2 h3)
 ·have h3:j<3:=(List.getElem?_eq_some_iff.1 hj).1
  rcases (show j=0∨j=1∨j=2 by omega) with rfl | rfl | rfl<;>(injection hj with hj;subst hj)
  ·exact hc.c0
  ·exact hc.c1
  ·exact hc.c2
 ·simp only [flC,List.mem_cons,List.not_mem_nil,or_false] at hu
  rcases hu with rfl | rfl | rfl<;>rfl
 ·rw [cE]
  have e1:aw aB [z]=flC aB z:=by simp [aw]
  rw [e1];exact h1
theorem nt {w:World} {v:Value} {M:Nat} (h:DN w v M):∃ p m c,v=.slice p m c:=by
 rcases h with⟨_,p,c,rfl⟩| ⟨_,g,c,rfl,_⟩
 ·exact⟨_,_,_,rfl⟩
 ·exact⟨_,_,_,rfl⟩
set_option maxRecDepth 40000 in
set_option maxHeartbeats 6400000 in
theorem Dt (l:List Flw) (cur day n:Int) (p:Option Addr) (b off c M:Nat) (w:World) (hl:JSrc aB w p b off l) (hM:l.length=M) (hM60:M≤60) (hf:dm l) (h0:0≤n∧n≤109572) (hn:day≤n) :
  Calls Tryz.prog 14 #[LV cur day (.slice p M c) 0 false (.slice none 0 0) 0,.int .i64 n] w fun e w'=>(∃ (q1:Option Addr) (m1 c1:Nat) (q2:Option Addr) (m2 c2:Nat) (s:Nat) (neg:Bool) (qv:Option Addr) (mv cv:Nat) (ee:Int),e=.returned (.tuple #[LV cur n (.slice q2 m2 c2) (s:Int) neg (.slice qv mv cv) ee,.slice q1 m1 c1,.int .i64 0])∧m1=(l.filter (fun f=>decide (f.day<n))).length∧m2=(l.filter (aQ n)).length∧w'.ownsRow w.heap.size 104 3 (.slice q1 m1 c1) m1 (aw aB (l.filter (fun f=>decide (f.day<n))))∧w'.ownsRow w.heap.size 104 3 (.slice q2 m2 c2) m2 (aw aB (l.filter (aQ n))))∧Below w.heap.size w w':=by
 have HDy:=hideS fun wx=>iO n wx
 rw [decide_eq_true h0] at HDy
 have q1:decide (n<day)=false:=decide_eq_false (by omega)
 have HL1:=hideS (ns w cur day (.slice p M c) 0 false (.slice none 0 0) 0)
 obtain⟨w1,hw1⟩:∃ w1,w.alloc (.cells #[.int .i64 cur,.int .i64 day,.slice p M c,.int .i64 0,.bool false,.slice none 0 0,.int .i64 0] 36)=w1:=⟨_,rfl⟩
 have hb1:Below w.heap.size w w1:=by rw [← hw1];exact (Below.refl _ _).alloc (Nat.le_refl _) _
 have hz1:w1.heap.size=w.heap.size+1:=by rw [← hw1];simp
 rw [hw1] at HL1
 have HR2:=hideS (ns w1 0 0 (.slice none 0 0) 0 false (.slice none 0 0) 0)
 obtain⟨w2,hw2⟩:∃ w2,w1.alloc (.cells #[.int .i64 0,.int .i64 0,.slice none 0 0,.int .i64 0,.bool false,.slice none 0 0,.int .i64 0] 36)=w2:=⟨_,rfl⟩
 have hb2:Below w1.heap.size w1 w2:=by rw [← hw2];exact (Below.refl _ _).alloc (Nat.le_refl _) _
 have hz2:w2.heap.size=w1.heap.size+1:=by rw [← hw2];simp
 rw [hw2,hz1] at HR2
 have HI0:Hid (DpI w cur day n (.slice p M c) l 0 (.slice none 0 0) (.slice none 0 0) 0 0 0 false (.slice none 0 0) 0 0 0 0 w2):=⟨hb1.trans (hb2.mono hb1.size),HL1.out.step hb2,HR2.out,cL _ _ _ _,cL _ _ _ _,(fun g hg=>nomatch hg),Or.inl ⟨rfl,_,_,rfl⟩,DV.zero (by decide) 0,fun h=>absurd rfl h,by omega⟩
 have HQ:=hideS hl
 have HM:=hideS hM
 have HF:=hideS hf
 have HP:Hid (0<M→p=some ⟨b,off,none⟩):=fun h=>hl.at_ (by omega)
 obtain⟨⟨_,k1,_,_,_,_,_⟩,_⟩:=HI0.out.box.c
 clear hl hM hf h0 hn hb1 hb2 hz2 HL1 HR2
 go_enter Tryz.func14,Tryz.ntmps14
 go_wp2_with fail
 refine (turned (HDy.out _)).mono ?_
 rintro e w' ⟨rfl,rfl⟩
 go_wp2_with fail
 clear k1 q1 HDy
 have HZ1:=hideS hz1
 clear hz1
 go_loopw [7,8,9] (fun x1 x2 i wr=>∃ (k m1 m2 s D kd c1 c2:Nat) (q1 q2:Option Addr) (neg:Bool) (vd:Value) (ee N:Int),k≤M∧i=.int .i64 k∧x1=.slice q1 m1 c1∧x2=.slice q2 m2 c2∧m1≤k∧m2≤k∧kd≤k∧Hid (DpI w cur day n (.slice p M c) l k (.slice q1 m1 c1) (.slice q2 m2 c2) m1 m2 s neg vd ee D N kd wr)) (fun _ _ i _=>M - (intOf i).toNat)
 case atStart=>exact⟨0,0,0,0,0,0,0,0,none,none,false,.slice none 0 0,0,0,Nat.zero_le _,rfl,rfl,rfl,Nat.le_refl _,Nat.le_refl _,Nat.le_refl _,HI0⟩
 case round=>
  clear HI0 hw1 hw2
  obtain⟨k,m1,m2,s,D,kd,c1,c2,q1,q2,neg,vd,ee,N,hk,rfl,rfl,rfl,hm1,hm2,hkd,HI⟩:=hrel
  obtain⟨⟨_,k1,k2,k3,k4,k5,k6⟩,fz⟩:=HI.out.box.c
  by_cases hlt:k<M
  ·obtain rfl:=HP.out (by omega)
   have hi0:(0:Int)≤(k:Int):=Int.natCast_nonneg _
   have hi1:(k:Int)<(M:Int):=by omega
   have HKl:Hid (k<l.length):=by show _<_;rw [HM.out];exact hlt
   have HFc:Hid (∀ wx,Below w.heap.size w wx→FCells aB wx b (off+k*3) (l.getD k ak)):=fun wx hb=>(HQ.out.below hb).cell k HKl.out
   have HFw:Hid (U64 ((l.getD k ak).am:Int)):=⟨Int.natCast_nonneg _,by have:=HF.out k;omega⟩
   obtain⟨f,hf⟩:∃ f,l.getD k ak=f:=⟨_,rfl⟩
   have HFe:=hideS hf
   rw [hf] at HFc HFw
   clear hf fz
   obtain⟨qd,qa,qc⟩:=f
   obtain⟨f0,f1,f2⟩:=HFc.out wr HI.out.bl
   dsimp only [aB] at *
   have HBa:Hid (Below wr.heap.size wr (wr.alloc (.cells #[.int .i64 qd,.int .u64 (qa:Int),.int .i64 qc] 104))):=(Below.refl _ _).alloc (Nat.le_refl _) _
   have HIa:=hideS (HI.out.below HBa.out)
   have HDc:=hideS (iN wr ⟨qd,qa,qc⟩)
   have hm9:(m1+1)*24≤140737488355328:=by omega
   have hm8:(m2+1)*24≤140737488355328:=by omega
   by_cases hd:qd<n
   ·have e1:decide (qd<n)=true:=decide_eq_true hd
    have HPd:=hideS fun (vp':Value) (w':World)=>HIa.out.paid (vp':=vp') (w':=w') HKl.out (by rw [HFe.out];exact hd)
    rw [HFe.out] at HPd
    clear hd
    go_wp2_with (at_builtin;refine eA _ rfl (.tmp 34) (.tmp 40) rfl (w.heap.size+2) (.slice q1 m1 c1) m1 _ rfl HIa.out.p HIa.out.sz wr.heap.size ⟨qd,qa,qc⟩ rfl HDc.out hm9 ?_;intro v5 w5 ho5 hg5 hn5;obtain⟨q5,kk5,_,hv5,hx5⟩:=ud ho5;subst hv5;clear hx5;have HI5:=hideS (HPd.out _ _ ho5 hg5 hn5);clear ho5 hg5 hn5)
    obtain⟨qv,mv,cv,rfl⟩:=nt HI5.out.dn
    have HI6:=hideS (HI5.out.below (show Below w5.heap.size w5 w5.drew from cz (Below.refl _ _) 1))
    clear HI5
    have hAd:=In s neg (.slice qv mv cv) D ee N kd qa (qa:Int) w5.drew HI6.out.dn HI6.out.dv (Ii (by omega)) HFw.out rfl
    obtain⟨A6,hA6⟩:∃ a,A.St.merge ⟨s,N⟩ (A.cS (qa:Int))=a:=⟨_,rfl⟩
    rw [hA6] at hAd
    have HAd:=hideS hAd
    clear hAd hA6
    obtain⟨⟨_,_,g2,g3,g4,g5,g6⟩,_⟩:=HI6.out.box.c
    have g7:=(HFc.out w5.drew HI6.out.bl).c1
    dsimp only [aB] at g7
    have HS0:Hid ((fun wx=>wx.cell? ⟨w.heap.size,2,none⟩=some (.slice (some ⟨b,off,none⟩) M c)∧wx.cell? ⟨w.heap.size,3,none⟩=some (.int .i64 s)∧wx.cell? ⟨w.heap.size,4,none⟩=some (.bool neg)∧wx.cell? ⟨w.heap.size,5,none⟩=some (.slice qv mv cv)∧wx.cell? ⟨w.heap.size,6,none⟩=some (.int .i64 ee)∧wx.cell? ⟨b,off+k*3+1,none⟩=some (.int .u64 (qa:Int))) w5.drew):=⟨g2,g3,g4,g5,g6,g7⟩
    clear g2 g3 g4 g5 g6 g7 k1 k2 k3 k4 k6 f0 f1 f2 e1
    refine fW (fun wx=>wx.cell? ⟨w.heap.size,2,none⟩=some (.slice (some ⟨b,off,none⟩) M c)∧wx.cell? ⟨w.heap.size,3,none⟩=some (.int .i64 s)∧wx.cell? ⟨w.heap.size,4,none⟩=some (.bool neg)∧wx.cell? ⟨w.heap.size,5,none⟩=some (.slice qv mv cv)∧wx.cell? ⟨w.heap.size,6,none⟩=some (.int .i64 ee)∧wx.cell? ⟨b,off+k*3+1,none⟩=some (.int .u64 (qa:Int))) (fun i=>i==10) (by kernel_rfl) ?_
    refine aJ 0 (.pointer (some ⟨w.heap.size,3,none⟩)) rfl (by kernel_rfl) (by kernel_rfl) (by kernel_rfl) (by kernel_rfl) (by kernel_rfl) (fun _ _ _ h=>h) (by rfl) HS0.out (fun wx hS=>by obtain⟨x2,x3,x4,x5,x6,y1⟩:=hS;go_simp) ?_
    simp only [Act.put,List.setIfInBounds_toArray]
    refine aJ 1 (.agg #[.int .i64 s,.bool neg,.slice qv mv cv,.int .i64 ee]) rfl (by kernel_rfl) (by kernel_rfl) (by kernel_rfl) (by kernel_rfl) (by kernel_rfl) (fun _ _ _ h=>h) (by rfl) HS0.out (fun wx hS=>by obtain⟨x2,x3,x4,x5,x6,y1⟩:=hS;go_simp) ?_
    simp only [Act.put]
    refine aJ 2 (.pointer (some ⟨w.heap.size,2,none⟩)) rfl (by kernel_rfl) (by kernel_rfl) (by kernel_rfl) (by kernel_rfl) (by kernel_rfl) (fun _ _ _ h=>h) (by rfl) HS0.out (fun wx hS=>by obtain⟨x2,x3,x4,x5,x6,y1⟩:=hS;go_simp) ?_
    simp only [Act.put]
    refine aJ 3 (.slice (some ⟨b,off,none⟩) M c) rfl (by kernel_rfl) (by kernel_rfl) (by kernel_rfl) (by kernel_rfl) (by kernel_rfl) (fun _ _ _ h=>h) (by rfl) HS0.out (fun wx hS=>by obtain⟨x2,x3,x4,x5,x6,y1⟩:=hS;go_simp) ?_
    simp only [Act.put]
    refine aJ 4 (.int .i64 k) rfl (by kernel_rfl) (by kernel_rfl) (by kernel_rfl) (by kernel_rfl) (by kernel_rfl) (fun _ _ _ h=>h) (by rfl) HS0.out (fun wx hS=>by obtain⟨x2,x3,x4,x5,x6,y1⟩:=hS;go_simp) ?_
    simp only [Act.put]
    refine aJ 5 (.pointer (some ⟨b,off+k*3,none⟩)) rfl (by kernel_rfl) (by kernel_rfl) (by kernel_rfl) (by kernel_rfl) (by kernel_rfl) (fun _ _ _ h=>h) (by rfl) HS0.out (fun wx hS=>by obtain⟨x2,x3,x4,x5,x6,y1⟩:=hS;go_simp) ?_
    simp only [Act.put]
    refine aJ 6 (.pointer (some ⟨b,off+k*3+1,none⟩)) rfl (by kernel_rfl) (by kernel_rfl) (by kernel_rfl) (by kernel_rfl) (by kernel_rfl) (fun _ _ _ h=>h) (by rfl) HS0.out (fun wx hS=>by obtain⟨x2,x3,x4,x5,x6,y1⟩:=hS;go_simp) ?_
    simp only [Act.put]
    refine aJ 7 (.int .u64 (qa:Int)) rfl (by kernel_rfl) (by kernel_rfl) (by kernel_rfl) (by kernel_rfl) (by kernel_rfl) (fun _ _ _ h=>h) (by rfl) HS0.out (fun wx hS=>by obtain⟨x2,x3,x4,x5,x6,y1⟩:=hS;go_simp) ?_
    simp only [Act.put]
    refine aL (i:=8) (by kernel_rfl) ?_
    refine wpOp_step rfl (fun K1 hK1=>?_)
    go_simp
    refine (HAd.out).mono ?_
    rintro e w6 ⟨neg6,v6,D6,ee6,rfl,hdn6,hf6,hdv6,hb6⟩
    obtain⟨qv6,mv6,cv6,rfl⟩:=nt hdn6
    have HA6:=hideS (HI6.out.added hb6 hdn6 hdv6 hf6)
    obtain⟨⟨_,_,x2,x3,x4,x5,x6⟩,fz6⟩:=(HI6.out.box.step hb6).c
    have z3:=fz6 3
    have z4:=fz6 4
    have z5:=fz6 5
    have z6:=fz6 6
    have HS6:Hid ((fun wx=>wx.cell? ⟨w.heap.size,2,none⟩=some (.slice (some ⟨b,off,none⟩) M c)∧wx.cell? ⟨w.heap.size,3,none⟩=some (.int .i64 s)∧wx.cell? ⟨w.heap.size,4,none⟩=some (.bool neg)∧wx.cell? ⟨w.heap.size,5,none⟩=some (.slice qv mv cv)∧wx.cell? ⟨w.heap.size,6,none⟩=some (.int .i64 ee)∧wx.cell? ⟨b,off+k*3+1,none⟩=some (.int .u64 (qa:Int))) w6):=⟨x2,x3,x4,x5,x6,(HFc.out w6 (HI6.out.bl.trans (hb6.mono HI6.out.bl.size))).c1⟩
    clear hdn6 hf6 hdv6 hb6 fz6
    refine hK1 _ _ ⟨fun _=>HS6.out,?_⟩
    refine aL (i:=9) (by kernel_rfl) ?_
    refine wpOp_step rfl (fun K2 hK2=>?_)
    go_simp
    refine hK2 _ _ ⟨fun _=>HS6.out,?_⟩
    refine aL (i:=10) (by kernel_rfl) ?_
    refine wpOp_step rfl (fun K3 hK3=>?_)
    go_simp
    refine hK3 _ _ ⟨fun h=>absurd h (by decide),?_⟩
    refine gG (by kernel_rfl) ?_
    go_wp2_with fail
    go_roundw
    case rel=>exact⟨k+1,m1+1,m2,A6.s,D6,kd+1,kk5,c2,q5,q2,neg6,.slice qv6 mv6 cv6,ee6,A6.N,by omega,by go_num,rfl,rfl,by omega,by omega,by omega,HA6⟩
    case measure=>simp [intOf];omega
   ·have e1:decide (qd<n)=false:=decide_eq_false hd
    have HPl:=hideS fun (vp':Value) (w':World)=>HIa.out.left (vl':=vp') (w':=w') HKl.out (by rw [HFe.out];exact hd)
    rw [HFe.out] at HPl
    clear hd
    go_wp2_with (at_builtin;refine eA _ rfl (.tmp 52) (.tmp 58) rfl (w.heap.size+2) (.slice q2 m2 c2) m2 _ rfl HIa.out.q HIa.out.sz wr.heap.size ⟨qd,qa,qc⟩ rfl HDc.out hm8 ?_;intro v5 w5 ho5 hg5 hn5;obtain⟨q5,kk5,_,hv5,hx5⟩:=ud ho5;subst hv5;clear hx5;have HI5:=hideS (HPl.out _ _ ho5 hg5 hn5);clear ho5 hg5 hn5)
    go_roundw
    case rel=>exact⟨k+1,m1,m2+1,s,D,kd,c1,kk5,q1,q5,neg,vd,ee,N,by omega,by go_num,rfl,rfl,by omega,by omega,by omega,HI5⟩
    case measure=>simp [intOf];omega
  ·obtain rfl:k=M:=by omega
   have hall:l.take k=l:=by rw [← HM.out,List.take_length]
   obtain⟨qv,mv,cv,rfl⟩:=nt HI.out.dn
   have HP':=HI.out.p
   have HQ':=HI.out.q
   rw [hall] at HP' HQ'
   have HP1:=hideS HP'
   have HQ1:=hideS HQ'
   clear hall HP' HQ' HP HQ
   have k0:=HI.out.box.c.1.1
   have y1:=fz 1
   have y2:=fz 2
   clear fz
   obtain⟨⟨r0,r1,r2,r3,r4,r5,r6⟩,gz⟩:=HI.out.res.c
   have z0:=gz 0
   have z1:=gz 1
   have z2:=gz 2
   have z3:=gz 3
   have z4:=gz 4
   have z5:=gz 5
   have z6:=gz 6
   clear gz
   go_wp2_with fail
   refine bodyPost_ret (v:=.tuple #[LV cur n (.slice q2 m2 c2) (s:Int) neg (.slice qv mv cv) ee,.slice q1 m1 c1,.int .i64 0]) (by simp [results,Tryz.results14,go_sem,r0,r1,r2,r3,r4,r5,r6]) rfl ?_
   have hch:Ch (fun g=>g=w.heap.size∨g=w.heap.size+1) wr (GS ((wr.setCell ⟨w.heap.size,1,none⟩ (.int .i64 n)).setCell ⟨w.heap.size,2,none⟩ (.slice q2 m2 c2)) (w.heap.size+1) (.int .i64 cur) (.int .i64 n) (.slice q2 m2 c2) (.int .i64 s) (.bool neg) (.slice qv mv cv) (.int .i64 ee)):=
    (((Ch.refl (fun g=>g=w.heap.size) wr).set (S:=fun g=>g=w.heap.size) rfl _).set (S:=fun g=>g=w.heap.size) rfl _ |>.mono fun _ _ h=>Or.inl h).trans ((xJ _ _ _ _ _ _ _ _ _).mono fun _ _ h=>Or.inr h)
   refine⟨⟨q1,m1,c1,q2,m2,c2,s,neg,qv,mv,cv,ee,rfl,?_,?_,?_,?_⟩,HI.out.bl.trans (hch.below HI.out.bl.size (fun k hk=>by omega))⟩
   ·have:=HP1.out.1;rw [ce] at this;omega
   ·have:=HQ1.out.1;rw [ce] at this;omega
   ·exact cT (bq HP1.out hch (fun k hk c=>by have:=(aM HP1.out hk).1;omega)) (by omega)
   ·exact cT (bq HQ1.out hch (fun k hk c=>by have:=(aM HQ1.out hk).1;omega)) (by omega)
end Go.Proofs.YtjjlnmihkadlmaaGreat
namespace Go.Proofs.YtjjlnmihkadlmaaGreat
open Go.RowKit

def fA24:Flw:=⟨10,4616189618054758400,1⟩
def nS:Flw:=⟨20,4620693217682128896,1⟩
def Io:Flw:=⟨10,4607182418800017408,2⟩
def l24:List Flw:=[fA24,nS,Io]
def c24d:List Int:=[100,200]
def c24f:List Nat:=[4602678819172646912,4598175219545276416]
theorem Fs:∀ f ∈ l24,dl f=0:=by
 intro f hf
 unfold l24 at hf
 simp only [List.mem_cons,List.not_mem_nil,or_false] at hf
 rcases hf with rfl | rfl | rfl<;>decide
theorem Fu:dm l24:=fun i=>by
 rcases i with _ | _ | _ | i
 ·decide
 ·decide
 ·decide
 ·show (ak).am<_;decide
theorem GU:NwR l24 1 5 0:=.ok (.fine (by decide) fun i hi=>Fs _ (fe hi)) (by decide) (by decide) (by
 intro f hf
 unfold l24 at hf
 simp only [List.mem_cons,List.not_mem_nil,or_false] at hf
 rcases hf with rfl | rfl | rfl<;>decide)
theorem GV:l24.filter (cuB 1)=[fA24,nS]:=rfl
theorem ug:([fA24,nS]:List Flw).filter (fun f=>decide (f.day<11))=[fA24]:=rfl
theorem Dw:([fA24,nS]:List Flw).filter (aQ 11)=[nS]:=rfl
theorem v24:jR (0+wsI 1 parC [fA24])=4616189618054758400:=by
 have h1:wsI 1 parC [fA24]=(A.ju (4616189618054758400:Nat) (4607182418800017408:Nat)).N:=by
  unfold wsI wsI ctI prI
  rw [if_pos (by decide)]
  have:parC.V fA24.day=4607182418800017408:=GP (by decide) (by decide)
  rw [this,Int.add_zero]
  rfl
 rw [h1,Int.zero_add]
 decide+kernel
theorem Ij:OkV 0 2 c24d c24f:=⟨by decide,by decide,by decide,by decide,by decide,by decide,rfl,fun i hi=>by
 rcases i with _ | _ | i
 ·decide
 ·decide
 ·simp [c24d] at hi;omega⟩
theorem q24:qW 4598175219545276416 4602678819172646912=4602678819172646912:=by decide+kernel
theorem GW (pd pf:Option Addr) (bd od cd b2 o2 cf:Nat) (w:World) (hs:TFl w pd pf bd od b2 o2 c24d c24f) :
  Calls Tryz.prog 27 #[.agg #[.int .i64 0,.int .i64 2,.slice pd 2 cd,.slice pf 2 cf],.int .i64 100] w fun e w'=>∃ gx cx gy cy,e=.returned (.tuple #[.agg #[.int .i64 100,.int .i64 2,.slice (some ⟨gx,0,none⟩) 1 cx,.slice (some ⟨gy,0,none⟩) 1 cy],.int .i64 0])∧w'.cell? ⟨gy,0,none⟩=some (.float .f64 4602678819172646912)∧Below w.heap.size w w':=by
 refine (Ah 0 2 100 pd pf bd od cd b2 o2 cf c24d c24f w hs).mono fun e w' h=>?_
 obtain⟨h,hb⟩:=h
 have hl:c24d.length=2:=rfl
 cases h with
 | bad E hE h0 he=>exact absurd (dk Ij hE) h0
 | out ok h he=>
  have e1:c24d.getD (c24d.length - 1) 0=200:=rfl
  rw [e1] at h;omega
 | in_ ok h0 h1 s hs h=>
  have hF:=(zM Ij (i:=0) (by decide)).1
  have hF2:facV 0 2 c24d c24f 100=4602678819172646912:=hF
  have es:s=1:=by
   have a:=hs.lt
   have b:=hs.le
   have c:=hs.gt
   rw [hl] at a
   rcases (show s=0∨s=1 by omega) with rfl | rfl
   ·have:=c 0 (Nat.le_refl _) (by decide)
    have e2:c24d.getD 0 0=100:=rfl
    rw [e2] at this;omega
   ·rfl
  subst es
  rw [hF2] at h
  have hg:gdQ (qW (c24f.getD 1 0) 4602678819172646912):=by
   have e3:c24f.getD 1 0=4598175219545276416:=rfl
   rw [e3,q24];unfold gdQ;omega
  rcases h with⟨_,j,h2,h3,h4⟩| ⟨gx,cx,gy,cy,_,he,_,hy⟩
  ·rw [hl] at h3
   obtain rfl:j=1:=by omega
   exact absurd hg h4
  ·refine⟨gx,cx,gy,cy,he,?_,hb⟩
   obtain⟨g,c,e4,s4,_⟩:=fh (xs:=qL c24f 4602678819172646912 1) hy (by rw [rd];rfl) (by decide)
   injection e4 with e4
   injection e4 with e4
   injection e4 with e4
   subst e4
   have h5:=s4.cell 0 (by decide)
   rw [Nat.zero_add] at h5
   rw [h5]
   show some (Value.float .f64 ((qL c24f 4602678819172646912 1).getD 0 0))=_
   rw [FD c24f _ (s:=1) (j:=0) (by decide)]
   have e3:c24f.getD (1+0) 0=4598175219545276416:=rfl
   rw [e3,q24]
theorem Ik (w:World):JSrc aF (w.alloc (.cells #[.int .i64 10,.float .f64 4616189618054758400,.int .i64 1,.int .i64 20,.float .f64 4620693217682128896,.int .i64 1,.int .i64 10,.float .f64 4607182418800017408,.int .i64 2] 77)) (some ⟨w.heap.size,0,none⟩) w.heap.size 0 l24:=by
 refine⟨fun _=>rfl,fun _=>by simp,fun i hi=>?_⟩
 have hc:∀ j,(w.alloc (.cells #[.int .i64 10,.float .f64 4616189618054758400,.int .i64 1,.int .i64 20,.float .f64 4620693217682128896,.int .i64 1,.int .i64 10,.float .f64 4607182418800017408,.int .i64 2] 77)).cell? ⟨w.heap.size,j,none⟩=(#[.int .i64 10,.float .f64 4616189618054758400,.int .i64 1,.int .i64 20,.float .f64 4620693217682128896,.int .i64 1,.int .i64 10,.float .f64 4607182418800017408,.int .i64 2]:Array Value)[j]? :=fun j=>fg w _ _ j
 rcases i with _ | _ | _ | i
 ·exact⟨hc 0,hc 1,hc 2⟩
 ·exact⟨hc 3,hc 4,hc 5⟩
 ·exact⟨hc 6,hc 7,hc 8⟩
 ·simp [l24] at hi;omega
theorem Il (w:World):TFl ((w.alloc (.cells #[.int .i64 100,.int .i64 200] 3)).alloc (.cells #[.float .f64 4602678819172646912,.float .f64 4598175219545276416] 54)) (some ⟨w.heap.size,0,none⟩) (some ⟨w.heap.size+1,0,none⟩) w.heap.size 0 (w.heap.size+1) 0 c24d c24f:=by
 obtain⟨w1,hw1⟩:∃ w1,w.alloc (.cells #[.int .i64 100,.int .i64 200] 3)=w1:=⟨_,rfl⟩
 have z1:w.heap.size+1=w1.heap.size:=by rw [← hw1];simp
 have c1:∀ j,w1.cell? ⟨w.heap.size,j,none⟩=(#[.int .i64 100,.int .i64 200]:Array Value)[j]? :=fun j=>by rw [← hw1];exact fg w _ _ j
 rw [hw1,z1]
 have c2:∀ j,(w1.alloc (.cells #[.float .f64 4602678819172646912,.float .f64 4598175219545276416] 54)).cell? ⟨w1.heap.size,j,none⟩=(#[.float .f64 4602678819172646912,.float .f64 4598175219545276416]:Array Value)[j]? :=fun j=>fg w1 _ _ j
 have hb:Below w1.heap.size w1 (w1.alloc (.cells #[.float .f64 4602678819172646912,.float .f64 4598175219545276416] 54)):=(Below.refl _ _).alloc (Nat.le_refl _) _
 refine⟨⟨fun _=>rfl,fun _=>by simp;omega,fun j hj=>?_⟩,⟨fun _=>rfl,fun _=>by simp,fun j hj=>?_⟩,fun i hi=>?_⟩
 ·refine (hb.cell (p:=⟨w.heap.size,0+j,none⟩) (by show w.heap.size<w1.heap.size;omega)).trans ((c1 (0+j)).trans ?_)
  rcases j with _ | _ | j
  ·rfl
  ·rfl
  ·simp [c24d] at hj;omega
 ·refine (c2 (0+j)).trans ?_
  rcases j with _ | _ | j
  ·rfl
  ·rfl
  ·simp [c24f] at hj;omega
 ·rcases i with _ | _ | i
  ·decide
  ·decide
  ·simp [c24f] at hi;omega
theorem Im:(FloatKind.f64.format.order 4616189618054758400 4616189618054758400==some .eq)=true∧(FloatKind.f64.format.order 4602678819172646912 4602678819172646912==some .eq)=true:=by decide+kernel
set_option maxRecDepth 40000 in
set_option maxHeartbeats 6400000 in
theorem re (w:World):Calls Tryz.prog 8 #[] w fun e w'=>e=.returned (.bool true)∧Below w.heap.size w w':=by
 obtain⟨w1,hw1⟩:∃ w1,w.alloc (.cells #[.int .i64 10,.float .f64 4616189618054758400,.int .i64 1,.int .i64 20,.float .f64 4620693217682128896,.int .i64 1,.int .i64 10,.float .f64 4607182418800017408,.int .i64 2] 77)=w1:=⟨_,rfl⟩
 have hb1:Below w.heap.size w w1:=by rw [← hw1];exact (Below.refl _ _).alloc (Nat.le_refl _) _
 have hs1:=Ik w
 rw [hw1] at hs1
 have HN:=hideS (nl l24 1 5 0 (some ⟨w.heap.size,0,none⟩) w.heap.size 0 3 3 w1 GU hs1 rfl (by omega) Fu)
 have HB1:=hideS hb1
 clear hb1 hs1
 go_enter Tryz.func8,Tryz.ntmps8
 go_wp2_with fail
 refine (HN.out).mono ?_
 rintro e w2 ⟨h2,hb2⟩
 rcases h2 with⟨h,_⟩| ⟨_,b,g,v,rfl,hx2⟩
 ·exact absurd rfl h
 rw [GV] at hx2
 have HX2:=hideS hx2
 have HB2:Hid (Below w.heap.size w w2∧w.heap.size≤w1.heap.size):=⟨HB1.out.trans (hb2.mono HB1.out.size),HB1.out.size⟩
 have HPs:=hideS (ni w1.heap.size b g 70 1 5 11 0 v [fA24,nS] w2 hx2 (by decide) (by decide) (by decide) (by
  intro f hf
  simp only [List.mem_cons,List.not_mem_nil,or_false] at hf
  rcases hf with rfl | rfl<;>decide) (by decide) (by decide) (by
  intro f hf
  simp only [List.mem_cons,List.not_mem_nil,or_false] at hf
  rcases hf with rfl | rfl<;>decide) (fun i=>by
  rcases i with _ | _ | i
  ·decide
  ·decide
  ·show (ak).am<_;decide) (by omega))
 clear hx2 hb2 HN HB1 hw1
 go_wp2_with fail
 refine (HPs.out).mono ?_
 intro e w3 h3
 obtain⟨⟨u,rfl,ho⟩,⟨g3,v3,_,hx3⟩,hc3⟩:=h3
 rw [ug] at hx3
 rw [Dw] at hx3
 rw [ug] at ho
 obtain⟨pu,_,cu,hu,_,_,_,_⟩:=av ho rfl
 subst hu
 have HX3:=hideS hx3
 have HB3:Hid (Below w.heap.size w w3):=HB2.out.1.trans (hc3.below HB2.out.1.size fun k hk=>by have:=HX2.out.low hk;have:=HB2.out.2;omega)
 have HCs:=hideS (zX w1.heap.size b g3 _ 1 11 _ v3 [nS] w3 hx3 (by decide))
 have hv:=v24
 rw [hv] at HCs
 have ht:Fh 4616189618054758400=4616189618054758400∧Fi 4616189618054758400=0:=by decide
 rw [ht.1,ht.2] at HCs
 clear hx3 hc3 ho HPs hv ht HX2 HB2
 go_wp2_with fail
 refine (HCs.out).mono ?_
 rintro e w4 ⟨rfl,hb4⟩
 have HX4:=hideS (HX3.out.below hb4)
 have HB4:Hid (Below w.heap.size w w4):=HB3.out.trans (hb4.mono HB3.out.size)
 have HPb:=hideS (pk w1.heap.size b g3 _ 1 11 10 _ 240 v3 [nS] w4 HX4.out (Or.inr ⟨by decide,by decide,rfl⟩))
 clear hb4 HX3 HB3 HCs
 go_wp2_with fail
 refine (HPb.out).mono ?_
 rintro e w5 ⟨rfl,hb5⟩
 have HX5:=hideS (HX4.out.below hb5)
 have HB5:Hid (Below w.heap.size w w5):=HB4.out.trans (hb5.mono HB4.out.size)
 have HRl:=hideS (GW _ _ _ _ 2 _ _ 2 _ (Il w5))
 have HA6:Hid (Below w5.heap.size w5 ((w5.alloc (.cells #[.int .i64 100,.int .i64 200] 3)).alloc (.cells #[.float .f64 4602678819172646912,.float .f64 4598175219545276416] 54))):=((Below.refl _ _).alloc (Nat.le_refl _) _).alloc (by simp) _
 clear hb5 HX4 HB4 HPb
 go_wp2_with fail
 refine (HRl.out).mono ?_
 rintro e w6 ⟨gx,cx,gy,cy,rfl,hc6,hb6⟩
 have HB56:Hid (Below w5.heap.size w5 w6):=HA6.out.trans (hb6.mono HA6.out.size)
 have HX6:=hideS (HX5.out.below HB56.out)
 have HB6:Hid (Below w.heap.size w w6):=HB5.out.trans (HB56.out.mono HB5.out.size)
 have hlt:=World.block_lt_of_cell? _ _ hc6
 have HC6:=hideS hc6
 obtain⟨w7,hw7⟩:∃ w7,w6.alloc (.cells #[.int .i64 100,.int .i64 2,.slice (some ⟨gx,0,none⟩) 1 cx,.slice (some ⟨gy,0,none⟩) 1 cy] 43)=w7:=⟨_,rfl⟩
 have hb7:Below w6.heap.size w6 w7:=by rw [← hw7];exact (Below.refl _ _).alloc (Nat.le_refl _) _
 have hk7:w7.heap[w6.heap.size]? =some (.cells #[.int .i64 100,.int .i64 2,.slice (some ⟨gx,0,none⟩) 1 cx,.slice (some ⟨gy,0,none⟩) 1 cy] 43):=by rw [← hw7];exact heap_alloc_new _ _
 have HX7:=hideS (HX6.out.below hb7)
 have HB7:Hid (Below w.heap.size w w7):=HB6.out.trans (hb7.mono HB6.out.size)
 have hc7:w7.cell? ⟨gy,0,none⟩=some (.float .f64 4602678819172646912):=(hb7.cell (p:=⟨gy,0,none⟩) hlt).trans hc6
 have HC7:=hideS (And.intro hc7 hk7)
 have HDy:=hideS (iL w1.heap.size b g3 _ 1 11 _ v3 [nS] w7 HX7.out)
 have HLf:=hideS (fj w1.heap.size b g3 _ 1 11 _ v3 [nS] w7 HX7.out (by decide))
 obtain⟨o1,o2⟩:=Im
 clear hc6 hb6 hlt hb7 hk7 hc7 HX5 HB5 HRl HA6 HX6 HB6 HC6 HB56
 go_wp2_with fail
 refine (turned (HDy.out)).mono ?_
 rintro e w' ⟨rfl,rfl⟩
 go_wp2_with fail
 refine (HLf.out).mono ?_
 rintro e w8 ⟨⟨u8,rfl,ho8⟩,hb8⟩
 obtain⟨pu8,_,cu8,hu8,_,_,_,_⟩:=av ho8 rfl
 subst hu8
 have hk8:w8.heap[w6.heap.size]? =some (.cells #[.int .i64 100,.int .i64 2,.slice (some ⟨gx,0,none⟩) 1 cx,.slice (some ⟨gy,0,none⟩) 1 cy] 43):=(hb8.block _ (Array.getElem?_eq_some_iff.1 HC7.out.2).1).trans HC7.out.2
 have k3:w8.cell? ⟨w6.heap.size,3,none⟩=some (.slice (some ⟨gy,0,none⟩) 1 cy):=by simp [World.cell?,hk8]
 have k4:w8.cell? ⟨gy,0,none⟩=some (.float .f64 4602678819172646912):=(hb8.cell (p:=⟨gy,0,none⟩) (World.block_lt_of_cell? _ _ HC7.out.1)).trans HC7.out.1
 have HB8:Hid (Below w.heap.size w w8):=HB7.out.trans (hb8.mono HB7.out.size)
 clear ho8 hb8 hk8 hw7
 dsimp only [List.length_cons,List.length_nil]
 go_wp2_with fail
 go_ret
 exact⟨rfl,HB8.out⟩
end Go.Proofs.YtjjlnmihkadlmaaGreat
namespace Go.Proofs.YtjjlnmihkadlmaaGreat
open Go.RowKit

structure LsW (w0:World) (s1 s2:Nat) (ba ga:Nat) (cur at_ N:Int) (L:Nat) (va:Value) (la:List Flw) (bb gb:Nat) (day M:Int) (K:Nat) (vb:Value) (lb:List Flw) (vp:Value) (P:List Flw) (wr:World):Prop where
 bl:Below w0.heap.size w0 wr
 a:LdA wr w0.heap.size ba ga cur at_ N L va la
 b:LdA wr s1 bb gb cur day M K vb lb
 p:wr.ownsRow s2 77 3 vp P.length (aw aF P)
 a1:∀ k,LdS ba va k→k<s1
 b1:∀ k,LdS bb vb k→k<s2
 s0:w0.heap.size≤s1
 s12:s1≤s2
 s2:s2≤wr.heap.size
section
variable {w0:World} {s1 s2 ba ga L bb gb K:Nat} {cur at_ N day M:Int} {va vb vp:Value} {la lb P:List Flw} {wr w':World}
theorem LsW.below (h:LsW w0 s1 s2 ba ga cur at_ N L va la bb gb day M K vb lb vp P wr) (hb:Below wr.heap.size wr w'):LsW w0 s1 s2 ba ga cur at_ N L va la bb gb day M K vb lb vp P w':=
 ⟨h.bl.trans (hb.mono h.bl.size),h.a.below hb,h.b.below hb,ap h.p hb,h.a1,h.b1,h.s0,h.s12,Nat.le_trans h.s2 hb.size⟩
end
end Go.Proofs.YtjjlnmihkadlmaaGreat
namespace Go.Proofs.YtjjlnmihkadlmaaGreat
open Go.RowKit

end Go.Proofs.YtjjlnmihkadlmaaGreat
namespace Go.Proofs.YtjjlnmihkadlmaaGreat
open Go.RowKit

theorem GX:Tryz.prog.stoodInHeld 77=false:=by kernel_rfl
theorem GY:Tryz.prog.underlying 77=some (.struct (Tryz.prog.fieldsOf 77)):=by kernel_rfl
theorem GZ:(Tryz.prog.fieldsOf 77).toList=[(Tryz.prog.fieldsOf 77)[0]!,(Tryz.prog.fieldsOf 77)[1]!,(Tryz.prog.fieldsOf 77)[2]!]:=by kernel_rfl
theorem Hb:(Tryz.prog.fieldsOf 77)[0]!.type=3:=by kernel_rfl
theorem Hc (d:Int) (a:Nat) (e:Int) (w:World):(part (Tryz.prog.fieldsOf 77)[0]!.type #[.int .i64 d,.float .f64 a,.int .i64 e] (Tryz.prog.fieldsOf 77)[0]!.offset).run Tryz.prog w=.ok (.int .i64 d) w:=by kernel_rfl
theorem Hd (d:Int) (a:Nat) (e:Int) (w:World):(part (Tryz.prog.fieldsOf 77)[1]!.type #[.int .i64 d,.float .f64 a,.int .i64 e] (Tryz.prog.fieldsOf 77)[1]!.offset).run Tryz.prog w=.ok (.float .f64 a) w:=by kernel_rfl
theorem He (d:Int) (a:Nat) (e:Int) (w:World):(part (Tryz.prog.fieldsOf 77)[2]!.type #[.int .i64 d,.float .f64 a,.int .i64 e] (Tryz.prog.fieldsOf 77)[2]!.offset).run Tryz.prog w=.ok (.int .i64 e) w:=by kernel_rfl
theorem Hf (d:Int) (w:World):(Op.equalIn 9999 (Tryz.prog.fieldsOf 77)[0]!.type (.int .i64 d) (.int .i64 d)).run Tryz.prog w=.ok true w:=by
 rw [show (9999:Nat)=9998+1 from rfl,Hb,run_equalIn_int w 9998 3 .i64 .i64 d d (by kernel_rfl)];simp
theorem Hg (w:World):(Op.equalIn 9999 (Tryz.prog.fieldsOf 77)[1]!.type (.float .f64 0) (.float .f64 0)).run Tryz.prog w=.ok true w:=by kernel_rfl
theorem Hh (w:World):(Op.equalIn 9999 (Tryz.prog.fieldsOf 77)[2]!.type (.int .i64 0) (.int .i64 0)).run Tryz.prog w=.ok true w:=by kernel_rfl
theorem Dz (d:Int) (w:World):(binOp .neq 77 (.agg #[.int .i64 d,.float .f64 0,.int .i64 0]) (.agg #[.int .i64 d,.float .f64 0,.int .i64 0])).run Tryz.prog w=.ok (.bool false) w:=by
 rw [run_neq_struct,show (10000:Nat)=9999+1 from rfl,run_equalIn_agg w 9999 77 _ _ GY GX,GZ]
 simp [Op.eqFields,Sem.run_bind,Hc,Hd,He,Hf,Hg,Hh]
def f7m:Flw:=⟨-7,0,0⟩
theorem ui (w:World):JSrc aF (w.alloc (.cells #[.int .i64 (-7),.float .f64 0,.int .i64 0] 77)) (some ⟨w.heap.size,0,none⟩) w.heap.size 0 [f7m]:=
 ⟨fun _=>rfl,fun _=>by simp,fun i hi=>by
  obtain rfl:i=0:=by simp at hi;exact hi
  exact⟨by simp [f7m],by simp [f7m,aF],by simp [f7m]⟩⟩
theorem xM {w:World} {p:Option Addr} {g:Nat} {l:List Flw} {f:Flw} (h:JSrc aF w p g 0 (l++[f])):JSrc aF w p g 0 l:=
 ⟨fun hx=>h.at_ (by simp),fun hx=>h.lt (by simp),fun i hi=>by
  have c:=h.cell i (by rw [List.length_append];omega)
  have e:(l++[f]).getD i ak=l.getD i ak:=by rw [List.getD_eq_getElem?_getD,List.getElem?_append_left hi,← List.getD_eq_getElem?_getD]
  rw [e] at c;exact c⟩
set_option maxRecDepth 20000 in
set_option maxHeartbeats 1600000 in
theorem Ak (B b g L:Nat) (cur day N:Int) (v:Value) (l:List Flw) (w:World) (hx:LdA w B b g cur day N L v l) (hl:l.length≤100000) :
  Calls Tryz.prog 24 #[.pointer (some ⟨b,0,none⟩)] w fun e w'=>(∃ u,e=.returned (.pointer (some ⟨w.heap.size,0,none⟩))∧LdA w' w.heap.size w.heap.size g cur day N L u l)∧Below w.heap.size w w':=by
 obtain⟨pv,gv,cv,hv,_,_,_,_⟩:=av hx.own rfl
 subst hv
 obtain⟨⟨c0,c1,c2,c3⟩,_⟩:=hx.cells
 have HL:=hideS fun wx (hx:LdA wx B b g cur day N L (.slice pv l.length cv) l)=>fj B b g L cur day N _ l wx hx hl
 have HX:=hideS hx
 obtain⟨w1,hw1⟩:∃ w1,w.alloc (.cells #[.pointer (some ⟨g,0,none⟩),.int .i64 cur,.int .i64 day,.slice pv l.length cv] 98)=w1:=⟨_,rfl⟩
 have hb1:Below w.heap.size w w1:=by rw [← hw1];exact (Below.refl _ _).alloc (Nat.le_refl _) _
 have hk1:w1.heap[w.heap.size]? =some (.cells #[.pointer (some ⟨g,0,none⟩),.int .i64 cur,.int .i64 day,.slice pv l.length cv] 98):=by rw [← hw1];exact heap_alloc_new w _
 have HB1:=hideS hb1
 have HK1:=hideS hk1
 clear hx hb1 hk1 hl
 go_enter Tryz.func24,Tryz.ntmps24
 go_wp2_with fail
 refine (HL.out _ (HX.out.below HB1.out)).mono ?_
 rintro e w2 ⟨⟨u,rfl,ho⟩,hb2⟩
 obtain⟨pu,gu,cu,hu,_,_,_,_⟩:=av ho rfl
 subst hu
 have hlt:w.heap.size<w1.heap.size:=(Array.getElem?_eq_some_iff.1 HK1.out).1
 have hk2:=(hb2.block _ hlt).trans HK1.out
 have d3:w2.cell? ⟨w.heap.size,3,none⟩=some (.slice pv l.length cv):=by simp [World.cell?,hk2]
 have f3:w2.frozen? ⟨w.heap.size,3,none⟩=false:=frozen_of_row _ _ 3 _ _ hk2
 have HK2:=hideS (And.intro hk2 (And.intro ho (And.intro hlt (HB1.out.trans (hb2.mono HB1.out.size)))))
 have HX2:=hideS ((HX.out.below HB1.out).below hb2)
 clear hb2 ho hk2 hlt HL HK1 HX HB1 hw1 c0 c1 c2 c3
 go_wp2_with fail
 go_ret
 obtain⟨hk2,ho,hlt,hb2⟩:=HK2.out
 have hc:Ch (fun k=>k=w.heap.size) w2 (w2.setCell ⟨w.heap.size,3,none⟩ (.slice pu l.length cu)):=(Ch.refl (fun k=>k=w.heap.size) w2).set (S:=fun k=>k=w.heap.size) rfl _
 have o2:Oth w2 (fun k=>k=w.heap.size):=fun k cs t fz e h=>by
  subst e;rw [hk2] at h;injection h with h;injection h with _ h _;subst h;decide
 refine⟨⟨_,rfl,⟨aW _ hk2,Nat.le_refl _,?_,HX2.out.cash.ch hc o2⟩⟩,hb2.setCell (p:=⟨w.heap.size,3,none⟩) (Nat.le_refl _) _⟩
 exact cT (bq ho hc (fun k hk c=>by have:=(aM ho hk).1;omega)) (by omega)
def TyS (S:Nat→Prop) (w:World):Prop:=∀ k cs t fz,S k→w.heap[k]? =some (.cells cs t fz)→t=77∨t=98
theorem DA {w:World} {B n:Nat} {v:Value} {xs:List Value} (h:w.ownsRow B 77 3 v n xs):TyS (fun k=>v.ownBlock=some k) w:=fun k cs t fz hk e=>by
 obtain⟨cs',e'⟩:=(aM h hk).2.2
 rw [e'] at e;injection e with e;injection e with _ e _;exact Or.inl e.symm
theorem FF {w:World} {B b g L:Nat} {cur day N:Int} {v:Value} {l:List Flw} (h:LdA w B b g cur day N L v l):TyS (LdS b v) w:=by
 rintro k cs t fz (rfl | hk) e
 ·rw [h.blk] at e;injection e with e;injection e with _ e _;exact Or.inr e.symm
 ·exact DA h.own k cs t fz hk e
theorem TyS.oth {S:Nat→Prop} {w:World} (h:TyS S w):Oth w S:=fun k cs t fz hk e=>by
 rcases h k cs t fz hk e with rfl | rfl<;>decide
structure LtW (w0:World) (gd:Nat) (cur day:Int) (vD:Value) (s:Int) (neg:Bool) (vd:Value) (ee:Int) (l:List Flw) (bD Bx bx gx:Nat) (N:Int) (L:Nat) (vx:Value) (w:World):Prop where
 bl:Below w0.heap.size w0 w
 box:LB w gd cur day vD s neg vd ee
 doc:w.ownsRow bD 104 3 vD l.length (aw aB l)
 x:LdA w Bx bx gx cur day N L vx l
 xlo:w0.heap.size≤Bx
section
variable {w0 w w':World} {gd:Nat} {cur day:Int} {vD:Value} {s:Int} {neg:Bool} {vd:Value} {ee:Int} {l:List Flw} {bD Bx bx gx:Nat} {N:Int} {L:Nat} {vx:Value}
theorem LtW.ch (h:LtW w0 gd cur day vD s neg vd ee l bD Bx bx gx N L vx w) {S:Nat→Prop} (hc:Ch S w w') (hT:TyS S w) (hS:∀ k,S k→w0.heap.size≤k) (hn:∀ k,LdS bx vx k→¬ S k):LtW w0 gd cur day vD s neg vd ee l bD Bx bx gx N L vx w':=by
 refine⟨h.bl.trans (hc.below h.bl.size hS),h.box.far (hc.block _ h.box.lt (fun c=>?_)),bq h.doc hc (fun k hk c=>?_),h.x.apart hc hT.oth hn,h.xlo⟩
 ·rcases hT _ _ _ _ c h.box.blk with e | e<;>(revert e;decide)
 ·obtain⟨cs,e⟩:=(aM h.doc hk).2.2
  rcases hT _ _ _ _ c e with e | e<;>(revert e;decide)
theorem LtW.below (h:LtW w0 gd cur day vD s neg vd ee l bD Bx bx gx N L vx w) (hb:Below w.heap.size w w'):LtW w0 gd cur day vD s neg vd ee l bD Bx bx gx N L vx w':=
 h.ch (S:=fun _=>False) (Ch.of_below hb) (fun _ _ _ _ c=>c.elim) (fun _ c=>c.elim) (fun _ _ c=>c)
theorem LtW.up (h:LtW w0 gd cur day vD s neg vd ee l bD Bx bx gx N L vx w) {k:Nat} (hk:LdS bx vx k):k<w.heap.size:=by
 rcases hk with rfl | hk
 ·exact h.x.lt
 ·exact (aM h.x.own hk).2.1
end
structure RwW (B:Nat) (v:Value) (n:Nat) (w:World):Prop where
 row:∃ R:List Flw,R.length=n∧w.ownsRow B 77 3 v n (aw aF R)
theorem RwW.below {B n:Nat} {v:Value} {w w':World} (h:RwW B v n w) (hb:Below w.heap.size w w'):RwW B v n w':=by
 obtain⟨R,h1,h2⟩:=h.row
 exact⟨R,h1,ap h2 hb⟩
theorem RwW.ty {B n:Nat} {v:Value} {w:World} (h:RwW B v n w):TyS (fun k=>v.ownBlock=some k) w:=by
 obtain⟨R,h1,h2⟩:=h.row
 exact DA h2
theorem RwW.lo {B n:Nat} {v:Value} {w:World} (h:RwW B v n w) {k:Nat} (hk:v.ownBlock=some k):B≤k∧k<w.heap.size:=by
 obtain⟨R,h1,h2⟩:=h.row
 exact⟨(aM h2 hk).1,(aM h2 hk).2.1⟩
theorem RwW.at_ {B n c:Nat} {p:Option Addr} {w:World} (h:RwW B (.slice p n c) n w) {i:Nat} (hi:i<n):∃ g d a q,p=some ⟨g,0,none⟩ ∧(w.cell? ⟨g,i*3,none⟩=some d∧w.cell? ⟨g,i*3+1,none⟩=some a∧w.cell? ⟨g,i*3+2,none⟩=some q)∧(∀ j,w.frozen? ⟨g,j,none⟩=false):=by
 obtain⟨R,h1,h2⟩:=h.row
 obtain⟨p',g,c',e,hs,_⟩:=av h2 h1
 injection e with e1 _ e3
 subst e1 e3
 have hat:=hs.at_ (by omega)
 subst hat
 obtain⟨c0,c1,c2⟩:=hs.cell i (by omega)
 rw [Nat.zero_add] at c0 c1 c2
 exact⟨g,_,_,_,rfl,⟨c0,c1,c2⟩,fun j=>jJ h2 j⟩
theorem RwW.put {B n c g:Nat} {w:World} (h:RwW B (.slice (some ⟨g,0,none⟩) n c) n w) {i:Nat} (hi:i<n) (f:Flw):RwW B (.slice (some ⟨g,0,none⟩) n c) n (((w.setCell ⟨g,i*3,none⟩ (.int .i64 f.day)).setCell ⟨g,i*3+1,none⟩ (.float .f64 f.am)).setCell ⟨g,i*3+2,none⟩ (.int .i64 f.cur)):=by
 obtain⟨R,h1,h2⟩:=h.row
 exact⟨R.set i f,by rw [List.length_set];exact h1,ry h2 (by omega) f⟩
theorem rg (w:World) (g i c n:Nat) (f:Flw):Ch (fun k=>(Value.slice (some ⟨g,0,none⟩) n c).ownBlock=some k) w (((w.setCell ⟨g,i*3,none⟩ (.int .i64 f.day)).setCell ⟨g,i*3+1,none⟩ (.float .f64 f.am)).setCell ⟨g,i*3+2,none⟩ (.int .i64 f.cur)):=
 (((Ch.refl (fun k=>(Value.slice (some ⟨g,0,none⟩) n c).ownBlock=some k) w).set (S:=fun k=>(Value.slice (some ⟨g,0,none⟩) n c).ownBlock=some k) rfl _).set (S:=fun k=>(Value.slice (some ⟨g,0,none⟩) n c).ownBlock=some k) rfl _).set (S:=fun k=>(Value.slice (some ⟨g,0,none⟩) n c).ownBlock=some k) rfl _
end Go.Proofs.YtjjlnmihkadlmaaGreat
namespace Go.Proofs.YtjjlnmihkadlmaaGreat
open Go.RowKit

end Go.Proofs.YtjjlnmihkadlmaaGreat
namespace Go.Proofs.YtjjlnmihkadlmaaGreat
open Go.RowKit

theorem Fw {l:List Flw} {cur day:Int} (h:NwR l cur day 0):ChkF l 0 0∧(1≤cur∧cur≤8)∧(0≤day∧day≤109572)∧∀ f ∈ l,paB cur day f=false:=by
 generalize hz:(0:Int)=z at h
 cases h with
 | flow E K h hE=>exact absurd hz.symm hE
 | cur=>cases hz
 | day=>cases hz
 | past=>cases hz
 | ok h hc hd hp=>exact⟨h,hc,hd,hp⟩
end Go.Proofs.YtjjlnmihkadlmaaGreat
