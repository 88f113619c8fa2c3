/-  -/
import Derived.Test.YtkooknagalgfpaaGreatHbu
import Derived.Test.YtkooknagalgfpaaGreatHbe
namespace Go.Proofs.YtkooknagalgfpaaGreat
open Go.RowKit

def NM (w:World) (base kind:Int) (ds:List Int) (R:List Nat×Int×Int) (e:Ending) (w':World):Prop:=
 (R.2.1≠0∧e=.returned (.tuple #[.agg #[.int .i64 0,.int .i64 0,.slice none 0 0,.slice none 0 0],.int .i64 R.2.1,.int .i64 R.2.2]))∨
 (R.2.1=0∧∃ vX vY,e=.returned (.tuple #[.agg #[.int .i64 base,.int .i64 kind,vX,vY],.int .i64 0,.int .i64 0])∧w'.ownsRow w.heap.size 3 1 vX ds.length (ds.map kV)∧w'.ownsRow w.heap.size 46 1 vY ds.length (R.1.map fV)∧R.1.length=ds.length)
theorem we {t:TypeId} {w:World} {b n m g c:Nat} {xs:List Value} (h:w.ownsRow b t 1 (.slice (some ⟨g,0,none⟩) m c) n xs) (i:Nat):w.frozen? ⟨g,i,none⟩=false:=by
 rcases h.2 with⟨e,_⟩| ⟨k,cap,cur,e,hk,hgg,_⟩
 ·cases e
 ·injection e with e _ _
  injection e with e
  injection e with e _ _
  subst e
  exact frozen_of_row _ _ i _ _ hgg
theorem mV {base kind W:Int} {q:Quo} {rs:List Rul} {ds:List Int} {fs:List Nat} {E:Int} {X:Nat} (hm:MetR base kind W rs ds fs q E X) (ok:OkQ base q) (hC:OkC W rs) (hd:ds.length=fs.length+1) (hd2:ds.length≤64) (hq:ds.getD fs.length 0=q.fin) (hOk:∀ a:Nat,cL a=true→OkV base kind ds (fs++[a])) (p:Option Addr) (b off c bd cd b2 cf:Nat) (w:World) (hs:RSrc w p b off rs) (hx:VSrc w (some ⟨bd,0,none⟩) bd 0 ds.length (xV ds)) (hy:VSrc w (some ⟨b2,0,none⟩) b2 0 (fs.length+1) (flV (fs++[4607182418800017408]))) (hf:∀ i<fs.length,fs.getD i 0<18446744073709551616) (hz:w.frozen? ⟨b2,0+fs.length,none⟩=false) (hne:bd≠b2) :
  Calls Tryz.prog 27 #[.agg #[.int .i64 base,.int .i64 kind,.slice (some ⟨bd,0,none⟩) (fs.length+1:Nat) cd,.slice (some ⟨b2,0,none⟩) (fs.length+1:Nat) cf],.agg #[.int .i64 W,.slice p rs.length c],.agg #[.int .i64 q.kind,.int .i64 q.fin,.int .i64 q.count,.int .i64 q.n,.float .f32 q.rate]] w fun e w'=>e=.returned (.int .i64 E)∧∃ Y,Below w.heap.size (w.setCell ⟨b2,0+fs.length,none⟩ (.float .f64 Y)) w'∧(E=0→Y=X):=by
 have ht:TFl w (some ⟨bd,0,none⟩) (some ⟨b2,0,none⟩) bd 0 b2 0 ds (fs++[4607182418800017408]):=⟨hx,by rw [aI];exact hy,fun i hi=>by
  rw [aI] at hi
  by_cases c:i<fs.length
  ·rw [du _ _ c];exact hf i c
  ·obtain rfl:i=fs.length:=by omega
   rw [last_at];decide⟩
 cases hm with
 | cut E L h hE=>
  refine (FZ ok h hE _ _ _ w).mono fun e w' ⟨h1,h2⟩=>⟨h1,4607182418800017408,?_,fun c=>absurd c hE⟩
  have nc:w.cell? ⟨b2,0+fs.length,none⟩=some (.float .f64 4607182418800017408):=by
   rw [hy.cell fs.length (by omega)]
   show some (Value.float .f64 ((fs++[4607182418800017408]).getD fs.length 0))=_
   rw [last_at]
  exact (fw (p:=⟨b2,0+fs.length,none⟩) rfl nc _).1.trans h2
 | root L n M X N E hc hF hM hV=>
  have:=BW ok hC hc hF hM hV hd hd2 hq hOk p b off c bd 0 cd b2 0 cf w hs ht hz hne
  rw [hd] at this
  exact this.mono fun e w' ⟨h1,h2⟩=>⟨h1,X,h2,fun _=>rfl⟩

set_option maxRecDepth 20000 in
set_option maxHeartbeats 12800000 in
theorem Gf (base kind W:Int) (p:Option Addr) (b off c bq oq cq N:Nat) (rs:List Rul) (qs:List Quo) (w:World) (hC:OkC W rs) (hs:RSrc w p b off rs) (hq:QSrc w (some ⟨bq,oq,none⟩) bq oq qs) (hN:qs.length=N) (hi:N≤64) (b0:0≤base) (b1:base≤109572) (k1:1≤kind) (k4:kind≤4) (hfit:∀ i<N,dw (qs.getD i au) (dV base qs i)=0)
  (HCk:Hid (∀ wx,Below w.heap.size w wx→Calls Tryz.prog 10 #[.int .i64 base,.int .i64 kind,.agg #[.int .i64 W,.slice p rs.length c],.slice (some ⟨bq,oq,none⟩) N cq] wx fun e w'=>e=.returned (.tuple #[.int .i64 0,.int .i64 0])∧Below wx.heap.size wx w')) :
  Calls Tryz.prog 12 #[.int .i64 base,.int .i64 kind,.agg #[.int .i64 W,.slice p rs.length c],.slice (some ⟨bq,oq,none⟩) N cq] w fun e w'=>NM w base kind (aO qs N) ((aq base kind W rs qs N).1,(aq base kind W rs qs N).2.1,((aq base kind W rs qs N).2.2:Nat)) e w'∧Below w.heap.size w w':=by
 have HB:=hideS (KN w W (.slice p rs.length c))
 have HQ:=hideS hq
 have HN:=hideS hN
 have HP:=hideS (And.intro hC (And.intro hs (And.intro b0 (And.intro b1 (And.intro k1 (And.intro k4 hfit))))))
 clear hq hN hC hs b0 b1 k1 k4 hfit
 go_enter Tryz.func12,Tryz.ntmps12
 go_wp2_with fail
 refine (HCk.out _ HB.out.bl).mono ?_
 rintro e w2 ⟨rfl,hb2⟩
 have HB2:=hideS (HB.out.stay (hb2.mono HB.out.sz))
 have hlt:w.heap.size<w2.heap.size:=by have:=HB2.out.sz;omega
 have hne:w.heap.size≠w2.heap.size:=Nat.ne_of_lt hlt
 have HL0:Hid (BdW w w2.heap.size base kind W (.slice p rs.length c) (aO qs 0) 0 (.slice none 0 0) (.slice none 0 0) (aq base kind W rs qs 0).1 (w2.alloc (.cells #[.int .i64 base,.int .i64 kind,.slice none 0 0,.slice none 0 0] 35))):=
  ⟨PM HB2.out,⟨rfl,Or.inl ⟨rfl,rfl⟩⟩,⟨rfl,Or.inl ⟨rfl,rfl⟩⟩,rfl,rfl⟩
 clear hb2 HB HCk HB2
 go_wp2_with fail
 clear hlt hne
 generalize w2.heap.size=B at *
 go_loopw [35] (fun i wr=>∃ (k:Nat) (vX vY:Value),k≤N∧i=.int .i64 k∧Hid (BdW w B base kind W (.slice p rs.length c) (aO qs k) k vX vY (aq base kind W rs qs k).1 wr)∧Hid ((aq base kind W rs qs k).2.1=0)) (fun i _=>N - (intOf i).toNat)
 case atStart=>exact⟨0,_,_,Nat.zero_le _,rfl,HL0,rfl⟩
 case round=>
  clear HL0
  obtain⟨k,vX,vY,hk,rfl,HW,HE⟩:=hrel
  by_cases hlt:k<N
  ·obtain⟨c0,c1,c2,c3,c4⟩:=(HQ.out.below HW.out.l.b.bl).cell k (by rw [HN.out];exact hlt)
   have HQB:=hideS (zB wr (qs.getD k au))
   obtain⟨⟨z0,z1,z2,z3,z4⟩,fz⟩:=nQ wr
   have y0:=fz 0
   have y1:=fz 1
   have y2:=fz 2
   have y3:=fz 3
   have y4:=fz 4
   clear fz
   have HIv:=hideS (jD (W:=W) (rs:=rs) HP.out.2.2.1 HP.out.2.2.2.1 HP.out.2.2.2.2.1 HP.out.2.2.2.2.2.1 hi HP.out.2.2.2.2.2.2 k hk HE.out)
   have HOv:Hid (∀ a:Nat,cL a=true→OkV base kind (aO qs (k+1)) ((aq base kind W rs qs k).1++[a])):=fun a ha=>lW HP.out.2.2.1 HP.out.2.2.2.1 HP.out.2.2.2.2.1 HP.out.2.2.2.2.2.1 hi HP.out.2.2.2.2.2.2 hlt HIv.out.1 (fun i hi=>(HIv.out.2 i hi).1) ha
   have HOq:=hideS (oG HP.out.2.2.1 HP.out.2.2.2.2.2.2 hlt)
   have HMv:=hideS (oE (W:=W) (rs:=rs) (fs:=(aq base kind W rs qs k).1) HOq.out (wc (HOv.out 4607182418800017408 (by decide))))
   have HSu:=hideS (FE qs k)
   have HBad:=hideS (oH (base:=base) (kind:=kind) (W:=W) (rs:=rs) (qs:=qs) (k:=k) HE.out)
   have HFin:=hideS (rN (base:=base) (kind:=kind) (W:=W) (rs:=rs) (qs:=qs) (k:=k) HE.out)
   have HSt:=hideS (fun d=>lX (base:=base) (kind:=kind) (W:=W) (rs:=rs) (qs:=qs) (k:=k+1) d)
   have HEn:Hid ((aO qs (k+1)).getD k 0=(qs.getD k au).fin):=jB qs (by omega)
   generalize hfe:(aq base kind W rs qs k).1=fs at HW HIv HOv HMv HBad HFin
   generalize hMe:fy base kind W rs (aO qs (k+1)) fs (qs.getD k au)=mv at HMv HBad HFin
   clear hfe hMe
   obtain⟨ME,MX⟩:=mv
   dsimp only at HMv HBad HFin
   obtain⟨q,hqe⟩:∃ q,qs.getD k au=q:=⟨_,rfl⟩
   rw [hqe] at HQB c0 c1 c2 c3 c4 HOq HMv HSu HEn
   clear hqe
   obtain⟨wq,hwq⟩:∃ wq,wr.alloc cF=wq:=⟨_,rfl⟩
   rw [hwq] at z0 z1 z2 z3 z4 y0 y1 y2 y3 y4 HQB
   unfold cF at hwq
   obtain⟨w1,hw1⟩:∃ w1,FJ wq wr.heap.size q=w1:=⟨_,rfl⟩
   rw [hw1] at HQB
   unfold FJ at hw1
   have hst:=tV
   have HW1:=hideS (HW.out.below HQB.out.bl)
   have HQ5:Hid (Q5 wr.heap.size q w1):=⟨HQB.out.t0,HQB.out.t1,HQB.out.t2,HQB.out.t3,HQB.out.t4⟩
   have HNx:Hid (∀ g,vX.ownBlock=some g→g<wr.heap.size):=fun g hg=>lU HW.out.x hg
   have HNy:Hid (∀ g,vY.ownBlock=some g→g<wr.heap.size):=fun g hg=>lU HW.out.y hg
   have HBQ:Hid (B<wr.heap.size):=HW.out.l.sz
   have HQl:=hideS HQB.out.lt
   obtain⟨qx,cx,rfl⟩:=bI HW1.out.x
   obtain⟨qy,cy,rfl⟩:=bI HW1.out.y
   have s2:=HW1.out.l.s2
   have s3:=HW1.out.l.s3
   have f2:=HW1.out.l.fz 2
   have f3:=HW1.out.l.fz 3
   have t1:=HQ5.out.t1
   have bw:∀ o,Below w1.heap.size w1 (w1.alloc o):=fun o=>(Below.refl _ w1).alloc (Nat.le_refl _) o
   have bww:∀ o o',Below w1.heap.size w1 ((w1.alloc o).alloc o'):=fun o o'=>(bw o).alloc (bw o).size o'
   generalize hDe:q.fin=D at t1
   have HDe:=hideS hDe
   clear hDe
   have HAp:Hid (∀ wa,Below w1.heap.size w1 wa→BdL w B base kind W (.slice p rs.length c) (.slice qx k cx) (.slice qy k cy) wa∧wa.ownsRow (B+1) 3 1 (.slice qx k cx) k ((aO qs k).map kV)∧wa.ownsRow (B+1) 46 1 (.slice qy k cy) k (fs.map fV)∧Q5 wr.heap.size q wa∧B+1≤wa.heap.size):=fun wa hb=>⟨HW1.out.l.stay (hb.mono HW1.out.l.sz),aL HW1.out.x hb,aL HW1.out.y hb,HQ5.out.below hb,Nat.le_trans HW1.out.l.sz hb.size⟩
   have Ha:=hideS (HAp.out _ (bw (.cells #[.int .i64 D] 3)).drew)
   have Hab:=hideS (HAp.out _ (bww (.cells #[.int .i64 D] 3) (.cells #[.float .f64 4607182418800017408] 46)).drew)
   have Hba:=hideS (HAp.out _ (bww (.cells #[.float .f64 4607182418800017408] 46) (.cells #[.int .i64 D] 3)).drew)
   have zz1:(w1.alloc (.cells #[.int .i64 D] 3)).heap.size=w1.heap.size+1:=by simp
   have zz2:(w1.alloc (.cells #[.float .f64 4607182418800017408] 46)).heap.size=w1.heap.size+1:=by simp
   have Ca:Hid (∀ j<1,(w1.alloc (.cells #[.int .i64 D] 3)).drew.cell? ⟨w1.heap.size,0+j,none⟩=some (xV [D] j)):=lO w1 D 3
   have Cab:Hid (∀ j<1,((w1.alloc (.cells #[.int .i64 D] 3)).alloc (.cells #[.float .f64 4607182418800017408] 46)).drew.cell? ⟨w1.heap.size,0+j,none⟩=some (xV [D] j)):=fun j hj=>(((Below.refl _ (w1.alloc (.cells #[.int .i64 D] 3))).alloc (Nat.le_refl _) (.cells #[.float .f64 4607182418800017408] 46)).cell (p:=⟨w1.heap.size,0+j,none⟩) (by rw [zz1];exact Nat.lt_succ_self _)).trans (lO w1 D 3 j hj)
   have Cba:Hid (∀ j<1,((w1.alloc (.cells #[.float .f64 4607182418800017408] 46)).alloc (.cells #[.int .i64 D] 3)).drew.cell? ⟨w1.heap.size+1,0+j,none⟩=some (xV [D] j)):=by
    have:=lO (w1.alloc (.cells #[.float .f64 4607182418800017408] 46)) D 3
    rw [zz2] at this;exact this
   have Xab:Hid (∀ j<1,((w1.alloc (.cells #[.int .i64 D] 3)).alloc (.cells #[.float .f64 4607182418800017408] 46)).drew.cell? ⟨w1.heap.size+1,0+j,none⟩=some (flV [4607182418800017408] j)):=by
    have:=oF (w1.alloc (.cells #[.int .i64 D] 3)) 4607182418800017408 46
    rw [zz1] at this;exact this
   have Xba:Hid (∀ j<1,((w1.alloc (.cells #[.float .f64 4607182418800017408] 46)).alloc (.cells #[.int .i64 D] 3)).drew.cell? ⟨w1.heap.size,0+j,none⟩=some (flV [4607182418800017408] j)):=fun j hj=>(((Below.refl _ (w1.alloc (.cells #[.float .f64 4607182418800017408] 46))).alloc (Nat.le_refl _) (.cells #[.int .i64 D] 3)).cell (p:=⟨w1.heap.size,0+j,none⟩) (by rw [zz2];exact Nat.lt_succ_self _)).trans (oF w1 4607182418800017408 46 j hj)
   have HNo:Hid (∀ g,(Value.slice qx k cx).ownBlock=some g→g<w1.heap.size):=fun g hg=>lU HW1.out.x hg
   have HLen:=hideS (And.intro HW1.out.dn HW1.out.fn)
   have HLw:Hid (∀ wa,Below w1.heap.size w1 wa→wa.cell? ⟨B,2,none⟩=some (.slice qx k cx)∧wa.cell? ⟨B,3,none⟩=some (.slice qy k cy)∧wa.cell? ⟨wr.heap.size,1,none⟩=some (.int .i64 D)):=fun wa hb=>⟨(HAp.out wa hb).1.s2,(HAp.out wa hb).1.s3,by rw [← HDe.out];exact (HAp.out wa hb).2.2.2.1.t1⟩
   have e1:∀ o,(w1.alloc o).cell? ⟨B,2,none⟩=some (.slice qx k cx):=fun o=>(HLw.out _ (bw o)).1
   have e2:∀ o,(w1.alloc o).cell? ⟨B,3,none⟩=some (.slice qy k cy):=fun o=>(HLw.out _ (bw o)).2.1
   have e5:∀ o,(w1.alloc o).drew.cell? ⟨B,2,none⟩=some (.slice qx k cx):=e1
   have e6:∀ o,(w1.alloc o).drew.cell? ⟨B,3,none⟩=some (.slice qy k cy):=e2
   have i1:∀ o o',((w1.alloc o).alloc o').cell? ⟨B,2,none⟩=some (.slice qx k cx):=fun o o'=>(HLw.out _ (bww o o')).1
   have i2:∀ o o',((w1.alloc o).alloc o').cell? ⟨B,3,none⟩=some (.slice qy k cy):=fun o o'=>(HLw.out _ (bww o o')).2.1
   have i3:∀ o o',((w1.alloc o).alloc o').drew.cell? ⟨B,2,none⟩=some (.slice qx k cx):=i1
   have i4:∀ o o',((w1.alloc o).alloc o').drew.cell? ⟨B,3,none⟩=some (.slice qy k cy):=i2
   clear zz1 zz2
   go_wp2_with fail
   clear hst hwq hw1 z0 z1 z2 z3 z4 y0 y1 y2 y3 y4 c0 c1 c2 c3 c4
   refine rL (fun xw=>xw.cell? ⟨B,2,none⟩=some (.slice qx k cx)∧xw.cell? ⟨B,3,none⟩=some (.slice qy k cy)∧xw.cell? ⟨wr.heap.size,1,none⟩=some (.int .i64 D)) (fun i=>i==11||i==12||i==13) (by kernel_rfl) ?_
   have hS0:w1.drew.cell? ⟨B,2,none⟩=some (.slice qx k cx)∧w1.drew.cell? ⟨B,3,none⟩=some (.slice qy k cy)∧w1.drew.cell? ⟨wr.heap.size,1,none⟩=some (.int .i64 D):=⟨s2,s3,t1⟩
   refine cp 0 (.pointer (some ⟨B,2,none⟩)) rfl (by kernel_rfl) (by kernel_rfl) (by kernel_rfl) (by kernel_rfl) (by kernel_rfl) (fun _ _ _ h=>h) (by rfl) hS0 (fun wx hS=>by obtain⟨x1,x2,x3⟩:=hS;go_simp) ?_
   simp only [Act.put,List.setIfInBounds_toArray]
   refine cp 1 (.slice qx k cx) rfl (by kernel_rfl) (by kernel_rfl) (by kernel_rfl) (by kernel_rfl) (by kernel_rfl) (fun _ _ _ h=>h) (by rfl) hS0 (fun wx hS=>by obtain⟨x1,x2,x3⟩:=hS;go_simp) ?_
   simp only [Act.put]
   refine cp 2 (.pointer (some ⟨wr.heap.size,1,none⟩)) rfl (by kernel_rfl) (by kernel_rfl) (by kernel_rfl) (by kernel_rfl) (by kernel_rfl) (fun _ _ _ h=>h) (by rfl) hS0 (fun wx hS=>by obtain⟨x1,x2,x3⟩:=hS;go_simp) ?_
   simp only [Act.put]
   refine cp 3 (.int .i64 D) rfl (by kernel_rfl) (by kernel_rfl) (by kernel_rfl) (by kernel_rfl) (by kernel_rfl) (fun _ _ _ h=>h) (by rfl) hS0 (fun wx hS=>by obtain⟨x1,x2,x3⟩:=hS;go_simp) ?_
   simp only [Act.put]
   refine cp 6 (.pointer (some ⟨B,3,none⟩)) rfl (by kernel_rfl) (by kernel_rfl) (by kernel_rfl) (by kernel_rfl) (by kernel_rfl) (fun _ _ _ h=>h) (by rfl) hS0 (fun wx hS=>by obtain⟨x1,x2,x3⟩:=hS;go_simp) ?_
   simp only [Act.put]
   refine cp 7 (.slice qy k cy) rfl (by kernel_rfl) (by kernel_rfl) (by kernel_rfl) (by kernel_rfl) (by kernel_rfl) (fun _ _ _ h=>h) (by rfl) hS0 (fun wx hS=>by obtain⟨x1,x2,x3⟩:=hS;go_simp) ?_
   simp only [Act.put]
   refine zK (i:=4) (j:=8) (by kernel_rfl) ?_ ?_
   ·refine wpOp_step rfl (fun K1 hK1=>?_)
    go_simp
    refine hK1 _ _ ⟨fun _=>HLw.out _ (bw (.cells #[.int .i64 D] 3)).drew,?_⟩
    refine zK (i:=5) (j:=8) (by kernel_rfl) ?_ ?_
    ·refine wpOp_step rfl (fun K2 hK2=>?_)
     refine bP rfl (.tmp 41) (.tmp 44) rfl (B+1) (.slice qx k cx) k (aO qs k) rfl Ha.out.2.1 (w1.heap.size) 0 1 1 [D] rfl rfl Ca.out (by omega) (by omega) Ha.out.2.2.2.2 ?_
     intro v3 w3 ho3 hg3
     have HT3:=hideS (Cc Ha.out.1 Ha.out.2.1 Ha.out.2.2.1 Ha.out.2.2.2.1 (fun g hg=>Nat.ne_of_lt (HNx.out g hg)) ho3 hg3)
     have HG3:=hideS hg3
     obtain⟨q3,c3,rfl⟩:=bI ho3
     clear ho3 hg3
     have hS3:w3.cell? ⟨B,2,none⟩=some (.slice qx k cx)∧w3.cell? ⟨B,3,none⟩=some (.slice qy k cy)∧w3.cell? ⟨wr.heap.size,1,none⟩=some (.int .i64 D):=⟨HT3.out.l.s2,HT3.out.l.s3,by rw [← HDe.out];exact HT3.out.q5.t1⟩
     refine hK2 _ _ ⟨fun _=>hS3,?_⟩
     simp only [Act.put]
     refine cp 10 (.pointer (some ⟨B,2,none⟩)) rfl (by kernel_rfl) (by kernel_rfl) (by kernel_rfl) (by kernel_rfl) (by kernel_rfl) (fun _ _ _ h=>h) (by rfl) hS3 (fun wx hS=>by obtain⟨x1,x2,x3⟩:=hS;go_simp) ?_
     simp only [Act.put]
     have ba3:∀ o,Below w3.heap.size w3 (w3.alloc o):=fun o=>(Below.refl _ w3).alloc (Nat.le_refl _) o
     have HT4:=hideS (HT3.out.below (ba3 (.cells #[.float .f64 4607182418800017408] 46)))
     have X1:=hideS (oF w3 4607182418800017408 46)
     refine bj (i:=8) (by kernel_rfl) ?_
     refine wpOp_step rfl (fun K3 hK3=>?_)
     go_simp
     refine hK3 _ _ ⟨fun _=>⟨HT4.out.l.s2,HT4.out.l.s3,by rw [← HDe.out];exact HT4.out.q5.t1⟩,?_⟩
     refine bj (i:=9) (by kernel_rfl) ?_
     refine wpOp_step rfl (fun K5 hK5=>?_)
     refine bE rfl (.tmp 47) (.tmp 48) rfl (B+1) (.slice qy k cy) k fs rfl HT4.out.y (w3.heap.size) 0 1 1 [4607182418800017408] rfl rfl X1.out (by omega) (by omega) HT4.out.l.sz ?_
     intro v5 w5 ho5 hg5
     obtain⟨hl5,hq5,hw5,hq6⟩:=Cd HT4.out (Nat.ne_of_lt HBQ.out) (by simp [HLen.out.1]) HLen.out.2 (fun g hg=>Nat.ne_of_lt (HNy.out g hg)) ho5 hg5
     obtain⟨q5,c5,rfl⟩:=bI ho5
     have r2:=hl5.s2
     have r3:=hl5.s3
     have y2:=hl5.fz 2
     have y3:=hl5.fz 3
     have HW5:=hideS hw5
     have HQ6:=hideS hq6
     refine hK5 _ _ ⟨fun _=>⟨hl5.s2,hl5.s3,by rw [← HDe.out];exact hq5.t1⟩,?_⟩
     simp only [Act.put]
     clear ho5 hg5 hl5 hw5 hq5 hq6
     refine bj (i:=11) (by kernel_rfl) ?_
     refine wpOp_step rfl (fun K6 hK6=>?_)
     go_simp
     refine hK6 _ _ ⟨fun h=>absurd h (by decide),?_⟩
     refine bj (i:=12) (by kernel_rfl) ?_
     refine wpOp_step rfl (fun K7 hK7=>?_)
     go_simp
     refine hK7 _ _ ⟨fun h=>absurd h (by decide),?_⟩
     refine bj (i:=13) (by kernel_rfl) ?_
     refine wpOp_step rfl (fun K8 hK8=>?_)
     go_simp
     refine hK8 _ _ ⟨fun h=>absurd h (by decide),?_⟩
     refine mU (by kernel_rfl) ?_
     clear hK1 hK2 hK3 hK6 hK7 hK8 hK5
     obtain⟨w6,hw6⟩:∃ w6,(w5.setCell ⟨B,2,none⟩ (.slice q3 (k+1) c3)).setCell ⟨B,3,none⟩ (.slice q5 (k+1) c5)=w6:=⟨_,rfl⟩
     rw [hw6] at HW5 HQ6 ⊢
     have HW6:Hid (BdW w B base kind W (.slice p rs.length c) (aO qs (k+1)) (k+1) (.slice q3 (k+1) c3) (.slice q5 (k+1) c5) (fs++[4607182418800017408]) w6):=by show BdW _ _ _ _ _ _ _ _ _ _ _ _;rw [HSu.out,HDe.out];exact HW5.out
     clear hw6 HW5 r2 r3 y2 y3 hS3 s2 s3 f2 f3 t1
     obtain⟨g3,d3,he3,hs3,_⟩:=dt (xs:=aO qs (k+1)) HW6.out.x (av _ _) (by omega)
     obtain⟨g5,d5,he5,hs5,_⟩:=bO (xs:=fs++[4607182418800017408]) HW6.out.y (by rw [aI,HLen.out.2]) (by omega)
     injection he3 with he3 _ hd3
     injection he5 with he5 _ hd5
     subst he3 hd3 he5 hd5
     have hmt:=mV HMv.out HOq.out HP.out.1 (by rw [av,HLen.out.2]) (by rw [av];omega) (by rw [HLen.out.2,HEn.out]) HOv.out p b off c g3 c3 g5 c5 w6 (HP.out.2.1.below HW6.out.l.b.bl) (by rw [av];exact hs3) (by rw [HLen.out.2];exact hs5) (fun i hi=>(HIv.out.2 i (by rw [HLen.out.2] at hi;exact hi)).2) (we HW6.out.y _) (lP HW6.out.x HW6.out.y (by decide))
     have HFl:=hideS HLen.out.2
     rw [HLen.out.2] at hmt
     have HMt:=hideS hmt
     have q0:=HQ6.out.t0
     have q1:=HQ6.out.t1
     have q2:=HQ6.out.t2
     have q3':=HQ6.out.t3
     have q4:=HQ6.out.t4
     have u0:=HW6.out.l.s0
     have u1:=HW6.out.l.s1
     have u2:=HW6.out.l.s2
     have u3:=HW6.out.l.s3
     have k0:=HW6.out.l.b.k0
     have k1:=HW6.out.l.b.k1
     clear hmt hs3 hs5
     go_wp2_with fail
     refine HMt.out.mono ?_
     rintro e w7 ⟨rfl,Y,hb7,hY⟩
     have HW7:=hideS (wb HW6.out (by rw [HFl.out];exact hb7))
     clear hb7 HMt q0 q1 q2 q3' q4 u0 u1 u2 u3 k0 k1
     by_cases hz:ME=0
     ·have HE7:=hideS (HFin.out hz)
      have hYX:=hY hz
      subst hz hYX
      have HW8:Hid (BdW w B base kind W (.slice p rs.length c) (aO qs (k+1)) (k+1) (.slice (some ⟨g3,0,none⟩) (k+1) c3) (.slice (some ⟨g5,0,none⟩) (k+1) c5) (aq base kind W rs qs (k+1)).1 w7):=by show BdW _ _ _ _ _ _ _ _ _ _ _ _;rw [HE7.out];exact HW7.out
      have HE8:Hid ((aq base kind W rs qs (k+1)).2.1=0):=by show _=_;rw [HE7.out]
      go_wp2_with fail
      go_roundw
      case rel=>exact⟨k+1,_,_,by omega,by simp,HW8,HE8⟩
      case measure=>simp [intOf];omega
     ·have HE7:=hideS (HBad.out hz)
      have HEN:Hid (aq base kind W rs qs N=([],ME,k)):=by
       show _=_
       obtain⟨dd,hdd⟩:∃ dd,N=k+1+dd:=⟨N - (k+1),by omega⟩
       rw [hdd,HSt.out (by rw [HE7.out];exact hz) dd,HE7.out]
      have HZ:=hideS hz
      have d1:(ME !=0)=true:=bne_iff_ne.2 hz
      have d0:=HW7.out.l.b.d0
      have d1':=HW7.out.l.b.d1
      have d2:=HW7.out.l.b.d2
      have d3:=HW7.out.l.b.d3
      have z0:=HW7.out.l.b.fz 0
      have z1:=HW7.out.l.b.fz 1
      have z2:=HW7.out.l.b.fz 2
      have z3:=HW7.out.l.b.fz 3
      clear hz hY
      go_wp2_with fail
      have hsb:∀ j,w.heap.size≤(⟨w.heap.size+1,j,none⟩:Addr).block:=fun j=>by show w.heap.size≤w.heap.size+1;omega
      refine bodyPost_ret (v:=.tuple #[.agg #[.int .i64 0,.int .i64 0,.slice none 0 0,.slice none 0 0],.int .i64 ME,.int .i64 k]) (by simp [results,Tryz.results12,go_sem,d0,d1',d2,d3]) rfl ?_
      refine⟨Or.inl ?_,(((HW7.out.l.b.bl.setCell (hsb 0) _).setCell (hsb 1) _).setCell (hsb 2) _).setCell (hsb 3) _⟩
      rw [HEN.out]
      exact⟨HZ.out,rfl⟩
    ·refine wpOp_step rfl (fun K2 hK2=>?_)
     go_simp
     refine hK2 _ _ ⟨fun _=>HLw.out _ (bww (.cells #[.int .i64 D] 3) (.cells #[.float .f64 4607182418800017408] 46)).drew,?_⟩
     refine bj (i:=5) (by kernel_rfl) ?_
     refine wpOp_step rfl (fun K3 hK3=>?_)
     refine bP rfl (.tmp 41) (.tmp 44) rfl (B+1) (.slice qx k cx) k (aO qs k) rfl Hab.out.2.1 (w1.heap.size) 0 1 1 [D] rfl rfl Cab.out (by omega) (by omega) Hab.out.2.2.2.2 ?_
     intro v3 w3 ho3 hg3
     have HT3:=hideS (Cc Hab.out.1 Hab.out.2.1 Hab.out.2.2.1 Hab.out.2.2.2.1 (fun g hg=>Nat.ne_of_lt (HNx.out g hg)) ho3 hg3)
     have HG3:=hideS hg3
     obtain⟨q3,c3,rfl⟩:=bI ho3
     clear ho3 hg3
     have hS3:w3.cell? ⟨B,2,none⟩=some (.slice qx k cx)∧w3.cell? ⟨B,3,none⟩=some (.slice qy k cy)∧w3.cell? ⟨wr.heap.size,1,none⟩=some (.int .i64 D):=⟨HT3.out.l.s2,HT3.out.l.s3,by rw [← HDe.out];exact HT3.out.q5.t1⟩
     refine hK3 _ _ ⟨fun _=>hS3,?_⟩
     simp only [Act.put]
     refine cp 10 (.pointer (some ⟨B,2,none⟩)) rfl (by kernel_rfl) (by kernel_rfl) (by kernel_rfl) (by kernel_rfl) (by kernel_rfl) (fun _ _ _ h=>h) (by rfl) hS3 (fun wx hS=>by obtain⟨x1,x2,x3⟩:=hS;go_simp) ?_
     simp only [Act.put]
     have X2:Hid (∀ j<1,w3.cell? ⟨w1.heap.size+1,0+j,none⟩=some (flV [4607182418800017408] j)):=fun j hj=>(jc HG3.out (by simp<;>omega) (fun g hg=>by have:=HNo.out g hg;omega)).trans (Xab.out j hj)
     refine bj (i:=9) (by kernel_rfl) ?_
     refine wpOp_step rfl (fun K5 hK5=>?_)
     refine bE rfl (.tmp 47) (.tmp 48) rfl (B+1) (.slice qy k cy) k fs rfl HT3.out.y (w1.heap.size+1) 0 1 1 [4607182418800017408] rfl rfl X2.out (by omega) (by omega) HT3.out.l.sz ?_
     intro v5 w5 ho5 hg5
     obtain⟨hl5,hq5,hw5,hq6⟩:=Cd HT3.out (Nat.ne_of_lt HBQ.out) (by simp [HLen.out.1]) HLen.out.2 (fun g hg=>Nat.ne_of_lt (HNy.out g hg)) ho5 hg5
     obtain⟨q5,c5,rfl⟩:=bI ho5
     have r2:=hl5.s2
     have r3:=hl5.s3
     have y2:=hl5.fz 2
     have y3:=hl5.fz 3
     have HW5:=hideS hw5
     have HQ6:=hideS hq6
     refine hK5 _ _ ⟨fun _=>⟨hl5.s2,hl5.s3,by rw [← HDe.out];exact hq5.t1⟩,?_⟩
     simp only [Act.put]
     clear ho5 hg5 hl5 hw5 hq5 hq6
     refine bj (i:=11) (by kernel_rfl) ?_
     refine wpOp_step rfl (fun K6 hK6=>?_)
     go_simp
     refine hK6 _ _ ⟨fun h=>absurd h (by decide),?_⟩
     refine bj (i:=12) (by kernel_rfl) ?_
     refine wpOp_step rfl (fun K7 hK7=>?_)
     go_simp
     refine hK7 _ _ ⟨fun h=>absurd h (by decide),?_⟩
     refine bj (i:=13) (by kernel_rfl) ?_
     refine wpOp_step rfl (fun K8 hK8=>?_)
     go_simp
     refine hK8 _ _ ⟨fun h=>absurd h (by decide),?_⟩
     refine mU (by kernel_rfl) ?_
     clear hK1 hK2 hK3 hK6 hK7 hK8 hK5
     obtain⟨w6,hw6⟩:∃ w6,(w5.setCell ⟨B,2,none⟩ (.slice q3 (k+1) c3)).setCell ⟨B,3,none⟩ (.slice q5 (k+1) c5)=w6:=⟨_,rfl⟩
     rw [hw6] at HW5 HQ6 ⊢
     have HW6:Hid (BdW w B base kind W (.slice p rs.length c) (aO qs (k+1)) (k+1) (.slice q3 (k+1) c3) (.slice q5 (k+1) c5) (fs++[4607182418800017408]) w6):=by show BdW _ _ _ _ _ _ _ _ _ _ _ _;rw [HSu.out,HDe.out];exact HW5.out
     clear hw6 HW5 r2 r3 y2 y3 hS3 s2 s3 f2 f3 t1
     obtain⟨g3,d3,he3,hs3,_⟩:=dt (xs:=aO qs (k+1)) HW6.out.x (av _ _) (by omega)
     obtain⟨g5,d5,he5,hs5,_⟩:=bO (xs:=fs++[4607182418800017408]) HW6.out.y (by rw [aI,HLen.out.2]) (by omega)
     injection he3 with he3 _ hd3
     injection he5 with he5 _ hd5
     subst he3 hd3 he5 hd5
     have hmt:=mV HMv.out HOq.out HP.out.1 (by rw [av,HLen.out.2]) (by rw [av];omega) (by rw [HLen.out.2,HEn.out]) HOv.out p b off c g3 c3 g5 c5 w6 (HP.out.2.1.below HW6.out.l.b.bl) (by rw [av];exact hs3) (by rw [HLen.out.2];exact hs5) (fun i hi=>(HIv.out.2 i (by rw [HLen.out.2] at hi;exact hi)).2) (we HW6.out.y _) (lP HW6.out.x HW6.out.y (by decide))
     have HFl:=hideS HLen.out.2
     rw [HLen.out.2] at hmt
     have HMt:=hideS hmt
     have q0:=HQ6.out.t0
     have q1:=HQ6.out.t1
     have q2:=HQ6.out.t2
     have q3':=HQ6.out.t3
     have q4:=HQ6.out.t4
     have u0:=HW6.out.l.s0
     have u1:=HW6.out.l.s1
     have u2:=HW6.out.l.s2
     have u3:=HW6.out.l.s3
     have k0:=HW6.out.l.b.k0
     have k1:=HW6.out.l.b.k1
     clear hmt hs3 hs5
     go_wp2_with fail
     refine HMt.out.mono ?_
     rintro e w7 ⟨rfl,Y,hb7,hY⟩
     have HW7:=hideS (wb HW6.out (by rw [HFl.out];exact hb7))
     clear hb7 HMt q0 q1 q2 q3' q4 u0 u1 u2 u3 k0 k1
     by_cases hz:ME=0
     ·have HE7:=hideS (HFin.out hz)
      have hYX:=hY hz
      subst hz hYX
      have HW8:Hid (BdW w B base kind W (.slice p rs.length c) (aO qs (k+1)) (k+1) (.slice (some ⟨g3,0,none⟩) (k+1) c3) (.slice (some ⟨g5,0,none⟩) (k+1) c5) (aq base kind W rs qs (k+1)).1 w7):=by show BdW _ _ _ _ _ _ _ _ _ _ _ _;rw [HE7.out];exact HW7.out
      have HE8:Hid ((aq base kind W rs qs (k+1)).2.1=0):=by show _=_;rw [HE7.out]
      go_wp2_with fail
      go_roundw
      case rel=>exact⟨k+1,_,_,by omega,by simp,HW8,HE8⟩
      case measure=>simp [intOf];omega
     ·have HE7:=hideS (HBad.out hz)
      have HEN:Hid (aq base kind W rs qs N=([],ME,k)):=by
       show _=_
       obtain⟨dd,hdd⟩:∃ dd,N=k+1+dd:=⟨N - (k+1),by omega⟩
       rw [hdd,HSt.out (by rw [HE7.out];exact hz) dd,HE7.out]
      have HZ:=hideS hz
      have d1:(ME !=0)=true:=bne_iff_ne.2 hz
      have d0:=HW7.out.l.b.d0
      have d1':=HW7.out.l.b.d1
      have d2:=HW7.out.l.b.d2
      have d3:=HW7.out.l.b.d3
      have z0:=HW7.out.l.b.fz 0
      have z1:=HW7.out.l.b.fz 1
      have z2:=HW7.out.l.b.fz 2
      have z3:=HW7.out.l.b.fz 3
      clear hz hY
      go_wp2_with fail
      have hsb:∀ j,w.heap.size≤(⟨w.heap.size+1,j,none⟩:Addr).block:=fun j=>by show w.heap.size≤w.heap.size+1;omega
      refine bodyPost_ret (v:=.tuple #[.agg #[.int .i64 0,.int .i64 0,.slice none 0 0,.slice none 0 0],.int .i64 ME,.int .i64 k]) (by simp [results,Tryz.results12,go_sem,d0,d1',d2,d3]) rfl ?_
      refine⟨Or.inl ?_,(((HW7.out.l.b.bl.setCell (hsb 0) _).setCell (hsb 1) _).setCell (hsb 2) _).setCell (hsb 3) _⟩
      rw [HEN.out]
      exact⟨HZ.out,rfl⟩
   ·refine wpOp_step rfl (fun K1 hK1=>?_)
    go_simp
    refine hK1 _ _ ⟨fun _=>HLw.out _ (bw (.cells #[.float .f64 4607182418800017408] 46)).drew,?_⟩
    refine bj (i:=4) (by kernel_rfl) ?_
    refine wpOp_step rfl (fun K2 hK2=>?_)
    go_simp
    refine hK2 _ _ ⟨fun _=>HLw.out _ (bww (.cells #[.float .f64 4607182418800017408] 46) (.cells #[.int .i64 D] 3)).drew,?_⟩
    refine bj (i:=5) (by kernel_rfl) ?_
    refine wpOp_step rfl (fun K3 hK3=>?_)
    refine bP rfl (.tmp 41) (.tmp 44) rfl (B+1) (.slice qx k cx) k (aO qs k) rfl Hba.out.2.1 (w1.heap.size+1) 0 1 1 [D] rfl rfl Cba.out (by omega) (by omega) Hba.out.2.2.2.2 ?_
    intro v3 w3 ho3 hg3
    have HT3:=hideS (Cc Hba.out.1 Hba.out.2.1 Hba.out.2.2.1 Hba.out.2.2.2.1 (fun g hg=>Nat.ne_of_lt (HNx.out g hg)) ho3 hg3)
    have HG3:=hideS hg3
    obtain⟨q3,c3,rfl⟩:=bI ho3
    clear ho3 hg3
    have hS3:w3.cell? ⟨B,2,none⟩=some (.slice qx k cx)∧w3.cell? ⟨B,3,none⟩=some (.slice qy k cy)∧w3.cell? ⟨wr.heap.size,1,none⟩=some (.int .i64 D):=⟨HT3.out.l.s2,HT3.out.l.s3,by rw [← HDe.out];exact HT3.out.q5.t1⟩
    refine hK3 _ _ ⟨fun _=>hS3,?_⟩
    simp only [Act.put]
    refine cp 10 (.pointer (some ⟨B,2,none⟩)) rfl (by kernel_rfl) (by kernel_rfl) (by kernel_rfl) (by kernel_rfl) (by kernel_rfl) (fun _ _ _ h=>h) (by rfl) hS3 (fun wx hS=>by obtain⟨x1,x2,x3⟩:=hS;go_simp) ?_
    simp only [Act.put]
    have X3:Hid (∀ j<1,w3.cell? ⟨w1.heap.size,0+j,none⟩=some (flV [4607182418800017408] j)):=fun j hj=>(jc HG3.out (by simp<;>omega) (fun g hg=>by have:=HNo.out g hg;omega)).trans (Xba.out j hj)
    refine bj (i:=9) (by kernel_rfl) ?_
    refine wpOp_step rfl (fun K5 hK5=>?_)
    refine bE rfl (.tmp 47) (.tmp 48) rfl (B+1) (.slice qy k cy) k fs rfl HT3.out.y (w1.heap.size) 0 1 1 [4607182418800017408] rfl rfl X3.out (by omega) (by omega) HT3.out.l.sz ?_
    intro v5 w5 ho5 hg5
    obtain⟨hl5,hq5,hw5,hq6⟩:=Cd HT3.out (Nat.ne_of_lt HBQ.out) (by simp [HLen.out.1]) HLen.out.2 (fun g hg=>Nat.ne_of_lt (HNy.out g hg)) ho5 hg5
    obtain⟨q5,c5,rfl⟩:=bI ho5
    have r2:=hl5.s2
    have r3:=hl5.s3
    have y2:=hl5.fz 2
    have y3:=hl5.fz 3
    have HW5:=hideS hw5
    have HQ6:=hideS hq6
    refine hK5 _ _ ⟨fun _=>⟨hl5.s2,hl5.s3,by rw [← HDe.out];exact hq5.t1⟩,?_⟩
    simp only [Act.put]
    clear ho5 hg5 hl5 hw5 hq5 hq6
    refine bj (i:=11) (by kernel_rfl) ?_
    refine wpOp_step rfl (fun K6 hK6=>?_)
    go_simp
    refine hK6 _ _ ⟨fun h=>absurd h (by decide),?_⟩
    refine bj (i:=12) (by kernel_rfl) ?_
    refine wpOp_step rfl (fun K7 hK7=>?_)
    go_simp
    refine hK7 _ _ ⟨fun h=>absurd h (by decide),?_⟩
    refine bj (i:=13) (by kernel_rfl) ?_
    refine wpOp_step rfl (fun K8 hK8=>?_)
    go_simp
    refine hK8 _ _ ⟨fun h=>absurd h (by decide),?_⟩
    refine mU (by kernel_rfl) ?_
    clear hK1 hK2 hK3 hK6 hK7 hK8 hK5
    obtain⟨w6,hw6⟩:∃ w6,(w5.setCell ⟨B,2,none⟩ (.slice q3 (k+1) c3)).setCell ⟨B,3,none⟩ (.slice q5 (k+1) c5)=w6:=⟨_,rfl⟩
    rw [hw6] at HW5 HQ6 ⊢
    have HW6:Hid (BdW w B base kind W (.slice p rs.length c) (aO qs (k+1)) (k+1) (.slice q3 (k+1) c3) (.slice q5 (k+1) c5) (fs++[4607182418800017408]) w6):=by show BdW _ _ _ _ _ _ _ _ _ _ _ _;rw [HSu.out,HDe.out];exact HW5.out
    clear hw6 HW5 r2 r3 y2 y3 hS3 s2 s3 f2 f3 t1
    obtain⟨g3,d3,he3,hs3,_⟩:=dt (xs:=aO qs (k+1)) HW6.out.x (av _ _) (by omega)
    obtain⟨g5,d5,he5,hs5,_⟩:=bO (xs:=fs++[4607182418800017408]) HW6.out.y (by rw [aI,HLen.out.2]) (by omega)
    injection he3 with he3 _ hd3
    injection he5 with he5 _ hd5
    subst he3 hd3 he5 hd5
    have hmt:=mV HMv.out HOq.out HP.out.1 (by rw [av,HLen.out.2]) (by rw [av];omega) (by rw [HLen.out.2,HEn.out]) HOv.out p b off c g3 c3 g5 c5 w6 (HP.out.2.1.below HW6.out.l.b.bl) (by rw [av];exact hs3) (by rw [HLen.out.2];exact hs5) (fun i hi=>(HIv.out.2 i (by rw [HLen.out.2] at hi;exact hi)).2) (we HW6.out.y _) (lP HW6.out.x HW6.out.y (by decide))
    have HFl:=hideS HLen.out.2
    rw [HLen.out.2] at hmt
    have HMt:=hideS hmt
    have q0:=HQ6.out.t0
    have q1:=HQ6.out.t1
    have q2:=HQ6.out.t2
    have q3':=HQ6.out.t3
    have q4:=HQ6.out.t4
    have u0:=HW6.out.l.s0
    have u1:=HW6.out.l.s1
    have u2:=HW6.out.l.s2
    have u3:=HW6.out.l.s3
    have k0:=HW6.out.l.b.k0
    have k1:=HW6.out.l.b.k1
    clear hmt hs3 hs5
    go_wp2_with fail
    refine HMt.out.mono ?_
    rintro e w7 ⟨rfl,Y,hb7,hY⟩
    have HW7:=hideS (wb HW6.out (by rw [HFl.out];exact hb7))
    clear hb7 HMt q0 q1 q2 q3' q4 u0 u1 u2 u3 k0 k1
    by_cases hz:ME=0
    ·have HE7:=hideS (HFin.out hz)
     have hYX:=hY hz
     subst hz hYX
     have HW8:Hid (BdW w B base kind W (.slice p rs.length c) (aO qs (k+1)) (k+1) (.slice (some ⟨g3,0,none⟩) (k+1) c3) (.slice (some ⟨g5,0,none⟩) (k+1) c5) (aq base kind W rs qs (k+1)).1 w7):=by show BdW _ _ _ _ _ _ _ _ _ _ _ _;rw [HE7.out];exact HW7.out
     have HE8:Hid ((aq base kind W rs qs (k+1)).2.1=0):=by show _=_;rw [HE7.out]
     go_wp2_with fail
     go_roundw
     case rel=>exact⟨k+1,_,_,by omega,by simp,HW8,HE8⟩
     case measure=>simp [intOf];omega
    ·have HE7:=hideS (HBad.out hz)
     have HEN:Hid (aq base kind W rs qs N=([],ME,k)):=by
      show _=_
      obtain⟨dd,hdd⟩:∃ dd,N=k+1+dd:=⟨N - (k+1),by omega⟩
      rw [hdd,HSt.out (by rw [HE7.out];exact hz) dd,HE7.out]
     have HZ:=hideS hz
     have d1:(ME !=0)=true:=bne_iff_ne.2 hz
     have d0:=HW7.out.l.b.d0
     have d1':=HW7.out.l.b.d1
     have d2:=HW7.out.l.b.d2
     have d3:=HW7.out.l.b.d3
     have z0:=HW7.out.l.b.fz 0
     have z1:=HW7.out.l.b.fz 1
     have z2:=HW7.out.l.b.fz 2
     have z3:=HW7.out.l.b.fz 3
     clear hz hY
     go_wp2_with fail
     have hsb:∀ j,w.heap.size≤(⟨w.heap.size+1,j,none⟩:Addr).block:=fun j=>by show w.heap.size≤w.heap.size+1;omega
     refine bodyPost_ret (v:=.tuple #[.agg #[.int .i64 0,.int .i64 0,.slice none 0 0,.slice none 0 0],.int .i64 ME,.int .i64 k]) (by simp [results,Tryz.results12,go_sem,d0,d1',d2,d3]) rfl ?_
     refine⟨Or.inl ?_,(((HW7.out.l.b.bl.setCell (hsb 0) _).setCell (hsb 1) _).setCell (hsb 2) _).setCell (hsb 3) _⟩
     rw [HEN.out]
     exact⟨HZ.out,rfl⟩
  ·obtain rfl:k=N:=by omega
   obtain⟨qx,cx,rfl⟩:=bI HW.out.x
   obtain⟨qy,cy,rfl⟩:=bI HW.out.y
   have u0:=HW.out.l.s0
   have u1:=HW.out.l.s1
   have u2:=HW.out.l.s2
   have u3:=HW.out.l.s3
   have d0:=HW.out.l.b.d0
   have d1:=HW.out.l.b.d1
   have d2:=HW.out.l.b.d2
   have d3:=HW.out.l.b.d3
   have z0:=HW.out.l.b.fz 0
   have z1:=HW.out.l.b.fz 1
   have z2:=HW.out.l.b.fz 2
   have z3:=HW.out.l.b.fz 3
   go_wp2_with fail
   have hsb:∀ j,w.heap.size≤(⟨w.heap.size+1,j,none⟩:Addr).block:=fun j=>by show w.heap.size≤w.heap.size+1;omega
   have hlo:w.heap.size+1<B+1:=by have:=HW.out.l.lo;omega
   refine bodyPost_ret (v:=.tuple #[.agg #[.int .i64 base,.int .i64 kind,.slice qx k cx,.slice qy k cy],.int .i64 0,.int .i64 0]) (by simp [results,Tryz.results12,go_sem,d0,d1,d2,d3]) rfl ?_
   refine⟨Or.inr ⟨HE.out,_,_,rfl,?_,?_,by rw [av];exact HW.out.fn⟩,(((HW.out.l.b.bl.setCell (hsb 0) _).setCell (hsb 1) _).setCell (hsb 2) _).setCell (hsb 3) _⟩
   ·rw [av];exact gB (aS (aS (aS (aS HW.out.x hlo _) hlo _) hlo _) hlo _) (by omega)
   ·rw [av];exact gB (aS (aS (aS (aS HW.out.y hlo _) hlo _) hlo _) hlo _) (by omega)
end Go.Proofs.YtkooknagalgfpaaGreat
namespace Go.Proofs.YtkooknagalgfpaaGreat
open Go.RowKit

set_option maxRecDepth 20000 in
set_option maxHeartbeats 1600000 in
theorem Ce (base kind W E K:Int) (v vq:Value) (w:World) (hE:E≠0)
  (HCk:Hid (∀ wx,Below w.heap.size w wx→Calls Tryz.prog 10 #[.int .i64 base,.int .i64 kind,.agg #[.int .i64 W,v],vq] wx fun e w'=>e=.returned (.tuple #[.int .i64 E,.int .i64 K])∧Below wx.heap.size wx w')) :
  Calls Tryz.prog 12 #[.int .i64 base,.int .i64 kind,.agg #[.int .i64 W,v],vq] w fun e w'=>e=.returned (.tuple #[.agg #[.int .i64 0,.int .i64 0,.slice none 0 0,.slice none 0 0],.int .i64 E,.int .i64 K])∧Below w.heap.size w w':=by
 have HB:=hideS (KN w W v)
 have d9:(E !=0)=true:=bne_iff_ne.2 hE
 clear hE
 go_enter Tryz.func12,Tryz.ntmps12
 go_wp2_with fail
 refine (HCk.out _ HB.out.bl).mono ?_
 rintro e w2 ⟨rfl,hb2⟩
 have HB2:=hideS (HB.out.stay (hb2.mono HB.out.sz))
 have d0:=HB2.out.d0
 have d1:=HB2.out.d1
 have d2:=HB2.out.d2
 have d3:=HB2.out.d3
 have z0:=HB2.out.fz 0
 have z1:=HB2.out.fz 1
 have z2:=HB2.out.fz 2
 have z3:=HB2.out.fz 3
 clear hb2 HCk HB
 go_wp2_with fail
 have hsb:∀ j,w.heap.size≤(⟨w.heap.size+1,j,none⟩:Addr).block:=fun j=>by show w.heap.size≤w.heap.size+1;omega
 refine bodyPost_ret (v:=.tuple #[.agg #[.int .i64 0,.int .i64 0,.slice none 0 0,.slice none 0 0],.int .i64 E,.int .i64 K]) (by simp [results,Tryz.results12,go_sem,d0,d1,d2,d3]) rfl ?_
 exact⟨rfl,(((HB2.out.bl.setCell (hsb 0) _).setCell (hsb 1) _).setCell (hsb 2) _).setCell (hsb 3) _⟩
inductive BuiR (base kind W A:Int) (rs:List Rul) (qs:List Quo):List Nat×Int×Int→Prop
 | bad (E K:Int) (h:Chk13 base kind A qs E K) (hE:E≠0):BuiR base kind W A rs qs ([],E,K)
 | go (h:Chk13 base kind A qs 0 0):BuiR base kind W A rs qs ((aq base kind W rs qs qs.length).1,(aq base kind W rs qs qs.length).2.1,((aq base kind W rs qs qs.length).2.2:Nat))
theorem NO (base kind W A:Int) (rs:List Rul) (qs:List Quo):∃ R,BuiR base kind W A rs qs R:=by
 obtain⟨E,K,h⟩:=GO base kind A qs
 by_cases hE:E=0
 ·subst hE
  have hK:K=0:=by
   obtain⟨F,hF,⟨h0,h1,_⟩| ⟨_,_,_,_,_,_,_,_,hQ⟩⟩:=mR h
   ·exact absurd h1.symm h0
   ·generalize hz:(0:Int)=z at hQ
    cases hQ with
    | fine=>rfl
    | bad k hk e he h0=>exact absurd hz.symm h0
  subst hK
  exact⟨_,.go h⟩
 ·exact⟨_,.bad E K h hE⟩
theorem zN {base kind A:Int} {qs:List Quo} (h:Chk13 base kind A qs 0 0):(∀ i<qs.length,dw (qs.getD i au) (dV base qs i)=0)∧0≤base∧base≤109572∧1≤kind∧kind≤4∧A=0∧1≤qs.length∧qs.length≤64:=by
 obtain⟨F,hF,⟨h0,h1,_⟩| ⟨_,a,b,c,d,e,f,g,hQ⟩⟩:=mR h
 ·exact absurd h1.symm h0
 ·refine⟨?_,a,b,c,d,e,f,g⟩
  generalize hz:(0:Int)=z at hQ
  cases hQ with
  | fine h=>exact h
  | bad k hk e he h0=>exact absurd hz.symm h0
theorem zO {W B:Int} {rs:List Rul} (h:ChkR W rs 0 B):OkC W rs:=by
 generalize hz:(0:Int)=z at h
 cases h with
 | long=>cases hz
 | week=>cases hz
 | rule=>cases hz
 | ok h=>exact h
theorem ku (base kind W A B:Int) (p pq:Option Addr) (b off c bq oq cq:Nat) (rs:List Rul) (qs:List Quo) (w:World) (hA:ChkR W rs A B) (hs:RSrc w p b off rs) (hl:rs.length≤9223372036854775807) (hq:QSrc w pq bq oq qs) {R:List Nat×Int×Int} (hR:BuiR base kind W A rs qs R) :
  Calls Tryz.prog 12 #[.int .i64 base,.int .i64 kind,.agg #[.int .i64 W,.slice p rs.length c],.slice pq qs.length cq] w fun e w'=>NM w base kind (aO qs qs.length) R e w'∧Below w.heap.size w w':=by
 cases hR with
 | bad E K h hE=>
  exact (Ce base kind W E K _ _ w hE (fun wx hb=>kt base kind W A B E K p pq b off c bq oq cq rs qs wx hA (hs.below hb) hl (hq.below hb) h)).mono fun e w' ⟨h1,h2⟩=>⟨Or.inl ⟨hE,h1⟩,h2⟩
 | go h=>
  obtain⟨hf,b0,b1,k1,k4,rfl,lo,hi⟩:=zN h
  obtain rfl:=hq.at_ (by omega)
  exact Gf base kind W p b off c bq oq cq qs.length rs qs w (zO hA) hs hq rfl hi b0 b1 k1 k4 hf (fun wx hb=>kt base kind W 0 B 0 0 p _ b off c bq oq cq rs qs wx hA (hs.below hb) hl (hq.below hb) h)
end Go.Proofs.YtkooknagalgfpaaGreat
namespace Go.Proofs.YtkooknagalgfpaaGreat
open Go.RowKit

def awQ:Quo:=⟨1,360,1,0,1048576000⟩
theorem zP:dblW 1048576000=4598175219545276416:=by
 have h:=me (b:=1048576000) (by decide)
 have h2:floatToFloatBits .f32 1048576000 .f64=some 4598175219545276416:=by kernel_rfl
 exact Option.some.inj (h.symm.trans h2)
theorem awQ_ok:OkQ 0 awQ:=⟨Or.inl ⟨rfl,rfl⟩,by show finB ((dblW 1048576000:Nat):Int)=true;rw [zP];decide,by decide,by decide,by decide,by decide,by decide⟩
theorem wg:∀ i<1,dw ([awQ].getD i au) (dV 0 [awQ] i)=0:=fun i hi=>by
 obtain rfl:i=0:=by omega
 exact CC awQ_ok
theorem PN:yW 360 360=4607182418800017408:=by kernel_rfl
theorem KR:sf 0 [] awQ 0 360=4607182418800017408:=by
 have:eO (opB 0 []) awQ.count 0 360=360:=by
  unfold eO iq
  show (if (360:Int)<0 then _ else if (1:Int)=1∨(1:Int)=2 then (360:Int) - 0 else _)=360
  rw [if_neg (by decide),if_pos (Or.inl rfl)]
  rfl
 unfold sf
 rw [this]
 exact PN
theorem NP:uS 0 [] awQ 0 360=4598175219545276416:=by
 have h:=AP 0 [] (q:=awQ) (a:=0) (b:=360) awQ_ok.fn (by unfold ag;omega) (by unfold ag;omega)
 rw [KR] at h
 have e:dblW awQ.rate=4598175219545276416:=zP
 rw [e] at h
 have h2:floatBits .mul .f64 4598175219545276416 4607182418800017408=some 4598175219545276416:=by kernel_rfl
 exact Option.some.inj (h.symm.trans h2)
theorem PO:floatBits .add .f64 4607182418800017408 4598175219545276416=some 4608308318706860032:=by kernel_rfl
noncomputable def fcA (a:Nat):Nat:=facV 0 2 [360] ([]++[a]) 360
theorem wh {a:Nat} (h:cL a=true):fcA a=a:=by
 have ok:OkV 0 2 (aO [awQ] 1) ([]++[a]):=lW (qs:=[awQ]) (N:=1) (k:=0) (fs:=[]) (by decide) (by decide) (by decide) (by decide) (by decide) wg (by decide) rfl (fun i hi=>by omega) h
 exact (FD ok (i:=0) (by decide)).1
theorem NQ {a:Nat} (h:¬ cL a=true):fcA a=0:=by
 have hf:=fH 0 2 [360] ([]++[a]) 360
 unfold fcA
 generalize facV 0 2 [360] ([]++[a]) 360=V at hf
 generalize ss 0 2 [360] ([]++[a]) 360=E at hf
 cases hf with
 | bad=>rfl
 | ok ok=>
  exfalso
  obtain⟨_,_,h1,h2⟩:=gw (ok.node 0 (by decide))
  apply h
  unfold cL
  have e1:finB ((a:Nat):Int)=true:=h1
  have e2:ltB 0 ((a:Nat):Int)=true:=h2
  rw [e1,e2];rfl
noncomputable def gA (f:Nat):Option Nat:=opO .sub (opO .mul (some f) (some 4608308318706860032)) (some 4607182418800017408)
theorem wi (a:Nat):iZ 0 2 0 [] [360] [] awQ [0,360] 1 0 a=gA (fcA a):=by
 have hk:awQ.kind=1:=rfl
 have hf:awQ.fin=360:=rfl
 have h0:([0,360]:List Int).getD (0+0) 0=0:=rfl
 have h1:([0,360]:List Int).getD (0+0+1) 0=360:=rfl
 have ha:(aP 0 [] awQ [0,360] (0+0)).am=uS 0 [] awQ 0 360:=by
  unfold aP
  dsimp only
  rw [h0,h1]
 have e2:opO .add (some 4607182418800017408) (some 4598175219545276416)=some 4608308318706860032:=PO
 unfold iZ
 rw [hk,hf,show (1 - 0:Nat)=0+1 from rfl,lS]
 rw [ha,NP,e2]
 unfold gA fcA
 rfl
theorem cG {a:Nat} (h:a<9218868437227405312):ah a:=by unfold ah;omega
theorem dT {a:Nat} (h:a≤9218868437227405312):aa (a:Int)=a∧af (a:Int)=false:=by
 obtain⟨h1,_,h3⟩:=iS h
 exact⟨h1,h3⟩
theorem Ds (f:Nat) (hf:f<9218868437227405312):∃ v,(gA f).bind rkO=some v:=by
 obtain⟨m,hm,rm,lm,nm⟩:=dq (x:=f) (y:=4608308318706860032) (cG hf) (cG (by decide))
 have h0:0≤aa (m:Int):=by
  have:=Bw (x:=f) (y:=4608308318706860032) (x':=f) (y':=4608308318706860032) (cG hf) (cG hf) (cG (by decide)) (cG (by decide)) ?_ ?_ (Int.le_refl _) (Int.le_refl _) hm hm
  ·exact this.1
  ·have:=(aN (a:=0) (b:=f) (cG (by decide)) (cG hf) (by decide) (by omega)).1 (by rw [(dT (a:=f) (by omega)).1,(dT (a:=0) (by omega)).1];omega)
   have z:vI 0=0:=by decide
   omega
  ·have:=(aN (a:=0) (b:=4608308318706860032) (cG (by decide)) (cG (by decide)) (by decide) (by decide)).1 (by decide)
   have z:vI 0=0:=by decide
   omega
 have hg:gA f=opO .sub (some m) (some 4607182418800017408):=by
  unfold gA
  have:opO .mul (some f) (some 4608308318706860032)=some m:=hm
  rw [this]
 rw [hg]
 by_cases c:aa (m:Int)<9218868437227405312
 ·obtain⟨s,hs,rs,ls,ns⟩:=iT (x:=m) (y:=4607182418800017408) (iU ⟨rfl,lm,nm⟩ (by omega) c) (cG (by decide))
  have:opO .sub (some m) (some 4607182418800017408)=some s:=hs
  rw [this]
  exact⟨_,lM ns⟩
 ·have hm2:m=9218868437227405312:=by
   have h1:=jg (m:Int)
   have e:aa (m:Int)=9218868437227405312:=by omega
   unfold aa at e
   rw [nm,if_neg (by simp)] at e
   unfold sgB szI at e
   by_cases d:9223372036854775808≤(m:Int)
   ·rw [decide_eq_true d,if_pos rfl] at e;omega
   ·rw [decide_eq_false d,if_neg (by simp)] at e;omega
  rw [hm2]
  have:opO .sub (some 9218868437227405312) (some 4607182418800017408)=some 9218868437227405312:=by
   show floatBits .sub .f64 9218868437227405312 4607182418800017408=some 9218868437227405312
   kernel_rfl
  rw [this]
  exact⟨_,lM (by decide)⟩
theorem Oi {a b s t:Nat} (ha:a≤b) (hb:b≤4652218415073722368) (hs:gA a=some s) (ht:gA b=some t):aa (s:Int)≤aa (t:Int):=by
 have hv:∀ {x:Nat},x≤4652218415073722368→0≤vI x:=fun {x} hx=>by
  have:=(aN (a:=0) (b:=x) (cG (by decide)) (cG (by omega)) (by decide) (by omega)).1 (by rw [(dT (a:=x) (by omega)).1,(dT (a:=0) (by omega)).1];omega)
  have z:vI 0=0:=by decide
  omega
 have hab:vI a≤vI b:=(aN (cG (by omega)) (cG (by omega)) (by omega) (by omega)).1 (by rw [(dT (a:=a) (by omega)).1,(dT (a:=b) (by omega)).1];omega)
 obtain⟨m,hm,rm,lm,nm⟩:=dq (x:=a) (y:=4608308318706860032) (cG (by omega)) (cG (by decide))
 obtain⟨k,hk,rk,lk,nk⟩:=dq (x:=b) (y:=4608308318706860032) (cG (by omega)) (cG (by decide))
 obtain⟨z,hz,rz,lz,nz⟩:=dq (x:=4652218415073722368) (y:=4608308318706860032) (cG (by decide)) (cG (by decide))
 have hc:0≤vI 4608308318706860032:=hv (by decide)
 obtain⟨m0,mk⟩:=Bw (cG (show a<9218868437227405312 by omega)) (cG (show b<9218868437227405312 by omega)) (cG (by decide)) (cG (by decide)) (hv (by omega)) hc hab (Int.le_refl _) hm hk
 obtain⟨_,kz⟩:=Bw (cG (show b<9218868437227405312 by omega)) (cG (show 4652218415073722368<9218868437227405312 by decide)) (cG (by decide)) (cG (by decide)) (hv (by omega)) hc ((aN (cG (by omega)) (cG (by decide)) (by omega) (by decide)).1 (by rw [(dT (a:=b) (by omega)).1,(dT (a:=4652218415073722368) (by decide)).1];omega)) (Int.le_refl _) hk hz
 have hz2:floatBits .mul .f64 4652218415073722368 4608308318706860032=some 4653344314980564992:=by kernel_rfl
 have ez:z=4653344314980564992:=Option.some.inj (hz.symm.trans hz2)
 rw [ez,(dT (a:=4653344314980564992) (by decide)).1] at kz
 have nm':ah m:=iU ⟨rfl,lm,nm⟩ (by omega) (by omega)
 have nk':ah k:=iU ⟨rfl,lk,nk⟩ (by omega) (by omega)
 have hsm:floatBits .sub .f64 m 4607182418800017408=some s:=by
  have:gA a=opO .sub (opO .mul (some a) (some 4608308318706860032)) (some 4607182418800017408):=rfl
  have e:opO .mul (some a) (some 4608308318706860032)=some m:=hm
  rw [this,e] at hs
  exact hs
 have htk:floatBits .sub .f64 k 4607182418800017408=some t:=by
  have:gA b=opO .sub (opO .mul (some b) (some 4608308318706860032)) (some 4607182418800017408):=rfl
  have e:opO .mul (some b) (some 4608308318706860032)=some k:=hk
  rw [this,e] at ht
  exact ht
 exact Ps nm' nk' (cG (by decide)) ((aN nm' nk' lm lk).1 mk) hsm htk
theorem Oj {a:Nat} (h:a≤4652218415073722368):∃ s,gA a=some s∧af (s:Int)=false∧(gA a).bind rkO=some (aa (s:Int)):=by
 obtain⟨v,hv⟩:=Ds a (by omega)
 cases hg:gA a with
 | none=>rw [hg] at hv;cases hv
 | some s=>
  rw [hg] at hv
  have hv':rkO s=some v:=hv
  obtain⟨h1,h2⟩:=lL hv'
  exact⟨s,rfl,h1,by show rkO s=_;rw [hv',h2]⟩
theorem PP {a:Nat} (h:a≤4605335942952795505):∃ v,(gA a).bind rkO=some v∧v<0:=by
 obtain⟨s,hs,_,e⟩:=Oj (a:=a) (by omega)
 have ht:gA 4605335942952795505=some 13797227818412251520:=by
  show opO .sub (floatBits .mul .f64 4605335942952795505 4608308318706860032) (some 4607182418800017408)=_
  kernel_rfl
 exact⟨_,e,Int.lt_of_le_of_lt (Oi h (by decide) hs ht) (by decide)⟩
theorem NR {a:Nat} (h:4605426014945342915≤a) (h2:a≤4652218415073722368):∃ v,(gA a).bind rkO=some v∧0<v:=by
 obtain⟨s,hs,_,e⟩:=Oj h2
 have ht:gA 4605426014945342915=some 4573855781557475840:=by
  show opO .sub (floatBits .mul .f64 4605426014945342915 4608308318706860032) (some 4607182418800017408)=_
  kernel_rfl
 exact⟨_,e,Int.lt_of_lt_of_le (by decide) (Oi h h2 ht hs)⟩
theorem PQ (a:Nat):fcA a<9218868437227405312:=by
 by_cases c:cL a=true
 ·rw [wh c]
  unfold cL at c
  rw [Bool.and_eq_true] at c
  have h1:=tj c.1
  have h2:=c.2
  unfold ltB at h2
  simp only [Bool.and_eq_true,Bool.not_eq_true',decide_eq_true_eq] at h2
  obtain⟨⟨_,hn⟩,hr⟩:=h2
  have r0:aa 0=0:=by decide
  rw [r0] at hr
  unfold aa at hr
  rw [hn,if_neg (by simp)] at hr
  unfold sgB szI at hr
  by_cases d:9223372036854775808≤(a:Int)
  ·rw [decide_eq_true d,if_pos rfl] at hr;omega
  ·omega
 ·rw [NQ c];decide
theorem QT (a:Nat):∃ v,(iZ 0 2 0 [] [360] [] awQ [0,360] 1 0 a).bind rkO=some v:=by
 rw [wi]
 exact Ds _ (PQ a)
theorem zQ {a:Nat} (h0:0<a) (h1:a≤4652218415073722368):cL a=true:=(io (a:=a) (r:=a) ⟨by unfold U64;omega,(dT (by omega)).2,(dT (by omega)).1⟩ (by omega) (by omega)).2
theorem KS {a:Nat} (h0:0<a) (h:a≤4605335942952795505):∃ v,(iZ 0 2 0 [] [360] [] awQ [0,360] 1 0 a).bind rkO=some v∧v<0:=by
 rw [wi,wh (zQ h0 (by omega))]
 exact PP h
theorem Dt {a:Nat} (h:4605426014945342915≤a) (h2:a≤4652218415073722368):∃ v,(iZ 0 2 0 [] [360] [] awQ [0,360] 1 0 a).bind rkO=some v∧0<v:=by
 rw [wi,wh (zQ (by omega) h2)]
 exact NR h h2
theorem PR {E:Int} {X:Nat} (h:MetR 0 2 0 [] [360] [] awQ E X):E=0∧4605335942952795505≤X∧X≤4605426014945342915:=by
 have hk:awQ.kind=1:=rfl
 cases h with
 | cut E L h hE=>
  cases h with
  | dep=>exact absurd rfl hE
  | long K h2=>rw [hk] at h2;omega
  | swap=>exact absurd rfl hE
 | root L n M X N E hc hF hM hV=>
  have hL:L=[0,360]:=by
   generalize hz:(0:Int)=z at hc
   cases hc with
   | dep=>rfl
   | long=>cases hz
   | swap K h2=>rw [hk] at h2;omega
  subst hL
  have hn:n=1:=by have:=hF.len;simp at this;omega
  subst hn
  have hM0:M=0:=by have:=hM.lt;omega
  subst hM0
  obtain⟨a,ha,a0⟩:=KS (a:=4472074429978902528) (by decide) (by decide)
  obtain⟨b,hb,b0⟩:=Dt (a:=4652218415073722368) (by decide) (by decide)
  have hT:=QT
  have hlo:=fun (x:Nat) h0 h=>KS (a:=x) h0 h
  have hhi:=fun (x:Nat) h h2=>Dt (a:=x) h h2
  generalize hFd:(fun a=>(iZ 0 2 0 [] [360] [] awQ [0,360] 1 0 a).bind rkO)=F at hV
  have hFa:∀ x,F x=(iZ 0 2 0 [] [360] [] awQ [0,360] 1 0 x).bind rkO:=fun x=>by rw [← hFd]
  rw [← hFa] at ha hb
  have r1:aa ((4472074429978902528:Nat):Int)=4472074429978902528:=by decide
  have r2:aa ((4652218415073722368:Nat):Int)=4652218415073722368:=by decide
  have gl:Gd 4472074429978902528 4472074429978902528:=⟨by unfold U64;omega,by decide,r1⟩
  have gh:Gd 4652218415073722368 4652218415073722368:=⟨by unfold U64;omega,by decide,r2⟩
  have ua:upB a=false:=decide_eq_false (by omega)
  have ub:upB b=true:=decide_eq_true b0
  rw [jz ha hb,if_neg (by omega),if_neg (by omega),if_neg (by rw [ua,ub];decide),ua] at hV
  injection hV with e1 e2
  injection e2 with e2 e3
  have hz:=mL F false 64 4472074429978902528 4652218415073722368 _ _ gl gh (by omega) (by decide) ⟨a,ha,by omega,ua⟩ ⟨b,hb,by omega,by rw [ub];decide⟩
  rw [e1,e3] at hz
  rcases hz.2 with⟨_,_,c,hc'⟩| ⟨z1,x,gx,x1,x2,z2⟩
  ·obtain⟨v,hv⟩:=hT c
   rw [hFa,hv] at hc'
   cases hc'
  ·obtain⟨ex,_⟩:=io gx (by omega) (by omega)
   refine⟨z1,?_,?_⟩
   ·rcases z2 with z2 | ⟨v,c,z,p1,p2,p3,p4,p5,p6,p7,p8⟩
    ·rcases Nat.lt_or_ge X 4605335942952795505 with d | d
     ·obtain⟨v,hv,hv0⟩:=hlo X (by omega) (by omega)
      rw [hFa,hv] at z2
      injection z2 with z2
      omega
     ·exact d
    ·rcases Nat.lt_or_ge X 4605335942952795505 with d | d
     ·obtain⟨ec,_⟩:=io p4 (by omega) (by omega)
      obtain⟨v',hv,hv0⟩:=hlo c (by omega) (by omega)
      rw [hFa,hv] at p6
      injection p6 with p6
      have:upB z=false:=decide_eq_false (by omega)
      exact absurd this p8
     ·exact d
   ·rcases z2 with z2 | ⟨v,c,z,p1,p2,p3,p4,p5,p6,p7,p8⟩
    ·rcases Nat.lt_or_ge 4605426014945342915 X with d | d
     ·obtain⟨v,hv,hv0⟩:=hhi X (by omega) (by omega)
      rw [hFa,hv] at z2
      injection z2 with z2
      omega
     ·exact d
    ·rcases Nat.lt_or_ge 4605426014945342915 X with d | d
     ·obtain⟨v',hv,hv0⟩:=hhi X (by omega) (by omega)
      rw [hFa,hv] at p1
      injection p1 with p1
      have:upB v=true:=decide_eq_true (by omega)
      rw [this] at p3
      cases p3
     ·exact d
theorem PS:∃ X,aq 0 2 0 [] [awQ] 1=([X],0,0)∧4605335942952795505≤X∧X≤4605426014945342915:=by
 have okv:OkV 0 2 (aO [awQ] 1) ([]++[4607182418800017408]):=lW (qs:=[awQ]) (N:=1) (k:=0) (fs:=[]) (by decide) (by decide) (by decide) (by decide) (by decide) wg (by decide) rfl (fun i hi=>by omega) (by decide)
 have hm:MetR 0 2 0 [] (aO [awQ] 1) [] ([awQ].getD 0 au) (fy 0 2 0 [] (aO [awQ] 1) [] ([awQ].getD 0 au)).1 (fy 0 2 0 [] (aO [awQ] 1) [] ([awQ].getD 0 au)).2:=oE awQ_ok (wc okv)
 obtain⟨e,h1,h2⟩:=PR hm
 exact⟨_,rN (base:=0) (kind:=2) (W:=0) (rs:=[]) (qs:=[awQ]) (k:=0) rfl e,h1,h2⟩
end Go.Proofs.YtkooknagalgfpaaGreat
namespace Go.Proofs.YtkooknagalgfpaaGreat
open Go.RowKit

theorem PT:Chk13 0 2 0 [awQ] 0 0:=.quo (by decide) (by decide) (by decide) (by decide) rfl (by decide) (by decide) 0 0 (.fine wg)
theorem Du:ChkR 0 ([]:List Rul) 0 0:=.ok Dp
theorem Dv (w:World):RSrc w none 0 0 ([]:List Rul):=⟨fun hx=>by simp at hx,fun hx=>by simp at hx,fun j hj=>by simp at hj⟩
theorem PU (w:World):QSrc (w.alloc (.cells #[.int .i64 1,.int .i64 360,.int .i64 1,.int .i64 0,.float .f32 1048576000] 45)) (some ⟨w.heap.size,0,none⟩) w.heap.size 0 [awQ]:=by
 refine⟨fun _=>rfl,fun _=>by simp,fun i hi=>?_⟩
 obtain rfl:i=0:=by simpa using hi
 exact⟨by simp;rfl,by simp;rfl,by simp;rfl,by simp;rfl,by simp;rfl⟩
theorem zR {w:World} {R:List Nat×Int×Int} {base kind:Int} {ds:List Int} {e:Ending} {w':World} (h:NM w base kind ds R e w') (h0:R.2.1=0) (hn:0<ds.length):∃ g c g' c',e=.returned (.tuple #[.agg #[.int .i64 base,.int .i64 kind,.slice (some ⟨g,0,none⟩) ds.length c,.slice (some ⟨g',0,none⟩) ds.length c'],.int .i64 0,.int .i64 0])∧VSrc w' (some ⟨g,0,none⟩) g 0 ds.length (xV ds)∧VSrc w' (some ⟨g',0,none⟩) g' 0 ds.length (flV R.1)∧w.heap.size≤g∧w.heap.size≤g'∧ds.length≤c∧ds.length≤c':=by
 rcases h with⟨h1,_⟩| ⟨_,vX,vY,he,hx,hy,hl⟩
 ·exact absurd h0 h1
 ·obtain⟨g,c,rfl,s1,b1,c1,_⟩:=dt (xs:=ds) hx rfl hn
  obtain⟨g',c',rfl,s2,b2,c2,_⟩:=bO (xs:=R.1) hy hl hn
  exact⟨g,c,g',c',he,s1,s2,b1,b2,c1,c2⟩
set_option maxRecDepth 20000 in
set_option maxHeartbeats 3200000 in
theorem Dw (w:World):Calls Tryz.prog 9 #[] w fun e w'=>e=.returned (.bool true)∧Below w.heap.size w w':=by
 obtain⟨X,hX,x1,x2⟩:=PS
 have hR:BuiR 0 2 0 0 [] [awQ] ([X],0,0):=by
  have:=BuiR.go (W:=0) (rs:=[]) PT
  have e:[awQ].length=1:=rfl
  rw [e,hX] at this
  exact this
 have H0:=hideS ((Below.refl _ w).alloc (Nat.le_refl _) (.cells #[.int .i64 1,.int .i64 360,.int .i64 1,.int .i64 0,.float .f32 1048576000] 45))
 have H1:=hideS (ku 0 2 0 0 0 none (some ⟨w.heap.size,0,none⟩) 0 0 0 w.heap.size 0 1 [] [awQ] _ Du (Dv _) (by decide) (PU w) hR)
 have H2:=hideS fun wx=>ku 0 2 0 0 0 none none 0 0 0 0 0 0 [] [] wx Du (Dv _) (by decide) ⟨fun hx=>by simp at hx,fun hx=>by simp at hx,fun j hj=>by simp at hj⟩ (.bad 100 (-1) (.none (by decide) (by decide) (by decide) (by decide) rfl rfl) (by decide))
 have hu:U64 (X:Int):=by unfold U64;omega
 have o1:=cI (a:=X) (b:=4605290906956521800) hu (by unfold U64;omega) (dT (by omega)).2 (by decide)
 have o2:=eA (a:=X) (b:=4605471050941616620) hu (by unfold U64;omega) (dT (by omega)).2 (by decide)
 rw [(dT (a:=X) (by omega)).1,(dT (a:=4605290906956521800) (by decide)).1,decide_eq_true (by omega)] at o1
 rw [(dT (a:=X) (by omega)).1,(dT (a:=4605471050941616620) (by decide)).1,decide_eq_true (by omega)] at o2
 clear hX x1 x2 hR hu
 go_enter Tryz.func9,Tryz.ntmps9
 go_wp2_with fail
 refine H1.out.mono ?_
 rintro e w2 ⟨hb,hb2⟩
 have hbt:=zR hb rfl (by decide)
 rw [show (aO [awQ] [awQ].length).length=1 from rfl] at hbt
 obtain⟨g,c,g',c',rfl,s1,s2,b1,b2,c1,c2⟩:=hbt
 have HB2:=hideS (H0.out.trans (hb2.mono H0.out.size))
 have HS2:=hideS s2
 have HV:=hideS (bX w2 0 2 (.slice (some ⟨g,0,none⟩) 1 c) (.slice (some ⟨g',0,none⟩) 1 c'))
 clear hb hb2 s1 s2 b1 b2 H1 H0
 go_wp2_with fail
 refine (H2.out _).mono ?_
 rintro e w3 ⟨⟨_,rfl⟩| ⟨hz,_⟩,hb3⟩
 ·have HV3:=hideS fun o=>(HV.out.step hb3).step ((Below.refl _ w3).alloc (Nat.le_refl _) o)
  have t2:=fun o=>(HV3.out o).t2
  have t3:=fun o=>(HV3.out o).t3
  have hc:∀ o,(w3.alloc o).cell? ⟨g',0,none⟩=some (.float .f64 X):=fun o=>(HS2.out.below (HV3.out o).bl).cell 0 (by decide)
  have HB4:=hideS fun o=>(HB2.out.trans ((HV3.out o).bl.mono HB2.out.size))
  clear hb3 H2 HV HB2 HS2 HV3 c1 c2
  dsimp only at *
  go_wp2_with fail
  go_ret
  exact⟨rfl,HB4.out _⟩
 ·cases hz
end Go.Proofs.YtkooknagalgfpaaGreat
