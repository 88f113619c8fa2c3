/-  -/
import Derived.Test.YtpddmnmhdahnlaaGreatHbv
import Derived.Test.YtpddmnmhdahnlaaGreatHbu
import Derived.Test.YtpddmnmhdahnlaaGreatHat
import Derived.Test.YtpddmnmhdahnlaaGreatHbe
import Derived.Test.YtpddmnmhdahnlaaGreatHbt
import Derived.Test.YtpddmnmhdahnlaaGreatHbd
import Derived.Test.YtpddmnmhdahnlaaGreatHbs
import Derived.Deep.QuietTactic
import Derived.Test.YtpddmnmhdahnlaaGreatHbp
namespace Go.Proofs.YtpddmnmhdahnlaaGreat
open Go.RowKit

noncomputable def prV (l:List Flw) (cur:Int) (c:Cv):Nat:=(tv l cur c).choose
noncomputable def prE (l:List Flw) (cur:Int) (c:Cv):Int:=(tv l cur c).choose_spec.choose
theorem prR (l:List Flw) (cur:Int) (c:Cv):PreR l cur c (prV l cur c) (prE l cur c):=(tv l cur c).choose_spec.choose_spec
theorem Hg {l:List Flw} {cur:Int} {c:Cv} {V V':Nat} {E E':Int} (h:PreR l cur c V E) (h':PreR l cur c V' E'):V=V'∧E=E':=by
 cases h with
 | bad E h hE=>cases h' with
  | bad E' h' hE'=>exact⟨rfl,eC h h'⟩
  | ok h'=>exact absurd ((rM h).2 h') hE
 | ok h=>exact⟨(rN h' h).1.symm,(rN h' h).2.symm⟩
theorem ML {l:List Flw} {cur:Int} {c:Cv} {V:Nat} {E:Int} (h:PreR l cur c V E):prV l cur c=V∧prE l cur c=E:=Hg (prR l cur c) h
theorem lC {l:List Flw} {cur:Int} {c:Cv} (h:prE l cur c=0):FineP l cur c∧prV l cur c=iV (wsI cur c l)∧aH (prV l cur c:Nat)=true∧prV l cur c<18446744073709551616:=by
 have hp:=prR l cur c
 rw [h] at hp
 obtain⟨a,b,d⟩:=CF hp
 exact⟨a,b,d,by rw [b];exact AD _⟩
noncomputable def chO (l:List Flw) (cur:Int) (d:Cv) (V0:Nat):Nat:=(floatBits .sub .f64 (prV l cur d) V0).getD 0
noncomputable def chV (l:List Flw) (cur:Int) (d:Cv) (V0:Nat):Nat:=if prE l cur d=0 then mr (chO l cur d V0) else 0
noncomputable def chE (l:List Flw) (cur:Int) (d:Cv) (V0:Nat):Int:=if prE l cur d=0 then ms (chO l cur d V0) else prE l cur d
theorem LV {l:List Flw} {cur:Int} {d:Cv} {V0:Nat} (h:prE l cur d=0) (h0:aH (V0:Int)=true):floatBits .sub .f64 (prV l cur d) V0=some (chO l cur d V0)∧RkW (chO l cur d V0) (fE (vI (prV l cur d) - vI V0) (-1074)):=by
 obtain⟨r,e,k⟩:=nX (bJ (lC h).2.2.1) (bJ h0)
 unfold chO
 rw [e];exact⟨rfl,k⟩
noncomputable def qz (l:List Flw) (cur:Int) (d:Cv) (V0:Nat) (E:Int):Nat:=if E=0 then chV l cur d V0 else 0
noncomputable def qA (l:List Flw) (cur:Int) (d:Cv) (V0:Nat) (E:Int):Int:=if E=0 then chE l cur d V0 else E
noncomputable def LW (l:List Flw) (cur:Int) (d:Cv) (E:Int):Nat:=if E=0 then prV l cur d else 0
noncomputable def LX (l:List Flw) (cur:Int) (d:Cv) (E:Int):Int:=if E=0 then prE l cur d else E
theorem BmC.later {fN:Nat} {cap:Array Value} {base kind E:Int} {vd vf:Value} {w wx:World} {d:Cv} (h:BmC fN cap base kind vd vf w d E) (hb:Below w.heap.size w wx):BmC fN cap base kind vd vf wx d E:=fun wy hy=>h wy (hb.trans (hy.mono hb.size))
theorem xd (fN:Nat) (cap:Array Value) (l:List Flw) (d:Cv) (E cur base kind:Int) (pl:Option Addr) (bl ol cl N:Nat) (vd vf:Value) (V0:Nat) (w:World) (hen:∀ args w,(callFunc fN args).run Tryz.prog w=.ok (.enter fN args) w) (HC:BmC fN cap base kind vd vf w d E) (hl:JSrc aF w pl bl ol l) (hN:l.length=N) (hNb:N≤30000) (hf:gI l) :
  Calls Tryz.prog 51 #[.agg #[.slice pl N cl,.int .i64 cur,.int .i64 base,.int .i64 kind,vd,vf,.float .f64 V0],.func (.func fN) #[] cap] w fun e w'=>e=.returned (.tuple #[.float .f64 (LW l cur d E),.int .i64 (LX l cur d E)])∧Below w.heap.size w w':=by
 unfold LW LX
 by_cases hE:E=0
 ·subst hE
  rw [if_pos rfl,if_pos rfl]
  exact zp fN cap l d (prE l cur d) cur base kind pl bl ol cl N vd vf V0 (prV l cur d) w hen HC (prR l cur d) hl hN hNb hf
 ·rw [if_neg hE,if_neg hE]
  exact xc fN cap d E cur base kind _ vd vf V0 w hE hen HC
theorem mp (fN:Nat) (cap:Array Value) (l:List Flw) (d:Cv) (E cur base kind:Int) (pl:Option Addr) (bl ol cl N:Nat) (vd vf:Value) (V0:Nat) (w:World) (h0:aH (V0:Int)=true) (hen:∀ args w,(callFunc fN args).run Tryz.prog w=.ok (.enter fN args) w) (HC:BmC fN cap base kind vd vf w d E) (hl:JSrc aF w pl bl ol l) (hN:l.length=N) (hNb:N≤30000) (hf:gI l) :
  Calls Tryz.prog 48 #[.agg #[.slice pl N cl,.int .i64 cur,.int .i64 base,.int .i64 kind,vd,vf,.float .f64 V0],.func (.func fN) #[] cap] w fun e w'=>e=.returned (.tuple #[.float .f64 (qz l cur d V0 E),.int .i64 (qA l cur d V0 E)])∧Below w.heap.size w w':=by
 have HB:=fun wx (hb:Below w.heap.size w wx)=>xd fN cap l d E cur base kind pl bl ol cl N vd vf V0 wx hen (HC.later hb) (hl.below hb) hN hNb hf
 unfold qz qA
 unfold LW LX at HB
 by_cases hE:E=0
 ·subst hE
  rw [if_pos rfl,if_pos rfl]
  simp only [if_true] at HB
  unfold chV chE
  by_cases hp:prE l cur d=0
  ·rw [if_pos hp,if_pos hp]
   rw [hp] at HB
   obtain⟨hx,hk⟩:=LV hp h0
   exact zq _ _ vd vf cur base kind V0 _ _ w hx hk.2.1 HB
  ·rw [if_neg hp,if_neg hp]
   exact mn _ _ vd vf _ cur base kind V0 _ w hp HB
 ·rw [if_neg hE,if_neg hE]
  simp only [hE,if_false] at HB
  exact mn _ _ vd vf _ cur base kind V0 _ w hE HB

def LsO (w:World) (n:Nat) (X:Nat→Nat) (EE:Nat→Int) (e:Ending) (w':World):Prop:=
 (∃ k<n,EE k≠0∧(∀ j<k,EE j=0)∧e=.returned (.tuple #[.slice none 0 0,.int .i64 (EE k)]))∨
 ((∀ k<n,EE k=0)∧∃ g,e=.returned (.tuple #[.slice (some ⟨g,0,none⟩) n n,.int .i64 0])∧w'.ownsRow w.heap.size 26 1 (.slice (some ⟨g,0,none⟩) n n) n (((List.range n).map X).map fV))
theorem Hh (X:Nat→Nat) {n k:Nat} (h:k<n):((List.range n).map X).getD k 0=X k:=by
 rw [List.getD_eq_getElem?_getD,List.getElem?_map,List.getElem?_range h];rfl
theorem Dc (N:Nat) (hN:N≤1000):∃ z,∀ w:World,(Instr.makeSlice 23 (.int .i64 (N:Int)) (.int .i64 (N:Int))).run Tryz.prog w=.ok (.slice (some ⟨w.heap.size,0,none⟩) N N) (w.alloc (.cells (madeCells z N) 26)):=by
 obtain⟨i0,hi,hz0,hz1,hz2⟩:=info_parts ij
 refine⟨(Value.float .f64 0).cells,fun w=>?_⟩
 have:=run_make (P:=Tryz.prog) w 23 26 i0 _ Tryz.underlying23 hi hz0 .i64 .i64 (N:Int) (N:Int) (by omega) (by omega) (by rw [hz2];omega) (by omega)
 rw [hz1,Nat.mul_one,Int.toNat_natCast] at this
 exact this
def BoC (gN:Nat) (gcap:Array Value) (n:Nat) (X:Nat→Nat) (EE:Nat→Int) (pos:Array Value) (w:World):Prop:=
 ∀ k<n,∀ wx,Below w.heap.size w wx→Calls Tryz.prog gN (#[.int .i64 (k:Nat)]++gcap) wx fun e w'=>(∃ fN cap,e=.returned (.func (.func fN) #[] cap)∧∀ wy,Below w'.heap.size w' wy→Calls Tryz.prog 48 #[.agg pos,.func (.func fN) #[] cap] wy fun e w''=>e=.returned (.tuple #[.float .f64 (X k),.int .i64 (EE k)])∧Below wy.heap.size wy w'')∧Below wx.heap.size wx w'
set_option maxRecDepth 20000 in
set_option maxHeartbeats 6400000 in
theorem tE (gN:Nat) (gcap:Array Value) (n:Nat) (X:Nat→Nat) (EE:Nat→Int) (v0 vd vf:Value) (cur base kind:Int) (V0:Nat) (w:World) (hn:n≤255) (hen:∀ args w,(callFunc gN args).run Tryz.prog w=.ok (.enter gN args) w) (HG:Hid (BoC gN gcap n X EE #[v0,.int .i64 cur,.int .i64 base,.int .i64 kind,vd,vf,.float .f64 V0] w)) :
  Calls Tryz.prog 42 #[.agg #[v0,.int .i64 cur,.int .i64 base,.int .i64 kind,vd,vf,.float .f64 V0],.int .i64 (n:Nat),.func (.func gN) #[] gcap] w fun e w'=>LsO w n X EE e w'∧Below w.heap.size w w':=by
 obtain⟨z,hmk⟩:=Dc n (by omega)
 have H0:=hideS (pE w v0 vd vf cur base kind V0)
 have HA:=hideS ((Below.refl w.heap.size w).alloc (Nat.le_refl _) (.cells #[v0,.int .i64 cur,.int .i64 base,.int .i64 kind,vd,vf,.float .f64 V0] 83))
 obtain⟨w1,hw1⟩:∃ w1,w.alloc (.cells #[v0,.int .i64 cur,.int .i64 base,.int .i64 kind,vd,vf,.float .f64 V0] 83)=w1:=⟨_,rfl⟩
 have hz1:w1.heap.size=w.heap.size+1:=by rw [← hw1];simp
 rw [hw1] at H0 HA
 have HR:Hid (PsB (w1.alloc (.cells (madeCells z n) 26)) w.heap.size v0 cur base kind vd vf V0∧RowF (w1.alloc (.cells (madeCells z n) 26)) w1.heap.size n (((List.range n).map X).take 0)∧Below w.heap.size w (w1.alloc (.cells (madeCells z n) 26))):=⟨H0.out.step ((Below.refl _ _).alloc (Nat.le_refl _) _),Ci w1 n z,HA.out.alloc HA.out.size _⟩
 have HGl:Hid (w.heap.size+1≤w1.heap.size):=by show _≤_;omega
 clear hz1
 go_enter Tryz.func42,Tryz.ntmps42
 go_wp2_with fail
 clear hw1 H0 HA hmk
 generalize w1.heap.size=g at *
 go_loopw [9,10,11,15] (fun _ _ _ i wr=>∃ k:Nat,k≤n∧i=.int .i64 k∧Hid (∀ j<k,EE j=0)∧Hid (PsB wr w.heap.size v0 cur base kind vd vf V0∧RowF wr g n (((List.range n).map X).take k)∧Below w.heap.size w wr)) (fun _ _ _ i _=>n - (intOf i).toNat)
 case atStart=>exact⟨0,Nat.zero_le _,rfl,fun j hj=>by omega,HR⟩
 case round=>
  clear HR
  obtain⟨k,hk,rfl,HF,HR⟩:=hrel
  by_cases hlt:k<n
  ·have HXk:=hideS (Hh X hlt)
   have HGk:=hideS (HG.out k hlt)
   unfold BoC at HG
   obtain⟨t0,t1,t2,t3,t4,t5,t6⟩:=HR.out.1.t
   go_wp2_with fail
   go_region_held3 (fun x=>x.cell? ⟨w.heap.size,0,none⟩=some v0∧x.cell? ⟨w.heap.size,1,none⟩=some (.int .i64 cur)∧x.cell? ⟨w.heap.size,2,none⟩=some (.int .i64 base)∧x.cell? ⟨w.heap.size,3,none⟩=some (.int .i64 kind)∧x.cell? ⟨w.heap.size,4,none⟩=some vd∧x.cell? ⟨w.heap.size,5,none⟩=some vf∧x.cell? ⟨w.heap.size,6,none⟩=some (.float .f64 V0)) (first | go_keep | exact HK3.out.t | exact HK2.out.t) (first | (go_at_call 48;refine (HCh.out _ (Below.refl _ _)).mono ?_;rintro e w3 ⟨rfl,hb3⟩;have HB3:=hideS (HB2.out.trans (hb3.mono HB2.out.size));have HK3:=hideS (HR.out.1.step HB3.out);clear hb3) | (refine (HGk.out _ HR.out.2.2.drew).mono ?_;rintro e w2 ⟨⟨fN,cap,rfl,hch⟩,hb2⟩;have HB2:Hid (Below wr.heap.size wr w2):=⟨hb2.os,hb2.tape,hb2.output,hb2.size,hb2.block⟩;have HK2:=hideS (HR.out.1.step HB2.out);have HCh:=hideS hch;clear hb2 hch))
   all_goals
    clear t0 t1 t2 t3 t4 t5 t6 HGk HCh HK2
    have HRw:=hideS (HR.out.2.1.stay HB3.out HR.out.2.1.lt)
    have HBl:=hideS (HR.out.2.2.trans (HB3.out.mono HR.out.2.2.size))
    by_cases hE:EE k=0
    ·have HS:Hid (PsB (w3.setCell ⟨g,k,none⟩ (.float .f64 (X k))) w.heap.size v0 cur base kind vd vf V0∧RowF (w3.setCell ⟨g,k,none⟩ (.float .f64 (X k))) g n (((List.range n).map X).take (k+1))∧Below w.heap.size w (w3.setCell ⟨g,k,none⟩ (.float .f64 (X k)))):=by
      have hb:=(Below.refl g w3).setCell (p:=⟨g,k,none⟩) (Nat.le_refl _) (.float .f64 (X k))
      exact⟨HK3.out.stay hb (by have:=HGl.out;omega),FA (X k) HRw.out hlt (by simp;exact hlt) HXk.out,HBl.out.setCell (p:=⟨g,k,none⟩) (by show w.heap.size≤g;have:=HGl.out;omega) _⟩
     have HF2:Hid (∀ j<k+1,EE j=0):=fun j hj=>by
      rcases Nat.lt_or_eq_of_le (Nat.le_of_lt_succ hj) with d | d
      ·exact HF.out j d
      ·rw [d];exact hE
     obtain⟨u,hu⟩:=HRw.out.cell hlt
     have hz:=HRw.out.frozen k
     have hst:=bM
     rw [hE]
     clear hE
     go_wp2_with fail
     go_roundw
     case rel=>exact⟨k+1,by omega,by simp,HF2,HS⟩
     case measure=>simp [intOf];omega
    ·have dE:(EE k !=0)=true:=bne_iff_ne.2 hE
     have HE2:=hideS hE
     clear hE
     go_wp2_with fail
     go_ret2
     exact⟨Or.inl ⟨k,hlt,HE2.out,HF.out,rfl⟩,HBl.out⟩
  ·obtain rfl:k=n:=by omega
   go_wp2_with fail
   go_ret2
   refine⟨Or.inr ⟨HF.out,g,rfl,?_⟩,HR.out.2.2⟩
   have:=HR.out.2.1.own (base:=w.heap.size) (by rw [List.length_take,List.length_map,List.length_range];omega) (by have:=HGl.out;omega) (by omega)
   rw [List.take_of_length_le (by simp)] at this
   exact this
end Go.Proofs.YtpddmnmhdahnlaaGreat
namespace Go.Proofs.YtpddmnmhdahnlaaGreat
open Go.RowKit

theorem zr (args:Array Value) (w:World):(callFunc 43 args).run Tryz.prog w=.ok (.enter 43 args) w:=kp Tryz.func43 (by kernel_rfl) rfl args w
theorem xe (args:Array Value) (w:World):(callFunc 44 args).run Tryz.prog w=.ok (.enter 44 args) w:=kp Tryz.func44 (by kernel_rfl) rfl args w
theorem zt (args:Array Value) (w:World):(callFunc 87 args).run Tryz.prog w=.ok (.enter 87 args) w:=kp Tryz.func87 (by kernel_rfl) rfl args w
theorem Dd (k hb:Nat) (w:World) :
  Calls Tryz.prog 43 #[.int .i64 (k:Nat),.pointer (some ⟨hb,0,none⟩)] w fun e w'=>e=.returned (.func (.func 44) #[] #[.pointer (some ⟨w.heap.size,0,none⟩),.pointer (some ⟨hb,0,none⟩)])∧w'=w.alloc (.cells #[.int .i64 (k:Nat)] 3):=by
 have hmk:=kq
 go_enter Tryz.func43,Tryz.ntmps43
 go_wp2_with fail
 go_ret
 exact⟨rfl,rfl⟩
theorem zw (h:Nat) (w:World) :
  Calls Tryz.prog 49 #[.float .f64 h] w fun e w'=>e=.returned (.func (.func 87) #[] #[.pointer (some ⟨w.heap.size,0,none⟩)])∧w'=w.alloc (.cells #[.float .f64 h] 26):=by
 have hmk:=kq
 go_enter Tryz.func49,Tryz.ntmps49
 go_wp2_with fail
 go_ret
 exact⟨rfl,rfl⟩
theorem xf {w5 u1 u2 u3 u4:World} {B b:Nat} {d:Cv} {gx cx gy cy:Nat} {x0 x1 x2 x3:Value} (h:OwnC w5 B d gx cx gy cy) (hb:b<B) (e0:w5.setCell ⟨b,0,none⟩ x0=u1) (e1:u1.setCell ⟨b,1,none⟩ x1=u2) (e2:u2.setCell ⟨b,2,none⟩ x2=u3) (e3:u3.setCell ⟨b,3,none⟩ x3=u4):OwnC u4 B d gx cx gy cy:=by
 rw [← e3,← e2,← e1,← e0]
 exact (((h.put hb _).put hb _).put hb _).put hb _
set_option maxRecDepth 20000 in
set_option maxHeartbeats 3200000 in
theorem zA (c d:Cv) (k h ib hb:Nat) (E:Int) (vd vf:Value) (w:World) (hi:w.cell? ⟨ib,0,none⟩=some (.int .i64 (k:Nat))) (hil:ib<w.heap.size) (hh:w.cell? ⟨hb,0,none⟩=some (.float .f64 h)) (hhl:hb<w.heap.size)
  (HC:Hid (∀ wx,Below w.heap.size w wx→Calls Tryz.prog 11 #[.agg #[.int .i64 c.base,.int .i64 c.kind,vd,vf],.int .i64 (k:Nat),.float .f64 h] wx fun e w'=>CvO wx d E e w')) :
  Calls Tryz.prog 44 #[.agg #[.int .i64 c.base,.int .i64 c.kind,vd,vf],.pointer (some ⟨ib,0,none⟩),.pointer (some ⟨hb,0,none⟩)] w fun e w'=>CvO w d E e w':=by
 have HB:=hideS (gO w c.base c.kind vd vf)
 generalize c.base=base at *
 generalize c.kind=kind at *
 obtain⟨w2,hw2⟩:∃ w2,(w.alloc (.cells #[.int .i64 base,.int .i64 kind,vd,vf] 25)).alloc ap=w2:=⟨_,rfl⟩
 rw [hw2] at HB
 unfold ap at hw2
 obtain⟨t0,t1,t2,t3⟩:=HB.out.k.t
 have hi2:=(HB.out.bl.cell (p:=⟨ib,0,none⟩) hil).trans hi
 have hh2:=(HB.out.bl.cell (p:=⟨hb,0,none⟩) hhl).trans hh
 clear hi hh hil hhl
 go_enter Tryz.func44,Tryz.ntmps44
 go_wp2_with fail
 clear hw2 hi2 hh2 t0 t1 t2 t3
 refine (HC.out _ HB.out.bl).mono ?_
 intro e w3 ho
 have HB3:=hideS (HB.out.step ho.bl)
 have HS:=hideS HB.out.sz
 by_cases hE:E=0
 ·subst hE
  obtain⟨gx,cx,gy,cy,rfl,hO⟩:=ho.ok rfl
  obtain⟨u1,u2,u3,u4,⟨e0,z0,y0⟩,⟨e1,z1,y1⟩,⟨e2,z2,y2⟩,⟨e3,z3,y3⟩,hZ,hB⟩:=aR (w.heap.size+1) d.base d.kind (.slice (some ⟨gx,0,none⟩) d.ds.length cx) (.slice (some ⟨gy,0,none⟩) d.fs.length cy) w3 HB3.out.z
  have HO:=hideS (xf hO (by have:=HS.out;omega) e0 e1 e2 e3)
  have HBl:=hideS (HB3.out.bl.trans (hB.mono (by omega)))
  obtain⟨s0,s1,s2,s3⟩:=hZ.t
  have HE:Hid (∀ v,v=Value.tuple #[.agg #[.int .i64 d.base,.int .i64 d.kind,.slice (some ⟨gx,0,none⟩) d.ds.length cx,.slice (some ⟨gy,0,none⟩) d.fs.length cy],.int .i64 0]→CvO w d 0 (.returned v) u4):=fun v hv=>by
   subst hv
   exact⟨fun h=>absurd rfl h,fun _=>⟨gx,cx,gy,cy,rfl,HO.out.mono (by have:=HS.out;omega)⟩,HBl.out⟩
  clear hO hZ hB ho HB HC
  generalize d.ds.length=n1 at *
  generalize d.fs.length=n2 at *
  generalize d.base=db at *
  generalize d.kind=dk at *
  go_wp2_with fail
  refine bodyPost_ret (v:=.tuple #[.agg #[.int .i64 db,.int .i64 dk,.slice (some ⟨gx,0,none⟩) n1 cx,.slice (some ⟨gy,0,none⟩) n2 cy],.int .i64 0]) (by simp [results,Tryz.results44,go_sem,s0,s1,s2,s3]) rfl ?_
  exact HE.out _ rfl
 ·have he:=ho.bad hE
  subst he
  obtain⟨u1,u2,u3,u4,⟨e0,z0,y0⟩,⟨e1,z1,y1⟩,⟨e2,z2,y2⟩,⟨e3,z3,y3⟩,hZ,hB⟩:=aR (w.heap.size+1) 0 0 (.slice none 0 0) (.slice none 0 0) w3 HB3.out.z
  have HBl:=hideS (HB3.out.bl.trans (hB.mono (by omega)))
  obtain⟨s0,s1,s2,s3⟩:=hZ.t
  have HE:=hideS hE
  clear hZ hB ho hE HB HC
  go_wp2_with fail
  refine bodyPost_ret (v:=.tuple #[.agg #[.int .i64 0,.int .i64 0,.slice none 0 0,.slice none 0 0],.int .i64 E]) (by simp [results,Tryz.results44,go_sem,s0,s1,s2,s3]) rfl ?_
  exact⟨fun _=>rfl,fun h=>absurd h HE.out,HBl.out⟩
set_option maxRecDepth 20000 in
set_option maxHeartbeats 3200000 in
theorem De (c d:Cv) (h hb:Nat) (E:Int) (vd vf:Value) (w:World) (hh:w.cell? ⟨hb,0,none⟩=some (.float .f64 h)) (hhl:hb<w.heap.size)
  (HC:Hid (∀ wx,Below w.heap.size w wx→Calls Tryz.prog 14 #[.agg #[.int .i64 c.base,.int .i64 c.kind,vd,vf],.float .f64 h] wx fun e w'=>CvO wx d E e w')) :
  Calls Tryz.prog 87 #[.agg #[.int .i64 c.base,.int .i64 c.kind,vd,vf],.pointer (some ⟨hb,0,none⟩)] w fun e w'=>CvO w d E e w':=by
 have HB:=hideS (gO w c.base c.kind vd vf)
 generalize c.base=base at *
 generalize c.kind=kind at *
 obtain⟨w2,hw2⟩:∃ w2,(w.alloc (.cells #[.int .i64 base,.int .i64 kind,vd,vf] 25)).alloc ap=w2:=⟨_,rfl⟩
 rw [hw2] at HB
 unfold ap at hw2
 obtain⟨t0,t1,t2,t3⟩:=HB.out.k.t
 have hh2:=(HB.out.bl.cell (p:=⟨hb,0,none⟩) hhl).trans hh
 clear hh hhl
 go_enter Tryz.func87,Tryz.ntmps87
 go_wp2_with fail
 clear hw2 hh2 t0 t1 t2 t3
 refine (HC.out _ HB.out.bl).mono ?_
 intro e w3 ho
 have HB3:=hideS (HB.out.step ho.bl)
 have HS:=hideS HB.out.sz
 by_cases hE:E=0
 ·subst hE
  obtain⟨gx,cx,gy,cy,rfl,hO⟩:=ho.ok rfl
  obtain⟨u1,u2,u3,u4,⟨e0,z0,y0⟩,⟨e1,z1,y1⟩,⟨e2,z2,y2⟩,⟨e3,z3,y3⟩,hZ,hB⟩:=aR (w.heap.size+1) d.base d.kind (.slice (some ⟨gx,0,none⟩) d.ds.length cx) (.slice (some ⟨gy,0,none⟩) d.fs.length cy) w3 HB3.out.z
  have HO:=hideS (xf hO (by have:=HS.out;omega) e0 e1 e2 e3)
  have HBl:=hideS (HB3.out.bl.trans (hB.mono (by omega)))
  obtain⟨s0,s1,s2,s3⟩:=hZ.t
  have HE:Hid (∀ v,v=Value.tuple #[.agg #[.int .i64 d.base,.int .i64 d.kind,.slice (some ⟨gx,0,none⟩) d.ds.length cx,.slice (some ⟨gy,0,none⟩) d.fs.length cy],.int .i64 0]→CvO w d 0 (.returned v) u4):=fun v hv=>by
   subst hv
   exact⟨fun h=>absurd rfl h,fun _=>⟨gx,cx,gy,cy,rfl,HO.out.mono (by have:=HS.out;omega)⟩,HBl.out⟩
  clear hO hZ hB ho HB HC
  generalize d.ds.length=n1 at *
  generalize d.fs.length=n2 at *
  generalize d.base=db at *
  generalize d.kind=dk at *
  go_wp2_with fail
  refine bodyPost_ret (v:=.tuple #[.agg #[.int .i64 db,.int .i64 dk,.slice (some ⟨gx,0,none⟩) n1 cx,.slice (some ⟨gy,0,none⟩) n2 cy],.int .i64 0]) (by simp [results,Tryz.results87,go_sem,s0,s1,s2,s3]) rfl ?_
  exact HE.out _ rfl
 ·have he:=ho.bad hE
  subst he
  obtain⟨u1,u2,u3,u4,⟨e0,z0,y0⟩,⟨e1,z1,y1⟩,⟨e2,z2,y2⟩,⟨e3,z3,y3⟩,hZ,hB⟩:=aR (w.heap.size+1) 0 0 (.slice none 0 0) (.slice none 0 0) w3 HB3.out.z
  have HBl:=hideS (HB3.out.bl.trans (hB.mono (by omega)))
  obtain⟨s0,s1,s2,s3⟩:=hZ.t
  have HE:=hideS hE
  clear hZ hB ho hE HB HC
  go_wp2_with fail
  refine bodyPost_ret (v:=.tuple #[.agg #[.int .i64 0,.int .i64 0,.slice none 0 0,.slice none 0 0],.int .i64 E]) (by simp [results,Tryz.results87,go_sem,s0,s1,s2,s3]) rfl ?_
  exact⟨fun _=>rfl,fun h=>absurd h HE.out,HBl.out⟩
end Go.Proofs.YtpddmnmhdahnlaaGreat
namespace Go.Proofs.YtpddmnmhdahnlaaGreat
open Go.RowKit

noncomputable def lnV (l:List Flw) (cur:Int) (c:Cv) (h k:Nat):Nat:=qz l cur (c.bump k h) (prV l cur c) (bmE c k h)
noncomputable def lnE (l:List Flw) (cur:Int) (c:Cv) (h k:Nat):Int:=qA l cur (c.bump k h) (prV l cur c) (bmE c k h)
theorem Hi {c:Cv} {k h:Nat} (ok:c.Ok) (hk:k<c.ds.length):∃ d,BmpR c (k:Nat) h d (bmE c k h)∧(bmE c k h=0→d=c.bump k h):=by
 rcases bmE_cases c k h with⟨a,e⟩| ⟨a,e⟩
 ·rw [e];exact⟨_,.ok ok k hk rfl a,fun _=>rfl⟩
 ·rw [e];exact⟨_,.val ok k hk rfl a,fun h=>absurd h (by decide)⟩
theorem Hj {l:List Flw} {cur:Int} {d d':Cv} {V0:Nat} {E:Int} (h:E=0→d=d'):qz l cur d V0 E=qz l cur d' V0 E∧qA l cur d V0 E=qA l cur d' V0 E:=by
 unfold qz qA
 by_cases e:E=0
 ·rw [h e];exact⟨rfl,rfl⟩
 ·rw [if_neg e,if_neg e,if_neg e,if_neg e];exact⟨rfl,rfl⟩
theorem Kg (l:List Flw) (cur:Int) (c:Cv) (h hb:Nat) (pl:Option Addr) (bl ol cl N:Nat) (pd pf:Option Addr) (bd od cd b2 o2 cf:Nat) (w:World) (ok:c.Ok) (h0:prE l cur c=0) (hh:h<18446744073709551616) (hc:w.cell? ⟨hb,0,none⟩=some (.float .f64 h)) (hhl:hb<w.heap.size) (hl:JSrc aF w pl bl ol l) (hN:l.length=N) (hNb:N≤30000) (hf:gI l) (hs:TFl w pd pf bd od b2 o2 c.ds c.fs) :
  BoC 43 #[.pointer (some ⟨hb,0,none⟩)] c.ds.length (lnV l cur c h) (lnE l cur c h) #[.slice pl N cl,.int .i64 cur,.int .i64 c.base,.int .i64 c.kind,.slice pd c.ds.length cd,.slice pf c.fs.length cf,.float .f64 (prV l cur c)] w:=fun k hk wx hbx=>by
 refine (Dd k hb wx).mono ?_
 rintro e w' ⟨rfl,rfl⟩
 have hA:Below wx.heap.size wx (wx.alloc (.cells #[.int .i64 (k:Nat)] 3)):=(Below.refl _ _).alloc (Nat.le_refl _) _
 refine⟨⟨_,_,rfl,fun wy hy=>?_⟩,hA⟩
 obtain⟨d,hR,hd⟩:=Hi (h:=h) ok hk
 have hxy:Below w.heap.size w wy:=(hbx.trans (hA.mono hbx.size)).trans (hy.mono (Nat.le_trans hbx.size hA.size))
 have hi:(wx.alloc (.cells #[.int .i64 (k:Nat)] 3)).cell? ⟨wx.heap.size,0,none⟩=some (.int .i64 (k:Nat)):=eN wx _ _ 0
 have hil:wx.heap.size<(wx.alloc (.cells #[.int .i64 (k:Nat)] 3)).heap.size:=by simp
 have HB:BmC 44 #[.pointer (some ⟨wx.heap.size,0,none⟩),.pointer (some ⟨hb,0,none⟩)] c.base c.kind (.slice pd c.ds.length cd) (.slice pf c.fs.length cf) wy d (bmE c k h):=fun wv hv=>by
  have hxv:=hxy.trans (hv.mono hxy.size)
  have hyv:=hy.trans (hv.mono hy.size)
  exact zA c d k h wx.heap.size hb (bmE c k h) _ _ wv ((hyv.cell (p:=⟨wx.heap.size,0,none⟩) hil).trans hi) (Nat.lt_of_lt_of_le hil hyv.size) ((hxv.cell (p:=⟨hb,0,none⟩) hhl).trans hc) (Nat.lt_of_lt_of_le hhl hxv.size) (fun wz hz=>lz c d k h (bmE c k h) pd pf bd od cd b2 o2 cf wz hR hh (hs.below (hxv.trans (hz.mono hxv.size))))
 have:=mp 44 _ l d (bmE c k h) cur c.base c.kind pl bl ol cl N (.slice pd c.ds.length cd) (.slice pf c.fs.length cf) (prV l cur c) wy (lC h0).2.2.1 xe HB (hl.below hxy) hN hNb hf
 obtain⟨e1,e2⟩:=Hj (l:=l) (cur:=cur) (V0:=prV l cur c) hd
 rw [e1,e2] at this
 exact this
structure LaB (w:World) (base kind:Int) (vd vf:Value) (h:Nat) (wr:World):Prop where
 k:BxK wr w.heap.size base kind vd vf
 c:wr.cell? ⟨w.heap.size+1,0,none⟩=some (.float .f64 h)
 lt:w.heap.size+1<wr.heap.size
 bl:Below w.heap.size w wr
theorem LaB.step {w wr w':World} {base kind:Int} {vd vf:Value} {h:Nat} (H:LaB w base kind vd vf h wr) (hb:Below wr.heap.size wr w'):LaB w base kind vd vf h w':=
 ⟨H.k.step hb,(hb.cell (p:=⟨w.heap.size+1,0,none⟩) H.lt).trans H.c,Nat.lt_of_lt_of_le H.lt hb.size,H.bl.trans (hb.mono H.bl.size)⟩
theorem Hk (w:World) (base kind:Int) (vd vf:Value) (h:Nat):LaB w base kind vd vf h ((w.alloc (.cells #[.int .i64 base,.int .i64 kind,vd,vf] 25)).alloc (.cells #[.float .f64 h] 26)):=by
 have s1:(w.alloc (.cells #[.int .i64 base,.int .i64 kind,vd,vf] 25)).heap.size=w.heap.size+1:=by simp
 refine⟨(oU w base kind vd vf).step ((Below.refl _ _).alloc (Nat.le_refl _) _),?_,by simp,((Below.refl _ _).alloc (Nat.le_refl _) _).alloc (by rw [s1];omega) _⟩
 rw [← s1];exact eN _ _ _ 0
set_option maxRecDepth 20000 in
set_option maxHeartbeats 3200000 in
theorem xg (cur base kind E:Int) (h:Nat) (vl vd vf:Value) (w:World) (hE:E≠0) (HH:Hid (∀ wx,Below w.heap.size w wx→Calls Tryz.prog 41 #[vl,.int .i64 cur,.agg #[.int .i64 base,.int .i64 kind,vd,vf]] wx fun e w'=>e=.returned (.tuple #[.agg #[.slice none 0 0,.int .i64 0,.int .i64 0,.int .i64 0,.slice none 0 0,.slice none 0 0,.float .f64 0],.int .i64 E])∧Below wx.heap.size wx w')) :
  Calls Tryz.prog 18 #[vl,.int .i64 cur,.agg #[.int .i64 base,.int .i64 kind,vd,vf],.float .f64 h] w fun e w'=>e=.returned (.tuple #[.slice none 0 0,.int .i64 E])∧Below w.heap.size w w':=by
 have dE:(E !=0)=true:=bne_iff_ne.2 hE
 have HB:=hideS (Hk w base kind vd vf h)
 obtain⟨w2,hw2⟩:∃ w2,(w.alloc (.cells #[.int .i64 base,.int .i64 kind,vd,vf] 25)).alloc (.cells #[.float .f64 h] 26)=w2:=⟨_,rfl⟩
 rw [hw2] at HB
 obtain⟨t0,t1,t2,t3⟩:=HB.out.k.t
 clear hE
 go_enter Tryz.func18,Tryz.ntmps18
 go_wp2_with fail
 clear hw2 t0 t1 t2 t3
 refine (HH.out _ HB.out.bl).mono ?_
 rintro e w3 ⟨rfl,hb3⟩
 have HB3:=hideS (HB.out.step hb3)
 clear hb3 HH HB
 obtain⟨u1,u2,u3,u4,u5,u6,u7,⟨e0,z0,y0⟩,⟨e1,z1,y1⟩,⟨e2,z2,y2⟩,⟨e3,z3,y3⟩,⟨e4,z4,y4⟩,⟨e5,z5,y5⟩,⟨e6,z6,y6⟩,hZ,hB⟩:=iR w3.heap.size (.slice none 0 0) 0 0 0 (.slice none 0 0) (.slice none 0 0) 0 (w3.alloc aZ) (heap_alloc_new _ _)
 have HBl:Hid (Below w.heap.size w u7):=(HB3.out.bl.alloc HB3.out.bl.size aZ).trans (hB.mono HB3.out.bl.size)
 obtain⟨w4,hw4⟩:∃ w4,w3.alloc aZ=w4:=⟨_,rfl⟩
 rw [hw4] at e0 z0 y0
 unfold aZ at hw4
 have hst:=bM
 clear hZ hB
 go_wp2_with fail
 go_ret2
 exact⟨rfl,HBl.out⟩
set_option maxRecDepth 20000 in
set_option maxHeartbeats 6400000 in
theorem zB (cur base kind:Int) (h n V0:Nat) (X:Nat→Nat) (EE:Nat→Int) (pl:Option Addr) (cl N:Nat) (pd pf:Option Addr) (cd cf m:Nat) (w:World) (hn:n≤255)
  (HH:Hid (∀ wx,Below w.heap.size w wx→Calls Tryz.prog 41 #[.slice pl N cl,.int .i64 cur,.agg #[.int .i64 base,.int .i64 kind,.slice pd n cd,.slice pf m cf]] wx fun e w'=>e=.returned (.tuple #[.agg #[.slice pl N cl,.int .i64 cur,.int .i64 base,.int .i64 kind,.slice pd n cd,.slice pf m cf,.float .f64 V0],.int .i64 0])∧Below wx.heap.size wx w'))
  (HG:Hid (∀ wx hb,Below w.heap.size w wx→wx.cell? ⟨hb,0,none⟩=some (.float .f64 h)→hb<wx.heap.size→BoC 43 #[.pointer (some ⟨hb,0,none⟩)] n X EE #[.slice pl N cl,.int .i64 cur,.int .i64 base,.int .i64 kind,.slice pd n cd,.slice pf m cf,.float .f64 V0] wx)) :
  Calls Tryz.prog 18 #[.slice pl N cl,.int .i64 cur,.agg #[.int .i64 base,.int .i64 kind,.slice pd n cd,.slice pf m cf],.float .f64 h] w fun e w'=>LsO w n X EE e w'∧Below w.heap.size w w':=by
 have HB:=hideS (Hk w base kind (.slice pd n cd) (.slice pf m cf) h)
 obtain⟨w2,hw2⟩:∃ w2,(w.alloc (.cells #[.int .i64 base,.int .i64 kind,.slice pd n cd,.slice pf m cf] 25)).alloc (.cells #[.float .f64 h] 26)=w2:=⟨_,rfl⟩
 rw [hw2] at HB
 obtain⟨t0,t1,t2,t3⟩:=HB.out.k.t
 go_enter Tryz.func18,Tryz.ntmps18
 go_wp2_with fail
 clear hw2 t0 t1 t2 t3
 refine (HH.out _ HB.out.bl).mono ?_
 rintro e w3 ⟨rfl,hb3⟩
 have HB3:=hideS (HB.out.step hb3)
 clear hb3 HH HB
 obtain⟨u1,u2,u3,u4,u5,u6,u7,⟨e0,z0,y0⟩,⟨e1,z1,y1⟩,⟨e2,z2,y2⟩,⟨e3,z3,y3⟩,⟨e4,z4,y4⟩,⟨e5,z5,y5⟩,⟨e6,z6,y6⟩,hZ,hB⟩:=iR w3.heap.size (.slice pl N cl) cur base kind (.slice pd n cd) (.slice pf m cf) V0 (w3.alloc aZ) (heap_alloc_new _ _)
 have hB2:Below w3.heap.size w3 u7:=((Below.refl _ w3).alloc (Nat.le_refl _) aZ).trans hB
 have HB4:=hideS (HB3.out.step hB2)
 have HCh:=hideS (tE 43 #[.pointer (some ⟨w.heap.size+1,0,none⟩)] n X EE (.slice pl N cl) (.slice pd n cd) (.slice pf m cf) cur base kind V0 u7 hn zr (HG.out u7 (w.heap.size+1) HB4.out.bl HB4.out.c HB4.out.lt))
 obtain⟨s0,s1,s2,s3,s4,s5,s6⟩:=hZ.t
 obtain⟨t0,t1,t2,t3⟩:=HB4.out.k.t
 obtain⟨w4,hw4⟩:∃ w4,w3.alloc aZ=w4:=⟨_,rfl⟩
 rw [hw4] at e0 z0 y0
 unfold aZ at hw4
 have hst:=bM
 have hmk:=kq
 clear hZ hB hB2 HG
 go_wp2_with fail
 refine HCh.out.mono ?_
 rintro e w5 ⟨ho,hb5⟩
 have HBl:=hideS (HB4.out.bl.trans (hb5.mono HB4.out.bl.size))
 have HS:=hideS HB4.out.bl.size
 rcases ho with⟨k,hk,hE,hf,rfl⟩| ⟨hf,g,rfl,ho⟩
 ·have HR:Hid (LsO w n X EE (.returned (.tuple #[.slice none 0 0,.int .i64 (EE k)])) w5):=Or.inl ⟨k,hk,hE,hf,rfl⟩
  clear hb5 HCh hE hf
  go_wp2_with fail
  go_ret2
  exact⟨HR.out,HBl.out⟩
 ·have HR:Hid (LsO w n X EE (.returned (.tuple #[.slice (some ⟨g,0,none⟩) n n,.int .i64 0])) w5):=Or.inr ⟨hf,g,rfl,cF ho HS.out⟩
  clear hb5 HCh hf ho
  go_wp2_with fail
  go_ret2
  exact⟨HR.out,HBl.out⟩
theorem zC (l:List Flw) (cur:Int) (c:Cv) (h:Nat) (pl:Option Addr) (bl ol cl N:Nat) (pd pf:Option Addr) (bd od cd b2 o2 cf:Nat) (w:World) (hh:h<18446744073709551616) (hl:JSrc aF w pl bl ol l) (hN:l.length=N) (hNb:N≤30000) (hf:gI l) (hs:TFl w pd pf bd od b2 o2 c.ds c.fs) :
  Calls Tryz.prog 18 #[.slice pl N cl,.int .i64 cur,.agg #[.int .i64 c.base,.int .i64 c.kind,.slice pd c.ds.length cd,.slice pf c.fs.length cf],.float .f64 h] w fun e w'=>((prE l cur c≠0∧e=.returned (.tuple #[.slice none 0 0,.int .i64 (prE l cur c)]))∨(prE l cur c=0∧LsO w c.ds.length (lnV l cur c h) (lnE l cur c h) e w'))∧Below w.heap.size w w':=by
 by_cases h0:prE l cur c=0
 ·have hp:=prR l cur c
  rw [h0] at hp
  have ok:=(lC h0).1.ok
  refine (zB cur c.base c.kind h c.ds.length (prV l cur c) (lnV l cur c h) (lnE l cur c h) pl cl N pd pf cd cf c.fs.length w ok.hi (fun wx hb=>wZ l cur c pl bl ol cl N pd pf bd od cd b2 o2 cf wx _ hp (hl.below hb) hN hNb hf (hs.below hb)) (fun wx hb hx hc hlt=>Kg l cur c h hb pl bl ol cl N pd pf bd od cd b2 o2 cf wx ok h0 hh hc hlt (hl.below hx) hN hNb hf (hs.below hx))).mono ?_
  rintro e w' ⟨a,b⟩
  exact⟨Or.inr ⟨h0,a⟩,b⟩
 ·refine (xg cur c.base c.kind (prE l cur c) h _ _ _ w h0 (fun wx hb=>sa l cur c pl bl ol cl N pd pf bd od cd b2 o2 cf wx _ _ (prR l cur c) h0 (hl.below hb) hN hNb hf (hs.below hb))).mono ?_
  rintro e w' ⟨a,b⟩
  exact⟨Or.inl ⟨h0,a⟩,b⟩
end Go.Proofs.YtpddmnmhdahnlaaGreat
namespace Go.Proofs.YtpddmnmhdahnlaaGreat
open Go.RowKit

open Classical in
noncomputable def paE (c:Cv) (h:Nat):Int:=if ∀ k<c.ds.length,bmB c k h=true then 0 else 91
theorem LY {c:Cv} {h:Nat} (ok:c.Ok):∃ d,ParR c h d (paE c h)∧(paE c h=0→d=c.para h∧∀ k<c.ds.length,bmB c k h=true):=by
 unfold paE
 by_cases hb:∀ k<c.ds.length,bmB c k h=true
 ·rw [if_pos hb];exact⟨_,.ok ok hb,fun _=>⟨rfl,hb⟩⟩
 ·rw [if_neg hb]
  obtain⟨K,hK,h1,h2⟩:=fG (p:=fun k=>!bmB c k h) c.ds.length
  have hlt:K<c.ds.length:=Classical.byContradiction fun hn=>hb fun k hk=>by have:=h1 k (by omega);simpa using this
  exact⟨_,.val ok K hlt (by have:=h2 hlt;simpa using this) (fun j hj=>by have:=h1 j hj;simpa using this),fun h=>absurd h (by decide)⟩
noncomputable def deV (l:List Flw) (cur:Int) (c:Cv) (h:Nat):Nat:=qz l cur (c.para h) (prV l cur c) (paE c h)
noncomputable def deE (l:List Flw) (cur:Int) (c:Cv) (h:Nat):Int:=qA l cur (c.para h) (prV l cur c) (paE c h)
theorem Df (h:Nat) (w:World) :
  Calls Tryz.prog 49 #[.float .f64 h] w fun e w'=>e=.returned (.func (.func 87) #[] #[.pointer (some ⟨w.heap.size,0,none⟩)])∧w'.cell? ⟨w.heap.size,0,none⟩=some (.float .f64 h)∧w.heap.size<w'.heap.size∧Below w.heap.size w w':=
 (zw h w).mono fun e w' ⟨a,b⟩=>by
  subst b
  exact⟨a,eN w _ _ 0,by simp,(Below.refl _ _).alloc (Nat.le_refl _) _⟩
theorem Kh (c d:Cv) (h hb:Nat) (E:Int) (pd pf:Option Addr) (bd od cd b2 o2 cf:Nat) (w:World) (hR:ParR c h d E) (hh:h<18446744073709551616) (hc:w.cell? ⟨hb,0,none⟩=some (.float .f64 h)) (hhl:hb<w.heap.size) (hs:TFl w pd pf bd od b2 o2 c.ds c.fs) :
  BmC 87 #[.pointer (some ⟨hb,0,none⟩)] c.base c.kind (.slice pd c.ds.length cd) (.slice pf c.fs.length cf) w d E:=fun wv hv=>
 De c d h hb E _ _ wv ((hv.cell (p:=⟨hb,0,none⟩) hhl).trans hc) (Nat.lt_of_lt_of_le hhl hv.size) (fun wz hz=>lA c d h E pd pf bd od cd b2 o2 cf wz hR hh (hs.below (hv.trans (hz.mono hv.size))))
set_option maxRecDepth 20000 in
set_option maxHeartbeats 3200000 in
theorem zD (cur base kind E:Int) (h:Nat) (vl vd vf:Value) (w:World) (hE:E≠0) (HH:Hid (∀ wx,Below w.heap.size w wx→Calls Tryz.prog 41 #[vl,.int .i64 cur,.agg #[.int .i64 base,.int .i64 kind,vd,vf]] wx fun e w'=>e=.returned (.tuple #[.agg #[.slice none 0 0,.int .i64 0,.int .i64 0,.int .i64 0,.slice none 0 0,.slice none 0 0,.float .f64 0],.int .i64 E])∧Below wx.heap.size wx w')) :
  Calls Tryz.prog 22 #[vl,.int .i64 cur,.agg #[.int .i64 base,.int .i64 kind,vd,vf],.float .f64 h] w fun e w'=>e=.returned (.tuple #[.float .f64 0,.int .i64 E])∧Below w.heap.size w w':=by
 have dE:(E !=0)=true:=bne_iff_ne.2 hE
 have HB:=hideS (bA w base kind vd vf)
 obtain⟨w2,hw2⟩:∃ w2,w.alloc (.cells #[.int .i64 base,.int .i64 kind,vd,vf] 25)=w2:=⟨_,rfl⟩
 rw [hw2] at HB
 have t0:=HB.out.t0
 have t1:=HB.out.t1
 have t2:=HB.out.t2
 have t3:=HB.out.t3
 clear hE
 go_enter Tryz.func22,Tryz.ntmps22
 go_wp2_with fail
 clear hw2 t0 t1 t2 t3
 refine (HH.out _ HB.out.bl).mono ?_
 rintro e w3 ⟨rfl,hb3⟩
 have HB3:=hideS (HB.out.step hb3)
 clear hb3 HH HB
 obtain⟨u1,u2,u3,u4,u5,u6,u7,⟨e0,z0,y0⟩,⟨e1,z1,y1⟩,⟨e2,z2,y2⟩,⟨e3,z3,y3⟩,⟨e4,z4,y4⟩,⟨e5,z5,y5⟩,⟨e6,z6,y6⟩,hZ,hB⟩:=iR w3.heap.size (.slice none 0 0) 0 0 0 (.slice none 0 0) (.slice none 0 0) 0 (w3.alloc aZ) (heap_alloc_new _ _)
 have HBl:Hid (Below w.heap.size w u7):=(HB3.out.bl.alloc HB3.out.bl.size aZ).trans (hB.mono HB3.out.bl.size)
 obtain⟨w4,hw4⟩:∃ w4,w3.alloc aZ=w4:=⟨_,rfl⟩
 rw [hw4] at e0 z0 y0
 unfold aZ at hw4
 have hst:=bM
 clear hZ hB
 go_wp2_with fail
 go_ret2
 exact⟨rfl,HBl.out⟩
set_option maxRecDepth 20000 in
set_option maxHeartbeats 6400000 in
theorem Dg (cur base kind:Int) (h n V0:Nat) (X:Nat) (EE:Int) (pl:Option Addr) (cl N:Nat) (pd pf:Option Addr) (cd cf m:Nat) (w:World)
  (HH:Hid (∀ wx,Below w.heap.size w wx→Calls Tryz.prog 41 #[.slice pl N cl,.int .i64 cur,.agg #[.int .i64 base,.int .i64 kind,.slice pd n cd,.slice pf m cf]] wx fun e w'=>e=.returned (.tuple #[.agg #[.slice pl N cl,.int .i64 cur,.int .i64 base,.int .i64 kind,.slice pd n cd,.slice pf m cf,.float .f64 V0],.int .i64 0])∧Below wx.heap.size wx w'))
  (HG:Hid (∀ wx hb,Below w.heap.size w wx→wx.cell? ⟨hb,0,none⟩=some (.float .f64 h)→hb<wx.heap.size→Calls Tryz.prog 48 #[.agg #[.slice pl N cl,.int .i64 cur,.int .i64 base,.int .i64 kind,.slice pd n cd,.slice pf m cf,.float .f64 V0],.func (.func 87) #[] #[.pointer (some ⟨hb,0,none⟩)]] wx fun e w'=>e=.returned (.tuple #[.float .f64 X,.int .i64 EE])∧Below wx.heap.size wx w')) :
  Calls Tryz.prog 22 #[.slice pl N cl,.int .i64 cur,.agg #[.int .i64 base,.int .i64 kind,.slice pd n cd,.slice pf m cf],.float .f64 h] w fun e w'=>e=.returned (.tuple #[.float .f64 X,.int .i64 EE])∧Below w.heap.size w w':=by
 have HB:=hideS (bA w base kind (.slice pd n cd) (.slice pf m cf))
 obtain⟨w2,hw2⟩:∃ w2,w.alloc (.cells #[.int .i64 base,.int .i64 kind,.slice pd n cd,.slice pf m cf] 25)=w2:=⟨_,rfl⟩
 rw [hw2] at HB
 have t0:=HB.out.t0
 have t1:=HB.out.t1
 have t2:=HB.out.t2
 have t3:=HB.out.t3
 go_enter Tryz.func22,Tryz.ntmps22
 go_wp2_with fail
 clear hw2 t0 t1 t2 t3
 refine (HH.out _ HB.out.bl).mono ?_
 rintro e w3 ⟨rfl,hb3⟩
 have HB3:=hideS (HB.out.step hb3)
 clear hb3 HH HB
 obtain⟨u1,u2,u3,u4,u5,u6,u7,⟨e0,z0,y0⟩,⟨e1,z1,y1⟩,⟨e2,z2,y2⟩,⟨e3,z3,y3⟩,⟨e4,z4,y4⟩,⟨e5,z5,y5⟩,⟨e6,z6,y6⟩,hZ,hB⟩:=iR w3.heap.size (.slice pl N cl) cur base kind (.slice pd n cd) (.slice pf m cf) V0 (w3.alloc aZ) (heap_alloc_new _ _)
 have HZ:=hideS hZ
 have HB4:Hid (Below w.heap.size w u7):=HB3.out.bl.trans ((((Below.refl _ w3).alloc (Nat.le_refl _) aZ).trans hB).mono HB3.out.bl.size)
 have HPa:=hideS (Df h)
 obtain⟨w4,hw4⟩:∃ w4,w3.alloc aZ=w4:=⟨_,rfl⟩
 rw [hw4] at e0 z0 y0
 unfold aZ at hw4
 have hst:=bM
 clear hZ hB HB3
 go_wp2_with fail
 clear hw4 e0 z0 y0 e1 z1 y1 e2 z2 y2 e3 z3 y3 e4 z4 y4 e5 z5 y5 e6 z6 y6 hst
 obtain⟨s0,s1,s2,s3,s4,s5,s6⟩:=HZ.out.t
 generalize w3.heap.size=g at *
 go_region_held3 (fun x=>x.cell? ⟨g,0,none⟩=some (.slice pl N cl)∧x.cell? ⟨g,1,none⟩=some (.int .i64 cur)∧x.cell? ⟨g,2,none⟩=some (.int .i64 base)∧x.cell? ⟨g,3,none⟩=some (.int .i64 kind)∧x.cell? ⟨g,4,none⟩=some (.slice pd n cd)∧x.cell? ⟨g,5,none⟩=some (.slice pf m cf)∧x.cell? ⟨g,6,none⟩=some (.float .f64 V0)) (first | go_keep | exact HK6.out.t | exact HK5.out.t) (first | (go_at_call 49;refine (HPa.out _).mono ?_;rintro e w5 ⟨rfl,hc5,hl5,hb5⟩;have HB5:Hid (Below u7.heap.size u7 w5):=⟨hb5.os,hb5.tape,hb5.output,hb5.size,hb5.block⟩;have HK5:=hideS (HZ.out.step HB5.out);have HCx:=hideS (HG.out w5 u7.heap.size (HB4.out.trans (HB5.out.mono HB4.out.size)) hc5 hl5);clear hb5 hc5 hl5) | (go_at_call 48;refine HCx.out.mono ?_;rintro e w6 ⟨rfl,hb6⟩;have HB6:=hideS (HB5.out.trans (hb6.mono HB5.out.size));have HK6:=hideS (HZ.out.step HB6.out);clear hb6))
 all_goals
  go_wp2_with fail
  go_ret2
  exact⟨rfl,HB4.out.trans (HB6.out.mono HB4.out.size)⟩
theorem Dh (l:List Flw) (cur:Int) (c:Cv) (h:Nat) (pl:Option Addr) (bl ol cl N:Nat) (pd pf:Option Addr) (bd od cd b2 o2 cf:Nat) (w:World) (hh:h<18446744073709551616) (hl:JSrc aF w pl bl ol l) (hN:l.length=N) (hNb:N≤30000) (hf:gI l) (hs:TFl w pd pf bd od b2 o2 c.ds c.fs) :
  Calls Tryz.prog 22 #[.slice pl N cl,.int .i64 cur,.agg #[.int .i64 c.base,.int .i64 c.kind,.slice pd c.ds.length cd,.slice pf c.fs.length cf],.float .f64 h] w fun e w'=>((prE l cur c≠0∧e=.returned (.tuple #[.float .f64 0,.int .i64 (prE l cur c)]))∨(prE l cur c=0∧e=.returned (.tuple #[.float .f64 (deV l cur c h),.int .i64 (deE l cur c h)])))∧Below w.heap.size w w':=by
 by_cases h0:prE l cur c=0
 ·have hp:=prR l cur c
  rw [h0] at hp
  have ok:=(lC h0).1.ok
  obtain⟨d,hR,hd⟩:=LY (h:=h) ok
  refine (Dg cur c.base c.kind h c.ds.length (prV l cur c) (deV l cur c h) (deE l cur c h) pl cl N pd pf cd cf c.fs.length w (fun wx hb=>wZ l cur c pl bl ol cl N pd pf bd od cd b2 o2 cf wx _ hp (hl.below hb) hN hNb hf (hs.below hb)) (fun wx hb hx hc hlt=>?_)).mono ?_
  ·have:=mp 87 _ l d (paE c h) cur c.base c.kind pl bl ol cl N (.slice pd c.ds.length cd) (.slice pf c.fs.length cf) (prV l cur c) wx (lC h0).2.2.1 zt (Kh c d h hb (paE c h) pd pf bd od cd b2 o2 cf wx hR hh hc hlt (hs.below hx)) (hl.below hx) hN hNb hf
   obtain⟨e1,e2⟩:=Hj (l:=l) (cur:=cur) (V0:=prV l cur c) (fun e=>(hd e).1)
   rw [e1,e2] at this
   exact this
  ·rintro e w' ⟨a,b⟩
   exact⟨Or.inr ⟨h0,a⟩,b⟩
 ·refine (zD cur c.base c.kind (prE l cur c) h _ _ _ w h0 (fun wx hb=>sa l cur c pl bl ol cl N pd pf bd od cd b2 o2 cf wx _ _ (prR l cur c) h0 (hl.below hb) hN hNb hf (hs.below hb))).mono ?_
  rintro e w' ⟨a,b⟩
  exact⟨Or.inl ⟨h0,a⟩,b⟩
end Go.Proofs.YtpddmnmhdahnlaaGreat
namespace Go.Proofs.YtpddmnmhdahnlaaGreat
open Go.RowKit

theorem Kk {l:List Flw} {cur:Int} {c d:Cv} (h0:prE l cur c=0) (h:prV l cur d=prV l cur c∧prE l cur d=prE l cur c):chV l cur d (prV l cur c)=0∧chE l cur d (prV l cur c)=0:=by
 obtain⟨_,_,hf,_⟩:=lC h0
 have e:chO l cur d (prV l cur c)=0:=by unfold chO;rw [h.1,sub_self (bJ hf)];rfl
 unfold chV chE
 rw [h.2,h0,if_pos rfl,if_pos rfl,e]
 exact⟨by decide,by decide⟩
theorem Ho (w0:World) {base d:Int} (ht:af (rkT base d)):rkX base d 0=4607182418800017408:=by
 have e:opO .mul (some 0) (some (rkT base d))=some (wrd (sB 0^^sB (rkT base d)) 0):=by
  show floatBits .mul .f64 0 (rkT base d)=_
  rw [eI (by unfold af;decide) ht,show aV 0=0 by decide+kernel,Nat.zero_mul];rfl
 unfold rkX
 rw [e,Kj w0];rfl
theorem Hp {f:Nat} (hn:af f) (hl:f<18446744073709551616) (h0:0<aa (f:Nat)):floatBits .mul .f64 f 4607182418800017408=some f:=by
 obtain⟨s0,z0⟩:=pB hn hl h0
 have hs:f<9223372036854775808:=by
  unfold sB at s0
  simp at s0
  omega
 have hr:f<9218868437227405312:=by unfold af at hn;omega
 rw [eI hn (by unfold af;decide),s0,show sB 4607182418800017408=false by decide]
 obtain⟨K,hK⟩:∃ K:Nat,K=1074:=⟨_,rfl⟩
 have e1:aV 4607182418800017408=2^K:=by subst hK;decide+kernel
 have e2:aV f=V f:=by unfold aV;rw [Nat.mod_eq_of_lt hs]
 have hV:V f≠0:=by
  intro e
  have:=iI hr 0
  rw [e,Nat.zero_mul,fW (by decide)] at this
  omega
 unfold mulR
 rw [e1,e2,if_neg (by have:=Nat.two_pow_pos K;exact Nat.mul_ne_zero hV (by omega))]
 have:=iI hr K
 rw [show (-1074 - (K:Int))= -2148 by rw [hK];decide] at this
 rw [this];rfl
theorem mS (w0:World) {c:Cv} {k:Nat} (ok:c.Ok) (hv:c.Fit) (hk:k<c.ds.length):c.bm k 0=c.fs.getD k 0∧bmB c k 0=true:=by
 obtain⟨d0,d1⟩:=ok.day hk
 have b0:=ok.b0
 obtain⟨t0,t1⟩:=mQ d0 (by omega)
 obtain⟨f0,f1⟩:=ok.fac hk
 have e:c.bm k 0=c.fs.getD k 0:=by
  unfold Cv.bm rkF
  rw [Ho w0 t0,Hp f0 (hv k (by rw [ok.len];exact hk)) f1];rfl
 refine⟨e,?_⟩
 unfold bmB
 rw [e,ok.rkB hk];decide
theorem xh {l:List Nat} {k:Nat} (hk:k<l.length):l.set k (l.getD k 0)=l:=by
 apply List.ext_getElem?
 intro j
 rw [List.getElem?_set]
 by_cases e:k=j
 ·subst e
  rw [if_pos rfl,if_pos hk,List.getD_eq_getElem?_getD,List.getElem?_eq_getElem hk];rfl
 ·rw [if_neg e]
theorem Di (w0:World) {c:Cv} {k:Nat} (ok:c.Ok) (hv:c.Fit) (hk:k<c.ds.length):c.bump k 0=c:=by
 unfold Cv.bump
 rw [(mS w0 ok hv hk).1,xh (by rw [ok.len];exact hk)]
theorem sb (w0:World) {c:Cv} (ok:c.Ok) (hv:c.Fit):∀ k≤c.ds.length,c.parL 0 k=c.fs
 | 0,_=>rfl
 | k+1,hk=>by
  rw [Cv.parL,sb w0 ok hv k (by omega),(mS w0 ok hv (k:=k) (by omega)).1,xh (by rw [ok.len];omega)]
theorem Dj (w0:World) {c:Cv} (ok:c.Ok) (hv:c.Fit):c.para 0=c:=by
 unfold Cv.para
 rw [sb w0 ok hv _ (Nat.le_refl _)]
end Go.Proofs.YtpddmnmhdahnlaaGreat
namespace Go.Proofs.YtpddmnmhdahnlaaGreat
open Go.RowKit

end Go.Proofs.YtpddmnmhdahnlaaGreat
namespace Go.Proofs.YtpddmnmhdahnlaaGreat
open Go.RowKit

def xj (u v:Int):Int:=aD u*aD v*((2^(aN u+aN v+2148).toNat:Nat):Int)
theorem Hr (u v:Int):(A.jc u v).N=xj u v:=by unfold A.jc xj;rw [Int.natCast_pow];rfl
end Go.Proofs.YtpddmnmhdahnlaaGreat
namespace Go.Proofs.YtpddmnmhdahnlaaGreat
open Go.RowKit

def rqD:List Int:=[365,730]
def rqF:List Nat:=[4602678819172646912,4598175219545276416]
def rqC:Cv:=⟨0,2,rqD,rqF⟩
def rqL:List Flw:=[⟨365,4607182418800017408,1⟩]
abbrev rqH:Nat:=4576918229304087675
theorem eV:rqC.Ok:=⟨by decide,by decide,by decide,by decide,by decide,by decide,rfl,fun i hi=>by
 have hi':i<2:=hi
 rcases (show i=0∨i=1 by omega) with rfl | rfl<;>decide+kernel⟩
theorem kI:rqC.Fit:=fun i hi=>by
 have hi':i<2:=hi
 rcases (show i=0∨i=1 by omega) with rfl | rfl<;>decide
theorem Hs (w:World):Calls Tryz.prog 120 #[.float .f64 4602418926338704640] w fun e w'=>e=.returned (.float .f64 0)∧w'=w:=ke _ 0 w (oA _ (by decide)) (by decide+kernel)
theorem Ht (w:World):Calls Tryz.prog 120 #[.float .f64 4602159033504762368] w fun e w'=>e=.returned (.float .f64 0)∧w'=w:=ke _ 0 w (oA _ (by decide)) (by decide+kernel)
theorem Ma (w:World):Calls Tryz.prog 77 #[.float .f64 13800290266158863483] w fun e w'=>e=.returned (.float .f64 4607092795669978366)∧Below w.heap.size w w':=by
 have:=kh 13800290266158863483 13802842229321981950 4602418926338704640 0 0 0 13800290266158863483 13800290266158863483 4607092795669978366 0 w (by unfold U64;omega) (by decide) (by decide+kernel) (by decide+kernel) (by decide+kernel) (by decide+kernel) (by decide+kernel) (by decide+kernel) Hs (by decide+kernel) (by decide+kernel) (by decide+kernel) (by decide+kernel) (by show _=_;decide+kernel) (by show U64 _;unfold U64;omega) (by decide+kernel) (by omega) (by decide+kernel) (by decide+kernel)
 rw [show aC (aD (4607092795669978366:Nat)) (aN (4607092795669978366:Nat)+0)=4607092795669978366 by decide+kernel] at this
 exact this
theorem Mb (w:World):Calls Tryz.prog 77 #[.float .f64 13804793865786233979] w fun e w'=>e=.returned (.float .f64 4607004064304983131)∧Below w.heap.size w w':=by
 have:=kh 13804793865786233979 13807345828949352446 4602159033504762368 0 0 0 13804793865786233979 13804793865786233979 4607004064304983131 0 w (by unfold U64;omega) (by decide) (by decide+kernel) (by decide+kernel) (by decide+kernel) (by decide+kernel) (by decide+kernel) (by decide+kernel) Ht (by decide+kernel) (by decide+kernel) (by decide+kernel) (by decide+kernel) (by show _=_;decide+kernel) (by show U64 _;unfold U64;omega) (by decide+kernel) (by omega) (by decide+kernel) (by decide+kernel)
 rw [show aC (aD (4607004064304983131:Nat)) (aN (4607004064304983131:Nat)+0)=4607004064304983131 by decide+kernel] at this
 exact this
theorem MV (w:World):rkX 0 365 rqH=4607092795669978366:=by
 have e:opO .mul (some rqH) (some (rkT 0 365))=some 4576918229304087675:=by decide+kernel
 have e2:li 13800290266158863483=some 4607092795669978366:=mR (by decide) (by decide) w (Ma w)
 have e3:flipN 4576918229304087675=13800290266158863483:=by decide+kernel
 unfold rkX
 rw [e]
 show (li (flipN 4576918229304087675)).getD 0=_
 rw [e3,e2];rfl
theorem MW (w:World):rkX 0 730 rqH=4607004064304983131:=by
 have e:opO .mul (some rqH) (some (rkT 0 730))=some 4581421828931458171:=by decide+kernel
 have e2:li 13804793865786233979=some 4607004064304983131:=mR (by decide) (by decide) w (Mb w)
 have e3:flipN 4581421828931458171=13804793865786233979:=by decide+kernel
 unfold rkX
 rw [e]
 show (li (flipN 4581421828931458171)).getD 0=_
 rw [e3,e2];rfl
theorem Mc (w:World):rqC.bm 0 rqH=4602589196042607870:=by
 show rkF 0 365 4602678819172646912 rqH=_
 unfold rkF
 rw [MV w];decide+kernel
theorem MX (w:World):rqC.bm 1 rqH=4597996865050242139:=by
 show rkF 0 730 4598175219545276416 rqH=_
 unfold rkF
 rw [MW w];decide+kernel
theorem Kl (w:World):∀ k<rqC.ds.length,bmB rqC k rqH=true:=fun k hk=>by
 have hk':k<2:=hk
 unfold bmB
 rcases (show k=0∨k=1 by omega) with rfl | rfl
 ·rw [Mc w];decide
 ·rw [MX w];decide
theorem AJ {d:Cv} {u:Nat} (ok:d.Ok) (hb:d.base=0) (hd:d.ds=rqD) (hu:d.fs.getD 0 0=u) (hv:iV (xj 4607182418800017408 u+0)=u) (hf:aH (u:Int)=true):prV rqL 1 d=u∧prE rqL 1 d=0:=by
 have hn:=Ct ok (i:=0) (by rw [hd];decide)
 have e365:d.ds.getD 0 0=365:=by rw [hd];rfl
 rw [e365] at hn
 have hV:d.V 365=u:=hn.1.trans hu
 have hE:d.E 365=0:=hn.2
 have hF:FineP rqL 1 d:=⟨by decide,by decide,by decide,ok,fun f hf _=>by
  simp only [rqL,List.mem_cons,List.not_mem_nil,or_false] at hf
  subst hf;exact hE⟩
 have hw:wsI 1 d rqL=xj 4607182418800017408 u+0:=by
  have e1:ctI 1 d ⟨365,4607182418800017408,1⟩=xj 4607182418800017408 u:=by
   unfold ctI tkB;rw [hb,if_pos (by decide)];unfold prI;dsimp only;rw [hV,Hr];rfl
  simp only [wsI,rqL]
  rw [e1]
 have key:=PreR.ok hF
 have p1:yM rqL 1 d=u:=by unfold yM;rw [hw,hv];unfold mr;rw [if_pos hf]
 have p2:yN rqL 1 d=0:=by unfold yN;rw [hw,hv];unfold ms;rw [if_pos hf]
 rw [p1,p2] at key
 exact ML key
abbrev rqY:Nat:=13795757939330957440
theorem rqP:prV rqL 1 rqC=4602678819172646912∧prE rqL 1 rqC=0:=AJ eV rfl rfl rfl (by decide+kernel) (by decide)
theorem Hu {d:Cv} (h:prV rqL 1 d=4602589196042607870∧prE rqL 1 d=0):qz rqL 1 d (prV rqL 1 rqC) 0=rqY∧qA rqL 1 d (prV rqL 1 rqC) 0=0:=by
 have e:chO rqL 1 d (prV rqL 1 rqC)=rqY:=by unfold chO;rw [h.1,rqP.1];decide+kernel
 unfold qz qA chV chE
 rw [if_pos rfl,if_pos rfl,if_pos h.2,if_pos h.2,e]
 exact⟨by decide,by decide⟩
theorem zF (w:World):(rqC.bump 0 rqH).fs.getD 0 0=4602589196042607870∧(rqC.bump 1 rqH).fs.getD 0 0=4602678819172646912∧(rqC.para rqH).fs.getD 0 0=4602589196042607870:=by
 refine⟨?_,?_,?_⟩
 ·rw [kF (by decide),if_pos rfl,Mc w]
 ·rw [kF (by decide),if_neg (by decide)];rfl
 ·show (rqC.parL rqH 2).getD 0 0=_
  rw [kE rqC rqH 2 (by decide),if_pos (by decide),Mc w]
theorem MM (w:World):lnV rqL 1 rqC rqH 0=rqY∧lnE rqL 1 rqC rqH 0=0∧lnV rqL 1 rqC rqH 1=0∧lnE rqL 1 rqC rqH 1=0:=by
 have b0:=Kl w 0 (by decide)
 have b1:=Kl w 1 (by decide)
 have e0:bmE rqC 0 rqH=0:=by unfold bmE;rw [if_pos b0]
 have e1:bmE rqC 1 rqH=0:=by unfold bmE;rw [if_pos b1]
 unfold lnV lnE
 rw [e0,e1]
 obtain⟨a,b⟩:=Hu (AJ (tC eV (by decide) b0) rfl rfl (zF w).1 (by decide+kernel) (by decide))
 have h1:=AJ (tC eV (by decide) b1) rfl rfl (zF w).2.1 (by decide+kernel) (by decide)
 obtain⟨c,d⟩:=Kk rqP.2 (h1.1.trans rqP.1.symm |> fun x=>⟨x,h1.2.trans rqP.2.symm⟩)
 refine⟨a,b,?_,?_⟩
 ·unfold qz;rw [if_pos rfl];exact c
 ·unfold qA;rw [if_pos rfl];exact d
theorem MN (w:World):deV rqL 1 rqC rqH=rqY∧deE rqL 1 rqC rqH=0:=by
 have e:paE rqC rqH=0:=by unfold paE;rw [if_pos (Kl w)]
 unfold deV deE
 rw [e]
 exact Hu (AJ (AF eV (Kl w)) rfl rfl (zF w).2.2 (by decide+kernel) (by decide))
theorem Km (w:World):BmpR rqC 1 0 rqC 0:=by
 have:=BmpR.ok (c:=rqC) (h:=0) eV 1 (by decide) rfl (mS w eV kI (by decide)).2
 rw [Di w eV kI (by decide)] at this
 exact this
theorem Ko (w:World):ParR rqC 0 rqC 0:=by
 have:=ParR.ok (c:=rqC) (h:=0) eV (fun k hk=>(mS w eV kI hk).2)
 rw [Dj w eV kI] at this
 exact this
end Go.Proofs.YtpddmnmhdahnlaaGreat
namespace Go.Proofs.YtpddmnmhdahnlaaGreat
open Go.RowKit

def akX:Obj:=.cells #[.int .i64 365,.int .i64 730] 3
def akY:Obj:=.cells #[.float .f64 4602678819172646912,.float .f64 4598175219545276416] 26
def akO:Obj:=.cells #[.int .i64 365,.float .f64 4607182418800017408,.int .i64 1] 74
structure AkB (w wr:World):Prop where
 bx:BxK wr (w.heap.size+1+1) 0 2 (.slice (some ⟨w.heap.size,0,none⟩) 2 2) (.slice (some ⟨w.heap.size+1,0,none⟩) 2 2)
 src:TFl wr (some ⟨w.heap.size,0,none⟩) (some ⟨w.heap.size+1,0,none⟩) w.heap.size 0 (w.heap.size+1) 0 rqD rqF
 bl:Below w.heap.size w wr
theorem AkB.step {w wr w':World} (h:AkB w wr) (hb:Below wr.heap.size wr w'):AkB w w':=⟨h.bx.step hb,h.src.below hb,h.bl.trans (hb.mono h.bl.size)⟩
theorem ak3 (w:World):(((w.alloc akX).alloc akY).alloc ap).heap[w.heap.size]? =some akX∧(((w.alloc akX).alloc akY).alloc ap).heap[w.heap.size+1]? =some akY∧(((w.alloc akX).alloc akY).alloc ap).heap[w.heap.size+1+1]? =some ap∧Below w.heap.size w (((w.alloc akX).alloc akY).alloc ap):=by
 have s1:(w.alloc akX).heap.size=w.heap.size+1:=by simp
 have s2:((w.alloc akX).alloc akY).heap.size=w.heap.size+1+1:=by simp
 have b1:=(Below.refl (w.heap.size+1) (w.alloc akX)).alloc (by omega) akY
 have b2:=(Below.refl (w.heap.size+1+1) ((w.alloc akX).alloc akY)).alloc (by omega) ap
 refine⟨?_,?_,?_,(((Below.refl _ _).alloc (Nat.le_refl _) _).alloc (by omega) _).alloc (by omega) _⟩
 ·rw [b2.block _ (by omega),b1.block _ (by omega)];exact heap_alloc_new _ _
 ·rw [b2.block _ (by omega),← s1];exact heap_alloc_new _ _
 ·rw [← s2];exact heap_alloc_new _ _
theorem Md {wr:World} {g g':Nat} (hx:wr.heap[g]? =some akX) (hy:wr.heap[g']? =some akY):TFl wr (some ⟨g,0,none⟩) (some ⟨g',0,none⟩) g 0 g' 0 rqD rqF:=by
 unfold akX at hx
 unfold akY at hy
 refine⟨⟨fun _=>rfl,fun _=>(Array.getElem?_eq_some_iff.1 hx).1,fun j hj=>?_⟩,⟨fun _=>rfl,fun _=>(Array.getElem?_eq_some_iff.1 hy).1,fun j hj=>?_⟩,kI⟩
 ·have hj':j<2:=hj
  rcases (show j=0∨j=1 by omega) with rfl | rfl
  all_goals
   simp only [World.cell?,hx,Option.isSome_none,Bool.false_eq_true,if_false]
   rfl
 ·have hj':j<2:=hj
  rcases (show j=0∨j=1 by omega) with rfl | rfl
  all_goals
   simp only [World.cell?,hy,Option.isSome_none,Bool.false_eq_true,if_false]
   rfl
theorem Me (w:World):JSrc aF (w.alloc akO) (some ⟨w.heap.size,0,none⟩) w.heap.size 0 rqL:=by
 have h:=heap_alloc_new w akO
 refine⟨fun _=>rfl,fun _=>(Array.getElem?_eq_some_iff.1 h).1,fun i hi=>?_⟩
 have hi3:i<1:=hi
 unfold akO at h
 obtain rfl:i=0:=by omega
 refine⟨?_,?_,?_⟩
 all_goals
  simp only [World.cell?,h,akO,Option.isSome_none,Bool.false_eq_true,if_false]
  rfl
theorem AK:gI rqL:=fun i=>by
 rcases (show i=0∨1≤i by omega) with rfl | h
 ·decide
 ·rw [List.getD_eq_getElem?_getD,List.getElem?_eq_none (by exact h)];decide
set_option maxRecDepth 40000 in
set_option maxHeartbeats 12800000 in
theorem AL (w:World):Calls Tryz.prog 9 #[] w fun e w'=>e=.returned (.bool true)∧Below w.heap.size w w':=by
 obtain⟨h3x,h3y,h3z,h3b⟩:=ak3 w
 obtain⟨w3,hw3⟩:∃ w3,((w.alloc akX).alloc akY).alloc ap=w3:=⟨_,rfl⟩
 rw [hw3] at h3x h3y h3z h3b
 unfold akX akY ap at hw3
 obtain⟨u1,u2,u3,u4,⟨e0,z0,y0⟩,⟨e1,z1,y1⟩,⟨e2,z2,y2⟩,⟨e3,z3,y3⟩,hZ,hB⟩:=aR (w.heap.size+1+1) 0 2 (.slice (some ⟨w.heap.size,0,none⟩) 2 2) (.slice (some ⟨w.heap.size+1,0,none⟩) 2 2) w3 h3z
 have HA:Hid (AkB w u4):=⟨hZ,Md ((hB.block _ (by omega)).trans h3x) ((hB.block _ (by omega)).trans h3y),h3b.trans (hB.mono (by omega))⟩
 have HJ:=hideS (Me u4)
 have HA5:=hideS (HA.out.step ((Below.refl _ u4).alloc (Nat.le_refl _) akO))
 obtain⟨w5,hw5⟩:∃ w5,u4.alloc akO=w5:=⟨_,rfl⟩
 rw [hw5] at HJ HA5
 unfold akO at hw5
 obtain⟨gl,hgl⟩:∃ gl,u4.heap.size=gl:=⟨_,rfl⟩
 rw [hgl] at HJ
 have q1:(FloatKind.f64.format.order 4598175219545276416 4598175219545276416==some .eq)=true:=by kernel_rfl
 have q2:(FloatKind.f64.format.order rqY 0==some .lt)=true:=by kernel_rfl
 have q3:(FloatKind.f64.format.order 0 0==some .eq)=true:=by kernel_rfl
 have q4:(FloatKind.f64.format.order rqY rqY==some .eq)=true:=by kernel_rfl
 have HBm:Hid (∀ wx,AkB w wx→Calls Tryz.prog 11 #[.agg #[.int .i64 0,.int .i64 2,.slice (some ⟨w.heap.size,0,none⟩) 2 2,.slice (some ⟨w.heap.size+1,0,none⟩) 2 2],.int .i64 1,.float .f64 0] wx fun e w'=>CvO wx rqC 0 e w'):=fun wx hx=>lz rqC rqC 1 0 0 _ _ _ _ 2 _ _ 2 wx (Km w) (by decide) hx.src
 have HPm:Hid (∀ wx,AkB w wx→Calls Tryz.prog 14 #[.agg #[.int .i64 0,.int .i64 2,.slice (some ⟨w.heap.size,0,none⟩) 2 2,.slice (some ⟨w.heap.size+1,0,none⟩) 2 2],.float .f64 0] wx fun e w'=>CvO wx rqC 0 e w'):=fun wx hx=>lA rqC rqC 0 0 _ _ _ _ 2 _ _ 2 wx (Ko w) (by decide) hx.src
 have HLa:Hid (∀ wx,AkB w wx→JSrc aF wx (some ⟨gl,0,none⟩) gl 0 rqL→Calls Tryz.prog 18 #[.slice (some ⟨gl,0,none⟩) 1 1,.int .i64 1,.agg #[.int .i64 0,.int .i64 2,.slice (some ⟨w.heap.size,0,none⟩) 2 2,.slice (some ⟨w.heap.size+1,0,none⟩) 2 2],.float .f64 4576918229304087675] wx fun e w'=>∃ g,e=.returned (.tuple #[.slice (some ⟨g,0,none⟩) 2 2,.int .i64 0])∧w'.cell? ⟨g,0,none⟩=some (.float .f64 rqY)∧w'.cell? ⟨g,1,none⟩=some (.float .f64 0)∧g<w'.heap.size∧Below wx.heap.size wx w'):=fun wx hx hj=>by
  refine (zC rqL 1 rqC rqH (some ⟨gl,0,none⟩) gl 0 1 1 _ _ _ _ 2 _ _ 2 wx (by decide) hj rfl (by decide) AK hx.src).mono ?_
  rintro e w' ⟨ho,hb⟩
  obtain⟨a1,a2,a3,a4⟩:=MM w
  rcases ho with⟨hn,_⟩| ⟨_,ho⟩
  ·exact absurd rqP.2 hn
  ·rcases ho with⟨k,hk,hE,_⟩| ⟨_,g,he,ho⟩
   ·exfalso
    have hk':k<2:=hk
    rcases (show k=0∨k=1 by omega) with rfl | rfl
    ·exact hE a2
    ·exact hE a4
   ·have hl:(List.range rqC.ds.length).map (lnV rqL 1 rqC rqH)=[rqY,0]:=by
     show [lnV rqL 1 rqC rqH 0,lnV rqL 1 rqC rqH 1]=_
     rw [a1,a3]
    rw [hl] at ho
    obtain⟨g',c',e',hs,_⟩:=dO (xs:=[rqY,0]) ho rfl (by decide)
    injection e' with e1 _ _
    injection e1 with e1
    injection e1 with e1
    subst e1
    exact⟨g,he,hs.cell 0 (by decide),hs.cell 1 (by decide),hs.lt (by decide),hb⟩
 have HDe:Hid (∀ wx,AkB w wx→JSrc aF wx (some ⟨gl,0,none⟩) gl 0 rqL→Calls Tryz.prog 22 #[.slice (some ⟨gl,0,none⟩) 1 1,.int .i64 1,.agg #[.int .i64 0,.int .i64 2,.slice (some ⟨w.heap.size,0,none⟩) 2 2,.slice (some ⟨w.heap.size+1,0,none⟩) 2 2],.float .f64 4576918229304087675] wx fun e w'=>e=.returned (.tuple #[.float .f64 rqY,.int .i64 0])∧Below wx.heap.size wx w'):=fun wx hx hj=>by
  refine (Dh rqL 1 rqC rqH (some ⟨gl,0,none⟩) gl 0 1 1 _ _ _ _ 2 _ _ 2 wx (by decide) hj rfl (by decide) AK hx.src).mono ?_
  rintro e w' ⟨ho,hb⟩
  obtain⟨a1,a2⟩:=MN w
  rcases ho with⟨hn,_⟩| ⟨_,ho⟩
  ·exact absurd rqP.2 hn
  ·rw [a1,a2] at ho;exact⟨ho,hb⟩
 clear h3x h3y h3z h3b hZ hB
 obtain⟨t0,t1,t2,t3⟩:=HA5.out.bx.t
 go_enter Tryz.func9,Tryz.ntmps9
 go_wp2_with fail
 clear hw3 e0 z0 y0 e1 z1 y1 e2 z2 y2 e3 z3 y3 hw5 hgl t0 t1 t2 t3 HA
 refine (HBm.out _ HA5.out).mono ?_
 intro e w6 ho
 obtain⟨gx,cx,gy,cy,he,hO⟩:=ho.ok rfl
 have he':e=.returned (.tuple #[.agg #[.int .i64 0,.int .i64 2,.slice (some ⟨gx,0,none⟩) 2 cx,.slice (some ⟨gy,0,none⟩) 2 cy],.int .i64 0]):=he
 subst he'
 obtain⟨u1,u2,u3,u4',⟨e0,z0,y0⟩,⟨e1,z1,y1⟩,⟨e2,z2,y2⟩,⟨e3,z3,y3⟩,hZ,hB⟩:=aR w6.heap.size 0 2 (.slice (some ⟨gx,0,none⟩) 2 cx) (.slice (some ⟨gy,0,none⟩) 2 cy) (w6.alloc ap) (heap_alloc_new _ _)
 have hB2:Below w6.heap.size w6 u4':=((Below.refl _ w6).alloc (Nat.le_refl _) ap).trans hB
 have HA7:=hideS ((HA5.out.step ho.bl).step hB2)
 have HJ7:=hideS ((HJ.out.below ho.bl).below hB2)
 have HZ7:=hideS hZ
 have HC7:=hideS (hO.below hB2).src.y
 obtain⟨w7,hw7⟩:∃ w7,w6.alloc ap=w7:=⟨_,rfl⟩
 rw [hw7] at e0 z0 y0
 unfold ap at hw7
 obtain⟨t0,t1,t2,t3⟩:=HA7.out.bx.t
 clear ho hO hB hB2 hZ HA5 HBm HJ he
 go_wp2_with fail
 clear hw7 e0 z0 y0 e1 z1 y1 e2 z2 y2 e3 z3 y3 t0 t1 t2 t3
 generalize w6.heap.size=gd at *
 refine (HPm.out _ HA7.out).mono ?_
 intro e w8 ho
 obtain⟨px,dx,py,dy,he,hO⟩:=ho.ok rfl
 have he':e=.returned (.tuple #[.agg #[.int .i64 0,.int .i64 2,.slice (some ⟨px,0,none⟩) 2 dx,.slice (some ⟨py,0,none⟩) 2 dy],.int .i64 0]):=he
 subst he'
 obtain⟨v1,v2,v3,v4,⟨e0,z0,y0⟩,⟨e1,z1,y1⟩,⟨e2,z2,y2⟩,⟨e3,z3,y3⟩,hZ,hB⟩:=aR w8.heap.size 0 2 (.slice (some ⟨px,0,none⟩) 2 dx) (.slice (some ⟨py,0,none⟩) 2 dy) (w8.alloc ap) (heap_alloc_new _ _)
 have hB2:Below w8.heap.size w8 v4:=((Below.refl _ w8).alloc (Nat.le_refl _) ap).trans hB
 have HA9:=hideS ((HA7.out.step ho.bl).step hB2)
 have HJ9:=hideS ((HJ7.out.below ho.bl).below hB2)
 have HZ9:=hideS ((HZ7.out.step ho.bl).step hB2)
 have HC9:=hideS ((HC7.out.below ho.bl).below hB2)
 have HP9:=hideS hZ
 obtain⟨w9,hw9⟩:∃ w9,w8.alloc ap=w9:=⟨_,rfl⟩
 rw [hw9] at e0 z0 y0
 unfold ap at hw9
 obtain⟨t0,t1,t2,t3⟩:=HA9.out.bx.t
 clear ho hO hB hB2 hZ HA7 HPm HJ7 HZ7 HC7 he
 go_wp2_with fail
 clear hw9 e0 z0 y0 e1 z1 y1 e2 z2 y2 e3 z3 y3 t0 t1 t2 t3
 generalize w8.heap.size=gp at *
 refine (HLa.out _ HA9.out HJ9.out).mono ?_
 rintro e wa ⟨g,rfl,k0,k1,kl,hba⟩
 have HAa:=hideS (HA9.out.step hba)
 have HJa:=hideS (HJ9.out.below hba)
 have HZa:=hideS (HZ9.out.step hba)
 have HCa:=hideS (HC9.out.below hba)
 have HPa:=hideS (HP9.out.step hba)
 have HK:=hideS (And.intro k0 (And.intro k1 kl))
 clear hba HA9 HJ9 HZ9 HC9 HP9 HLa k0 k1 kl
 obtain⟨t0,t1,t2,t3⟩:=HAa.out.bx.t
 go_wp2_with fail
 clear t0 t1 t2 t3
 refine (HDe.out _ HAa.out HJa.out).mono ?_
 rintro e wb ⟨rfl,hbb⟩
 have HBl:=hideS (HAa.out.step hbb).bl
 obtain⟨_,_,_,d3⟩:=(HZa.out.step hbb).t
 obtain⟨_,_,_,p3⟩:=(HPa.out.step hbb).t
 have c1:=(HCa.out.below hbb).cell 1 (by decide)
 have k0:=(hbb.cell (p:=⟨g,0,none⟩) HK.out.2.2).trans HK.out.1
 have k1:=(hbb.cell (p:=⟨g,1,none⟩) HK.out.2.2).trans HK.out.2.1
 have c1':wb.cell? ⟨gy,1,none⟩=some (.float .f64 4598175219545276416):=c1
 clear hbb HAa HJa HZa HCa HPa HK HDe c1
 go_wp2_with fail
 go_ret
 exact⟨rfl,HBl.out⟩
end Go.Proofs.YtpddmnmhdahnlaaGreat
namespace Go.Proofs.YtpddmnmhdahnlaaGreat
open Go.RowKit

end Go.Proofs.YtpddmnmhdahnlaaGreat
namespace Go.Proofs.YtpddmnmhdahnlaaGreat
open Go.RowKit

end Go.Proofs.YtpddmnmhdahnlaaGreat
