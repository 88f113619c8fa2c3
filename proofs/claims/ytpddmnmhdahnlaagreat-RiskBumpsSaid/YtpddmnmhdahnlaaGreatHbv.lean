/-  -/
import Derived.Test.YtpddmnmhdahnlaaGreatHbu
import Derived.Test.YtpddmnmhdahnlaaGreatHbp
import Derived.Test.YtpddmnmhdahnlaaGreatHbd
import Derived.Test.YtpddmnmhdahnlaaGreatHbb
import Derived.Test.YtpddmnmhdahnlaaGreatHbt
import Derived.Test.YtpddmnmhdahnlaaGreatFnv
namespace Go.Proofs.YtpddmnmhdahnlaaGreat
open Go.RowKit

structure YrD (P:Int) (T:Nat) (np nq:Bool) (X Y:Nat):Prop where
 w1:∀ wx,Calls Tryz.prog 82 #[.int .i64 P] wx fun e w'=>∃ v,e=.returned (.agg #[.bool np,v,.int .i64 0])∧DN w' v X∧Below wx.heap.size wx w'
 w2:∀ wx,Calls Tryz.prog 82 #[.int .i64 365] wx fun e w'=>∃ v,e=.returned (.agg #[.bool nq,v,.int .i64 0])∧DN w' v Y∧Below wx.heap.size wx w'
 w3:∀ vx vy wx,DN wx vx X→DN wx vy Y→Calls Tryz.prog 81 #[.agg #[.bool np,vx,.int .i64 0],.agg #[.bool nq,vy,.int .i64 0]] wx fun e w'=>e=.returned (.int .u64 (T:Int))∧Below wx.heap.size wx w'
theorem LS {base d:Int} (h0:base<d) (h1:d - base≤109572):∃ np nq X Y,YrD (d - base) (rkT base d) np nq X Y:=
 ⟨_,_,_,_,fun wx=>kO _ wx (by omega) (by omega),fun wx=>kO 365 wx (by omega) (by omega),fun vx vy wx hx hy=>by
  have:=CI (d - base) 365 (decide ((365:Int)<0)) vx vy wx hx hy (by omega) (by omega) (by omega) (by omega)
  rw [LN (by omega) (by omega)] at this
  exact this⟩
structure FcD (T h f m fm x u:Nat):Prop where
 m1:∀ wx,Calls Tryz.prog 83 #[.int .u64 (h:Int),.int .u64 (T:Int)] wx fun e w'=>e=.returned (.int .u64 (m:Int))∧Below wx.heap.size wx w'
 m2:∀ wx,Calls Tryz.prog 53 #[.int .u64 (m:Int)] wx fun e w'=>e=.returned (.int .u64 (fm:Int))∧wx=w'
 m3:∀ wx,Calls Tryz.prog 84 #[.int .u64 (fm:Int)] wx fun e w'=>e=.returned (.int .u64 (x:Int))∧Below wx.heap.size wx w'
 m4:∀ wx,Calls Tryz.prog 83 #[.int .u64 (f:Int),.int .u64 (x:Int)] wx fun e w'=>e=.returned (.int .u64 (u:Int))∧Below wx.heap.size wx w'
theorem LT {c:Cv} {k h:Nat} (ok:c.Ok) (hv:c.Fit) (hk:k<c.ds.length) (hh:h<18446744073709551616) (hn:af h):∃ m fm x,FcD (rkT c.base (c.ds.getD k 0)) h (c.fs.getD k 0) m fm x (c.bm k h):=by
 obtain⟨d0,d1⟩:=ok.day hk
 have b0:=ok.b0
 obtain⟨t0,t1⟩:=mQ d0 (by omega)
 obtain⟨m,hm,hml,hx,hxl⟩:=zc (base:=c.base) (d:=c.ds.getD k 0) hn t0
 obtain⟨_,hu,_,_,_⟩:=rX ok hv hk hn
 have hf:=hv k (by rw [ok.len];exact hk)
 refine⟨m,flipN m,rkX c.base (c.ds.getD k 0) h,fun wx=>?_,fun wx=>jm m m _ wx rfl (ah hml) rfl,fun wx=>?_,fun wx=>?_⟩
 ·have:=dW h (rkT c.base (c.ds.getD k 0)) _ _ wx rfl rfl (ah hh) (ah t1)
  rw [hm,aq] at this
  exact this
 ·have:=(bY (bS hml).1).doc wx
  rw [hx,aq] at this
  exact this
 ·have:=dW (c.fs.getD k 0) (rkX c.base (c.ds.getD k 0) h) _ _ wx rfl rfl (ah hf) (ah (by omega))
  rw [hu,aq] at this
  exact this
noncomputable def bqV (c:Cv) (i j h k:Nat):Nat:=if i≤k∧k<j then c.bm k h else c.fs.getD k 0
noncomputable def bqL (c:Cv) (i j h n:Nat):List Nat:=(List.range n).map (bqV c i j h)
theorem Hd (c:Cv) (i j h k:Nat):bqL c i j h (k+1)=bqL c i j h k++[bqV c i j h k]:=by
 unfold bqL
 rw [List.range_succ,List.map_append];rfl
theorem bP (c:Cv) (i j h k:Nat):(bqL c i j h k).length=k:=by unfold bqL;simp
theorem LU (w:World) (base kind:Int) (vd vf:Value):OfC w base kind vd vf (.slice none 0 0) (((w.alloc (.cells #[.int .i64 base,.int .i64 kind,vd,vf] 30)).alloc (.cells #[.int .i64 0,.int .i64 0,.slice none 0 0,.slice none 0 0] 30)).alloc (.cells #[.int .i64 base,.int .i64 kind,vd,.slice none 0 0] 30)):=by
 have hA:∀ (w:World) o,Below w.heap.size w (w.alloc o):=fun w o=>(Below.refl _ _).alloc (Nat.le_refl _) _
 generalize hw1:w.alloc (.cells #[.int .i64 base,.int .i64 kind,vd,vf] 30)=w1
 have z1:w1.heap.size=w.heap.size+1:=by rw [← hw1];simp
 generalize hw2:w1.alloc (.cells #[.int .i64 0,.int .i64 0,.slice none 0 0,.slice none 0 0] 30)=w2
 have z2:w2.heap.size=w.heap.size+2:=by rw [← hw2];simp [z1]
 have c1:∀ j,w1.cell? ⟨w.heap.size,j,none⟩=(#[.int .i64 base,.int .i64 kind,vd,vf]:Array Value)[j]? :=fun j=>by rw [← hw1];exact eN w _ _ j
 have c2:∀ j,w2.cell? ⟨w.heap.size+1,j,none⟩=(#[.int .i64 0,.int .i64 0,.slice none 0 0,.slice none 0 0]:Array Value)[j]? :=fun j=>by rw [← hw2,← z1];exact eN w1 _ _ j
 have c3:∀ j,(w2.alloc (.cells #[.int .i64 base,.int .i64 kind,vd,.slice none 0 0] 30)).cell? ⟨w.heap.size+2,j,none⟩=(#[.int .i64 base,.int .i64 kind,vd,.slice none 0 0]:Array Value)[j]? :=fun j=>by rw [← z2];exact eN w2 _ _ j
 have k2:∀ j,w2.cell? ⟨w.heap.size,j,none⟩=w1.cell? ⟨w.heap.size,j,none⟩:=fun j=>by rw [← hw2];exact (hA w1 _).cell (p:=⟨w.heap.size,j,none⟩) (by show w.heap.size<w1.heap.size;omega)
 have k3:∀ k<2,∀ j o,(w2.alloc o).cell? ⟨w.heap.size+k,j,none⟩=w2.cell? ⟨w.heap.size+k,j,none⟩:=fun k hk j o=>(hA w2 o).cell (p:=⟨w.heap.size+k,j,none⟩) (by show w.heap.size+k<w2.heap.size;omega)
 have g3:∀ j o,(w2.alloc o).frozen? ⟨w.heap.size+1,j,none⟩=false:=fun j o=>by
  rw [(hA w2 o).frozen (p:=⟨w.heap.size+1,j,none⟩) (by show w.heap.size+1<w2.heap.size;omega),← hw2,← z1]
  exact World.frozen?_alloc_new _ _ _ _
 have hb:Below w.heap.size w (w2.alloc (.cells #[.int .i64 base,.int .i64 kind,vd,.slice none 0 0] 30)):=by
  have b1:Below w.heap.size w w1:=by rw [← hw1];exact hA w _
  have b2:Below w.heap.size w w2:=by rw [← hw2];exact b1.alloc b1.size _
  exact b2.alloc b2.size _
 exact⟨((k3 0 (by omega) 0 _).trans (k2 0)).trans (c1 0),((k3 0 (by omega) 1 _).trans (k2 1)).trans (c1 1),((k3 0 (by omega) 2 _).trans (k2 2)).trans (c1 2),((k3 0 (by omega) 3 _).trans (k2 3)).trans (c1 3),(k3 1 (by omega) 0 _).trans (c2 0),(k3 1 (by omega) 1 _).trans (c2 1),(k3 1 (by omega) 2 _).trans (c2 2),(k3 1 (by omega) 3 _).trans (c2 3),g3 0 _,g3 1 _,g3 2 _,g3 3 _,c3 0,c3 1,c3 2,c3 3,by rw [← z2];exact World.frozen?_alloc_new _ _ _ _,hb,by simp;omega⟩
structure BqO (w:World) (base kind:Int) (px:Option Addr) (n cx:Nat) (L:List Nat) (bad:Bool) (e:Ending) (w':World):Prop where
 no:bad=true→e=.returned (.tuple #[.agg #[.int .i64 0,.int .i64 0,.slice none 0 0,.slice none 0 0],.int .i64 91])
 yes:bad=false→∃ v,e=.returned (.tuple #[.agg #[.int .i64 base,.int .i64 kind,.slice px n cx,v],.int .i64 0])∧w'.ownsRow w.heap.size 37 1 v n (L.map uV)
 bl:Below w.heap.size w w'
theorem OfC.step {w wr w':World} {base kind:Int} {vd vf vo:Value} (h:OfC w base kind vd vf vo wr) (hb:Below wr.heap.size wr w'):OfC w base kind vd vf vo w':=h.stay (hb.mono h.sz)
theorem OfC.drewN {w wr:World} {base kind:Int} {vd vf vo:Value} (h:OfC w base kind vd vf vo wr) (q:Nat):OfC w base kind vd vf vo (wr.drewN q):=h.stay ⟨rfl,rfl,rfl,Nat.le_refl _,fun _ _=>rfl⟩
set_option maxRecDepth 40000 in
set_option maxHeartbeats 12800000 in
theorem dl (c:Cv) (i j h n K:Nat) (px py:Option Addr) (bx ox cx b2 oy cy:Nat) (w:World) (ok:c.Ok) (hs:CSrcD w px py bx ox b2 oy c.ds c.fs) (hv:c.Fit) (hn:c.ds.length=n) (hh:h<18446744073709551616) (hf:aH (h:Int)=true) (hK:K≤n) (hfine:∀ t<K,i≤t→t<j→bmB c t h=true) (hbad:K<n→i≤K∧K<j∧bmB c K h=false) :
  Calls Tryz.prog 39 #[.agg #[.int .i64 c.base,.int .i64 c.kind,.slice px n cx,.slice py n cy],.int .i64 i,.int .i64 j,.int .u64 (h:Int)] w fun e w'=>BqO w c.base c.kind px n cx (bqL c i j h n) (decide (K<n)) e w':=by
 have hn255:n≤255:=by rw [← hn];exact ok.hi
 have HDy:Hid (∀ k<n,c.base<c.ds.getD k 0∧c.ds.getD k 0≤109572∧0≤c.base):=fun k hk=>⟨(ok.day (k:=k) (by omega)).1,(ok.day (k:=k) (by omega)).2,ok.b0⟩
 have HFc:Hid (∀ k<n,∃ m fm x,FcD (rkT c.base (c.ds.getD k 0)) h (c.fs.getD k 0) m fm x (c.bm k h)):=fun k hk=>LT ok hv (by omega) hh (bJ hf)
 have HUl:Hid (∀ k<n,c.bm k h<18446744073709551616∧ag (c.bm k h:Nat)=false):=fun k hk=>by
  obtain⟨_,_,a,b,_⟩:=rX (k:=k) ok hv (by omega) (bJ hf)
  exact⟨a,b⟩
 have HBm:Hid (∀ k,bmB c k h=rkB (c.bm k h)):=fun k=>by unfold bmB;rw [hf];exact Bool.true_and _
 have hl2:=ok.len
 have Hx:Hid (c.ds.length=n):=hn
 have Hy:Hid (c.fs.length=n):=by show _=_;omega
 have Hfi:=hideS hfine
 have Hba:=hideS hbad
 clear ok hv hn hf hfine hbad hl2 hh
 obtain⟨base,hbase⟩:∃ b,c.base=b:=⟨_,rfl⟩
 obtain⟨kind,hkind⟩:∃ b,c.kind=b:=⟨_,rfl⟩
 rw [hbase] at HDy HFc
 rw [hbase,hkind]
 clear hbase hkind
 have HY:=hideS hs
 have HB:=hideS (LU w base kind (.slice px n cx) (.slice py n cy))
 have p0:∀ o,((w.alloc (.cells #[.int .i64 base,.int .i64 kind,(.slice px n cx),.slice py n cy] 30)).alloc o).cell? ⟨w.heap.size,0,none⟩=some (.int .i64 base):=fun o=>lk w _ _ o 0
 have p1:∀ o,((w.alloc (.cells #[.int .i64 base,.int .i64 kind,(.slice px n cx),.slice py n cy] 30)).alloc o).cell? ⟨w.heap.size,1,none⟩=some (.int .i64 kind):=fun o=>lk w _ _ o 1
 have p2:∀ o,((w.alloc (.cells #[.int .i64 base,.int .i64 kind,(.slice px n cx),.slice py n cy] 30)).alloc o).cell? ⟨w.heap.size,2,none⟩=some (.slice px n cx):=fun o=>lk w _ _ o 2
 clear hs
 go_enter Tryz.func39,Tryz.ntmps39
 go_wp2_with fail
 clear p0 p1 p2
 go_loopw [11,12,13] (fun a _ _ wr=>∃ k:Nat,k≤K∧a=.int .i64 k∧Hid (∃ v,wr.ownsRow (w.heap.size+3) 37 1 v k ((bqL c i j h k).map uV)∧OfC w base kind (.slice px n cx) (.slice py n cy) v wr)) (fun a _ _ _=>n - (intOf a).toNat)
 case atStart=>exact⟨0,Nat.zero_le _,rfl,_,ut _ _,HB.out⟩
 case round=>
  clear HB
  obtain⟨k,hk,rfl,HH⟩:=hrel
  obtain⟨v,ho,hb⟩:=HH.out
  obtain⟨q0,g0,cc0,rfl,_,_,_,_⟩:=cm ho (bP _ _ _ _ _)
  have HO:=hideS ho
  have HB:=hideS hb
  clear ho hb HH
  have t3:=HB.out.t3
  by_cases hlt:k<n
  ·obtain rfl:=HY.out.f.at_ (by rw [Hy.out];omega)
   obtain rfl:=HY.out.d.at_ (by rw [Hx.out];omega)
   have hcy:wr.cell? ⟨b2,oy+k,none⟩=some (.int .u64 (c.fs.getD k 0:Nat)):=(HB.out.bl.cell (p:=⟨b2,oy+k,none⟩) (HY.out.f.lt (by rw [Hy.out];omega))).trans (HY.out.f.cell k (by rw [Hy.out];exact hlt))
   have hcx:wr.cell? ⟨bx,ox+k,none⟩=some (.int .i64 (c.ds.getD k 0)):=(HB.out.bl.cell (p:=⟨bx,ox+k,none⟩) (HY.out.d.lt (by rw [Hx.out];omega))).trans (HY.out.d.cell k (by rw [Hx.out];exact hlt))
   have HCx:Hid (∀ wx,Below w.heap.size w wx→wx.cell? ⟨bx,ox+k,none⟩=some (.int .i64 (c.ds.getD k 0))):=fun wx hb=>(hb.cell (p:=⟨bx,ox+k,none⟩) (HY.out.d.lt (by rw [Hx.out];omega))).trans (HY.out.d.cell k (by rw [Hx.out];exact hlt))
   obtain⟨d0,d1,d2⟩:=HDy.out k hlt
   obtain⟨m,fm,x,hF⟩:=HFc.out k hlt
   obtain⟨np,nq,X,Y,hP⟩:=LS d0 (by omega)
   have HF:=hideS hF
   have HP:=hideS hP
   have HN0:=hideS (Hd c i j h k)
   have hV:bqV c i j h k=if i≤k∧k<j then c.bm k h else c.fs.getD k 0:=rfl
   obtain⟨ul,un⟩:=HUl.out k hlt
   have hbk:=HBm.out k
   unfold rkB at hbk
   have hltB:ltB 0 (c.bm k h:Nat)=decide (0<aa (c.bm k h:Nat)):=by rw [ax (by decide) un,show aa 0=0 by decide]
   rw [← hltB] at hbk
   have HNm:=hideS fun wx=>fO (c.bm k h:Nat) wx (ah ul)
   have HLt:=hideS fun wx=>qF 0 (c.bm k h:Nat) wx (by unfold U64;omega) (ah ul)
   have hFi:=Hfi.out k
   have hBa:=Hba.out
   clear hF hP hltB un
   obtain⟨P,hPd⟩:∃ P,c.ds.getD k 0 - base=P:=⟨_,rfl⟩
   have hw0:IntKind.i64.wrap (c.ds.getD k 0 - base)=P:=by rw [IntKind.wrap_i64];omega
   rw [hPd] at HP
   generalize aH (c.bm k h:Nat)=b1 at *
   generalize ltB 0 (c.bm k h:Nat)=b2' at *
   generalize rkT base (c.ds.getD k 0)=T at *
   generalize c.bm k h=u at *
   generalize c.fs.getD k 0=f at *
   generalize c.ds.getD k 0=D at *
   have l1:(0:Int)≤(k:Int):=Int.natCast_nonneg _
   have l2:(k:Int)<(n:Int):=by omega
   clear hPd d0 d1 d2
   by_cases hin:i≤k∧k<j
   ·rw [if_pos hin] at hV
    rw [hV] at HN0
    have l3:(i:Int)≤(k:Int):=by omega
    have l4:(k:Int)<(j:Int):=by omega
    obtain⟨hi1,hi2⟩:=hin
    clear hV
    go_wp2_with fail
    have HS1:=hideS (And.intro HB.out.t0 (And.intro HB.out.t2 (HCx.out _ HB.out.bl)))
    clear t3 hcy hcx
    go_region_held3 (fun w'=>w'.cell? ⟨w.heap.size,0,none⟩=some (.int .i64 base)∧w'.cell? ⟨w.heap.size,2,none⟩=some (.slice (some ⟨bx,ox,none⟩) n cx)∧w'.cell? ⟨bx,ox+k,none⟩=some (.int .i64 D)) (first | exact HS1.out | exact HS2.out | exact HS3.out | exact HS4.out | go_keep) (first | ((go_at_call_of 82 (Value.int IntKind.i64 P);refine (HP.out.w1 _).mono ?_;rintro e w2 ⟨vx,rfl,hdx,hb2⟩;obtain⟨p1,n1,c1,rfl⟩:=cI hdx;have HB2:=hideS (HB.out.step ((Below.refl wr.heap.size wr).drew.trans hb2));have HO2:=hideS (bp HO.out ((Below.refl wr.heap.size wr).drew.trans hb2));have HS2:=hideS (And.intro HB2.out.t0 (And.intro HB2.out.t2 (HCx.out _ HB2.out.bl)));have HDx:=hideS hdx;clear hb2 hdx)) | ((go_at_call_of 82 (Value.int IntKind.i64 365);refine (HP.out.w2 _).mono ?_;rintro e w3 ⟨vy,rfl,hdy,hb3⟩;obtain⟨p2,n2,c2,rfl⟩:=cI hdy;have HB3:=hideS (HB2.out.step hb3);have HO3:=hideS (bp HO2.out hb3);have HS3:=hideS (And.intro HB3.out.t0 (And.intro HB3.out.t2 (HCx.out _ HB3.out.bl)));have HDx3:=hideS (HDx.out.below hb3);have HDy3:=hideS hdy;clear hb3 hdy)) | ((go_at_call 81;refine (HP.out.w3 _ _ _ HDx3.out HDy3.out).mono ?_;rintro e w4 ⟨rfl,hb4⟩;have HB4:=hideS (HB3.out.step hb4);have HO4:=hideS (bp HO3.out hb4);have HS4:=hideS (And.intro HB4.out.t0 (And.intro HB4.out.t2 (HCx.out _ HB4.out.bl)));clear hb4)))
    all_goals
     clear HB HB2 HB3 HO HO2 HO3 HS1 HS2 HS3 HS4 HP HDx HDx3 HDy3 hw0
     go_wp2_with fail
     refine (HF.out.m1 _).mono ?_
     rintro e w5 ⟨rfl,hb5⟩
     have HB5:=hideS (HB4.out.step hb5)
     have HO5:=hideS (bp HO4.out hb5)
     clear hb5 HB4 HO4
     go_wp2_with fail
     refine (HF.out.m2 _).mono ?_
     rintro e w6 ⟨rfl,rfl⟩
     go_wp2_with fail
     refine (HF.out.m3 _).mono ?_
     rintro e w7 ⟨rfl,hb7⟩
     have HB7:=hideS (HB5.out.step hb7)
     have HO7:=hideS (bp HO5.out hb7)
     clear hb7 HB5 HO5
     go_wp2_with fail
     refine (HF.out.m4 _).mono ?_
     rintro e w8 ⟨rfl,hb8⟩
     have HB8:=hideS (HB7.out.step hb8)
     have HO8:=hideS (bp HO7.out hb8)
     clear hb8 HB7 HO7 HF
     go_wp2_with fail
     refine (turned (HNm.out _)).mono ?_
     rintro e w9 ⟨rfl,rfl⟩
     cases b1
     ·have hbk:bmB c k h=false:=hbk
      obtain rfl:k=K:=Nat.le_antisymm hk (Nat.le_of_not_lt fun e=>by have:=hFi e hi1 hi2;rw [hbk] at this;cases this)
      clear hFi hBa hbk HN0
      obtain⟨_,_,_,_,d0,d1,d2,d3,e0,e1,e2,e3,_,_,_,_,_,_,_⟩:=HB8.out
      go_wp2_with fail
      refine bodyPost_ret (v:=.tuple #[.agg #[.int .i64 0,.int .i64 0,.slice none 0 0,.slice none 0 0],.int .i64 91]) (by simp [results,Tryz.results39,go_sem,d0,d1,d2,d3]) rfl ?_
      have hs:∀ j,w.heap.size≤(⟨w.heap.size+1,j,none⟩:Addr).block:=fun j=>by show w.heap.size≤w.heap.size+1;omega
      have hbl:Below w.heap.size w ((((w8.setCell ⟨w.heap.size+1,0,none⟩ (.int .i64 0)).setCell ⟨w.heap.size+1,1,none⟩ (.int .i64 0)).setCell ⟨w.heap.size+1,2,none⟩ (.slice none 0 0)).setCell ⟨w.heap.size+1,3,none⟩ (.slice none 0 0)):=(((HB8.out.bl.setCell (hs 0) _).setCell (hs 1) _).setCell (hs 2) _).setCell (hs 3) _
      exact⟨fun _=>rfl,fun e=>(by first | exact absurd hlt (of_decide_eq_false e) | cases e),hbl⟩
     ·have hbk:bmB c k h=b2':=hbk
      go_wp2_with fail
      refine (turned (HLt.out _)).mono ?_
      rintro e w9 ⟨rfl,rfl⟩
      cases b2'
      ·skip
       obtain rfl:k=K:=Nat.le_antisymm hk (Nat.le_of_not_lt fun e=>by have:=hFi e hi1 hi2;rw [hbk] at this;cases this)
       clear hFi hBa hbk HN0
       obtain⟨_,_,_,_,d0,d1,d2,d3,e0,e1,e2,e3,_,_,_,_,_,_,_⟩:=HB8.out
       go_wp2_with fail
       refine bodyPost_ret (v:=.tuple #[.agg #[.int .i64 0,.int .i64 0,.slice none 0 0,.slice none 0 0],.int .i64 91]) (by simp [results,Tryz.results39,go_sem,d0,d1,d2,d3]) rfl ?_
       have hs:∀ j,w.heap.size≤(⟨w.heap.size+1,j,none⟩:Addr).block:=fun j=>by show w.heap.size≤w.heap.size+1;omega
       have hbl:Below w.heap.size w ((((w8.setCell ⟨w.heap.size+1,0,none⟩ (.int .i64 0)).setCell ⟨w.heap.size+1,1,none⟩ (.int .i64 0)).setCell ⟨w.heap.size+1,2,none⟩ (.slice none 0 0)).setCell ⟨w.heap.size+1,3,none⟩ (.slice none 0 0)):=(((HB8.out.bl.setCell (hs 0) _).setCell (hs 1) _).setCell (hs 2) _).setCell (hs 3) _
       exact⟨fun _=>rfl,fun e=>(by first | exact absurd hlt (of_decide_eq_false e) | cases e),hbl⟩
      ·have hkK:k<K:=Nat.lt_of_le_of_ne hk (fun e=>by obtain⟨_,_,a3⟩:=hBa (by omega);rw [← e,hbk] at a3;cases a3)
       have HN:=HN0
       clear hFi hBa hbk HN0 HNm HLt ul
       have HOa:Hid (∀ o,(w8.alloc o).ownsRow (w.heap.size+3) 37 1 (.slice q0 k cc0) k ((bqL c i j h k).map uV)):=fun o=>bp HO8.out ((Below.refl _ w8).alloc (Nat.le_refl _) o)
       have HBa:Hid (∀ o,OfC w base kind (.slice (some ⟨bx,ox,none⟩) n cx) (.slice (some ⟨b2,oy,none⟩) n cy) (.slice q0 k cc0) (w8.alloc o)):=fun o=>HB8.out.step ((Below.refl _ w8).alloc (Nat.le_refl _) o)
       have o3:=HB8.out.o3
       have y3:=(HBa.out (.cells #[.int .u64 (u:Int)] 37)).o3
       go_wp2_with (at_builtin;refine cV _ rfl (.tmp 69) (.tmp 71) rfl (w.heap.size+3) _ k (bqL c i j h k) rfl (HOa.out _) w8.heap.size u rfl (by simp) (by omega) (HBa.out (.cells #[.int .u64 (u:Int)] 37)).sz ?_;intro v6 w6 ho6 hg6;obtain⟨q6,g6,c6,rfl,_,_,_,_⟩:=cm ho6 (by rw [List.length_append,bP];rfl);have HB6:=hideS ((HBa.out _).stay (dH (HOa.out _) hg6 (HBa.out (.cells #[.int .u64 (u:Int)] 37)).sz));have HO6:=hideS ho6;have c2:=HB6.out.o3;have c3:=HB6.out.f3;clear ho6 hg6 o3 y3)
       go_roundw
       case rel=>exact⟨k+1,by omega,by simp,_,by rw [HN.out];exact aW HO6.out (by omega) _,HB6.out.put _⟩
       case measure=>simp [intOf];omega
   ·rw [if_neg hin] at hV
    rw [hV] at HN0
    have HN:=HN0
    have hkK:k<K:=by
     apply Nat.lt_of_le_of_ne hk
     intro e
     obtain⟨a1,a2,_⟩:=hBa (by omega)
     omega
    clear HN0 HF HP HNm HLt hbk hFi hBa hw0 hcx ul
    have l5:(i:Int)≤(k:Int)→¬ (k:Int)<(j:Int):=by omega
    by_cases l3:(i:Int)≤(k:Int)
    ·have l4:=l5 l3
     clear l5 hin
     have HOa:Hid (∀ o,(wr.alloc o).ownsRow (w.heap.size+3) 37 1 (.slice q0 k cc0) k ((bqL c i j h k).map uV)):=fun o=>bp HO.out ((Below.refl _ wr).alloc (Nat.le_refl _) o)
     have HBa:Hid (∀ o,OfC w base kind (.slice (some ⟨bx,ox,none⟩) n cx) (.slice (some ⟨b2,oy,none⟩) n cy) (.slice q0 k cc0) (wr.alloc o)):=fun o=>HB.out.step ((Below.refl _ wr).alloc (Nat.le_refl _) o)
     have o3:=HB.out.o3
     have y3:=(HBa.out (.cells #[.int .u64 (f:Int)] 37)).o3
     go_wp2_with (at_builtin;refine cV _ rfl (.tmp 69) (.tmp 71) rfl (w.heap.size+3) _ k (bqL c i j h k) rfl (HOa.out _) wr.heap.size f rfl (by simp) (by omega) (HBa.out (.cells #[.int .u64 (f:Int)] 37)).sz ?_;intro v6 w6 ho6 hg6;obtain⟨q6,g6,c6,rfl,_,_,_,_⟩:=cm ho6 (by rw [List.length_append,bP];rfl);have HB6:=hideS ((HBa.out _).stay (dH (HOa.out _) hg6 (HBa.out (.cells #[.int .u64 (f:Int)] 37)).sz));have HO6:=hideS ho6;have c2:=HB6.out.o3;have c3:=HB6.out.f3;clear ho6 hg6 o3 y3)
     go_roundw
     case rel=>exact⟨k+1,by omega,by simp,_,by rw [HN.out];exact aW HO6.out (by omega) _,HB6.out.put _⟩
     case measure=>simp [intOf];omega
    ·have l6:(k:Int)<(i:Int):=by omega
     clear l5 hin l3
     have HOa:Hid (∀ o,(wr.alloc o).ownsRow (w.heap.size+3) 37 1 (.slice q0 k cc0) k ((bqL c i j h k).map uV)):=fun o=>bp HO.out ((Below.refl _ wr).alloc (Nat.le_refl _) o)
     have HBa:Hid (∀ o,OfC w base kind (.slice (some ⟨bx,ox,none⟩) n cx) (.slice (some ⟨b2,oy,none⟩) n cy) (.slice q0 k cc0) (wr.alloc o)):=fun o=>HB.out.step ((Below.refl _ wr).alloc (Nat.le_refl _) o)
     have o3:=HB.out.o3
     have y3:=(HBa.out (.cells #[.int .u64 (f:Int)] 37)).o3
     go_wp2_with (at_builtin;refine cV _ rfl (.tmp 69) (.tmp 71) rfl (w.heap.size+3) _ k (bqL c i j h k) rfl (HOa.out _) wr.heap.size f rfl (by simp) (by omega) (HBa.out (.cells #[.int .u64 (f:Int)] 37)).sz ?_;intro v6 w6 ho6 hg6;obtain⟨q6,g6,c6,rfl,_,_,_,_⟩:=cm ho6 (by rw [List.length_append,bP];rfl);have HB6:=hideS ((HBa.out _).stay (dH (HOa.out _) hg6 (HBa.out (.cells #[.int .u64 (f:Int)] 37)).sz));have HO6:=hideS ho6;have c2:=HB6.out.o3;have c3:=HB6.out.f3;clear ho6 hg6 o3 y3)
     go_roundw
     case rel=>exact⟨k+1,by omega,by simp,_,by rw [HN.out];exact aW HO6.out (by omega) _,HB6.out.put _⟩
     case measure=>simp [intOf];omega
  ·obtain rfl:k=n:=by omega
   have hKk:¬ K<k:=by omega
   clear Hfi Hba HDy HFc HUl HBm
   have hge:¬ (k:Int)<(k:Int):=by omega
   have hsz:=HB.out.sz
   obtain⟨t0,t1,t2,_,d0,d1,d2,d3,e0,e1,e2,e3,o0,o1,o2,o3,f3,_,_⟩:=HB.out
   go_wp2_with fail
   refine bodyPost_ret (v:=.tuple #[.agg #[.int .i64 base,.int .i64 kind,.slice px k cx,.slice q0 k cc0],.int .i64 0]) (by simp [results,Tryz.results39,go_sem,d0,d1,d2,d3]) rfl ?_
   have hs:∀ j,w.heap.size≤(⟨w.heap.size+1,j,none⟩:Addr).block:=fun j=>by show w.heap.size≤w.heap.size+1;omega
   have hbl:Below w.heap.size w ((((wr.setCell ⟨w.heap.size+1,0,none⟩ (.int .i64 base)).setCell ⟨w.heap.size+1,1,none⟩ (.int .i64 kind)).setCell ⟨w.heap.size+1,2,none⟩ (.slice px k cx)).setCell ⟨w.heap.size+1,3,none⟩ (.slice q0 k cc0)):=(((HB.out.bl.setCell (hs 0) _).setCell (hs 1) _).setCell (hs 2) _).setCell (hs 3) _
   exact⟨fun e=>(by first | exact absurd (of_decide_eq_true e) hKk | cases e),fun _=>⟨_,rfl,eO (aW (aW (aW (aW HO.out (by omega) _) (by omega) _) (by omega) _) (by omega) _) (by omega)⟩,hbl⟩
end Go.Proofs.YtpddmnmhdahnlaaGreat
namespace Go.Proofs.YtpddmnmhdahnlaaGreat
open Go.RowKit

structure DpB (w:World) (base kind:Int) (vd vf:Value) (wr:World):Prop where
 k:DxK wr w.heap.size base kind vd vf
 z:wr.heap[w.heap.size+1]? =some aw
 bl:Below w.heap.size w wr
 sz:w.heap.size+2≤wr.heap.size
theorem pH (w:World) (base kind:Int) (vd vf:Value):DpB w base kind vd vf ((w.alloc (.cells #[.int .i64 base,.int .i64 kind,vd,vf] 30)).alloc aw):=by
 have s1:(w.alloc (.cells #[.int .i64 base,.int .i64 kind,vd,vf] 30)).heap.size=w.heap.size+1:=by simp
 have b:=(Below.refl (w.heap.size+1) (w.alloc (.cells #[.int .i64 base,.int .i64 kind,vd,vf] 30))).alloc (by omega) aw
 refine⟨⟨?_⟩,?_,((Below.refl _ _).alloc (Nat.le_refl _) _).alloc (by omega) _,by simp⟩
 ·rw [b.block _ (by omega)];exact heap_alloc_new _ _
 ·rw [← s1];exact heap_alloc_new _ _
theorem DpB.step {w wr w':World} {base kind:Int} {vd vf:Value} (h:DpB w base kind vd vf wr) (hb:Below wr.heap.size wr w'):DpB w base kind vd vf w':=
 ⟨h.k.step hb,(hb.block _ (by have:=h.sz;omega)).trans h.z,h.bl.trans (hb.mono h.bl.size),Nat.le_trans h.sz hb.size⟩
structure DvE (w:World) (E:Int) (e:Ending) (w':World):Prop where
 e:e=.returned (.tuple #[.agg #[.int .i64 0,.int .i64 0,.slice none 0 0,.slice none 0 0],.int .i64 E])
 bl:Below w.heap.size w w'
theorem pI {w5 u1 u2 u3 u4:World} {B b n:Nat} {v:Value} {xs:List Nat} {x0 x1 x2 x3:Value} (h:w5.ownsRow B 37 1 v n (xs.map uV)) (hb:b<B) (e0:w5.setCell ⟨b,0,none⟩ x0=u1) (e1:u1.setCell ⟨b,1,none⟩ x1=u2) (e2:u2.setCell ⟨b,2,none⟩ x2=u3) (e3:u3.setCell ⟨b,3,none⟩ x3=u4):u4.ownsRow B 37 1 v n (xs.map uV):=by
 rw [← e3,← e2,← e1,← e0]
 exact aW (aW (aW (aW h hb _) hb _) hb _) hb _
def Db (w:World) (base kind E:Int) (vd vf:Value):Prop:=∀ wx,Below w.heap.size w wx→Calls Tryz.prog 37 #[.agg #[.int .i64 base,.int .i64 kind,vd,vf]] wx fun e w'=>e=.returned (.int .i64 E)∧Below wx.heap.size wx w'

set_option maxRecDepth 20000 in
set_option maxHeartbeats 3200000 in
theorem wU (base kind E:Int) (i:Int) (h:Int) (vd vf:Value) (w:World) (hE:E≠0) (HC:Hid (Db w base kind E vd vf)) :
  Calls Tryz.prog 12 #[.agg #[.int .i64 base,.int .i64 kind,vd,vf],.int .i64 i,.int .u64 h] w fun e w'=>DvE w E e w':=by
 have dE:(E !=0)=true:=bne_iff_ne.2 hE
 clear hE
 have HB:=hideS (pH w base kind (vd) (vf))
 obtain⟨w2,hw2⟩:∃ w2,(w.alloc (.cells #[.int .i64 base,.int .i64 kind,vd,vf] 30)).alloc aw=w2:=⟨_,rfl⟩
 rw [hw2] at HB
 unfold aw at hw2
 obtain⟨t0,t1,t2,t3⟩:=HB.out.k.t
 go_enter Tryz.func12,Tryz.ntmps12
 go_wp2_with fail
 clear hw2 t0 t1 t2 t3
 refine (HC.out _ HB.out.bl).mono ?_
 rintro e w3 ⟨rfl,hb3⟩
 have HB3:=hideS (HB.out.step hb3)
 clear hb3 HC HB
 obtain⟨u1,u2,u3,u4,⟨e0,z0,y0⟩,⟨e1,z1,y1⟩,⟨e2,z2,y2⟩,⟨e3,z3,y3⟩,hZ,hB⟩:=bO (w.heap.size+1) 0 0 (.slice none 0 0) (.slice none 0 0) w3 HB3.out.z
 have HBl:=hideS (HB3.out.bl.trans (hB.mono (by omega)))
 obtain⟨s0,s1,s2,s3⟩:=hZ.t
 clear hZ hB
 go_wp2_with fail
 refine bodyPost_ret (v:=.tuple #[.agg #[.int .i64 0,.int .i64 0,.slice none 0 0,.slice none 0 0],.int .i64 E]) (by simp [results,Tryz.results12,go_sem,s0,s1,s2,s3]) rfl ?_
 exact⟨rfl,HBl.out⟩

set_option maxRecDepth 20000 in
set_option maxHeartbeats 3200000 in
theorem zl (base kind E:Int) (h:Int) (vd vf:Value) (w:World) (hE:E≠0) (HC:Hid (Db w base kind E vd vf)) :
  Calls Tryz.prog 15 #[.agg #[.int .i64 base,.int .i64 kind,vd,vf],.int .u64 h] w fun e w'=>DvE w E e w':=by
 have dE:(E !=0)=true:=bne_iff_ne.2 hE
 clear hE
 have HB:=hideS (pH w base kind (vd) (vf))
 obtain⟨w2,hw2⟩:∃ w2,(w.alloc (.cells #[.int .i64 base,.int .i64 kind,vd,vf] 30)).alloc aw=w2:=⟨_,rfl⟩
 rw [hw2] at HB
 unfold aw at hw2
 obtain⟨t0,t1,t2,t3⟩:=HB.out.k.t
 go_enter Tryz.func15,Tryz.ntmps15
 go_wp2_with fail
 clear hw2 t0 t1 t2 t3
 refine (HC.out _ HB.out.bl).mono ?_
 rintro e w3 ⟨rfl,hb3⟩
 have HB3:=hideS (HB.out.step hb3)
 clear hb3 HC HB
 obtain⟨u1,u2,u3,u4,⟨e0,z0,y0⟩,⟨e1,z1,y1⟩,⟨e2,z2,y2⟩,⟨e3,z3,y3⟩,hZ,hB⟩:=bO (w.heap.size+1) 0 0 (.slice none 0 0) (.slice none 0 0) w3 HB3.out.z
 have HBl:=hideS (HB3.out.bl.trans (hB.mono (by omega)))
 obtain⟨s0,s1,s2,s3⟩:=hZ.t
 clear hZ hB
 go_wp2_with fail
 refine bodyPost_ret (v:=.tuple #[.agg #[.int .i64 0,.int .i64 0,.slice none 0 0,.slice none 0 0],.int .i64 E]) (by simp [results,Tryz.results15,go_sem,s0,s1,s2,s3]) rfl ?_
 exact⟨rfl,HBl.out⟩

set_option maxRecDepth 20000 in
set_option maxHeartbeats 3200000 in
theorem wV (base kind:Int) (i:Int) (h:Int) (vd:Value) (pf:Option Addr) (n cf:Nat) (w:World) (hi:¬ (0≤i∧i<(n:Int))) (HC:Hid (Db w base kind 0 vd (.slice pf n cf))) :
  Calls Tryz.prog 12 #[.agg #[.int .i64 base,.int .i64 kind,vd,.slice pf n cf],.int .i64 i,.int .u64 h] w fun e w'=>DvE w 1 e w':=by
 have HB:=hideS (pH w base kind (vd) (.slice pf n cf))
 obtain⟨w2,hw2⟩:∃ w2,(w.alloc (.cells #[.int .i64 base,.int .i64 kind,vd,.slice pf n cf] 30)).alloc aw=w2:=⟨_,rfl⟩
 rw [hw2] at HB
 unfold aw at hw2
 obtain⟨t0,t1,t2,t3⟩:=HB.out.k.t
 go_enter Tryz.func12,Tryz.ntmps12
 go_wp2_with fail
 clear hw2 t0 t1 t2 t3
 refine (HC.out _ HB.out.bl).mono ?_
 rintro e w3 ⟨rfl,hb3⟩
 have HB3:=hideS (HB.out.step hb3)
 clear hb3 HC HB
 obtain⟨t0,t1,t2,t3⟩:=HB3.out.k.t
 obtain⟨u1,u2,u3,u4,⟨e0,z0,y0⟩,⟨e1,z1,y1⟩,⟨e2,z2,y2⟩,⟨e3,z3,y3⟩,hZ,hB⟩:=bO (w.heap.size+1) 0 0 (.slice none 0 0) (.slice none 0 0) w3 HB3.out.z
 have HBl:=hideS (HB3.out.bl.trans (hB.mono (by omega)))
 obtain⟨s0,s1,s2,s3⟩:=hZ.t
 clear hZ hB
 by_cases h1:i<0
 ·clear hi
  go_wp2_with fail
  refine bodyPost_ret (v:=.tuple #[.agg #[.int .i64 0,.int .i64 0,.slice none 0 0,.slice none 0 0],.int .i64 1]) (by simp [results,Tryz.results12,go_sem,s0,s1,s2,s3]) rfl ?_
  exact⟨rfl,HBl.out⟩
 ·have h2:(n:Int)≤i:=by omega
  clear hi
  go_wp2_with fail
  refine bodyPost_ret (v:=.tuple #[.agg #[.int .i64 0,.int .i64 0,.slice none 0 0,.slice none 0 0],.int .i64 1]) (by simp [results,Tryz.results12,go_sem,s0,s1,s2,s3]) rfl ?_
  exact⟨rfl,HBl.out⟩
def MJ (w:World) (base kind:Int) (px py:Option Addr) (n cx cy:Nat) (i j h:Nat) (L:List Nat) (bad:Bool):Prop:=∀ wx,Below w.heap.size w wx→Calls Tryz.prog 39 #[.agg #[.int .i64 base,.int .i64 kind,.slice px n cx,.slice py n cy],.int .i64 i,.int .i64 j,.int .u64 (h:Int)] wx fun e w'=>BqO wx base kind px n cx L bad e w'
structure BgO (w:World) (base kind:Int) (px:Option Addr) (n cx:Nat) (L:List Nat) (bad:Bool) (e:Ending) (w':World):Prop where
 no:bad=true→DvE w 91 e w'
 yes:bad=false→BqO w base kind px n cx L false e w'
set_option maxRecDepth 20000 in
set_option maxHeartbeats 3200000 in
theorem pJ (base kind:Int) (px py:Option Addr) (n cx cy k h:Nat) (L:List Nat) (bad:Bool) (w:World) (hk:k<n) (hn:n≤255) (hh:h<18446744073709551616) (hL:L.length=n) (HC:Hid (Db w base kind 0 (.slice px n cx) (.slice py n cy))) (HD:Hid (aH (h:Int)=true→MJ w base kind px py n cx cy k (k+1) h L bad)) :
  Calls Tryz.prog 12 #[.agg #[.int .i64 base,.int .i64 kind,.slice px n cx,.slice py n cy],.int .i64 k,.int .u64 (h:Int)] w fun e w'=>BgO w base kind px n cx L (!aH (h:Int)||bad) e w':=by
 have HNm:=hideS fun wx=>fO (h:Int) wx (ah hh)
 have HB:=hideS (pH w base kind (.slice px n cx) (.slice py n cy))
 obtain⟨w2,hw2⟩:∃ w2,(w.alloc (.cells #[.int .i64 base,.int .i64 kind,.slice px n cx,.slice py n cy] 30)).alloc aw=w2:=⟨_,rfl⟩
 rw [hw2] at HB
 unfold aw at hw2
 obtain⟨t0,t1,t2,t3⟩:=HB.out.k.t
 have l1:(0:Int)≤(k:Int):=Int.natCast_nonneg _
 have l2:(k:Int)<(n:Int):=by omega
 have HLn:=hideS hL
 have hk1:IntKind.i64.wrap ((k:Int)+1)=((k+1:Nat):Int):=by rw [IntKind.wrap_i64];omega
 clear hh hL
 generalize aH (h:Int)=b1 at *
 go_enter Tryz.func12,Tryz.ntmps12
 go_wp2_with fail
 clear hw2 t0 t1 t2 t3
 refine (HC.out _ HB.out.bl).mono ?_
 rintro e w3 ⟨rfl,hb3⟩
 have HB3:=hideS (HB.out.step hb3)
 clear hb3 HC HB
 obtain⟨t0,t1,t2,t3⟩:=HB3.out.k.t
 go_wp2_with fail
 refine (turned (HNm.out _)).mono ?_
 rintro e w4 ⟨rfl,rfl⟩
 cases b1
 ·obtain⟨u1,u2,u3,u4,⟨e0,z0,y0⟩,⟨e1,z1,y1⟩,⟨e2,z2,y2⟩,⟨e3,z3,y3⟩,hZ,hB⟩:=bO (w.heap.size+1) 0 0 (.slice none 0 0) (.slice none 0 0) w3 HB3.out.z
  have HBl:=hideS (HB3.out.bl.trans (hB.mono (by omega)))
  obtain⟨s0,s1,s2,s3⟩:=hZ.t
  clear hZ hB
  go_wp2_with fail
  refine bodyPost_ret (v:=.tuple #[.agg #[.int .i64 0,.int .i64 0,.slice none 0 0,.slice none 0 0],.int .i64 91]) (by simp [results,Tryz.results12,go_sem,s0,s1,s2,s3]) rfl ?_
  exact⟨fun _=>⟨rfl,HBl.out⟩,fun e=>(by cases e)⟩
 ·go_wp2_with fail
  refine (HD.out (by first | trivial | rfl) _ HB3.out.bl).mono ?_
  rintro e w5 ho
  have HB5:=hideS (HB3.out.step ho.bl)
  have hsz:=HB3.out.sz
  have HZ:=hideS hsz
  cases bad
  ·obtain⟨v,rfl,hv⟩:=ho.yes rfl
   obtain⟨q,g,cc,rfl,_,_,_,_⟩:=cm hv HLn.out
   obtain⟨u1,u2,u3,u4,⟨e0,z0,y0⟩,⟨e1,z1,y1⟩,⟨e2,z2,y2⟩,⟨e3,z3,y3⟩,hZ,hB⟩:=bO (w.heap.size+1) base kind (.slice px n cx) (.slice q n cc) w5 HB5.out.z
   have HBl:=hideS (HB5.out.bl.trans (hB.mono (by omega)))
   have HOw:=hideS (eO (pI hv (by omega) e0 e1 e2 e3) (by omega:w.heap.size≤w3.heap.size))
   obtain⟨s0,s1,s2,s3⟩:=hZ.t
   clear hZ hB hv ho t0 t1 t2 t3
   go_wp2_with fail
   refine bodyPost_ret (v:=.tuple #[.agg #[.int .i64 base,.int .i64 kind,.slice px n cx,.slice q n cc],.int .i64 0]) (by simp [results,Tryz.results12,go_sem,s0,s1,s2,s3]) rfl ?_
   exact⟨fun e=>(by cases e),fun _=>⟨fun e=>(by cases e),fun _=>⟨_,rfl,HOw.out⟩,HBl.out⟩⟩
  ·obtain rfl:=ho.no rfl
   obtain⟨u1,u2,u3,u4,⟨e0,z0,y0⟩,⟨e1,z1,y1⟩,⟨e2,z2,y2⟩,⟨e3,z3,y3⟩,hZ,hB⟩:=bO (w.heap.size+1) 0 0 (.slice none 0 0) (.slice none 0 0) w5 HB5.out.z
   have HBl:=hideS (HB5.out.bl.trans (hB.mono (by omega)))
   obtain⟨s0,s1,s2,s3⟩:=hZ.t
   clear hZ hB ho t0 t1 t2 t3
   go_wp2_with fail
   refine bodyPost_ret (v:=.tuple #[.agg #[.int .i64 0,.int .i64 0,.slice none 0 0,.slice none 0 0],.int .i64 91]) (by simp [results,Tryz.results12,go_sem,s0,s1,s2,s3]) rfl ?_
   exact⟨fun _=>⟨rfl,HBl.out⟩,fun e=>(by cases e)⟩
set_option maxRecDepth 20000 in
set_option maxHeartbeats 3200000 in
theorem rZ (base kind:Int) (px py:Option Addr) (n cx cy h:Nat) (L:List Nat) (bad:Bool) (w:World) (hh:h<18446744073709551616) (hL:L.length=n) (HC:Hid (Db w base kind 0 (.slice px n cx) (.slice py n cy))) (HD:Hid (aH (h:Int)=true→MJ w base kind px py n cx cy 0 n h L bad)) :
  Calls Tryz.prog 15 #[.agg #[.int .i64 base,.int .i64 kind,.slice px n cx,.slice py n cy],.int .u64 (h:Int)] w fun e w'=>BgO w base kind px n cx L (!aH (h:Int)||bad) e w':=by
 have HNm:=hideS fun wx=>fO (h:Int) wx (ah hh)
 have HB:=hideS (pH w base kind (.slice px n cx) (.slice py n cy))
 obtain⟨w2,hw2⟩:∃ w2,(w.alloc (.cells #[.int .i64 base,.int .i64 kind,.slice px n cx,.slice py n cy] 30)).alloc aw=w2:=⟨_,rfl⟩
 rw [hw2] at HB
 unfold aw at hw2
 obtain⟨t0,t1,t2,t3⟩:=HB.out.k.t
 have HLn:=hideS hL
 clear hh hL
 generalize aH (h:Int)=b1 at *
 go_enter Tryz.func15,Tryz.ntmps15
 go_wp2_with fail
 clear hw2 t0 t1 t2 t3
 refine (HC.out _ HB.out.bl).mono ?_
 rintro e w3 ⟨rfl,hb3⟩
 have HB3:=hideS (HB.out.step hb3)
 clear hb3 HC HB
 obtain⟨t0,t1,t2,t3⟩:=HB3.out.k.t
 go_wp2_with fail
 refine (turned (HNm.out _)).mono ?_
 rintro e w4 ⟨rfl,rfl⟩
 cases b1
 ·obtain⟨u1,u2,u3,u4,⟨e0,z0,y0⟩,⟨e1,z1,y1⟩,⟨e2,z2,y2⟩,⟨e3,z3,y3⟩,hZ,hB⟩:=bO (w.heap.size+1) 0 0 (.slice none 0 0) (.slice none 0 0) w3 HB3.out.z
  have HBl:=hideS (HB3.out.bl.trans (hB.mono (by omega)))
  obtain⟨s0,s1,s2,s3⟩:=hZ.t
  clear hZ hB
  go_wp2_with fail
  refine bodyPost_ret (v:=.tuple #[.agg #[.int .i64 0,.int .i64 0,.slice none 0 0,.slice none 0 0],.int .i64 91]) (by simp [results,Tryz.results15,go_sem,s0,s1,s2,s3]) rfl ?_
  exact⟨fun _=>⟨rfl,HBl.out⟩,fun e=>(by cases e)⟩
 ·go_wp2_with fail
  refine (HD.out (by first | trivial | rfl) _ HB3.out.bl).mono ?_
  rintro e w5 ho
  have HB5:=hideS (HB3.out.step ho.bl)
  have hsz:=HB3.out.sz
  have HZ:=hideS hsz
  cases bad
  ·obtain⟨v,rfl,hv⟩:=ho.yes rfl
   obtain⟨q,g,cc,rfl,_,_,_,_⟩:=cm hv HLn.out
   obtain⟨u1,u2,u3,u4,⟨e0,z0,y0⟩,⟨e1,z1,y1⟩,⟨e2,z2,y2⟩,⟨e3,z3,y3⟩,hZ,hB⟩:=bO (w.heap.size+1) base kind (.slice px n cx) (.slice q n cc) w5 HB5.out.z
   have HBl:=hideS (HB5.out.bl.trans (hB.mono (by omega)))
   have HOw:=hideS (eO (pI hv (by omega) e0 e1 e2 e3) (by omega:w.heap.size≤w3.heap.size))
   obtain⟨s0,s1,s2,s3⟩:=hZ.t
   clear hZ hB hv ho t0 t1 t2 t3
   go_wp2_with fail
   refine bodyPost_ret (v:=.tuple #[.agg #[.int .i64 base,.int .i64 kind,.slice px n cx,.slice q n cc],.int .i64 0]) (by simp [results,Tryz.results15,go_sem,s0,s1,s2,s3]) rfl ?_
   exact⟨fun e=>(by cases e),fun _=>⟨fun e=>(by cases e),fun _=>⟨_,rfl,HOw.out⟩,HBl.out⟩⟩
  ·obtain rfl:=ho.no rfl
   obtain⟨u1,u2,u3,u4,⟨e0,z0,y0⟩,⟨e1,z1,y1⟩,⟨e2,z2,y2⟩,⟨e3,z3,y3⟩,hZ,hB⟩:=bO (w.heap.size+1) 0 0 (.slice none 0 0) (.slice none 0 0) w5 HB5.out.z
   have HBl:=hideS (HB5.out.bl.trans (hB.mono (by omega)))
   obtain⟨s0,s1,s2,s3⟩:=hZ.t
   clear hZ hB ho t0 t1 t2 t3
   go_wp2_with fail
   refine bodyPost_ret (v:=.tuple #[.agg #[.int .i64 0,.int .i64 0,.slice none 0 0,.slice none 0 0],.int .i64 91]) (by simp [results,Tryz.results15,go_sem,s0,s1,s2,s3]) rfl ?_
   exact⟨fun _=>⟨rfl,HBl.out⟩,fun e=>(by cases e)⟩
end Go.Proofs.YtpddmnmhdahnlaaGreat
namespace Go.Proofs.YtpddmnmhdahnlaaGreat
open Go.RowKit

theorem AI {xs ys:List Nat} (hl:xs.length=ys.length) (h:∀ t<xs.length,xs.getD t 0=ys.getD t 0):xs=ys:=
 List.ext_getElem hl fun t h1 h2=>by
  have:=h t h1
  rw [List.getD_eq_getElem?_getD,List.getD_eq_getElem?_getD,List.getElem?_eq_getElem h1,List.getElem?_eq_getElem h2] at this
  exact this
theorem He (c:Cv) (i j h n t:Nat) (ht:t<n):(bqL c i j h n).getD t 0=bqV c i j h t:=by
 unfold bqL
 rw [List.getD_eq_getElem?_getD,List.getElem?_map,List.getElem?_range ht];rfl
theorem wW {c:Cv} {k h:Nat} (ok:c.Ok) (hk:k<c.ds.length):bqL c k (k+1) h c.ds.length=(c.bump k h).fs:=
 AI (by rw [bP];show _=(c.fs.set k _).length;rw [List.length_set,ok.len]) fun t ht=>by
  rw [bP] at ht
  rw [He _ _ _ _ _ _ ht,kF (by rw [ok.len];exact hk)]
  unfold bqV
  by_cases e:t=k
  ·subst e;rw [if_pos ⟨Nat.le_refl _,Nat.lt_succ_self _⟩,if_pos rfl]
  ·rw [if_neg (by omega),if_neg e]
theorem wX {c:Cv} {h:Nat} (ok:c.Ok):bqL c 0 c.ds.length h c.ds.length=(c.para h).fs:=
 AI (by rw [bP];show _=(c.parL h _).length;rw [dw,ok.len]) fun t ht=>by
  rw [bP] at ht
  rw [He _ _ _ _ _ _ ht]
  show _=(c.parL h c.ds.length).getD t 0
  rw [kE c h _ (by rw [ok.len];exact Nat.le_refl _)]
  unfold bqV
  rw [if_pos ⟨Nat.zero_le _,ht⟩,if_pos ht]
structure DvO (w:World) (d:Cv) (E:Int) (px:Option Addr) (bx ox cx:Nat) (e:Ending) (w':World):Prop where
 bad:E≠0→e=.returned (.tuple #[.agg #[.int .i64 0,.int .i64 0,.slice none 0 0,.slice none 0 0],.int .i64 E])
 ok:E=0→∃ q g cc,e=.returned (.tuple #[.agg #[.int .i64 d.base,.int .i64 d.kind,.slice px d.ds.length cx,.slice q d.fs.length cc],.int .i64 0])∧CSrcD w' px q bx ox g 0 d.ds d.fs∧w.heap.size≤g
 bl:Below w.heap.size w w'
theorem DvE.dv {w w':World} {d:Cv} {E:Int} {px:Option Addr} {bx ox cx:Nat} {e:Ending} (h:DvE w E e w') (hE:E≠0):DvO w d E px bx ox cx e w':=⟨fun _=>h.e,fun a=>absurd a hE,h.bl⟩
theorem BqO.dv {w w':World} {c:Cv} {L:List Nat} {px py:Option Addr} {bx ox b2 oy cx:Nat} {e:Ending} (h:BqO w c.base c.kind px c.ds.length cx L false e w') (hs:CSrcD w px py bx ox b2 oy c.ds c.fs) (hL:L.length=c.ds.length) (hu:∀ i<L.length,L.getD i 0<18446744073709551616):DvO w ⟨c.base,c.kind,c.ds,L⟩ 0 px bx ox cx e w':=by
 obtain⟨v,he,ho⟩:=h.yes rfl
 obtain⟨q,g,cc,rfl,hsrc,hg,_,_⟩:=cm ho hL
 refine⟨fun a=>absurd rfl a,fun _=>⟨q,g,cc,?_,⟨(hs.below h.bl).d,⟨hsrc.at_,hsrc.lt,hsrc.cell⟩,fun i hi=>ah (hu i hi)⟩,hg⟩,h.bl⟩
 show e=.returned (.tuple #[.agg #[.int .i64 c.base,.int .i64 c.kind,.slice px c.ds.length cx,.slice q L.length cc],.int .i64 0])
 rw [hL];exact he
theorem zm {c:Cv} {E:Int} {w:World} {px py:Option Addr} {bx ox b2 oy cx cy:Nat} (hs:CSrcD w px py bx ox b2 oy c.ds c.fs) (hE:c.Chk E):Db w c.base c.kind E (.slice px c.ds.length cx) (.slice py c.fs.length cy):=
 fun wx hb=>oP c.base c.kind px py bx ox cx b2 oy cy c.ds c.fs wx (hs.below hb) hE
theorem wY (c d:Cv) (i E:Int) (h:Nat) (px py:Option Addr) (bx ox cx b2 oy cy:Nat) (w:World) (hh:h<18446744073709551616) (hs:CSrcD w px py bx ox b2 oy c.ds c.fs) (hv:c.Fit) (hR:BmpR c i h d E) :
  Calls Tryz.prog 12 #[.agg #[.int .i64 c.base,.int .i64 c.kind,.slice px c.ds.length cx,.slice py c.fs.length cy],.int .i64 i,.int .u64 (h:Int)] w fun e w'=>DvO w d E px bx ox cx e w':=by
 cases hR with
 | chk E hC hE=>exact (wU c.base c.kind E i h _ _ w hE (zm hs hC)).mono fun e w' a=>a.dv hE
 | arg ok hi=>exact (wV c.base c.kind i h _ py c.fs.length cy w (by rw [ok.len];exact hi) (zm hs (.ok ok))).mono fun e w' a=>a.dv (by decide)
 | val ok k hk e hb=>
  subst e
  have hl:=ok.len
  have HC:=zm (cx:=cx) (cy:=cy) hs (.ok ok)
  rw [hl] at HC ⊢
  refine (pJ c.base c.kind px py c.ds.length cx cy k h (bqL c k (k+1) h c.ds.length) true w hk ok.hi hh (bP _ _ _ _ _) HC (fun hf wx hb'=>?_)).mono fun e w' a=>(a.no (by simp)).dv (by decide)
  have:=dl c k (k+1) h c.ds.length k px py bx ox cx b2 oy cy wx ok (hs.below hb') hv rfl hh hf (by omega) (fun t ht a _=>absurd a (by omega)) (fun _=>⟨Nat.le_refl _,Nat.lt_succ_self _,hb⟩)
  rw [decide_eq_true hk] at this
  exact this
 | ok ok k hk e hb=>
  subst e
  have hl:=ok.len
  have HC:=zm (cx:=cx) (cy:=cy) hs (.ok ok)
  have hfin:=(pC hb).2
  rw [hl] at HC ⊢
  refine (pJ c.base c.kind px py c.ds.length cx cy k h (bqL c k (k+1) h c.ds.length) false w hk ok.hi hh (bP _ _ _ _ _) HC (fun hf wx hb'=>?_)).mono fun e w' a=>?_
  ·have:=dl c k (k+1) h c.ds.length c.ds.length px py bx ox cx b2 oy cy wx ok (hs.below hb') hv rfl hh hf (Nat.le_refl _) (fun t ht a b=>by rw [show t=k by omega];exact hb) (fun a=>absurd a (by omega))
   rw [decide_eq_false (by omega)] at this
   exact this
  ·have:=(a.yes (by rw [hfin];rfl)).dv hs (bP _ _ _ _ _) (fun i hi=>by rw [wW ok hk] at hi ⊢;exact GW ok hv hk hb i hi)
   rw [wW ok hk] at this
   exact this
theorem zo (c d:Cv) (E:Int) (h:Nat) (px py:Option Addr) (bx ox cx b2 oy cy:Nat) (w:World) (hh:h<18446744073709551616) (hs:CSrcD w px py bx ox b2 oy c.ds c.fs) (hv:c.Fit) (hR:ParR c h d E) :
  Calls Tryz.prog 15 #[.agg #[.int .i64 c.base,.int .i64 c.kind,.slice px c.ds.length cx,.slice py c.fs.length cy],.int .u64 (h:Int)] w fun e w'=>DvO w d E px bx ox cx e w':=by
 cases hR with
 | chk E hC hE=>exact (zl c.base c.kind E h _ _ w hE (zm hs hC)).mono fun e w' a=>a.dv hE
 | val ok k hk hb fine=>
  have hl:=ok.len
  have HC:=zm (cx:=cx) (cy:=cy) hs (.ok ok)
  rw [hl] at HC ⊢
  refine (rZ c.base c.kind px py c.ds.length cx cy h (bqL c 0 c.ds.length h c.ds.length) true w hh (bP _ _ _ _ _) HC (fun hf wx hb'=>?_)).mono fun e w' a=>(a.no (by simp)).dv (by decide)
  have:=dl c 0 c.ds.length h c.ds.length k px py bx ox cx b2 oy cy wx ok (hs.below hb') hv rfl hh hf (by omega) (fun t ht _ _=>fine t ht) (fun _=>⟨Nat.zero_le _,hk,hb⟩)
  rw [decide_eq_true hk] at this
  exact this
 | ok ok hb=>
  have hl:=ok.len
  have HC:=zm (cx:=cx) (cy:=cy) hs (.ok ok)
  have hfin:=(pC (hb 0 ok.lo)).2
  rw [hl] at HC ⊢
  refine (rZ c.base c.kind px py c.ds.length cx cy h (bqL c 0 c.ds.length h c.ds.length) false w hh (bP _ _ _ _ _) HC (fun hf wx hb'=>?_)).mono fun e w' a=>?_
  ·have:=dl c 0 c.ds.length h c.ds.length c.ds.length px py bx ox cx b2 oy cy wx ok (hs.below hb') hv rfl hh hf (Nat.le_refl _) (fun t ht _ _=>hb t ht) (fun a=>absurd a (by omega))
   rw [decide_eq_false (by omega)] at this
   exact this
  ·have:=(a.yes (by rw [hfin];rfl)).dv hs (bP _ _ _ _ _) (fun i hi=>by rw [wX ok] at hi ⊢;exact GX ok hv hb i hi)
   rw [wX ok] at this
   exact this
end Go.Proofs.YtpddmnmhdahnlaaGreat
namespace Go.Proofs.YtpddmnmhdahnlaaGreat
open Go.RowKit

structure HoB (w:World) (base kind:Int) (vd vf:Value) (wr:World):Prop where
 k:BxK wr w.heap.size base kind vd vf
 z:wr.heap[w.heap.size+1]? =some aZ
 bl:Below w.heap.size w wr
theorem HoB.step {w wr w':World} {base kind:Int} {vd vf:Value} (h:HoB w base kind vd vf wr) (hb:Below wr.heap.size wr w'):HoB w base kind vd vf w':=
 ⟨h.k.step hb,(hb.block _ (Array.getElem?_eq_some_iff.1 h.z).1).trans h.z,h.bl.trans (hb.mono h.bl.size)⟩
theorem Hf (w:World) (base kind:Int) (vd vf:Value):HoB w base kind vd vf ((w.alloc (.cells #[.int .i64 base,.int .i64 kind,vd,vf] 25)).alloc aZ):=by
 have s1:(w.alloc (.cells #[.int .i64 base,.int .i64 kind,vd,vf] 25)).heap.size=w.heap.size+1:=by simp
 refine⟨(oU w base kind vd vf).step ((Below.refl _ _).alloc (Nat.le_refl _) _),?_,((Below.refl _ _).alloc (Nat.le_refl _) _).alloc (by rw [s1];omega) _⟩
 rw [← s1];exact heap_alloc_new _ _

set_option maxRecDepth 20000 in
set_option maxHeartbeats 3200000 in
theorem wZ (l:List Flw) (cur:Int) (c:Cv) (pl:Option Addr) (bl ol cl N:Nat) (pd pf:Option Addr) (bd od cd b2 o2 cf:Nat) (w:World) (V:Nat) (h:PreR l cur c V 0) (hl:JSrc aF w pl bl ol l) (hN:l.length=N) (hNb:N≤30000) (hf:gI l) (hs:TFl w pd pf bd od b2 o2 c.ds c.fs) :
  Calls Tryz.prog 41 #[.slice pl N cl,.int .i64 cur,.agg #[.int .i64 c.base,.int .i64 c.kind,.slice pd c.ds.length cd,.slice pf c.fs.length cf]] w fun e w'=>e=.returned (.tuple #[.agg #[.slice pl N cl,.int .i64 cur,.int .i64 c.base,.int .i64 c.kind,.slice pd c.ds.length cd,.slice pf c.fs.length cf,.float .f64 V],.int .i64 0])∧Below w.heap.size w w':=by
 have HP:=hideS fun wx (hb:Below w.heap.size w wx)=>oV l cur c pl bl ol cl N pd pf bd od cd b2 o2 cf wx V 0 h (hl.below hb) hN hNb hf (hs.below hb)
 have H0:=hideS (Hf w c.base c.kind (.slice pd c.ds.length cd) (.slice pf c.fs.length cf))
 clear h hl hN hf hs
 generalize c.ds.length=n1 at *
 generalize c.fs.length=n2 at *
 generalize c.base=base at *
 generalize c.kind=kind at *
 obtain⟨w1,hw1⟩:∃ w1,(w.alloc (.cells #[.int .i64 base,.int .i64 kind,.slice pd n1 cd,.slice pf n2 cf] 25)).alloc aZ=w1:=⟨_,rfl⟩
 rw [hw1] at H0
 unfold aZ at hw1
 obtain⟨t0,t1,t2,t3⟩:=H0.out.k.t
 go_enter Tryz.func41,Tryz.ntmps41
 go_wp2_with fail
 clear hw1 t0 t1 t2 t3
 refine (HP.out _ H0.out.bl).mono ?_
 rintro e w2 ⟨rfl,hb2⟩
 have H2:=hideS (H0.out.step hb2)
 clear hb2 H0 HP
 obtain⟨t0,t1,t2,t3⟩:=H2.out.k.t
 obtain⟨u1,u2,u3,u4,u5,u6,u7,⟨e0,z0,y0⟩,⟨e1,z1,y1⟩,⟨e2,z2,y2⟩,⟨e3,z3,y3⟩,⟨e4,z4,y4⟩,⟨e5,z5,y5⟩,⟨e6,z6,y6⟩,hZ,hB⟩:=iR (w.heap.size+1) (.slice pl N cl) cur base kind (.slice pd n1 cd) (.slice pf n2 cf) V w2 H2.out.z
 have HZ:=hideS hZ
 have HBl:=hideS (H2.out.bl.trans (hB.mono (by omega)))
 have hst:=bM
 clear hZ hB
 go_wp2_with fail
 obtain⟨s0,s1,s2,s3,s4,s5,s6⟩:=HZ.out.t
 refine bodyPost_ret (v:=.tuple #[.agg #[.slice pl N cl,.int .i64 cur,.int .i64 base,.int .i64 kind,.slice pd n1 cd,.slice pf n2 cf,.float .f64 V],.int .i64 0]) (by simp [results,Tryz.results41,go_sem,s0,s1,s2,s3,s4,s5,s6]) rfl ?_
 exact⟨rfl,HBl.out⟩
set_option maxRecDepth 20000 in
set_option maxHeartbeats 3200000 in
theorem sa (l:List Flw) (cur:Int) (c:Cv) (pl:Option Addr) (bl ol cl N:Nat) (pd pf:Option Addr) (bd od cd b2 o2 cf:Nat) (w:World) (V:Nat) (E:Int) (h:PreR l cur c V E) (hE:E≠0) (hl:JSrc aF w pl bl ol l) (hN:l.length=N) (hNb:N≤30000) (hf:gI l) (hs:TFl w pd pf bd od b2 o2 c.ds c.fs) :
  Calls Tryz.prog 41 #[.slice pl N cl,.int .i64 cur,.agg #[.int .i64 c.base,.int .i64 c.kind,.slice pd c.ds.length cd,.slice pf c.fs.length cf]] w fun e w'=>e=.returned (.tuple #[.agg #[.slice none 0 0,.int .i64 0,.int .i64 0,.int .i64 0,.slice none 0 0,.slice none 0 0,.float .f64 0],.int .i64 E])∧Below w.heap.size w w':=by
 have HP:=hideS fun wx (hb:Below w.heap.size w wx)=>oV l cur c pl bl ol cl N pd pf bd od cd b2 o2 cf wx V E h (hl.below hb) hN hNb hf (hs.below hb)
 have H0:=hideS (Hf w c.base c.kind (.slice pd c.ds.length cd) (.slice pf c.fs.length cf))
 have dE:(E !=0)=true:=bne_iff_ne.2 hE
 clear h hl hN hf hs hE
 generalize c.ds.length=n1 at *
 generalize c.fs.length=n2 at *
 generalize c.base=base at *
 generalize c.kind=kind at *
 obtain⟨w1,hw1⟩:∃ w1,(w.alloc (.cells #[.int .i64 base,.int .i64 kind,.slice pd n1 cd,.slice pf n2 cf] 25)).alloc aZ=w1:=⟨_,rfl⟩
 rw [hw1] at H0
 unfold aZ at hw1
 obtain⟨t0,t1,t2,t3⟩:=H0.out.k.t
 go_enter Tryz.func41,Tryz.ntmps41
 go_wp2_with fail
 clear hw1 t0 t1 t2 t3
 refine (HP.out _ H0.out.bl).mono ?_
 rintro e w2 ⟨rfl,hb2⟩
 have H2:=hideS (H0.out.step hb2)
 clear hb2 H0 HP
 obtain⟨u1,u2,u3,u4,u5,u6,u7,⟨e0,z0,y0⟩,⟨e1,z1,y1⟩,⟨e2,z2,y2⟩,⟨e3,z3,y3⟩,⟨e4,z4,y4⟩,⟨e5,z5,y5⟩,⟨e6,z6,y6⟩,hZ,hB⟩:=iR (w.heap.size+1) (.slice none 0 0) 0 0 0 (.slice none 0 0) (.slice none 0 0) 0 w2 H2.out.z
 have HZ:=hideS hZ
 have HBl:=hideS (H2.out.bl.trans (hB.mono (by omega)))
 have hst:=bM
 clear hZ hB
 go_wp2_with fail
 obtain⟨s0,s1,s2,s3,s4,s5,s6⟩:=HZ.out.t
 refine bodyPost_ret (v:=.tuple #[.agg #[.slice none 0 0,.int .i64 0,.int .i64 0,.int .i64 0,.slice none 0 0,.slice none 0 0,.float .f64 0],.int .i64 E]) (by simp [results,Tryz.results41,go_sem,s0,s1,s2,s3,s4,s5,s6]) rfl ?_
 exact⟨rfl,HBl.out⟩

def BmC (fN:Nat) (cap:Array Value) (base kind:Int) (vd vf:Value) (w:World) (d:Cv) (E:Int):Prop:=∀ wx,Below w.heap.size w wx→Calls Tryz.prog fN (#[.agg #[.int .i64 base,.int .i64 kind,vd,vf]]++cap) wx fun e w'=>CvO wx d E e w'
set_option maxRecDepth 20000 in
set_option maxHeartbeats 3200000 in
theorem xc (fN:Nat) (cap:Array Value) (d:Cv) (E cur base kind:Int) (v0 vd vf:Value) (V0:Nat) (w:World) (hE:E≠0) (hen:∀ args w,(callFunc fN args).run Tryz.prog w=.ok (.enter fN args) w) (HC:Hid (BmC fN cap base kind vd vf w d E)) :
  Calls Tryz.prog 51 #[.agg #[v0,.int .i64 cur,.int .i64 base,.int .i64 kind,vd,vf,.float .f64 V0],.func (.func fN) #[] cap] w fun e w'=>e=.returned (.tuple #[.float .f64 0,.int .i64 E])∧Below w.heap.size w w':=by
 have dE:(E !=0)=true:=bne_iff_ne.2 hE
 have HE:=hideS hE
 have H0:=hideS (pE w v0 vd vf cur base kind V0)
 have HA:=hideS ((Below.refl w.heap.size w).alloc (Nat.le_refl _) (.cells #[v0,.int .i64 cur,.int .i64 base,.int .i64 kind,vd,vf,.float .f64 V0] 83))
 obtain⟨w1,hw1⟩:∃ w1,w.alloc (.cells #[v0,.int .i64 cur,.int .i64 base,.int .i64 kind,vd,vf,.float .f64 V0] 83)=w1:=⟨_,rfl⟩
 rw [hw1] at H0 HA
 obtain⟨t0,t1,t2,t3,t4,t5,t6⟩:=H0.out.t
 unfold BmC at HC
 clear hE
 go_enter Tryz.func51,Tryz.ntmps51
 go_wp2_with fail
 clear hw1 t0 t1 t2 t3 t4 t5 t6
 refine (HC.out _ HA.out).mono ?_
 intro e w2 ho
 have he:=ho.bad HE.out
 subst he
 have HB:=hideS (HA.out.trans (ho.bl.mono HA.out.size))
 clear ho HC
 obtain⟨u1,u2,u3,u4,⟨e0,z0,y0⟩,⟨e1,z1,y1⟩,⟨e2,z2,y2⟩,⟨e3,z3,y3⟩,hZ,hB⟩:=aR w2.heap.size 0 0 (.slice none 0 0) (.slice none 0 0) (w2.alloc ap) (heap_alloc_new _ _)
 have HBl:Hid (Below w.heap.size w u4):=(HB.out.alloc HB.out.size ap).trans (hB.mono HB.out.size)
 obtain⟨w3,hw3⟩:∃ w3,w2.alloc ap=w3:=⟨_,rfl⟩
 rw [hw3] at e0 z0 y0
 unfold ap at hw3
 clear hZ hB
 go_wp2_with fail
 go_ret2
 exact⟨rfl,HBl.out⟩
set_option maxRecDepth 20000 in
set_option maxHeartbeats 3200000 in
theorem zp (fN:Nat) (cap:Array Value) (l:List Flw) (d:Cv) (E cur base kind:Int) (pl:Option Addr) (bl ol cl N:Nat) (vd vf:Value) (V0 V:Nat) (w:World) (hen:∀ args w,(callFunc fN args).run Tryz.prog w=.ok (.enter fN args) w) (HC:Hid (BmC fN cap base kind vd vf w d 0)) (hP:PreR l cur d V E) (hl:JSrc aF w pl bl ol l) (hN:l.length=N) (hNb:N≤30000) (hf:gI l) :
  Calls Tryz.prog 51 #[.agg #[.slice pl N cl,.int .i64 cur,.int .i64 base,.int .i64 kind,vd,vf,.float .f64 V0],.func (.func fN) #[] cap] w fun e w'=>e=.returned (.tuple #[.float .f64 V,.int .i64 E])∧Below w.heap.size w w':=by
 have HPr:=hideS fun wx B gx cx gy cy (hb:Below w.heap.size w wx) (ho:OwnC wx B d gx cx gy cy)=>oV l cur d pl bl ol cl N (some ⟨gx,0,none⟩) (some ⟨gy,0,none⟩) gx 0 cx gy 0 cy wx V E hP (hl.below hb) hN hNb hf ho.src
 have H0:=hideS (pE w (.slice pl N cl) vd vf cur base kind V0)
 have HA:=hideS ((Below.refl w.heap.size w).alloc (Nat.le_refl _) (.cells #[.slice pl N cl,.int .i64 cur,.int .i64 base,.int .i64 kind,vd,vf,.float .f64 V0] 83))
 obtain⟨w1,hw1⟩:∃ w1,w.alloc (.cells #[.slice pl N cl,.int .i64 cur,.int .i64 base,.int .i64 kind,vd,vf,.float .f64 V0] 83)=w1:=⟨_,rfl⟩
 rw [hw1] at H0 HA
 obtain⟨t0,t1,t2,t3,t4,t5,t6⟩:=H0.out.t
 unfold BmC at HC
 clear hP hl hN hf
 go_enter Tryz.func51,Tryz.ntmps51
 go_wp2_with fail
 clear hw1 t0 t1 t2 t3 t4 t5 t6
 refine (HC.out _ HA.out).mono ?_
 intro e w2 ho
 obtain⟨gx,cx,gy,cy,he,hO⟩:=ho.ok rfl
 subst he
 have HB:=hideS (HA.out.trans (ho.bl.mono HA.out.size))
 have HK:=hideS (H0.out.step ho.bl)
 clear ho HC H0 HA
 obtain⟨u1,u2,u3,u4,⟨e0,z0,y0⟩,⟨e1,z1,y1⟩,⟨e2,z2,y2⟩,⟨e3,z3,y3⟩,hZ,hB⟩:=aR w2.heap.size d.base d.kind (.slice (some ⟨gx,0,none⟩) d.ds.length cx) (.slice (some ⟨gy,0,none⟩) d.fs.length cy) (w2.alloc ap) (heap_alloc_new _ _)
 have hB2:Below w2.heap.size w2 u4:=((Below.refl _ w2).alloc (Nat.le_refl _) ap).trans hB
 have HBl:Hid (Below w.heap.size w u4):=HB.out.trans (hB2.mono HB.out.size)
 have HO4:=hideS (hO.below hB2)
 have HK4:=hideS (HK.out.step hB2)
 have HPc:=hideS (HPr.out u4 _ gx cx gy cy HBl.out HO4.out)
 obtain⟨w3,hw3⟩:∃ w3,w2.alloc ap=w3:=⟨_,rfl⟩
 rw [hw3] at e0 z0 y0
 unfold ap at hw3
 obtain⟨s0,s1,s2,s3⟩:=hZ.t
 obtain⟨t0,t1,_,_,_,_,_⟩:=HK4.out.t
 clear hZ hB hB2 hO HPr HK
 generalize d.ds.length=n1 at *
 generalize d.fs.length=n2 at *
 generalize d.base=db at *
 generalize d.kind=dk at *
 go_wp2_with fail
 refine HPc.out.mono ?_
 rintro e w5 ⟨rfl,hb5⟩
 have HB5:=hideS (HBl.out.trans (hb5.mono HBl.out.size))
 clear hb5 HPc
 go_wp2_with fail
 go_ret2
 exact⟨rfl,HB5.out⟩

set_option maxRecDepth 20000 in
set_option maxHeartbeats 3200000 in
theorem mn (fv v0 vd vf:Value) (E cur base kind:Int) (V0 V:Nat) (w:World) (hE:E≠0)
  (HC:Hid (∀ wx,Below w.heap.size w wx→Calls Tryz.prog 51 #[.agg #[v0,.int .i64 cur,.int .i64 base,.int .i64 kind,vd,vf,.float .f64 V0],fv] wx fun e w'=>e=.returned (.tuple #[.float .f64 V,.int .i64 E])∧Below wx.heap.size wx w')) :
  Calls Tryz.prog 48 #[.agg #[v0,.int .i64 cur,.int .i64 base,.int .i64 kind,vd,vf,.float .f64 V0],fv] w fun e w'=>e=.returned (.tuple #[.float .f64 0,.int .i64 E])∧Below w.heap.size w w':=by
 have dE:(E !=0)=true:=bne_iff_ne.2 hE
 have H0:=hideS (pE w v0 vd vf cur base kind V0)
 have HA:=hideS ((Below.refl w.heap.size w).alloc (Nat.le_refl _) (.cells #[v0,.int .i64 cur,.int .i64 base,.int .i64 kind,vd,vf,.float .f64 V0] 83))
 obtain⟨w1,hw1⟩:∃ w1,w.alloc (.cells #[v0,.int .i64 cur,.int .i64 base,.int .i64 kind,vd,vf,.float .f64 V0] 83)=w1:=⟨_,rfl⟩
 rw [hw1] at H0 HA
 obtain⟨t0,t1,t2,t3,t4,t5,t6⟩:=H0.out.t
 clear hE
 go_enter Tryz.func48,Tryz.ntmps48
 go_wp2_with fail
 clear hw1 t0 t1 t2 t3 t4 t5 t6
 refine (HC.out _ HA.out).mono ?_
 rintro e w2 ⟨rfl,hb2⟩
 have HB:=hideS (HA.out.trans (hb2.mono HA.out.size))
 clear hb2 HC
 go_wp2_with fail
 go_ret2
 exact⟨rfl,HB.out⟩
set_option maxRecDepth 20000 in
set_option maxHeartbeats 3200000 in
theorem zq (fv v0 vd vf:Value) (cur base kind:Int) (V0 V x:Nat) (w:World) (hx:floatBits .sub .f64 V V0=some x) (hl:x<18446744073709551616)
  (HC:Hid (∀ wx,Below w.heap.size w wx→Calls Tryz.prog 51 #[.agg #[v0,.int .i64 cur,.int .i64 base,.int .i64 kind,vd,vf,.float .f64 V0],fv] wx fun e w'=>e=.returned (.tuple #[.float .f64 V,.int .i64 0])∧Below wx.heap.size wx w')) :
  Calls Tryz.prog 48 #[.agg #[v0,.int .i64 cur,.int .i64 base,.int .i64 kind,vd,vf,.float .f64 V0],fv] w fun e w'=>e=.returned (.tuple #[.float .f64 (mr x),.int .i64 (ms x)])∧Below w.heap.size w w':=by
 have HNu:=hideS fun wx=>ml x wx (ah hl)
 have r1:=fun w=>run_float_arith (P:=Tryz.prog) w .sub 26 .f64 _ _ _ hx
 have H0:=hideS (pE w v0 vd vf cur base kind V0)
 have HA:=hideS ((Below.refl w.heap.size w).alloc (Nat.le_refl _) (.cells #[v0,.int .i64 cur,.int .i64 base,.int .i64 kind,vd,vf,.float .f64 V0] 83))
 obtain⟨w1,hw1⟩:∃ w1,w.alloc (.cells #[v0,.int .i64 cur,.int .i64 base,.int .i64 kind,vd,vf,.float .f64 V0] 83)=w1:=⟨_,rfl⟩
 rw [hw1] at H0 HA
 obtain⟨t0,t1,t2,t3,t4,t5,t6⟩:=H0.out.t
 clear hx hl
 generalize mr x=TV at *
 generalize ms x=TE at *
 go_enter Tryz.func48,Tryz.ntmps48
 go_wp2_with fail
 clear hw1 t0 t1 t2 t3 t4 t5 t6
 refine (HC.out _ HA.out).mono ?_
 rintro e w2 ⟨rfl,hb2⟩
 have HB:=hideS (HA.out.trans (hb2.mono HA.out.size))
 have HK:=hideS (H0.out.step hb2)
 obtain⟨_,_,_,_,_,_,t6⟩:=HK.out.t
 clear hb2 HC
 go_wp2_with (go_at_call 52;refine (turned (HNu.out _)).mono ?_;rintro e w' ⟨rfl,rfl⟩)
 go_ret2
 exact⟨rfl,HB.out⟩
end Go.Proofs.YtpddmnmhdahnlaaGreat
