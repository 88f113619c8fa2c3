/-  -/
import Derived.Test.YtpddmnmhdahnlaaGreatHbt
import Derived.Test.YtpddmnmhdahnlaaGreatRkS
import Derived.Test.YtpddmnmhdahnlaaGreatHay
import Derived.Test.YtpddmnmhdahnlaaGreatHbs
namespace Go.Proofs.YtpddmnmhdahnlaaGreat
open Go.RowKit

structure OwnC (w:World) (B:Nat) (d:Cv) (gx cx gy cy:Nat):Prop where
 x:w.ownsRow B 3 1 (.slice (some ⟨gx,0,none⟩) d.ds.length cx) d.ds.length (d.ds.map kV)
 y:w.ownsRow B 26 1 (.slice (some ⟨gy,0,none⟩) d.fs.length cy) d.fs.length (d.fs.map fV)
 n:0<d.ds.length
 m:0<d.fs.length
 f:d.Fit
theorem OwnC.src {w:World} {B:Nat} {d:Cv} {gx cx gy cy:Nat} (h:OwnC w B d gx cx gy cy):TFl w (some ⟨gx,0,none⟩) (some ⟨gy,0,none⟩) gx 0 gy 0 d.ds d.fs:=by
 obtain⟨g,c,e,hs,_⟩:=fI h.x rfl h.n
 obtain⟨g',c',e',hs',_⟩:=dO h.y rfl h.m
 injection e with e1 _ _
 injection e1 with e1
 injection e1 with e1
 injection e' with e2 _ _
 injection e2 with e2
 injection e2 with e2
 subst e1 e2
 exact⟨hs,hs',h.f⟩
theorem OwnC.below {w w':World} {B:Nat} {d:Cv} {gx cx gy cy:Nat} (h:OwnC w B d gx cx gy cy) (hb:Below w.heap.size w w'):OwnC w' B d gx cx gy cy:=⟨cZ h.x hb,cZ h.y hb,h.n,h.m,h.f⟩
theorem OwnC.mono {w:World} {B B':Nat} {d:Cv} {gx cx gy cy:Nat} (h:OwnC w B d gx cx gy cy) (hb:B'≤B):OwnC w B' d gx cx gy cy:=⟨cF h.x hb,cF h.y hb,h.n,h.m,h.f⟩
theorem OwnC.put {w:World} {B b j:Nat} {d:Cv} {gx cx gy cy:Nat} (h:OwnC w B d gx cx gy cy) (hb:b<B) (x:Value):OwnC (w.setCell ⟨b,j,none⟩ x) B d gx cx gy cy:=⟨aJ h.x hb x,aJ h.y hb x,h.n,h.m,h.f⟩
structure CvO (w:World) (d:Cv) (E:Int) (e:Ending) (w':World):Prop where
 bad:E≠0→e=.returned (.tuple #[.agg #[.int .i64 0,.int .i64 0,.slice none 0 0,.slice none 0 0],.int .i64 E])
 ok:E=0→∃ gx cx gy cy,e=.returned (.tuple #[.agg #[.int .i64 d.base,.int .i64 d.kind,.slice (some ⟨gx,0,none⟩) d.ds.length cx,.slice (some ⟨gy,0,none⟩) d.fs.length cy],.int .i64 0])∧OwnC w' w.heap.size d gx cx gy cy
 bl:Below w.heap.size w w'

structure CpB (w:World) (base kind:Int) (vd vf:Value) (wr:World):Prop where
 k:BxK wr w.heap.size base kind vd vf
 z:wr.heap[w.heap.size+1]? =some ap
 bl:Below w.heap.size w wr
theorem CpB.step {w wr w':World} {base kind:Int} {vd vf:Value} (h:CpB w base kind vd vf wr) (hb:Below wr.heap.size wr w'):CpB w base kind vd vf w':=
 ⟨h.k.step hb,(hb.block _ (Array.getElem?_eq_some_iff.1 h.z).1).trans h.z,h.bl.trans (hb.mono h.bl.size)⟩
theorem CpB.stay {w wr w':World} {B:Nat} {base kind:Int} {vd vf:Value} (h:CpB w base kind vd vf wr) (hb:Below B wr w') (hB:w.heap.size+2≤B):CpB w base kind vd vf w':=
 ⟨⟨(hb.block _ (by omega)).trans h.k.blk⟩,(hb.block _ (by omega)).trans h.z,h.bl.trans (hb.mono (by omega))⟩
theorem CpB.sz {w wr:World} {base kind:Int} {vd vf:Value} (h:CpB w base kind vd vf wr):w.heap.size+2≤wr.heap.size:=(Array.getElem?_eq_some_iff.1 h.z).1
theorem gO (w:World) (base kind:Int) (vd vf:Value):CpB w base kind vd vf ((w.alloc (.cells #[.int .i64 base,.int .i64 kind,vd,vf] 25)).alloc ap):=by
 have s1:(w.alloc (.cells #[.int .i64 base,.int .i64 kind,vd,vf] 25)).heap.size=w.heap.size+1:=by simp
 refine⟨(oU w base kind vd vf).step ((Below.refl _ _).alloc (Nat.le_refl _) _),?_,((Below.refl _ _).alloc (Nat.le_refl _) _).alloc (by rw [s1];omega) _⟩
 rw [← s1];exact heap_alloc_new _ _
theorem CpB.put {w wr:World} {base kind:Int} {vd vf:Value} (h:CpB w base kind vd vf wr) (x y:Value):CpB w base kind x y ((wr.setCell ⟨w.heap.size,2,none⟩ x).setCell ⟨w.heap.size,3,none⟩ y):=by
 refine⟨⟨ar _ (ar _ h.k.blk)⟩,?_,(h.bl.setCell (p:=⟨w.heap.size,2,none⟩) (Nat.le_refl _) x).setCell (p:=⟨w.heap.size,3,none⟩) (Nat.le_refl _) y⟩
 rw [Below.heap_setCell _ ⟨w.heap.size,3,none⟩ y _ (by show w.heap.size+1≠w.heap.size;omega),Below.heap_setCell _ ⟨w.heap.size,2,none⟩ x _ (by show w.heap.size+1≠w.heap.size;omega)]
 exact h.z
theorem BxK.frz {w:World} {g:Nat} {base kind:Int} {vd vf:Value} (h:BxK w g base kind vd vf) (i:Nat):w.frozen? ⟨g,i,none⟩=false:=frozen_of_row _ _ i _ _ h.blk

set_option maxRecDepth 20000 in
set_option maxHeartbeats 6400000 in
theorem zk (base kind:Int) (bd od cd b2 o2 cf n:Nat) (ds:List Int) (fs:List Nat) (w:World) (hd:VSrc w (some ⟨bd,od,none⟩) bd od n (xV ds)) (hf:VSrc w (some ⟨b2,o2,none⟩) b2 o2 n (flV fs)) (hl:ds.length=n) (hl2:fs.length=n) (hn:1≤n) (hn':n≤255) :
  Calls Tryz.prog 36 #[.agg #[.int .i64 base,.int .i64 kind,.slice (some ⟨bd,od,none⟩) n cd,.slice (some ⟨b2,o2,none⟩) n cf]] w fun e w'=>∃ gx cx gy cy,e=.returned (.agg #[.int .i64 base,.int .i64 kind,.slice (some ⟨gx,0,none⟩) n cx,.slice (some ⟨gy,0,none⟩) n cy])∧w'.ownsRow w.heap.size 3 1 (.slice (some ⟨gx,0,none⟩) n cx) n (ds.map kV)∧w'.ownsRow w.heap.size 26 1 (.slice (some ⟨gy,0,none⟩) n cy) n (fs.map fV)∧Below w.heap.size w w':=by
 have HB:=hideS (gO w base kind (.slice (some ⟨bd,od,none⟩) n cd) (.slice (some ⟨b2,o2,none⟩) n cf))
 have HCi:=hideS fun wx (hb:Below w.heap.size w wx)=>zf bd od n cd ds wx (hd.below hb) hl (by omega) (by omega)
 have HCf:=hideS fun wx (hb:Below w.heap.size w wx)=>zg b2 o2 n cf fs wx (hf.below hb) hl2 (by omega) (by omega)
 clear hd hf hl hl2
 obtain⟨w2,hw2⟩:∃ w2,(w.alloc (.cells #[.int .i64 base,.int .i64 kind,.slice (some ⟨bd,od,none⟩) n cd,.slice (some ⟨b2,o2,none⟩) n cf] 25)).alloc ap=w2:=⟨_,rfl⟩
 rw [hw2] at HB
 unfold ap at hw2
 obtain⟨t0,t1,t2,t3⟩:=HB.out.k.t
 go_enter Tryz.func36,Tryz.ntmps36
 go_wp2_with fail
 clear hw2
 refine pF (fun xw=>xw.cell? ⟨w.heap.size,2,none⟩=some (.slice (some ⟨bd,od,none⟩) n cd)∧xw.cell? ⟨w.heap.size,3,none⟩=some (.slice (some ⟨b2,o2,none⟩) n cf)) (fun i=>i==7||i==8||i==9) (by kernel_rfl) ?_
 have hS0:w2.drew.cell? ⟨w.heap.size,2,none⟩=some (.slice (some ⟨bd,od,none⟩) n cd)∧w2.drew.cell? ⟨w.heap.size,3,none⟩=some (.slice (some ⟨b2,o2,none⟩) n cf):=⟨t2,t3⟩
 refine fM 0 (.pointer (some ⟨w.heap.size,2,none⟩)) rfl (by kernel_rfl) (by kernel_rfl) (by kernel_rfl) (by kernel_rfl) (by kernel_rfl) (fun _ _ _ h=>h) (by rfl) hS0 (fun wx hS=>by obtain⟨x1,x2⟩:=hS;go_simp) ?_
 simp only [Act.put,List.setIfInBounds_toArray]
 refine fM 1 (.slice (some ⟨bd,od,none⟩) n cd) rfl (by kernel_rfl) (by kernel_rfl) (by kernel_rfl) (by kernel_rfl) (by kernel_rfl) (fun _ _ _ h=>h) (by rfl) hS0 (fun wx hS=>by obtain⟨x1,x2⟩:=hS;go_simp) ?_
 simp only [Act.put]
 refine fM 3 (.pointer (some ⟨w.heap.size,3,none⟩)) rfl (by kernel_rfl) (by kernel_rfl) (by kernel_rfl) (by kernel_rfl) (by kernel_rfl) (fun _ _ _ h=>h) (by rfl) hS0 (fun wx hS=>by obtain⟨x1,x2⟩:=hS;go_simp) ?_
 simp only [Act.put]
 refine fM 4 (.slice (some ⟨b2,o2,none⟩) n cf) rfl (by kernel_rfl) (by kernel_rfl) (by kernel_rfl) (by kernel_rfl) (by kernel_rfl) (fun _ _ _ h=>h) (by rfl) hS0 (fun wx hS=>by obtain⟨x1,x2⟩:=hS;go_simp) ?_
 simp only [Act.put]
 refine iw (i:=2) (by kernel_rfl) ?_
 refine wpOp_step rfl (fun K1 hK1=>?_)
 go_simp
 go_at_call 78
 refine (HCi.out _ (HB.out.bl.drew)).mono ?_
 rintro e w3 ⟨gx,cx,rfl,ho3,hb3⟩
 have hb3':Below w2.heap.size w2 w3:=⟨hb3.os,hb3.tape,hb3.output,hb3.size,hb3.block⟩
 have HB3:=hideS (HB.out.step hb3')
 have HO3:Hid (w3.ownsRow w2.heap.size 3 1 (.slice (some ⟨gx,0,none⟩) n cx) n (ds.map kV)):=ho3
 have hS3:w3.cell? ⟨w.heap.size,2,none⟩=some (.slice (some ⟨bd,od,none⟩) n cd)∧w3.cell? ⟨w.heap.size,3,none⟩=some (.slice (some ⟨b2,o2,none⟩) n cf):=⟨HB3.out.k.t.2.2.1,HB3.out.k.t.2.2.2⟩
 have HZ3:Hid (w2.heap.size≤w3.heap.size):=hb3'.size
 clear ho3 hb3 hb3' hS0 t0 t1 t2 t3
 refine hK1 _ _ ⟨fun _=>hS3,?_⟩
 refine fM 6 (.pointer (some ⟨w.heap.size,2,none⟩)) rfl (by kernel_rfl) (by kernel_rfl) (by kernel_rfl) (by kernel_rfl) (by kernel_rfl) (fun _ _ _ h=>h) (by rfl) hS3 (fun wx hS=>by obtain⟨x1,x2⟩:=hS;go_simp) ?_
 simp only [Act.put,List.setIfInBounds_toArray]
 refine iw (i:=5) (by kernel_rfl) ?_
 refine wpOp_step rfl (fun K2 hK2=>?_)
 go_simp
 go_at_call 79
 refine (HCf.out _ HB3.out.bl).mono ?_
 rintro e w4 ⟨gy,cy,rfl,ho4,hb4⟩
 have HB4:=hideS (HB3.out.step hb4)
 have HO4:=hideS (cZ HO3.out hb4)
 have HO5:=hideS (cF ho4 HZ3.out)
 obtain⟨t0,t1,t2,t3⟩:=HB4.out.k.t
 have z2:=HB4.out.k.frz 2
 have z3:=HB4.out.k.frz 3
 have HB5:=hideS (HB4.out.put (.slice (some ⟨gx,0,none⟩) n cx) (.slice (some ⟨gy,0,none⟩) n cy))
 have HS2:=hideS HB.out.sz
 have HX5:=hideS (aJ (j:=3) (aJ (j:=2) HO4.out (show w.heap.size<w2.heap.size by have:=HS2.out;omega) (.slice (some ⟨gx,0,none⟩) n cx)) (show w.heap.size<w2.heap.size by have:=HS2.out;omega) (.slice (some ⟨gy,0,none⟩) n cy))
 have HY5:=hideS (aJ (j:=3) (aJ (j:=2) HO5.out (show w.heap.size<w2.heap.size by have:=HS2.out;omega) (.slice (some ⟨gx,0,none⟩) n cx)) (show w.heap.size<w2.heap.size by have:=HS2.out;omega) (.slice (some ⟨gy,0,none⟩) n cy))
 clear ho4 hb4 HB3 HO3 HO4 HO5 HCi HCf
 refine hK2 _ _ ⟨fun _=>⟨t2,t3⟩,?_⟩
 refine iw (i:=7) (by kernel_rfl) ?_
 refine wpOp_step rfl (fun K3 hK3=>?_)
 go_simp
 refine hK3 _ _ ⟨fun h=>absurd h (by decide),?_⟩
 refine iw (i:=8) (by kernel_rfl) ?_
 refine wpOp_step rfl (fun K4 hK4=>?_)
 go_simp
 refine hK4 _ _ ⟨fun h=>absurd h (by decide),?_⟩
 refine iw (i:=9) (by kernel_rfl) ?_
 refine wpOp_step rfl (fun K5 hK5=>?_)
 go_simp
 refine hK5 _ _ ⟨fun h=>absurd h (by decide),?_⟩
 refine CV (by kernel_rfl) ?_
 clear t0 t1 t2 t3 z2 z3 hS3 HB4
 generalize (w4.setCell ⟨w.heap.size,2,none⟩ (.slice (some ⟨gx,0,none⟩) n cx)).setCell ⟨w.heap.size,3,none⟩ (.slice (some ⟨gy,0,none⟩) n cy)=w5 at *
 obtain⟨t0,t1,t2,t3⟩:=HB5.out.k.t
 obtain⟨u1,u2,u3,u4,⟨e0,z0,y0⟩,⟨e1,z1,y1⟩,⟨e2,z2,y2⟩,⟨e3,z3,y3⟩,hZ,hB⟩:=aR (w.heap.size+1) base kind (.slice (some ⟨gx,0,none⟩) n cx) (.slice (some ⟨gy,0,none⟩) n cy) w5 HB5.out.z
 have HBl:=hideS (HB5.out.bl.trans (hB.mono (by omega)))
 have HX6:Hid (u4.ownsRow w2.heap.size 3 1 (.slice (some ⟨gx,0,none⟩) n cx) n (ds.map kV)):=by
  show World.ownsRow _ _ _ _ _ _ _
  rw [← e3,← e2,← e1,← e0]
  exact aJ (aJ (aJ (aJ HX5.out (by have:=HS2.out;omega) _) (by have:=HS2.out;omega) _) (by have:=HS2.out;omega) _) (by have:=HS2.out;omega) _
 have HY6:Hid (u4.ownsRow w2.heap.size 26 1 (.slice (some ⟨gy,0,none⟩) n cy) n (fs.map fV)):=by
  show World.ownsRow _ _ _ _ _ _ _
  rw [← e3,← e2,← e1,← e0]
  exact aJ (aJ (aJ (aJ HY5.out (by have:=HS2.out;omega) _) (by have:=HS2.out;omega) _) (by have:=HS2.out;omega) _) (by have:=HS2.out;omega) _
 obtain⟨s0,s1,s2,s3⟩:=hZ.t
 clear hZ hB
 go_wp2_with fail
 refine bodyPost_ret (v:=.agg #[.int .i64 base,.int .i64 kind,.slice (some ⟨gx,0,none⟩) n cx,.slice (some ⟨gy,0,none⟩) n cy]) (by simp [results,Tryz.results36,go_sem,s0,s1,s2,s3]) rfl ?_
 exact⟨gx,cx,gy,cy,rfl,cF HX6.out (by have:=HS2.out;omega),cF HY6.out (by have:=HS2.out;omega),HBl.out⟩
end Go.Proofs.YtpddmnmhdahnlaaGreat
namespace Go.Proofs.YtpddmnmhdahnlaaGreat
open Go.RowKit

theorem AH {w:World} {B:Nat} {c:Cv} {gx cx gy cy k u:Nat} (h:OwnC w B c gx cx gy cy) (hk:k<c.fs.length) (hu:u<18446744073709551616) (ho:gx≠gy):OwnC (w.setCell ⟨gy,k,none⟩ (.float .f64 u)) B ⟨c.base,c.kind,c.ds,c.fs.set k u⟩ gx cx gy cy:=by
 have h2:=World.ownsRow.stored h.y k (.float .f64 u)
 refine⟨ownsRow_setCell_other h.x (by intro e;simp [Value.ownBlock] at e;exact ho e) _,?_,h.n,by show 0<(c.fs.set k u).length;rw [List.length_set];exact h.m,fun j hj=>?_⟩
 ·show World.ownsRow _ _ _ _ (.slice (some ⟨gy,0,none⟩) (c.fs.set k u).length cy) (c.fs.set k u).length ((c.fs.set k u).map fV)
  rw [List.length_set,List.map_set];exact h2.1
 ·show (c.fs.set k u).getD j 0<_
  rw [getD_set hk]
  split
  ·exact hu
  ·exact h.f j (by have:(c.fs.set k u).length=c.fs.length:=List.length_set;rw [← this];exact hj)
theorem OwnC.ne {w:World} {B:Nat} {d:Cv} {gx cx gy cy:Nat} (h:OwnC w B d gx cx gy cy):gx≠gy:=tq h.x h.y (by decide)
theorem OwnC.lo {w:World} {B:Nat} {d:Cv} {gx cx gy cy:Nat} (h:OwnC w B d gx cx gy cy):B≤gx∧B≤gy:=⟨(h.x.lt gx rfl).1,(h.y.lt gy rfl).1⟩
theorem OwnC.hi {w:World} {B:Nat} {d:Cv} {gx cx gy cy:Nat} (h:OwnC w B d gx cx gy cy):gx<w.heap.size∧gy<w.heap.size:=⟨(h.x.lt gx rfl).2,(h.y.lt gy rfl).2⟩
theorem OwnC.cell {w:World} {B:Nat} {d:Cv} {gx cx gy cy k:Nat} (h:OwnC w B d gx cx gy cy) (hk:k<d.fs.length):w.cell? ⟨gy,k,none⟩=some (.float .f64 (d.fs.getD k 0))∧w.frozen? ⟨gy,k,none⟩=false:=by
 have:=h.src.y.cell k hk
 rw [Nat.zero_add] at this
 exact⟨this,World.ownsRow.frozenAt h.y k⟩
theorem OwnC.far {w:World} {B b j:Nat} {d:Cv} {gx cx gy cy:Nat} (h:OwnC w B d gx cx gy cy) (hx:gx≠b) (hy:gy≠b) (x:Value):OwnC (w.setCell ⟨b,j,none⟩ x) B d gx cx gy cy:=
 ⟨ownsRow_setCell_other h.x (by intro e;simp [Value.ownBlock] at e;exact hx e) _,ownsRow_setCell_other h.y (by intro e;simp [Value.ownBlock] at e;exact hy e) _,h.n,h.m,h.f⟩
theorem rY {w5 u1 u2 u3 u4:World} {B b:Nat} {d:Cv} {gx cx gy cy:Nat} {x0 x1 x2 x3:Value} (h:OwnC w5 B d gx cx gy cy) (hx:gx≠b) (hy:gy≠b) (e0:w5.setCell ⟨b,0,none⟩ x0=u1) (e1:u1.setCell ⟨b,1,none⟩ x1=u2) (e2:u2.setCell ⟨b,2,none⟩ x2=u3) (e3:u3.setCell ⟨b,3,none⟩ x3=u4):OwnC u4 B d gx cx gy cy:=by
 rw [← e3,← e2,← e1,← e0]
 exact (((h.far hx hy _).far hx hy _).far hx hy _).far hx hy _

set_option maxRecDepth 20000 in
set_option maxHeartbeats 3200000 in
theorem CW (base kind E:Int) (i:Int) (h:Nat) (vd vf:Value) (w:World) (hE:E≠0) (HC:Hid (∀ wx,Below w.heap.size w wx→Calls Tryz.prog 31 #[.agg #[.int .i64 base,.int .i64 kind,vd,vf]] wx fun e w'=>e=.returned (.int .i64 E)∧Below wx.heap.size wx w')) :
  Calls Tryz.prog 11 #[.agg #[.int .i64 base,.int .i64 kind,vd,vf],.int .i64 i,.float .f64 h] w fun e w'=>CvO w cv0 E e w':=by
 have dE:(E !=0)=true:=bne_iff_ne.2 hE
 have HE:=hideS hE
 clear hE
 have HB:=hideS (gO w base kind (vd) (vf))
 obtain⟨w2,hw2⟩:∃ w2,(w.alloc (.cells #[.int .i64 base,.int .i64 kind,vd,vf] 25)).alloc ap=w2:=⟨_,rfl⟩
 rw [hw2] at HB
 unfold ap at hw2
 obtain⟨t0,t1,t2,t3⟩:=HB.out.k.t
 go_enter Tryz.func11,Tryz.ntmps11
 go_wp2_with fail
 clear hw2 t0 t1 t2 t3
 refine (HC.out _ HB.out.bl).mono ?_
 rintro e w3 ⟨rfl,hb3⟩
 have HB3:=hideS (HB.out.step hb3)
 have HS:=hideS HB.out.sz
 clear hb3 HC HB
 obtain⟨t0,t1,t2,t3⟩:=HB3.out.k.t
 obtain⟨u1,u2,u3,u4,⟨e0,z0,y0⟩,⟨e1,z1,y1⟩,⟨e2,z2,y2⟩,⟨e3,z3,y3⟩,hZ,hB⟩:=aR (w.heap.size+1) 0 0 (.slice none 0 0) (.slice none 0 0) w3 HB3.out.z
 have HBl:=hideS (HB3.out.bl.trans (hB.mono (by omega)))
 obtain⟨s0,s1,s2,s3⟩:=hZ.t
 clear hZ hB
 go_wp2_with fail
 refine bodyPost_ret (v:=.tuple #[.agg #[.int .i64 0,.int .i64 0,.slice none 0 0,.slice none 0 0],.int .i64 E]) (by simp [results,Tryz.results11,go_sem,s0,s1,s2,s3]) rfl ?_
 exact⟨fun _=>rfl,fun h=>absurd h HE.out,HBl.out⟩

set_option maxRecDepth 20000 in
set_option maxHeartbeats 3200000 in
theorem CX (base kind E:Int) (h:Nat) (vd vf:Value) (w:World) (hE:E≠0) (HC:Hid (∀ wx,Below w.heap.size w wx→Calls Tryz.prog 31 #[.agg #[.int .i64 base,.int .i64 kind,vd,vf]] wx fun e w'=>e=.returned (.int .i64 E)∧Below wx.heap.size wx w')) :
  Calls Tryz.prog 14 #[.agg #[.int .i64 base,.int .i64 kind,vd,vf],.float .f64 h] w fun e w'=>CvO w cv0 E e w':=by
 have dE:(E !=0)=true:=bne_iff_ne.2 hE
 have HE:=hideS hE
 clear hE
 have HB:=hideS (gO w base kind (vd) (vf))
 obtain⟨w2,hw2⟩:∃ w2,(w.alloc (.cells #[.int .i64 base,.int .i64 kind,vd,vf] 25)).alloc ap=w2:=⟨_,rfl⟩
 rw [hw2] at HB
 unfold ap at hw2
 obtain⟨t0,t1,t2,t3⟩:=HB.out.k.t
 go_enter Tryz.func14,Tryz.ntmps14
 go_wp2_with fail
 clear hw2 t0 t1 t2 t3
 refine (HC.out _ HB.out.bl).mono ?_
 rintro e w3 ⟨rfl,hb3⟩
 have HB3:=hideS (HB.out.step hb3)
 have HS:=hideS HB.out.sz
 clear hb3 HC HB
 obtain⟨t0,t1,t2,t3⟩:=HB3.out.k.t
 obtain⟨u1,u2,u3,u4,⟨e0,z0,y0⟩,⟨e1,z1,y1⟩,⟨e2,z2,y2⟩,⟨e3,z3,y3⟩,hZ,hB⟩:=aR (w.heap.size+1) 0 0 (.slice none 0 0) (.slice none 0 0) w3 HB3.out.z
 have HBl:=hideS (HB3.out.bl.trans (hB.mono (by omega)))
 obtain⟨s0,s1,s2,s3⟩:=hZ.t
 clear hZ hB
 go_wp2_with fail
 refine bodyPost_ret (v:=.tuple #[.agg #[.int .i64 0,.int .i64 0,.slice none 0 0,.slice none 0 0],.int .i64 E]) (by simp [results,Tryz.results14,go_sem,s0,s1,s2,s3]) rfl ?_
 exact⟨fun _=>rfl,fun h=>absurd h HE.out,HBl.out⟩

set_option maxRecDepth 20000 in
set_option maxHeartbeats 3200000 in
theorem CY (base kind i:Int) (h n m bd od cd b2 o2 cf:Nat) (w:World) (hi:¬ (0≤i∧i<(n:Int))) (HC:Hid (∀ wx,Below w.heap.size w wx→Calls Tryz.prog 31 #[.agg #[.int .i64 base,.int .i64 kind,.slice (some ⟨bd,od,none⟩) n cd,.slice (some ⟨b2,o2,none⟩) m cf]] wx fun e w'=>e=.returned (.int .i64 0)∧Below wx.heap.size wx w')) :
  Calls Tryz.prog 11 #[.agg #[.int .i64 base,.int .i64 kind,.slice (some ⟨bd,od,none⟩) n cd,.slice (some ⟨b2,o2,none⟩) m cf],.int .i64 i,.float .f64 h] w fun e w'=>CvO w cv0 1 e w':=by
 have HE:Hid ((1:Int)≠0):=by show _≠_;decide
 have HB:=hideS (gO w base kind (.slice (some ⟨bd,od,none⟩) n cd) (.slice (some ⟨b2,o2,none⟩) m cf))
 obtain⟨w2,hw2⟩:∃ w2,(w.alloc (.cells #[.int .i64 base,.int .i64 kind,.slice (some ⟨bd,od,none⟩) n cd,.slice (some ⟨b2,o2,none⟩) m cf] 25)).alloc ap=w2:=⟨_,rfl⟩
 rw [hw2] at HB
 unfold ap at hw2
 obtain⟨t0,t1,t2,t3⟩:=HB.out.k.t
 go_enter Tryz.func11,Tryz.ntmps11
 go_wp2_with fail
 clear hw2 t0 t1 t2 t3
 refine (HC.out _ HB.out.bl).mono ?_
 rintro e w3 ⟨rfl,hb3⟩
 have HB3:=hideS (HB.out.step hb3)
 have HS:=hideS HB.out.sz
 clear hb3 HC HB
 obtain⟨t0,t1,t2,t3⟩:=HB3.out.k.t
 obtain⟨u1,u2,u3,u4,⟨e0,z0,y0⟩,⟨e1,z1,y1⟩,⟨e2,z2,y2⟩,⟨e3,z3,y3⟩,hZ,hB⟩:=aR (w.heap.size+1) 0 0 (.slice none 0 0) (.slice none 0 0) w3 HB3.out.z
 have HBl:=hideS (HB3.out.bl.trans (hB.mono (by omega)))
 obtain⟨s0,s1,s2,s3⟩:=hZ.t
 clear hZ hB
 by_cases h1:i<0
 ·clear hi
  go_wp2_with fail
  refine bodyPost_ret (v:=.tuple #[.agg #[.int .i64 0,.int .i64 0,.slice none 0 0,.slice none 0 0],.int .i64 1]) (by simp [results,Tryz.results11,go_sem,s0,s1,s2,s3]) rfl ?_
  exact⟨fun _=>rfl,fun h=>absurd h HE.out,HBl.out⟩
 ·have h2:(n:Int)≤i:=by omega
  clear hi
  go_wp2_with fail
  refine bodyPost_ret (v:=.tuple #[.agg #[.int .i64 0,.int .i64 0,.slice none 0 0,.slice none 0 0],.int .i64 1]) (by simp [results,Tryz.results11,go_sem,s0,s1,s2,s3]) rfl ?_
  exact⟨fun _=>rfl,fun h=>absurd h HE.out,HBl.out⟩

set_option maxRecDepth 20000 in
set_option maxHeartbeats 3200000 in
theorem CZ (base kind E:Int) (k h U n m bd od cd b2 o2 cf:Nat) (w:World) (hk:k<n) (hE:E≠0) (HC:Hid (∀ wx,Below w.heap.size w wx→Calls Tryz.prog 31 #[.agg #[.int .i64 base,.int .i64 kind,.slice (some ⟨bd,od,none⟩) n cd,.slice (some ⟨b2,o2,none⟩) m cf]] wx fun e w'=>e=.returned (.int .i64 0)∧Below wx.heap.size wx w')) (HF:Hid (∀ wx,Below w.heap.size w wx→Calls Tryz.prog 35 #[.agg #[.int .i64 base,.int .i64 kind,.slice (some ⟨bd,od,none⟩) n cd,.slice (some ⟨b2,o2,none⟩) m cf],.int .i64 (k:Nat),.float .f64 h] wx fun e w'=>e=.returned (.tuple #[.float .f64 U,.int .i64 E])∧Below wx.heap.size wx w')) :
  Calls Tryz.prog 11 #[.agg #[.int .i64 base,.int .i64 kind,.slice (some ⟨bd,od,none⟩) n cd,.slice (some ⟨b2,o2,none⟩) m cf],.int .i64 (k:Nat),.float .f64 h] w fun e w'=>CvO w cv0 E e w':=by
 have dE:(E !=0)=true:=bne_iff_ne.2 hE
 have HE:=hideS hE
 clear hE
 have HB:=hideS (gO w base kind (.slice (some ⟨bd,od,none⟩) n cd) (.slice (some ⟨b2,o2,none⟩) m cf))
 obtain⟨w2,hw2⟩:∃ w2,(w.alloc (.cells #[.int .i64 base,.int .i64 kind,.slice (some ⟨bd,od,none⟩) n cd,.slice (some ⟨b2,o2,none⟩) m cf] 25)).alloc ap=w2:=⟨_,rfl⟩
 rw [hw2] at HB
 unfold ap at hw2
 obtain⟨t0,t1,t2,t3⟩:=HB.out.k.t
 go_enter Tryz.func11,Tryz.ntmps11
 go_wp2_with fail
 clear hw2 t0 t1 t2 t3
 refine (HC.out _ HB.out.bl).mono ?_
 rintro e w3 ⟨rfl,hb3⟩
 have HB3:=hideS (HB.out.step hb3)
 have HS:=hideS HB.out.sz
 clear hb3 HC HB
 obtain⟨t0,t1,t2,t3⟩:=HB3.out.k.t
 have g1:¬ (k:Int)<0:=by omega
 have g2:¬ (n:Int)≤(k:Int):=by omega
 go_wp2_with fail
 refine (HF.out _ HB3.out.bl).mono ?_
 rintro e w4 ⟨rfl,hb4⟩
 have HB4:=hideS (HB3.out.step hb4)
 clear hb4 HF t0 t1 t2 t3
 obtain⟨u1,u2,u3,u4,⟨e0,z0,y0⟩,⟨e1,z1,y1⟩,⟨e2,z2,y2⟩,⟨e3,z3,y3⟩,hZ,hB⟩:=aR (w.heap.size+1) 0 0 (.slice none 0 0) (.slice none 0 0) w4 HB4.out.z
 have HBl:=hideS (HB4.out.bl.trans (hB.mono (by omega)))
 obtain⟨s0,s1,s2,s3⟩:=hZ.t
 clear hZ hB
 go_wp2_with fail
 refine bodyPost_ret (v:=.tuple #[.agg #[.int .i64 0,.int .i64 0,.slice none 0 0,.slice none 0 0],.int .i64 E]) (by simp [results,Tryz.results11,go_sem,s0,s1,s2,s3]) rfl ?_
 exact⟨fun _=>rfl,fun h=>absurd h HE.out,HBl.out⟩

set_option maxRecDepth 20000 in
set_option maxHeartbeats 3200000 in
theorem Hb (c:Cv) (base kind:Int) (k h U n bd od cd b2 o2 cf:Nat) (w:World) (hk:k<n) (hcb:c.base=base) (hck:c.kind=kind) (hcd:c.ds.length=n) (hcf:c.fs.length=n) (hU:U<18446744073709551616) (HC:Hid (∀ wx,Below w.heap.size w wx→Calls Tryz.prog 31 #[.agg #[.int .i64 base,.int .i64 kind,.slice (some ⟨bd,od,none⟩) n cd,.slice (some ⟨b2,o2,none⟩) n cf]] wx fun e w'=>e=.returned (.int .i64 0)∧Below wx.heap.size wx w')) (HF:Hid (∀ wx,Below w.heap.size w wx→Calls Tryz.prog 35 #[.agg #[.int .i64 base,.int .i64 kind,.slice (some ⟨bd,od,none⟩) n cd,.slice (some ⟨b2,o2,none⟩) n cf],.int .i64 (k:Nat),.float .f64 h] wx fun e w'=>e=.returned (.tuple #[.float .f64 U,.int .i64 0])∧Below wx.heap.size wx w')) (HO:Hid (∀ wx,Below w.heap.size w wx→Calls Tryz.prog 36 #[.agg #[.int .i64 base,.int .i64 kind,.slice (some ⟨bd,od,none⟩) n cd,.slice (some ⟨b2,o2,none⟩) n cf]] wx fun e w'=>(∃ gx cx gy cy,e=.returned (.agg #[.int .i64 base,.int .i64 kind,.slice (some ⟨gx,0,none⟩) n cx,.slice (some ⟨gy,0,none⟩) n cy])∧OwnC w' wx.heap.size c gx cx gy cy)∧Below wx.heap.size wx w')) :
  Calls Tryz.prog 11 #[.agg #[.int .i64 base,.int .i64 kind,.slice (some ⟨bd,od,none⟩) n cd,.slice (some ⟨b2,o2,none⟩) n cf],.int .i64 (k:Nat),.float .f64 h] w fun e w'=>CvO w ⟨c.base,c.kind,c.ds,c.fs.set k U⟩ 0 e w':=by
 have Hcb:=hideS hcb
 have Hck:=hideS hck
 have Hcd:=hideS hcd
 have Hcf:=hideS hcf
 have HU:=hideS hU
 clear hcb hck hcd hcf hU
 have HB:=hideS (gO w base kind (.slice (some ⟨bd,od,none⟩) n cd) (.slice (some ⟨b2,o2,none⟩) n cf))
 obtain⟨w2,hw2⟩:∃ w2,(w.alloc (.cells #[.int .i64 base,.int .i64 kind,.slice (some ⟨bd,od,none⟩) n cd,.slice (some ⟨b2,o2,none⟩) n cf] 25)).alloc ap=w2:=⟨_,rfl⟩
 rw [hw2] at HB
 unfold ap at hw2
 obtain⟨t0,t1,t2,t3⟩:=HB.out.k.t
 go_enter Tryz.func11,Tryz.ntmps11
 go_wp2_with fail
 clear hw2 t0 t1 t2 t3
 refine (HC.out _ HB.out.bl).mono ?_
 rintro e w3 ⟨rfl,hb3⟩
 have HB3:=hideS (HB.out.step hb3)
 have HS:=hideS HB.out.sz
 clear hb3 HC HB
 obtain⟨t0,t1,t2,t3⟩:=HB3.out.k.t
 have g1:¬ (k:Int)<0:=by omega
 have g2:¬ (n:Int)≤(k:Int):=by omega
 go_wp2_with fail
 refine (HF.out _ HB3.out.bl).mono ?_
 rintro e w4 ⟨rfl,hb4⟩
 have HB4:=hideS (HB3.out.step hb4)
 clear hb4 HF t0 t1 t2 t3
 obtain⟨t0,t1,t2,t3⟩:=HB4.out.k.t
 go_wp2_with fail
 refine (HO.out _ HB4.out.bl).mono ?_
 rintro e w5 ⟨⟨gx,cx,gy,cy,rfl,hO⟩,hb5⟩
 have HB5:=hideS (HB4.out.step hb5)
 have HL:=hideS hO.lo
 have HH:=hideS hO.hi
 have HNe:=hideS hO.ne
 have HS4:=hideS HB4.out.sz
 obtain⟨u1,u2,u3,u4,⟨e0,z0,y0⟩,⟨e1,z1,y1⟩,⟨e2,z2,y2⟩,⟨e3,z3,y3⟩,hZ,hB⟩:=aR w5.heap.size base kind (.slice (some ⟨gx,0,none⟩) n cx) (.slice (some ⟨gy,0,none⟩) n cy) (w5.alloc ap) (heap_alloc_new _ _)
 have hB2:Below w5.heap.size w5 u4:=((Below.refl _ w5).alloc (Nat.le_refl _) ap).trans hB
 have HO4:=hideS (hO.below hB2)
 have HB6:=hideS (HB5.out.step hB2)
 obtain⟨q1,q2⟩:=HO4.out.cell (k:=k) (by rw [Hcf.out];exact hk)
 have HOk:=hideS (AH HO4.out (by rw [Hcf.out];exact hk) HU.out HNe.out)
 have HB7:Hid (CpB w base kind (.slice (some ⟨bd,od,none⟩) n cd) (.slice (some ⟨b2,o2,none⟩) n cf) (u4.setCell ⟨gy,k,none⟩ (.float .f64 U))):=HB6.out.stay ((Below.refl gy u4).setCell (p:=⟨gy,k,none⟩) (Nat.le_refl _) _) (by have:=HL.out.2;have:=HS4.out;omega)
 have HBx:Hid (BxK (u4.setCell ⟨gy,k,none⟩ (.float .f64 U)) w5.heap.size base kind (.slice (some ⟨gx,0,none⟩) n cx) (.slice (some ⟨gy,0,none⟩) n cy)):=⟨by
  rw [Below.heap_setCell _ ⟨gy,k,none⟩ _ _ (by show w5.heap.size≠gy;have:=HH.out.2;omega)];exact hZ.blk⟩
 obtain⟨w6,hw6⟩:∃ w6,w5.alloc ap=w6:=⟨_,rfl⟩
 rw [hw6] at e0 z0 y0
 unfold ap at hw6
 obtain⟨s0,s1,s2,s3⟩:=hZ.t
 obtain⟨w7,hw7⟩:∃ w7,u4.setCell ⟨gy,k,none⟩ (.float .f64 U)=w7:=⟨_,rfl⟩
 rw [hw7] at HOk HB7 HBx
 obtain⟨x0,x1,x2,x3⟩:=HBx.out.t
 obtain⟨v1,v2,v3,v4,⟨f0,a0,b0⟩,⟨f1,a1,b1⟩,⟨f2,a2,b2'⟩,⟨f3,a3,b3⟩,hZ2,hB3⟩:=aR (w.heap.size+1) base kind (.slice (some ⟨gx,0,none⟩) n cx) (.slice (some ⟨gy,0,none⟩) n cy) w7 HB7.out.z
 have HOf:=hideS (rY HOk.out (by have:=HL.out.1;have:=HS4.out;omega) (by have:=HL.out.2;have:=HS4.out;omega) f0 f1 f2 f3)
 have HBl:=hideS (HB7.out.bl.trans (hB3.mono (by omega)))
 obtain⟨r0,r1,r2,r3⟩:=hZ2.t
 have hst:=bM
 have g3:(0:Int)≤(k:Int):=by omega
 have g4:(k:Int)<(n:Int):=by omega
 clear hO hb5 HO t0 t1 t2 t3 hZ hB hB2 hZ2 hB3 HB5 HB6 HB4 HB3 HO4
 go_wp2_with fail
 refine bodyPost_ret (v:=.tuple #[.agg #[.int .i64 base,.int .i64 kind,.slice (some ⟨gx,0,none⟩) n cx,.slice (some ⟨gy,0,none⟩) n cy],.int .i64 0]) (by simp [results,Tryz.results11,go_sem,r0,r1,r2,r3]) rfl ?_
 refine⟨fun h=>absurd rfl h,fun _=>⟨gx,cx,gy,cy,?_,HOf.out.mono (by have:=HS4.out;omega)⟩,HBl.out⟩
 show Ending.returned _=Ending.returned (.tuple #[.agg #[.int .i64 c.base,.int .i64 c.kind,.slice (some ⟨gx,0,none⟩) c.ds.length cx,.slice (some ⟨gy,0,none⟩) (c.fs.set k U).length cy],.int .i64 0])
 rw [List.length_set,Hcb.out,Hck.out,Hcd.out,Hcf.out]
end Go.Proofs.YtpddmnmhdahnlaaGreat
namespace Go.Proofs.YtpddmnmhdahnlaaGreat
open Go.RowKit

structure PaI (w:World) (base kind:Int) (vd vf:Value) (B D:Nat) (n gx cx gy cy:Nat) (c:Cv) (h k:Nat) (wr:World):Prop where
 cp:CpB w base kind vd vf wr
 bx:BxK wr B base kind (.slice (some ⟨gx,0,none⟩) n cx) (.slice (some ⟨gy,0,none⟩) n cy)
 own:OwnC wr D ⟨c.base,c.kind,c.ds,c.parL h k⟩ gx cx gy cy
theorem PaI.step {w wr w':World} {base kind:Int} {vd vf:Value} {B D n gx cx gy cy:Nat} {c:Cv} {h k:Nat} (H:PaI w base kind vd vf B D n gx cx gy cy c h k wr) (hb:Below wr.heap.size wr w'):PaI w base kind vd vf B D n gx cx gy cy c h k w':=⟨H.cp.step hb,H.bx.step hb,H.own.below hb⟩
theorem PaI.put {w wr:World} {base kind:Int} {vd vf:Value} {B D n gx cx gy cy:Nat} {c:Cv} {h k:Nat} (H:PaI w base kind vd vf B D n gx cx gy cy c h k wr) (hk:k<c.fs.length) (hu:c.bm k h<18446744073709551616) (hD:w.heap.size+2≤D) (hB:gy≠B):PaI w base kind vd vf B D n gx cx gy cy c h (k+1) (wr.setCell ⟨gy,k,none⟩ (.float .f64 (c.bm k h))):=by
 refine⟨H.cp.stay ((Below.refl gy wr).setCell (p:=⟨gy,k,none⟩) (Nat.le_refl _) _) (by have:=H.own.lo.2;omega),⟨?_⟩,AH H.own (by show k<(c.parL h k).length;rw [dw];exact hk) hu H.own.ne⟩
 rw [Below.heap_setCell _ ⟨gy,k,none⟩ _ _ (by show B≠gy;exact fun e=>hB e.symm)];exact H.bx.blk
set_option maxRecDepth 20000 in
set_option maxHeartbeats 6400000 in
theorem Da (c:Cv) (base kind:Int) (h n bd od cd b2 o2 cf:Nat) (w:World) (hn:n≤255) (hcb:c.base=base) (hck:c.kind=kind) (hcd:c.ds.length=n) (hcf:c.fs.length=n) (hU:∀ k<n,bmE c k h=0→bmV c k h=c.bm k h∧c.bm k h<18446744073709551616) (h91:∀ k<n,bmE c k h≠0→bmE c k h=91)
  (HC:Hid (∀ wx,Below w.heap.size w wx→Calls Tryz.prog 31 #[.agg #[.int .i64 base,.int .i64 kind,.slice (some ⟨bd,od,none⟩) n cd,.slice (some ⟨b2,o2,none⟩) n cf]] wx fun e w'=>e=.returned (.int .i64 0)∧Below wx.heap.size wx w'))
  (HF:Hid (∀ k<n,∀ wx,Below w.heap.size w wx→Calls Tryz.prog 35 #[.agg #[.int .i64 base,.int .i64 kind,.slice (some ⟨bd,od,none⟩) n cd,.slice (some ⟨b2,o2,none⟩) n cf],.int .i64 (k:Nat),.float .f64 h] wx fun e w'=>e=.returned (.tuple #[.float .f64 (bmV c k h),.int .i64 (bmE c k h)])∧Below wx.heap.size wx w'))
  (HO:Hid (∀ wx,Below w.heap.size w wx→Calls Tryz.prog 36 #[.agg #[.int .i64 base,.int .i64 kind,.slice (some ⟨bd,od,none⟩) n cd,.slice (some ⟨b2,o2,none⟩) n cf]] wx fun e w'=>(∃ gx cx gy cy,e=.returned (.agg #[.int .i64 base,.int .i64 kind,.slice (some ⟨gx,0,none⟩) n cx,.slice (some ⟨gy,0,none⟩) n cy])∧OwnC w' wx.heap.size c gx cx gy cy)∧Below wx.heap.size wx w')) :
  Calls Tryz.prog 14 #[.agg #[.int .i64 base,.int .i64 kind,.slice (some ⟨bd,od,none⟩) n cd,.slice (some ⟨b2,o2,none⟩) n cf],.float .f64 h] w fun e w'=>((∃ k<n,bmE c k h≠0)∧CvO w cv0 91 e w')∨((∀ k<n,bmE c k h=0)∧CvO w (c.para h) 0 e w'):=by
 have Hcb:=hideS hcb
 have Hck:=hideS hck
 have Hcd:=hideS hcd
 have Hcf:=hideS hcf
 have HU:=hideS hU
 have H91:=hideS h91
 clear hcb hck hcd hcf hU h91
 have HB:=hideS (gO w base kind (.slice (some ⟨bd,od,none⟩) n cd) (.slice (some ⟨b2,o2,none⟩) n cf))
 obtain⟨w2,hw2⟩:∃ w2,(w.alloc (.cells #[.int .i64 base,.int .i64 kind,.slice (some ⟨bd,od,none⟩) n cd,.slice (some ⟨b2,o2,none⟩) n cf] 25)).alloc ap=w2:=⟨_,rfl⟩
 rw [hw2] at HB
 unfold ap at hw2
 obtain⟨t0,t1,t2,t3⟩:=HB.out.k.t
 go_enter Tryz.func14,Tryz.ntmps14
 go_wp2_with fail
 clear hw2 t0 t1 t2 t3
 refine (HC.out _ HB.out.bl).mono ?_
 rintro e w3 ⟨rfl,hb3⟩
 have HB3:=hideS (HB.out.step hb3)
 have HS:=hideS HB3.out.sz
 clear hb3 HC HB
 obtain⟨t0,t1,t2,t3⟩:=HB3.out.k.t
 go_wp2_with fail
 refine (HO.out _ HB3.out.bl).mono ?_
 rintro e w5 ⟨⟨gx,cx,gy,cy,rfl,hO⟩,hb5⟩
 have HB5:=hideS (HB3.out.step hb5)
 have HL:=hideS hO.lo
 have HH:=hideS hO.hi
 obtain⟨u1,u2,u3,u4,⟨e0,z0,y0⟩,⟨e1,z1,y1⟩,⟨e2,z2,y2⟩,⟨e3,z3,y3⟩,hZ,hB⟩:=aR w5.heap.size base kind (.slice (some ⟨gx,0,none⟩) n cx) (.slice (some ⟨gy,0,none⟩) n cy) (w5.alloc ap) (heap_alloc_new _ _)
 have hB2:Below w5.heap.size w5 u4:=((Below.refl _ w5).alloc (Nat.le_refl _) ap).trans hB
 have HI:Hid (PaI w base kind (.slice (some ⟨bd,od,none⟩) n cd) (.slice (some ⟨b2,o2,none⟩) n cf) w5.heap.size w3.heap.size n gx cx gy cy c h 0 u4):=⟨HB5.out.step hB2,hZ,hO.below hB2⟩
 have HgB:Hid (gx≠w5.heap.size∧gy≠w5.heap.size):=⟨Nat.ne_of_lt HH.out.1,Nat.ne_of_lt HH.out.2⟩
 obtain⟨w6,hw6⟩:∃ w6,w5.alloc ap=w6:=⟨_,rfl⟩
 rw [hw6] at e0 z0 y0
 unfold ap at hw6
 clear t0 t1 t2 t3
 obtain⟨t0,t1,t2,t3⟩:=HI.out.cp.k.t
 clear hO hb5 HO hZ hB hB2 HB5 HB3 HH
 go_wp2_with fail
 clear hw6 e0 z0 y0 e1 z1 y1 e2 z2 y2 e3 z3 y3 t0 t1 t2 t3
 generalize w5.heap.size=B at *
 generalize w3.heap.size=D at *
 go_loopw [8,9,10,22] (fun _ _ _ i wr=>∃ k:Nat,k≤n∧i=.int .i64 k∧Hid (∀ j<k,bmE c j h=0)∧Hid (PaI w base kind (.slice (some ⟨bd,od,none⟩) n cd) (.slice (some ⟨b2,o2,none⟩) n cf) B D n gx cx gy cy c h k wr)) (fun _ _ _ i _=>n - (intOf i).toNat)
 case atStart=>exact⟨0,Nat.zero_le _,rfl,fun j hj=>by omega,HI⟩
 case round=>
  clear HI
  obtain⟨k,hk,rfl,HFn,HI⟩:=hrel
  by_cases hlt:k<n
  ·obtain⟨t0,t1,t2,t3⟩:=HI.out.cp.k.t
   have HFk:=hideS (HF.out k hlt)
   go_wp2_with fail
   refine (HFk.out _ HI.out.cp.bl).mono ?_
   rintro e w7 ⟨rfl,hb7⟩
   have HI7:=hideS (HI.out.step hb7)
   clear hb7 HFk HI t0 t1 t2 t3
   by_cases hE:bmE c k h=0
   ·obtain⟨hV,hU⟩:=HU.out k hlt hE
    have HP:=hideS (HI7.out.put (by rw [Hcf.out];exact hlt) hU HS.out HgB.out.2)
    have HF2:Hid (∀ j<k+1,bmE c j h=0):=fun j hj=>by
     rcases Nat.lt_or_eq_of_le (Nat.le_of_lt_succ hj) with d | d
     ·exact HFn.out j d
     ·rw [d];exact hE
    obtain⟨q1,q2⟩:=HI7.out.own.cell (k:=k) (by show k<(c.parL h k).length;rw [dw,Hcf.out];exact hlt)
    obtain⟨s0,s1,s2,s3⟩:=HI7.out.bx.t
    have hst:=bM
    have g3:(0:Int)≤(k:Int):=by omega
    have g4:(k:Int)<(n:Int):=by omega
    rw [hE,hV]
    clear hE hV hU
    generalize c.bm k h=U at *
    go_wp2_with fail
    go_roundw
    case rel=>exact⟨k+1,by omega,by simp,HF2,HP⟩
    case measure=>simp [intOf];omega
   ·have dE:(bmE c k h !=0)=true:=bne_iff_ne.2 hE
    obtain⟨u1,u2,u3,u4,⟨e0,z0,y0⟩,⟨e1,z1,y1⟩,⟨e2,z2,y2⟩,⟨e3,z3,y3⟩,hZ,hB⟩:=aR (w.heap.size+1) 0 0 (.slice none 0 0) (.slice none 0 0) w7 HI7.out.cp.z
    have HBl:=hideS (HI7.out.cp.bl.trans (hB.mono (by omega)))
    obtain⟨s0,s1,s2,s3⟩:=hZ.t
    have HE:Hid (∃ k<n,bmE c k h≠0):=⟨k,hlt,hE⟩
    have e91:=H91.out k hlt hE
    rw [e91] at dE ⊢
    clear hZ hB hE e91
    go_wp2_with fail
    refine bodyPost_ret (v:=.tuple #[.agg #[.int .i64 0,.int .i64 0,.slice none 0 0,.slice none 0 0],.int .i64 91]) (by simp [results,Tryz.results14,go_sem,s0,s1,s2,s3]) rfl ?_
    exact Or.inl ⟨HE.out,fun _=>rfl,fun h=>absurd h (by decide),HBl.out⟩
  ·obtain rfl:k=n:=by omega
   obtain⟨s0,s1,s2,s3⟩:=HI.out.bx.t
   obtain⟨v1,v2,v3,v4,⟨f0,a0,b0⟩,⟨f1,a1,b1⟩,⟨f2,a2,b2'⟩,⟨f3,a3,b3⟩,hZ2,hB3⟩:=aR (w.heap.size+1) base kind (.slice (some ⟨gx,0,none⟩) k cx) (.slice (some ⟨gy,0,none⟩) k cy) wr HI.out.cp.z
   have HOf:=hideS (rY HI.out.own (by have:=HL.out.1;have:=HS.out;omega) (by have:=HL.out.2;have:=HS.out;omega) f0 f1 f2 f3)
   have HBl:=hideS (HI.out.cp.bl.trans (hB3.mono (by omega)))
   obtain⟨r0,r1,r2,r3⟩:=hZ2.t
   clear hZ2 hB3
   go_wp2_with fail
   refine bodyPost_ret (v:=.tuple #[.agg #[.int .i64 base,.int .i64 kind,.slice (some ⟨gx,0,none⟩) k cx,.slice (some ⟨gy,0,none⟩) k cy],.int .i64 0]) (by simp [results,Tryz.results14,go_sem,r0,r1,r2,r3]) rfl ?_
   have hO:=HOf.out
   rw [← Hcd.out] at hO
   refine Or.inr ⟨HFn.out,fun h=>absurd rfl h,fun _=>⟨gx,cx,gy,cy,?_,hO.mono (by have:=HS.out;omega)⟩,HBl.out⟩
   show Ending.returned _=Ending.returned (.tuple #[.agg #[.int .i64 c.base,.int .i64 c.kind,.slice (some ⟨gx,0,none⟩) c.ds.length cx,.slice (some ⟨gy,0,none⟩) (c.parL h c.ds.length).length cy],.int .i64 0])
   rw [dw,Hcb.out,Hck.out,Hcd.out,Hcf.out]
theorem Hc {c:Cv} {k h:Nat} (ok:c.Ok) (hv:c.Fit) (hk:k<c.ds.length) (hE:bmE c k h=0):bmB c k h=true∧bmV c k h=c.bm k h∧c.bm k h<18446744073709551616:=by
 have hb:bmB c k h=true:=by
  cases hb:bmB c k h with
  | true=>rfl
  | false=>unfold bmE at hE;rw [hb] at hE;exact absurd hE (by decide)
 refine⟨hb,by unfold bmV;rw [if_pos hb],(rX ok hv hk (bJ (pC hb).2)).2.2.1⟩
theorem bmE_cases (c:Cv) (k h:Nat):(bmB c k h=true∧bmE c k h=0)∨(bmB c k h=false∧bmE c k h=91):=by
 unfold bmE
 cases bmB c k h
 ·exact Or.inr ⟨rfl,rfl⟩
 ·exact Or.inl ⟨rfl,rfl⟩
theorem pG (c:Cv) (bd od cd b2 o2 cf:Nat) (w:World) (ok:c.Ok) (hs:TFl w (some ⟨bd,od,none⟩) (some ⟨b2,o2,none⟩) bd od b2 o2 c.ds c.fs):∀ wx,Below w.heap.size w wx→Calls Tryz.prog 36 #[.agg #[.int .i64 c.base,.int .i64 c.kind,.slice (some ⟨bd,od,none⟩) c.ds.length cd,.slice (some ⟨b2,o2,none⟩) c.ds.length cf]] wx fun e w'=>(∃ gx cx gy cy,e=.returned (.agg #[.int .i64 c.base,.int .i64 c.kind,.slice (some ⟨gx,0,none⟩) c.ds.length cx,.slice (some ⟨gy,0,none⟩) c.ds.length cy])∧OwnC w' wx.heap.size c gx cx gy cy)∧Below wx.heap.size wx w':=fun wx hb=>by
 have hl:=ok.len
 have hlo:=ok.lo
 have hs':=hs.below hb
 refine (zk c.base c.kind bd od cd b2 o2 cf c.ds.length c.ds c.fs wx hs'.x (by rw [← hl];exact hs'.y) rfl hl ok.lo ok.hi).mono ?_
 rintro e w' ⟨gx,cx,gy,cy,rfl,h1,h2,h3⟩
 exact⟨⟨gx,cx,gy,cy,rfl,h1,by rw [hl];exact h2,by omega,by omega,hs.f⟩,h3⟩
theorem lz (c d:Cv) (i:Int) (h:Nat) (E:Int) (pd pf:Option Addr) (bd od cd b2 o2 cf:Nat) (w:World) (hR:BmpR c i h d E) (hh:h<18446744073709551616) (hs:TFl w pd pf bd od b2 o2 c.ds c.fs) :
  Calls Tryz.prog 11 #[.agg #[.int .i64 c.base,.int .i64 c.kind,.slice pd c.ds.length cd,.slice pf c.fs.length cf],.int .i64 i,.float .f64 h] w fun e w'=>CvO w d E e w':=by
 have HC:∀ E,c.Chk E→∀ wx,Below w.heap.size w wx→_:=fun E hE wx (hb:Below w.heap.size w wx)=>cM c.base c.kind pd pf bd od cd b2 o2 cf c.ds c.fs wx (hs.below hb) (E:=E) hE
 cases hR with
 | chk E hC hE=>exact CW c.base c.kind E i h _ _ w hE (HC E hC)
 | arg ok hi=>
  have hl:=ok.len
  have hlo:=ok.lo
  have px:=hs.x.at_ (by omega)
  have py:=hs.y.at_ (by omega)
  subst px py
  exact CY c.base c.kind i h c.ds.length c.fs.length bd od cd b2 o2 cf w hi (HC 0 (.ok ok))
 | val ok k hk e hb=>
  have hl:=ok.len
  have px:=hs.x.at_ (by omega)
  have py:=hs.y.at_ (by omega)
  subst px py e
  have h91:bmE c k h=91:=by unfold bmE;rw [hb];rfl
  refine CZ c.base c.kind 91 k h (bmV c k h) c.ds.length c.fs.length bd od cd b2 o2 cf w hk (by decide) (HC 0 (.ok ok)) (fun wx hb=>?_)
  have:=jB c k h _ _ bd od cd b2 o2 cf wx ok hk hh (hs.below hb)
  rw [h91] at this;exact this
 | ok ok k hk e hb=>
  have hl:=ok.len
  have px:=hs.x.at_ (by omega)
  have py:=hs.y.at_ (by omega)
  subst px py e
  have h0:bmE c k h=0:=by unfold bmE;rw [hb];rfl
  obtain⟨_,hV,hU⟩:=Hc ok hs.f hk h0
  have HC0:=HC 0 (.ok ok)
  rw [hl] at HC0 ⊢
  refine Hb c c.base c.kind k h (c.bm k h) c.ds.length bd od cd b2 o2 cf w hk rfl rfl rfl hl hU HC0 (fun wx hb=>?_) (pG c bd od cd b2 o2 cf w ok hs)
  have:=jB c k h _ _ bd od cd b2 o2 cf wx ok hk hh (hs.below hb)
  rw [h0,hV,hl] at this;exact this
theorem lA (c d:Cv) (h:Nat) (E:Int) (pd pf:Option Addr) (bd od cd b2 o2 cf:Nat) (w:World) (hR:ParR c h d E) (hh:h<18446744073709551616) (hs:TFl w pd pf bd od b2 o2 c.ds c.fs) :
  Calls Tryz.prog 14 #[.agg #[.int .i64 c.base,.int .i64 c.kind,.slice pd c.ds.length cd,.slice pf c.fs.length cf],.float .f64 h] w fun e w'=>CvO w d E e w':=by
 have HC:∀ E,c.Chk E→∀ wx,Below w.heap.size w wx→_:=fun E hE wx (hb:Below w.heap.size w wx)=>cM c.base c.kind pd pf bd od cd b2 o2 cf c.ds c.fs wx (hs.below hb) (E:=E) hE
 have key:∀ ok:c.Ok,Calls Tryz.prog 14 #[.agg #[.int .i64 c.base,.int .i64 c.kind,.slice pd c.ds.length cd,.slice pf c.fs.length cf],.float .f64 h] w fun e w'=>((∃ k<c.ds.length,bmE c k h≠0)∧CvO w cv0 91 e w')∨((∀ k<c.ds.length,bmE c k h=0)∧CvO w (c.para h) 0 e w'):=fun ok=>by
  have hl:=ok.len
  have hlo:=ok.lo
  have px:=hs.x.at_ (by omega)
  have py:=hs.y.at_ (by omega)
  subst px py
  have HC0:=HC 0 (.ok ok)
  rw [hl] at HC0 ⊢
  refine Da c c.base c.kind h c.ds.length bd od cd b2 o2 cf w ok.hi rfl rfl rfl hl (fun k hk hE=>(Hc ok hs.f hk hE).2) (fun k hk hE=>?_) HC0 (fun k hk wx hb=>?_) (pG c bd od cd b2 o2 cf w ok hs)
  ·rcases bmE_cases c k h with a | a
   ·exact absurd a.2 hE
   ·exact a.2
  ·have:=jB c k h _ _ bd od cd b2 o2 cf wx ok hk hh (hs.below hb)
   rw [hl] at this;exact this
 cases hR with
 | chk E hC hE=>exact CX c.base c.kind E h _ _ w hE (HC E hC)
 | val ok k hk hb=>
  refine (key ok).mono fun e w' ho=>?_
  rcases ho with ho | ho
  ·exact ho.2
  ·have:=ho.1 k hk
   unfold bmE at this
   rw [hb] at this
   exact absurd this (by decide)
 | ok ok hb=>
  refine (key ok).mono fun e w' ho=>?_
  rcases ho with⟨⟨k,hk,hn⟩,_⟩| ho
  ·exfalso
   unfold bmE at hn
   rw [hb k hk] at hn
   exact hn rfl
  ·exact ho.2
end Go.Proofs.YtpddmnmhdahnlaaGreat
