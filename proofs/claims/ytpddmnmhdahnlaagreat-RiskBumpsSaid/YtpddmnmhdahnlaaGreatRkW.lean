/-  -/
import Derived.Test.YtpddmnmhdahnlaaGreatHbv
import Derived.Test.YtpddmnmhdahnlaaGreatHbw
namespace Go.Proofs.YtpddmnmhdahnlaaGreat
open Go.RowKit

structure CvS (wr:World) (d:Cv) (E b k:Int) (px py:Option Addr) (nx ny gx gy:Nat):Prop where
 ok:E=0→b=d.base∧k=d.kind∧nx=d.ds.length∧ny=d.fs.length∧TFl wr px py gx 0 gy 0 d.ds d.fs
 no:E≠0→b=0∧k=0∧px=none∧py=none∧nx=0∧ny=0
theorem CvS.step {wr w':World} {d:Cv} {E b k:Int} {px py:Option Addr} {nx ny gx gy:Nat} (h:CvS wr d E b k px py nx ny gx gy) (hb:Below wr.heap.size wr w'):CvS w' d E b k px py nx ny gx gy:=
 ⟨fun e=>by obtain⟨a,b,c,d,f⟩:=h.ok e;exact⟨a,b,c,d,f.below hb⟩,h.no⟩
theorem CvO.shp {w:World} {d:Cv} {E:Int} {e:Ending} {w':World} (h:CvO w d E e w'):∃ (b k:Int) (px py:Option Addr) (nx cx ny cy gx gy:Nat),e=.returned (.tuple #[.agg #[.int .i64 b,.int .i64 k,.slice px nx cx,.slice py ny cy],.int .i64 E])∧CvS w' d E b k px py nx ny gx gy:=by
 by_cases hE:E=0
 ·subst hE
  obtain⟨gx,cx,gy,cy,rfl,hO⟩:=h.ok rfl
  exact⟨_,_,_,_,_,cx,_,cy,gx,gy,rfl,⟨fun _=>⟨rfl,rfl,rfl,rfl,hO.src⟩,fun a=>absurd rfl a⟩⟩
 ·exact⟨0,0,none,none,0,0,0,0,0,0,h.bad hE,⟨fun e=>absurd e hE,fun _=>⟨rfl,rfl,rfl,rfl,rfl,rfl⟩⟩⟩
structure DvS (wr:World) (d:Cv) (E b k:Int) (px py:Option Addr) (bx ox nx ny gy:Nat):Prop where
 ok:E=0→b=d.base∧k=d.kind∧nx=d.ds.length∧ny=d.fs.length∧CSrcD wr px py bx ox gy 0 d.ds d.fs
 no:E≠0→b=0∧k=0∧px=none∧py=none∧nx=0∧ny=0
theorem DvS.step {wr w':World} {d:Cv} {E b k:Int} {px py:Option Addr} {bx ox nx ny gy:Nat} (h:DvS wr d E b k px py bx ox nx ny gy) (hb:Below wr.heap.size wr w'):DvS w' d E b k px py bx ox nx ny gy:=
 ⟨fun e=>by obtain⟨a,b,c,d,f⟩:=h.ok e;exact⟨a,b,c,d,f.below hb⟩,h.no⟩
theorem DvO.shp {w:World} {d:Cv} {E:Int} {px:Option Addr} {bx ox cx:Nat} {e:Ending} {w':World} (h:DvO w d E px bx ox cx e w'):∃ (b k:Int) (qx qy:Option Addr) (nx kx ny ky gy:Nat),e=.returned (.tuple #[.agg #[.int .i64 b,.int .i64 k,.slice qx nx kx,.slice qy ny ky],.int .i64 E])∧DvS w' d E b k qx qy bx ox nx ny gy∧(E=0→w.heap.size≤gy):=by
 by_cases hE:E=0
 ·subst hE
  obtain⟨q,g,cc,rfl,hO,hg⟩:=h.ok rfl
  exact⟨_,_,_,_,_,cx,_,cc,g,rfl,⟨fun _=>⟨rfl,rfl,rfl,rfl,hO⟩,fun a=>absurd rfl a⟩,fun _=>hg⟩
 ·exact⟨0,0,none,none,0,0,0,0,0,h.bad hE,⟨fun e=>absurd e hE,fun _=>⟨rfl,rfl,rfl,rfl,rfl,rfl⟩⟩,fun e=>absurd e hE⟩
theorem pK {w5 u1 u2 u3 u4:World} {b g:Nat} {x0 x1 x2 x3:Value} (h:g≠b) (e0:w5.setCell ⟨b,0,none⟩ x0=u1) (e1:u1.setCell ⟨b,1,none⟩ x1=u2) (e2:u2.setCell ⟨b,2,none⟩ x2=u3) (e3:u3.setCell ⟨b,3,none⟩ x3=u4):u4.heap[g]? =w5.heap[g]? :=by
 rw [← e3,Below.heap_setCell _ ⟨b,3,none⟩ _ g h,← e2,Below.heap_setCell _ ⟨b,2,none⟩ _ g h,← e1,Below.heap_setCell _ ⟨b,1,none⟩ _ g h,← e0,Below.heap_setCell _ ⟨b,0,none⟩ _ g h]
theorem VSrc.blk {w u:World} {p:Option Addr} {g o n:Nat} {f:Nat→Value} (h:VSrc w p g o n f) (e:u.heap[g]? =w.heap[g]?):VSrc u p g o n f:=
 ⟨h.at_,fun hn=>(by
  obtain⟨x,hx⟩:∃ x,w.heap[g]? =some x:=⟨_,Array.getElem?_eq_getElem (h.lt hn)⟩
  rw [hx] at e
  exact (Array.getElem?_eq_some_iff.1 e).1),fun j hj=>(by
  rw [← h.cell j hj]
  simp only [World.cell?,e])⟩
theorem DvS.fill {w7 u1 u2 u3 u4:World} {d:Cv} {E b k:Int} {px py:Option Addr} {bx ox nx ny gy r:Nat} {x0 x1 x2 x3:Value} (h:DvS w7 d E b k px py bx ox nx ny gy) (hx:E=0→bx≠r) (hg:E=0→gy≠r) (e0:w7.setCell ⟨r,0,none⟩ x0=u1) (e1:u1.setCell ⟨r,1,none⟩ x1=u2) (e2:u2.setCell ⟨r,2,none⟩ x2=u3) (e3:u3.setCell ⟨r,3,none⟩ x3=u4):DvS u4 d E b k px py bx ox nx ny gy:=
 ⟨fun e=>by
  obtain⟨a1,a2,a3,a4,f⟩:=h.ok e
  exact⟨a1,a2,a3,a4,f.d.blk (pK (hx e) e0 e1 e2 e3),f.f.blk (pK (hg e) e0 e1 e2 e3),f.u⟩,h.no⟩
theorem sc {wr:World} {d:Cv} {E b k b' k':Int} {px py qx qy:Option Addr} {nx ny gx gy bx ox mx my hy:Nat} (cx cy kx ky:Nat) (hA:CvS wr d E b k px py nx ny gx gy) (hD:DvS wr d E b' k' qx qy bx ox mx my hy) (hl:E=0→d.ds.length≤1000∧d.fs.length≤1000) :
  Calls Tryz.prog 16 #[.agg #[.int .i64 b,.int .i64 k,.slice px nx cx,.slice py ny cy],.agg #[.int .i64 b',.int .i64 k',.slice qx mx kx,.slice qy my ky]] wr fun e w'=>e=.returned (.bool true)∧Below wr.heap.size wr w':=by
 by_cases hE:E=0
 ·obtain⟨rfl,rfl,rfl,rfl,ht⟩:=hA.ok hE
  obtain⟨rfl,rfl,rfl,rfl,hc⟩:=hD.ok hE
  exact kH _ _ px py qx qy gx 0 cx gy 0 cy bx ox kx hy 0 ky _ _ d.ds d.fs wr rfl rfl (hl hE).1 (hl hE).2 ht hc
 ·obtain⟨rfl,rfl,rfl,rfl,rfl,rfl⟩:=hA.no hE
  obtain⟨rfl,rfl,rfl,rfl,rfl,rfl⟩:=hD.no hE
  exact kH 0 0 none none none none 0 0 cx 0 0 cy 0 0 kx 0 0 ky 0 0 [] [] wr rfl rfl (by decide) (by decide) ⟨⟨fun h=>absurd h (by simp),fun h=>absurd h (by simp),fun j hj=>absurd hj (by simp)⟩,⟨fun h=>absurd h (by simp),fun h=>absurd h (by simp),fun j hj=>absurd hj (by simp)⟩,fun i hi=>absurd hi (by simp)⟩ ⟨⟨fun h=>absurd h (by simp),fun h=>absurd h (by simp),fun j hj=>absurd hj (by simp)⟩,⟨fun h=>absurd h (by simp),fun h=>absurd h (by simp),fun j hj=>absurd hj (by simp)⟩,fun i hi=>absurd hi (by simp)⟩
theorem Kp {c d:Cv} {i E:Int} {h:Nat} (hR:BmpR c i h d E) (hE:E=0):d.ds.length≤1000∧d.fs.length≤1000:=by
 cases hR with
 | chk E hC hE'=>exact absurd hE hE'
 | arg=>cases hE
 | val=>cases hE
 | ok ok k hk e hb=>
  have:=(tC ok hk hb).len
  have h1:c.ds.length≤255:=ok.hi
  have h2:(c.bump k h).ds.length=c.ds.length:=rfl
  omega
theorem Kq {c d:Cv} {i E:Int} {h:Nat} (hR:BmpR c i h d E) (hE:E=0):0<c.ds.length:=by
 cases hR with
 | chk E hC hE'=>exact absurd hE hE'
 | arg=>cases hE
 | val=>cases hE
 | ok ok k hk e hb=>omega
theorem Kr {c d:Cv} {E:Int} {h:Nat} (hR:ParR c h d E) (hE:E=0):0<c.ds.length:=by
 cases hR with
 | chk E hC hE'=>exact absurd hE hE'
 | val=>cases hE
 | ok ok hb=>exact ok.lo
theorem Ks {c d:Cv} {E:Int} {h:Nat} (hR:ParR c h d E) (hE:E=0):d.ds.length≤1000∧d.fs.length≤1000:=by
 cases hR with
 | chk E hC hE'=>exact absurd hE hE'
 | val=>cases hE
 | ok ok hb=>
  have:=(AF ok hb).len
  have h1:c.ds.length≤255:=ok.hi
  have h2:(c.para h).ds.length=c.ds.length:=rfl
  omega
end Go.Proofs.YtpddmnmhdahnlaaGreat
