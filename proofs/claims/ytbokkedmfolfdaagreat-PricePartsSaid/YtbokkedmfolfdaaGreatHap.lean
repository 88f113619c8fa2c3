/-  -/
import Derived.Test.YtbokkedmfolfdaaGreatHak
import Derived.Deep.RegionHeld3
import Derived.Test.YtbokkedmfolfdaaGreatHac
import Derived.Deep.RegionWith
import Derived.Lib.MinMax
import Derived.Test.YtbokkedmfolfdaaGreatHaj
namespace Go.Proofs.YtbokkedmfolfdaaGreat
open Go.RowKit

def yZ (w:World) (b n M j:Nat):Prop:=w.rowIs b 39 n (fun i=>.int .u64 ((if i<j then dgt M i else 0:Nat):Int))
end Go.Proofs.YtbokkedmfolfdaaGreat
namespace Go.Proofs.YtbokkedmfolfdaaGreat
open Go.RowKit

end Go.Proofs.YtbokkedmfolfdaaGreat
namespace Go.Proofs.YtbokkedmfolfdaaGreat
open Go.RowKit

end Go.Proofs.YtbokkedmfolfdaaGreat
namespace Go.Proofs.YtbokkedmfolfdaaGreat
open Go.RowKit

end Go.Proofs.YtbokkedmfolfdaaGreat
namespace Go.Proofs.YtbokkedmfolfdaaGreat
open Go.RowKit

end Go.Proofs.YtbokkedmfolfdaaGreat
namespace Go.Proofs.YtbokkedmfolfdaaGreat
open Go.RowKit

def sg (neg:Bool) (N:Nat):Int:=if neg then -(N:Int) else (N:Int)

def Six (w:World) (B:Nat) (nx:Bool) (vx:Value) (ex:Int) (ny:Bool) (vy:Value) (ey:Int):Prop:=
 w.cell? ⟨B,0,none⟩=some (.bool nx)∧w.cell? ⟨B,1,none⟩=some vx∧w.cell? ⟨B,2,none⟩=some (.int .i64 ex)∧
 w.cell? ⟨B+1,0,none⟩=some (.bool ny)∧w.cell? ⟨B+1,1,none⟩=some vy∧w.cell? ⟨B+1,2,none⟩=some (.int .i64 ey)
theorem Six.below {w w':World} {B:Nat} {nx ny:Bool} {vx vy:Value} {ex ey:Int} {s:Nat} (h:Six w B nx vx ex ny vy ey) (hb:Below s w w') (hs:B+1<s):Six w' B nx vx ex ny vy ey:=by
 obtain⟨a,b,c,d,e,f⟩:=h
 exact⟨(hb.cell (p:=⟨B,0,none⟩) (by show B<s;omega)).trans a,(hb.cell (p:=⟨B,1,none⟩) (by show B<s;omega)).trans b,(hb.cell (p:=⟨B,2,none⟩) (by show B<s;omega)).trans c,(hb.cell (p:=⟨B+1,0,none⟩) hs).trans d,(hb.cell (p:=⟨B+1,1,none⟩) hs).trans e,(hb.cell (p:=⟨B+1,2,none⟩) hs).trans f⟩
end Go.Proofs.YtbokkedmfolfdaaGreat
namespace Go.Proofs.YtbokkedmfolfdaaGreat
open Go.RowKit

end Go.Proofs.YtbokkedmfolfdaaGreat
namespace Go.Proofs.YtbokkedmfolfdaaGreat
open Go.RowKit

end Go.Proofs.YtbokkedmfolfdaaGreat
namespace Go.Proofs.YtbokkedmfolfdaaGreat
open Go.RowKit

variable {P:Program} {md:Region.Mode} {ops:Array Oper} {Q:Exit→Act→World→Prop} {S:World→Prop} {L:Nat→Bool}

end Go.Proofs.YtbokkedmfolfdaaGreat
namespace Go.Proofs.YtbokkedmfolfdaaGreat
open Go.RowKit

variable {P:Program} {md:Region.Mode} {ops:Array Oper} {Q:Exit→Act→World→Prop} {S:World→Prop}

theorem ae {i:Nat} {oi:Oper} (d:Option Tmp) {v:Value} {fuel:Nat} {listed:Array Bool} {a:Act} {w:World} (hd:(ops[i]?).bind (·.dst)=d) (hi:ops[i]? =some oi)
  (hs:Region.noSelect ops=true) (hf:Region.free md ops listed i=true) (hr:(Region.ready md ops listed).contains i=true)
  (hQ:∀ c a w,Q (.panic c) (a.put d v) w→Q (.panic c) a w) (hy:YieldsIf P ops S oi v a) (hS:S w)
  (h:wpAnyH P md ops Q S fuel (listed.setIfInBounds i true) (a.put d v) w):wpAnyH P md ops Q S (fuel+1) listed a w:=by
 have e:oi.dst=d:=by rw [← hd,hi];rfl
 rw [← e] at hQ h
 exact wpAnyH_take hi hs hf hr hQ hy hS h
def lA (md:Region.Mode) (ops:Array Oper):List Nat→Array Bool→Bool
 | [],_=>true
 | i::is,l=>Region.free md ops l i&&((Region.ready md ops l).contains i&&lA md ops is (l.setIfInBounds i true))
def pX:List Nat→Array Bool→Array Bool
 | [],l=>l
 | i::is,l=>pX is (l.setIfInBounds i true)
def pY (ops:Array Oper):List Nat→Act→Act
 | [],a=>a
 | i::is,a=>pY ops is (a.put ((ops[i]?).bind (·.dst)) undef)
def pZ (ops:Array Oper):List Nat→Act→Bool
 | [],_=>true
 | i::is,a=>((ops[i]?).map fun o=>!Region.wanted o (yielded ops a.tmps)).getD false&&pZ ops is (a.put ((ops[i]?).bind (·.dst)) undef)
theorem ji (hs:Region.noSelect ops=true) (hQ:∀ c a d w,Q (.panic c) (a.put d undef) w→Q (.panic c) a w) {w:World} (hS:S w) :
  ∀ (is:List Nat) (fuel:Nat) (l:Array Bool) (a:Act),lA md ops is l=true→pZ ops is a=true→wpAnyH P md ops Q S fuel (pX is l) (pY ops is a) w→wpAnyH P md ops Q S (fuel+is.length) l a w
 | [],_,_,_,_,_,h=>h
 | i::is,fuel,l,a,hk,hw,h=>by
  unfold lA at hk
  rw [Bool.and_eq_true,Bool.and_eq_true] at hk
  unfold pZ at hw
  rw [Bool.and_eq_true] at hw
  cases hi:ops[i]? with
  | none=>rw [hi] at hw;cases hw.1
  | some o=>
   have h1:Region.wanted o (yielded ops a.tmps)=false:=by
    have:=hw.1
    rw [hi] at this
    simpa using this
   have e:(ops[i]?).bind (·.dst)=o.dst:=by rw [hi];rfl
   have h2:=hw.2
   rw [e] at h2
   unfold pX pY at h
   rw [e] at h
   exact wpAnyH_take hi hs hk.1 hk.2.1 (fun c a w h=>hQ c a _ w h) (Or.inr ⟨h1,rfl⟩) hS (ji hs hQ hS is fuel _ _ hk.2.2 h2 h)
theorem sl (is:List Nat) (n fuel:Nat) {l:Array Bool} {a:Act} {w:World} (hn:is.length=n) (hs:Region.noSelect ops=true) (hQ:∀ c a d w,Q (.panic c) (a.put d undef) w→Q (.panic c) a w) (hS:S w) (hk:lA md ops is l=true) (hw:pZ ops is a=true) (ha:pY ops is a=a) (h:wpAnyH P md ops Q S fuel (pX is l) a w):wpAnyH P md ops Q S (fuel+n) l a w:=by
 subst hn
 exact ji hs hQ hS is fuel l a hk hw (by rw [ha];exact h)
end Go.Proofs.YtbokkedmfolfdaaGreat
