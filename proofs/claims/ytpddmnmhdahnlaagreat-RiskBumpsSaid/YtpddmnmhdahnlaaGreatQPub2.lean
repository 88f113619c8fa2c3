/-  -/
import Derived.Test.YtpddmnmhdahnlaaGreatHao
namespace Go.Proofs.YtpddmnmhdahnlaaGreat
open Go.RowKit

theorem Ka (W x y:Int) (p:Option Addr) (b off c:Nat) (rs:List Rul) (w:World) (h:OkC W rs) (hs:RSrc w p b off rs) (hx:an x) (hy:an y) (o:Obj) :
  Calls Tryz.prog 261 #[.agg #[.int .i64 W,.slice p rs.length c],.slice (some ⟨w.heap.size+1,0,none⟩) 2 2] ((w.alloc o).alloc (.cells #[.int .i64 x,.int .i64 y] 3)) fun e w'=>∃ A,e=.returned (.tuple #[.pointer (some ⟨A,0,none⟩),.int .i64 0])∧w.heap.size≤A∧AlmE A W p b off c rs w'∧Below w.heap.size w w':=by
 refine (GQ W p _ b off c (w.heap.size+1) 2 2 rs [x,y] _ h (hs.below (gK w o _)) rfl (wK w o x y) (by omega) (JZ hx hy)).mono ?_
 rintro e w' ⟨A,he,hA,hE,hb⟩
 have:=(gK w o (.cells #[.int .i64 x,.int .i64 y] 3)).size
 exact⟨A,he,Nat.le_trans this hA,hE,(gK w o _).trans (hb.mono this)⟩

set_option maxHeartbeats 800000 in
theorem Kb (W x y:Int) (p:Option Addr) (b off c:Nat) (rs:List Rul) (w:World) (h:OkC W rs) (hs:RSrc w p b off rs) (hx:an x) (hy:an y) (hxy:x≤y) :
  Calls Tryz.prog 219 #[.agg #[.int .i64 W,.slice p rs.length c],.int .i64 x,.int .i64 y] w fun e w'=>e=.returned (.tuple #[.int .i64 (cntN (opB W rs) x (y - x).toNat:Nat),.int .i64 0])∧Below w.heap.size w w':=by
 have HA:=hideS (fun o=>Ka W x y p b off c rs w h hs hx hy o)
 have HW:Hid (∀ A wx,AlmE A W p b off c rs wx→Calls Tryz.prog 262 #[.pointer (some ⟨A,0,none⟩),.int .i64 x,.int .i64 y] wx fun e w'=>e=.returned (.int .i64 (cntN (opB W rs) x (y - x).toNat:Nat))∧AlmE A W p b off c rs w'∧Below A wx w'):=fun A wx hE=>CO A _ _ x y wx (opH A W p b off c rs) hE hx hy hxy
 generalize ((cntN (opB W rs) x (y - x).toNat:Nat):Int)=X at *
 generalize rs.length=N at *
 have hxy':¬ y<x:=by omega
 clear h hs hx hy
 go_enter Tryz.func219,Tryz.ntmps219
 go_wp2_with (first | (go_at_call 261;refine (HA.out _).mono ?_;rintro e w1 ⟨A,rfl,hA,hE,hb1⟩) | (go_at_call 262;refine (HW.out _ _ hE).mono ?_;rintro e w2 ⟨rfl,_,hb2⟩))
 go_ret2
 exact⟨rfl,hb1.trans (hb2.mono hA)⟩

set_option maxHeartbeats 800000 in
theorem GR (W x y:Int) (p:Option Addr) (b off c:Nat) (rs:List Rul) (A B E:Int) (w:World) (h:ChkR W rs A B) (hs:RSrc w p b off rs) (hl:rs.length≤9223372036854775807) (hE:(A≠0∧E=A)∨(A=0∧¬ (an x∧an y)∧E=51)) :
  Calls Tryz.prog 219 #[.agg #[.int .i64 W,.slice p rs.length c],.int .i64 x,.int .i64 y] w fun e w'=>e=.returned (.tuple #[.int .i64 0,.int .i64 E])∧Below w.heap.size w w':=by
 have HA:Hid (∀ o,Calls Tryz.prog 261 #[.agg #[.int .i64 W,.slice p rs.length c],.slice (some ⟨w.heap.size+1,0,none⟩) 2 2] ((w.alloc o).alloc (.cells #[.int .i64 x,.int .i64 y] 3)) fun e w'=>e=.returned (.tuple #[.pointer none,.int .i64 E])∧Below w.heap.size w w'):=fun o=>by
  have hbad:A≠0∨∃ j<2,¬ an ([x,y].getD j 0):=by
   rcases hE with⟨a,_⟩| ⟨_,a,_⟩
   ·exact Or.inl a
   ·by_cases hx:an x
    ·exact Or.inr ⟨1,by omega,fun c=>a ⟨hx,c⟩⟩
    ·exact Or.inr ⟨0,by omega,hx⟩
  have hEE:(if A≠0 then A else 51)=E:=by
   rcases hE with⟨a,e⟩| ⟨a,_,e⟩
   ·rw [if_pos a,e]
   ·rw [if_neg (fun c=>c a),e]
  have:=CQ W p _ b off c (w.heap.size+1) 2 2 rs [x,y] A B _ h (hs.below (gK w o _)) hl rfl (wK w o x y) (by omega) hbad
  rw [hEE] at this
  exact this.mono fun e w' ⟨he,hb⟩=>⟨he,(gK w o _).trans (hb.mono (gK w o (.cells #[.int .i64 x,.int .i64 y] 3)).size)⟩
 have hne:(E !=0)=true:=by
  rcases hE with⟨a,e⟩| ⟨_,_,e⟩
  ·rw [e];exact bne_iff_ne.2 a
  ·rw [e];rfl
 generalize rs.length=N at *
 clear h hs hl hE
 go_enter Tryz.func219,Tryz.ntmps219
 go_wp2_with (go_at_call 261;refine (HA.out _).mono ?_;rintro e w1 ⟨rfl,hb1⟩)
 go_ret2
 exact⟨rfl,hb1⟩
end Go.Proofs.YtpddmnmhdahnlaaGreat
