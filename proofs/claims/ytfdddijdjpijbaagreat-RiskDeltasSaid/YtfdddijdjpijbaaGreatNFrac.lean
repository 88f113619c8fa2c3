/-  -/
import Derived.Test.YtfdddijdjpijbaaGreatNDays
import Derived.Test.YtfdddijdjpijbaaGreatHal
import Derived.Test.YtfdddijdjpijbaaGreatHao
set_option maxHeartbeats 1600000
namespace Go.Proofs.YtfdddijdjpijbaaGreat
open Go.RowKit
theorem bY (w:World) (W:Int) (v:Value):Below w.heap.size w (w.alloc (.cells #[.int .i64 W,v] 96)):=(Below.refl w.heap.size w).alloc (Nat.le_refl _) _
theorem oe (kind W a b P E:Int) (v:Value) (w:World) (f:kind=1\/kind=2)
  (H:Hid (∀ d,Calls Tryz.prog 152 #[.int .i64 a,.int .i64 b] d fun e c=>e=.returned (.tuple #[.int .i64 P,.int .i64 E])/\c=d)) :
  Calls Tryz.prog 117 #[.int .i64 kind,.agg #[.int .i64 W,v],.int .i64 a,.int .i64 b] w fun e c=>e=.returned (.tuple #[.int .i64 P,.int .i64 (eS kind),.int .i64 E])/\Below w.heap.size w c:=by
 have g:=hideS (bY w W v);rcases f with rfl | rfl
 all_goals
  go_enter Tryz.func117,Tryz.ntmps117
  go_wp2_with (go_at_call 152;refine (H.out _).mono ?_;rintro e c ⟨rfl,rfl⟩)
  go_ret3
  exact⟨rfl,g.out⟩
theorem rF (W a b P E:Int) (v:Value) (w:World)
  (H:Hid (∀ d,Calls Tryz.prog 153 #[.int .i64 a,.int .i64 b] d fun e c=>e=.returned (.tuple #[.int .i64 P,.int .i64 E])/\c=d)) :
  Calls Tryz.prog 117 #[.int .i64 3,.agg #[.int .i64 W,v],.int .i64 a,.int .i64 b] w fun e c=>e=.returned (.tuple #[.int .i64 P,.int .i64 (eS 3),.int .i64 E])/\Below w.heap.size w c:=by
 have f:=hideS (bY w W v)
 go_enter Tryz.func117,Tryz.ntmps117
 go_wp2_with (go_at_call 153;refine (H.out _).mono ?_;rintro e c ⟨rfl,rfl⟩)
 go_ret3
 exact⟨rfl,f.out⟩
theorem gu (kind L W a b P E:Int) (v:Value) (w:World) (f:(kind=4/\L=31)\/(kind=5/\L=30))
  (H:Hid (∀ d,Calls Tryz.prog 154 #[.int .i64 a,.int .i64 b,.int .i64 L] d fun e c=>e=.returned (.tuple #[.int .i64 P,.int .i64 E])/\c=d)) :
  Calls Tryz.prog 117 #[.int .i64 kind,.agg #[.int .i64 W,v],.int .i64 a,.int .i64 b] w fun e c=>e=.returned (.tuple #[.int .i64 P,.int .i64 (eS kind),.int .i64 E])/\Below w.heap.size w c:=by
 have g:=hideS (bY w W v);rcases f with⟨rfl,rfl⟩| ⟨rfl,rfl⟩
 all_goals
  go_enter Tryz.func117,Tryz.ntmps117
  go_wp2_with (go_at_call 154;refine (H.out _).mono ?_;rintro e c ⟨rfl,rfl⟩)
  go_ret3
  exact⟨rfl,g.out⟩
theorem og (W a b P E:Int) (v:Value) (w:World)
  (H:Hid (∀ c,Below w.heap.size w c->Calls Tryz.prog 155 #[.agg #[.int .i64 W,v],.int .i64 a,.int .i64 b] c fun e d=>e=.returned (.tuple #[.int .i64 P,.int .i64 E])/\Below c.heap.size c d)) :
  Calls Tryz.prog 117 #[.int .i64 6,.agg #[.int .i64 W,v],.int .i64 a,.int .i64 b] w fun e d=>e=.returned (.tuple #[.int .i64 P,.int .i64 (eS 6),.int .i64 E])/\Below w.heap.size w d:=by
 have f:=hideS (bY w W v)
 go_enter Tryz.func117,Tryz.ntmps117
 go_wp2_with (go_at_call 155;refine (H.out _ f.out).mono ?_;rintro e h ⟨rfl,g⟩)
 go_ret3
 exact⟨rfl,f.out.trans (g.mono f.out.size)⟩
theorem zU (kind W a b:Int) (v:Value) (w:World) (d:¬ (1<=kind/\kind<=6)) :
  Calls Tryz.prog 117 #[.int .i64 kind,.agg #[.int .i64 W,v],.int .i64 a,.int .i64 b] w fun e c=>e=.returned (.tuple #[.int .i64 0,.int .i64 360,.int .i64 70])/\Below w.heap.size w c:=by
 have f:=hideS (bY w W v);have g:(kind==1)=false:=beq_false_of_ne (by omega)
 have j:(kind==2)=false:=beq_false_of_ne (by omega)
 have h:(kind==3)=false:=beq_false_of_ne (by omega)
 have i:(kind==4)=false:=beq_false_of_ne (by omega)
 have k:(kind==5)=false:=beq_false_of_ne (by omega)
 have l:(kind==6)=false:=beq_false_of_ne (by omega)
 clear d
 go_enter Tryz.func117,Tryz.ntmps117
 go_wp2_with fail
 go_ret3
 exact⟨rfl,f.out⟩
def OnwH (w:World) (kind W a b P Q E:Int) (v:Value):Prop:=∀ c,Below w.heap.size w c->Calls Tryz.prog 117 #[.int .i64 kind,.agg #[.int .i64 W,v],.int .i64 a,.int .i64 b] c fun e d=>e=.returned (.tuple #[.int .i64 P,.int .i64 Q,.int .i64 E])/\Below c.heap.size c d
theorem GC (op:Int->Bool) (kind W a b:Int) (v:Value) (w:World) (A:1<=kind) (s:kind<=5) (m:an a) (k:an b):OnwH w kind W a b (jb op kind a b) (eS kind) 0 v:=fun e _=>by
 obtain⟨j,i,n,f⟩:=iQ m.1 m.2;obtain⟨o,h,l,g⟩:=iQ k.1 k.2;obtain⟨t,x,y⟩:=pc f;obtain⟨r,z,u⟩:=pc g;unfold jb;rw [t,x,y,r,z,u]
 by_cases c:kind=1\/kind=2
 ·rw [if_pos c];exact oe kind W a b _ _ v e c (fun d=>zQ a b d m k)
 ·rw [if_neg c]
  by_cases p:kind=3
  ·subst p;rw [if_pos rfl];exact rF W a b _ _ v e (fun d=>Cn a b j i n o h l d f g)
  ·rw [if_neg p,if_neg (by omega)]
   by_cases q:kind=4
   ·exact gu kind 31 W a b _ _ v e (Or.inl ⟨q,rfl⟩) (fun d=>oc kind a b 31 j i n o h l d f g (Or.inl ⟨q,rfl⟩))
   ·exact gu kind 30 W a b _ _ v e (Or.inr ⟨by omega,rfl⟩) (fun d=>oc kind a b 30 j i n o h l d f g (Or.inr ⟨by omega,rfl⟩))
theorem Cq (W a b:Int) (p:Option Addr) (g off c:Nat) (rs:List Rul) (w:World) (h:OkC W rs) (i:RSrc w p g off rs) (m:an a) (j:an b) (f:a<=b):OnwH w 6 W a b (jb (opB W rs) 6 a b) (eS 6) 0 (.slice p rs.length c):=fun k d=>by
 unfold jb;rw [if_neg (by omega),if_neg (by omega),if_pos rfl]
 exact og W a b _ _ _ k (fun l e=>Oi W a b p g off c rs l h ((i.below d).below e) m j f)
theorem zV (kind W a b:Int) (v:Value) (w:World) (k:1<=kind) (i:kind<=5) (d:a<=b) (h:Cl a b):OnwH w kind W a b 0 (eS kind) 51 v:=fun e _=>by
 by_cases f:kind=1\/kind=2
 ·exact oe kind W a b _ _ v e f (fun c=>ut a b c d h)
 ·by_cases j:kind=3
  ·subst j;exact rF W a b _ _ v e (fun c=>zR a b c d h)
  ·by_cases g:kind=4
   ·exact gu kind 31 W a b _ _ v e (Or.inl ⟨g,rfl⟩) (fun c=>mr a b 31 c h)
   ·exact gu kind 30 W a b _ _ v e (Or.inr ⟨by omega,rfl⟩) (fun c=>mr a b 30 c h)
theorem zW (W a b A B E:Int) (p:Option Addr) (f off c:Nat) (rs:List Rul) (w:World) (h:ChkR W rs A B) (j:RSrc w p f off rs) (l:rs.length<=9223372036854775807) (g:(A≠0/\E=A)\/(A=0/\¬ (an a/\an b)/\E=51)):OnwH w 6 W a b 0 (eS 6) E (.slice p rs.length c):=fun k e=>
 og W a b _ _ _ k (fun i d=>Lu W a b p f off c rs A B E i h ((j.below e).below d) l g)
theorem zX (kind W a b P Q:Int) (v:Value) (w:World) (l: -1000000000<=P) (k:P<=1000000000) (H:Hid (OnwH w kind W (min a b) (max a b) P Q 0 v)) :
  Calls Tryz.prog 79 #[.int .i64 kind,.agg #[.int .i64 W,v],.int .i64 a,.int .i64 b] w fun e j=>e=.returned (.tuple #[.int .i64 (if b<a then -P else P),.int .i64 Q,.int .i64 0])/\Below w.heap.size w j:=by
 have c:=hideS (bY w W v);unfold OnwH at H
 obtain⟨lo,g⟩:∃ lo,min a b=lo:=⟨_,rfl⟩;obtain⟨hi,h⟩:∃ hi,max a b=hi:=⟨_,rfl⟩;rw [g,h] at H
 by_cases d:b<a
 ·rw [if_pos d]
  go_enter Tryz.func79,Tryz.ntmps79
  go_wp2_with (go_at_call 117;refine (H.out _ c.out).mono ?_;rintro e i ⟨rfl,f⟩)
  go_ret3
  exact⟨rfl,c.out.trans (f.mono c.out.size)⟩
 ·rw [if_neg d]
  go_enter Tryz.func79,Tryz.ntmps79
  go_wp2_with (go_at_call 117;refine (H.out _ c.out).mono ?_;rintro e i ⟨rfl,f⟩)
  go_ret3
  exact⟨rfl,c.out.trans (f.mono c.out.size)⟩
theorem rG (kind W a b P Q E:Int) (v:Value) (w:World) (g:E≠0) (H:Hid (OnwH w kind W (min a b) (max a b) P Q E v)) :
  Calls Tryz.prog 79 #[.int .i64 kind,.agg #[.int .i64 W,v],.int .i64 a,.int .i64 b] w fun e i=>e=.returned (.tuple #[.int .i64 0,.int .i64 0,.int .i64 E])/\Below w.heap.size w i:=by
 have c:=hideS (bY w W v);unfold OnwH at H
 obtain⟨lo,d⟩:∃ lo,min a b=lo:=⟨_,rfl⟩;obtain⟨hi,f⟩:∃ hi,max a b=hi:=⟨_,rfl⟩;rw [d,f] at H
 have h:(E !=0)=true:=bne_iff_ne.2 g;clear g
 go_enter Tryz.func79,Tryz.ntmps79
 go_wp2_with (go_at_call 117;refine (H.out _ c.out).mono ?_;rintro e k ⟨rfl,j⟩)
 go_ret3
 exact⟨rfl,c.out.trans (j.mono c.out.size)⟩
def FracH (w:World) (kind W a b P Q E:Int) (v:Value):Prop:=∀ c,Below w.heap.size w c->Calls Tryz.prog 79 #[.int .i64 kind,.agg #[.int .i64 W,v],.int .i64 a,.int .i64 b] c fun e d=>e=.returned (.tuple #[.int .i64 P,.int .i64 Q,.int .i64 E])/\Below c.heap.size c d
theorem OnwH.later {w c:World} {kind W a b P Q E:Int} {v:Value} (h:OnwH w kind W a b P Q E v) (d:Below w.heap.size w c):OnwH c kind W a b P Q E v:=fun f e=>h f (d.trans (e.mono d.size))
theorem zY {a b:Int} (c:an a) (d:an b):an (min a b)/\an (max a b):=by
 unfold an at *;omega
theorem zZ {a b:Int} (h:Cl a b):Cl (min a b) (max a b):=by
 unfold Cl an at *;omega
theorem rH (op:Int->Bool) (kind a b:Int):(if b<a then -jb op kind (min a b) (max a b) else jb op kind (min a b) (max a b))=jG op kind a b:=by
 unfold jG
 by_cases h:b<a
 ·rw [if_pos h,if_pos h,show min a b=b by omega,show max a b=a by omega]
 ·rw [if_neg h,if_neg h,show min a b=a by omega,show max a b=b by omega]
theorem Aa (op:Int->Bool) (kind W a b:Int) (v:Value) (w:World) (i:1<=kind) (d:kind<=5) (j:an a) (g:an b):FracH w kind W a b (jG op kind a b) (eS kind) 0 v:=fun h c=>by
 obtain⟨e,f⟩:=zY j g;have bd:=ml op (kind:=kind) e f (by omega)
 rw [<- rH];exact zX kind W a b _ _ v h bd.1 bd.2 ((GC op kind W _ _ v w i d e f).later c)
theorem GD (W a b:Int) (p:Option Addr) (e off c:Nat) (rs:List Rul) (w:World) (h:OkC W rs) (i:RSrc w p e off rs) (l:an a) (j:an b):FracH w 6 W a b (jG (opB W rs) 6 a b) (eS 6) 0 (.slice p rs.length c):=fun k d=>by
 obtain⟨f,g⟩:=zY l j;have bd:=ml (opB W rs) (kind:=6) f g (by omega)
 rw [<- rH];exact zX 6 W a b _ _ _ k bd.1 bd.2 ((Cq W _ _ p e off c rs w h i f g (by omega)).later d)
theorem Cr (kind W a b:Int) (v:Value) (w:World) (d:¬ (1<=kind/\kind<=6)):FracH w kind W a b 0 0 70 v:=fun c _=>
 rG kind W a b 0 360 70 v c (by decide) (fun e _=>zU kind W _ _ v e d)
theorem Cs (kind W a b:Int) (v:Value) (w:World) (f:1<=kind) (d:kind<=5) (h:Cl a b):FracH w kind W a b 0 0 51 v:=fun e c=>
 rG kind W a b 0 _ 51 v e (by decide) ((zV kind W _ _ v w f d (by omega) (zZ h)).later c)
theorem rJ (W a b A B E:Int) (p:Option Addr) (g off c:Nat) (rs:List Rul) (w:World) (h:ChkR W rs A B) (j:RSrc w p g off rs) (l:rs.length<=9223372036854775807) (i:(A≠0/\E=A)\/(A=0/\Cl a b/\E=51)):FracH w 6 W a b 0 0 E (.slice p rs.length c):=fun k e=>by
 have d:(A≠0/\E=A)\/(A=0/\¬ (an (min a b)/\an (max a b))/\E=51):=i.imp id (fun⟨x,y,z⟩=>⟨x,zZ y,z⟩)
 have f:E≠0:=by rcases i with⟨x,y⟩| ⟨_,_,y⟩ <;>omega
 exact rG 6 W a b 0 _ E _ k f ((zW W _ _ A B E p g off c rs w h j l d).later e)
inductive FracR (kind W a b:Int) (rs:List Rul):Int->Int->Int->Prop
 | fine (hk:1<=kind) (hk':kind<=6) (ha:an a) (hb:an b) (h6:kind=6->OkC W rs):FracR kind W a b rs (jG (opB W rs) kind a b) (eS kind) 0
 | kind (h:¬ (1<=kind/\kind<=6)):FracR kind W a b rs 0 0 70
 | cal (A B:Int) (h6:kind=6) (h:ChkR W rs A B) (hA:A≠0):FracR kind W a b rs 0 0 A
 | day (hk:1<=kind) (hk':kind<=6) (h:Cl a b) (h6:kind=6->OkC W rs):FracR kind W a b rs 0 0 51
theorem FracR.prog {kind W a b P Q E:Int} {rs:List Rul} (h:FracR kind W a b rs P Q E) (p:Option Addr) (f off c:Nat) (w:World) (i:RSrc w p f off rs) (l:rs.length<=9223372036854775807):FracH w kind W a b P Q E (.slice p rs.length c):=by
 cases h with
 | fine j g m k d=>
  by_cases e:kind=6
  ·subst e;exact GD W a b p f off c rs w (d rfl) i m k
  ·exact Aa _ kind W a b _ w j (by omega) m k
 | kind h=>exact Cr kind W a b _ w h
 | cal A B d h n=>
  subst d;exact rJ W a b E B E p f off c rs w h i l (Or.inl ⟨n,rfl⟩)
 | day j g h d=>
  by_cases e:kind=6
  ·subst e;exact rJ W a b 0 0 51 p f off c rs w (.ok (d rfl)) i l (Or.inr ⟨rfl,h,rfl⟩)
  ·exact Cs kind W a b _ w j (by omega) h
end Go.Proofs.YtfdddijdjpijbaaGreat
