/-  -/
import Derived.Test.YtfdddijdjpijbaaGreatNDays
import Derived.Test.YtfdddijdjpijbaaGreatHal
import Derived.Test.YtfdddijdjpijbaaGreatHao
set_option maxHeartbeats 1600000
namespace Go.Proofs.YtfdddijdjpijbaaGreat
open Go.RowKit
theorem bY (w:World) (W:Int) (v:Value):Below w.heap.size w (w.alloc (.cells #[.int .i64 W,v] 96)):=(Below.refl w.heap.size w).alloc (Nat.le_refl _) _
theorem oe (kind W a b P E:Int) (v:Value) (w:World) (g:kind=1\/kind=2)
  (H:Hid (∀ d,Calls Tryz.prog 152 #[.int .i64 a,.int .i64 b] d fun e c=>e=.returned (.tuple #[.int .i64 P,.int .i64 E])/\c=d)) :
  Calls Tryz.prog 117 #[.int .i64 kind,.agg #[.int .i64 W,v],.int .i64 a,.int .i64 b] w fun e c=>e=.returned (.tuple #[.int .i64 P,.int .i64 (eS kind),.int .i64 E])/\Below w.heap.size w c:=by
 have f:=hideS (bY w W v);rcases g with rfl | rfl
 all_goals
  go_enter Tryz.func117,Tryz.ntmps117
  go_wp2_with (go_at_call 152;refine (H.out _).mono ?_;rintro e c ⟨rfl,rfl⟩)
  go_ret3
  exact⟨rfl,f.out⟩
theorem rF (W a b P E:Int) (v:Value) (w:World)
  (H:Hid (∀ d,Calls Tryz.prog 153 #[.int .i64 a,.int .i64 b] d fun e c=>e=.returned (.tuple #[.int .i64 P,.int .i64 E])/\c=d)) :
  Calls Tryz.prog 117 #[.int .i64 3,.agg #[.int .i64 W,v],.int .i64 a,.int .i64 b] w fun e c=>e=.returned (.tuple #[.int .i64 P,.int .i64 (eS 3),.int .i64 E])/\Below w.heap.size w c:=by
 have f:=hideS (bY w W v)
 go_enter Tryz.func117,Tryz.ntmps117
 go_wp2_with (go_at_call 153;refine (H.out _).mono ?_;rintro e c ⟨rfl,rfl⟩)
 go_ret3
 exact⟨rfl,f.out⟩
theorem gu (kind L W a b P E:Int) (v:Value) (w:World) (g:(kind=4/\L=31)\/(kind=5/\L=30))
  (H:Hid (∀ d,Calls Tryz.prog 154 #[.int .i64 a,.int .i64 b,.int .i64 L] d fun e c=>e=.returned (.tuple #[.int .i64 P,.int .i64 E])/\c=d)) :
  Calls Tryz.prog 117 #[.int .i64 kind,.agg #[.int .i64 W,v],.int .i64 a,.int .i64 b] w fun e c=>e=.returned (.tuple #[.int .i64 P,.int .i64 (eS kind),.int .i64 E])/\Below w.heap.size w c:=by
 have f:=hideS (bY w W v);rcases g with⟨rfl,rfl⟩| ⟨rfl,rfl⟩
 all_goals
  go_enter Tryz.func117,Tryz.ntmps117
  go_wp2_with (go_at_call 154;refine (H.out _).mono ?_;rintro e c ⟨rfl,rfl⟩)
  go_ret3
  exact⟨rfl,f.out⟩
theorem og (W a b P E:Int) (v:Value) (w:World)
  (H:Hid (∀ c,Below w.heap.size w c->Calls Tryz.prog 155 #[.agg #[.int .i64 W,v],.int .i64 a,.int .i64 b] c fun e f=>e=.returned (.tuple #[.int .i64 P,.int .i64 E])/\Below c.heap.size c f)) :
  Calls Tryz.prog 117 #[.int .i64 6,.agg #[.int .i64 W,v],.int .i64 a,.int .i64 b] w fun e f=>e=.returned (.tuple #[.int .i64 P,.int .i64 (eS 6),.int .i64 E])/\Below w.heap.size w f:=by
 have d:=hideS (bY w W v)
 go_enter Tryz.func117,Tryz.ntmps117
 go_wp2_with (go_at_call 155;refine (H.out _ d.out).mono ?_;rintro e h ⟨rfl,g⟩)
 go_ret3
 exact⟨rfl,d.out.trans (g.mono d.out.size)⟩
theorem zU (kind W a b:Int) (v:Value) (w:World) (d:¬ (1<=kind/\kind<=6)) :
  Calls Tryz.prog 117 #[.int .i64 kind,.agg #[.int .i64 W,v],.int .i64 a,.int .i64 b] w fun e f=>e=.returned (.tuple #[.int .i64 0,.int .i64 360,.int .i64 70])/\Below w.heap.size w f:=by
 have c:=hideS (bY w W v);have k:(kind==1)=false:=beq_false_of_ne (by omega)
 have g:(kind==2)=false:=beq_false_of_ne (by omega)
 have i:(kind==3)=false:=beq_false_of_ne (by omega)
 have h:(kind==4)=false:=beq_false_of_ne (by omega)
 have l:(kind==5)=false:=beq_false_of_ne (by omega)
 have j:(kind==6)=false:=beq_false_of_ne (by omega)
 clear d
 go_enter Tryz.func117,Tryz.ntmps117
 go_wp2_with fail
 go_ret3
 exact⟨rfl,c.out⟩
def OnwH (w:World) (kind W a b P Q E:Int) (v:Value):Prop:=∀ c,Below w.heap.size w c->Calls Tryz.prog 117 #[.int .i64 kind,.agg #[.int .i64 W,v],.int .i64 a,.int .i64 b] c fun e d=>e=.returned (.tuple #[.int .i64 P,.int .i64 Q,.int .i64 E])/\Below c.heap.size c d
theorem GC (op:Int->Bool) (kind W a b:Int) (v:Value) (w:World) (A:1<=kind) (s:kind<=5) (n:an a) (j:an b):OnwH w kind W a b (jb op kind a b) (eS kind) 0 v:=fun e _=>by
 obtain⟨h,o,l,f⟩:=iQ n.1 n.2;obtain⟨i,m,k,g⟩:=iQ j.1 j.2;obtain⟨y,t,u⟩:=pc f;obtain⟨z,r,x⟩:=pc g;unfold jb;rw [y,t,u,z,r,x]
 by_cases c:kind=1\/kind=2
 ·rw [if_pos c];exact oe kind W a b _ _ v e c (fun d=>zQ a b d n j)
 ·rw [if_neg c]
  by_cases q:kind=3
  ·subst q;rw [if_pos rfl];exact rF W a b _ _ v e (fun d=>Cn a b h o l i m k d f g)
  ·rw [if_neg q,if_neg (by omega)]
   by_cases p:kind=4
   ·exact gu kind 31 W a b _ _ v e (Or.inl ⟨p,rfl⟩) (fun d=>oc kind a b 31 h o l i m k d f g (Or.inl ⟨p,rfl⟩))
   ·exact gu kind 30 W a b _ _ v e (Or.inr ⟨by omega,rfl⟩) (fun d=>oc kind a b 30 h o l i m k d f g (Or.inr ⟨by omega,rfl⟩))
theorem Cq (W a b:Int) (p:Option Addr) (g off c:Nat) (rs:List Rul) (w:World) (h:OkC W rs) (j:RSrc w p g off rs) (k:an a) (i:an b) (d:a<=b):OnwH w 6 W a b (jb (opB W rs) 6 a b) (eS 6) 0 (.slice p rs.length c):=fun l f=>by
 unfold jb;rw [if_neg (by omega),if_neg (by omega),if_pos rfl]
 exact og W a b _ _ _ l (fun m e=>Oi W a b p g off c rs m h ((j.below f).below e) k i d)
theorem zV (kind W a b:Int) (v:Value) (w:World) (k:1<=kind) (i:kind<=5) (d:a<=b) (h:Cl a b):OnwH w kind W a b 0 (eS kind) 51 v:=fun e _=>by
 by_cases f:kind=1\/kind=2
 ·exact oe kind W a b _ _ v e f (fun c=>ut a b c d h)
 ·by_cases g:kind=3
  ·subst g;exact rF W a b _ _ v e (fun c=>zR a b c d h)
  ·by_cases j:kind=4
   ·exact gu kind 31 W a b _ _ v e (Or.inl ⟨j,rfl⟩) (fun c=>mr a b 31 c h)
   ·exact gu kind 30 W a b _ _ v e (Or.inr ⟨by omega,rfl⟩) (fun c=>mr a b 30 c h)
theorem zW (W a b A B E:Int) (p:Option Addr) (f off c:Nat) (rs:List Rul) (w:World) (h:ChkR W rs A B) (l:RSrc w p f off rs) (j:rs.length<=9223372036854775807) (k:(A≠0/\E=A)\/(A=0/\¬ (an a/\an b)/\E=51)):OnwH w 6 W a b 0 (eS 6) E (.slice p rs.length c):=fun g e=>
 og W a b _ _ _ g (fun i d=>Lu W a b p f off c rs A B E i h ((l.below e).below d) j k)
theorem zX (kind W a b P Q:Int) (v:Value) (w:World) (l: -1000000000<=P) (k:P<=1000000000) (H:Hid (OnwH w kind W (min a b) (max a b) P Q 0 v)) :
  Calls Tryz.prog 79 #[.int .i64 kind,.agg #[.int .i64 W,v],.int .i64 a,.int .i64 b] w fun e j=>e=.returned (.tuple #[.int .i64 (if b<a then -P else P),.int .i64 Q,.int .i64 0])/\Below w.heap.size w j:=by
 have c:=hideS (bY w W v);unfold OnwH at H
 obtain⟨lo,g⟩:∃ lo,min a b=lo:=⟨_,rfl⟩;obtain⟨hi,h⟩:∃ hi,max a b=hi:=⟨_,rfl⟩;rw [g,h] at H
 by_cases d:b<a
 ·rw [if_pos d]
  go_enter Tryz.func79,Tryz.ntmps79
  go_wp2_with (go_at_call 117;refine (H.out _ c.out).mono ?_;rintro e i ⟨rfl,f⟩)
  go_ret3
  exact⟨rfl,c.out.trans (f.mono c.out.size)⟩
 ·rw [if_neg d]
  go_enter Tryz.func79,Tryz.ntmps79
  go_wp2_with (go_at_call 117;refine (H.out _ c.out).mono ?_;rintro e i ⟨rfl,f⟩)
  go_ret3
  exact⟨rfl,c.out.trans (f.mono c.out.size)⟩
theorem rG (kind W a b P Q E:Int) (v:Value) (w:World) (g:E≠0) (H:Hid (OnwH w kind W (min a b) (max a b) P Q E v)) :
  Calls Tryz.prog 79 #[.int .i64 kind,.agg #[.int .i64 W,v],.int .i64 a,.int .i64 b] w fun e j=>e=.returned (.tuple #[.int .i64 0,.int .i64 0,.int .i64 E])/\Below w.heap.size w j:=by
 have c:=hideS (bY w W v);unfold OnwH at H
 obtain⟨lo,d⟩:∃ lo,min a b=lo:=⟨_,rfl⟩;obtain⟨hi,f⟩:∃ hi,max a b=hi:=⟨_,rfl⟩;rw [d,f] at H
 have h:(E !=0)=true:=bne_iff_ne.2 g;clear g
 go_enter Tryz.func79,Tryz.ntmps79
 go_wp2_with (go_at_call 117;refine (H.out _ c.out).mono ?_;rintro e k ⟨rfl,i⟩)
 go_ret3
 exact⟨rfl,c.out.trans (i.mono c.out.size)⟩
def FracH (w:World) (kind W a b P Q E:Int) (v:Value):Prop:=∀ c,Below w.heap.size w c->Calls Tryz.prog 79 #[.int .i64 kind,.agg #[.int .i64 W,v],.int .i64 a,.int .i64 b] c fun e d=>e=.returned (.tuple #[.int .i64 P,.int .i64 Q,.int .i64 E])/\Below c.heap.size c d
theorem OnwH.later {w d:World} {kind W a b P Q E:Int} {v:Value} (h:OnwH w kind W a b P Q E v) (c:Below w.heap.size w d):OnwH d kind W a b P Q E v:=fun e f=>h e (c.trans (f.mono c.size))
theorem zY {a b:Int} (d:an a) (c:an b):an (min a b)/\an (max a b):=by
 unfold an at *;omega
theorem zZ {a b:Int} (h:Cl a b):Cl (min a b) (max a b):=by
 unfold Cl an at *;omega
theorem rH (op:Int->Bool) (kind a b:Int):(if b<a then -jb op kind (min a b) (max a b) else jb op kind (min a b) (max a b))=jG op kind a b:=by
 unfold jG
 by_cases h:b<a
 ·rw [if_pos h,if_pos h,show min a b=b by omega,show max a b=a by omega]
 ·rw [if_neg h,if_neg h,show min a b=a by omega,show max a b=b by omega]
theorem Aa (op:Int->Bool) (kind W a b:Int) (v:Value) (w:World) (h:1<=kind) (c:kind<=5) (i:an a) (g:an b):FracH w kind W a b (jG op kind a b) (eS kind) 0 v:=fun j d=>by
 obtain⟨e,f⟩:=zY i g;have bd:=ml op (kind:=kind) e f (by omega)
 rw [<- rH];exact zX kind W a b _ _ v j bd.1 bd.2 ((GC op kind W _ _ v w h c e f).later d)
theorem GD (W a b:Int) (p:Option Addr) (f off c:Nat) (rs:List Rul) (w:World) (h:OkC W rs) (j:RSrc w p f off rs) (k:an a) (i:an b):FracH w 6 W a b (jG (opB W rs) 6 a b) (eS 6) 0 (.slice p rs.length c):=fun l d=>by
 obtain⟨e,g⟩:=zY k i;have bd:=ml (opB W rs) (kind:=6) e g (by omega)
 rw [<- rH];exact zX 6 W a b _ _ _ l bd.1 bd.2 ((Cq W _ _ p f off c rs w h j e g (by omega)).later d)
theorem Cr (kind W a b:Int) (v:Value) (w:World) (c:¬ (1<=kind/\kind<=6)):FracH w kind W a b 0 0 70 v:=fun d _=>
 rG kind W a b 0 360 70 v d (by decide) (fun e _=>zU kind W _ _ v e c)
theorem Cs (kind W a b:Int) (v:Value) (w:World) (e:1<=kind) (c:kind<=5) (h:Cl a b):FracH w kind W a b 0 0 51 v:=fun f d=>
 rG kind W a b 0 _ 51 v f (by decide) ((zV kind W _ _ v w e c (by omega) (zZ h)).later d)
theorem rJ (W a b A B E:Int) (p:Option Addr) (g off c:Nat) (rs:List Rul) (w:World) (h:ChkR W rs A B) (l:RSrc w p g off rs) (k:rs.length<=9223372036854775807) (i:(A≠0/\E=A)\/(A=0/\Cl a b/\E=51)):FracH w 6 W a b 0 0 E (.slice p rs.length c):=fun j f=>by
 have d:(A≠0/\E=A)\/(A=0/\¬ (an (min a b)/\an (max a b))/\E=51):=i.imp id (fun⟨x,y,z⟩=>⟨x,zZ y,z⟩)
 have e:E≠0:=by rcases i with⟨x,y⟩| ⟨_,_,y⟩ <;>omega
 exact rG 6 W a b 0 _ E _ j e ((zW W _ _ A B E p g off c rs w h l k d).later f)
inductive FracR (kind W a b:Int) (rs:List Rul):Int->Int->Int->Prop
 | fine (hk:1<=kind) (hk':kind<=6) (ha:an a) (hb:an b) (h6:kind=6->OkC W rs):FracR kind W a b rs (jG (opB W rs) kind a b) (eS kind) 0
 | kind (h:¬ (1<=kind/\kind<=6)):FracR kind W a b rs 0 0 70
 | cal (A B:Int) (h6:kind=6) (h:ChkR W rs A B) (hA:A≠0):FracR kind W a b rs 0 0 A
 | day (hk:1<=kind) (hk':kind<=6) (h:Cl a b) (h6:kind=6->OkC W rs):FracR kind W a b rs 0 0 51
theorem FracR.prog {kind W a b P Q E:Int} {rs:List Rul} (h:FracR kind W a b rs P Q E) (p:Option Addr) (f off c:Nat) (w:World) (j:RSrc w p f off rs) (l:rs.length<=9223372036854775807):FracH w kind W a b P Q E (.slice p rs.length c):=by
 cases h with
 | fine i g m k d=>
  by_cases e:kind=6
  ·subst e;exact GD W a b p f off c rs w (d rfl) j m k
  ·exact Aa _ kind W a b _ w i (by omega) m k
 | kind h=>exact Cr kind W a b _ w h
 | cal A B d h n=>
  subst d;exact rJ W a b E B E p f off c rs w h j l (Or.inl ⟨n,rfl⟩)
 | day i g h d=>
  by_cases e:kind=6
  ·subst e;exact rJ W a b 0 0 51 p f off c rs w (.ok (d rfl)) j l (Or.inr ⟨rfl,h,rfl⟩)
  ·exact Cs kind W a b _ w i (by omega) h
end Go.Proofs.YtfdddijdjpijbaaGreat
