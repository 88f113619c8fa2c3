/-  -/
import Derived.Test.YtfdddijdjpijbaaGreatNDays
import Derived.Test.YtfdddijdjpijbaaGreatHal
import Derived.Test.YtfdddijdjpijbaaGreatHao
set_option maxHeartbeats 1600000
namespace Go.Proofs.YtfdddijdjpijbaaGreat
open Go.RowKit
theorem bU (w:World) (W:Int) (v:Value):Below w.heap.size w (w.alloc (.cells #[.int .i64 W,v] 96)):=(Below.refl w.heap.size w).alloc (Nat.le_refl _) _
theorem nU (kind W a b P E:Int) (v:Value) (w:World) (f:kind=1\/kind=2)
  (H:Hid (∀ d,Calls Tryz.prog 152 #[.int .i64 a,.int .i64 b] d fun e c=>e=.returned (.tuple #[.int .i64 P,.int .i64 E])/\c=d)) :
  Calls Tryz.prog 117 #[.int .i64 kind,.agg #[.int .i64 W,v],.int .i64 a,.int .i64 b] w fun e c=>e=.returned (.tuple #[.int .i64 P,.int .i64 (eH kind),.int .i64 E])/\Below w.heap.size w c:=by
 have g:=hideS (bU w W v);rcases f with rfl | rfl
 all_goals
  go_enter Tryz.func117,Tryz.ntmps117
  go_wp2_with (go_at_call 152;refine (H.out _).mono ?_;rintro e c ⟨rfl,rfl⟩)
  go_ret3
  exact⟨rfl,g.out⟩
theorem rm (W a b P E:Int) (v:Value) (w:World)
  (H:Hid (∀ d,Calls Tryz.prog 153 #[.int .i64 a,.int .i64 b] d fun e c=>e=.returned (.tuple #[.int .i64 P,.int .i64 E])/\c=d)) :
  Calls Tryz.prog 117 #[.int .i64 3,.agg #[.int .i64 W,v],.int .i64 a,.int .i64 b] w fun e c=>e=.returned (.tuple #[.int .i64 P,.int .i64 (eH 3),.int .i64 E])/\Below w.heap.size w c:=by
 have f:=hideS (bU w W v)
 go_enter Tryz.func117,Tryz.ntmps117
 go_wp2_with (go_at_call 153;refine (H.out _).mono ?_;rintro e c ⟨rfl,rfl⟩)
 go_ret3
 exact⟨rfl,f.out⟩
theorem fY (kind L W a b P E:Int) (v:Value) (w:World) (f:(kind=4/\L=31)\/(kind=5/\L=30))
  (H:Hid (∀ d,Calls Tryz.prog 154 #[.int .i64 a,.int .i64 b,.int .i64 L] d fun e c=>e=.returned (.tuple #[.int .i64 P,.int .i64 E])/\c=d)) :
  Calls Tryz.prog 117 #[.int .i64 kind,.agg #[.int .i64 W,v],.int .i64 a,.int .i64 b] w fun e c=>e=.returned (.tuple #[.int .i64 P,.int .i64 (eH kind),.int .i64 E])/\Below w.heap.size w c:=by
 have g:=hideS (bU w W v);rcases f with⟨rfl,rfl⟩| ⟨rfl,rfl⟩
 all_goals
  go_enter Tryz.func117,Tryz.ntmps117
  go_wp2_with (go_at_call 154;refine (H.out _).mono ?_;rintro e c ⟨rfl,rfl⟩)
  go_ret3
  exact⟨rfl,g.out⟩
theorem nV (W a b P E:Int) (v:Value) (w:World)
  (H:Hid (∀ c,Below w.heap.size w c->Calls Tryz.prog 155 #[.agg #[.int .i64 W,v],.int .i64 a,.int .i64 b] c fun e d=>e=.returned (.tuple #[.int .i64 P,.int .i64 E])/\Below c.heap.size c d)) :
  Calls Tryz.prog 117 #[.int .i64 6,.agg #[.int .i64 W,v],.int .i64 a,.int .i64 b] w fun e d=>e=.returned (.tuple #[.int .i64 P,.int .i64 (eH 6),.int .i64 E])/\Below w.heap.size w d:=by
 have f:=hideS (bU w W v)
 go_enter Tryz.func117,Tryz.ntmps117
 go_wp2_with (go_at_call 155;refine (H.out _ f.out).mono ?_;rintro e h ⟨rfl,g⟩)
 go_ret3
 exact⟨rfl,f.out.trans (g.mono f.out.size)⟩
theorem zr (kind W a b:Int) (v:Value) (w:World) (f:¬ (1<=kind/\kind<=6)) :
  Calls Tryz.prog 117 #[.int .i64 kind,.agg #[.int .i64 W,v],.int .i64 a,.int .i64 b] w fun e c=>e=.returned (.tuple #[.int .i64 0,.int .i64 360,.int .i64 70])/\Below w.heap.size w c:=by
 have d:=hideS (bU w W v);have j:(kind==1)=false:=beq_false_of_ne (by omega)
 have i:(kind==2)=false:=beq_false_of_ne (by omega)
 have g:(kind==3)=false:=beq_false_of_ne (by omega)
 have l:(kind==4)=false:=beq_false_of_ne (by omega)
 have h:(kind==5)=false:=beq_false_of_ne (by omega)
 have k:(kind==6)=false:=beq_false_of_ne (by omega)
 clear f
 go_enter Tryz.func117,Tryz.ntmps117
 go_wp2_with fail
 go_ret3
 exact⟨rfl,d.out⟩
def OnwH (w:World) (kind W a b P Q E:Int) (v:Value):Prop:=∀ c,Below w.heap.size w c->Calls Tryz.prog 117 #[.int .i64 kind,.agg #[.int .i64 W,v],.int .i64 a,.int .i64 b] c fun e d=>e=.returned (.tuple #[.int .i64 P,.int .i64 Q,.int .i64 E])/\Below c.heap.size c d
theorem FY (op:Int->Bool) (kind W a b:Int) (v:Value) (w:World) (A:1<=kind) (t:kind<=5) (l:ap a) (n:ap b):OnwH w kind W a b (iT op kind a b) (eH kind) 0 v:=fun g _=>by
 obtain⟨k,j,h,e⟩:=iJ l.1 l.2;obtain⟨m,i,o,f⟩:=iJ n.1 n.2;obtain⟨y,u,x⟩:=oM e;obtain⟨s,z,r⟩:=oM f;unfold iT;rw [y,u,x,s,z,r]
 by_cases d:kind=1\/kind=2
 ·rw [if_pos d];exact nU kind W a b _ _ v g d (fun c=>zm a b c l n)
 ·rw [if_neg d]
  by_cases q:kind=3
  ·subst q;rw [if_pos rfl];exact rm W a b _ _ v g (fun c=>BQ a b k j h m i o c e f)
  ·rw [if_neg q,if_neg (by omega)]
   by_cases p:kind=4
   ·exact fY kind 31 W a b _ _ v g (Or.inl ⟨p,rfl⟩) (fun c=>nT kind a b 31 k j h m i o c e f (Or.inl ⟨p,rfl⟩))
   ·exact fY kind 30 W a b _ _ v g (Or.inr ⟨by omega,rfl⟩) (fun c=>nT kind a b 30 k j h m i o c e f (Or.inr ⟨by omega,rfl⟩))
theorem BT (W a b:Int) (p:Option Addr) (g off c:Nat) (rs:List Rul) (w:World) (h:OkC W rs) (k:RSrc w p g off rs) (l:ap a) (m:ap b) (d:a<=b):OnwH w 6 W a b (iT (opB W rs) 6 a b) (eH 6) 0 (.slice p rs.length c):=fun i e=>by
 unfold iT;rw [if_neg (by omega),if_neg (by omega),if_pos rfl]
 exact nV W a b _ _ _ i (fun j f=>ND W a b p g off c rs j h ((k.below e).below f) l m d)
theorem zt (kind W a b:Int) (v:Value) (w:World) (k:1<=kind) (i:kind<=5) (d:a<=b) (h:BO a b):OnwH w kind W a b 0 (eH kind) 51 v:=fun e _=>by
 by_cases f:kind=1\/kind=2
 ·exact nU kind W a b _ _ v e f (fun c=>tS a b c d h)
 ·by_cases j:kind=3
  ·subst j;exact rm W a b _ _ v e (fun c=>zo a b c d h)
  ·by_cases g:kind=4
   ·exact fY kind 31 W a b _ _ v e (Or.inl ⟨g,rfl⟩) (fun c=>mj a b 31 c h)
   ·exact fY kind 30 W a b _ _ v e (Or.inr ⟨by omega,rfl⟩) (fun c=>mj a b 30 c h)
theorem zw (W a b A B E:Int) (p:Option Addr) (f off c:Nat) (rs:List Rul) (w:World) (h:ChkR W rs A B) (i:RSrc w p f off rs) (l:rs.length<=9223372036854775807) (k:(A≠0/\E=A)\/(A=0/\¬ (ap a/\ap b)/\E=51)):OnwH w 6 W a b 0 (eH 6) E (.slice p rs.length c):=fun g e=>
 nV W a b _ _ _ g (fun j d=>KQ W a b p f off c rs A B E j h ((i.below e).below d) l k)
theorem zA (kind W a b P Q:Int) (v:Value) (w:World) (l: -1000000000<=P) (j:P<=1000000000) (H:Hid (OnwH w kind W (min a b) (max a b) P Q 0 v)) :
  Calls Tryz.prog 79 #[.int .i64 kind,.agg #[.int .i64 W,v],.int .i64 a,.int .i64 b] w fun e k=>e=.returned (.tuple #[.int .i64 (if b<a then -P else P),.int .i64 Q,.int .i64 0])/\Below w.heap.size w k:=by
 have c:=hideS (bU w W v);unfold OnwH at H
 obtain⟨lo,f⟩:∃ lo,min a b=lo:=⟨_,rfl⟩;obtain⟨hi,h⟩:∃ hi,max a b=hi:=⟨_,rfl⟩;rw [f,h] at H
 by_cases d:b<a
 ·rw [if_pos d]
  go_enter Tryz.func79,Tryz.ntmps79
  go_wp2_with (go_at_call 117;refine (H.out _ c.out).mono ?_;rintro e i ⟨rfl,g⟩)
  go_ret3
  exact⟨rfl,c.out.trans (g.mono c.out.size)⟩
 ·rw [if_neg d]
  go_enter Tryz.func79,Tryz.ntmps79
  go_wp2_with (go_at_call 117;refine (H.out _ c.out).mono ?_;rintro e i ⟨rfl,g⟩)
  go_ret3
  exact⟨rfl,c.out.trans (g.mono c.out.size)⟩
theorem ro (kind W a b P Q E:Int) (v:Value) (w:World) (g:E≠0) (H:Hid (OnwH w kind W (min a b) (max a b) P Q E v)) :
  Calls Tryz.prog 79 #[.int .i64 kind,.agg #[.int .i64 W,v],.int .i64 a,.int .i64 b] w fun e j=>e=.returned (.tuple #[.int .i64 0,.int .i64 0,.int .i64 E])/\Below w.heap.size w j:=by
 have c:=hideS (bU w W v);unfold OnwH at H
 obtain⟨lo,d⟩:∃ lo,min a b=lo:=⟨_,rfl⟩;obtain⟨hi,f⟩:∃ hi,max a b=hi:=⟨_,rfl⟩;rw [d,f] at H
 have h:(E !=0)=true:=bne_iff_ne.2 g;clear g
 go_enter Tryz.func79,Tryz.ntmps79
 go_wp2_with (go_at_call 117;refine (H.out _ c.out).mono ?_;rintro e k ⟨rfl,i⟩)
 go_ret3
 exact⟨rfl,c.out.trans (i.mono c.out.size)⟩
def FracH (w:World) (kind W a b P Q E:Int) (v:Value):Prop:=∀ c,Below w.heap.size w c->Calls Tryz.prog 79 #[.int .i64 kind,.agg #[.int .i64 W,v],.int .i64 a,.int .i64 b] c fun e d=>e=.returned (.tuple #[.int .i64 P,.int .i64 Q,.int .i64 E])/\Below c.heap.size c d
theorem OnwH.later {w c:World} {kind W a b P Q E:Int} {v:Value} (h:OnwH w kind W a b P Q E v) (d:Below w.heap.size w c):OnwH c kind W a b P Q E v:=fun f e=>h f (d.trans (e.mono d.size))
theorem zB {a b:Int} (c:ap a) (d:ap b):ap (min a b)/\ap (max a b):=by
 unfold ap at *;omega
theorem zC {a b:Int} (h:BO a b):BO (min a b) (max a b):=by
 unfold BO ap at *;omega
theorem rp (op:Int->Bool) (kind a b:Int):(if b<a then -iT op kind (min a b) (max a b) else iT op kind (min a b) (max a b))=jx op kind a b:=by
 unfold jx
 by_cases h:b<a
 ·rw [if_pos h,if_pos h,show min a b=b by omega,show max a b=a by omega]
 ·rw [if_neg h,if_neg h,show min a b=a by omega,show max a b=b by omega]
theorem zD (op:Int->Bool) (kind W a b:Int) (v:Value) (w:World) (h:1<=kind) (c:kind<=5) (i:ap a) (j:ap b):FracH w kind W a b (jx op kind a b) (eH kind) 0 v:=fun g d=>by
 obtain⟨f,e⟩:=zB i j;have bd:=mc op (kind:=kind) f e (by omega)
 rw [<- rp];exact zA kind W a b _ _ v g bd.1 bd.2 ((FY op kind W _ _ v w h c f e).later d)
theorem FZ (W a b:Int) (p:Option Addr) (f off c:Nat) (rs:List Rul) (w:World) (h:OkC W rs) (j:RSrc w p f off rs) (k:ap a) (l:ap b):FracH w 6 W a b (jx (opB W rs) 6 a b) (eH 6) 0 (.slice p rs.length c):=fun i d=>by
 obtain⟨g,e⟩:=zB k l;have bd:=mc (opB W rs) (kind:=6) g e (by omega)
 rw [<- rp];exact zA 6 W a b _ _ _ i bd.1 bd.2 ((BT W _ _ p f off c rs w h j g e (by omega)).later d)
theorem BU (kind W a b:Int) (v:Value) (w:World) (e:¬ (1<=kind/\kind<=6)):FracH w kind W a b 0 0 70 v:=fun c _=>
 ro kind W a b 0 360 70 v c (by decide) (fun d _=>zr kind W _ _ v d e)
theorem BV (kind W a b:Int) (v:Value) (w:World) (f:1<=kind) (c:kind<=5) (h:BO a b):FracH w kind W a b 0 0 51 v:=fun e d=>
 ro kind W a b 0 _ 51 v e (by decide) ((zt kind W _ _ v w f c (by omega) (zC h)).later d)
theorem rq (W a b A B E:Int) (p:Option Addr) (g off c:Nat) (rs:List Rul) (w:World) (h:ChkR W rs A B) (k:RSrc w p g off rs) (l:rs.length<=9223372036854775807) (i:(A≠0/\E=A)\/(A=0/\BO a b/\E=51)):FracH w 6 W a b 0 0 E (.slice p rs.length c):=fun j f=>by
 have d:(A≠0/\E=A)\/(A=0/\¬ (ap (min a b)/\ap (max a b))/\E=51):=i.imp id (fun⟨x,y,z⟩=>⟨x,zC y,z⟩)
 have e:E≠0:=by rcases i with⟨x,y⟩| ⟨_,_,y⟩ <;>omega
 exact ro 6 W a b 0 _ E _ j e ((zw W _ _ A B E p g off c rs w h k l d).later f)
inductive FracR (kind W a b:Int) (rs:List Rul):Int->Int->Int->Prop
 | fine (hk:1<=kind) (hk':kind<=6) (ha:ap a) (hb:ap b) (h6:kind=6->OkC W rs):FracR kind W a b rs (jx (opB W rs) kind a b) (eH kind) 0
 | kind (h:¬ (1<=kind/\kind<=6)):FracR kind W a b rs 0 0 70
 | cal (A B:Int) (h6:kind=6) (h:ChkR W rs A B) (hA:A≠0):FracR kind W a b rs 0 0 A
 | day (hk:1<=kind) (hk':kind<=6) (h:BO a b) (h6:kind=6->OkC W rs):FracR kind W a b rs 0 0 51
theorem FracR.prog {kind W a b P Q E:Int} {rs:List Rul} (h:FracR kind W a b rs P Q E) (p:Option Addr) (f off c:Nat) (w:World) (j:RSrc w p f off rs) (m:rs.length<=9223372036854775807):FracH w kind W a b P Q E (.slice p rs.length c):=by
 cases h with
 | fine g i k l d=>
  by_cases e:kind=6
  ·subst e;exact FZ W a b p f off c rs w (d rfl) j k l
  ·exact zD _ kind W a b _ w g (by omega) k l
 | kind h=>exact BU kind W a b _ w h
 | cal A B d h n=>
  subst d;exact rq W a b E B E p f off c rs w h j m (Or.inl ⟨n,rfl⟩)
 | day g i h d=>
  by_cases e:kind=6
  ·subst e;exact rq W a b 0 0 51 p f off c rs w (.ok (d rfl)) j m (Or.inr ⟨rfl,h,rfl⟩)
  ·exact BV kind W a b _ w g (by omega) h
end Go.Proofs.YtfdddijdjpijbaaGreat
