/-  -/
import Derived.Test.YtcmbfflemoccmaaGreatHbe
import Derived.Laws.EntriesVeiled
import Derived.Test.YtcmbfflemoccmaaGreatHat
import Derived.Test.YtcmbfflemoccmaaGreatHbc
namespace Go.Proofs.YtcmbfflemoccmaaGreat
open Go.RowKit

theorem KZ (fn:Fn) (first cap:Array Value) (w:World):(Instr.makeFunc fn first cap).run Tryz.prog w=.ok (.func fn first cap) w:=rfl

set_option maxHeartbeats 800000 in
theorem uP (m:Nat) (w:World) :
  Calls Tryz.prog 91 #[.float .f64 m] w fun e w'=>e=.returned (.agg #[.func (.func 126) #[] #[.pointer (some ⟨w.heap.size,0,none⟩)],.func (.func 129) #[] #[.pointer (some ⟨w.heap.size,0,none⟩)]])∧(w'.cell? ⟨w.heap.size,0,none⟩=some (.float .f64 m)∧w.heap.size<w'.heap.size)∧Below w.heap.size w w':=by
 have hmf:=KZ
 go_enter Tryz.func91,Tryz.ntmps91
 go_wp2_with fail
 refine bodyPost_ret (v:=.agg #[.func (.func 126) #[] #[.pointer (some ⟨w.heap.size,0,none⟩)],.func (.func 129) #[] #[.pointer (some ⟨w.heap.size,0,none⟩)]]) (by simp [results,Tryz.results91,go_sem]) rfl ⟨rfl,⟨by simp,by simp;omega⟩,?_⟩
 exact ((Below.refl w.heap.size w).alloc (Nat.le_refl _) _).alloc (by simp) _

set_option maxHeartbeats 800000 in
theorem AO (k:Int) (w:World) (h:¬ (1≤k∧k≤6)) :
  Calls Tryz.prog 55 #[.int .i64 k] w fun e w'=>e=.returned (.tuple #[.agg #[.nilFunc,.nilFunc],.bool false])∧Below w.heap.size w w':=by
 have h1:(k==1)=false:=beq_eq_false_iff_ne.2 (by omega)
 have h2:(k==2)=false:=beq_eq_false_iff_ne.2 (by omega)
 have h3:(k==3)=false:=beq_eq_false_iff_ne.2 (by omega)
 have h4:(k==4)=false:=beq_eq_false_iff_ne.2 (by omega)
 have h5:(k==5)=false:=beq_eq_false_iff_ne.2 (by omega)
 have h6:(k==6)=false:=beq_eq_false_iff_ne.2 (by omega)
 clear h
 go_enter Tryz.func55,Tryz.ntmps55
 go_wp2_with fail
 refine bodyPost_ret (v:=.tuple #[.agg #[.nilFunc,.nilFunc],.bool false]) (by simp [results,Tryz.results55,go_sem]) rfl ⟨rfl,?_⟩
 exact (Below.refl w.heap.size w).alloc (Nat.le_refl _) _

set_option maxHeartbeats 800000 in
theorem EJ (w:World) :
  Calls Tryz.prog 55 #[.int .i64 1] w fun e w'=>e=.returned (.tuple #[.agg #[.func (.func 89) #[] #[],.func (.func 90) #[] #[]],.bool true])∧Below w.heap.size w w':=by
 go_enter Tryz.func55,Tryz.ntmps55
 go_wp2_with fail
 refine bodyPost_ret (v:=.tuple #[.agg #[.func (.func 89) #[] #[],.func (.func 90) #[] #[]],.bool true]) (by simp [results,Tryz.results55,go_sem]) rfl ⟨rfl,?_⟩
 exact (Below.refl w.heap.size w).alloc (Nat.le_refl _) _

set_option maxHeartbeats 800000 in
theorem EK (w:World) :
  Calls Tryz.prog 55 #[.int .i64 6] w fun e w'=>e=.returned (.tuple #[.agg #[.func (.func 92) #[] #[],.func (.func 93) #[] #[]],.bool true])∧Below w.heap.size w w':=by
 go_enter Tryz.func55,Tryz.ntmps55
 go_wp2_with fail
 refine bodyPost_ret (v:=.tuple #[.agg #[.func (.func 92) #[] #[],.func (.func 93) #[] #[]],.bool true]) (by simp [results,Tryz.results55,go_sem]) rfl ⟨rfl,?_⟩
 exact (Below.refl w.heap.size w).alloc (Nat.le_refl _) _

theorem La {w w1:World} (hb:Below (w.alloc (.cells #[.nilFunc,.nilFunc] 102)).heap.size (w.alloc (.cells #[.nilFunc,.nilFunc] 102)) w1):(w1.cell? ⟨w.heap.size,0,none⟩=some .nilFunc∧w1.cell? ⟨w.heap.size,1,none⟩=some .nilFunc)∧w1.frozen? ⟨w.heap.size,0,none⟩=false∧w1.frozen? ⟨w.heap.size,1,none⟩=false:=by
 refine⟨⟨(hb.cell (p:=⟨w.heap.size,0,none⟩) (by simp)).trans (by simp),(hb.cell (p:=⟨w.heap.size,1,none⟩) (by simp)).trans (by simp)⟩,(hb.frozen (p:=⟨w.heap.size,0,none⟩) (by simp)).trans ?_,(hb.frozen (p:=⟨w.heap.size,1,none⟩) (by simp)).trans ?_⟩
 ·exact World.frozen?_alloc_new _ _ _ _
 ·exact World.frozen?_alloc_new _ _ _ _

theorem Lb {w w1:World} {m:Nat} (hb:Below (w.alloc (.cells #[.nilFunc,.nilFunc] 102)).heap.size (w.alloc (.cells #[.nilFunc,.nilFunc] 102)) w1) (hc:w1.cell? ⟨(w.alloc (.cells #[.nilFunc,.nilFunc] 102)).heap.size,0,none⟩=some (.float .f64 m)) (hl:(w.alloc (.cells #[.nilFunc,.nilFunc] 102)).heap.size<w1.heap.size) (d0:w1.cell? ⟨w.heap.size,0,none⟩=some .nilFunc) (d1:w1.cell? ⟨w.heap.size,1,none⟩=some .nilFunc) (F G:Value) :
  ∃ wz,(w1.setCell ⟨w.heap.size,0,none⟩ F).setCell ⟨w.heap.size,1,none⟩ G=wz∧(wz.cell? ⟨w.heap.size,0,none⟩=some F∧wz.cell? ⟨w.heap.size,1,none⟩=some G)∧wz.cell? ⟨w.heap.size+1,0,none⟩=some (.float .f64 m)∧w.heap.size+1<wz.heap.size∧Below w.heap.size w wz:=by
 have hs:(w.alloc (.cells #[.nilFunc,.nilFunc] 102)).heap.size=w.heap.size+1:=by simp
 rw [hs] at hc hl
 have n1:(⟨w.heap.size,1,none⟩:Addr)≠⟨w.heap.size,0,none⟩:=by simp
 have n2:(⟨w.heap.size,1,none⟩:Addr)≠⟨w.heap.size+1,0,none⟩:=by simp
 have n3:(⟨w.heap.size,0,none⟩:Addr)≠⟨w.heap.size+1,0,none⟩:=by simp
 have bw:Below w.heap.size w w1:=((Below.refl w.heap.size w).alloc (Nat.le_refl _) _).trans (hb.mono (by simp))
 have b2:=(bw.setCell (p:=⟨w.heap.size,0,none⟩) (Nat.le_refl _) F).setCell (p:=⟨w.heap.size,1,none⟩) (Nat.le_refl _) G
 refine⟨_,rfl,⟨?_,?_⟩,?_,?_,b2⟩
 ·rw [World.cell?_setCell_other (h:=n1)];exact World.cell?_setCell_same _ _ _ d0
 ·exact World.cell?_setCell_same _ _ _ (show (w1.setCell ⟨w.heap.size,0,none⟩ F).cell? ⟨w.heap.size,1,none⟩=some .nilFunc by rw [World.cell?_setCell_other (h:=n1.symm)];exact d1)
 ·rw [World.cell?_setCell_other (h:=n2),World.cell?_setCell_other (h:=n3)];exact hc
 ·simp;exact hl

set_option maxHeartbeats 1600000 in
theorem Lc (k:Int) (w:World) (hk:2≤k∧k≤5) :
  Calls Tryz.prog 55 #[.int .i64 k] w fun e w'=>∃ g,e=.returned (.tuple #[.agg #[.func (.func 126) #[] #[.pointer (some ⟨g,0,none⟩)],.func (.func 129) #[] #[.pointer (some ⟨g,0,none⟩)]],.bool true])∧(w'.cell? ⟨g,0,none⟩=some (.float .f64 (mW k))∧g<w'.heap.size)∧Below w.heap.size w w':=by
 rcases (show k=2∨k=3∨k=4∨k=5 by omega) with rfl | rfl | rfl | rfl
 all_goals
  clear hk
  go_enter Tryz.func55,Tryz.ntmps55
  go_wp2_with (go_at_call 91;refine (uP _ _).mono ?_;rintro e w1 ⟨rfl,⟨hc,hl⟩,hb⟩;obtain⟨⟨d0,d1⟩,f0,f1⟩:=La hb)
  obtain⟨wz,h0,h1,h2,h3,h4⟩:=Lb hb hc hl d0 d1 (.func (.func 126) #[] #[.pointer (some ⟨w.heap.size+1,0,none⟩)]) (.func (.func 129) #[] #[.pointer (some ⟨w.heap.size+1,0,none⟩)])
  rw [h0]
  refine bodyPost_ret (v:=.tuple #[.agg #[.func (.func 126) #[] #[.pointer (some ⟨w.heap.size+1,0,none⟩)],.func (.func 129) #[] #[.pointer (some ⟨w.heap.size+1,0,none⟩)]],.bool true]) (by simp [results,Tryz.results55,go_sem,h1.1,h1.2]) rfl ⟨w.heap.size+1,rfl,⟨h2,h3⟩,h4⟩
end Go.Proofs.YtcmbfflemoccmaaGreat
namespace Go.Proofs.YtcmbfflemoccmaaGreat
open Go.RowKit

def FormO (k:Int) (a b:Nat) (cap:Array Value) (w:World):Prop:=
 (k=1∧a=89∧b=90∧cap=#[])∨(k=6∧a=92∧b=93∧cap=#[])∨((2≤k∧k≤5)∧a=126∧b=129∧∃ g,cap=#[.pointer (some ⟨g,0,none⟩)]∧w.cell? ⟨g,0,none⟩=some (.float .f64 (mW k))∧g<w.heap.size)
theorem sQ (k:Int) (w:World) (hk:1≤k∧k≤6) :
  Calls Tryz.prog 55 #[.int .i64 k] w fun e w'=>∃ a b cap,e=.returned (.tuple #[.agg #[.func (.func a) #[] cap,.func (.func b) #[] cap],.bool true])∧FormO k a b cap w'∧Below w.heap.size w w':=by
 rcases (show k=1∨k=6∨(2≤k∧k≤5) by omega) with rfl | rfl | hm
 ·exact (EJ w).mono fun _ _ ⟨a,b⟩=>⟨_,_,_,a,Or.inl ⟨rfl,rfl,rfl,rfl⟩,b⟩
 ·exact (EK w).mono fun _ _ ⟨a,b⟩=>⟨_,_,_,a,Or.inr (Or.inl ⟨rfl,rfl,rfl,rfl⟩),b⟩
 ·exact (Lc k w hm).mono fun _ _ ⟨g,a,⟨c,d⟩,b⟩=>⟨_,_,_,a,Or.inr (Or.inr ⟨hm,rfl,rfl,g,rfl,c,d⟩),b⟩
theorem FormO.alloc {k:Int} {a b:Nat} {cap:Array Value} {w:World} (h:FormO k a b cap w) (o:Obj):FormO k a b cap (w.alloc o):=by
 rcases h with h | h | ⟨h1,h2,h3,g,h4,h5,h6⟩
 ·exact Or.inl h
 ·exact Or.inr (Or.inl h)
 ·refine Or.inr (Or.inr ⟨h1,h2,h3,g,h4,?_,?_⟩)
  ·exact ((Below.refl w.heap.size w).alloc (Nat.le_refl _) o).cell (p:=⟨g,0,none⟩) h6 |>.trans h5
  ·simp;omega

theorem Ld {x:Nat} (h:finB (x:Int)=true):af x:=by
 unfold finB at h
 rw [dr] at h
 have:=of_decide_eq_true h
 unfold af;omega
theorem Nc (k:Int):af (mW k):=by unfold mW af;split<;>(try split)<;>(try split)<;>decide
theorem Cx (k:Int) {t:Nat} (ht:af t):∃ p,floatBits .mul .f64 (mW k) t=some p:=⟨_,gY (Nc k) ht⟩

theorem LN {k:Int} {a b:Nat} {cap:Array Value} {r t:Nat} (hr:r<18446744073709551616) (ht:t<18446744073709551616) (hn:af t) (w:World) (h:FormO k a b cap w) :
  Calls Tryz.prog a (#[.float .f64 r,.float .f64 t]++cap) w fun e w'=>∃ f,e=.returned (.float .f64 f)∧AgU (KX k r t) f∧Below w.heap.size w w':=by
 rcases h with⟨rfl,rfl,rfl,rfl⟩| ⟨rfl,rfl,rfl,rfl⟩| ⟨hk,rfl,rfl,g,rfl,hc,hg⟩
 ·unfold KX;rw [if_pos rfl];exact nL r t w hr ht
 ·unfold KX;rw [if_neg (by decide),if_pos rfl];exact rC r t w hr ht
 ·unfold KX;rw [if_neg (by omega),if_neg (by omega)]
  obtain⟨p,hp⟩:=Cx k hn
  exact rD (mW k) r t p g w (IE k) hr hp hc hg
theorem AP {k:Int} {a b:Nat} {cap:Array Value} {f t:Nat} (hf:f<18446744073709551616) (ht:t<18446744073709551616) (hn:af t) (w:World) (h:FormO k a b cap w) :
  Calls Tryz.prog b (#[.float .f64 f,.float .f64 t]++cap) w fun e w'=>∃ r,e=.returned (.float .f64 r)∧AgU (AM k f t) r∧Below w.heap.size w w':=by
 rcases h with⟨rfl,rfl,rfl,rfl⟩| ⟨rfl,rfl,rfl,rfl⟩| ⟨hk,rfl,rfl,g,rfl,hc,hg⟩
 ·unfold AM;rw [if_pos rfl];exact qk f t w hf ht
 ·unfold AM;rw [if_neg (by decide),if_pos rfl];exact uN f t w hf ht
 ·unfold AM;rw [if_neg (by omega),if_neg (by omega)]
  obtain⟨p,hp⟩:=Cx k hn
  exact uO (mW k) f t p g w (IE k) hf hp hc hg

set_option maxHeartbeats 800000 in
theorem AQ (k:Int) (f t:Nat) (w:World) (h:¬ (1≤k∧k≤6)) :
  Calls Tryz.prog 37 #[.int .i64 k,.float .f64 f,.float .f64 t] w fun e w'=>e=.returned (.tuple #[.float .f64 0,.int .i64 90])∧Below w.heap.size w w':=by
 have H:=hideS fun w=>AO k w h
 clear h
 go_enter Tryz.func37,Tryz.ntmps37
 go_wp2_with fail
 refine (H.out _).mono ?_
 rintro e w1 ⟨rfl,hb⟩
 go_wp2_with fail
 go_ret2
 exact⟨rfl,hb.alloc hb.size _⟩

theorem Cy (f t:Int):lj f t=(aT f&&aT t&&!ltB 4697254411347427328 t):=by
 unfold lj aT
 cases finB f<;>cases ltB 0 f<;>cases finB t<;>cases ltB 0 t<;>rfl

set_option maxHeartbeats 3200000 in
theorem EL (k:Int) (f t:Nat) (w:World) (hk:1≤k∧k≤6) (hf:f<18446744073709551616) (ht:t<18446744073709551616) (ask:lj (f:Int) (t:Int)=false) :
  Calls Tryz.prog 37 #[.int .i64 k,.float .f64 f,.float .f64 t] w fun e w'=>e=.returned (.tuple #[.float .f64 0,.int .i64 91])∧Below w.heap.size w w':=by
 have H:=hideS fun w=>sQ k w hk
 have H1:=hideS fun w=>ce f w (ag hf)
 have H2:=hideS fun w=>ce t w (ag ht)
 have o2:(FloatKind.f64.format.order t 4697254411347427328==some .gt)=ltB 4697254411347427328 (t:Int):=Hh (c:=4697254411347427328) (ag ht) (by unfold U64;omega)
 rw [Cy] at ask
 generalize aT (f:Int)=b1 at *
 generalize aT (t:Int)=b2 at *
 generalize ltB 4697254411347427328 (t:Int)=b4 at *
 clear hf ht hk
 have hc:b1=false∨(b1=true∧b2=false)∨(b1=true∧b2=true∧b4=true):=by
  cases b1<;>cases b2<;>cases b4<;>simp at ask ⊢
 clear ask
 rcases hc with rfl | ⟨rfl,rfl⟩| ⟨rfl,rfl,rfl⟩
 all_goals
  go_enter Tryz.func37,Tryz.ntmps37
  go_wp2_with fail
  refine (H.out _).mono ?_
  rintro e w1 ⟨a,b,cap,rfl,_,hb⟩
  have HB:Hid (∀ o,Below w.heap.size w (w1.alloc o)):=fun o=>hb.alloc hb.size o
  clear hb
  go_wp2_with (first | (go_at_call_of 53 (Value.float FloatKind.f64 f);refine (H1.out _).mono ?_;rintro e w' ⟨rfl,rfl⟩) | (go_at_call 53;refine (H2.out _).mono ?_;rintro e w' ⟨rfl,rfl⟩))
  go_ret2
  exact⟨rfl,HB.out _⟩

set_option maxHeartbeats 3200000 in
theorem IG (k:Int) (f t z:Nat) (w:World) (hk:1≤k∧k≤6) (hf:f<18446744073709551616) (ht:t<18446744073709551616) (ask:lj (f:Int) (t:Int)=true) (hz:Ag (AM k f t) z) :
  Calls Tryz.prog 37 #[.int .i64 k,.float .f64 f,.float .f64 t] w fun e w'=>e=.returned (.tuple #[.float .f64 (enyN z),.int .i64 (dz (z:Int))])∧Below w.heap.size w w':=by
 have H:=hideS fun w=>sQ k w hk
 have H1:=hideS fun w=>ce f w (ag hf)
 have H2:=hideS fun w=>ce t w (ag ht)
 have o2:(FloatKind.f64.format.order t 4697254411347427328==some .gt)=ltB 4697254411347427328 (t:Int):=Hh (c:=4697254411347427328) (ag ht) (by unfold U64;omega)
 rw [Cy] at ask
 have hc:aT (f:Int)=true∧aT (t:Int)=true∧ltB 4697254411347427328 (t:Int)=false:=by
  cases h1:aT (f:Int)<;>cases h2:aT (t:Int)<;>cases h4:ltB 4697254411347427328 (t:Int)<;>simp [h1,h2,h4] at ask ⊢
 obtain⟨h1,h2,h4⟩:=hc
 have hfin:finB (t:Int)=true:=by
  unfold aT at h2
  exact (Bool.and_eq_true_iff.1 h2).1
 have HF:Hid (∀ w a b cap,FormO k a b cap w→Calls Tryz.prog b (#[.float .f64 f,.float .f64 t]++cap) w fun e w'=>∃ r,e=.returned (.float .f64 r)∧(enyN r=enyN z∧dz (r:Int)=dz (z:Int)∧U64 (r:Int))∧Below w.heap.size w w'):=fun w a b cap hfo=>by
  refine (AP hf ht (Ld hfin) w hfo).mono ?_
  rintro _ w' ⟨r,rfl,hag,hb⟩
  obtain⟨e1,e2⟩:=If hag.1 hz
  exact⟨r,rfl,⟨e1,e2,hag.u⟩,hb⟩
 rw [h1] at H1
 rw [h2] at H2
 rw [h4] at o2
 generalize enyN z=E at *
 generalize dz (z:Int)=F at *
 clear hf ht hk ask h1 h2 h4 hz hfin
 go_enter Tryz.func37,Tryz.ntmps37
 go_wp2_with fail
 refine (H.out _).mono ?_
 rintro e w1 ⟨a,b,cap,rfl,hfo,hb⟩
 have HB:Hid (∀ o,Below w.heap.size w (w1.alloc o)):=fun o=>hb.alloc hb.size o
 have HO:=hideS fun o=>hfo.alloc o
 clear hb
 rcases hfo with⟨rfl,rfl,rfl,rfl⟩| ⟨rfl,rfl,rfl,rfl⟩| ⟨_,rfl,rfl,g,rfl,_,_⟩
 all_goals
  go_wp2_with (first | (go_at_call_of 53 (Value.float FloatKind.f64 f);refine (H1.out _).mono ?_;rintro e w' ⟨rfl,rfl⟩) | (go_at_call 53;refine (H2.out _).mono ?_;rintro e w' ⟨rfl,rfl⟩))
  refine (HF.out _ _ _ _ (HO.out _)).mono ?_
  rintro e w2 ⟨r,rfl,⟨e1,e2,hu⟩,hb2⟩
  have B2:=hideS ((HB.out _).trans (hb2.mono (HB.out _).size))
  have HN:=hideS fun w=>pX r w hu
  rw [e1,e2] at HN
  clear hb2 HB HO hu e1 e2
  go_wp2_with fail
  refine (HN.out _).mono ?_
  rintro e w' ⟨rfl,rfl⟩
  go_wp2_with fail
  go_ret2
  exact⟨rfl,B2.out⟩

set_option maxHeartbeats 1600000 in
theorem yt (a b c:Nat) (w:World) (ha:a<18446744073709551616) (hb:b<18446744073709551616) (hc:c<18446744073709551616) (ask:(aT (a:Int)&&aT (b:Int)&&aT (c:Int))=false) :
  Calls Tryz.prog 36 #[.float .f64 a,.float .f64 b,.float .f64 c] w fun e w'=>e=.returned (.tuple #[.float .f64 0,.int .i64 91])∧Below w.heap.size w w':=by
 have H1:=hideS fun w=>ce a w (ag ha)
 have H2:=hideS fun w=>ce b w (ag hb)
 have H3:=hideS fun w=>ce c w (ag hc)
 generalize aT (a:Int)=b1 at *
 generalize aT (b:Int)=b2 at *
 generalize aT (c:Int)=b3 at *
 clear ha hb hc
 have hcs:b1=false∨(b1=true∧b2=false)∨(b1=true∧b2=true∧b3=false):=by
  cases b1<;>cases b2<;>cases b3<;>simp at ask ⊢
 clear ask
 rcases hcs with rfl | ⟨rfl,rfl⟩| ⟨rfl,rfl,rfl⟩
 ·go_enter Tryz.func36,Tryz.ntmps36
  go_wp2_with fail
  refine (H1.out _).mono ?_
  rintro e w' ⟨rfl,rfl⟩
  go_wp2_with fail
  go_ret2
  exact⟨rfl,Below.refl _ _⟩
 ·go_enter Tryz.func36,Tryz.ntmps36
  go_wp2_with fail
  refine (H1.out _).mono ?_
  rintro e w' ⟨rfl,rfl⟩
  go_wp2_with fail
  refine (H2.out _).mono ?_
  rintro e w' ⟨rfl,rfl⟩
  go_wp2_with fail
  go_ret2
  exact⟨rfl,Below.refl _ _⟩
 ·go_enter Tryz.func36,Tryz.ntmps36
  go_wp2_with fail
  refine (H1.out _).mono ?_
  rintro e w' ⟨rfl,rfl⟩
  go_wp2_with fail
  refine (H2.out _).mono ?_
  rintro e w' ⟨rfl,rfl⟩
  go_wp2_with fail
  refine (H3.out _).mono ?_
  rintro e w' ⟨rfl,rfl⟩
  go_wp2_with fail
  go_ret2
  exact⟨rfl,Below.refl _ _⟩

set_option maxHeartbeats 1600000 in
theorem ql (a b c z:Nat) (w:World) (ha:a<18446744073709551616) (hb:b<18446744073709551616) (hc:c<18446744073709551616) (ask:(aT (a:Int)&&aT (b:Int)&&aT (c:Int))=true) (hz:Ag (KY a b c) z) :
  Calls Tryz.prog 36 #[.float .f64 a,.float .f64 b,.float .f64 c] w fun e w'=>e=.returned (.tuple #[.float .f64 (enyN z),.int .i64 (dz (z:Int))])∧Below w.heap.size w w':=by
 have H1:=hideS fun w=>turned (ce a w (ag ha))
 have H2:=hideS fun w=>turned (ce b w (ag hb))
 have H3:=hideS fun w=>turned (ce c w (ag hc))
 have hcs:aT (a:Int)=true∧aT (b:Int)=true∧aT (c:Int)=true:=by
  cases h1:aT (a:Int)<;>cases h2:aT (b:Int)<;>cases h3:aT (c:Int)<;>simp [h1,h2,h3] at ask ⊢
 obtain⟨h1,h2,h3⟩:=hcs
 rw [h1] at H1
 rw [h2] at H2
 rw [h3] at H3
 obtain⟨q,⟨q1,r1⟩,g1⟩:=bF .quo (by simp) 38 (aq ha) (aq hb) w
 obtain⟨d,⟨q2,r2⟩,g2⟩:=bF .sub (by simp) 38 g1 lu (w.drewN q1)
 obtain⟨y,⟨q3,r3⟩,g3⟩:=bF .quo (by simp) 38 g2 (aq hc) ((w.drewN q1).drewN q2)
 rw [World.drewN_drewN] at r3
 obtain⟨e1,e2⟩:=If (o:=KY a b c) g3.1 hz
 have HN:=hideS fun w=>pX y w g3.u
 rw [e1,e2] at HN
 have HB:Hid (∀ q,Below w.heap.size w (w.drewN q)):=cw (Below.refl _ _)
 clear ha hb hc ask hz e1 e2 g1 g2 g3 h1 h2 h3
 generalize enyN z=E at *
 generalize dz (z:Int)=F at *
 go_enter Tryz.func36,Tryz.ntmps36
 go_wp2_with fail
 refine (H1.out _).mono ?_
 rintro e w' ⟨rfl,rfl⟩
 go_wp2_with fail
 refine (H2.out _).mono ?_
 rintro e w' ⟨rfl,rfl⟩
 go_wp2_with fail
 refine (H3.out _).mono ?_
 rintro e w' ⟨rfl,rfl⟩
 go_wp2_with fail
 refine (HN.out _).mono ?_
 rintro e w' ⟨rfl,rfl⟩
 go_wp2_with fail
 go_ret2
 exact⟨rfl,HB.out _⟩
end Go.Proofs.YtcmbfflemoccmaaGreat
namespace Go.Proofs.YtcmbfflemoccmaaGreat
open Go.RowKit

structure SameA (f g:Nat) (xs ys:Array Value) (F:Nat) (E:Int):Prop where
 prog:∀ w,Calls Tryz.prog f xs w fun e w'=>e=.returned (.tuple #[.float .f64 F,.int .i64 E])∧Below w.heap.size w w'
 doc:∀ w,Calls Tryz.prog g ys w fun e w'=>e=.returned (.tuple #[.int .u64 (F:Int),.int .i64 E])∧Below w.heap.size w w'
 lt:F<18446744073709551616
theorem Og {z:Nat} (h:z<18446744073709551616):endN z<18446744073709551616:=by unfold endN;split<;>omega
theorem Cz {z:Nat} (h:z<18446744073709551616):enyN z<18446744073709551616:=by unfold enyN;split<;>omega

theorem AR (k:Int) (f t:Nat) (hf:f<18446744073709551616) (ht:t<18446744073709551616):∃ F E,SameA 37 44 #[.int .i64 k,.float .f64 f,.float .f64 t] #[.int .i64 k,.int .u64 (f:Int),.int .u64 (t:Int)] F E:=by
 by_cases hk:1≤k∧k≤6
 ·cases ask:lj (f:Int) (t:Int) with
  | false=>exact⟨0,91,fun w=>EL k f t w hk hf ht ask,fun w=>uu k f t w hk (ag hf) (ag ht) ask oa,by decide⟩
  | true=>
   obtain⟨z,hz,hd⟩:=IF hk hf ht ask
   refine⟨enyN z,dz (z:Int),fun w=>IG k f t z w hk hf ht ask hz.1,?_,Cz hz.2⟩
   rw [sL];exact hd
 ·exact⟨0,90,fun w=>AQ k f t w hk,fun w=>rl k f t w hk,by decide⟩

theorem uQ (a b c:Nat) (ha:a<18446744073709551616) (hb:b<18446744073709551616) (hc:c<18446744073709551616):∃ F E,SameA 36 43 #[.float .f64 a,.float .f64 b,.float .f64 c] #[.int .u64 (a:Int),.int .u64 (b:Int),.int .u64 (c:Int)] F E:=by
 cases ask:(aT (a:Int)&&aT (b:Int)&&aT (c:Int)) with
 | false=>exact⟨0,91,fun w=>yt a b c w ha hb hc ask,fun w=>pV a b c w (ag ha) (ag hb) (ag hc) ask,by decide⟩
 | true=>
  obtain⟨z,hz,hd⟩:=AN ha hb hc ask
  refine⟨enyN z,dz (z:Int),fun w=>ql a b c z w ha hb hc ask hz.1,?_,Cz hz.2⟩
  rw [sL];exact hd

end Go.Proofs.YtcmbfflemoccmaaGreat
