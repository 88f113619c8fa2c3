/-  -/
import Derived.Test.YtjjlnmihkadlmaaGreatHat
import Derived.Deep.LoopGhost
import Derived.Test.YtjjlnmihkadlmaaGreatHas
import Derived.Test.YtjjlnmihkadlmaaGreatHal
import Derived.Test.YtjjlnmihkadlmaaGreatHam
namespace Go.Proofs.YtjjlnmihkadlmaaGreat
open Go.RowKit

def ia (R j d:Nat):Nat:=R / 2^(32*(j+1))*2^(32*(j+1))+d*2^(32*j)+R % 2^(32*j)
theorem lF (R j d:Nat):ia R j d+dgt R j*2^(32*j)=R+d*2^(32*j):=by
 unfold ia
 have h1:=Nat.div_add_mod R (2^(32*(j+1)))
 have h2:=dM R j
 rw [Nat.mul_comm] at h1
 omega
theorem FP (R j d:Nat) (hd:d<4294967296):d*2^(32*j)+R % 2^(32*j)<2^(32*(j+1)):=by
 have h1:R % 2^(32*j)<2^(32*j):=Nat.mod_lt _ (Nat.two_pow_pos _)
 have h2:(d+1)*2^(32*j)≤4294967296*2^(32*j):=Nat.mul_le_mul_right _ hd
 rw [Nat.add_mul,Nat.one_mul] at h2
 rw [eM,Nat.mul_comm (2^(32*j))]
 omega
theorem lG (R j d:Nat) (hd:d<4294967296):ia R j d / 2^(32*(j+1))=R / 2^(32*(j+1)):=by
 unfold ia
 rw [Nat.add_assoc,Nat.add_comm,Nat.add_mul_div_right _ _ (Nat.two_pow_pos _),Nat.div_eq_of_lt (FP R j d hd),Nat.zero_add]
theorem DW {R j d T:Nat} (hR:R<2^(32*T)) (hj:j<T) (hd:d<4294967296):ia R j d<2^(32*T):=by
 have e:(2:Nat)^(32*T)=2^(32*(T - (j+1)))*2^(32*(j+1)):=by rw [← Nat.pow_add];congr 1;omega
 rw [e] at hR ⊢
 rw [← Nat.div_lt_iff_lt_mul (Nat.two_pow_pos _)] at hR ⊢
 rw [lG R j d hd];exact hR
theorem DX {R S j i:Nat} (h:R / 2^(32*(j+1))=S / 2^(32*(j+1))) (hi:j<i):dgt R i=dgt S i:=by
 unfold dgt
 have e:(2:Nat)^(32*i)=2^(32*(j+1))*2^(32*(i - (j+1))):=by rw [← Nat.pow_add];congr 1;omega
 rw [e,← Nat.div_div_eq_div_mul,← Nat.div_div_eq_div_mul,h]
theorem Be (R j d i:Nat) (hd:d<4294967296):dgt (ia R j d) i=if i=j then d else dgt R i:=by
 have hp:=Nat.two_pow_pos (32*j)
 by_cases h:i=j
 ·subst h
  rw [if_pos rfl]
  have h1:=div_step (ia R i d) i
  rw [lG R i d hd] at h1
  have h2:ia R i d / 2^(32*i)=R / 2^(32*(i+1))*4294967296+d:=by
   unfold ia
   generalize R / 2^(32*(i+1))=q
   have e:q*2^(32*(i+1))+d*2^(32*i)=(q*4294967296+d)*2^(32*i):=by rw [eM,Nat.add_mul,Nat.mul_assoc,Nat.mul_comm 4294967296]
   rw [e,Nat.add_comm,Nat.add_mul_div_right _ _ hp,Nat.div_eq_of_lt (Nat.mod_lt _ hp),Nat.zero_add]
  omega
 ·rw [if_neg h]
  rcases Nat.lt_or_gt_of_ne h with h1 | h1
  ·have e1:=wV (ia R j d) j i
   have e2:=wV R j i
   rw [if_pos h1] at e1 e2
   rw [← e1,← e2]
   congr 1
   unfold ia
   rw [eM,Nat.mul_comm (2^(32*j)) 4294967296,← Nat.mul_assoc,← Nat.add_mul,Nat.mul_add_mod',Nat.mod_mod]
  ·exact DX (lG R j d hd) h1
theorem Own.put {w:World} {b n R j d:Nat} {x:Int} (h:Own w b n R) (hx:x=(d:Int)) (hd:d<4294967296):Own (w.setCell ⟨b,j,none⟩ (.int .u64 x)) b n (ia R j d):=by
 refine (h.set j (.int .u64 x)).congr fun i _=>?_
 rw [Be R j d i hd]
 by_cases c:i=j
 ·rw [if_pos c,if_pos c,hx]
 ·rw [if_neg c,if_neg c]

theorem ym {M B R i k a b c o s:Nat} (hR:R+c*2^(32*(i+k))=M+a*(B % 2^(32*k))*2^(32*i)) (hb:b=dgt B k) (ho:o=dgt R (i+k)) (hs:s=o+a*b+c) :
  ia R (i+k) (s % 4294967296)+s / 4294967296*2^(32*(i+(k+1)))=M+a*(B % 2^(32*(k+1)))*2^(32*i):=by
 have h1:=lF R (i+k) (s % 4294967296)
 rw [← ho] at h1
 rw [show i+(k+1)=i+k+1 by omega,eM,dM,← hb,Nat.mul_add a,Nat.add_mul (a*_)]
 have e1:a*(b*2^(32*k))*2^(32*i)=a*b*2^(32*(i+k)):=by
  rw [← Nat.mul_assoc,Nat.mul_assoc,← Nat.pow_add];congr 2;omega
 rw [e1]
 generalize 2^(32*(i+k))=W at *
 have e2:s / 4294967296*(W*4294967296)+s % 4294967296*W=s*W:=by
  rw [Nat.mul_comm W,← Nat.mul_assoc,← Nat.add_mul,Nat.div_add_mod']
 have e3:s*W=o*W+a*b*W+c*W:=by rw [hs,Nat.add_mul,Nat.add_mul]
 generalize s / 4294967296*(W*4294967296)=t1 at *
 generalize s % 4294967296*W=t2 at *
 generalize s*W=t3 at *
 generalize o*W=t4 at *
 generalize a*b*W=t5 at *
 generalize c*W=t6 at *
 generalize a*(B % 2^(32*k))*2^(32*i)=t7 at *
 omega
theorem yo {o a b c:Nat} (ho:o<4294967296) (ha:a<4294967296) (hb:b<4294967296) (hc:c<4294967296):a*b≤18446744065119617025∧o+a*b+c<18446744073709551616:=by
 have:a*b≤4294967295*4294967295:=Nat.mul_le_mul (by omega) (by omega)
 omega
theorem wX {A B R i n a c:Nat} (hR:R+c*2^(32*(i+n))=(A % 2^(32*i))*B+a*(B % 2^(32*n))*2^(32*i)) (hB:B<2^(32*n)) (ha:a=dgt A i) (hlt:R<2^(32*(i+n))) :
  ia R (i+n) c=(A % 2^(32*(i+1)))*B:=by
 have h1:=lF R (i+n) c
 rw [jL hlt,Nat.zero_mul] at h1
 rw [Nat.mod_eq_of_lt hB] at hR
 rw [dM,Nat.add_mul,← ha]
 have:a*B*2^(32*i)=a*2^(32*i)*B:=by rw [Nat.mul_assoc,Nat.mul_comm B,Nat.mul_assoc]
 omega
theorem wY {A B m n:Nat} (hA:A<2^(32*m)) (hB:B<2^(32*n)):A*B<2^(32*(m+n)):=by
 rw [Nat.mul_add,Nat.pow_add]
 exact Nat.mul_lt_mul'' hA hB

set_option maxRecDepth 10000 in
set_option maxHeartbeats 1600000 in
theorem nI (g f c d m n A B:Nat) (w:World) (hrA:Hid (RowIs w g m A)) (hrB:Hid (RowIs w f n B)) (hg:g<w.heap.size) (hf:f<w.heap.size) (hm:m≤1000000) (hn:n≤1000000) (hA:Hid (A<2^(32*m))) (hB:Hid (B<2^(32*n))) :
  Calls Tryz.prog 168 #[.slice (some ⟨g,0,none⟩) m c,.slice (some ⟨f,0,none⟩) n d] w fun e w'=>∃ v,e=.returned v∧DN w' v (A*B)∧From w.heap.size v∧Below w.heap.size w w':=by
 have hmk:=fun w=>run_make_row' (P:=Tryz.prog) 30 57 (.int .u64 0) 8 Tryz.underlying30 dq rfl .i64 .i64 (m+n+1) (by omega) (by omega) w
 have ec:((m+n+1:Nat):Int)=(m:Int)+(n:Int)+1:=by omega
 rw [ec] at hmk
 clear ec
 have HO:=aa (lv w (m+n+1))
 go_enter Tryz.func168,Tryz.ntmps168
 go_wp2_with fail
 go_loopg [6] m (fun gm i wr=>∃ k:Nat,k≤m∧gm=m - k∧i=.int .i64 k∧Hid (Own wr w.heap.size (m+n+1) ((A % 2^(32*k))*B))∧Hid (Below w.heap.size w wr))
 case atStart=>exact⟨0,Nat.zero_le _,by omega,rfl,by rw [Nat.mul_zero,Nat.pow_zero,Nat.mod_one,Nat.zero_mul];exact HO,(Below.refl _ _).alloc (Nat.le_refl _) _⟩
 case round=>
  clear HO hmk
  obtain⟨i,hi,rfl,rfl,HOwn,HBl⟩:=hrel
  by_cases hlt:i<m
  ·have hca:=(HBl.out.cell (p:=⟨g,i,none⟩) hg).trans (hrA.out i hlt)
   have HCA:=aa (hrA.out i hlt)
   have ba:=aX A i
   have HM:Hid ((A % 2^(32*i))*B<2^(32*(i+n))):=wY (Nat.mod_lt _ (Nat.two_pow_pos _)) hB.out
   have HE:=aa fun R a c (ha:a=dgt A i)=>wX (A:=A) (B:=B) (R:=R) (i:=i) (n:=n) (a:=a) (c:=c)
   generalize ha:dgt A i=a at hca HCA ba
   have HAI:=aa ha.symm
   clear ha
   go_wp2_with fail
   go_loopg [7,8] n (fun gm s kk wr2=>∃ k x R:Nat,k≤n∧gm=n - k∧kk=.int .i64 k∧s=.int .u64 x∧x<4294967296∧Hid (R+x*2^(32*(i+k))=(A % 2^(32*i))*B+a*(B % 2^(32*k))*2^(32*i))∧Hid (R<2^(32*(i+n)))∧Hid (Own wr2 w.heap.size (m+n+1) R)∧Hid (Below w.heap.size w wr2))
   case atStart=>exact⟨0,0,_,Nat.zero_le _,by omega,rfl,rfl,by omega,by show _=_;rw [Nat.mul_zero 32,Nat.pow_zero,Nat.mod_one,Nat.zero_mul,Nat.mul_zero,Nat.zero_mul],HM,HOwn,HBl⟩
   case round=>
    clear HOwn HBl HM hca
    obtain⟨k,x,R,hk,rfl,rfl,rfl,hx,HS,HR,HOwn,HBl⟩:=hrel
    have hca:=(HBl.out.cell (p:=⟨g,i,none⟩) hg).trans HCA.out
    by_cases hlt2:k<n
    ·have hcb:=(HBl.out.cell (p:=⟨f,k,none⟩) hf).trans (hrB.out k hlt2)
     have bb:=aX B k
     have ho:=HOwn.out.cell (i:=i+k) (by omega)
     have bo:=aX R (i+k)
     have fo:=HOwn.out.frozen (i+k)
     have HRd:=aa fun b o s (hb:b=dgt B k) (hq:o=dgt R (i+k)) (hs:s=o+a*b+x)=>ym HS.out hb hq hs
     generalize hb:dgt B k=b at hcb bb
     generalize hq:dgt R (i+k)=o at ho bo
     have HRd:=aa (HRd.out b o _ hb.symm hq.symm rfl)
     clear hb hq
     obtain⟨s1,s2⟩:=yo bo ba bb hx
     have w1:IntKind.u64.wrap ((a:Int)*(b:Int))=((a*b:Nat):Int):=by rw [← Int.natCast_mul,IntKind.wrap_u64];omega
     generalize a*b=ab at w1 s1 s2 HRd
     have w2:IntKind.u64.wrap ((o:Int)+(ab:Int))=(o:Int)+(ab:Int):=by rw [IntKind.wrap_u64];omega
     have w3:IntKind.u64.wrap ((o:Int)+(ab:Int)+(x:Int))=((o+ab+x:Nat):Int):=by rw [IntKind.wrap_u64];omega
     generalize o+ab+x=s at w3 s2 HRd
     have w4:IntKind.i64.wrap ((i:Int)+(k:Int))=(i:Int)+(k:Int):=by rw [IntKind.wrap_i64];omega
     have tn:((i:Int)+(k:Int)).toNat=i+k:=by omega
     have nn:(0:Int)≤(i:Int)+(k:Int):=by omega
     have nm:(i:Int)+(k:Int)<((m+n+1:Nat):Int):=by omega
     go_wp2_with fail
     go_quiet (fail)
     go_wp2_with fail
     go_roundg (n - (k+1))
     case measure=>omega
     case rel=>
      exact⟨k+1,s / 4294967296,ia R (i+k) (s % 4294967296),by omega,rfl,by go_num,by go_num,by omega,HRd.out,DW HR.out (by omega) (by omega),Own.put (w:=wr.drewN nq) HOwn.out (by omega) (by omega),(below_drewN HBl.out _).setCell (Nat.le_refl _) _⟩
    ·obtain rfl:k=n:=by omega
     have ho:=HOwn.out.cell (i:=i+k) (by omega)
     have fo:=HOwn.out.frozen (i+k)
     have hz:dgt R (i+k)=0:=jL HR.out
     rw [hz] at ho
     have HEnd:=aa (wX HS.out hB.out HAI.out HR.out)
     clear hz
     go_wp2_with fail
     go_roundg (m - (i+1))
     case measure=>omega
     case rel=>
      refine⟨i+1,by omega,rfl,by go_num,?_,HBl.out.setCell (Nat.le_refl _) _⟩
      rw [← HEnd.out]
      exact Own.put HOwn.out (by omega) hx
  ·obtain rfl:i=m:=by omega
   have e:A % 2^(32*i)=A:=Nat.mod_eq_of_lt hA.out
   rw [e] at HOwn
   clear e
   have hM:Hid (A*B<2^(32*(i+n+1))):=Nat.lt_of_lt_of_le (wY hA.out hB.out) (Nat.pow_le_pow_right (by decide) (by omega))
   have hlt2:=HOwn.out.lt
   have HD:=aa (kq HOwn.out.row hM.out (Nat.le_refl _) hlt2)
   go_wp2_with fail
   refine (cN _ _ _ _ _ HOwn.out.row hM.out (Nat.le_refl _) (by omega)).mono ?_
   rintro e w' ⟨rfl,rfl⟩
   go_wp2_with fail
   go_ret
   exact⟨_,rfl,HD.out,ft _ _ _ _ (Nat.le_refl _),HBl.out⟩

end Go.Proofs.YtjjlnmihkadlmaaGreat
namespace Go.Proofs.YtjjlnmihkadlmaaGreat
open Go.RowKit

theorem Bf (nx ny:Bool) (X Y:Nat):sg (nx !=ny) (X*Y)=sg nx X*sg ny Y:=by
 cases nx<;>cases ny<;>simp [sg,Int.natCast_mul,Int.neg_mul,Int.mul_neg]
theorem pU {w:World} {B:Nat} {nx ny:Bool} {vx vy:Value} {ex ey:Int} (h:Six w B nx vx ex ny vy ey) (i:Nat) (x:Value):Six (w.setCell ⟨B+1+1,i,none⟩ x) B nx vx ex ny vy ey:=by
 obtain⟨a,b,c,d,e,f⟩:=h
 have n0:B+1+1≠B:=by omega
 have n1:B+1+1≠B+1:=by omega
 exact⟨(World.cell?_setCell_far w ⟨B+1+1,i,none⟩ ⟨B,0,none⟩ x n0).trans a,(World.cell?_setCell_far w ⟨B+1+1,i,none⟩ ⟨B,1,none⟩ x n0).trans b,(World.cell?_setCell_far w ⟨B+1+1,i,none⟩ ⟨B,2,none⟩ x n0).trans c,(World.cell?_setCell_far w ⟨B+1+1,i,none⟩ ⟨B+1,0,none⟩ x n1).trans d,(World.cell?_setCell_far w ⟨B+1+1,i,none⟩ ⟨B+1,1,none⟩ x n1).trans e,(World.cell?_setCell_far w ⟨B+1+1,i,none⟩ ⟨B+1,2,none⟩ x n1).trans f⟩

set_option maxHeartbeats 1600000 in
theorem uK (nx ny:Bool) (vx vy:Value) (ex ey:Int) (X Y:Nat) (w:World) (hX:DN w vx X) (hY:DN w vy Y) (h0:X=0∨Y=0) :
  Calls Tryz.prog 136 #[.agg #[.bool nx,vx,.int .i64 ex],.agg #[.bool ny,vy,.int .i64 ey]] w (ei w (ex+ey) 0):=by
 have HB0:=aa (cW w nx vx ex ny vy ey)
 have HZ:=aa (gN w nx vx ex ny vy ey)
 have H60:=aa (je w nx vx ex ny vy ey)
 have HX0:=aa (hX.below HB0.out)
 have HY0:=aa (hY.below HB0.out)
 have HC:=aa h0
 clear hX hY h0
 by_cases h0:X=0
 ·subst h0
  clear HC
  go_enter Tryz.func136,Tryz.ntmps136
  go_wp2_with fail
  refine (aR _ _ _ 0 true _ HX0.out rfl).mono ?_
  rintro x w1 ⟨rfl,hb1⟩
  have HB1:Hid (Below (w.heap.size+3) (pbox w nx vx ex ny vy ey) w1):=hb1.mono (by rw [HZ.out];omega)
  obtain⟨⟨r0,r1,r2⟩,f0,f1,f2⟩:=cm HB1.out
  clear hb1
  go_wp2_with fail
  exact bodyPost_ret (v:=.agg #[.bool false,.slice none 0 0,.int .i64 0]) (by simp [results,Tryz.results136,go_sem,r0,r1,r2]) rfl (jQ HB1.out rfl)
 ·have hy:Y=0:=by
   rcases HC.out with h | h
   ·exact absurd h h0
   ·exact h
  subst hy
  have HX:=aa h0
  clear HC h0
  go_enter Tryz.func136,Tryz.ntmps136
  go_wp2_with fail
  refine (aR _ _ _ X false _ HX0.out (decide_eq_false HX.out)).mono ?_
  rintro x w1 ⟨rfl,hb1⟩
  have HB1:Hid (Below (w.heap.size+3) (pbox w nx vx ex ny vy ey) w1):=hb1.mono (by rw [HZ.out];omega)
  have hz1:w.heap.size+3≤w1.heap.size:=by have h9:=hb1.size;rw [HZ.out] at h9;exact h9
  have HY1:=aa (HY0.out.below hb1)
  obtain⟨c0,c1,c2,c3,c4,c5⟩:=H60.out.below hb1 (by rw [HZ.out];omega)
  clear hb1
  go_wp2_with fail
  refine (aR _ _ _ 0 true _ HY1.out rfl).mono ?_
  rintro x w2 ⟨rfl,hb2⟩
  have HB2:=aa (HB1.out.trans (hb2.mono hz1))
  obtain⟨⟨r0,r1,r2⟩,f0,f1,f2⟩:=cm HB2.out
  clear hb2 c0 c1 c2 c3 c4 c5
  go_wp2_with fail
  exact bodyPost_ret (v:=.agg #[.bool false,.slice none 0 0,.int .i64 0]) (by simp [results,Tryz.results136,go_sem,r0,r1,r2]) rfl (jQ HB2.out rfl)

set_option maxHeartbeats 1600000 in
theorem uL (nx ny:Bool) (g f c d:Nat) (ex ey:Int) (m n X Y:Nat) (w:World) (hX0:X≠0) (hY0:Y≠0)
  (hX:DN w (.slice (some ⟨g,0,none⟩) m c) X) (hY:DN w (.slice (some ⟨f,0,none⟩) n d) Y) (hrX:Hid (RowIs w g m X)) (hrY:Hid (RowIs w f n Y)) (hg:g<w.heap.size) (hf:f<w.heap.size) (hm:m≤1000000) (hn:n≤1000000) (hX1:Hid (X<2^(32*m))) (hY1:Hid (Y<2^(32*n)))
  (he: -10000000≤ex) (he':ex≤10000000) (hf1: -10000000≤ey) (hf':ey≤10000000) :
  Calls Tryz.prog 136 #[.agg #[.bool nx,.slice (some ⟨g,0,none⟩) m c,.int .i64 ex],.agg #[.bool ny,.slice (some ⟨f,0,none⟩) n d,.int .i64 ey]] w (ei w (ex+ey) (sg nx X*sg ny Y)):=by
 have HMul:=aa fun w' (hb':Below w.heap.size w w')=>nI g f c d m n X Y w' (hrX.out.below hg hb') (hrY.out.below hf hb') (Nat.lt_of_lt_of_le hg hb'.size) (Nat.lt_of_lt_of_le hf hb'.size) hm hn hX1 hY1
 clear hrX hrY hX1 hY1 hg hf
 generalize hvx:Value.slice (some ⟨g,0,none⟩) m c=vx at *
 generalize hvy:Value.slice (some ⟨f,0,none⟩) n d=vy at *
 clear hvx hvy
 have HB0:=aa (cW w nx vx ex ny vy ey)
 have HZ:=aa (gN w nx vx ex ny vy ey)
 have H60:=aa (je w nx vx ex ny vy ey)
 have HX0:=aa (hX.below HB0.out)
 have HY0:=aa (hY.below HB0.out)
 have HXn:=aa hX0
 have HYn:=aa hY0
 have w1:IntKind.i64.wrap (ex+ey)=ex+ey:=by rw [IntKind.wrap_i64];omega
 clear hX hY hX0 hY0
 go_enter Tryz.func136,Tryz.ntmps136
 go_wp2_with fail
 refine (aR _ _ _ X false _ HX0.out (decide_eq_false HXn.out)).mono ?_
 rintro x w1 ⟨rfl,hb1⟩
 have HB1:Hid (Below (w.heap.size+3) (pbox w nx vx ex ny vy ey) w1):=hb1.mono (by rw [HZ.out];omega)
 have hz1:w.heap.size+3≤w1.heap.size:=by have h9:=hb1.size;rw [HZ.out] at h9;exact h9
 have HY1:=aa (HY0.out.below hb1)
 have H61:=aa (H60.out.below hb1 (by rw [HZ.out];omega))
 obtain⟨c0,c1,c2,c3,c4,c5⟩:=H61.out
 clear hb1
 go_wp2_with fail
 refine (aR _ _ _ Y false _ HY1.out (decide_eq_false HYn.out)).mono ?_
 rintro x w2 ⟨rfl,hb2⟩
 have HB2:=aa (HB1.out.trans (hb2.mono hz1))
 have hz2:w.heap.size+3≤w2.heap.size:=by have h9:=hb2.size;omega
 have H62:=aa (H61.out.below hb2 (by omega))
 have HW2:=aa (HB0.out.trans (HB2.out.mono (by omega)))
 clear hb2 c0 c1 c2 c3 c4 c5
 obtain⟨c0,c1,c2,c3,c4,c5⟩:=H62.out
 go_wp2_with fail
 go_region_held3 (fun w'=>w'.cell? ⟨w.heap.size,0,none⟩=some (.bool nx)∧w'.cell? ⟨w.heap.size,1,none⟩=some vx∧w'.cell? ⟨w.heap.size,2,none⟩=some (.int .i64 ex)∧w'.cell? ⟨w.heap.size+1,0,none⟩=some (.bool ny)∧w'.cell? ⟨w.heap.size+1,1,none⟩=some vy∧w'.cell? ⟨w.heap.size+1,2,none⟩=some (.int .i64 ey)) (first | exact H62.out | exact H64.out | exact pU (pU (pU H64.out 0 _) 1 _) 2 _ | go_keep) ((go_at_call 168;refine (HMul.out _ (HW2.out.drew)).mono ?_;rintro x w4 ⟨v4,rfl,hd4,hf4,hb4⟩;obtain⟨p4,q4,rfl⟩:=hd4.form;have HB4:=aa (HB2.out.drew.trans (hb4.mono hz2));have H64:=aa (Six.below (w:=w2.drew) H62.out hb4 (show w.heap.size+1<w2.heap.size by omega));obtain⟨⟨r0,r1,r2⟩,f0,f1,f2⟩:=cm HB4.out;have HD4:=aa hd4;have HF4:=aa (hf4.mono (show w.heap.size+3≤_ from hz2));clear hd4 hf4 hb4))
 all_goals
  go_wp2_with fail
  exact bodyPost_ret (v:=.agg #[.bool _,.slice p4 _ q4,.int .i64 (ex+ey)]) (by simp [results,Tryz.results136,go_sem,r0,r1,r2]) rfl (cX HB4.out HD4.out HF4.out (Bf nx ny X Y))

theorem yp (nx ny:Bool) (vx vy:Value) (ex ey:Int) (X Y:Nat) (w:World) (hX:DN w vx X) (hY:DN w vy Y) (hm:nd X≤1000000) (hn:nd Y≤1000000)
  (he: -10000000≤ex) (he':ex≤10000000) (hf1: -10000000≤ey) (hf':ey≤10000000) :
  Calls Tryz.prog 136 #[.agg #[.bool nx,vx,.int .i64 ex],.agg #[.bool ny,vy,.int .i64 ey]] w (ei w (ex+ey) (sg nx X*sg ny Y)):=by
 by_cases h0:X=0∨Y=0
 ·have e:sg nx X*sg ny Y=0:=by
   rw [← Bf]
   rcases h0 with h | h
   ·rw [h,Nat.zero_mul];cases (nx !=ny)<;>rfl
   ·rw [h,Nat.mul_zero];cases (nx !=ny)<;>rfl
  rw [e]
  exact uK nx ny vx vy ex ey X Y w hX hY h0
 ·have hX':=hX
  have hY':=hY
  rcases hX with⟨h1,_⟩| ⟨h1,g,c,rfl,_,hg,hrX⟩
  ·exact absurd (Or.inl h1) h0
  ·rcases hY with⟨h2,_⟩| ⟨h2,f,d,rfl,_,hf,hrY⟩
   ·exact absurd (Or.inr h2) h0
   ·exact uL nx ny g f c d ex ey (nd X) (nd Y) X Y w h1 h2 hX' hY' hrX hrY hg hf hm hn (cG X) (cG Y) he he' hf1 hf'

end Go.Proofs.YtjjlnmihkadlmaaGreat
namespace Go.Proofs.YtjjlnmihkadlmaaGreat
open Go.RowKit

def aN (u:Int):Bool:=szI u==9218868437227405312

set_option maxHeartbeats 400000 in
theorem aq (u:Int) (w:World) (h:U64 u) :
  Calls Tryz.prog 85 #[.int .u64 u] w fun e w'=>e=.returned (.bool (aN u))∧w'=w:=by
 have hz:=dE h
 go_enter Tryz.func85,Tryz.ntmps85
 go_wp2
 go_ret
 exact⟨rfl,rfl⟩

set_option maxHeartbeats 400000 in
theorem Ei (u:Int) (w:World) (h:U64 u) (h0:szI u=0) :
  Calls Tryz.prog 89 #[.int .u64 u] w fun x w'=>∃ v,x=.returned (dx false v 0)∧DN w' v 0∧Below w.heap.size w w':=by
 have hm:bits .and .u64 u 4503599627370495=0:=by rw [lC h,h0];rfl
 have hE:bits .and .u64 (u / 4503599627370496) 2047=0:=by
  have:=h.1;have:=h.2
  rw [lD (by omega) (by omega)];unfold szI at h0;omega
 unfold dx
 clear h h0
 go_enter Tryz.func89,Tryz.ntmps89
 go_wp2_with fail
 refine bodyPost_ret (v:=.agg #[.bool false,.slice none 0 0,.int .i64 0]) (by simp [results,Tryz.results89,go_sem]) rfl ⟨_,rfl,Or.inl ⟨rfl,_,_,rfl⟩,?_⟩
 exact (Below.refl w.heap.size w).alloc (Nat.le_refl _) _

structure OfR (x:Nat) (neg:Bool) (N:Nat) (e:Int):Prop where
 lt:N<9007199254740992
 lo: -1074≤e
 hi:e≤971
 val:N*2^(e+1074).toNat=aV x
 sgn:N≠0→neg=sB x
 mag:N≠0→N=mg (x % 9223372036854775808)∧e= -1074+(pl (x % 9223372036854775808):Int)
theorem ek {x:Nat} (h:x<18446744073709551616):sgB (x:Int)=sB x:=by
 unfold sgB sB
 rcases (show x / 9223372036854775808=0∨x / 9223372036854775808=1 by omega) with e | e
 ·rw [e];show _=false;rw [decide_eq_false_iff_not];omega
 ·rw [e];show _=true;rw [decide_eq_true_eq];omega
theorem fw (x:Nat):szI (x:Int)=((x % 9223372036854775808:Nat):Int):=by unfold szI;omega

theorem eC (x:Nat) (u:Int) (w:World) (hu:Hid (u=(x:Int))) (h:U64 u) (hx:af x) :
  Calls Tryz.prog 89 #[.int .u64 u] w fun r w'=>∃ neg v N e,r=.returned (.agg #[.bool neg,v,.int .i64 e])∧DN w' v N∧OfR x neg N e∧Below w.heap.size w w':=by
 have hx64:x<18446744073709551616:=by have:=h.2;rw [hu.out] at this;omega
 have hs:szI u=((x % 9223372036854775808:Nat):Int):=by rw [hu.out];exact fw x
 unfold af at hx
 by_cases h0:szI u=0
 ·refine (Ei u w h h0).mono ?_
  rintro r w' ⟨v,rfl,hd,hb⟩
  refine⟨false,v,0,0,rfl,hd,⟨by decide,by decide,by decide,?_,fun h=>absurd rfl h,fun h=>absurd rfl h⟩,hb⟩
  unfold aV
  rw [show x % 9223372036854775808=0 by omega,bu,Nat.zero_mul]
 ·refine (FN u w h (by omega) (by omega)).mono ?_
  rintro r w' ⟨v,rfl,hd,hb⟩
  have hn:(eB (szI u)).toNat=mg (x % 9223372036854775808):=by
   rw [hs];generalize x % 9223372036854775808=r at *
   unfold eB mg
   by_cases c:r<4503599627370496
   ·rw [if_pos c,if_pos (by omega)];omega
   ·rw [if_neg c,if_neg (by omega)];omega
  have he:ir (szI u)= -1074+(pl (x % 9223372036854775808):Int):=by
   rw [hs];generalize x % 9223372036854775808=r at *
   unfold ir pl
   by_cases c:r<4503599627370496
   ·rw [if_pos (by omega)];omega
   ·rw [if_neg (by omega)];omega
  have hp:pl (x % 9223372036854775808)≤2045:=by unfold pl;omega
  rw [hn] at hd
  refine⟨sgB u,v,_,ir (szI u),rfl,hd,⟨lh _,by omega,by omega,?_,fun _=>?_,fun _=>⟨rfl,he⟩⟩,hb⟩
  ·rw [he]
   unfold aV V
   congr 2
   omega
  ·rw [hu.out];exact ek hx64
theorem dy {N:Nat} (h:N<9007199254740992):nd N≤2:=ct (k:=2) (by omega)
end Go.Proofs.YtjjlnmihkadlmaaGreat
namespace Go.Proofs.YtjjlnmihkadlmaaGreat
open Go.RowKit

def cn (o:Option Nat):Nat:=o.getD 9221120237041090561
theorem ji:cn none=9221120237041090561:=rfl
theorem ar (r:Nat):cn (some r)=r:=rfl
def gn (s:Bool):Int:=if s then 9223372036854775808 else 0
theorem FT {b:Nat} (h:b<18446744073709551616):b.testBit 63=sgB (b:Int):=by
 rw [Nat.testBit_eq_decide_div_mod_eq]
 unfold sgB
 apply decide_eq_decide.2
 omega
theorem pZ {u v:Int} (h:U64 u) (h':U64 v):bits .and .u64 (bits .xor .u64 u v) 9223372036854775808=gn (sgB u^^sgB v):=by
 obtain⟨a,rfl⟩:=Int.eq_ofNat_of_zero_le h.1
 obtain⟨b,rfl⟩:=Int.eq_ofNat_of_zero_le h'.1
 have ha:a<18446744073709551616:=by have:=h.2;omega
 have hb:b<18446744073709551616:=by have:=h'.2;omega
 have hx:a^^^b<18446744073709551616:=Nat.xor_lt_two_pow (n:=64) ha hb
 rw [bits_xor_u64_nat a b ha hb,Am (an hx),← FT hx,Nat.testBit_xor,FT ha,FT hb]
 rfl
theorem dj (neg:Bool) (N:Nat):(sg neg N).natAbs=N:=by unfold sg;cases neg<;>simp
theorem El (neg:Bool) (N:Nat) (E:Int):U64 (bO neg N E false)∧szI (bO neg N E false)=(if N=0 then 0 else (nearR N E:Int)):=by
 by_cases h0:N=0
 ·have:bO neg N E false=0:=by unfold bO;rw [if_pos h0]
  rw [this,if_pos h0]
  exact⟨by unfold U64;omega,by decide⟩
 ·rw [eN neg E h0,if_neg h0]
  have hle:nearR N E≤9218868437227405312:=Nat.min_le_right _ _
  generalize nearR N E=r at *
  unfold U64 szI
  cases neg
  ·rw [if_neg (by decide)];omega
  ·rw [if_pos rfl];omega
def jj (T:Nat):Int:=if T=0 then 0 else (nearR T (-2148):Int)
theorem Bq (T:Nat):0≤jj T∧jj T≤9218868437227405312:=by
 unfold jj
 have hle:nearR T (-2148)≤9218868437227405312:=Nat.min_le_right _ _
 split<;>omega
theorem Em (s:Bool) (T:Nat):(mulR s T:Int)=gn s+jj T:=by
 unfold mulR jj gn wrd
 by_cases h0:T=0
 ·rw [if_pos h0,if_pos h0];cases s<;>simp
 ·rw [if_neg h0,if_neg h0]
  generalize nearR T (-2148)=r
  cases s<;>simp
theorem En {x y X Y N:Nat} {nx ny neg:Bool} {ex ey E:Int} (hX:OfR x nx X ex) (hY:OfR y ny Y ey) (hs:sg neg N=sg nx X*sg ny Y) (hE:E=ex+ey∨(E=0∧N=0)) :
  U64 (bO neg N E false)∧szI (bO neg N E false)=jj (aV x*aV y)∧nd N≤1000000∧-10000000≤E∧E≤10000000:=by
 have hN:N=X*Y:=by
  have:=congrArg Int.natAbs hs
  rw [Int.natAbs_mul,dj,dj,dj] at this;exact this
 obtain⟨a,b⟩:=El neg N E
 have hnd:nd N≤1000000:=by
  refine Nat.le_trans (ct (k:=4) ?_) (by omega)
  rw [hN]
  have:=Nat.mul_lt_mul'' hX.lt hY.lt
  omega
 have l1:=hX.lo
 have l2:=hX.hi
 have l3:=hY.lo
 have l4:=hY.hi
 refine⟨a,?_,hnd,by omega,by omega⟩
 rw [b]
 unfold jj
 have hT:aV x*aV y=N*2^((ex+1074).toNat+(ey+1074).toNat):=by
  rw [← hX.val,← hY.val,hN,Nat.pow_add,Nat.mul_mul_mul_comm]
 have hp:=Nat.two_pow_pos ((ex+1074).toNat+(ey+1074).toNat)
 by_cases h0:N=0
 ·rw [if_pos h0,if_pos (by rw [hT,h0,Nat.zero_mul])]
 ·have h1:aV x*aV y≠0:=by rw [hT];have:=Nat.mul_pos (show 0<N by omega) hp;omega
  rw [if_neg h0,if_neg h1,hT]
  have hEE:E=ex+ey:=by
   rcases hE with h | ⟨_,h⟩
   ·exact h
   ·exact absurd h h0
  have:=bn h0 ((ex+1074).toNat+(ey+1074).toNat) (ex+ey)
  rw [show ex+ey - (((ex+1074).toNat+(ey+1074).toNat:Nat):Int)= -2148 by omega] at this
  rw [this,hEE]

theorem bA {x:Nat} {u:Int} (hu:u=(x:Int)):szI u=((x % 9223372036854775808:Nat):Int):=by rw [hu];exact fw x
theorem dQ {x:Nat} {u:Int} (hu:u=(x:Int)) (h1:ag u=false) (h2:aN u=false):af x:=by
 have:=bA hu
 unfold ag at h1
 unfold aN at h2
 unfold af
 rw [decide_eq_false_iff_not] at h1
 have h3:szI u≠9218868437227405312:=by simpa using h2
 omega
theorem fC {x:Nat} {u:Int} (hu:u=(x:Int)) (h2:aN u=true):x % 9223372036854775808=9218868437227405312:=by
 have:=bA hu
 unfold aN at h2
 have h3:szI u=9218868437227405312:=by simpa using h2
 omega
theorem jk {x y:Nat} (hx:x % 9223372036854775808=9218868437227405312) (hy:y % 9223372036854775808=0):floatBits .mul .f64 x y=none∧floatBits .mul .f64 y x=none:=by
 have e:Ieee.double.read y=.number (y / 9223372036854775808 % 2==1) 0 (-1074):=by rw [au (by omega),hy];rfl
 constructor
 ·show ((Ieee.double.read x).product (Ieee.double.read y)).map Ieee.double.write=_
  rw [aI hx,e];rfl
 ·show ((Ieee.double.read y).product (Ieee.double.read x)).map Ieee.double.write=_
  rw [aI hx,e];rfl
theorem cZ (s:Bool):Ieee.double.write (.infinity s)=wrd s 9218868437227405312:=by cases s<;>decide+kernel
theorem eD {r:Nat} (h:r≠0):mg r≠0:=by unfold mg;split<;>omega
theorem gp {x y:Nat} (hx:x % 9223372036854775808=9218868437227405312) (hy:af y) (h0:y % 9223372036854775808≠0):floatBits .mul .f64 x y=some (wrd (sB x^^sB y) 9218868437227405312)∧floatBits .mul .f64 y x=some (wrd (sB y^^sB x) 9218868437227405312):=by
 have hm:=eD h0
 constructor
 ·show ((Ieee.double.read x).product (Ieee.double.read y)).map Ieee.double.write=_
  rw [aI hx,au hy]
  show (if mg (y % 9223372036854775808)=0 then none else some (Ieee.Datum.infinity (_^^_))).map Ieee.double.write=_
  rw [if_neg hm]
  show some (Ieee.double.write (.infinity _))=_
  rw [cZ];rfl
 ·show ((Ieee.double.read y).product (Ieee.double.read x)).map Ieee.double.write=_
  rw [aI hx,au hy]
  show (if mg (y % 9223372036854775808)=0 then none else some (Ieee.Datum.infinity (_^^_))).map Ieee.double.write=_
  rw [if_neg hm]
  show some (Ieee.double.write (.infinity _))=_
  rw [cZ,Bool.xor_comm];rfl
theorem rX {x y:Nat} (hx:x % 9223372036854775808=9218868437227405312) (hy:y % 9223372036854775808=9218868437227405312):floatBits .mul .f64 x y=some (wrd (sB x^^sB y) 9218868437227405312):=by
 show ((Ieee.double.read x).product (Ieee.double.read y)).map Ieee.double.write=_
 rw [aI hx,aI hy]
 show some (Ieee.double.write (.infinity _))=_
 rw [cZ];rfl

set_option maxHeartbeats 1600000 in
theorem fD (u v:Int) (w:World) (h:U64 u) (h':U64 v) (hc:ag u=true∨(ag u=false∧ag v=true)∨(ag u=false∧ag v=false∧aN u=true∧(szI v==0)=true)∨(ag u=false∧ag v=false∧aN u=false∧aN v=true∧(szI u==0)=true)) :
  Calls Tryz.prog 135 #[.int .u64 u,.int .u64 v] w fun e w'=>e=.returned (.int .u64 9221120237041090561)∧w'=w:=by
 have hS:=pZ h h'
 rcases hc with h1 | ⟨h1,h2⟩| ⟨h1,h2,h3,h4⟩| ⟨h1,h2,h3,h4,h5⟩
 all_goals
  go_enter Tryz.func135,Tryz.ntmps135
  go_wp2_with (first | (go_at_call_of 84 (Value.int IntKind.u64 u);refine (ah u _ h).mono ?_;rintro e w' ⟨rfl,rfl⟩) | (go_at_call_of 84 (Value.int IntKind.u64 v);refine (ah v _ h').mono ?_;rintro e w' ⟨rfl,rfl⟩) | (go_at_call_of 85 (Value.int IntKind.u64 u);refine (aq u _ h).mono ?_;rintro e w' ⟨rfl,rfl⟩) | (go_at_call_of 85 (Value.int IntKind.u64 v);refine (aq v _ h').mono ?_;rintro e w' ⟨rfl,rfl⟩) | (go_at_call_of 66 (Value.int IntKind.u64 u);refine (ay u _ h).mono ?_;rintro e w' ⟨rfl,rfl⟩) | (go_at_call_of 66 (Value.int IntKind.u64 v);refine (ay v _ h').mono ?_;rintro e w' ⟨rfl,rfl⟩))
  go_ret
  exact⟨rfl,rfl⟩

set_option maxHeartbeats 1600000 in
theorem iz (u v S:Int) (w:World) (h:U64 u) (h':U64 v) (hS:bits .and .u64 (bits .xor .u64 u v) 9223372036854775808=S) (hS0:0≤S) (hS1:S≤9223372036854775808) (hn:ag u=false) (hn':ag v=false) (hc:(aN u=true∧aN v=true∧(szI v==0)=false∧(szI u==0)=false)∨(aN u=true∧aN v=false∧(szI v==0)=false)∨(aN u=false∧aN v=true∧(szI u==0)=false)) :
  Calls Tryz.prog 135 #[.int .u64 u,.int .u64 v] w fun e w'=>e=.returned (.int .u64 (S+9218868437227405312))∧w'=w:=by
 rcases hc with⟨h1,h2,h3,h4⟩| ⟨h1,h2,h3⟩| ⟨h1,h2,h3⟩
 all_goals
  go_enter Tryz.func135,Tryz.ntmps135
  go_wp2_with (first | (go_at_call_of 84 (Value.int IntKind.u64 u);refine (ah u _ h).mono ?_;rintro e w' ⟨rfl,rfl⟩) | (go_at_call_of 84 (Value.int IntKind.u64 v);refine (ah v _ h').mono ?_;rintro e w' ⟨rfl,rfl⟩) | (go_at_call_of 85 (Value.int IntKind.u64 u);refine (aq u _ h).mono ?_;rintro e w' ⟨rfl,rfl⟩) | (go_at_call_of 85 (Value.int IntKind.u64 v);refine (aq v _ h').mono ?_;rintro e w' ⟨rfl,rfl⟩) | (go_at_call_of 66 (Value.int IntKind.u64 u);refine (ay u _ h).mono ?_;rintro e w' ⟨rfl,rfl⟩) | (go_at_call_of 66 (Value.int IntKind.u64 v);refine (ay v _ h').mono ?_;rintro e w' ⟨rfl,rfl⟩))
  go_ret
  exact⟨rfl,rfl⟩

theorem aK {P:Program} {f:Nat} {args:Array Value} {w:World} {Q:Ending→Prop} (h:Calls P f args w fun e w'=>Q e∧w'=w):Calls P f args w fun e w'=>Q e∧w=w':=
 h.mono fun _ _ ⟨a,b⟩=>⟨a,b.symm⟩
theorem fE (u r:Int) (w:World) (h:U64 u) (hr:szI u=r) :
  Calls Tryz.prog 66 #[.int .u64 u] w fun e w'=>e=.returned (.int .u64 r)∧w=w':=by
 rw [← hr];exact (ay u w h).mono fun _ _ ⟨a,b⟩=>⟨a,b.symm⟩

set_option maxHeartbeats 1600000 in
theorem uR (x y:Nat) (u v S R:Int) (w:World) (hu:Hid (u=(x:Int))) (hv:Hid (v=(y:Int))) (h:U64 u) (h':U64 v) (hx:af x) (hy:af y) (hS:bits .and .u64 (bits .xor .u64 u v) 9223372036854775808=S) (hS0:0≤S) (hS1:S≤9223372036854775808) (hR:Hid (jj (aV x*aV y)=R)) (hn:ag u=false) (hn':ag v=false) (hi:aN u=false) (hi':aN v=false) :
  Calls Tryz.prog 135 #[.int .u64 u,.int .u64 v] w fun e w'=>e=.returned (.int .u64 (S+R))∧Below w.heap.size w w':=by
 have HX:=aa hx
 have HY:=aa hy
 obtain⟨hR0,hR1⟩:=Bq (aV x*aV y)
 rw [hR.out] at hR0 hR1
 have HN1:=aa (ah u · h)
 have HN2:=aa (ah v · h')
 have HI1:=aa (aq u · h)
 have HI2:=aa (aq v · h')
 rw [hn] at HN1
 rw [hn'] at HN2
 rw [hi] at HI1
 rw [hi'] at HI2
 have HO1:=aa fun w=>eC x u w hu h hx
 have HO2:=aa fun w=>eC y v w hv h' hy
 clear hx hy hn hn' hi hi' h h'
 go_enter Tryz.func135,Tryz.ntmps135
 go_wp2_with fail
 refine (aK (HN1.out _)).mono ?_
 rintro e w' ⟨rfl,rfl⟩
 go_wp2_with fail
 refine (aK (HN2.out _)).mono ?_
 rintro e w' ⟨rfl,rfl⟩
 go_wp2_with fail
 refine (aK (HI1.out _)).mono ?_
 rintro e w' ⟨rfl,rfl⟩
 go_wp2_with fail
 refine (aK (HI2.out _)).mono ?_
 rintro e w' ⟨rfl,rfl⟩
 go_wp2_with fail
 refine (aK (HI1.out _)).mono ?_
 rintro e w' ⟨rfl,rfl⟩
 go_wp2_with fail
 refine (aK (HI2.out _)).mono ?_
 rintro e w' ⟨rfl,rfl⟩
 go_wp2_with fail
 refine (HO1.out _).mono ?_
 rintro r w1 ⟨nx,vx,X,ex,rfl,hdx,hX,hb1⟩
 have HB1:=aa hb1
 have HDx:=aa hdx
 have HX:=aa hX
 clear hb1 hdx hX
 go_wp2_with fail
 refine (HO2.out _).mono ?_
 rintro r w2 ⟨ny,vy,Y,ey,rfl,hdy,hY,hb2⟩
 have HB2:=aa (HB1.out.trans (hb2.mono HB1.out.size))
 have HDx2:=aa (HDx.out.below hb2)
 have HDy:=aa hdy
 have HY:=aa hY
 clear hb2 hdy hY HB1 HDx
 have HT:=aa (yp nx ny vx vy ex ey X Y w2 HDx2.out HDy.out (by have:=dy HX.out.lt;omega) (by have:=dy HY.out.lt;omega) (by have:=HX.out.lo;omega) (by have:=HX.out.hi;omega) (by have:=HY.out.lo;omega) (by have:=HY.out.hi;omega))
 go_wp2_with fail
 refine HT.out.mono ?_
 rintro r w3 ⟨neg,vs,N,E,rfl,hds,hfs,hs,hE,hb3⟩
 have HB3:=aa (HB2.out.trans (hb3.mono HB2.out.size))
 obtain⟨q1,q2,q3,q4,q5⟩:=En HX.out HY.out hs hE
 rw [hR.out] at q2
 have HNr:=aa (gj neg vs E N w3 hds q3 q4 q5)
 obtain⟨Z,hZ⟩:∃ Z,bO neg N E false=Z:=⟨_,rfl⟩
 rw [hZ] at HNr q1 q2
 have HSz:Hid (∀ w,Calls Tryz.prog 66 #[.int .u64 Z] w fun e w'=>e=.returned (.int .u64 R)∧w=w'):=fun w=>fE Z R w q1 q2
 clear hds hfs hs hE hb3 HB2 q1 q2 q3 q4 q5 hZ HT HDx2 HDy HX HY
 go_wp2_with fail
 refine HNr.out.mono ?_
 rintro r w4 ⟨rfl,hb4⟩
 have HB4:=aa (HB3.out.trans (hb4.mono HB3.out.size))
 clear hb4 HNr HB3
 go_wp2_with fail
 refine (HSz.out _).mono ?_
 rintro r w5 ⟨rfl,rfl⟩
 go_wp2_with fail
 go_ret
 exact⟨rfl,HB4.out⟩

theorem xb (s:Bool):0≤gn s∧gn s≤9223372036854775808:=by unfold gn;split<;>omega
theorem dt (s:Bool) (r:Nat):(wrd s r:Int)=gn s+r:=by unfold wrd gn;cases s<;>simp
theorem iA (x y:Nat) (u v:Int) (w:World) (hu:Hid (u=(x:Int))) (hv:Hid (v=(y:Int))) (h:U64 u) (h':U64 v) :
  Calls Tryz.prog 135 #[.int .u64 u,.int .u64 v] w fun e w'=>e=.returned (.int .u64 (cn (floatBits .mul .f64 x y):Int))∧Below w.heap.size w w':=by
 have hS:=pZ h h'
 obtain⟨s0,s1⟩:=xb (sgB u^^sgB v)
 have hx64:x<18446744073709551616:=by have:=h.2;rw [hu.out] at this;omega
 have hy64:y<18446744073709551616:=by have:=h'.2;rw [hv.out] at this;omega
 have hsx:sgB u=sB x:=by rw [hu.out];exact ek hx64
 have hsy:sgB v=sB y:=by rw [hv.out];exact ek hy64
 have cx:=bA hu.out
 have cy:=bA hv.out
 have same:∀ {r:Int},(Calls Tryz.prog 135 #[.int .u64 u,.int .u64 v] w fun e w'=>e=.returned (.int .u64 r)∧w'=w)→(cn (floatBits .mul .f64 x y):Int)=r→Calls Tryz.prog 135 #[.int .u64 u,.int .u64 v] w fun e w'=>e=.returned (.int .u64 (cn (floatBits .mul .f64 x y):Int))∧Below w.heap.size w w':=fun hc e=>by
  rw [e]
  exact hc.mono fun _ _ ⟨a,b⟩=>⟨a,by rw [b];exact Below.refl _ _⟩
 cases hn:ag u with
 | true=>
  refine same (fD u v w h h' (Or.inl hn)) ?_
  rw [dr (by rw [← hu.out];exact hn)];rfl
 | false=>
  cases hn':ag v with
  | true=>
   refine same (fD u v w h h' (Or.inr (Or.inl ⟨hn,hn'⟩))) ?_
   rw [dH (by rw [← hv.out];exact hn')];rfl
  | false=>
   cases hi:aN u with
   | true=>
    have ix:=fC hu.out hi
    cases hi':aN v with
    | true=>
     have iy:=fC hv.out hi'
     refine same (iz u v _ w h h' hS s0 s1 hn hn' (Or.inl ⟨hi,hi',by rw [cy,iy];rfl,by rw [cx,ix];rfl⟩)) ?_
     rw [rX ix iy,ar,dt,hsx,hsy];rfl
    | false=>
     have ny:=dQ hv.out hn' hi'
     by_cases hz:y % 9223372036854775808=0
     ·refine same (fD u v w h h' (Or.inr (Or.inr (Or.inl ⟨hn,hn',hi,by rw [cy,hz];rfl⟩)))) ?_
      rw [(jk ix hz).1];rfl
     ·refine same (iz u v _ w h h' hS s0 s1 hn hn' (Or.inr (Or.inl ⟨hi,hi',by rw [cy];simp;omega⟩))) ?_
      rw [(gp ix ny hz).1,ar,dt,hsx,hsy];rfl
   | false=>
    have nx:=dQ hu.out hn hi
    cases hi':aN v with
    | true=>
     have iy:=fC hv.out hi'
     by_cases hz:x % 9223372036854775808=0
     ·refine same (fD u v w h h' (Or.inr (Or.inr (Or.inr ⟨hn,hn',hi,hi',by rw [cx,hz];rfl⟩)))) ?_
      rw [(jk iy hz).2];rfl
     ·refine same (iz u v _ w h h' hS s0 s1 hn hn' (Or.inr (Or.inr ⟨hi,hi',by rw [cx];simp;omega⟩))) ?_
      rw [(gp iy nx hz).2,ar,dt,hsx,hsy];rfl
    | false=>
     have ny:=dQ hv.out hn' hi'
     have e:(cn (floatBits .mul .f64 x y):Int)=gn (sgB u^^sgB v)+jj (aV x*aV y):=by rw [gP nx ny,ar,Em,hsx,hsy]
     rw [e]
     exact uR x y u v _ _ w hu hv h h' nx ny hS s0 s1 rfl hn hn' hi hi'
end Go.Proofs.YtjjlnmihkadlmaaGreat
namespace Go.Proofs.YtjjlnmihkadlmaaGreat
open Go.RowKit

theorem rY (x:Nat):vI x=sg (sB x) (aV x):=rfl
theorem fF (neg:Bool) (N k:Nat):sg neg (N*k)=sg neg N*(k:Int):=by
 unfold sg;cases neg<;>simp [Int.neg_mul]
theorem aY (neg:Bool):sg neg 0=0:=by cases neg<;>rfl
theorem rZ {x X n k:Nat} {nx:Bool} {ex:Int} (h:OfR x nx X ex) (hk:X≠0→n+k=(ex+1074).toNat):sg nx (X*2^n)*((2^k:Nat):Int)=vI x:=by
 rw [← fF,Nat.mul_assoc,← Nat.pow_add,rY,← h.val]
 by_cases h0:X=0
 ·rw [h0,Nat.zero_mul,Nat.zero_mul,aY,aY]
 ·rw [hk h0,h.sgn h0]
structure AddR (x y X Y:Nat) (nx ny:Bool) (ex ey E:Int) (n m k:Nat):Prop where
 hn:X≠0→ex - E=(n:Int)
 hm:Y≠0→ey - E=(m:Int)
 hn1:n≤3000
 hm1:m≤3000
 lo: -1074≤E
 hi:E≤971
 hk:E+1074=(k:Int)
 had:nd (X*2^n)≤10000000
 hbd:nd (Y*2^m)≤10000000
 val:(sg nx (X*2^n)+sg ny (Y*2^m))*((2^k:Nat):Int)=vI x+vI y
 small:∃ K,K≤3100∧(sg nx (X*2^n)+sg ny (Y*2^m)).natAbs<2^K
theorem ow {X n K:Nat} (hK:K=3060) (h:X<9007199254740992) (hn:n≤3000):X*2^n<2^K:=by
 have h1:(2:Nat)^n≤2^(K - 60):=Nat.pow_le_pow_right (by decide) (by omega)
 have h2:X*2^n<2^53*2^(K - 60):=Nat.mul_lt_mul_of_lt_of_le h h1 (Nat.two_pow_pos _)
 rw [← Nat.pow_add] at h2
 exact Nat.lt_of_lt_of_le h2 (Nat.pow_le_pow_right (by decide) (by omega))
theorem jS {X K:Nat} (hK:K≤3100) (h:X<2^K):nd X≤1000:=by
 obtain⟨k,hk⟩:∃ k:Nat,k=97:=⟨_,rfl⟩
 have:=ct (N:=X) (k:=k) (Nat.lt_of_lt_of_le h (Nat.pow_le_pow_right (by decide) (by omega)))
 omega
theorem yu {a b P Q:Nat} {s t:Bool} (h1:a<P) (h2:b<P) (hPQ:P+P≤Q):(sg s a+sg t b).natAbs<Q:=by
 unfold sg;cases s<;>cases t<;>simp only [Bool.false_eq_true,if_true,if_false]<;>omega
theorem Eo {x y X Y:Nat} {nx ny:Bool} {ex ey E:Int} (hX:OfR x nx X ex) (hY:OfR y ny Y ey) (hE:gk X ex Y ey=E):∃ n m k,AddR x y X Y nx ny ex ey E n m k:=by
 have l1:=hX.lo
 have l2:=hX.hi
 have l3:=hY.lo
 have l4:=hY.hi
 have hEr: -1074≤E∧E≤971∧(X≠0→E≤ex)∧(Y≠0→E≤ey):=by
  rw [← hE];unfold gk
  by_cases a:X=0
  ·rw [if_pos a];refine⟨l3,l4,fun h=>absurd a h,fun _=>Int.le_refl _⟩
  ·rw [if_neg a]
   by_cases b:Y=0
   ·rw [if_pos b];exact⟨l1,l2,fun _=>Int.le_refl _,fun h=>absurd b h⟩
   ·rw [if_neg b];refine⟨by omega,by omega,fun _=>by omega,fun _=>by omega⟩
 obtain⟨e1,e2,e3,e4⟩:=hEr
 obtain⟨K,hK⟩:∃ K:Nat,K=3060:=⟨_,rfl⟩
 have s1:=ow (n:=(ex - E).toNat) hK hX.lt (by omega)
 have s2:=ow (n:=(ey - E).toNat) hK hY.lt (by omega)
 refine⟨(ex - E).toNat,(ey - E).toNat,(E+1074).toNat,⟨fun h=>by have:=e3 h;omega,fun h=>by have:=e4 h;omega,by omega,by omega,e1,e2,by omega,?_,?_,?_,?_⟩⟩
 ·exact Nat.le_trans (jS (by omega) s1) (by decide)
 ·exact Nat.le_trans (jS (by omega) s2) (by decide)
 ·rw [Int.add_mul,rZ hX (fun h=>by have:=e3 h;omega),rZ hY (fun h=>by have:=e4 h;omega)]
 ·refine⟨K+1,by omega,yu s1 s2 ?_⟩
  rw [Nat.pow_succ];omega
theorem uS {neg:Bool} {N:Nat} (h:N≠0):decide (sg neg N<0)=neg:=by
 unfold sg
 cases neg
 ·simp
 ·simp;omega
theorem sa {S:Int} (k:Nat):(S*((2^k:Nat):Int)<0↔S<0)∧(S*((2^k:Nat):Int)=0↔S=0):=by
 have hp:(0:Int)<((2^k:Nat):Int):=by have:=Nat.two_pow_pos k;omega
 refine⟨⟨fun h=>?_,fun h=>Int.mul_neg_of_neg_of_pos h hp⟩,⟨fun h=>?_,fun h=>by rw [h,Int.zero_mul]⟩⟩
 ·by_cases h6:S<0
  ·exact h6
  ·have:=Int.mul_nonneg (by omega:0≤S) (by omega:(0:Int)≤((2^k:Nat):Int));omega
 ·rcases Int.mul_eq_zero.1 h with h | h
  ·exact h
  ·omega
theorem Ep {x y X Y n m k N:Nat} {nx ny neg:Bool} {ex ey E E':Int} (h:AddR x y X Y nx ny ex ey E n m k) (hs:sg neg N=sg nx (X*2^n)+sg ny (Y*2^m)) (hE:E'=E∨(E'=0∧N=0)) (h0:N≠0) :
  bO neg N E' false=(gl (sB x) (sB y) (vI x+vI y):Int):=by
 obtain⟨S,hS⟩:∃ S,sg neg N=S:=⟨_,rfl⟩
 have hv:=h.val
 rw [← hs,hS] at hv
 have hS0:S≠0:=by
  intro e;rw [e] at hS
  have:=dj neg N
  rw [hS] at this;exact h0 this.symm
 have hab:S.natAbs=N:=by rw [← hS];exact dj neg N
 have hEE:E'=E:=by
  rcases hE with h | ⟨_,h⟩
  ·exact h
  ·exact absurd h h0
 rw [eN neg E' h0,hEE]
 unfold gl
 rw [← hv]
 obtain⟨m1,m2⟩:=sa (S:=S) k
 rw [if_neg (fun e=>hS0 (m2.1 e))]
 unfold aG
 rw [if_neg (fun e=>hS0 (m2.1 e)),bC,hab]
 have h7:=bn h0 k E
 rw [show E - (k:Int)= -1074 by have:=h.hk;omega] at h7
 rw [h7]
 have hd:=uS (neg:=neg) h0
 rw [hS] at hd
 cases neg
 ·rw [if_neg (by decide),if_neg (fun e=>by have:=m1.1 e;simp at hd;omega)];omega
 ·rw [if_pos rfl,if_pos (m1.2 (by simpa using hd))];omega
theorem Br {r:Nat} (h:V r=0):r=0:=by
 have:=dI (r:=r) (s:=0)
 rw [bu] at this
 exact this.1 h
theorem Bs {x y:Nat} {u v:Int} (hu:u=(x:Int)) (hv:v=(y:Int)) (h:U64 u) (h':U64 v) (hT:vI x+vI y=0) :
  (((szI u==0)=true∧(u==v)=true)∧u=(gl (sB x) (sB y) (vI x+vI y):Int))∨(((szI u==0)=false∨((szI u==0)=true∧(u==v)=false))∧(0:Int)=(gl (sB x) (sB y) (vI x+vI y):Int)):=by
 have e1:=bA hu
 have hx64:x<18446744073709551616:=by have:=h.2;omega
 have hy64:y<18446744073709551616:=by have:=h'.2;omega
 unfold gl
 rw [if_pos hT]
 rw [rY,rY] at hT
 by_cases hz:szI u=0
 ·have hx0:x % 9223372036854775808=0:=by omega
  have hax:aV x=0:=by unfold aV;rw [hx0];exact bu
  have hay:aV y=0:=by
   rw [hax,aY,Int.zero_add] at hT
   have:=dj (sB y) (aV y);rw [hT] at this;exact this.symm
  have hy0:y % 9223372036854775808=0:=Br hay
  by_cases hq:u=v
  ·left
   refine⟨⟨by rw [hz];rfl,by rw [hq];exact beq_self_eq_true v⟩,?_⟩
   have hxy:x=y:=by omega
   subst hxy
   unfold sB
   rcases (show x=0∨x=9223372036854775808 by omega) with e | e
   ·subst e;rw [hu];rfl
   ·subst e;rw [hu];rfl
  ·right
   refine⟨Or.inr ⟨by rw [hz];rfl,by simpa using hq⟩,?_⟩
   unfold sB
   rcases (show x=0∨x=9223372036854775808 by omega) with e | e
   ·subst e;rfl
   ·subst e
    rcases (show y=0∨y=9223372036854775808 by omega) with e | e
    ·subst e;rfl
    ·exact absurd (by rw [hu,hv,e]) hq
 ·right
  refine⟨Or.inl (by simpa using hz),?_⟩
  have hax:aV x≠0:=fun e=>hz (by have:=Br e;omega)
  cases hsx:sB x
  ·rfl
  ·cases hsy:sB y
   ·rfl
   ·rw [hsx,hsy] at hT;unfold sg at hT;simp at hT;omega

theorem jl {x y:Nat} (hx:x % 9223372036854775808=9218868437227405312) (hy:af y) (hx64:x<18446744073709551616):floatBits .add .f64 x y=some x∧floatBits .add .f64 y x=some x:=by
 have hw:wrd (sB x) 9218868437227405312=x:=by
  unfold wrd sB
  rcases (show x / 9223372036854775808=0∨x / 9223372036854775808=1 by omega) with e | e
  ·rw [e];simp;omega
  ·rw [e];simp;omega
 constructor
 ·show ((Ieee.double.read x).sum (Ieee.double.read y)).map Ieee.double.write=_
  rw [aI hx,au hy]
  show some (Ieee.double.write (.infinity _))=_
  rw [cZ];exact congrArg some hw
 ·show ((Ieee.double.read y).sum (Ieee.double.read x)).map Ieee.double.write=_
  rw [aI hx,au hy]
  show some (Ieee.double.write (.infinity _))=_
  rw [cZ];exact congrArg some hw
theorem lP {x y:Nat} (hx:x % 9223372036854775808=9218868437227405312) (hy:y % 9223372036854775808=9218868437227405312) (hx64:x<18446744073709551616) (hy64:y<18446744073709551616):floatBits .add .f64 x y=if x=y then some x else none:=by
 show ((Ieee.double.read x).sum (Ieee.double.read y)).map Ieee.double.write=_
 rw [aI hx,aI hy]
 rcases (show x=9218868437227405312∨x=18442240474082181120 by omega) with e | e<;>rcases (show y=9218868437227405312∨y=18442240474082181120 by omega) with e' | e'<;>subst e<;>subst e'<;>decide+kernel

set_option maxHeartbeats 1600000 in
theorem iB (u v:Int) (w:World) (h:U64 u) (h':U64 v) (hc:ag u=true∨(ag u=false∧ag v=true)∨(ag u=false∧ag v=false∧aN u=true∧aN v=true∧(u==v)=false)) :
  Calls Tryz.prog 172 #[.int .u64 u,.int .u64 v] w fun e w'=>e=.returned (.int .u64 9221120237041090561)∧w'=w:=by
 rcases hc with h1 | ⟨h1,h2⟩| ⟨h1,h2,h3,h4,h5⟩
 all_goals
  go_enter Tryz.func172,Tryz.ntmps172
  go_wp2_with (first | (go_at_call_of 84 (Value.int IntKind.u64 u);refine (ah u _ h).mono ?_;rintro e w' ⟨rfl,rfl⟩) | (go_at_call_of 84 (Value.int IntKind.u64 v);refine (ah v _ h').mono ?_;rintro e w' ⟨rfl,rfl⟩) | (go_at_call_of 85 (Value.int IntKind.u64 u);refine (aq u _ h).mono ?_;rintro e w' ⟨rfl,rfl⟩) | (go_at_call_of 85 (Value.int IntKind.u64 v);refine (aq v _ h').mono ?_;rintro e w' ⟨rfl,rfl⟩))
  go_ret
  exact⟨rfl,rfl⟩

set_option maxHeartbeats 1600000 in
theorem iC (u v r:Int) (w:World) (h:U64 u) (h':U64 v) (hn:ag u=false) (hn':ag v=false) (hc:(aN u=true∧aN v=true∧(u==v)=true∧r=u)∨(aN u=true∧aN v=false∧r=u)∨(aN u=false∧aN v=true∧r=v)) :
  Calls Tryz.prog 172 #[.int .u64 u,.int .u64 v] w fun e w'=>e=.returned (.int .u64 r)∧w'=w:=by
 rcases hc with⟨h1,h2,h3,hr⟩| ⟨h1,h2,hr⟩| ⟨h1,h2,hr⟩
 all_goals
  have HR:=aa hr
  clear hr
  go_enter Tryz.func172,Tryz.ntmps172
  go_wp2_with (first | (go_at_call_of 84 (Value.int IntKind.u64 u);refine (ah u _ h).mono ?_;rintro e w' ⟨rfl,rfl⟩) | (go_at_call_of 84 (Value.int IntKind.u64 v);refine (ah v _ h').mono ?_;rintro e w' ⟨rfl,rfl⟩) | (go_at_call_of 85 (Value.int IntKind.u64 u);refine (aq u _ h).mono ?_;rintro e w' ⟨rfl,rfl⟩) | (go_at_call_of 85 (Value.int IntKind.u64 v);refine (aq v _ h').mono ?_;rintro e w' ⟨rfl,rfl⟩))
  go_ret
  exact⟨bW HR.out.symm,rfl⟩

set_option maxHeartbeats 1600000 in
theorem uT (x y:Nat) (u v R:Int) (w:World) (hu:Hid (u=(x:Int))) (hv:Hid (v=(y:Int))) (h:U64 u) (h':U64 v) (hx:af x) (hy:af y) (hR:Hid ((gl (sB x) (sB y) (vI x+vI y):Int)=R)) (hn:ag u=false) (hn':ag v=false) (hi:aN u=false) (hi':aN v=false) :
  Calls Tryz.prog 172 #[.int .u64 u,.int .u64 v] w fun e w'=>e=.returned (.int .u64 R)∧Below w.heap.size w w':=by
 have HN1:=aa (ah u · h)
 have HN2:=aa (ah v · h')
 have HI1:=aa (aq u · h)
 have HI2:=aa (aq v · h')
 rw [hn] at HN1
 rw [hn'] at HN2
 rw [hi] at HI1
 rw [hi'] at HI2
 have HO1:=aa fun w=>eC x u w hu h hx
 have HO2:=aa fun w=>eC y v w hv h' hy
 have HSz:=aa (ay u · h)
 have HNo:=aa fun (hT:vI x+vI y=0)=>Bs hu.out hv.out h h' hT
 clear hx hy hn hn' hi hi' h h'
 go_enter Tryz.func172,Tryz.ntmps172
 go_wp2_with fail
 refine (aK (HN1.out _)).mono ?_
 rintro e w' ⟨rfl,rfl⟩
 go_wp2_with fail
 refine (aK (HN2.out _)).mono ?_
 rintro e w' ⟨rfl,rfl⟩
 go_wp2_with fail
 refine (aK (HI1.out _)).mono ?_
 rintro e w' ⟨rfl,rfl⟩
 go_wp2_with fail
 refine (aK (HI1.out _)).mono ?_
 rintro e w' ⟨rfl,rfl⟩
 go_wp2_with fail
 refine (aK (HI2.out _)).mono ?_
 rintro e w' ⟨rfl,rfl⟩
 go_wp2_with fail
 refine (HO1.out _).mono ?_
 rintro r w1 ⟨nx,vx,X,ex,rfl,hdx,hX,hb1⟩
 have HB1:=aa hb1
 have HDx:=aa hdx
 have HX:=aa hX
 clear hb1 hdx hX
 go_wp2_with fail
 refine (HO2.out _).mono ?_
 rintro r w2 ⟨ny,vy,Y,ey,rfl,hdy,hY,hb2⟩
 have HB2:=aa (HB1.out.trans (hb2.mono HB1.out.size))
 have HDx2:=aa (HDx.out.below hb2)
 have HDy:=aa hdy
 have HY:=aa hY
 clear hb2 hdy hY HB1 HDx
 obtain⟨E,hE⟩:∃ E,gk X ex Y ey=E:=⟨_,rfl⟩
 obtain⟨n,m,k,hA⟩:=Eo HX.out HY.out hE
 have HP:=aa (plus_any nx ny vx vy ex ey E X Y n m w2 HDx2.out HDy.out hE hA.hn hA.hm (by have:=hA.hn1;omega) (by have:=hA.hm1;omega) (by have:=dy HX.out.lt;omega) (by have:=dy HY.out.lt;omega) hA.had hA.hbd)
 have HA:=aa hA
 clear hA hE
 go_wp2_with fail
 refine HP.out.mono ?_
 rintro r w3 ⟨neg,vs,N,E',rfl,hds,hfs,hs,hEE,hb3⟩
 have HB3:=aa (HB2.out.trans (hb3.mono HB2.out.size))
 obtain⟨p,l,c,rfl⟩:=hds.shape
 have HD3:=aa hds
 have HEr:Hid (nd N≤1000000∧-10000000≤E'∧E'≤10000000):=by
  obtain⟨K,hK,h1⟩:=HA.out.small
  rw [← hs,dj] at h1
  have h2:=jS hK h1
  have h3:=HA.out.lo
  have h4:=HA.out.hi
  refine⟨by omega,?_,?_⟩ <;>rcases hEE with e | ⟨e,_⟩ <;>omega
 have HV:Hid (N≠0→bO neg N E' false=R):=fun h0=>by rw [← hR.out];exact Ep HA.out hs hEE h0
 have HT:Hid (N=0→vI x+vI y=0):=fun h0=>by rw [← HA.out.val,← hs,h0,aY,Int.zero_mul]
 clear hds hfs hs hEE hb3 HB2 HA HP HDx2 HDy HX HY HO1 HO2
 have HBox:=aa (aH w3 neg (.slice p l c) E')
 have HDb:=aa (HD3.out.below HBox.out)
 have HB3b:=aa (HB3.out.trans (HBox.out.mono HB3.out.size))
 go_wp2_with fail
 by_cases h0:N=0
 ·have HT0:=aa (HNo.out (HT.out h0))
  rw [hR.out] at HT0
  refine (aR _ _ _ N true _ HDb.out (decide_eq_true h0)).mono ?_
  rintro r w4 ⟨rfl,hb4⟩
  have HB4:=aa (HB3b.out.trans (hb4.mono HB3b.out.size))
  clear hb4 h0
  rcases HT0.out with⟨⟨a1,a2⟩,a3⟩| ⟨a1 | ⟨a1,a2⟩,a3⟩
  all_goals
   have HA3:=aa a3
   clear a3 HT0
   go_wp2_with (go_at_call 66;refine (aK (HSz.out _)).mono ?_;rintro r w5 ⟨rfl,rfl⟩)
   go_ret
   exact⟨bW HA3.out,HB4.out⟩
 ·refine (aR _ _ _ N false _ HDb.out (decide_eq_false h0)).mono ?_
  rintro r w4 ⟨rfl,hb4⟩
  obtain⟨c0,c1,c2⟩:=gM hb4
  have HB4:=aa (HB3b.out.trans (hb4.mono HB3b.out.size))
  have HNr:=aa (gj neg _ E' N w4 (HDb.out.below hb4) HEr.out.1 HEr.out.2.1 HEr.out.2.2)
  rw [HV.out h0] at HNr
  clear hb4 h0 HDb HBox HB3b HB3 HD3 HEr HV HT HNo
  go_wp2_with fail
  refine HNr.out.mono ?_
  rintro r w5 ⟨rfl,hb5⟩
  have HB5:=aa (HB4.out.trans (hb5.mono HB4.out.size))
  clear hb5
  go_wp2_with fail
  go_ret
  exact⟨rfl,HB5.out⟩

theorem fG (x y:Nat) (u v:Int) (w:World) (hu:Hid (u=(x:Int))) (hv:Hid (v=(y:Int))) (h:U64 u) (h':U64 v) :
  Calls Tryz.prog 172 #[.int .u64 u,.int .u64 v] w fun e w'=>e=.returned (.int .u64 (cn (floatBits .add .f64 x y):Int))∧Below w.heap.size w w':=by
 have hx64:x<18446744073709551616:=by have:=h.2;rw [hu.out] at this;omega
 have hy64:y<18446744073709551616:=by have:=h'.2;rw [hv.out] at this;omega
 have same:∀ {r:Int},(Calls Tryz.prog 172 #[.int .u64 u,.int .u64 v] w fun e w'=>e=.returned (.int .u64 r)∧w'=w)→(cn (floatBits .add .f64 x y):Int)=r→Calls Tryz.prog 172 #[.int .u64 u,.int .u64 v] w fun e w'=>e=.returned (.int .u64 (cn (floatBits .add .f64 x y):Int))∧Below w.heap.size w w':=fun hc e=>by
  rw [e]
  exact hc.mono fun _ _ ⟨a,b⟩=>⟨a,by rw [b];exact Below.refl _ _⟩
 cases hn:ag u with
 | true=>
  refine same (iB u v w h h' (Or.inl hn)) ?_
  rw [dr (by rw [← hu.out];exact hn)];rfl
 | false=>
  cases hn':ag v with
  | true=>
   refine same (iB u v w h h' (Or.inr (Or.inl ⟨hn,hn'⟩))) ?_
   rw [dH (by rw [← hv.out];exact hn')];rfl
  | false=>
   cases hi:aN u with
   | true=>
    have ix:=fC hu.out hi
    cases hi':aN v with
    | true=>
     have iy:=fC hv.out hi'
     by_cases hq:x=y
     ·refine same (iC u v u w h h' hn hn' (Or.inl ⟨hi,hi',by rw [hu.out,hv.out,hq];exact beq_self_eq_true _,rfl⟩)) ?_
      rw [lP ix iy hx64 hy64,if_pos hq,ar,hu.out]
     ·refine same (iB u v w h h' (Or.inr (Or.inr ⟨hn,hn',hi,hi',?_⟩))) ?_
      ·rw [hu.out,hv.out];simp;omega
      ·rw [lP ix iy hx64 hy64,if_neg hq];rfl
    | false=>
     have ny:=dQ hv.out hn' hi'
     refine same (iC u v u w h h' hn hn' (Or.inr (Or.inl ⟨hi,hi',rfl⟩))) ?_
     rw [(jl ix ny hx64).1,ar,hu.out]
   | false=>
    have nx:=dQ hu.out hn hi
    cases hi':aN v with
    | true=>
     have iy:=fC hv.out hi'
     refine same (iC u v v w h h' hn hn' (Or.inr (Or.inr ⟨hi,hi',rfl⟩))) ?_
     rw [(jl iy nx hy64).2,ar,hv.out]
    | false=>
     have ny:=dQ hv.out hn' hi'
     have e:cn (floatBits .add .f64 x y)=gl (sB x) (sB y) (vI x+vI y):=by rw [jg nx ny,ar];rfl
     rw [e]
     exact uT x y u v _ w hu hv h h' nx ny rfl hn hn' hi hi'
end Go.Proofs.YtjjlnmihkadlmaaGreat
namespace Go.Proofs.YtjjlnmihkadlmaaGreat
open Go.RowKit

theorem xc {op:BinOp} (ho:op=.add∨op=.sub∨op=.mul∨op=.quo) (x y:Nat):cn (floatBits op .f64 x y)<18446744073709551616:=by
 cases h:floatBits op .f64 x y with
 | none=>decide
 | some r=>exact jm ho h
theorem lQ:ag ((9221120237041090561:Nat):Int)=true:=by decide
theorem Bu (o:Option Nat):Ag o (cn o):=by
 cases o with
 | none=>exact⟨lQ,by decide⟩
 | some r=>rfl
def FitL (l:List Nat):Prop:=∀ x ∈ l,x<18446744073709551616
theorem FitL.get {l:List Nat} (h:FitL l) (i:Nat):l.getD i 0<18446744073709551616:=by
 by_cases hi:i<l.length
 ·have e:l.getD i 0=l[i]:=by simp [List.getD,List.getElem?_eq_getElem hi]
  rw [e];exact h _ (List.getElem_mem hi)
 ·have e:l.getD i 0=0:=by simp [List.getD,List.getElem?_eq_none (show l.length≤i by omega)]
  rw [e];decide

theorem sc (o:Option Nat) (x:Nat):floatBits .mul .f64 (cn o) x=o.bind fun p=>floatBits .mul .f64 p x:=by
 cases o with
 | none=>rw [ji,dr lQ];rfl
 | some r=>rfl
theorem sd (o:Option Nat) (x:Nat):floatBits .add .f64 (cn o) x=o.bind fun p=>floatBits .add .f64 p x:=by
 cases o with
 | none=>rw [ji,dr lQ];rfl
 | some r=>rfl
theorem lS (x c:Nat) (o:Option Nat):floatBits .add .f64 (cn (floatBits .mul .f64 (cn o) x)) c=el x o c:=by
 rw [sc,sd];rfl

set_option maxHeartbeats 1600000 in
theorem ik (B n x:Nat) (v:Value) (u:Int) (cs:List Nat) (w:World) (hO:OwnF w B 57 uV v cs) (hf:FitL cs) (hu:Hid (u=(x:Int))) (h:Hid (U64 u)) (hN:cs.length=n) (hn:n≤1000000) :
  Calls Tryz.prog 175 #[v,.int .u64 u] w fun e w'=>e=.returned (.int .u64 (cn (aS cs x):Int))∧Below w.heap.size w w':=by
 obtain⟨p,g,c,rfl,ha,hr⟩:=hO.shape
 rw [hN]
 have HF:=hideS hf
 have HN:=hideS hN
 have HR:=hideS hr
 by_cases h0:n=0
 ·subst h0
  have HRes:Hid (aS cs x=some 0):=by show _=_;unfold aS;rw [if_pos hN]
  rw [HRes.out]
  clear hO hf hN ha hr HR HF HN
  go_enter Tryz.func175,Tryz.ntmps175
  go_wp2
  go_ret
  exact⟨rfl,Below.refl _ _⟩
 obtain⟨m,rfl⟩:∃ m,n=m+1:=⟨n - 1,by omega⟩
 obtain⟨rfl,_,hg⟩:=ha (by omega)
 have hc0:w.cell? ⟨g,m,none⟩=some (.int .u64 ((cs.getD m 0:Nat):Int)):=hr m (by omega)
 have HRes:Hid (aS cs x=hornAt cs x m):=by show _=_;unfold aS;rw [if_neg (by omega),hN];rfl
 have HA0:Hid (((cs.getD m 0:Nat):Int)=(cn (hornAt cs x 0):Int)):=by show _=_;unfold hornAt;rw [hN];rfl
 have HA1:Hid (∀ i,hornAt cs x (i+1)=el x (hornAt cs x i) (cs.getD (m - 1 - i) 0)):=fun i=>by
  show el x (hornAt cs x i) (cs.getD (cs.length - 2 - i) 0)=_
  rw [hN];rfl
 have HU0:=hideS (an (hf.get m))
 generalize ((cs.getD m 0:Nat):Int)=p0 at hc0 HA0 HU0
 rw [HRes.out]
 obtain⟨res,hres⟩:∃ res:Int,(cn (hornAt cs x m):Int)=res:=⟨_,rfl⟩
 rw [hres]
 have HRs:=hideS hres
 have hm0:((m:Int)+1==0)=false:=by simp;omega
 clear hO hf hN ha hr h0 HRes hres
 go_enter Tryz.func175,Tryz.ntmps175
 go_wp2_with fail
 go_loopw [5,6] (fun s i wr=>∃ (t a:Int),-1≤t∧t<(m:Int)∧i=.int .i64 t∧s=.int .u64 a∧Hid (∃ k:Nat,(k:Int)=(m:Int) - 1 - t∧a=(cn (hornAt cs x k):Int))∧Hid (U64 a)∧Hid (Below w.heap.size w wr)) (fun _ i _=>(intOf i+1).toNat)
 case atStart=>exact⟨(m:Int) - 1,p0,by omega,by omega,by congr 1;omega,rfl,⟨0,by omega,HA0.out⟩,HU0,Below.refl _ _⟩
 case round=>
  obtain⟨t,a,ht1,ht2,rfl,rfl,HK,HU,HB⟩:=hrel
  by_cases hlt:0≤t
  ·obtain⟨j,rfl⟩:=Int.eq_ofNat_of_zero_le hlt
   obtain⟨k,hk,ha⟩:=HK.out
   have HA:=hideS ha
   have hj:m - 1 - k=j:=by omega
   have hjn:j<cs.length:=by rw [HN.out];omega
   have hcx:wr.cell? ⟨g,j,none⟩=some (.int .u64 ((cs.getD j 0:Nat):Int)):=(HB.out.cell (p:=⟨g,j,none⟩) hg).trans (HR.out j hjn)
   have HA2:=hideS (HA1.out k)
   rw [hj] at HA2
   have HUy:=hideS (an (HF.out.get j))
   obtain⟨y,hy⟩:∃ y:Nat,cs.getD j 0=y:=⟨_,rfl⟩
   rw [hy] at hcx HA2 HUy
   obtain⟨yi,hyi⟩:∃ yi:Int,yi=(y:Int):=⟨_,rfl⟩
   rw [← hyi] at hcx HUy
   have HYI:=hideS hyi
   have hgz:g<wr.heap.size:=Nat.lt_of_lt_of_le hg HB.out.size
   obtain⟨q,hq⟩:∃ q:Int,q=(cn (floatBits .mul .f64 (cn (hornAt cs x k)) x):Int):=⟨_,rfl⟩
   obtain⟨z,hz⟩:∃ z:Int,z=(cn (hornAt cs x (k+1)):Int):=⟨_,rfl⟩
   have HM:Hid (∀ w,Calls Tryz.prog 135 #[.int .u64 a,.int .u64 u] w fun e w'=>e=.returned (.int .u64 q)∧Below w.heap.size w w'):=fun w=>by rw [hq];exact iA _ x a u w HA hu HU.out h.out
   have HD:Hid (∀ w,Calls Tryz.prog 172 #[.int .u64 q,.int .u64 yi] w fun e w'=>e=.returned (.int .u64 z)∧Below w.heap.size w w'):=fun w=>by
    have:=fG (cn (floatBits .mul .f64 (cn (hornAt cs x k)) x)) y q yi w hq HYI (by rw [hq];exact an (xc (by simp) _ _)) HUy.out
    rw [lS,← HA2.out,← hz] at this
    exact this
   have HZ:Hid (z=(cn (hornAt cs x (k+1)):Int)):=hz
   have HUz:Hid (U64 z):=by rw [HZ.out,HA2.out,← lS];exact an (xc (by simp) _ _)
   have HK2:Hid (∃ k:Nat,(k:Int)=(m:Int) - 1 - ((j:Int) - 1)∧z=(cn (hornAt cs x k):Int)):=⟨k+1,by omega,HZ.out⟩
   have hjm:(j:Int)<(m:Int)+1:=by omega
   clear hq hz hyi hy hj HA2 HA hk ha hjn HK ht1
   go_wp2_with fail
   go_region_held3 (fun w'=>w'.cell? ⟨g,j,none⟩=some (.int .u64 yi)) (first | exact hcx | exact (hb3.cell (p:=⟨g,j,none⟩) hgz).trans hcx | exact (hb4.cell (p:=⟨g,j,none⟩) (Nat.lt_of_lt_of_le hgz hb3.size)).trans ((hb3.cell (p:=⟨g,j,none⟩) hgz).trans hcx) | go_keep) (first | ((go_at_call 135;refine (HM.out _).mono ?_;rintro e w3 ⟨rfl,hb3⟩)) | ((go_at_call 172;refine (HD.out _).mono ?_;rintro e w4 ⟨rfl,hb4⟩)))
   have HB3:=hideS (HB.out.drew.trans (hb3.mono (show w.heap.size≤wr.heap.size from HB.out.size)))
   have HB4:=hideS (HB3.out.trans (hb4.mono HB3.out.size))
   clear hb3 hb4 HB3 HM HD
   go_wp2_with fail
   go_roundw
   case rel=>exact⟨(j:Int) - 1,z,by omega,by omega,rfl,rfl,HK2,HUz,HB4⟩
   case measure=>simp [intOf]
  ·obtain rfl:t= -1:=by omega
   have HE:Hid (a=res):=by
    obtain⟨k,hk,ha⟩:=HK.out
    have:k=m:=by omega
    rw [← HRs.out,← this];exact ha
   clear HK
   go_wp2
   go_ret
   exact⟨bW HE.out,HB.out⟩
end Go.Proofs.YtjjlnmihkadlmaaGreat
