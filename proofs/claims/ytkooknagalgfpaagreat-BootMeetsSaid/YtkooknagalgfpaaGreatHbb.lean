/-  -/
import Derived.Test.YtkooknagalgfpaaGreatHaz
import Derived.Deep.LoopGhost
import Derived.Test.YtkooknagalgfpaaGreatHba
import Derived.Test.YtkooknagalgfpaaGreatHat
import Derived.Test.YtkooknagalgfpaaGreatHal
import Derived.Test.YtkooknagalgfpaaGreatHav
namespace Go.Proofs.YtkooknagalgfpaaGreat
open Go.RowKit

def jJ (R j d:Nat):Nat:=R / 2^(32*(j+1))*2^(32*(j+1))+d*2^(32*j)+R % 2^(32*j)
theorem pI (R j d:Nat):jJ R j d+dgt R j*2^(32*j)=R+d*2^(32*j):=by
 unfold jJ
 have h1:=Nat.div_add_mod R (2^(32*(j+1)))
 have h2:=eP R j
 rw [Nat.mul_comm] at h1
 omega
theorem OT (R j d:Nat) (hd:d<4294967296):d*2^(32*j)+R % 2^(32*j)<2^(32*(j+1)):=by
 have h1:R % 2^(32*j)<2^(32*j):=Nat.mod_lt _ (Nat.two_pow_pos _)
 have h2:(d+1)*2^(32*j)≤4294967296*2^(32*j):=Nat.mul_le_mul_right _ hd
 rw [Nat.add_mul,Nat.one_mul] at h2
 rw [gi,Nat.mul_comm (2^(32*j))]
 omega
theorem pJ (R j d:Nat) (hd:d<4294967296):jJ R j d / 2^(32*(j+1))=R / 2^(32*(j+1)):=by
 unfold jJ
 rw [Nat.add_assoc,Nat.add_comm,Nat.add_mul_div_right _ _ (Nat.two_pow_pos _),Nat.div_eq_of_lt (OT R j d hd),Nat.zero_add]
theorem LS {R j d T:Nat} (hR:R<2^(32*T)) (hj:j<T) (hd:d<4294967296):jJ R j d<2^(32*T):=by
 have e:(2:Nat)^(32*T)=2^(32*(T - (j+1)))*2^(32*(j+1)):=by rw [← Nat.pow_add];congr 1;omega
 rw [e] at hR ⊢
 rw [← Nat.div_lt_iff_lt_mul (Nat.two_pow_pos _)] at hR ⊢
 rw [pJ R j d hd];exact hR
theorem LT {R S j i:Nat} (h:R / 2^(32*(j+1))=S / 2^(32*(j+1))) (hi:j<i):dgt R i=dgt S i:=by
 unfold dgt
 have e:(2:Nat)^(32*i)=2^(32*(j+1))*2^(32*(i - (j+1))):=by rw [← Nat.pow_add];congr 1;omega
 rw [e,← Nat.div_div_eq_div_mul,← Nat.div_div_eq_div_mul,h]
theorem Hy (R j d i:Nat) (hd:d<4294967296):dgt (jJ R j d) i=if i=j then d else dgt R i:=by
 have hp:=Nat.two_pow_pos (32*j)
 by_cases h:i=j
 ·subst h
  rw [if_pos rfl]
  have h1:=div_step (jJ R i d) i
  rw [pJ R i d hd] at h1
  have h2:jJ R i d / 2^(32*i)=R / 2^(32*(i+1))*4294967296+d:=by
   unfold jJ
   generalize R / 2^(32*(i+1))=q
   have e:q*2^(32*(i+1))+d*2^(32*i)=(q*4294967296+d)*2^(32*i):=by rw [gi,Nat.add_mul,Nat.mul_assoc,Nat.mul_comm 4294967296]
   rw [e,Nat.add_comm,Nat.add_mul_div_right _ _ hp,Nat.div_eq_of_lt (Nat.mod_lt _ hp),Nat.zero_add]
  omega
 ·rw [if_neg h]
  rcases Nat.lt_or_gt_of_ne h with h1 | h1
  ·have e1:=Cv (jJ R j d) j i
   have e2:=Cv R j i
   rw [if_pos h1] at e1 e2
   rw [← e1,← e2]
   congr 1
   unfold jJ
   rw [gi,Nat.mul_comm (2^(32*j)) 4294967296,← Nat.mul_assoc,← Nat.add_mul,Nat.mul_add_mod',Nat.mod_mod]
  ·exact LT (pJ R j d hd) h1
theorem Own.put {w:World} {b n R j d:Nat} {x:Int} (h:Own w b n R) (hx:x=(d:Int)) (hd:d<4294967296):Own (w.setCell ⟨b,j,none⟩ (.int .u64 x)) b n (jJ R j d):=by
 refine (h.set j (.int .u64 x)).congr fun i _=>?_
 rw [Hy R j d i hd]
 by_cases c:i=j
 ·rw [if_pos c,if_pos c,hx]
 ·rw [if_neg c,if_neg c]

theorem Ej {M B R i k a b c o s:Nat} (hR:R+c*2^(32*(i+k))=M+a*(B % 2^(32*k))*2^(32*i)) (hb:b=dgt B k) (ho:o=dgt R (i+k)) (hs:s=o+a*b+c) :
  jJ R (i+k) (s % 4294967296)+s / 4294967296*2^(32*(i+(k+1)))=M+a*(B % 2^(32*(k+1)))*2^(32*i):=by
 have h1:=pI R (i+k) (s % 4294967296)
 rw [← ho] at h1
 rw [show i+(k+1)=i+k+1 by omega,gi,eP,← hb,Nat.mul_add a,Nat.add_mul (a*_)]
 have e1:a*(b*2^(32*k))*2^(32*i)=a*b*2^(32*(i+k)):=by
  rw [← Nat.mul_assoc,Nat.mul_assoc,← Nat.pow_add];congr 2;omega
 rw [e1]
 generalize 2^(32*(i+k))=W at *
 have e2:s / 4294967296*(W*4294967296)+s % 4294967296*W=s*W:=by
  rw [Nat.mul_comm W,← Nat.mul_assoc,← Nat.add_mul,Nat.div_add_mod']
 have e3:s*W=o*W+a*b*W+c*W:=by rw [hs,Nat.add_mul,Nat.add_mul]
 generalize s / 4294967296*(W*4294967296)=t1 at *
 generalize s % 4294967296*W=t2 at *
 generalize s*W=t3 at *
 generalize o*W=t4 at *
 generalize a*b*W=t5 at *
 generalize c*W=t6 at *
 generalize a*(B % 2^(32*k))*2^(32*i)=t7 at *
 omega
theorem Ek {o a b c:Nat} (ho:o<4294967296) (ha:a<4294967296) (hb:b<4294967296) (hc:c<4294967296):a*b≤18446744065119617025∧o+a*b+c<18446744073709551616:=by
 have:a*b≤4294967295*4294967295:=Nat.mul_le_mul (by omega) (by omega)
 omega
theorem Cx {A B R i n a c:Nat} (hR:R+c*2^(32*(i+n))=(A % 2^(32*i))*B+a*(B % 2^(32*n))*2^(32*i)) (hB:B<2^(32*n)) (ha:a=dgt A i) (hlt:R<2^(32*(i+n))) :
  jJ R (i+n) c=(A % 2^(32*(i+1)))*B:=by
 have h1:=pI R (i+n) c
 rw [ml hlt,Nat.zero_mul] at h1
 rw [Nat.mod_eq_of_lt hB] at hR
 rw [eP,Nat.add_mul,← ha]
 have:a*B*2^(32*i)=a*2^(32*i)*B:=by rw [Nat.mul_assoc,Nat.mul_comm B,Nat.mul_assoc]
 omega
theorem Cy {A B m n:Nat} (hA:A<2^(32*m)) (hB:B<2^(32*n)):A*B<2^(32*(m+n)):=by
 rw [Nat.mul_add,Nat.pow_add]
 exact Nat.mul_lt_mul'' hA hB

set_option maxRecDepth 10000 in
set_option maxHeartbeats 1600000 in
theorem sb (g f c d m n A B:Nat) (w:World) (hrA:Hid (RowIs w g m A)) (hrB:Hid (RowIs w f n B)) (hg:g<w.heap.size) (hf:f<w.heap.size) (hm:m≤1000000) (hn:n≤1000000) (hA:Hid (A<2^(32*m))) (hB:Hid (B<2^(32*n))) :
  Calls Tryz.prog 131 #[.slice (some ⟨g,0,none⟩) m c,.slice (some ⟨f,0,none⟩) n d] w fun e w'=>∃ v,e=.returned v∧DN w' v (A*B)∧From w.heap.size v∧Below w.heap.size w w':=by
 have hmk:=fun w=>run_make_row' (P:=Tryz.prog) 39 49 (.int .u64 0) 8 Tryz.underlying39 dP rfl .i64 .i64 (m+n+1) (by omega) (by omega) w
 have ec:((m+n+1:Nat):Int)=(m:Int)+(n:Int)+1:=by omega
 rw [ec] at hmk
 clear ec
 have HO:=ae (pB w (m+n+1))
 go_enter Tryz.func131,Tryz.ntmps131
 go_wp2_with fail
 go_loopg [6] m (fun gm i wr=>∃ k:Nat,k≤m∧gm=m - k∧i=.int .i64 k∧Hid (Own wr w.heap.size (m+n+1) ((A % 2^(32*k))*B))∧Hid (Below w.heap.size w wr))
 case atStart=>exact⟨0,Nat.zero_le _,by omega,rfl,by rw [Nat.mul_zero,Nat.pow_zero,Nat.mod_one,Nat.zero_mul];exact HO,(Below.refl _ _).alloc (Nat.le_refl _) _⟩
 case round=>
  clear HO hmk
  obtain⟨i,hi,rfl,rfl,HOwn,HBl⟩:=hrel
  by_cases hlt:i<m
  ·have hca:=(HBl.out.cell (p:=⟨g,i,none⟩) hg).trans (hrA.out i hlt)
   have HCA:=ae (hrA.out i hlt)
   have ba:=bn A i
   have HM:Hid ((A % 2^(32*i))*B<2^(32*(i+n))):=Cy (Nat.mod_lt _ (Nat.two_pow_pos _)) hB.out
   have HE:=ae fun R a c (ha:a=dgt A i)=>Cx (A:=A) (B:=B) (R:=R) (i:=i) (n:=n) (a:=a) (c:=c)
   generalize ha:dgt A i=a at hca HCA ba
   have HAI:=ae ha.symm
   clear ha
   go_wp2_with fail
   go_loopg [7,8] n (fun gm s kk wr2=>∃ k x R:Nat,k≤n∧gm=n - k∧kk=.int .i64 k∧s=.int .u64 x∧x<4294967296∧Hid (R+x*2^(32*(i+k))=(A % 2^(32*i))*B+a*(B % 2^(32*k))*2^(32*i))∧Hid (R<2^(32*(i+n)))∧Hid (Own wr2 w.heap.size (m+n+1) R)∧Hid (Below w.heap.size w wr2))
   case atStart=>exact⟨0,0,_,Nat.zero_le _,by omega,rfl,rfl,by omega,by show _=_;rw [Nat.mul_zero 32,Nat.pow_zero,Nat.mod_one,Nat.zero_mul,Nat.mul_zero,Nat.zero_mul],HM,HOwn,HBl⟩
   case round=>
    clear HOwn HBl HM hca
    obtain⟨k,x,R,hk,rfl,rfl,rfl,hx,HS,HR,HOwn,HBl⟩:=hrel
    have hca:=(HBl.out.cell (p:=⟨g,i,none⟩) hg).trans HCA.out
    by_cases hlt2:k<n
    ·have hcb:=(HBl.out.cell (p:=⟨f,k,none⟩) hf).trans (hrB.out k hlt2)
     have bb:=bn B k
     have ho:=HOwn.out.cell (i:=i+k) (by omega)
     have bo:=bn R (i+k)
     have fo:=HOwn.out.frozen (i+k)
     have HRd:=ae fun b o s (hb:b=dgt B k) (hq:o=dgt R (i+k)) (hs:s=o+a*b+x)=>Ej HS.out hb hq hs
     generalize hb:dgt B k=b at hcb bb
     generalize hq:dgt R (i+k)=o at ho bo
     have HRd:=ae (HRd.out b o _ hb.symm hq.symm rfl)
     clear hb hq
     obtain⟨s1,s2⟩:=Ek bo ba bb hx
     have w1:IntKind.u64.wrap ((a:Int)*(b:Int))=((a*b:Nat):Int):=by rw [← Int.natCast_mul,IntKind.wrap_u64];omega
     generalize a*b=ab at w1 s1 s2 HRd
     have w2:IntKind.u64.wrap ((o:Int)+(ab:Int))=(o:Int)+(ab:Int):=by rw [IntKind.wrap_u64];omega
     have w3:IntKind.u64.wrap ((o:Int)+(ab:Int)+(x:Int))=((o+ab+x:Nat):Int):=by rw [IntKind.wrap_u64];omega
     generalize o+ab+x=s at w3 s2 HRd
     have w4:IntKind.i64.wrap ((i:Int)+(k:Int))=(i:Int)+(k:Int):=by rw [IntKind.wrap_i64];omega
     have tn:((i:Int)+(k:Int)).toNat=i+k:=by omega
     have nn:(0:Int)≤(i:Int)+(k:Int):=by omega
     have nm:(i:Int)+(k:Int)<((m+n+1:Nat):Int):=by omega
     go_wp2_with fail
     go_quiet (fail)
     go_wp2_with fail
     go_roundg (n - (k+1))
     case measure=>omega
     case rel=>
      exact⟨k+1,s / 4294967296,jJ R (i+k) (s % 4294967296),by omega,rfl,by go_num,by go_num,by omega,HRd.out,LS HR.out (by omega) (by omega),Own.put (w:=wr.drewN nq) HOwn.out (by omega) (by omega),(below_drewN HBl.out _).setCell (Nat.le_refl _) _⟩
    ·obtain rfl:k=n:=by omega
     have ho:=HOwn.out.cell (i:=i+k) (by omega)
     have fo:=HOwn.out.frozen (i+k)
     have hz:dgt R (i+k)=0:=ml HR.out
     rw [hz] at ho
     have HEnd:=ae (Cx HS.out hB.out HAI.out HR.out)
     clear hz
     go_wp2_with fail
     go_roundg (m - (i+1))
     case measure=>omega
     case rel=>
      refine⟨i+1,by omega,rfl,by go_num,?_,HBl.out.setCell (Nat.le_refl _) _⟩
      rw [← HEnd.out]
      exact Own.put HOwn.out (by omega) hx
  ·obtain rfl:i=m:=by omega
   have e:A % 2^(32*i)=A:=Nat.mod_eq_of_lt hA.out
   rw [e] at HOwn
   clear e
   have hM:Hid (A*B<2^(32*(i+n+1))):=Nat.lt_of_lt_of_le (Cy hA.out hB.out) (Nat.pow_le_pow_right (by decide) (by omega))
   have hlt2:=HOwn.out.lt
   have HD:=ae (nw HOwn.out.row hM.out (Nat.le_refl _) hlt2)
   go_wp2_with fail
   refine (dg _ _ _ _ _ HOwn.out.row hM.out (Nat.le_refl _) (by omega)).mono ?_
   rintro e w' ⟨rfl,rfl⟩
   go_wp2_with fail
   go_ret
   exact⟨_,rfl,HD.out,gI _ _ _ _ (Nat.le_refl _),HBl.out⟩

end Go.Proofs.YtkooknagalgfpaaGreat
namespace Go.Proofs.YtkooknagalgfpaaGreat
open Go.RowKit

theorem Hz (nx ny:Bool) (X Y:Nat):sg (nx !=ny) (X*Y)=sg nx X*sg ny Y:=by
 cases nx<;>cases ny<;>simp [sg,Int.natCast_mul,Int.neg_mul,Int.mul_neg]
theorem uO {w:World} {B:Nat} {nx ny:Bool} {vx vy:Value} {ex ey:Int} (h:Six w B nx vx ex ny vy ey) (i:Nat) (x:Value):Six (w.setCell ⟨B+1+1,i,none⟩ x) B nx vx ex ny vy ey:=by
 obtain⟨a,b,c,d,e,f⟩:=h
 have n0:B+1+1≠B:=by omega
 have n1:B+1+1≠B+1:=by omega
 exact⟨(World.cell?_setCell_far w ⟨B+1+1,i,none⟩ ⟨B,0,none⟩ x n0).trans a,(World.cell?_setCell_far w ⟨B+1+1,i,none⟩ ⟨B,1,none⟩ x n0).trans b,(World.cell?_setCell_far w ⟨B+1+1,i,none⟩ ⟨B,2,none⟩ x n0).trans c,(World.cell?_setCell_far w ⟨B+1+1,i,none⟩ ⟨B+1,0,none⟩ x n1).trans d,(World.cell?_setCell_far w ⟨B+1+1,i,none⟩ ⟨B+1,1,none⟩ x n1).trans e,(World.cell?_setCell_far w ⟨B+1+1,i,none⟩ ⟨B+1,2,none⟩ x n1).trans f⟩

set_option maxHeartbeats 1600000 in
theorem AC (nx ny:Bool) (vx vy:Value) (ex ey:Int) (X Y:Nat) (w:World) (hX:DN w vx X) (hY:DN w vy Y) (h0:X=0∨Y=0) :
  Calls Tryz.prog 80 #[.agg #[.bool nx,vx,.int .i64 ex],.agg #[.bool ny,vy,.int .i64 ey]] w (fB w (ex+ey) 0):=by
 have HB0:=ae (dD w nx vx ex ny vy ey)
 have HZ:=ae (jp w nx vx ex ny vy ey)
 have H60:=ae (kY w nx vx ex ny vy ey)
 have HX0:=ae (hX.below HB0.out)
 have HY0:=ae (hY.below HB0.out)
 have HC:=ae h0
 clear hX hY h0
 by_cases h0:X=0
 ·subst h0
  clear HC
  go_enter Tryz.func80,Tryz.ntmps80
  go_wp2_with fail
  refine (aY _ _ _ 0 true _ HX0.out rfl).mono ?_
  rintro x w1 ⟨rfl,hb1⟩
  have HB1:Hid (Below (w.heap.size+3) (pbox w nx vx ex ny vy ey) w1):=hb1.mono (by rw [HZ.out];omega)
  obtain⟨⟨r0,r1,r2⟩,f0,f1,f2⟩:=cD HB1.out
  clear hb1
  go_wp2_with fail
  exact bodyPost_ret (v:=.agg #[.bool false,.slice none 0 0,.int .i64 0]) (by simp [results,Tryz.results80,go_sem,r0,r1,r2]) rfl (ms HB1.out rfl)
 ·have hy:Y=0:=by
   rcases HC.out with h | h
   ·exact absurd h h0
   ·exact h
  subst hy
  have HX:=ae h0
  clear HC h0
  go_enter Tryz.func80,Tryz.ntmps80
  go_wp2_with fail
  refine (aY _ _ _ X false _ HX0.out (decide_eq_false HX.out)).mono ?_
  rintro x w1 ⟨rfl,hb1⟩
  have HB1:Hid (Below (w.heap.size+3) (pbox w nx vx ex ny vy ey) w1):=hb1.mono (by rw [HZ.out];omega)
  have hz1:w.heap.size+3≤w1.heap.size:=by have h9:=hb1.size;rw [HZ.out] at h9;exact h9
  have HY1:=ae (HY0.out.below hb1)
  obtain⟨c0,c1,c2,c3,c4,c5⟩:=H60.out.below hb1 (by rw [HZ.out];omega)
  clear hb1
  go_wp2_with fail
  refine (aY _ _ _ 0 true _ HY1.out rfl).mono ?_
  rintro x w2 ⟨rfl,hb2⟩
  have HB2:=ae (HB1.out.trans (hb2.mono hz1))
  obtain⟨⟨r0,r1,r2⟩,f0,f1,f2⟩:=cD HB2.out
  clear hb2 c0 c1 c2 c3 c4 c5
  go_wp2_with fail
  exact bodyPost_ret (v:=.agg #[.bool false,.slice none 0 0,.int .i64 0]) (by simp [results,Tryz.results80,go_sem,r0,r1,r2]) rfl (ms HB2.out rfl)

set_option maxHeartbeats 1600000 in
theorem AD (nx ny:Bool) (g f c d:Nat) (ex ey:Int) (m n X Y:Nat) (w:World) (hX0:X≠0) (hY0:Y≠0)
  (hX:DN w (.slice (some ⟨g,0,none⟩) m c) X) (hY:DN w (.slice (some ⟨f,0,none⟩) n d) Y) (hrX:Hid (RowIs w g m X)) (hrY:Hid (RowIs w f n Y)) (hg:g<w.heap.size) (hf:f<w.heap.size) (hm:m≤1000000) (hn:n≤1000000) (hX1:Hid (X<2^(32*m))) (hY1:Hid (Y<2^(32*n)))
  (he: -10000000≤ex) (he':ex≤10000000) (hf1: -10000000≤ey) (hf':ey≤10000000) :
  Calls Tryz.prog 80 #[.agg #[.bool nx,.slice (some ⟨g,0,none⟩) m c,.int .i64 ex],.agg #[.bool ny,.slice (some ⟨f,0,none⟩) n d,.int .i64 ey]] w (fB w (ex+ey) (sg nx X*sg ny Y)):=by
 have HMul:=ae fun w' (hb':Below w.heap.size w w')=>sb g f c d m n X Y w' (hrX.out.below hg hb') (hrY.out.below hf hb') (Nat.lt_of_lt_of_le hg hb'.size) (Nat.lt_of_lt_of_le hf hb'.size) hm hn hX1 hY1
 clear hrX hrY hX1 hY1 hg hf
 generalize hvx:Value.slice (some ⟨g,0,none⟩) m c=vx at *
 generalize hvy:Value.slice (some ⟨f,0,none⟩) n d=vy at *
 clear hvx hvy
 have HB0:=ae (dD w nx vx ex ny vy ey)
 have HZ:=ae (jp w nx vx ex ny vy ey)
 have H60:=ae (kY w nx vx ex ny vy ey)
 have HX0:=ae (hX.below HB0.out)
 have HY0:=ae (hY.below HB0.out)
 have HXn:=ae hX0
 have HYn:=ae hY0
 have w1:IntKind.i64.wrap (ex+ey)=ex+ey:=by rw [IntKind.wrap_i64];omega
 clear hX hY hX0 hY0
 go_enter Tryz.func80,Tryz.ntmps80
 go_wp2_with fail
 refine (aY _ _ _ X false _ HX0.out (decide_eq_false HXn.out)).mono ?_
 rintro x w1 ⟨rfl,hb1⟩
 have HB1:Hid (Below (w.heap.size+3) (pbox w nx vx ex ny vy ey) w1):=hb1.mono (by rw [HZ.out];omega)
 have hz1:w.heap.size+3≤w1.heap.size:=by have h9:=hb1.size;rw [HZ.out] at h9;exact h9
 have HY1:=ae (HY0.out.below hb1)
 have H61:=ae (H60.out.below hb1 (by rw [HZ.out];omega))
 obtain⟨c0,c1,c2,c3,c4,c5⟩:=H61.out
 clear hb1
 go_wp2_with fail
 refine (aY _ _ _ Y false _ HY1.out (decide_eq_false HYn.out)).mono ?_
 rintro x w2 ⟨rfl,hb2⟩
 have HB2:=ae (HB1.out.trans (hb2.mono hz1))
 have hz2:w.heap.size+3≤w2.heap.size:=by have h9:=hb2.size;omega
 have H62:=ae (H61.out.below hb2 (by omega))
 have HW2:=ae (HB0.out.trans (HB2.out.mono (by omega)))
 clear hb2 c0 c1 c2 c3 c4 c5
 obtain⟨c0,c1,c2,c3,c4,c5⟩:=H62.out
 go_wp2_with fail
 go_region_held3 (fun w'=>w'.cell? ⟨w.heap.size,0,none⟩=some (.bool nx)∧w'.cell? ⟨w.heap.size,1,none⟩=some vx∧w'.cell? ⟨w.heap.size,2,none⟩=some (.int .i64 ex)∧w'.cell? ⟨w.heap.size+1,0,none⟩=some (.bool ny)∧w'.cell? ⟨w.heap.size+1,1,none⟩=some vy∧w'.cell? ⟨w.heap.size+1,2,none⟩=some (.int .i64 ey)) (first | exact H62.out | exact H64.out | exact uO (uO (uO H64.out 0 _) 1 _) 2 _ | go_keep) ((go_at_call 131;refine (HMul.out _ (HW2.out.drew)).mono ?_;rintro x w4 ⟨v4,rfl,hd4,hf4,hb4⟩;obtain⟨p4,q4,rfl⟩:=hd4.form;have HB4:=ae (HB2.out.drew.trans (hb4.mono hz2));have H64:=ae (Six.below (w:=w2.drew) H62.out hb4 (show w.heap.size+1<w2.heap.size by omega));obtain⟨⟨r0,r1,r2⟩,f0,f1,f2⟩:=cD HB4.out;have HD4:=ae hd4;have HF4:=ae (hf4.mono (show w.heap.size+3≤_ from hz2));clear hd4 hf4 hb4))
 all_goals
  go_wp2_with fail
  exact bodyPost_ret (v:=.agg #[.bool _,.slice p4 _ q4,.int .i64 (ex+ey)]) (by simp [results,Tryz.results80,go_sem,r0,r1,r2]) rfl (dE HB4.out HD4.out HF4.out (Hz nx ny X Y))

theorem El (nx ny:Bool) (vx vy:Value) (ex ey:Int) (X Y:Nat) (w:World) (hX:DN w vx X) (hY:DN w vy Y) (hm:nd X≤1000000) (hn:nd Y≤1000000)
  (he: -10000000≤ex) (he':ex≤10000000) (hf1: -10000000≤ey) (hf':ey≤10000000) :
  Calls Tryz.prog 80 #[.agg #[.bool nx,vx,.int .i64 ex],.agg #[.bool ny,vy,.int .i64 ey]] w (fB w (ex+ey) (sg nx X*sg ny Y)):=by
 by_cases h0:X=0∨Y=0
 ·have e:sg nx X*sg ny Y=0:=by
   rw [← Hz]
   rcases h0 with h | h
   ·rw [h,Nat.zero_mul];cases (nx !=ny)<;>rfl
   ·rw [h,Nat.mul_zero];cases (nx !=ny)<;>rfl
  rw [e]
  exact AC nx ny vx vy ex ey X Y w hX hY h0
 ·have hX':=hX
  have hY':=hY
  rcases hX with⟨h1,_⟩| ⟨h1,g,c,rfl,_,hg,hrX⟩
  ·exact absurd (Or.inl h1) h0
  ·rcases hY with⟨h2,_⟩| ⟨h2,f,d,rfl,_,hf,hrY⟩
   ·exact absurd (Or.inr h2) h0
   ·exact AD nx ny g f c d ex ey (nd X) (nd Y) X Y w h1 h2 hX' hY' hrX hrY hg hf hm hn (de X) (de Y) he he' hf1 hf'

end Go.Proofs.YtkooknagalgfpaaGreat
namespace Go.Proofs.YtkooknagalgfpaaGreat
open Go.RowKit

def aX (u:Int):Bool:=szI u==9218868437227405312

set_option maxHeartbeats 400000 in
theorem ar (u:Int) (w:World) (h:U64 u) :
  Calls Tryz.prog 77 #[.int .u64 u] w fun e w'=>e=.returned (.bool (aX u))∧w'=w:=by
 have hz:=fR h
 go_enter Tryz.func77,Tryz.ntmps77
 go_wp2
 go_ret
 exact⟨rfl,rfl⟩

set_option maxHeartbeats 400000 in
theorem LU (u:Int) (w:World) (h:U64 u) (h0:szI u=0) :
  Calls Tryz.prog 81 #[.int .u64 u] w fun x w'=>∃ v,x=.returned (dZ false v 0)∧DN w' v 0∧Below w.heap.size w w':=by
 have hm:bits .and .u64 u 4503599627370495=0:=by rw [pF h,h0];rfl
 have hE:bits .and .u64 (u / 4503599627370496) 2047=0:=by
  have:=h.1;have:=h.2
  rw [pG (by omega) (by omega)];unfold szI at h0;omega
 unfold dZ
 clear h h0
 go_enter Tryz.func81,Tryz.ntmps81
 go_wp2_with fail
 refine bodyPost_ret (v:=.agg #[.bool false,.slice none 0 0,.int .i64 0]) (by simp [results,Tryz.results81,go_sem]) rfl ⟨_,rfl,Or.inl ⟨rfl,_,_,rfl⟩,?_⟩
 exact (Below.refl w.heap.size w).alloc (Nat.le_refl _) _

structure OfR (x:Nat) (neg:Bool) (N:Nat) (e:Int):Prop where
 lt:N<9007199254740992
 lo: -1074≤e
 hi:e≤971
 val:N*2^(e+1074).toNat=aV x
 sgn:N≠0→neg=sB x
 mag:N≠0→N=mg (x % 9223372036854775808)∧e= -1074+(pl (x % 9223372036854775808):Int)
theorem gK {x:Nat} (h:x<18446744073709551616):sgB (x:Int)=sB x:=by
 unfold sgB sB
 rcases (show x / 9223372036854775808=0∨x / 9223372036854775808=1 by omega) with e | e
 ·rw [e];show _=false;rw [decide_eq_false_iff_not];omega
 ·rw [e];show _=true;rw [decide_eq_true_eq];omega
theorem oh (x:Nat):szI (x:Int)=((x % 9223372036854775808:Nat):Int):=by unfold szI;omega

theorem gL (x:Nat) (u:Int) (w:World) (hu:Hid (u=(x:Int))) (h:U64 u) (hx:ah x) :
  Calls Tryz.prog 81 #[.int .u64 u] w fun r w'=>∃ neg v N e,r=.returned (.agg #[.bool neg,v,.int .i64 e])∧DN w' v N∧OfR x neg N e∧Below w.heap.size w w':=by
 have hx64:x<18446744073709551616:=by have:=h.2;rw [hu.out] at this;omega
 have hs:szI u=((x % 9223372036854775808:Nat):Int):=by rw [hu.out];exact oh x
 unfold ah at hx
 by_cases h0:szI u=0
 ·refine (LU u w h h0).mono ?_
  rintro r w' ⟨v,rfl,hd,hb⟩
  refine⟨false,v,0,0,rfl,hd,⟨by decide,by decide,by decide,?_,fun h=>absurd rfl h,fun h=>absurd rfl h⟩,hb⟩
  unfold aV
  rw [show x % 9223372036854775808=0 by omega,bC,Nat.zero_mul]
 ·refine (OR u w h (by omega) (by omega)).mono ?_
  rintro r w' ⟨v,rfl,hd,hb⟩
  have hn:(iu (szI u)).toNat=mg (x % 9223372036854775808):=by
   rw [hs];generalize x % 9223372036854775808=r at *
   unfold iu mg
   by_cases c:r<4503599627370496
   ·rw [if_pos c,if_pos (by omega)];omega
   ·rw [if_neg c,if_neg (by omega)];omega
  have he:mq (szI u)= -1074+(pl (x % 9223372036854775808):Int):=by
   rw [hs];generalize x % 9223372036854775808=r at *
   unfold mq pl
   by_cases c:r<4503599627370496
   ·rw [if_pos (by omega)];omega
   ·rw [if_neg (by omega)];omega
  have hp:pl (x % 9223372036854775808)≤2045:=by unfold pl;omega
  rw [hn] at hd
  refine⟨sgB u,v,_,mq (szI u),rfl,hd,⟨nf _,by omega,by omega,?_,fun _=>?_,fun _=>⟨rfl,he⟩⟩,hb⟩
  ·rw [he]
   unfold aV V
   congr 2
   omega
  ·rw [hu.out];exact gK hx64
theorem fK {N:Nat} (h:N<9007199254740992):nd N≤2:=dL (k:=2) (by omega)
end Go.Proofs.YtkooknagalgfpaaGreat
namespace Go.Proofs.YtkooknagalgfpaaGreat
open Go.RowKit

theorem LV (A i j r:Nat) (hj:i=32*j+r) (hr:r<32):dgt A j / 2^r % 2=A / 2^i % 2:=by
 unfold dgt
 have e:A / 2^i=A / 2^(32*j) / 2^r:=by rw [Nat.div_div_eq_div_mul,← Nat.pow_add,← hj]
 rw [e]
 generalize A / 2^(32*j)=M
 have e2:(4294967296:Nat)=2^r*2^(32 - r):=by rw [← Nat.pow_add,show r+(32 - r)=32 by omega]
 rw [e2,Nat.mod_mul_right_div_self]
 refine Nat.mod_mod_of_dvd _ ?_
 rw [show 32 - r=(31 - r)+1 by omega,Nat.pow_succ]
 exact Nat.dvd_mul_left 2 _
theorem LW {A B i R b:Nat} (hB:0<B) (hR:R=A / 2^(i+1) % B) (hb:b=A / 2^i % 2) :
  (B≤R*2+b→A / 2^i % B=R*2+b - B∧A / 2^i / B*2^i=A / 2^(i+1) / B*2^(i+1)+2^i)∧
  (R*2+b<B→A / 2^i % B=R*2+b∧A / 2^i / B*2^i=A / 2^(i+1) / B*2^(i+1)):=by
 have e:A / 2^(i+1)=A / 2^i / 2:=by rw [Nat.div_div_eq_div_mul,← Nat.pow_succ]
 rw [e] at hR ⊢
 generalize A / 2^i=M at *
 have h1:=Nat.div_add_mod (M / 2) B
 have h2:M / 2 % B<B:=Nat.mod_lt _ hB
 rw [← hR] at h1 h2
 generalize M / 2 / B=q at *
 have e3:q*2^(i+1)=2*q*2^i:=by rw [Nat.pow_succ,← Nat.mul_assoc,Nat.mul_comm,← Nat.mul_assoc]
 rw [e3]
 refine⟨fun c=>?_,fun c=>?_⟩
 ·have hM:M=(R*2+b - B)+B*(2*q+1):=by
   have:B*(2*q+1)=2*(B*q)+B:=by rw [Nat.mul_add,Nat.mul_one,Nat.mul_left_comm]
   omega
  have m1:M % B=R*2+b - B:=by rw [hM,Nat.add_mul_mod_self_left,Nat.mod_eq_of_lt (by omega)]
  have m2:M / B=2*q+1:=by rw [hM,Nat.add_mul_div_left _ _ hB,Nat.div_eq_of_lt (by omega),Nat.zero_add]
  rw [m1,m2,Nat.add_mul,Nat.one_mul]
  exact⟨rfl,rfl⟩
 ·have hM:M=(R*2+b)+B*(2*q):=by
   have:B*(2*q)=2*(B*q):=by rw [Nat.mul_left_comm]
   omega
  have m1:M % B=R*2+b:=by rw [hM,Nat.add_mul_mod_self_left,Nat.mod_eq_of_lt (by omega)]
  have m2:M / B=2*q:=by rw [hM,Nat.add_mul_div_left _ _ hB,Nat.div_eq_of_lt (by omega),Nat.zero_add]
  rw [m1,m2]
  exact⟨rfl,rfl⟩
theorem LX {Q i j r:Nat} (hj:i=32*j+r) (hr:r<32) :
  dgt (Q*2^(i+1)) j+2^r<4294967296∧jJ (Q*2^(i+1)) j (dgt (Q*2^(i+1)) j+2^r)=Q*2^(i+1)+2^i:=by
 constructor
 ·unfold dgt
  have e:Q*2^(i+1)=Q*2^(r+1)*2^(32*j):=by rw [Nat.mul_assoc,← Nat.pow_add];congr 2;omega
  have e2:(4294967296:Nat)=2^(31 - r)*2^(r+1):=by rw [← Nat.pow_add,show 31 - r+(r+1)=32 by omega]
  rw [e,Nat.mul_div_cancel _ (Nat.two_pow_pos _)]
  have h1:Q*2^(r+1) % 4294967296=(Q % 2^(31 - r))*2^(r+1):=by rw [e2,Nat.mul_mod_mul_right]
  have h2:Q % 2^(31 - r)<2^(31 - r):=Nat.mod_lt _ (Nat.two_pow_pos _)
  have h3:(Q % 2^(31 - r)+1)*2^(r+1)≤2^(31 - r)*2^(r+1):=Nat.mul_le_mul_right _ h2
  rw [← e2,Nat.add_mul,Nat.one_mul,Nat.pow_succ] at h3
  rw [h1,Nat.pow_succ]
  have h4:=Nat.two_pow_pos r
  omega
 ·have h:=pI (Q*2^(i+1)) j (dgt (Q*2^(i+1)) j+2^r)
  rw [Nat.add_mul,← Nat.pow_add,show r+32*j=i by omega] at h
  omega
theorem bN {A B:Nat} {v:Value} (h:From B v) (hle:A≤B):From A v:=fun a l c e=>Nat.le_trans hle (h a l c e)
theorem eS {w:World} {v:Value} {N:Nat} (h:DN w v N):∃ p l c,v=.slice p l c:=by obtain⟨p,c,e⟩:=h.form;exact⟨p,_,c,e⟩
theorem gM {w w':World} {b n M s:Nat} (h:Own w b n M) (hb:b<s) (hB:Below s w w'):Own w' b n M:=by
 obtain⟨c,h1,h2,h3⟩:=h
 exact⟨c,by rw [hB.block b hb];exact h1,h2,h3⟩
theorem OU (N:Nat):bl N≤32*nd N:=by
 unfold bl nd
 by_cases h:N=0
 ·rw [if_pos h];omega
 ·rw [if_neg h,if_neg h];omega
theorem OV (w:World):DN (w.alloc (.cells #[.int .u64 1] 49)) (.slice (some ⟨w.heap.size,0,none⟩) 1 1) 1:=by
 refine Or.inr ⟨by decide,w.heap.size,1,by rw [show nd 1=1 by decide],by decide,by simp,fun i hi=>?_⟩
 rw [show nd 1=1 by decide] at hi
 rw [show i=0 by omega]
 simp
 decide

set_option maxRecDepth 10000 in
set_option maxHeartbeats 1600000 in
theorem sc (g c n L A B:Nat) (vb:Value) (w:World) (hrow:Hid (RowIs w g n A)) (hg:g<w.heap.size) (hA0:A≠0) (hn0:Hid (nd A=n)) (hnc:n≤c) (hL:Hid (bl A=L)) (hLn:L≤32*n) (hB:DN w vb B) (hB0:0<B) (hn:n≤10000) (hbd:nd B≤10000) :
  Calls Tryz.prog 127 #[.slice (some ⟨g,0,none⟩) n c,vb] w fun e w'=>∃ q r,e=.returned (.tuple #[q,r])∧DN w' q (A / B)∧DN w' r (A % B)∧From w.heap.size q∧From w.heap.size r∧Below w.heap.size w w':=by
 have hmk:=fun w=>run_make_row' (P:=Tryz.prog) 39 49 (.int .u64 0) 8 Tryz.underlying39 dP rfl .i64 .i64 n (by omega) (by omega) w
 have HO:=ae (pB w n)
 have HW0:Hid (Below w.heap.size w (w.alloc (.cells (madeCells #[.int .u64 0] n) 49))):=(Below.refl _ _).alloc (Nat.le_refl _) _
 have HDA:Hid (DN w (.slice (some ⟨g,0,none⟩) n c) A):=Or.inr ⟨hA0,g,c,by rw [hn0.out],by rw [hn0.out];exact hnc,hg,by rw [hn0.out];exact hrow.out⟩
 have HLen:Hid (∀ w',Below w.heap.size w w'→Calls Tryz.prog 126 #[.slice (some ⟨g,0,none⟩) n c] w' fun e w''=>e=.returned (.int .i64 (L:Int))∧w'=w''):=fun w' hb=>by
  have:=oc _ A w' (HDA.out.below hb) (by rw [hn0.out];omega)
  rw [hL.out] at this
  exact this.mono fun _ _ ⟨a,b⟩=>⟨a,b.symm⟩
 have HB:=ae hB
 have HAlt:Hid (A<2^L):=by
  show A<2^L
  rw [← hL.out];unfold bl;rw [if_neg hA0];exact Nat.lt_log2_self
 clear hB
 go_enter Tryz.func127,Tryz.ntmps127
 go_wp2_with fail
 refine (HLen.out _ HW0.out).mono ?_
 rintro e w' ⟨rfl,rfl⟩
 go_wp2_with fail
 go_loopw [6,8] (fun v i wr=>∃ k:Nat,k≤L∧i=.int .i64 ((k:Int) - 1)∧Hid (DN wr v (A / 2^k % B))∧Hid (From (w.heap.size+1) v)∧Hid (Own wr w.heap.size n (A / 2^k / B*2^k))∧Hid (Below w.heap.size w wr)) (fun _ i _=>(intOf i+1).toNat)
 case atStart=>
  have e:A / 2^L=0:=Nat.div_eq_of_lt HAlt.out
  exact⟨L,Nat.le_refl _,rfl,by rw [e,Nat.zero_mod];exact Or.inl ⟨rfl,_,_,rfl⟩,pA _,by rw [e,Nat.zero_div,Nat.zero_mul];exact HO,HW0⟩
 case round=>
  clear HO hmk HW0
  obtain⟨k,hk,rfl,HD,HFr,HOwn,HBl⟩:=hrel
  cases k with
  | zero=>
   rw [Nat.pow_zero,Nat.div_one] at HD HOwn
   rw [Nat.mul_one] at HOwn
   have hM:Hid (A / B<2^(32*n)):=Nat.lt_of_le_of_lt (Nat.div_le_self _ _) (by rw [← hn0.out];exact de A)
   have hlt2:=HOwn.out.lt
   have HQ:=ae (nw HOwn.out.row hM.out (Nat.le_refl _) hlt2)
   go_wp2_with fail
   refine (dg _ _ _ _ _ HOwn.out.row hM.out (Nat.le_refl _) (by omega)).mono ?_
   rintro e w' ⟨rfl,rfl⟩
   go_wp2_with fail
   go_ret2
   exact⟨_,_,rfl,HQ.out,HD.out,gI _ _ _ _ (Nat.le_refl _),bN HFr.out (by omega),HBl.out⟩
  | succ i=>
   have hz:w.heap.size<wr.heap.size:=HOwn.out.lt
   obtain⟨R,hR⟩:∃ R,R=A / 2^(i+1) % B:=⟨_,rfl⟩
   rw [← hR] at HD
   obtain⟨pv,cv,rfl⟩:=HD.out.form
   have hRB:R<B:=by rw [hR];exact Nat.mod_lt _ hB0
   have HRd:Hid (nd R≤10000000):=by
    have h1:R<2^(32*nd B):=Nat.lt_trans hRB (de B)
    have:=dL h1
    show nd R≤10000000
    omega
   obtain⟨b,hb⟩:∃ b,b=A / 2^i % 2:=⟨_,rfl⟩
   have HBit:=ae (LW hB0 hR hb)
   obtain⟨S,hS⟩:∃ S,R*2+b=S:=⟨_,rfl⟩
   rw [hS] at HBit
   have hSB:S<2*B:=by
    have:b<2:=by rw [hb];exact Nat.mod_lt _ (by decide)
    omega
   have HSd:Hid (nd S≤10000000):=by
    have h1:S<2^(32*(nd B+1)):=by
     have:=de B
     rw [gi];omega
    have:=dL h1
    show nd S≤10000000
    omega
   obtain⟨j,r,hij,hr⟩:∃ j r,i=32*j+r∧r<32:=⟨i / 32,i % 32,by omega,by omega⟩
   have hjn:j<n:=by omega
   have hq:(i:Int) / 32=j:=by omega
   have hrr:(i:Int) % 32=r:=by omega
   have HIJ:=ae hij
   have hrow2:=hrow.out j hjn
   have hca:wr.cell? ⟨g,j,none⟩=some (.int .u64 (dgt A j:Int)):=(HBl.out.cell (p:=⟨g,j,none⟩) hg).trans (hrow.out j hjn)
   have hbit:((dgt A j:Int) / 2^r).tmod 2=b:=by
    have:=LV A i j r hij hr
    rw [← hb] at this
    rw [← this]
    have e1:((2:Int)^r)=((2^r:Nat):Int):=by rw [Int.natCast_pow];rfl
    rw [e1,← Int.natCast_ediv,Int.tmod_eq_emod_of_nonneg (Int.natCast_nonneg _)];rfl
   have HPut:=ae (LX (Q:=A / 2^(i+1) / B) hij hr)
   have hdl:=bn A j
   generalize dgt A j=D at hca hbit hdl
   have HSh:Hid (Calls Tryz.prog 128 #[.slice pv (nd R) cv,.int .i64 1] wr fun e w'=>∃ v,e=.returned v∧DN w' v (R*2)∧From wr.heap.size v∧Below wr.heap.size wr w'):=iK _ R 1 wr HD.out HRd.out (by omega)
   have hS2:b=0∧R*2=S∨b=1∧R*2+1=S:=by
    have:b<2:=by rw [hb];exact Nat.mod_lt _ (by decide)
    omega
   clear hR hb HD HFr hS hij hrow2
   generalize nd R=lR at *
   have hi1:((i+1:Nat):Int) - 1=i:=by omega
   rw [hi1]
   go_wp2_with fail
   refine HSh.out.mono ?_
   rintro e w1 ⟨v1,rfl,hd1,hf1,hb1⟩
   obtain⟨p1,l1,c1,rfl⟩:=eS hd1
   have hca1:w1.cell? ⟨g,j,none⟩=some (.int .u64 (D:Int)):=(hb1.cell (p:=⟨g,j,none⟩) (Nat.lt_of_lt_of_le hg HBl.out.size)).trans hca
   have hz1:wr.heap.size≤w1.heap.size:=hb1.size
   have HB1:=ae hb1
   clear hb1 HSh hca
   rcases hS2 with⟨rfl,hS⟩| ⟨rfl,hS⟩
   ·have hbt:(((D:Int) / 2^r).tmod 2==1)=false:=by rw [hbit];rfl
    clear hbit
    rw [hS] at hd1
    have HD1:=ae hd1
    have HF1:=ae hf1
    clear hd1 hf1 hS
    go_wp2_with fail
    have HX1:=HB1
    by_cases hc:B≤S
    ·obtain⟨t,ht,ht0⟩:∃ t:Int,mr S B=t∧0≤t:=by
      rcases Nat.lt_or_eq_of_le hc with h | h
      ·exact⟨1,kX h,by decide⟩
      ·exact⟨0,kW h.symm,by decide⟩
     have HBw:=ae (HBl.out.trans (HX1.out.mono HBl.out.size))
     have HCmp:Hid (Calls Tryz.prog 135 #[.slice p1 l1 c1,vb] w1 fun e w'=>e=.returned (.int .i64 t)∧∃ q,w'=w1.drewN q):=by
      rw [← ht];exact cC _ _ S B w1 HD1.out (HB.out.below HBw.out) HSd.out
     refine HCmp.out.mono ?_
     rintro e w3 ⟨rfl,q3,hq3⟩
     have HB3:Hid (Below w1.heap.size w1 w3):=by rw [hq3];exact below_drewN (Below.refl _ _) _
     have HB3w:=ae (HBw.out.trans (HB3.out.mono HBw.out.size))
     have HSub:=ae (dM _ _ S B w3 (HD1.out.below HB3.out) (HB.out.below HB3w.out) HSd.out hc)
     obtain⟨hm1,hm2⟩:=HBit.out.1 hc
     rw [← hm1] at HSub
     have HM2:=ae hm2
     clear ht hm1 hm2 hq3 HCmp
     go_wp2_with fail
     refine HSub.out.mono ?_
     rintro e w4 ⟨v4,rfl,hd4,hf4,hb4⟩
     obtain⟨p4,l4,c4,rfl⟩:=eS hd4
     have HBwr:=ae (HX1.out.trans (HB3.out.mono HX1.out.size))
     have HB4r:=ae (HBwr.out.trans (hb4.mono HBwr.out.size))
     have HB4w:=ae (HB3w.out.trans (hb4.mono HB3w.out.size))
     have HO4:=ae (gM HOwn.out hz HB4r.out)
     have ho:=HO4.out.cell (i:=j) hjn
     have fo:=HO4.out.frozen j
     obtain⟨hp1,hp2⟩:=HPut.out
     rw [← HM2.out] at hp2
     have HD4:=ae hd4
     have HF4:=ae (bN hf4 (show wr.heap.size≤_ from HBwr.out.size))
     obtain⟨o,hoo⟩:∃ o,dgt (A / 2^(i+1) / B*2^(i+1)) j=o:=⟨_,rfl⟩
     rw [hoo] at ho hp1 hp2
     obtain⟨P,hP⟩:∃ P,2^r=P:=⟨_,rfl⟩
     have wp:=pC hr
     rw [hP] at wp hp1 hp2
     have e1:((2:Int)^r)=(P:Int):=by rw [← hP,Int.natCast_pow];rfl
     have ws:IntKind.u64.wrap ((o:Int)+(P:Int))=((o+P:Nat):Int):=by rw [IntKind.wrap_u64];omega
     have td:(i:Int).tdiv 32=j:=by rw [Int.tdiv_eq_ediv_of_nonneg (by omega)];exact hq
     have tm:(i:Int).tmod 32=r:=by rw [Int.tmod_eq_emod_of_nonneg (by omega)];exact hrr
     have jn:(j:Int)<(n:Int):=by omega
     have HP2:=ae hp2
     clear hd4 hf4 hb4 hoo hP hp2 HPut HBit HOwn HB3 HBw HB3w HSub HD1 HF1 HBl HB1 HX1
     go_wp2_with fail
     go_region
     have HD5:=ae (HD4.out.set (bN HF4.out hz) (a:=⟨w.heap.size,j,none⟩) (Nat.lt_succ_self _) (.int .u64 ((o:Int)+(P:Int))))
     have HO5:=ae (Own.put (j:=j) (d:=o+P) (x:=(o:Int)+(P:Int)) HO4.out (by omega) hp1)
     rw [HP2.out] at HO5
     have HB5:=ae (HB4w.out.setCell (p:=⟨w.heap.size,j,none⟩) (Nat.le_refl _) (.int .u64 ((o:Int)+(P:Int)))).drew
     clear HO4 HD4 HB4w HB4r HBwr HP2
     go_wp2_with fail
     go_roundw
     case rel=>exact⟨i,by omega,rfl,HD5,bN HF4.out hz,HO5,HB5⟩
     case measure=>simp [intOf]
    ·obtain⟨hm1,hm2⟩:=HBit.out.2 (by omega)
     have HBw:=ae (HBl.out.trans (HX1.out.mono HBl.out.size))
     have HCmp:Hid (Calls Tryz.prog 135 #[.slice p1 l1 c1,vb] w1 fun e w'=>e=.returned (.int .i64 (-1))∧∃ q,w'=w1.drewN q):=by
      rw [← kU (show S<B by omega)];exact cC _ _ S B w1 HD1.out (HB.out.below HBw.out) HSd.out
     have HO:=ae HOwn.out
     rw [← hm2] at HO
     rw [← hm1] at HD1
     refine HCmp.out.mono ?_
     rintro e w3 ⟨rfl,q3,hq3⟩
     have HB3:Hid (Below w1.heap.size w1 w3):=by rw [hq3];exact below_drewN (Below.refl _ _) _
     have HB3w:=ae (HBw.out.trans (HB3.out.mono HBw.out.size))
     have HD3:=ae (HD1.out.below HB3.out)
     have HO3:=ae (gM HO.out hz ((HX1.out.trans (HB3.out.mono HX1.out.size))))
     clear hm1 hm2 hq3 HCmp HO HOwn HB3 HBw
     go_wp2_with fail
     go_roundw
     case rel=>exact⟨i,by omega,rfl,HD3,bN HF1.out (by omega),HO3,HB3w⟩
     case measure=>simp [intOf]
   ·have hbt:(((D:Int) / 2^r).tmod 2==1)=true:=by rw [hbit];rfl
    clear hbit
    have HAdd:Hid (Calls Tryz.prog 134 #[.slice p1 l1 c1,.slice (some ⟨w1.heap.size,0,none⟩) 1 1] (w1.alloc (.cells #[.int .u64 1] 49)) fun e w'=>∃ v,e=.returned v∧DN w' v S∧From w1.heap.size v∧Below w1.heap.size w1 w'):=by
     have hb:=(Below.refl w1.heap.size w1).alloc (Nat.le_refl _) (.cells #[.int .u64 1] 49)
     have h2:=HSd.out
     have h3:nd (R*2)≤10000000:=Nat.le_trans (dL (Nat.lt_of_le_of_lt (show R*2≤S by omega) (de S))) h2
     have:=jN _ _ (R*2) 1 _ (hd1.below hb) (OV w1) h3 (by decide)
     rw [hS] at this
     exact this.mono fun _ _ ⟨v,a,b,c,d⟩=>⟨v,a,b,bN c (by simp),hb.trans (d.mono (by simp))⟩
    clear hd1 hf1 hS
    go_wp2_with fail
    refine HAdd.out.mono ?_
    rintro e w2 ⟨v2,rfl,hd1,hf1,hb1⟩
    obtain⟨p2,l2,c2,rfl⟩:=eS hd1
    have HD1:=ae hd1
    have HF1:=ae (bN hf1 hz1)
    have HB2:=ae (HB1.out.trans (hb1.mono hz1))
    clear hd1 hf1 hb1 HAdd hca1
    go_wp2_with fail
    have HX1:=HB2
    by_cases hc:B≤S
    ·obtain⟨t,ht,ht0⟩:∃ t:Int,mr S B=t∧0≤t:=by
      rcases Nat.lt_or_eq_of_le hc with h | h
      ·exact⟨1,kX h,by decide⟩
      ·exact⟨0,kW h.symm,by decide⟩
     have HBw:=ae (HBl.out.trans (HX1.out.mono HBl.out.size))
     have HCmp:Hid (Calls Tryz.prog 135 #[.slice p2 l2 c2,vb] w2 fun e w'=>e=.returned (.int .i64 t)∧∃ q,w'=w2.drewN q):=by
      rw [← ht];exact cC _ _ S B w2 HD1.out (HB.out.below HBw.out) HSd.out
     refine HCmp.out.mono ?_
     rintro e w3 ⟨rfl,q3,hq3⟩
     have HB3:Hid (Below w2.heap.size w2 w3):=by rw [hq3];exact below_drewN (Below.refl _ _) _
     have HB3w:=ae (HBw.out.trans (HB3.out.mono HBw.out.size))
     have HSub:=ae (dM _ _ S B w3 (HD1.out.below HB3.out) (HB.out.below HB3w.out) HSd.out hc)
     obtain⟨hm1,hm2⟩:=HBit.out.1 hc
     rw [← hm1] at HSub
     have HM2:=ae hm2
     clear ht hm1 hm2 hq3 HCmp
     go_wp2_with fail
     refine HSub.out.mono ?_
     rintro e w4 ⟨v4,rfl,hd4,hf4,hb4⟩
     obtain⟨p4,l4,c4,rfl⟩:=eS hd4
     have HBwr:=ae (HX1.out.trans (HB3.out.mono HX1.out.size))
     have HB4r:=ae (HBwr.out.trans (hb4.mono HBwr.out.size))
     have HB4w:=ae (HB3w.out.trans (hb4.mono HB3w.out.size))
     have HO4:=ae (gM HOwn.out hz HB4r.out)
     have ho:=HO4.out.cell (i:=j) hjn
     have fo:=HO4.out.frozen j
     obtain⟨hp1,hp2⟩:=HPut.out
     rw [← HM2.out] at hp2
     have HD4:=ae hd4
     have HF4:=ae (bN hf4 (show wr.heap.size≤_ from HBwr.out.size))
     obtain⟨o,hoo⟩:∃ o,dgt (A / 2^(i+1) / B*2^(i+1)) j=o:=⟨_,rfl⟩
     rw [hoo] at ho hp1 hp2
     obtain⟨P,hP⟩:∃ P,2^r=P:=⟨_,rfl⟩
     have wp:=pC hr
     rw [hP] at wp hp1 hp2
     have e1:((2:Int)^r)=(P:Int):=by rw [← hP,Int.natCast_pow];rfl
     have ws:IntKind.u64.wrap ((o:Int)+(P:Int))=((o+P:Nat):Int):=by rw [IntKind.wrap_u64];omega
     have td:(i:Int).tdiv 32=j:=by rw [Int.tdiv_eq_ediv_of_nonneg (by omega)];exact hq
     have tm:(i:Int).tmod 32=r:=by rw [Int.tmod_eq_emod_of_nonneg (by omega)];exact hrr
     have jn:(j:Int)<(n:Int):=by omega
     have HP2:=ae hp2
     clear hd4 hf4 hb4 hoo hP hp2 HPut HBit HOwn HB3 HBw HB3w HSub HD1 HF1 HBl HB1 HX1
     go_wp2_with fail
     go_region
     have HD5:=ae (HD4.out.set (bN HF4.out hz) (a:=⟨w.heap.size,j,none⟩) (Nat.lt_succ_self _) (.int .u64 ((o:Int)+(P:Int))))
     have HO5:=ae (Own.put (j:=j) (d:=o+P) (x:=(o:Int)+(P:Int)) HO4.out (by omega) hp1)
     rw [HP2.out] at HO5
     have HB5:=ae (HB4w.out.setCell (p:=⟨w.heap.size,j,none⟩) (Nat.le_refl _) (.int .u64 ((o:Int)+(P:Int)))).drew
     clear HO4 HD4 HB4w HB4r HBwr HP2
     go_wp2_with fail
     go_roundw
     case rel=>exact⟨i,by omega,rfl,HD5,bN HF4.out hz,HO5,HB5⟩
     case measure=>simp [intOf]
    ·obtain⟨hm1,hm2⟩:=HBit.out.2 (by omega)
     have HBw:=ae (HBl.out.trans (HX1.out.mono HBl.out.size))
     have HCmp:Hid (Calls Tryz.prog 135 #[.slice p2 l2 c2,vb] w2 fun e w'=>e=.returned (.int .i64 (-1))∧∃ q,w'=w2.drewN q):=by
      rw [← kU (show S<B by omega)];exact cC _ _ S B w2 HD1.out (HB.out.below HBw.out) HSd.out
     have HO:=ae HOwn.out
     rw [← hm2] at HO
     rw [← hm1] at HD1
     refine HCmp.out.mono ?_
     rintro e w3 ⟨rfl,q3,hq3⟩
     have HB3:Hid (Below w2.heap.size w2 w3):=by rw [hq3];exact below_drewN (Below.refl _ _) _
     have HB3w:=ae (HBw.out.trans (HB3.out.mono HBw.out.size))
     have HD3:=ae (HD1.out.below HB3.out)
     have HO3:=ae (gM HO.out hz ((HX1.out.trans (HB3.out.mono HX1.out.size))))
     clear hm1 hm2 hq3 HCmp HO HOwn HB3 HBw
     go_wp2_with fail
     go_roundw
     case rel=>exact⟨i,by omega,rfl,HD3,bN HF1.out (by omega),HO3,HB3w⟩
     case measure=>simp [intOf]
theorem sd (v vb:Value) (A B:Nat) (w:World) (hA:DN w v A) (hB:DN w vb B) (hA0:A≠0) (hB0:0<B) (ha:nd A≤10000) (hb:nd B≤10000) :
  Calls Tryz.prog 127 #[v,vb] w fun e w'=>∃ q r,e=.returned (.tuple #[q,r])∧DN w' q (A / B)∧DN w' r (A % B)∧From w.heap.size q∧From w.heap.size r∧Below w.heap.size w w':=by
 rcases hA with⟨h0,_⟩| ⟨h0,g,c,rfl,hc,hg,hr⟩
 ·exact absurd h0 hA0
 ·exact sc g c (nd A) (bl A) A B vb w hr hg h0 rfl hc rfl (OU A) hB hB0 ha hb
end Go.Proofs.YtkooknagalgfpaaGreat
namespace Go.Proofs.YtkooknagalgfpaaGreat
open Go.RowKit

set_option maxRecDepth 10000 in
set_option maxHeartbeats 1600000 in
theorem xB (nx ny mo:Bool) (vx vy:Value) (ex ey res:Int) (X Y k lr:Nat) (w:World) (hX:DN w vx X) (hY:DN w vy Y) (hX0:X≠0) (hY0:Y≠0) (hXd:nd X≤300) (hYd:nd Y≤100)
  (he: -10000≤ex) (he':ex≤10000) (hf: -10000≤ey) (hf':ey≤10000) (hk:max 0 (70 - (bl X:Int)+(bl Y:Int))=(k:Int)) (hlr:Hid (nd (X*2^k % Y)=lr)) (hmo:decide (0<lr)=mo) (hres:Hid (bZ nx (X*2^k / Y) (ex - k - ey) mo=res)) :
  Calls Tryz.prog 74 #[.agg #[.bool nx,vx,.int .i64 ex],.agg #[.bool ny,vy,.int .i64 ey]] w fun x w'=>x=.returned (.int .u64 res)∧Below w.heap.size w w':=by
 have hbx:=sW X
 have hby:=sW Y
 have hk1:k≤10000:=by omega
 obtain⟨px,lx,cx,rfl⟩:=eS hX
 obtain⟨py,ly,cy,rfl⟩:=eS hY
 have HB0:Hid (Below w.heap.size w (boxN (boxN w nx (.slice px lx cx) ex) ny (.slice py ly cy) ey)):=(aJ w nx (.slice px lx cx) ex).trans ((aJ (boxN w nx (.slice px lx cx) ex) ny (.slice py ly cy) ey).mono (by simp))
 have HZ:=ae (gk w nx (.slice px lx cx) ex ny (.slice py ly cy) ey)
 have H60:=ae (uN w nx (.slice px lx cx) ex ny (.slice py ly cy) ey)
 have HX:=ae fun w' (hb:Below w.heap.size w w')=>hX.below hb
 have HY:=ae fun w' (hb:Below w.heap.size w w')=>hY.below hb
 have HXn:=ae hX0
 have HA0:Hid (X*2^k≠0):=by
  have:=Nat.mul_pos (show 0<X by omega) (Nat.two_pow_pos k)
  show X*2^k≠0
  omega
 have HAd:Hid (nd (X*2^k)≤10000):=by
  have h1:X*2^k<2^(32*nd X)*2^k:=Nat.mul_lt_mul_of_pos_right (de X) (Nat.two_pow_pos _)
  rw [← Nat.pow_add] at h1
  have:=dL (N:=X*2^k) (k:=nd X+k / 32+1) (Nat.lt_of_lt_of_le h1 (Nat.pow_le_pow_right (by decide) (by omega)))
  show nd (X*2^k)≤10000
  omega
 have HQd:Hid (nd (X*2^k / Y)≤1000000):=by
  have:=dL (Nat.lt_of_le_of_lt (Nat.div_le_self (X*2^k) Y) (de (X*2^k)))
  have h2:=HAd.out
  show nd (X*2^k / Y)≤1000000
  omega
 have HYp:Hid (0<Y):=by show 0<Y;omega
 have HXd:=ae hXd
 have HYd:=ae hYd
 obtain⟨Bx,hBx⟩:∃ Bx:Int,(bl X:Int)=Bx:=⟨_,rfl⟩
 obtain⟨By,hBy⟩:∃ By:Int,(bl Y:Int)=By:=⟨_,rfl⟩
 rw [hBx,hBy] at hk
 have b1:0≤Bx:=by omega
 have b2:Bx≤9600:=by omega
 have b3:0≤By:=by omega
 have b4:By≤3200:=by omega
 have HBx:=ae hBx
 have HBy:=ae hBy
 have f1:IntKind.i64.wrap (70 - Bx)=70 - Bx:=by rw [IntKind.wrap_i64];omega
 have f2:IntKind.i64.wrap (70 - Bx+By)=70 - Bx+By:=by rw [IntKind.wrap_i64];omega
 have f3:IntKind.i64.wrap (ex - (k:Int))=ex - (k:Int):=by rw [IntKind.wrap_i64];omega
 have f4:IntKind.i64.wrap (ex - (k:Int) - ey)=ex - (k:Int) - ey:=by rw [IntKind.wrap_i64];omega
 clear hX hY hX0 hY0 hBx hBy hbx hby hXd hYd
 go_enter Tryz.func74,Tryz.ntmps74
 go_wp2_with fail
 refine (aY _ _ _ X false _ (HX.out _ HB0.out) (decide_eq_false HXn.out)).mono ?_
 rintro x w1 ⟨rfl,hb1⟩
 have H61:=ae (H60.out.below hb1 (by rw [HZ.out];omega))
 have hz1:w.heap.size+2≤w1.heap.size:=by have h9:=hb1.size;rw [HZ.out] at h9;exact h9
 have HB1:=ae (HB0.out.trans (hb1.mono HB0.out.size))
 obtain⟨c0,c1,c2,c3,c4,c5⟩:=H61.out
 clear hb1
 go_wp2_with fail
 go_quiet ((first | (go_at_call_of 126 (Value.slice px lx cx);exact Calls.quiet_of_same (mp (.slice px lx cx) X Bx _ (HX.out _ (below_drewN HB1.out _)) (by have:=HXd.out;omega) HBx)) | (go_at_call_of 126 (Value.slice py ly cy);exact Calls.quiet_of_same (mp (.slice py ly cy) Y By _ (HY.out _ (below_drewN HB1.out _)) (by have:=HYd.out;omega) HBy))))
 obtain⟨w2,hw2⟩:∃ w2,w2=w1.drewN nq:=⟨_,rfl⟩
 rw [← hw2]
 have H62:Hid (Six w2 w.heap.size nx (.slice px lx cx) ex ny (.slice py ly cy) ey):=by rw [hw2];exact H61.out
 have hz2:w.heap.size+2≤w2.heap.size:=by rw [hw2];exact hz1
 have HB2:Hid (Below w.heap.size w w2):=by rw [hw2];exact below_drewN HB1.out _
 clear hw2 c0 c1 c2 c3 c4 c5 H61 HB1 hz1 H60 HBx HBy hk
 obtain⟨d0,d1,d2,d3,d4,d5⟩:=H62.out
 have HSh:=ae (iK (.slice px lx cx) X k w2.drew (HX.out _ HB2.out.drew) (by have:=HXd.out;omega) (by omega))
 go_wp2_with fail
 go_region_held3 (fun w'=>w'.cell? ⟨w.heap.size,0,none⟩=some (.bool nx)∧w'.cell? ⟨w.heap.size,1,none⟩=some (.slice px lx cx)∧w'.cell? ⟨w.heap.size,2,none⟩=some (.int .i64 ex)∧w'.cell? ⟨w.heap.size+1,0,none⟩=some (.bool ny)∧w'.cell? ⟨w.heap.size+1,1,none⟩=some (.slice py ly cy)∧w'.cell? ⟨w.heap.size+1,2,none⟩=some (.int .i64 ey)) (first | exact H62.out | exact H63.out | exact H64.out | go_keep) (first | ((go_at_call 128;refine HSh.out.mono ?_;rintro x w3 ⟨v3,rfl,hd3,hf3,hb3⟩;have H63:=ae (Six.below (w:=w2.drew) H62.out hb3 (show w.heap.size+1<w2.heap.size by omega));have HB3:=ae (HB2.out.drew.trans (hb3.mono (show w.heap.size≤w2.heap.size by omega)));have hz3:w.heap.size+2≤w3.heap.size:=Nat.le_trans hz2 hb3.size;have HD3:=ae hd3;clear hd3 hf3 hb3)) | ((go_at_call 127;refine (sd _ (.slice py ly cy) (X*2^k) Y w3 HD3.out (HY.out _ HB3.out) HA0.out HYp.out HAd.out (by have:=HYd.out;omega)).mono ?_;rintro x w4 ⟨vq,vr,rfl,hdq,hdr,hfq,hfr,hb4⟩;have H64:=ae (Six.below H63.out hb4 (show w.heap.size+1<w3.heap.size by omega));have HB4:=ae (HB3.out.trans (hb4.mono HB3.out.size));obtain⟨pq,lq,cq,rfl⟩:=eS hdq;obtain⟨pr,cr,hvr⟩:=hdr.form;rw [hlr.out] at hvr;subst hvr;have HDq:=ae hdq;clear hdq hdr hfq hfr hb4)))
 clear d0 d1 d2 d3 d4 d5
 obtain⟨d0,d1,d2,d3,d4,d5⟩:=H64.out
 have HNr:Hid (Calls Tryz.prog 129 #[.agg #[.bool nx,.slice pq lq cq,.int .i64 (ex - (k:Int) - ey)],.bool mo] w4 fun x w'=>x=.returned (.int .u64 res)∧Below w4.heap.size w4 w'):=by
  rw [← hres.out]
  exact kT nx mo (.slice pq lq cq) (ex - (k:Int) - ey) (X*2^k / Y) w4 HDq.out HQd.out (by omega) (by omega)
 clear H62 H63 H64 HB3 HB2 HSh HD3 HX HY HDq HA0 HAd HQd HYp HXd HYd hres hlr f1 f2 f3 f4
 go_wp2_with fail
 refine HNr.out.mono ?_
 rintro x w5 ⟨rfl,hb5⟩
 have HB5:=ae (HB4.out.trans (hb5.mono HB4.out.size))
 clear hb5
 go_wp2_with fail
 go_ret
 exact⟨rfl,HB5.out⟩
end Go.Proofs.YtkooknagalgfpaaGreat
namespace Go.Proofs.YtkooknagalgfpaaGreat
open Go.RowKit

def Cz (X Y:Nat):Nat:=(70 - (bl X:Int)+(bl Y:Int)).toNat
def Two (b:Nat) (P Q:Int) (w:World):Prop:=w.cell? ⟨b,0,none⟩=some (.int .i64 P)∧w.cell? ⟨b,1,none⟩=some (.int .i64 Q)
end Go.Proofs.YtkooknagalgfpaaGreat
namespace Go.Proofs.YtkooknagalgfpaaGreat
open Go.RowKit

def cn (o:Option Nat):Nat:=o.getD 9221120237041090561
theorem kZ:cn none=9221120237041090561:=rfl
theorem ao (r:Nat):cn (some r)=r:=rfl
def iM (s:Bool):Int:=if s then 9223372036854775808 else 0
theorem OY {b:Nat} (h:b<18446744073709551616):b.testBit 63=sgB (b:Int):=by
 rw [Nat.testBit_eq_decide_div_mod_eq]
 unfold sgB
 apply decide_eq_decide.2
 omega
theorem uP {u v:Int} (h:U64 u) (h':U64 v):bits .and .u64 (bits .xor .u64 u v) 9223372036854775808=iM (sgB u^^sgB v):=by
 obtain⟨a,rfl⟩:=Int.eq_ofNat_of_zero_le h.1
 obtain⟨b,rfl⟩:=Int.eq_ofNat_of_zero_le h'.1
 have ha:a<18446744073709551616:=by have:=h.2;omega
 have hb:b<18446744073709551616:=by have:=h'.2;omega
 have hx:a^^^b<18446744073709551616:=Nat.xor_lt_two_pow (n:=64) ha hb
 rw [bits_xor_u64_nat a b ha hb,Gs (an hx),← OY hx,Nat.testBit_xor,OY ha,OY hb]
 rfl
theorem fE (neg:Bool) (N:Nat):(sg neg N).natAbs=N:=by unfold sg;cases neg<;>simp
theorem Ma (neg:Bool) (N:Nat) (E:Int):U64 (bZ neg N E false)∧szI (bZ neg N E false)=(if N=0 then 0 else (nearR N E:Int)):=by
 by_cases h0:N=0
 ·have:bZ neg N E false=0:=by unfold bZ;rw [if_pos h0]
  rw [this,if_pos h0]
  exact⟨by unfold U64;omega,by decide⟩
 ·rw [gj neg E h0,if_neg h0]
  have hle:nearR N E≤9218868437227405312:=Nat.min_le_right _ _
  generalize nearR N E=r at *
  unfold U64 szI
  cases neg
  ·rw [if_neg (by decide)];omega
  ·rw [if_pos rfl];omega
def lc (T:Nat):Int:=if T=0 then 0 else (nearR T (-2148):Int)
theorem Ic (T:Nat):0≤lc T∧lc T≤9218868437227405312:=by
 unfold lc
 have hle:nearR T (-2148)≤9218868437227405312:=Nat.min_le_right _ _
 split<;>omega
theorem Mb (s:Bool) (T:Nat):(mulR s T:Int)=iM s+lc T:=by
 unfold mulR lc iM wrd
 by_cases h0:T=0
 ·rw [if_pos h0,if_pos h0];cases s<;>simp
 ·rw [if_neg h0,if_neg h0]
  generalize nearR T (-2148)=r
  cases s<;>simp
theorem Mc {x y X Y N:Nat} {nx ny neg:Bool} {ex ey E:Int} (hX:OfR x nx X ex) (hY:OfR y ny Y ey) (hs:sg neg N=sg nx X*sg ny Y) (hE:E=ex+ey∨(E=0∧N=0)) :
  U64 (bZ neg N E false)∧szI (bZ neg N E false)=lc (aV x*aV y)∧nd N≤1000000∧-10000000≤E∧E≤10000000:=by
 have hN:N=X*Y:=by
  have:=congrArg Int.natAbs hs
  rw [Int.natAbs_mul,fE,fE,fE] at this;exact this
 obtain⟨a,b⟩:=Ma neg N E
 have hnd:nd N≤1000000:=by
  refine Nat.le_trans (dL (k:=4) ?_) (by omega)
  rw [hN]
  have:=Nat.mul_lt_mul'' hX.lt hY.lt
  omega
 have l1:=hX.lo
 have l2:=hX.hi
 have l3:=hY.lo
 have l4:=hY.hi
 refine⟨a,?_,hnd,by omega,by omega⟩
 rw [b]
 unfold lc
 have hT:aV x*aV y=N*2^((ex+1074).toNat+(ey+1074).toNat):=by
  rw [← hX.val,← hY.val,hN,Nat.pow_add,Nat.mul_mul_mul_comm]
 have hp:=Nat.two_pow_pos ((ex+1074).toNat+(ey+1074).toNat)
 by_cases h0:N=0
 ·rw [if_pos h0,if_pos (by rw [hT,h0,Nat.zero_mul])]
 ·have h1:aV x*aV y≠0:=by rw [hT];have:=Nat.mul_pos (show 0<N by omega) hp;omega
  rw [if_neg h0,if_neg h1,hT]
  have hEE:E=ex+ey:=by
   rcases hE with h | ⟨_,h⟩
   ·exact h
   ·exact absurd h h0
  have:=aU h0 ((ex+1074).toNat+(ey+1074).toNat) (ex+ey)
  rw [show ex+ey - (((ex+1074).toNat+(ey+1074).toNat:Nat):Int)= -2148 by omega] at this
  rw [this,hEE]

theorem bH {x:Nat} {u:Int} (hu:u=(x:Int)):szI u=((x % 9223372036854775808:Nat):Int):=by rw [hu];exact oh x
theorem gQ {x:Nat} {u:Int} (hu:u=(x:Int)) (h1:af u=false) (h2:aX u=false):ah x:=by
 have:=bH hu
 unfold af at h1
 unfold aX at h2
 unfold ah
 rw [decide_eq_false_iff_not] at h1
 have h3:szI u≠9218868437227405312:=by simpa using h2
 omega
theorem gR {x:Nat} {u:Int} (hu:u=(x:Int)) (h2:aX u=true):x % 9223372036854775808=9218868437227405312:=by
 have:=bH hu
 unfold aX at h2
 have h3:szI u=9218868437227405312:=by simpa using h2
 omega
theorem lf {x y:Nat} (hx:x % 9223372036854775808=9218868437227405312) (hy:y % 9223372036854775808=0):floatBits .mul .f64 x y=none∧floatBits .mul .f64 y x=none:=by
 have e:Ieee.double.read y=.number (y / 9223372036854775808 % 2==1) 0 (-1074):=by rw [ap (by omega),hy];rfl
 constructor
 ·show ((Ieee.double.read x).product (Ieee.double.read y)).map Ieee.double.write=_
  rw [aM hx,e];rfl
 ·show ((Ieee.double.read y).product (Ieee.double.read x)).map Ieee.double.write=_
  rw [aM hx,e];rfl
theorem cP (s:Bool):Ieee.double.write (.infinity s)=wrd s 9218868437227405312:=by cases s<;>decide+kernel
theorem eU {r:Nat} (h:r≠0):mg r≠0:=by unfold mg;split<;>omega
theorem iN {x y:Nat} (hx:x % 9223372036854775808=9218868437227405312) (hy:ah y) (h0:y % 9223372036854775808≠0):floatBits .mul .f64 x y=some (wrd (sB x^^sB y) 9218868437227405312)∧floatBits .mul .f64 y x=some (wrd (sB y^^sB x) 9218868437227405312):=by
 have hm:=eU h0
 constructor
 ·show ((Ieee.double.read x).product (Ieee.double.read y)).map Ieee.double.write=_
  rw [aM hx,ap hy]
  show (if mg (y % 9223372036854775808)=0 then none else some (Ieee.Datum.infinity (_^^_))).map Ieee.double.write=_
  rw [if_neg hm]
  show some (Ieee.double.write (.infinity _))=_
  rw [cP];rfl
 ·show ((Ieee.double.read y).product (Ieee.double.read x)).map Ieee.double.write=_
  rw [aM hx,ap hy]
  show (if mg (y % 9223372036854775808)=0 then none else some (Ieee.Datum.infinity (_^^_))).map Ieee.double.write=_
  rw [if_neg hm]
  show some (Ieee.double.write (.infinity _))=_
  rw [cP,Bool.xor_comm];rfl
theorem xD {x y:Nat} (hx:x % 9223372036854775808=9218868437227405312) (hy:y % 9223372036854775808=9218868437227405312):floatBits .mul .f64 x y=some (wrd (sB x^^sB y) 9218868437227405312):=by
 show ((Ieee.double.read x).product (Ieee.double.read y)).map Ieee.double.write=_
 rw [aM hx,aM hy]
 show some (Ieee.double.write (.infinity _))=_
 rw [cP];rfl

set_option maxHeartbeats 1600000 in
theorem gS (u v:Int) (w:World) (h:U64 u) (h':U64 v) (hc:af u=true∨(af u=false∧af v=true)∨(af u=false∧af v=false∧aX u=true∧(szI v==0)=true)∨(af u=false∧af v=false∧aX u=false∧aX v=true∧(szI u==0)=true)) :
  Calls Tryz.prog 37 #[.int .u64 u,.int .u64 v] w fun e w'=>e=.returned (.int .u64 9221120237041090561)∧w'=w:=by
 have hS:=uP h h'
 rcases hc with h1 | ⟨h1,h2⟩| ⟨h1,h2,h3,h4⟩| ⟨h1,h2,h3,h4,h5⟩
 all_goals
  go_enter Tryz.func37,Tryz.ntmps37
  go_wp2_with (first | (go_at_call_of 76 (Value.int IntKind.u64 u);refine (aj u _ h).mono ?_;rintro e w' ⟨rfl,rfl⟩) | (go_at_call_of 76 (Value.int IntKind.u64 v);refine (aj v _ h').mono ?_;rintro e w' ⟨rfl,rfl⟩) | (go_at_call_of 77 (Value.int IntKind.u64 u);refine (ar u _ h).mono ?_;rintro e w' ⟨rfl,rfl⟩) | (go_at_call_of 77 (Value.int IntKind.u64 v);refine (ar v _ h').mono ?_;rintro e w' ⟨rfl,rfl⟩) | (go_at_call_of 78 (Value.int IntKind.u64 u);refine (ax u _ h).mono ?_;rintro e w' ⟨rfl,rfl⟩) | (go_at_call_of 78 (Value.int IntKind.u64 v);refine (ax v _ h').mono ?_;rintro e w' ⟨rfl,rfl⟩))
  go_ret
  exact⟨rfl,rfl⟩

set_option maxHeartbeats 1600000 in
theorem ka (u v S:Int) (w:World) (h:U64 u) (h':U64 v) (hS:bits .and .u64 (bits .xor .u64 u v) 9223372036854775808=S) (hS0:0≤S) (hS1:S≤9223372036854775808) (hn:af u=false) (hn':af v=false) (hc:(aX u=true∧aX v=true∧(szI v==0)=false∧(szI u==0)=false)∨(aX u=true∧aX v=false∧(szI v==0)=false)∨(aX u=false∧aX v=true∧(szI u==0)=false)) :
  Calls Tryz.prog 37 #[.int .u64 u,.int .u64 v] w fun e w'=>e=.returned (.int .u64 (S+9218868437227405312))∧w'=w:=by
 rcases hc with⟨h1,h2,h3,h4⟩| ⟨h1,h2,h3⟩| ⟨h1,h2,h3⟩
 all_goals
  go_enter Tryz.func37,Tryz.ntmps37
  go_wp2_with (first | (go_at_call_of 76 (Value.int IntKind.u64 u);refine (aj u _ h).mono ?_;rintro e w' ⟨rfl,rfl⟩) | (go_at_call_of 76 (Value.int IntKind.u64 v);refine (aj v _ h').mono ?_;rintro e w' ⟨rfl,rfl⟩) | (go_at_call_of 77 (Value.int IntKind.u64 u);refine (ar u _ h).mono ?_;rintro e w' ⟨rfl,rfl⟩) | (go_at_call_of 77 (Value.int IntKind.u64 v);refine (ar v _ h').mono ?_;rintro e w' ⟨rfl,rfl⟩) | (go_at_call_of 78 (Value.int IntKind.u64 u);refine (ax u _ h).mono ?_;rintro e w' ⟨rfl,rfl⟩) | (go_at_call_of 78 (Value.int IntKind.u64 v);refine (ax v _ h').mono ?_;rintro e w' ⟨rfl,rfl⟩))
  go_ret
  exact⟨rfl,rfl⟩

theorem bL {P:Program} {f:Nat} {args:Array Value} {w:World} {Q:Ending→Prop} (h:Calls P f args w fun e w'=>Q e∧w'=w):Calls P f args w fun e w'=>Q e∧w=w':=
 h.mono fun _ _ ⟨a,b⟩=>⟨a,b.symm⟩
theorem gT (u r:Int) (w:World) (h:U64 u) (hr:szI u=r) :
  Calls Tryz.prog 78 #[.int .u64 u] w fun e w'=>e=.returned (.int .u64 r)∧w=w':=by
 rw [← hr];exact (ax u w h).mono fun _ _ ⟨a,b⟩=>⟨a,b.symm⟩

set_option maxHeartbeats 1600000 in
theorem AE (x y:Nat) (u v S R:Int) (w:World) (hu:Hid (u=(x:Int))) (hv:Hid (v=(y:Int))) (h:U64 u) (h':U64 v) (hx:ah x) (hy:ah y) (hS:bits .and .u64 (bits .xor .u64 u v) 9223372036854775808=S) (hS0:0≤S) (hS1:S≤9223372036854775808) (hR:Hid (lc (aV x*aV y)=R)) (hn:af u=false) (hn':af v=false) (hi:aX u=false) (hi':aX v=false) :
  Calls Tryz.prog 37 #[.int .u64 u,.int .u64 v] w fun e w'=>e=.returned (.int .u64 (S+R))∧Below w.heap.size w w':=by
 have HX:=ae hx
 have HY:=ae hy
 obtain⟨hR0,hR1⟩:=Ic (aV x*aV y)
 rw [hR.out] at hR0 hR1
 have HN1:=ae (aj u · h)
 have HN2:=ae (aj v · h')
 have HI1:=ae (ar u · h)
 have HI2:=ae (ar v · h')
 rw [hn] at HN1
 rw [hn'] at HN2
 rw [hi] at HI1
 rw [hi'] at HI2
 have HO1:=ae fun w=>gL x u w hu h hx
 have HO2:=ae fun w=>gL y v w hv h' hy
 clear hx hy hn hn' hi hi' h h'
 go_enter Tryz.func37,Tryz.ntmps37
 go_wp2_with fail
 refine (bL (HN1.out _)).mono ?_
 rintro e w' ⟨rfl,rfl⟩
 go_wp2_with fail
 refine (bL (HN2.out _)).mono ?_
 rintro e w' ⟨rfl,rfl⟩
 go_wp2_with fail
 refine (bL (HI1.out _)).mono ?_
 rintro e w' ⟨rfl,rfl⟩
 go_wp2_with fail
 refine (bL (HI2.out _)).mono ?_
 rintro e w' ⟨rfl,rfl⟩
 go_wp2_with fail
 refine (bL (HI1.out _)).mono ?_
 rintro e w' ⟨rfl,rfl⟩
 go_wp2_with fail
 refine (bL (HI2.out _)).mono ?_
 rintro e w' ⟨rfl,rfl⟩
 go_wp2_with fail
 refine (HO1.out _).mono ?_
 rintro r w1 ⟨nx,vx,X,ex,rfl,hdx,hX,hb1⟩
 have HB1:=ae hb1
 have HDx:=ae hdx
 have HX:=ae hX
 clear hb1 hdx hX
 go_wp2_with fail
 refine (HO2.out _).mono ?_
 rintro r w2 ⟨ny,vy,Y,ey,rfl,hdy,hY,hb2⟩
 have HB2:=ae (HB1.out.trans (hb2.mono HB1.out.size))
 have HDx2:=ae (HDx.out.below hb2)
 have HDy:=ae hdy
 have HY:=ae hY
 clear hb2 hdy hY HB1 HDx
 have HT:=ae (El nx ny vx vy ex ey X Y w2 HDx2.out HDy.out (by have:=fK HX.out.lt;omega) (by have:=fK HY.out.lt;omega) (by have:=HX.out.lo;omega) (by have:=HX.out.hi;omega) (by have:=HY.out.lo;omega) (by have:=HY.out.hi;omega))
 go_wp2_with fail
 refine HT.out.mono ?_
 rintro r w3 ⟨neg,vs,N,E,rfl,hds,hfs,hs,hE,hb3⟩
 have HB3:=ae (HB2.out.trans (hb3.mono HB2.out.size))
 obtain⟨q1,q2,q3,q4,q5⟩:=Mc HX.out HY.out hs hE
 rw [hR.out] at q2
 have HNr:=ae (iL neg vs E N w3 hds q3 q4 q5)
 obtain⟨Z,hZ⟩:∃ Z,bZ neg N E false=Z:=⟨_,rfl⟩
 rw [hZ] at HNr q1 q2
 have HSz:Hid (∀ w,Calls Tryz.prog 78 #[.int .u64 Z] w fun e w'=>e=.returned (.int .u64 R)∧w=w'):=fun w=>gT Z R w q1 q2
 clear hds hfs hs hE hb3 HB2 q1 q2 q3 q4 q5 hZ HT HDx2 HDy HX HY
 go_wp2_with fail
 refine HNr.out.mono ?_
 rintro r w4 ⟨rfl,hb4⟩
 have HB4:=ae (HB3.out.trans (hb4.mono HB3.out.size))
 clear hb4 HNr HB3
 go_wp2_with fail
 refine (HSz.out _).mono ?_
 rintro r w5 ⟨rfl,rfl⟩
 go_wp2_with fail
 go_ret
 exact⟨rfl,HB4.out⟩

theorem CA (s:Bool):0≤iM s∧iM s≤9223372036854775808:=by unfold iM;split<;>omega
theorem dR (s:Bool) (r:Nat):(wrd s r:Int)=iM s+r:=by unfold wrd iM;cases s<;>simp
theorem ke (x y:Nat) (u v:Int) (w:World) (hu:Hid (u=(x:Int))) (hv:Hid (v=(y:Int))) (h:U64 u) (h':U64 v) :
  Calls Tryz.prog 37 #[.int .u64 u,.int .u64 v] w fun e w'=>e=.returned (.int .u64 (cn (floatBits .mul .f64 x y):Int))∧Below w.heap.size w w':=by
 have hS:=uP h h'
 obtain⟨s0,s1⟩:=CA (sgB u^^sgB v)
 have hx64:x<18446744073709551616:=by have:=h.2;rw [hu.out] at this;omega
 have hy64:y<18446744073709551616:=by have:=h'.2;rw [hv.out] at this;omega
 have hsx:sgB u=sB x:=by rw [hu.out];exact gK hx64
 have hsy:sgB v=sB y:=by rw [hv.out];exact gK hy64
 have cx:=bH hu.out
 have cy:=bH hv.out
 have same:∀ {r:Int},(Calls Tryz.prog 37 #[.int .u64 u,.int .u64 v] w fun e w'=>e=.returned (.int .u64 r)∧w'=w)→(cn (floatBits .mul .f64 x y):Int)=r→Calls Tryz.prog 37 #[.int .u64 u,.int .u64 v] w fun e w'=>e=.returned (.int .u64 (cn (floatBits .mul .f64 x y):Int))∧Below w.heap.size w w':=fun hc e=>by
  rw [e]
  exact hc.mono fun _ _ ⟨a,b⟩=>⟨a,by rw [b];exact Below.refl _ _⟩
 cases hn:af u with
 | true=>
  refine same (gS u v w h h' (Or.inl hn)) ?_
  rw [dQ (by rw [← hu.out];exact hn)];rfl
 | false=>
  cases hn':af v with
  | true=>
   refine same (gS u v w h h' (Or.inr (Or.inl ⟨hn,hn'⟩))) ?_
   rw [eG (by rw [← hv.out];exact hn')];rfl
  | false=>
   cases hi:aX u with
   | true=>
    have ix:=gR hu.out hi
    cases hi':aX v with
    | true=>
     have iy:=gR hv.out hi'
     refine same (ka u v _ w h h' hS s0 s1 hn hn' (Or.inl ⟨hi,hi',by rw [cy,iy];rfl,by rw [cx,ix];rfl⟩)) ?_
     rw [xD ix iy,ao,dR,hsx,hsy];rfl
    | false=>
     have ny:=gQ hv.out hn' hi'
     by_cases hz:y % 9223372036854775808=0
     ·refine same (gS u v w h h' (Or.inr (Or.inr (Or.inl ⟨hn,hn',hi,by rw [cy,hz];rfl⟩)))) ?_
      rw [(lf ix hz).1];rfl
     ·refine same (ka u v _ w h h' hS s0 s1 hn hn' (Or.inr (Or.inl ⟨hi,hi',by rw [cy];simp;omega⟩))) ?_
      rw [(iN ix ny hz).1,ao,dR,hsx,hsy];rfl
   | false=>
    have nx:=gQ hu.out hn hi
    cases hi':aX v with
    | true=>
     have iy:=gR hv.out hi'
     by_cases hz:x % 9223372036854775808=0
     ·refine same (gS u v w h h' (Or.inr (Or.inr (Or.inr ⟨hn,hn',hi,hi',by rw [cx,hz];rfl⟩)))) ?_
      rw [(lf iy hz).2];rfl
     ·refine same (ka u v _ w h h' hS s0 s1 hn hn' (Or.inr (Or.inr ⟨hi,hi',by rw [cx];simp;omega⟩))) ?_
      rw [(iN iy nx hz).2,ao,dR,hsx,hsy];rfl
    | false=>
     have ny:=gQ hv.out hn' hi'
     have e:(cn (floatBits .mul .f64 x y):Int)=iM (sgB u^^sgB v)+lc (aV x*aV y):=by rw [gF nx ny,ao,Mb,hsx,hsy]
     rw [e]
     exact AE x y u v _ _ w hu hv h h' nx ny hS s0 s1 rfl hn hn' hi hi'
end Go.Proofs.YtkooknagalgfpaaGreat
