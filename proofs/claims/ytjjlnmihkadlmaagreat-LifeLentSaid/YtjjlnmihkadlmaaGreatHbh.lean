/-  -/
import Derived.Test.YtjjlnmihkadlmaaGreatHbg
import Derived.Test.YtjjlnmihkadlmaaGreatCShelf
namespace Go.Proofs.YtjjlnmihkadlmaaGreat.A
open Go.RowKit

theorem yK (B:Nat) (v:Value) (xs:List Nat) (w:World) (h:OwnW w B v xs) (hn:xs.length≤100000) :
  Calls Tryz.prog 132 #[v] w fun e w'=>∃ v',e=.returned v'∧OwnW w' w.heap.size v' xs∧Below w.heap.size w w':=by
 obtain⟨i0,hi,hz0,hz1,hz2⟩:=info_parts infoU
 rcases h.own.2 with⟨hv,hn0⟩| ⟨g,cap,cur,hv,hb,hg,hnc,hcm,hcs,htake⟩
 ·have hx:xs=[]:=List.length_eq_zero_iff.1 hn0
  subst hx
  rw [hv]
  refine (AnyE.slices_Clone_nil Tryz.cloneL 0 0 w:Calls Tryz.prog 132 #[.slice none 0 0] w _).mono ?_
  rintro e w' ⟨rfl,rfl⟩
  exact⟨_,rfl,⟨World.ownsRow_nil _ _ _ _,h.fit⟩,Below.refl _ _⟩
 ·have ho:=h.own
  rw [hv] at ho
  have key:=AnyE.slices_Clone Tryz.cloneL i0 (.int .u64 0) 1 8 hi hz0 hz1 hz2 rfl (by decide) Tryz.sizeOf57 g 0 xs.length cap (xs.map uV) w (by simp) (by unfold maxLen;omega) (by omega) (fun j u hj=>by
   have:=ho.cells (g:=g) rfl j u hj
   rw [Addr.add_lit] at this;exact this) (fun u hu=>by obtain⟨x,_,rfl⟩:=List.mem_map.1 hu;rfl)
  rw [hv]
  refine (key:Calls Tryz.prog 132 _ _ _).mono ?_
  rintro e w' ⟨v',rfl,ho',_,hb'⟩
  exact⟨v',rfl,⟨ho',h.fit⟩,hb'⟩

theorem vv {w w1:World} {B L:Nat} {v1:Value} {a:St} {xs:List Nat} (hok:a.Ok) (hl:xs.length≤L) (hs:Sg xs a.N) (hB:B≤w.heap.size) (o1:OwnW w1 w.heap.size v1 xs) (b1:Below w.heap.size w w1) :
  AccAt (w1.alloc (.cells #[.int .u8 (a.s:Int),v1] 134)) B w1.heap.size v1 L a∧(∀ k,Ft w1.heap.size v1 k→w.heap.size≤k)∧Below w.heap.size w (w1.alloc (.cells #[.int .u8 (a.s:Int),v1] 134)):=by
 have hsz:=b1.size
 have o2:OwnW w1 B v1 xs:=by
  refine⟨⟨o1.own.1,?_⟩,o1.fit⟩
  rcases o1.own.2 with h6 | ⟨g,cap,cur,h6,h7,rest⟩
  ·exact .inl h6
  ·exact .inr ⟨g,cap,cur,h6,Nat.le_trans hB h7,rest⟩
 refine⟨⟨heap_alloc_new w1 _,by omega,⟨xs,o2.alloc _,hl,hs⟩,fun e=>?_,hok⟩,?_,b1.alloc hsz _⟩
 ·have:=(o1.lt _ e).2;omega
 ·rintro k (rfl | hk)
  ·exact hsz
  ·exact (o1.lt k hk).1

set_option maxHeartbeats 1600000 in
theorem BL (B b:Nat) (v:Value) (L:Nat) (a:St) (w:World) (h:AccAt w B b v L a) (hB:B≤w.heap.size) (hL:L≤40000) :
  Calls Tryz.prog 95 #[.pointer (some ⟨b,0,none⟩)] w fun r w'=>∃ c v',r=.returned (.pointer (some ⟨c,0,none⟩))∧AccAt w' B c v' L a∧(∀ k,Ft c v' k→w.heap.size≤k)∧Below w.heap.size w w':=by
 have HA:=hideS h
 have c0:=h.cell0
 have c1:=h.cell1
 obtain⟨xs,ho,hl,hs⟩:=h.own
 have HC:=hideS (fun n=>yK B v xs (w.drewN n) (ho.drewN n) (by omega))
 have HL:=hideS (And.intro hl hs)
 have hlt:=h.lt
 clear h ho hl hs
 generalize hq:((a.s:Nat):Int)=q at c0
 have HQ:=hideS hq
 clear hq
 go_enter Tryz.func95,Tryz.ntmps95
 go_wp2_with fail
 go_region_with ((go_at_call 132;refine (HC.out 1).mono ?_;rintro e w1 ⟨v1,rfl,o1,b1⟩;obtain⟨p1,g1,cc1,rfl,_⟩:=o1.shape;have d0:w1.cell? ⟨b,0,none⟩=some (.int .u8 q):=(b1.cell (p:=⟨b,0,none⟩) hlt).trans c0))
 all_goals
  have R:=hideS (vv HA.out.ok HL.out.1 HL.out.2 hB o1 ⟨b1.os,b1.tape,b1.output,b1.size,b1.block⟩)
  rw [HQ.out] at R
  clear o1 b1 d0
  go_wp2_with fail
  go_ret
  exact⟨_,_,rfl,R.out⟩

def Hu (b:Nat) (v:Value) (c:Nat) (u:Value):Prop:=∀ k,Ft b v k→¬ Ft c u k
theorem vw {a d:St} (h:mt a.s d.s=0):a.s=0∧d.s=0:=by
 unfold mt at h
 split at h
 ·rename_i h1;rcases h1 with h1 | h1<;>omega
 ·split at h<;>omega

set_option maxHeartbeats 1600000 in
theorem vz (B b c:Nat) (v u:Value) (L L':Nat) (a d:St) (w:World) (h:AccAt w B b v L a) (h':AccAt w B c u L' d)
  (hkeep:∀ w1,Wrote w w1 (Ft b v)→AccAt w1 B b v L a→AccAt w1 B c u L' d)
  (hplus:∀ w1,a.s=0→d.s=0→AccAt w1 B b v L a→AccAt w1 B c u L' d→w.heap.size≤w1.heap.size→Calls Tryz.prog 133 #[v,u] w1 fun e w'=>∃ v' zs,e=.returned v'∧OwnW w' B v' zs∧zs.length≤max L L'+1∧Sg zs (a.N+d.N)∧Wrote w1 w' (At v)∧New w1 v v') :
  Calls Tryz.prog 96 #[.pointer (some ⟨b,0,none⟩),.pointer (some ⟨c,0,none⟩)] w fun r w'=>r=.returned (.tuple #[])∧∃ v',Did w w' B b v (max L L'+1) (a.merge d) v':=by
 have HKe:=hideS hkeep
 have HPl:=hideS hplus
 have d0:=h'.cell0
 have hd3:=h'.ok.s3
 have HM:=hideS (sD B b v L a d.s w h hd3)
 obtain⟨tgt,htgt⟩:∃ tgt:St,a.merge d=tgt:=⟨_,rfl⟩
 rw [htgt]
 clear h h' hkeep hplus
 by_cases h0:mt a.s d.s=0
 ·obtain⟨ha0,hd0⟩:=vw h0
  have HR:Hid (tgt=⟨a.s,a.N+d.N⟩):=by show _=_;rw [← htgt];unfold St.merge;rw [h0,ha0];rfl
  have HM2:Hid (Calls Tryz.prog 68 #[.pointer (some ⟨b,0,none⟩),.int .u8 0] w fun x w'=>x=.returned (.tuple #[])∧Wrote w w' (Ft b v)∧AccAt w' B b v L a):=by
   have:=HM.out
   rw [h0,if_pos rfl,hd0] at this
   refine this.mono ?_
   rintro x w' ⟨rfl,v1,hd,hv⟩
   obtain rfl:=hv rfl
   refine⟨rfl,hd.wrote,?_⟩
   have h2:=hd.acc
   obtain⟨s,N⟩:=a
   dsimp only at ha0
   subst ha0;exact h2
  rw [hd0] at d0
  have HZ:=hideS (And.intro ha0 hd0)
  clear htgt hd3 HM h0 hd0 ha0
  go_enter Tryz.func96,Tryz.ntmps96
  go_wp2_with fail
  refine HM2.out.mono ?_
  rintro e w1 ⟨rfl,hw1,ha1⟩
  have A1:=hideS ha1
  have A2:=hideS (HKe.out w1 hw1 ha1)
  have W1:=hideS hw1
  have e0:w1.cell? ⟨b,0,none⟩=some (.int .u8 0):=by have:=ha1.cell0;rw [HZ.out.1] at this;exact this
  have e1:=ha1.cell1
  have e2:=A2.out.cell1
  have HP2:=hideS (HPl.out (w1.drewN 1) HZ.out.1 HZ.out.2 (A1.out.drewN 1) (A2.out.drewN 1) W1.out.size)
  clear hw1 ha1 HM2 HPl HKe d0
  go_wp2_with fail
  go_region_with ((go_at_call 133;refine HP2.out.mono ?_;rintro e w2 ⟨v2,zs,rfl,o2,l2,s2,r2,n2⟩;obtain⟨p2,g2,cc2,rfl,_⟩:=o2.shape;obtain⟨x1,x2⟩:=(A1.out.drewN 1).wroteAt r2))
  all_goals
   have R:=hideS ((A1.out.drewN 1).stored r2 o2 l2 s2 n2 (fun h=>absurd HZ.out.1 h))
   have RN:=hideS n2
   clear o2 l2 s2 r2 n2 x1 x2
   go_wp2_with fail
   go_end0
   refine⟨rfl,_,by rw [HR.out];exact R.out.1,?_,fun k hk=>?_⟩
   ·exact W1.out.trans ⟨R.out.2.os,R.out.2.tape,R.out.2.output,R.out.2.size,R.out.2.block⟩ (fun k _ hk=>hk)
   ·rcases RN.out k hk with h5 | h5
    ·exact Or.inl h5
    ·exact Or.inr (Nat.le_trans W1.out.size h5)
 ·have HR:Hid (tgt=⟨mt a.s d.s,0⟩):=by show _=_;rw [← htgt];unfold St.merge;rw [if_neg h0]
  have HM2:Hid (Calls Tryz.prog 68 #[.pointer (some ⟨b,0,none⟩),.int .u8 (d.s:Int)] w fun x w'=>x=.returned (.tuple #[])∧∃ v',Did w w' B b v L ⟨mt a.s d.s,0⟩ v'):=by
   have:=HM.out
   rw [if_neg h0] at this
   exact this.mono fun _ _ ⟨a,v',b,_⟩=>⟨a,v',b⟩
  clear htgt HM HPl HKe
  generalize (d.s:Int)=q at d0 HM2
  obtain⟨r,hr⟩:∃ r:Nat,mt a.s d.s=r:=⟨_,rfl⟩
  rw [hr] at HR HM2 h0
  go_enter Tryz.func96,Tryz.ntmps96
  go_wp2_with fail
  refine HM2.out.mono ?_
  rintro e w1 ⟨rfl,v1,hd⟩
  have e0:=hd.acc.cell0
  obtain⟨ri,hri⟩:∃ ri:Int,(r:Int)=ri:=⟨_,rfl⟩
  have e1:w1.cell? ⟨b,0,none⟩=some (.int .u8 ri):=by rw [← hri];exact e0
  have hri0:(ri==0)=false:=by simp;omega
  have HD:=hideS hd
  clear hd e0 hri h0 hr
  go_wp2_with fail
  go_end0
  exact⟨rfl,v1,by rw [HR.out];exact HD.out.acc.mono (by omega),HD.out.wrote,HD.out.new⟩

theorem yL (B b c:Nat) (v u:Value) (L L':Nat) (a d:St) (w:World) (h:AccAt w B b v L a) (h':AccAt w B c u L' d) (hap:Hu b v c u) (hB:B≤w.heap.size) (hL:L≤40000) (hL':L'≤40000) :
  Calls Tryz.prog 96 #[.pointer (some ⟨b,0,none⟩),.pointer (some ⟨c,0,none⟩)] w fun r w'=>r=.returned (.tuple #[])∧∃ v',Did w w' B b v (max L L'+1) (a.merge d) v':=by
 refine vz B b c v u L L' a d w h h' (fun w1 hw _=>h'.wrote hw (fun k h1 h2=>hap k h2 h1)) (fun w1 _ _ h1 h2 hs=>?_)
 obtain⟨xs,o1,l1,s1⟩:=h1.own
 obtain⟨ys,o2,l2,s2⟩:=h2.own
 refine (plus_any B B v u xs ys a.N d.N w1 o1 o2 s1 s2 (fun k h3 h4=>hap k (Or.inr h4) (Or.inr h3)) (by omega) (by omega) (by omega)).mono ?_
 rintro e w' ⟨v',zs,rfl,o3,l3,s3,r3,n3⟩
 exact⟨v',zs,rfl,o3,by omega,s3,r3,n3⟩
end Go.Proofs.YtjjlnmihkadlmaaGreat.A
namespace Go.Proofs.YtjjlnmihkadlmaaGreat.A
open Go.RowKit

theorem BM {zs:List Nat} {j q:Nat} (hj:j<zs.length) (h0:zs.getD j 0=0):∀ n,ps (fun i=>(zs.set j q).getD i 0) n=ps (fun i=>zs.getD i 0) n+(if j<n then q*2^(64*j) else 0)
 | 0=>by simp [ps]
 | n+1=>by
  rw [ps,ps,BM hj h0 n]
  show _+(zs.set j q).getD n 0*_=_
  rw [eU hj]
  by_cases hn:n=j
  ·subst hn
   rw [if_neg (by omega),if_pos rfl,if_pos (by omega)]
   show _=_+zs.getD n 0*_+_
   rw [h0];omega
  ·rw [if_neg hn]
   by_cases h1:j<n
   ·rw [if_pos h1,if_pos (by omega)];omega
   ·rw [if_neg h1,if_neg (by omega)];omega
theorem BN {F:Nat→Nat} (hF:pV F) {j n:Nat} (hj:j<n):ps F n / 2^(64*j)=ps F n / 2^(64*(j+1))*18446744073709551616+F j:=by
 have key:∀ n,j<n→ps F n / 2^(64*j) % 18446744073709551616=F j:=by
  intro n
  induction n with
  | zero=>intro h;omega
  | succ n ih=>
   intro h
   rw [ps]
   by_cases e:j=n
   ·subst e
    rw [Nat.add_mul_div_right _ _ (bj j),Nat.div_eq_of_lt (kt hF j),Nat.zero_add,Nat.mod_eq_of_lt (hF j)]
   ·have e2:F n*2^(64*n)=F n*2^(64*(n - j - 1))*18446744073709551616*2^(64*j):=by
     rw [Nat.mul_assoc,Nat.mul_assoc,← jf,← Nat.pow_add];congr 2;omega
    rw [e2,Nat.add_mul_div_right _ _ (bj j),Nat.add_mul_mod_self_right]
    exact ih (by omega)
 have h1:=key n hj
 have h2:ps F n / 2^(64*(j+1))=ps F n / 2^(64*j) / 18446744073709551616:=by rw [jf,Nat.mul_comm,Nat.div_div_eq_div_mul]
 rw [h2]
 generalize ps F n / 2^(64*j)=X at *
 omega
theorem div_step {F:Nat→Nat} (hF:pV F) {j n d:Nat} (hj:j<n):(ps F n / 2^(64*(j+1)) % d*18446744073709551616+F j) % d=ps F n / 2^(64*j) % d:=by
 rw [BN hF hj,Nat.add_mod,Nat.mul_mod,Nat.mod_mod,← Nat.mul_mod,← Nat.add_mod]

structure Div (wr w:World) (n c d:Nat) (F:Nat→Nat) (zs:List Nat) (rest k:Nat):Prop where
 own:OwnW wr w.heap.size (.slice (some ⟨w.heap.size,0,none⟩) n c) zs
 len:zs.length=n
 eq:d*ps (fun i=>zs.getD i 0) n+rest*2^(64*k)+ps F k=ps F n
 low:∀ j,j<k→zs.getD j 0=0
 res:rest=ps F n / 2^(64*k) % d
 bl:Below w.heap.size w wr
theorem Div.step {wr w:World} {n c d:Nat} {F:Nat→Nat} {zs:List Nat} {rest j:Nat} (h:Div wr w n c d F zs rest (j+1)) (hF:pV F) (hj:j<n) (hq:(rest*18446744073709551616+F j) / d<18446744073709551616) :
  Div (wr.setCell ⟨w.heap.size,j,none⟩ (.int .u64 (((rest*18446744073709551616+F j) / d:Nat):Int))) w n c d F (zs.set j ((rest*18446744073709551616+F j) / d)) ((rest*18446744073709551616+F j) % d) j:=by
 have hl:=h.len
 have h1:=h.own.set h.len j _ hq
 refine⟨h1.1,by rw [List.length_set];exact h.len,?_,?_,?_,h.bl.setCell (Nat.le_refl _) _⟩
 ·rw [BM (by omega) (h.low j (by omega)),if_pos hj]
  have he:=h.eq
  rw [jf,ps] at he
  have hdm:=Nat.div_add_mod (rest*18446744073709551616+F j) d
  have h2:(d*((rest*18446744073709551616+F j) / d)+(rest*18446744073709551616+F j) % d)*2^(64*j)=(rest*18446744073709551616+F j)*2^(64*j):=by rw [hdm]
  rw [Nat.add_mul,Nat.add_mul,Nat.mul_assoc d,Nat.mul_assoc rest] at h2
  rw [Nat.mul_add]
  omega
 ·intro i hi
  rw [eU (by omega),if_neg (by omega)]
  exact h.low i (by omega)
 ·rw [h.res,div_step hF hj]

set_option maxHeartbeats 800000 in
theorem sF (B:Nat) (v:Value) (ys:List Nat) (d:Nat) (w:World) (h:OwnW w B v ys) (hn:ys.length≤100000) (hd:0<d)
  (hdiv:∀ j,j<ys.length→∀ w,Calls Tryz.prog 207 #[.int .u64 ((ps (fun i=>ys.getD i 0) ys.length / 2^(64*(j+1)) % d:Nat):Int),.int .u64 (ys.getD j 0:Nat),.int .u64 (d:Int)] w fun e w'=>e=.returned (.tuple #[.int .u64 (((ps (fun i=>ys.getD i 0) ys.length / 2^(64*(j+1)) % d*18446744073709551616+ys.getD j 0) / d:Nat):Int),.int .u64 (((ps (fun i=>ys.getD i 0) ys.length / 2^(64*(j+1)) % d*18446744073709551616+ys.getD j 0) % d:Nat):Int)])∧∃ q,w'=w.drewN q) :
  Calls Tryz.prog 199 #[v,.int .u64 (d:Int)] w fun e w'=>∃ v' zs,e=.returned (.tuple #[v',.int .u64 ((ps (fun i=>ys.getD i 0) ys.length % d:Nat):Int)])∧OwnW w' w.heap.size v' zs∧zs.length=ys.length∧ps (fun i=>zs.getD i 0) zs.length=ps (fun i=>ys.getD i 0) ys.length / d∧Below w.heap.size w w':=by
 obtain⟨p,g,c,rfl,hc1,hc2,hp,hc⟩:=h.shape
 have HC:=hideS hc
 obtain⟨F,hF⟩:∃ F:Nat→Nat,F=fun i=>ys.getD i 0:=⟨_,rfl⟩
 have HF:Hid (pV F):=by rw [hF];exact h.fit
 have HFe:Hid (∀ j,ys.getD j 0=F j):=fun j=>by rw [hF]
 have HM:=hideS (OwnW.made w ys.length (by omega))
 have HB:=hideS ((Below.refl w.heap.size w).alloc (Nat.le_refl _) (.cells (madeCells #[.int .u64 0] ys.length) 57))
 have hmk:=fun w=>run_make_row' (P:=Tryz.prog) 30 57 (.int .u64 0) 8 Tryz.underlying30 infoU rfl .i64 .i64 ys.length (by omega) (by omega) w
 rw [← hF] at hdiv ⊢
 have HDv:=hideS hdiv
 clear hdiv h hc hF
 have hHD:=fun j (hj:j<ys.length)=>HDv.out j hj
 have HD2:Hid (∀ j,j<ys.length→∀ w,Calls Tryz.prog 207 #[.int .u64 ((ps F ys.length / 2^(64*(j+1)) % d:Nat):Int),.int .u64 (F j:Nat),.int .u64 (d:Int)] w fun e w'=>e=.returned (.tuple #[.int .u64 (((ps F ys.length / 2^(64*(j+1)) % d*18446744073709551616+F j) / d:Nat):Int),.int .u64 (((ps F ys.length / 2^(64*(j+1)) % d*18446744073709551616+F j) % d:Nat):Int)])∧∃ q,w'=w.drewN q):=fun j hj w=>by
  have:=HDv.out j hj w
  rw [HFe.out j] at this;exact this
 have HC2:Hid (∀ j,j<ys.length→w.cell? ⟨g,j,none⟩=some (.int .u64 (F j:Nat))):=fun j hj=>by
  have:=HC.out j hj
  rw [HFe.out j] at this;exact this
 clear HDv HC hHD HFe
 generalize ys.length=n at *
 have HD0:Hid (Div (w.alloc (.cells (madeCells #[.int .u64 0] n) 57)) w n n d F (List.replicate n 0) 0 n):=by
  refine⟨HM.out,by simp,?_,?_,?_,HB.out⟩
  ·have:ps (fun i=>(List.replicate n 0).getD i 0) n=0:=by
    rw [cO (g:=fun _=>0) (fun i _=>by show (List.replicate n 0).getD i 0=0;rw [List.getD,List.getElem?_replicate];split<;>rfl),kU]
   rw [this];simp
  ·intro j _
   rw [List.getD,List.getElem?_replicate];split<;>rfl
  ·rw [Nat.div_eq_of_lt (kt HF.out n),Nat.zero_mod]
 have hdI:(d:Int)≠0:=by omega
 go_enter Tryz.func199,Tryz.ntmps199
 go_wp2
 clear hmk
 go_loopw [5,6] (fun b i wr=>∃ (k rest:Nat) (zs:List Nat),k≤n∧b=.int .u64 rest∧i=.int .i64 ((k:Int) - 1)∧Hid (Div wr w n n d F zs rest k)) (fun _ i _=>(intOf i+1).toNat)
 case atStart=>exact⟨n,0,List.replicate n 0,Nat.le_refl _,rfl,rfl,HD0⟩
 case round=>
  clear HM HB HD0
  obtain⟨k,rest,zs,hk,rfl,rfl,HR⟩:=hrel
  cases k with
  | zero=>
   go_wp2
   go_ret2
   refine⟨_,zs,?_,HR.out.own,HR.out.len,?_,HR.out.bl⟩
   ·have:=HR.out.res
    rw [Nat.mul_zero,Nat.pow_zero,Nat.div_one] at this
    rw [← this];rfl
   ·have h1:=HR.out.eq
    have h2:=HR.out.res
    rw [Nat.mul_zero,Nat.pow_zero,Nat.div_one] at h2
    rw [Nat.mul_zero,Nat.pow_zero,Nat.mul_one,ps,Nat.add_zero] at h1
    rw [HR.out.len,← h1,h2]
    have h3:ps F n % d<d:=Nat.mod_lt _ hd
    rw [Nat.mul_add_div hd,Nat.div_eq_of_lt h3,Nat.add_zero]
  | succ j=>
   obtain⟨rfl,hg1,hg2⟩:=hp (by omega)
   have hcl:wr.cell? ⟨g,j,none⟩=some (.int .u64 (F j:Nat)):=(HR.out.bl.cell (p:=⟨g,j,none⟩) hg2).trans (HC2.out j (by omega))
   have hdl:wr.cell? ⟨w.heap.size,j,none⟩=some (.int .u64 (zs.getD j 0:Nat)):=HR.out.own.cell1 HR.out.len j (by rw [HR.out.len];omega)
   have hfz:wr.frozen? ⟨w.heap.size,j,none⟩=false:=HR.out.own.frozen1 HR.out.len j
   have hcall:=HD2.out j (by omega) wr
   rw [← HR.out.res] at hcall
   have hrl:rest<d:=by rw [HR.out.res];exact Nat.mod_lt _ hd
   have hq:(rest*18446744073709551616+F j) / d<18446744073709551616:=by
    rw [Nat.div_lt_iff_lt_mul hd]
    have h5:(rest+1)*18446744073709551616≤d*18446744073709551616:=Nat.mul_le_mul_right _ hrl
    have h6:=HF.out j
    rw [Nat.mul_comm 18446744073709551616 d]
    omega
   have HS:=hideS (HR.out.step HF.out (by omega) hq)
   have HCa:=hideS hcall
   clear hcall hq hrl
   generalize (rest*18446744073709551616+F j) / d=q at HS HCa
   generalize (rest*18446744073709551616+F j) % d=r' at HS HCa
   generalize F j=y at hcl HCa
   generalize zs.getD j 0=z at hdl
   have e1:((j+1:Nat):Int) - 1=(j:Int):=by omega
   rw [e1]
   go_wp2_with fail
   refine HCa.out.mono ?_
   rintro e w2 ⟨rfl,nq,rfl⟩
   go_wp2_with fail
   go_roundw
   case rel=>
    refine⟨j,r',zs.set j q,by omega,rfl,rfl,?_⟩
    exact⟨HS.out.own.drewN nq,HS.out.len,HS.out.eq,HS.out.low,HS.out.res,⟨HS.out.bl.os,HS.out.bl.tape,HS.out.bl.output,HS.out.bl.size,HS.out.bl.block⟩⟩
   case measure=>simp [intOf]

set_option maxHeartbeats 400000 in
theorem vA (y d:Nat) (w:World) (hd:0<d) (hy:y<18446744073709551616) :
  Calls Tryz.prog 207 #[.int .u64 0,.int .u64 (y:Int),.int .u64 (d:Int)] w fun e w'=>e=.returned (.tuple #[.int .u64 ((y / d:Nat):Int),.int .u64 ((y % d:Nat):Int)])∧∃ q,w'=w.drewN q:=by
 obtain⟨D,hD⟩:∃ D:Int,(d:Int)=D:=⟨_,rfl⟩
 have hq:(y:Int).tdiv D=((y / d:Nat):Int):=by rw [← hD];rfl
 have hr:(y:Int).tmod D=((y % d:Nat):Int):=by rw [← hD];rfl
 have b1:=Nat.div_le_self y d
 have b2:=Nat.mod_le y d
 have h0:0<D:=by omega
 rw [hD]
 generalize y / d=q at *
 generalize y % d=r at *
 have w1:IntKind.u64.wrap (q:Int)=q:=by rw [IntKind.wrap_u64];omega
 have w2:IntKind.u64.wrap (r:Int)=r:=by rw [IntKind.wrap_u64];omega
 go_enter Tryz.func207,Tryz.ntmps207
 go_wp2
 go_region
 all_goals
  go_wp2
  go_ret2
  exact⟨rfl,_,rfl⟩

def kB (N:Int) (d:Nat):Nat:=aG (sgM (decide (N<0)) (mant (N.natAbs / d) (decide (N.natAbs % d≠0)))) (ib (N.natAbs / d))
def FA (M d:Nat):Prop:=∀ j y w,y=M / 2^(64*j) % 18446744073709551616→Calls Tryz.prog 207 #[.int .u64 ((M / 2^(64*(j+1)) % d:Nat):Int),.int .u64 (y:Nat),.int .u64 (d:Int)] w fun e w'=>e=.returned (.tuple #[.int .u64 (((M / 2^(64*(j+1)) % d*18446744073709551616+y) / d:Nat):Int),.int .u64 (((M / 2^(64*(j+1)) % d*18446744073709551616+y) % d:Nat):Int)])∧∃ q,w'=w.drewN q
set_option maxHeartbeats 800000 in
theorem sG (B b:Nat) (v:Value) (L:Nat) (a:St) (d:Nat) (w:World) (h:AccAt w B b v L a) (hB:B≤w.heap.size) (hL:L≤40000) (hd:0<d) (hd2:d<9223372036854775808) (h0:a.s=0) (hok:FA a.N.natAbs d) :
  Calls Tryz.prog 193 #[.pointer (some ⟨b,0,none⟩),.int .i64 (d:Int)] w fun r w'=>r=.returned (.tuple #[.float .f64 (kB a.N d),.bool true])∧Below w.heap.size w w':=by
 have c0:=h.cell0
 have c1:=h.cell1
 rw [h0] at c0
 obtain⟨xs,ho,hl,hs⟩:=h.own
 have HZ:=hideS (oB B v xs a.N w ho hs (by omega) hB)
 have HL:Hid (xs.length≤40000):=by show _≤_;omega
 have HOk:=hideS hok
 have HD:=hideS (show kB a.N d=aG (sgM (decide (a.N<0)) (mant (a.N.natAbs / d) (decide (a.N.natAbs % d≠0)))) (ib (a.N.natAbs / d)) from rfl)
 have hw:IntKind.u64.wrap (d:Int)=d:=by rw [IntKind.wrap_u64];omega
 have hnl:¬ ((d:Int)<1):=by omega
 generalize kB a.N d=res at *
 clear h ho hl hs h0 hok
 go_enter Tryz.func193,Tryz.ntmps193
 go_wp2_with fail
 refine HZ.out.mono ?_
 rintro e w1 ⟨v1,ys,rfl,o1,l1,p1,b1⟩
 have HV:=hideS (sF B v1 ys d w1 o1 (by have:=HL.out;omega) hd (fun j hj w2=>by
  rw [p1]
  refine HOk.out j (ys.getD j 0) w2 ?_
  rw [← p1]
  have:=BN o1.fit hj
  have h2:=o1.fit j
  rw [this]
  show ys.getD j 0=(_*18446744073709551616+ys.getD j 0) % 18446744073709551616
  have h3:ys.getD j 0<18446744073709551616:=h2
  omega))
 have HM0:Hid (ys.length=0→a.N.natAbs=0):=fun h6=>by rw [← p1,h6];rfl
 rw [p1] at HV
 have HB:=hideS b1
 have HL1:=hideS l1
 clear o1 l1 p1 b1 HZ HOk
 generalize a.N.natAbs=M at *
 generalize decide (a.N<0)=ng at *
 go_wp2_with fail
 refine HV.out.mono ?_
 rintro e w2 ⟨v2,zs,rfl,o2,l2,p2,b2⟩
 have HN:=hideS (oD w1.heap.size v2 zs (decide (M % d≠0)) ng w2 o2 (by have:=HL.out;have:=HL1.out;omega) (fun h5=>by
  rcases Nat.eq_zero_or_pos zs.length with h6 | h6
  ·have h7:=HM0.out (by omega)
   rw [h7] at h5
   simp at h5
  ·exact h6))
 rw [p2,← HD.out] at HN
 have HB2:=hideS (HB.out.trans (b2.mono HB.out.size))
 clear o2 l2 p2 b2 HV HM0 HD
 by_cases hr:M % d=0
 ·rw [show decide (M % d≠0)=false by simpa using hr] at HN
  rw [hr]
  go_wp2_with fail
  refine HN.out.mono ?_
  rintro e w3 ⟨rfl,q,rfl⟩
  go_wp2_with fail
  go_ret2
  exact⟨rfl,⟨HB2.out.os,HB2.out.tape,HB2.out.output,HB2.out.size,HB2.out.block⟩⟩
 ·rw [show decide (M % d≠0)=true by simpa using hr] at HN
  obtain⟨r,hrr⟩:∃ r:Int,((M % d:Nat):Int)=r:=⟨_,rfl⟩
  have hr0:(r !=0)=true:=by simp;omega
  rw [hrr]
  clear hr hrr
  go_wp2_with fail
  refine HN.out.mono ?_
  rintro e w3 ⟨rfl,q,rfl⟩
  go_wp2_with fail
  go_ret2
  exact⟨rfl,⟨HB2.out.os,HB2.out.tape,HB2.out.output,HB2.out.size,HB2.out.block⟩⟩
end Go.Proofs.YtjjlnmihkadlmaaGreat.A
namespace Go.Proofs.YtjjlnmihkadlmaaGreat.A
open Go.RowKit

structure Run (w wr:World) (b:Nat) (v:Value) (L:Nat) (a:St):Prop where
 acc:AccAt wr w.heap.size b v L a
 bl:Below w.heap.size w wr
theorem Run.did {w wr w':World} {b:Nat} {v v':Value} {L L':Nat} {a a':St} (h:Run w wr b v L a) (hd:Did wr w' w.heap.size b v L' a' v'):Run w w' b v' L' a':=
 ⟨hd.acc,h.bl.trans (hd.wrote.below (fun k hk=>(h.acc.base k hk).1) h.bl.size)⟩
theorem Run.mono {w wr:World} {b:Nat} {v:Value} {L L':Nat} {a:St} (h:Run w wr b v L a) (hl:L≤L'):Run w wr b v L' a:=⟨h.acc.mono hl,h.bl⟩
theorem Run.drewN {w wr:World} {b:Nat} {v:Value} {L:Nat} {a:St} (h:Run w wr b v L a) (n:Nat):Run w (wr.drewN n) b v L a:=
 ⟨h.acc.drewN n,⟨h.bl.os,h.bl.tape,h.bl.output,h.bl.size,h.bl.block⟩⟩

end Go.Proofs.YtjjlnmihkadlmaaGreat.A
namespace Go.Proofs.YtjjlnmihkadlmaaGreat.A
open Go.RowKit

theorem qI (b y1 y0 q:Nat):q*(y1*b+y0)=q*y1*b+q*y0:=by rw [Nat.mul_add,Nat.mul_assoc]
theorem Fb {b y1 y0 u u1 q r:Nat} (hy:0<y1*b+y0) (h:q*y1+r=u):(b*r+u1<q*y0)↔(u*b+u1) / (y1*b+y0)<q:=by
 rw [Nat.div_lt_iff_lt_mul hy,qI,← h,Nat.add_mul,Nat.mul_comm r b]
 generalize q*y1*b=A
 generalize b*r=C
 omega
theorem CV {b y1 y0 u u1 q r:Nat} (hy:0<y1*b+y0) (h:q*y1+r=u) (hr:b≤r) (hq:q≤b) (h0:y0<b) (hQ:(u*b+u1) / (y1*b+y0)≤q):q=(u*b+u1) / (y1*b+y0):=by
 apply Nat.le_antisymm _ hQ
 rw [Nat.le_div_iff_mul_le hy,qI,← h,Nat.add_mul]
 have h1:q*y0≤b*b:=Nat.mul_le_mul hq (by omega)
 have h2:b*b≤r*b:=Nat.mul_le_mul hr (Nat.le_refl _)
 omega
theorem tD {b y1 y0 u:Nat} (hu:u<y1*b+y0) (h0:y0<b) (hy1:b≤2*y1) (h1:0<y1):u / y1≤b+1:=by
 have:u / y1<b+2:=by
  rw [Nat.div_lt_iff_lt_mul h1,Nat.add_mul,Nat.mul_comm b y1]
  omega
 omega
theorem Ig {b y1 y0 u u1:Nat} (hu1:u1<b) (h1:0<y1):(u*b+u1) / (y1*b+y0)≤u / y1:=by
 rw [Nat.le_div_iff_mul_le h1]
 have h:=Nat.div_mul_le_self (u*b+u1) (y1*b+y0)
 rw [qI] at h
 generalize (u*b+u1) / (y1*b+y0)=Q at *
 have h2:Q*y1*b<(u+1)*b:=by rw [Nat.add_mul];omega
 have:=Nat.lt_of_mul_lt_mul_right h2
 omega
theorem tE {b y u u1:Nat} (hu1:u1<b) (hu:u<y):(u*b+u1) / y<b:=by
 rw [Nat.div_lt_iff_lt_mul (by omega)]
 have:(u+1)*b≤b*y:=by rw [Nat.mul_comm b y];exact Nat.mul_le_mul hu (Nat.le_refl _)
 rw [Nat.add_mul] at this
 omega
theorem Gy {y b A c:Nat} (hy:0<y):(A*b+c) / y=A / y*b+(A % y*b+c) / y∧(A*b+c) % y=(A % y*b+c) % y:=by
 have e:A*b+c=(A % y*b+c)+A / y*b*y:=by
  have:=Nat.div_add_mod A y
  generalize A / y=q at *
  generalize A % y=r at *
  rw [← this,Nat.add_mul,Nat.mul_right_comm q b y,Nat.mul_comm y q];omega
 rw [e]
 exact⟨by rw [Nat.add_mul_div_right _ _ hy];omega,by rw [Nat.add_mul_mod_self_right]⟩
theorem CW {b y X s un32 un1 un0:Nat} (hy:0<y) (h:X*2^s=(un32*b+un1)*b+un0) :
  X / y=(un32*b+un1) / (y*2^s)*b+((un32*b+un1) % (y*2^s)*b+un0) / (y*2^s)∧X % y=((un32*b+un1) % (y*2^s)*b+un0) % (y*2^s) / 2^s:=by
 have hp:0<2^s:=Nat.pow_pos (by decide)
 obtain⟨h1,h2⟩:=Gy (y:=y*2^s) (b:=b) (A:=un32*b+un1) (c:=un0) (Nat.mul_pos hy hp)
 rw [← h1,← h2,← h,Nat.mul_div_mul_right _ _ hp,Nat.mul_mod_mul_right,Nat.mul_div_cancel _ hp]
 exact⟨rfl,rfl⟩

structure KL (b y1 y0 u u1 q r:Nat):Prop where
 eq:q*y1+r=u
 ge:(u*b+u1) / (y1*b+y0)≤q
theorem tF {b y1 y0 u u1:Nat} (hu1:u1<b) (h1:0<y1):KL b y1 y0 u u1 (u / y1) (u % y1):=
 ⟨by rw [Nat.mul_comm];exact Nat.div_add_mod u y1,Ig hu1 h1⟩
theorem tG {b y1 y0 u u1 q r:Nat} (h:KL b y1 y0 u u1 q r) (hq:q≤b+1) (h0:y0<b) (hy:0<y1*b+y0) (hQ:(u*b+u1) / (y1*b+y0)<b) :
  (q<b∧¬ (b*r+u1<q*y0)∧q=(u*b+u1) / (y1*b+y0))∨
  (∃ q',q'+1=q∧q'≤b∧(b≤q∨(q<b∧b*r+u1<q*y0))∧((b≤r+y1∧q'=(u*b+u1) / (y1*b+y0))∨(r+y1<b∧KL b y1 y0 u u1 q' (r+y1)))):=by
 have ht:=Fb (b:=b) (u1:=u1) hy h.eq
 have hg:=h.ge
 have next:(u*b+u1) / (y1*b+y0)<q→∃ q',q'+1=q∧q'≤b∧((b≤r+y1∧q'=(u*b+u1) / (y1*b+y0))∨(r+y1<b∧KL b y1 y0 u u1 q' (r+y1))):=by
  intro hlt
  have hq0:0<q:=Nat.lt_of_le_of_lt (Nat.zero_le _) hlt
  obtain⟨q',rfl⟩:∃ q',q=q'+1:=⟨q - 1,by clear hlt ht hg hQ;omega⟩
  have e:q'*y1+(r+y1)=u:=by rw [← h.eq,Nat.add_mul];omega
  refine⟨q',rfl,by omega,?_⟩
  by_cases hr:b≤r+y1
  ·exact Or.inl ⟨hr,CV hy e hr (by omega) h0 (Nat.le_of_lt_succ hlt)⟩
  ·exact Or.inr ⟨by omega,e,Nat.le_of_lt_succ hlt⟩
 by_cases h1:b≤q
 ·obtain⟨q',a1,a2,a3⟩:=next (Nat.lt_of_lt_of_le hQ h1)
  exact Or.inr ⟨q',a1,a2,Or.inl h1,a3⟩
 ·by_cases h2:b*r+u1<q*y0
  ·obtain⟨q',a1,a2,a3⟩:=next (ht.1 h2)
   exact Or.inr ⟨q',a1,a2,Or.inr ⟨by omega,h2⟩,a3⟩
  ·refine Or.inl ⟨by omega,h2,?_⟩
   exact Nat.le_antisymm (Nat.le_of_not_lt fun c=>h2 (ht.2 c)) hg
end Go.Proofs.YtjjlnmihkadlmaaGreat.A
namespace Go.Proofs.YtjjlnmihkadlmaaGreat.A
open Go.RowKit

structure Kn (hi lo d ld Y y1 y0 U Z u1 u0 a c:Nat):Prop where
 lds:ld≤63
 f1:IntKind.u64.wrap ((d:Int)*2^ld)=(Y:Int)
 f2:(Y:Int) / 4294967296=(y1:Int)
 f3:bits .and .u64 (Y:Int) 4294967295=(y0:Int)
 f4:IntKind.u64.wrap ((hi:Int)*2^ld)=(a:Int)
 f5:(lo:Int) / 2^(64 - ld)=(c:Int)
 f6:bits .or .u64 (a:Int) (c:Int)=(U:Int)
 f7:IntKind.u64.wrap ((lo:Int)*2^ld)=(Z:Int)
 f8:(Z:Int) / 4294967296=(u1:Int)
 f9:bits .and .u64 (Z:Int) 4294967295=(u0:Int)
 yf:Y<18446744073709551616
 yh:9223372036854775808≤Y
 yy:Y=y1*4294967296+y0
 y0b:y0<4294967296
 uY:U<Y
 u1b:u1<4294967296
 u0b:u0<4294967296
 dY:Y=d*2^ld
 all:(hi*18446744073709551616+lo)*2^ld=(U*4294967296+u1)*4294967296+u0
theorem mS {z:Nat} (h:z<18446744073709551616):bits .and .u64 (z:Int) 4294967295=((z % 4294967296:Nat):Int):=by
 have e:=bits_and_u64_nat z 4294967295 h (by decide)
 have e2:z&&& 4294967295=z % 4294967296:=Nat.and_two_pow_sub_one_eq_mod z 32
 rw [e2] at e
 exact e
theorem Gz {hi lo d ld:Nat} (hlt:hi<d) (hd:d<18446744073709551616) (hlo:lo<18446744073709551616) (hld:ld=63 - d.log2):∃ Y y1 y0 U Z u1 u0 a c,Kn hi lo d ld Y y1 y0 U Z u1 u0 a c:=by
 have hd0:d≠0:=by omega
 obtain⟨h1,_,_,h4⟩:=lK hd0 hd hlo hld
 have hp:=Nat.two_pow_pos ld
 have hm:(hi+1)*2^ld≤d*2^ld:=Nat.mul_le_mul hlt (Nat.le_refl _)
 rw [Nat.add_mul,Nat.one_mul] at hm
 have ha:hi*2^ld<18446744073709551616:=by omega
 have hor:=uN (hi:=hi) (off:=ld) (by omega) hlo
 rw [Nat.mod_eq_of_lt ha] at hor
 have eW:(18446744073709551616:Nat)=2^ld*2^(64 - ld):=by rw [← Nat.pow_add,show ld+(64 - ld)=64 by omega]
 have hc:lo / 2^(64 - ld)<2^ld:=by
  rw [Nat.div_lt_iff_lt_mul (Nat.two_pow_pos _),← eW];exact hlo
 have hc2:lo / 2^(64 - ld)<18446744073709551616:=Nat.lt_of_le_of_lt (Nat.div_le_self _ _) hlo
 have hsum:=lI (hi:=hi) (lo:=lo) (off:=ld) (by omega)
 have hhi:hi / 2^(64 - ld)=0:=by
  apply Nat.div_eq_of_lt
  have:hi*2^ld<2^(64 - ld)*2^ld:=by rw [Nat.mul_comm (2^(64 - ld)),← eW];exact ha
  exact Nat.lt_of_mul_lt_mul_right this
 rw [hhi,Nat.zero_mul,Nat.add_zero,Nat.mod_eq_of_lt ha] at hsum
 have hhalf:9223372036854775808≤d*2^ld:=by
  have hl:=Nat.log2_self_le hd0
  have hl2:d.log2<64:=(Nat.log2_lt hd0).2 hd
  have:2^d.log2*2^ld≤d*2^ld:=Nat.mul_le_mul hl (Nat.le_refl _)
  rw [← Nat.pow_add,hld,show d.log2+(63 - d.log2)=63 by omega,← hld] at this
  exact this
 obtain⟨Z,hZ⟩:∃ Z,lo*2^ld % 18446744073709551616=Z:=⟨_,rfl⟩
 have hZb:Z<18446744073709551616:=by rw [← hZ];exact Nat.mod_lt _ (by decide)
 obtain⟨Y,hY⟩:∃ Y,d*2^ld=Y:=⟨_,rfl⟩
 obtain⟨a,haa⟩:∃ a,hi*2^ld=a:=⟨_,rfl⟩
 obtain⟨c,hcc⟩:∃ c,lo / 2^(64 - ld)=c:=⟨_,rfl⟩
 have g1:IntKind.u64.wrap ((d:Int)*2^ld)=(Y:Int):=by rw [dT,Nat.mod_eq_of_lt h1,hY]
 have g4:IntKind.u64.wrap ((hi:Int)*2^ld)=(a:Int):=by rw [dT,Nat.mod_eq_of_lt ha,haa]
 have g5:(lo:Int) / 2^(64 - ld)=(c:Int):=by rw [jt,hcc]
 have g6:bits .or .u64 (a:Int) (c:Int)=((a+c:Nat):Int):=by rw [← haa,← hcc,bits_or_u64_nat _ _ ha hc2,hor]
 have g7:IntKind.u64.wrap ((lo:Int)*2^ld)=(Z:Int):=by rw [dT,hZ]
 rw [hZ] at hsum
 rw [haa,hcc] at hsum
 rw [haa,hY] at hm
 rw [hY] at h1 hhalf
 rw [hcc] at hc
 refine⟨Y,Y / 4294967296,Y % 4294967296,a+c,Z,Z / 4294967296,Z % 4294967296,a,c,⟨h4,g1,by omega,mS h1,g4,g5,g6,g7,by omega,mS hZb,h1,hhalf,by omega,by omega,by omega,by omega,by omega,hY.symm,?_⟩⟩
 rw [← hsum];omega

theorem cJ {q y0:Nat} (hq:q<4294967296) (h0:y0<4294967296):IntKind.u64.wrap ((q:Int)*(y0:Int))=((q*y0:Nat):Int):=by
 have:q*y0≤4294967295*4294967295:=Nat.mul_le_mul (by omega) (by omega)
 rw [IntKind.wrap_u64,← Int.natCast_mul]
 omega
theorem zE {U u1 q Y R A B C:Nat} (hA:A=U*4294967296 % 18446744073709551616) (hB:B=(A+u1) % 18446744073709551616) (hC:C=q*Y % 18446744073709551616) (hR:R<18446744073709551616) (h:U*4294967296+u1=q*Y+R):IntKind.u64.wrap ((B:Int) - (C:Int))=(R:Int):=by
 rw [IntKind.wrap_u64]
 generalize q*Y=P at *
 omega
theorem CX {n m:Nat} (h:n % 18446744073709551616=m):IntKind.u64.wrap (n:Int)=(m:Int):=by
 rw [IntKind.wrap_u64];omega
end Go.Proofs.YtjjlnmihkadlmaaGreat.A
namespace Go.Proofs.YtjjlnmihkadlmaaGreat.A
open Go.RowKit

structure Trial (u y1 q p r:Nat):Prop where
 t1:(u:Int).tdiv (y1:Int)=(q:Int)
 t2:IntKind.u64.wrap ((q:Int)*(y1:Int))=(p:Int)
 t3:IntKind.u64.wrap ((u:Int) - (p:Int))=(r:Int)
 t4:IntKind.u64.wrap (q:Int)=(q:Int)
 hq:q=u / y1
 hr:r=u % y1
theorem oY {u y1:Nat} (h1:0<y1) (hu:u<18446744073709551616):∃ q p r,Trial u y1 q p r:=by
 have e:=Nat.div_add_mod u y1
 have l:=Nat.mod_lt u h1
 have g:=Nat.div_le_self u y1
 refine⟨u / y1,u / y1*y1,u % y1,⟨rfl,?_,?_,?_,rfl,rfl⟩⟩
 ·rw [← Int.natCast_mul,IntKind.wrap_u64]
  have:u / y1*y1≤u:=Nat.div_mul_le_self u y1
  generalize u / y1*y1=z at *
  omega
 ·rw [Nat.mul_comm] at e
  generalize u / y1*y1=z at *
  generalize u % y1=m at *
  rw [IntKind.wrap_u64]
  omega
 ·generalize u / y1=z at *
  rw [IntKind.wrap_u64]
  omega
structure Leave (U u1 Q Y R A B C:Nat):Prop where
 v1:IntKind.u64.wrap ((U:Int)*4294967296)=(A:Int)
 v2:IntKind.u64.wrap ((A:Int)+(u1:Int))=(B:Int)
 v3:IntKind.u64.wrap ((Q:Int)*(Y:Int))=(C:Int)
 v4:IntKind.u64.wrap ((B:Int) - (C:Int))=(R:Int)
theorem oZ {U u1 Q Y R:Nat} (hR:R<18446744073709551616) (h:U*4294967296+u1=Q*Y+R):∃ A B C,Leave U u1 Q Y R A B C:=by
 refine⟨U*4294967296 % 18446744073709551616,(U*4294967296 % 18446744073709551616+u1) % 18446744073709551616,Q*Y % 18446744073709551616,⟨?_,?_,?_,zE rfl rfl rfl hR h⟩⟩
 ·rw [IntKind.wrap_u64];omega
 ·rw [IntKind.wrap_u64];omega
 ·rw [← Int.natCast_mul];exact CX rfl

set_option maxRecDepth 20000 in
set_option maxHeartbeats 6400000 in
theorem zF (hi lo d:Nat) (w:World) (h0:hi≠0) (hlt:hi<d) (hd:d<18446744073709551616) (hlo:lo<18446744073709551616) :
  Calls Tryz.prog 207 #[.int .u64 (hi:Int),.int .u64 (lo:Int),.int .u64 (d:Int)] w fun e w'=>e=.returned (.tuple #[.int .u64 (((hi*18446744073709551616+lo) / d:Nat):Int),.int .u64 (((hi*18446744073709551616+lo) % d:Nat):Int)])∧∃ q,w'=w.drewN q:=by
 obtain⟨ld,hld⟩:∃ ld,ld=63 - d.log2:=⟨_,rfl⟩
 obtain⟨Y,y1,y0,U,Z,u1,u0,a,c,hk⟩:=Gz hlt hd hlo hld
 have HLd:=hideS fun w=>turned (vt d ld w (by omega) hd hld)
 have hy0:=hk.y0b
 have hyy:=hk.yy
 have hyh:=hk.yh
 have hyf:=hk.yf
 have hUY:=hk.uY
 have hu1:=hk.u1b
 have hu0:=hk.u0b
 have hy1:2147483648≤y1:=by omega
 have hyp:0<y1*4294967296+y0:=by omega
 obtain⟨e1,e2⟩:=CW (b:=4294967296) (y:=d) (X:=hi*18446744073709551616+lo) (s:=ld) (by omega) hk.all
 rw [← hk.dY] at e1 e2
 have hQ1b:=tE (b:=4294967296) hu1 hUY
 have hR1b:=Nat.mod_lt (U*4294967296+u1) (show 0<Y by omega)
 have d1:=Nat.div_add_mod (U*4294967296+u1) Y
 obtain⟨R1,hR1⟩:∃ R1,(U*4294967296+u1) % Y=R1:=⟨_,rfl⟩
 rw [hR1] at e1 e2 hR1b d1
 have hQ0b:=tE (b:=4294967296) hu0 hR1b
 have hR0b:=Nat.mod_lt (R1*4294967296+u0) (show 0<Y by omega)
 have d0:=Nat.div_add_mod (R1*4294967296+u0) Y
 obtain⟨R0,hR0⟩:∃ R0,(R1*4294967296+u0) % Y=R0:=⟨_,rfl⟩
 rw [hR0] at e2 hR0b d0
 have hC1:=fun q r (h:KL 4294967296 y1 y0 U u1 q r) (hq:q≤4294967296+1)=>tG h hq hy0 hyp (by rw [← hyy];exact hQ1b)
 have hC2:=fun q r (h:KL 4294967296 y1 y0 R1 u0 q r) (hq:q≤4294967296+1)=>tG h hq hy0 hyp (by rw [← hyy];exact hQ0b)
 rw [← hyy] at hC1 hC2
 obtain⟨Q1,hQ1⟩:∃ Q1,(U*4294967296+u1) / Y=Q1:=⟨_,rfl⟩
 obtain⟨Q0,hQ0⟩:∃ Q0,(R1*4294967296+u0) / Y=Q0:=⟨_,rfl⟩
 rw [hQ1] at e1 hQ1b d1 hC1
 rw [hQ0] at e1 hQ0b d0 hC2
 have HC1:=hideS hC1
 have HC2:=hideS hC2
 obtain⟨qa,pa,ra,ta⟩:=oY (u:=U) (y1:=y1) (by omega) (by omega)
 obtain⟨qb,pb,rb0,tb⟩:=oY (u:=R1) (y1:=y1) (by omega) (by omega)
 have HS1:Hid (KL 4294967296 y1 y0 U u1 qa ra):=by rw [ta.hq,ta.hr];exact tF hu1 (by omega)
 have HS2:Hid (KL 4294967296 y1 y0 R1 u0 qb rb0):=by rw [tb.hq,tb.hr];exact tF hu0 (by omega)
 have hqa:qa≤4294967297:=by rw [ta.hq];exact tD (b:=4294967296) (y0:=y0) (by omega) hy0 (by omega) (by omega)
 have hqb:qb≤4294967297:=by rw [tb.hq];exact tD (b:=4294967296) (y0:=y0) (by omega) hy0 (by omega) (by omega)
 have hy1b:y1<4294967296:=by omega
 have hra:ra<4294967296:=by rw [ta.hr];exact Nat.lt_trans (Nat.mod_lt _ (by omega)) hy1b
 have hrb0:rb0<4294967296:=by rw [tb.hr];exact Nat.lt_trans (Nat.mod_lt _ (by omega)) hy1b
 obtain⟨A1,B1,C1,l1⟩:=oZ (U:=U) (u1:=u1) (Q:=Q1) (Y:=Y) (R:=R1) (by omega) (by rw [Nat.mul_comm Q1];exact d1.symm)
 obtain⟨A0,B0,C0,l0⟩:=oZ (U:=R1) (u1:=u0) (Q:=Q0) (Y:=Y) (R:=R0) (by omega) (by rw [Nat.mul_comm Q0];exact d0.symm)
 obtain⟨res1,hres1⟩:∃ res1,Q1*4294967296+Q0=res1:=⟨_,rfl⟩
 obtain⟨res2,hres2⟩:∃ res2,R0 / 2^ld=res2:=⟨_,rfl⟩
 rw [e1,e2,hres1,hres2]
 obtain⟨E1,hE1⟩:∃ E1,Q1*4294967296=E1:=⟨_,rfl⟩
 obtain⟨Q1i,hQ1i⟩:∃ Q1i:Int,Q1i=(Q1:Int):=⟨_,rfl⟩
 obtain⟨Q0i,hQ0i⟩:∃ Q0i:Int,Q0i=(Q0:Int):=⟨_,rfl⟩
 have z1:IntKind.u64.wrap (Q1i*4294967296)=(E1:Int):=by rw [IntKind.wrap_u64];omega
 have z2:IntKind.u64.wrap ((E1:Int)+Q0i)=(res1:Int):=by rw [IntKind.wrap_u64];omega
 have z7:(R0:Int) / 2^ld=(res2:Int):=by rw [← hres2,Int.natCast_ediv,Int.natCast_pow];rfl
 have hd1:¬ ((d:Int)≤(hi:Int)):=by omega
 have hd2:((d:Int)==0)=false:=by simp;omega
 have hd3:((hi:Int)==0)=false:=by simp;omega
 have lds:=hk.lds
 have f1:=hk.f1
 have f2:=hk.f2
 have f3:=hk.f3
 have f4:=hk.f4
 have f5:=hk.f5
 have f6:=hk.f6
 have f7:=hk.f7
 have f8:=hk.f8
 have f9:=hk.f9
 have t1:=ta.t1
 have t2:=ta.t2
 have t3:=ta.t3
 have t4:=ta.t4
 have s1:=tb.t1
 have s2:=tb.t2
 have s3:=tb.t3
 have s4:=tb.t4
 obtain⟨v1,v2,v3,v4⟩:=l1
 obtain⟨k1,k2,k3,k4⟩:=l0
 rw [← hQ1i] at v3
 rw [← hQ0i] at k3
 have HQ1i:=hideS hQ1i
 have HQ0i:=hideS hQ0i
 obtain⟨qai,hqai⟩:∃ qai:Int,qai=(qa:Int):=⟨_,rfl⟩
 obtain⟨qbi,hqbi⟩:∃ qbi:Int,qbi=(qb:Int):=⟨_,rfl⟩
 obtain⟨rai,hrai⟩:∃ rai:Int,rai=(ra:Int):=⟨_,rfl⟩
 obtain⟨rbi,hrbi⟩:∃ rbi:Int,rbi=(rb0:Int):=⟨_,rfl⟩
 rw [← hqai] at t1 t2 t4
 rw [← hqbi] at s1 s2 s4
 rw [← hrai] at t3
 rw [← hrbi] at s3
 have HQA:=hideS hqai
 have HQB:=hideS hqbi
 have HRA:=hideS hrai
 have HRB:=hideS hrbi
 have hy1p:(0:Int)<(y1:Int):=by omega
 clear hC1 hC2 d1 d0 e1 e2 hQ1 hQ0 hR1 hR0 hres1 hres2 hld hE1 hyy hk ta tb hQ1i hQ0i hqai hqbi hrai hrbi
 go_enter Tryz.func207,Tryz.ntmps207
 go_wp2_with (go_at_call 115;refine (HLd.out _).mono ?_;rintro e w' ⟨rfl,rfl⟩)
 go_loop [15,16] (fun sq sr=>∃ (q r:Nat) (qi ri:Int),sq=.int .u64 qi∧sr=.int .u64 ri∧Hid (qi=(q:Int))∧Hid (ri=(r:Int))∧r<4294967296∧q≤4294967297∧Hid (KL 4294967296 y1 y0 U u1 q r)) (fun sq _=>(intOf sq).toNat)
 case atStart=>exact⟨qa,ra,qai,rai,rfl,rfl,HQA,HRA,hra,hqa,HS1⟩
 case round=>
  obtain⟨q,r,qi,ri,rfl,rfl,HQI,HRI,hr,hq,HKL⟩:=hrel
  have HC:=hideS (HC1.out q r HKL.out hq)
  clear HKL
  have hqi:=HQI.out
  have hri:=HRI.out
  obtain⟨rn,hrn⟩:∃ rn,r+y1=rn:=⟨_,rfl⟩
  obtain⟨rb,hrb⟩:∃ rb,4294967296*r=rb:=⟨_,rfl⟩
  obtain⟨rs,hrs⟩:∃ rs,rb+u1=rs:=⟨_,rfl⟩
  obtain⟨rbj,hrbj⟩:∃ rbj:Int,rbj=(rb:Int):=⟨_,rfl⟩
  obtain⟨rsi,hrsi⟩:∃ rsi:Int,rsi=(rs:Int):=⟨_,rfl⟩
  obtain⟨rni,hrni⟩:∃ rni:Int,rni=(rn:Int):=⟨_,rfl⟩
  have HRN:=hideS hrni
  have r1:IntKind.u64.wrap (4294967296*ri)=rbj:=by rw [IntKind.wrap_u64];omega
  have r2:IntKind.u64.wrap (rbj+(u1:Int))=rsi:=by rw [IntKind.wrap_u64];omega
  have m2:IntKind.u64.wrap (ri+(y1:Int))=rni:=by rw [IntKind.wrap_u64];omega
  rw [hrn,hrb,hrs] at HC
  rcases HC.out with⟨x1,x2,x3⟩| ⟨q',x1,x2,x3,x4⟩
  ·have pz:=cJ (q:=q) (y0:=y0) x1 hy0
   obtain⟨p,hp⟩:∃ p,q*y0=p:=⟨_,rfl⟩
   rw [hp] at pz x2
   obtain⟨pi,hpi⟩:∃ pi:Int,pi=(p:Int):=⟨_,rfl⟩
   rw [← hpi,← hqi] at pz
   have x1i:qi<4294967296:=by omega
   have x2i:¬ (rsi<pi):=by omega
   obtain rfl:qi=Q1i:=by rw [HQI.out,x3,HQ1i.out]
   clear HC hrn hrb hrs hrbj hrsi hrni hpi hp x1 x2 x3 hqi hri hr hq
   go_wp2_with fail
   go_loop [16,18] (fun sr sq=>∃ (q r:Nat) (qi ri:Int),sq=.int .u64 qi∧sr=.int .u64 ri∧Hid (qi=(q:Int))∧Hid (ri=(r:Int))∧r<4294967296∧q≤4294967297∧Hid (KL 4294967296 y1 y0 R1 u0 q r)) (fun _ sq=>(intOf sq).toNat)
   case atStart=>exact⟨qb,rb0,qbi,rbi,rfl,rfl,HQB,HRB,hrb0,hqb,HS2⟩
   case round=>
    obtain⟨q,r,qi,ri,rfl,rfl,HQI,HRI,hr,hq,HKL⟩:=hrel
    have HC:=hideS (HC2.out q r HKL.out hq)
    clear HKL
    have hqi:=HQI.out
    have hri:=HRI.out
    obtain⟨rn,hrn⟩:∃ rn,r+y1=rn:=⟨_,rfl⟩
    obtain⟨rb,hrb⟩:∃ rb,4294967296*r=rb:=⟨_,rfl⟩
    obtain⟨rs,hrs⟩:∃ rs,rb+u0=rs:=⟨_,rfl⟩
    obtain⟨rbj,hrbj⟩:∃ rbj:Int,rbj=(rb:Int):=⟨_,rfl⟩
    obtain⟨rsi,hrsi⟩:∃ rsi:Int,rsi=(rs:Int):=⟨_,rfl⟩
    obtain⟨rni,hrni⟩:∃ rni:Int,rni=(rn:Int):=⟨_,rfl⟩
    have HRN:=hideS hrni
    have r1:IntKind.u64.wrap (4294967296*ri)=rbj:=by rw [IntKind.wrap_u64];omega
    have r2:IntKind.u64.wrap (rbj+(u0:Int))=rsi:=by rw [IntKind.wrap_u64];omega
    have m2:IntKind.u64.wrap (ri+(y1:Int))=rni:=by rw [IntKind.wrap_u64];omega
    rw [hrn,hrb,hrs] at HC
    rcases HC.out with⟨x1,x2,x3⟩| ⟨q',x1,x2,x3,x4⟩
    ·have pz:=cJ (q:=q) (y0:=y0) x1 hy0
     obtain⟨p,hp⟩:∃ p,q*y0=p:=⟨_,rfl⟩
     rw [hp] at pz x2
     obtain⟨pi,hpi⟩:∃ pi:Int,pi=(p:Int):=⟨_,rfl⟩
     rw [← hpi,← hqi] at pz
     have x1i:qi<4294967296:=by omega
     have x2i:¬ (rsi<pi):=by omega
     obtain rfl:qi=Q0i:=by rw [HQI.out,x3,HQ0i.out]
     clear HC hrn hrb hrs hrbj hrsi hrni hpi hp x1 x2 x3 hqi hri hr hq
     go_wp2_with fail
     go_ret2
     exact⟨rfl,0,rfl⟩
    ·obtain⟨q'i,hq'i⟩:∃ q'i:Int,q'i=(q':Int):=⟨_,rfl⟩
     have HQN:=hideS hq'i
     have m1:IntKind.u64.wrap (qi - 1)=q'i:=by rw [IntKind.wrap_u64];omega
     clear HC
     rcases x3 with x3 | ⟨x3,x5⟩
     ·have x3i:4294967296≤qi:=by omega
      clear hrb hrs hrbj hrsi
      rcases x4 with⟨x4,x6⟩| ⟨x4,x6⟩
      ·have x4i:4294967296≤rni:=by omega
       obtain rfl:q'i=Q0i:=by rw [HQN.out,x6,HQ0i.out]
       clear x6 x4 hrn hrni hqi hri hr hq hq'i x1 x2 x3
       go_wp2_with fail
       go_ret2
       exact⟨rfl,0,rfl⟩
      ·have HK2:=hideS x6
       clear x6
       have x4i:rni<4294967296:=by omega
       clear hrn hrni hqi hri hq'i
       go_wp2_with fail
       go_round
       case rel=>exact⟨q',rn,q'i,rni,rfl,rfl,HQN,HRN,x4,by omega,HK2⟩
       case measure=>have:=HQI.out;have:=HQN.out;simp [intOf];omega
     ·have pz:=cJ (q:=q) (y0:=y0) x3 hy0
      obtain⟨p,hp⟩:∃ p,q*y0=p:=⟨_,rfl⟩
      rw [hp] at pz x5
      obtain⟨pi,hpi⟩:∃ pi:Int,pi=(p:Int):=⟨_,rfl⟩
      rw [← hpi,← hqi] at pz
      have x3i:qi<4294967296:=by omega
      have x5i:rsi<pi:=by omega
      clear hrb hrs hrbj hrsi hp hpi x5
      rcases x4 with⟨x4,x6⟩| ⟨x4,x6⟩
      ·have x4i:4294967296≤rni:=by omega
       obtain rfl:q'i=Q0i:=by rw [HQN.out,x6,HQ0i.out]
       clear x6 x4 hrn hrni hqi hri hr hq hq'i x1 x2 x3
       go_wp2_with fail
       go_ret2
       exact⟨rfl,0,rfl⟩
      ·have HK2:=hideS x6
       clear x6
       have x4i:rni<4294967296:=by omega
       clear hrn hrni hqi hri hq'i
       go_wp2_with fail
       go_round
       case rel=>exact⟨q',rn,q'i,rni,rfl,rfl,HQN,HRN,x4,by omega,HK2⟩
       case measure=>have:=HQI.out;have:=HQN.out;simp [intOf];omega
  ·obtain⟨q'i,hq'i⟩:∃ q'i:Int,q'i=(q':Int):=⟨_,rfl⟩
   have HQN:=hideS hq'i
   have m1:IntKind.u64.wrap (qi - 1)=q'i:=by rw [IntKind.wrap_u64];omega
   clear HC
   rcases x3 with x3 | ⟨x3,x5⟩
   ·have x3i:4294967296≤qi:=by omega
    clear hrb hrs hrbj hrsi
    rcases x4 with⟨x4,x6⟩| ⟨x4,x6⟩
    ·have x4i:4294967296≤rni:=by omega
     obtain rfl:q'i=Q1i:=by rw [HQN.out,x6,HQ1i.out]
     clear x6 x4 hrn hrni hqi hri hr hq hq'i x1 x2 x3
     go_wp2_with fail
     go_loop [16,18] (fun sr sq=>∃ (q r:Nat) (qi ri:Int),sq=.int .u64 qi∧sr=.int .u64 ri∧Hid (qi=(q:Int))∧Hid (ri=(r:Int))∧r<4294967296∧q≤4294967297∧Hid (KL 4294967296 y1 y0 R1 u0 q r)) (fun _ sq=>(intOf sq).toNat)
     case atStart=>exact⟨qb,rb0,qbi,rbi,rfl,rfl,HQB,HRB,hrb0,hqb,HS2⟩
     case round=>
      obtain⟨q,r,qi,ri,rfl,rfl,HQI,HRI,hr,hq,HKL⟩:=hrel
      have HC:=hideS (HC2.out q r HKL.out hq)
      clear HKL
      have hqi:=HQI.out
      have hri:=HRI.out
      obtain⟨rn,hrn⟩:∃ rn,r+y1=rn:=⟨_,rfl⟩
      obtain⟨rb,hrb⟩:∃ rb,4294967296*r=rb:=⟨_,rfl⟩
      obtain⟨rs,hrs⟩:∃ rs,rb+u0=rs:=⟨_,rfl⟩
      obtain⟨rbj,hrbj⟩:∃ rbj:Int,rbj=(rb:Int):=⟨_,rfl⟩
      obtain⟨rsi,hrsi⟩:∃ rsi:Int,rsi=(rs:Int):=⟨_,rfl⟩
      obtain⟨rni,hrni⟩:∃ rni:Int,rni=(rn:Int):=⟨_,rfl⟩
      have HRN:=hideS hrni
      have r1:IntKind.u64.wrap (4294967296*ri)=rbj:=by rw [IntKind.wrap_u64];omega
      have r2:IntKind.u64.wrap (rbj+(u0:Int))=rsi:=by rw [IntKind.wrap_u64];omega
      have m2:IntKind.u64.wrap (ri+(y1:Int))=rni:=by rw [IntKind.wrap_u64];omega
      rw [hrn,hrb,hrs] at HC
      rcases HC.out with⟨x1,x2,x3⟩| ⟨q',x1,x2,x3,x4⟩
      ·have pz:=cJ (q:=q) (y0:=y0) x1 hy0
       obtain⟨p,hp⟩:∃ p,q*y0=p:=⟨_,rfl⟩
       rw [hp] at pz x2
       obtain⟨pi,hpi⟩:∃ pi:Int,pi=(p:Int):=⟨_,rfl⟩
       rw [← hpi,← hqi] at pz
       have x1i:qi<4294967296:=by omega
       have x2i:¬ (rsi<pi):=by omega
       obtain rfl:qi=Q0i:=by rw [HQI.out,x3,HQ0i.out]
       clear HC hrn hrb hrs hrbj hrsi hrni hpi hp x1 x2 x3 hqi hri hr hq
       go_wp2_with fail
       go_ret2
       exact⟨rfl,0,rfl⟩
      ·obtain⟨q'i,hq'i⟩:∃ q'i:Int,q'i=(q':Int):=⟨_,rfl⟩
       have HQN:=hideS hq'i
       have m1:IntKind.u64.wrap (qi - 1)=q'i:=by rw [IntKind.wrap_u64];omega
       clear HC
       rcases x3 with x3 | ⟨x3,x5⟩
       ·have x3i:4294967296≤qi:=by omega
        clear hrb hrs hrbj hrsi
        rcases x4 with⟨x4,x6⟩| ⟨x4,x6⟩
        ·have x4i:4294967296≤rni:=by omega
         obtain rfl:q'i=Q0i:=by rw [HQN.out,x6,HQ0i.out]
         clear x6 x4 hrn hrni hqi hri hr hq hq'i x1 x2 x3
         go_wp2_with fail
         go_ret2
         exact⟨rfl,0,rfl⟩
        ·have HK2:=hideS x6
         clear x6
         have x4i:rni<4294967296:=by omega
         clear hrn hrni hqi hri hq'i
         go_wp2_with fail
         go_round
         case rel=>exact⟨q',rn,q'i,rni,rfl,rfl,HQN,HRN,x4,by omega,HK2⟩
         case measure=>have:=HQI.out;have:=HQN.out;simp [intOf];omega
       ·have pz:=cJ (q:=q) (y0:=y0) x3 hy0
        obtain⟨p,hp⟩:∃ p,q*y0=p:=⟨_,rfl⟩
        rw [hp] at pz x5
        obtain⟨pi,hpi⟩:∃ pi:Int,pi=(p:Int):=⟨_,rfl⟩
        rw [← hpi,← hqi] at pz
        have x3i:qi<4294967296:=by omega
        have x5i:rsi<pi:=by omega
        clear hrb hrs hrbj hrsi hp hpi x5
        rcases x4 with⟨x4,x6⟩| ⟨x4,x6⟩
        ·have x4i:4294967296≤rni:=by omega
         obtain rfl:q'i=Q0i:=by rw [HQN.out,x6,HQ0i.out]
         clear x6 x4 hrn hrni hqi hri hr hq hq'i x1 x2 x3
         go_wp2_with fail
         go_ret2
         exact⟨rfl,0,rfl⟩
        ·have HK2:=hideS x6
         clear x6
         have x4i:rni<4294967296:=by omega
         clear hrn hrni hqi hri hq'i
         go_wp2_with fail
         go_round
         case rel=>exact⟨q',rn,q'i,rni,rfl,rfl,HQN,HRN,x4,by omega,HK2⟩
         case measure=>have:=HQI.out;have:=HQN.out;simp [intOf];omega
    ·have HK2:=hideS x6
     clear x6
     have x4i:rni<4294967296:=by omega
     clear hrn hrni hqi hri hq'i
     go_wp2_with fail
     go_round
     case rel=>exact⟨q',rn,q'i,rni,rfl,rfl,HQN,HRN,x4,by omega,HK2⟩
     case measure=>have:=HQI.out;have:=HQN.out;simp [intOf];omega
   ·have pz:=cJ (q:=q) (y0:=y0) x3 hy0
    obtain⟨p,hp⟩:∃ p,q*y0=p:=⟨_,rfl⟩
    rw [hp] at pz x5
    obtain⟨pi,hpi⟩:∃ pi:Int,pi=(p:Int):=⟨_,rfl⟩
    rw [← hpi,← hqi] at pz
    have x3i:qi<4294967296:=by omega
    have x5i:rsi<pi:=by omega
    clear hrb hrs hrbj hrsi hp hpi x5
    rcases x4 with⟨x4,x6⟩| ⟨x4,x6⟩
    ·have x4i:4294967296≤rni:=by omega
     obtain rfl:q'i=Q1i:=by rw [HQN.out,x6,HQ1i.out]
     clear x6 x4 hrn hrni hqi hri hr hq hq'i x1 x2 x3
     go_wp2_with fail
     go_loop [16,18] (fun sr sq=>∃ (q r:Nat) (qi ri:Int),sq=.int .u64 qi∧sr=.int .u64 ri∧Hid (qi=(q:Int))∧Hid (ri=(r:Int))∧r<4294967296∧q≤4294967297∧Hid (KL 4294967296 y1 y0 R1 u0 q r)) (fun _ sq=>(intOf sq).toNat)
     case atStart=>exact⟨qb,rb0,qbi,rbi,rfl,rfl,HQB,HRB,hrb0,hqb,HS2⟩
     case round=>
      obtain⟨q,r,qi,ri,rfl,rfl,HQI,HRI,hr,hq,HKL⟩:=hrel
      have HC:=hideS (HC2.out q r HKL.out hq)
      clear HKL
      have hqi:=HQI.out
      have hri:=HRI.out
      obtain⟨rn,hrn⟩:∃ rn,r+y1=rn:=⟨_,rfl⟩
      obtain⟨rb,hrb⟩:∃ rb,4294967296*r=rb:=⟨_,rfl⟩
      obtain⟨rs,hrs⟩:∃ rs,rb+u0=rs:=⟨_,rfl⟩
      obtain⟨rbj,hrbj⟩:∃ rbj:Int,rbj=(rb:Int):=⟨_,rfl⟩
      obtain⟨rsi,hrsi⟩:∃ rsi:Int,rsi=(rs:Int):=⟨_,rfl⟩
      obtain⟨rni,hrni⟩:∃ rni:Int,rni=(rn:Int):=⟨_,rfl⟩
      have HRN:=hideS hrni
      have r1:IntKind.u64.wrap (4294967296*ri)=rbj:=by rw [IntKind.wrap_u64];omega
      have r2:IntKind.u64.wrap (rbj+(u0:Int))=rsi:=by rw [IntKind.wrap_u64];omega
      have m2:IntKind.u64.wrap (ri+(y1:Int))=rni:=by rw [IntKind.wrap_u64];omega
      rw [hrn,hrb,hrs] at HC
      rcases HC.out with⟨x1,x2,x3⟩| ⟨q',x1,x2,x3,x4⟩
      ·have pz:=cJ (q:=q) (y0:=y0) x1 hy0
       obtain⟨p,hp⟩:∃ p,q*y0=p:=⟨_,rfl⟩
       rw [hp] at pz x2
       obtain⟨pi,hpi⟩:∃ pi:Int,pi=(p:Int):=⟨_,rfl⟩
       rw [← hpi,← hqi] at pz
       have x1i:qi<4294967296:=by omega
       have x2i:¬ (rsi<pi):=by omega
       obtain rfl:qi=Q0i:=by rw [HQI.out,x3,HQ0i.out]
       clear HC hrn hrb hrs hrbj hrsi hrni hpi hp x1 x2 x3 hqi hri hr hq
       go_wp2_with fail
       go_ret2
       exact⟨rfl,0,rfl⟩
      ·obtain⟨q'i,hq'i⟩:∃ q'i:Int,q'i=(q':Int):=⟨_,rfl⟩
       have HQN:=hideS hq'i
       have m1:IntKind.u64.wrap (qi - 1)=q'i:=by rw [IntKind.wrap_u64];omega
       clear HC
       rcases x3 with x3 | ⟨x3,x5⟩
       ·have x3i:4294967296≤qi:=by omega
        clear hrb hrs hrbj hrsi
        rcases x4 with⟨x4,x6⟩| ⟨x4,x6⟩
        ·have x4i:4294967296≤rni:=by omega
         obtain rfl:q'i=Q0i:=by rw [HQN.out,x6,HQ0i.out]
         clear x6 x4 hrn hrni hqi hri hr hq hq'i x1 x2 x3
         go_wp2_with fail
         go_ret2
         exact⟨rfl,0,rfl⟩
        ·have HK2:=hideS x6
         clear x6
         have x4i:rni<4294967296:=by omega
         clear hrn hrni hqi hri hq'i
         go_wp2_with fail
         go_round
         case rel=>exact⟨q',rn,q'i,rni,rfl,rfl,HQN,HRN,x4,by omega,HK2⟩
         case measure=>have:=HQI.out;have:=HQN.out;simp [intOf];omega
       ·have pz:=cJ (q:=q) (y0:=y0) x3 hy0
        obtain⟨p,hp⟩:∃ p,q*y0=p:=⟨_,rfl⟩
        rw [hp] at pz x5
        obtain⟨pi,hpi⟩:∃ pi:Int,pi=(p:Int):=⟨_,rfl⟩
        rw [← hpi,← hqi] at pz
        have x3i:qi<4294967296:=by omega
        have x5i:rsi<pi:=by omega
        clear hrb hrs hrbj hrsi hp hpi x5
        rcases x4 with⟨x4,x6⟩| ⟨x4,x6⟩
        ·have x4i:4294967296≤rni:=by omega
         obtain rfl:q'i=Q0i:=by rw [HQN.out,x6,HQ0i.out]
         clear x6 x4 hrn hrni hqi hri hr hq hq'i x1 x2 x3
         go_wp2_with fail
         go_ret2
         exact⟨rfl,0,rfl⟩
        ·have HK2:=hideS x6
         clear x6
         have x4i:rni<4294967296:=by omega
         clear hrn hrni hqi hri hq'i
         go_wp2_with fail
         go_round
         case rel=>exact⟨q',rn,q'i,rni,rfl,rfl,HQN,HRN,x4,by omega,HK2⟩
         case measure=>have:=HQI.out;have:=HQN.out;simp [intOf];omega
    ·have HK2:=hideS x6
     clear x6
     have x4i:rni<4294967296:=by omega
     clear hrn hrni hqi hri hq'i
     go_wp2_with fail
     go_round
     case rel=>exact⟨q',rn,q'i,rni,rfl,rfl,HQN,HRN,x4,by omega,HK2⟩
     case measure=>have:=HQI.out;have:=HQN.out;simp [intOf];omega
end Go.Proofs.YtjjlnmihkadlmaaGreat.A
namespace Go.Proofs.YtjjlnmihkadlmaaGreat.A
open Go.RowKit

theorem pc {M d:Nat} (hd:0<d) (hd2:d<18446744073709551616):FA M d:=by
 intro j y w hy
 have hyb:y<18446744073709551616:=by rw [hy];exact Nat.mod_lt _ (by decide)
 by_cases h0:M / 2^(64*(j+1)) % d=0
 ·rw [h0,Nat.zero_mul,Nat.zero_add]
  exact vA y d w hd hyb
 ·exact zF _ y d w h0 (Nat.mod_lt _ hd) hd2 hyb
end Go.Proofs.YtjjlnmihkadlmaaGreat.A
