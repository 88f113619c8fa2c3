/-  -/
import Derived.Test.YtjjlnmihkadlmaaGreatHap
import Derived.Deep.QuietTactic
import Derived.BigQuiet
import Derived.RegionTactic
import Derived.Deep.RegionHeld3
import Derived.Deep.RegionLaw
namespace Go.Proofs.YtjjlnmihkadlmaaGreat
open Go.RowKit

theorem mE {ops:Array Oper} {o:Oper} {a:Act} {w:World} {K:Act→World→Prop} {Q:Exit→Act→World→Prop} {E:Prop} (hgd:o.guard=none) (s x:Operand)
  (ho:o.op=.call { callee:=.builtin .append,args:=#[s,x],argTypes:=#[29,29] })
  (base:Nat) (v:Value) (n:Nat) (xs:List Flw) (hs:a.eval s=v) (hown:w.ownsRow base 104 3 v n (aA aB xs)) (hb:base≤w.heap.size)
  (g:Nat) (z:Flw) (hx:a.eval x=.slice (some ⟨g,0,none⟩) 1 1) (hc:FCells aB w g 0 z) (hn:(n+1)*24≤140737488355328)
  (h:∀ v' w',w'.ownsRow base 104 3 v' (n+1) (aA aB (xs++[z]))→Below base w w'→K (a.put o.dst v') w') :
  if Region.wanted o (yielded ops a.tmps)=true then Oper.wp Tryz.prog o a w K Q else E:=by
 have hw:Region.wanted o (yielded ops a.tmps)=true:=by simp [Region.wanted,hgd]
 rw [if_pos hw]
 obtain⟨i0,hi,hz0,hz1,hz2⟩:=info_parts CK
 refine wp_append_own w s x 29 ho base 104 i0 (.agg #[.int .i64 0,aB 0,.int .i64 0]) 3 24 Tryz.underlying29 hi hz0 hz1 hz2 rfl (by decide) v n (aA aB xs) hs hown ⟨g,0,none⟩ 1 1 (aA aB [z]) hx (by rw [cV];rfl) ?_ (iz (fun _=>rfl) [z]) (by unfold maxLen;omega) (by omega) hb ?_
 ·intro j u hj
  have hlt:j<3:=by
   have:=(List.getElem?_eq_some_iff.1 hj).1
   rw [cV] at this
   exact this
  rw [Addr.add_lit]
  rcases (show j=0∨j=1∨j=2 by omega) with rfl | rfl | rfl
  ·rw [← hj];exact hc.c0
  ·rw [← hj];exact hc.c1
  ·rw [← hj];exact hc.c2
 ·intro v' w' h1 h2 _
  refine h v' w' ?_ (eP hown h2 hb)
  rw [cW];exact h1
theorem vG (w:World) (f:Flw):FCells aB (w.alloc (.cells #[.int .i64 f.day,.int .u64 (f.am:Int),.int .i64 f.cur] 104)) w.heap.size 0 f:=
 ⟨by simp,by simp [aB],by simp⟩
theorem Er (l:List Flw):jt id l l.length=l:=by rw [zL];simp

set_option maxRecDepth 20000 in
set_option maxHeartbeats 6400000 in
theorem ku (l:List Flw) (p:Option Addr) (b off c N:Nat) (w:World) (hl:JSrc aF w p b off l) (hN:l.length=N) (hc:N*24≤140737488355328) :
  Calls Tryz.prog 11 #[.slice p N c] w fun e w'=>(∃ u,e=.returned u∧w'.ownsRow w.heap.size 104 3 u N (aA aB l))∧Below w.heap.size w w':=by
 have HN:=hideS hN
 have HQ:=hideS hl
 have HP:Hid (0<N→p=some ⟨b,off,none⟩):=fun h=>hl.at_ (by omega)
 have HC:=hideS hc
 have hc2:N≤140737488355328:=by omega
 have HO0:=hideS (ef aB w w.heap.size 104)
 clear hl hN hc
 go_enter Tryz.func11,Tryz.ntmps11
 go_wp2_with fail
 go_loopw [3,4] (fun g i wr=>∃ (k:Nat) (q:Option Addr) (cp:Nat),k≤N∧i=.int .i64 k∧g=.slice q k cp∧Hid (wr.ownsRow w.heap.size 104 3 (.slice q k cp) k (aA aB (jt id l k)))∧Hid (Below w.heap.size w wr)) (fun _ i _=>N - (intOf i).toNat)
 case atStart=>exact⟨0,none,0,Nat.zero_le _,rfl,rfl,HO0,Below.refl _ _⟩
 case round=>
  clear HO0
  obtain⟨k,q,cp,hk,rfl,rfl,HO,HB⟩:=hrel
  by_cases hlt:k<N
  ·obtain rfl:=HP.out (by omega)
   obtain⟨c0,c1,c2⟩:=(HQ.out.below HB.out).cell k (by rw [HN.out];exact hlt)
   have hbl:b<wr.heap.size:=Nat.lt_of_lt_of_le (HQ.out.lt (by rw [HN.out];omega)) HB.out.size
   have HS:Hid (jt id l (k+1)=jt id l k++[l.getD k an]):=xk id l k
   obtain⟨f,hf⟩:∃ f,l.getD k an=f:=⟨_,rfl⟩
   rw [hf] at HS c0 c1 c2
   clear hf
   obtain⟨qd,qa,qc⟩:=f
   dsimp only [aF] at *
   have hbn:b≠wr.heap.size:=Nat.ne_of_lt hbl
   have HBw:=hideS ((Below.refl wr.heap.size wr).drew.alloc (Nat.le_refl _) (.cells #[.int .i64 qd,.int .u64 (qa:Int),.int .i64 qc] 104))
   have HO4:=hideS (aL HO.out HBw.out)
   have HB4:=hideS (HB.out.trans (HBw.out.mono HB.out.size))
   have HFc:Hid (FCells aB (wr.drew.alloc (.cells #[.int .i64 qd,.int .u64 (qa:Int),.int .i64 qc] 104)) wr.heap.size 0 ⟨qd,qa,qc⟩):=vG wr.drew ⟨qd,qa,qc⟩
   have g3:(0:Int)≤(k:Int):=by omega
   have g4:(k:Int)<(N:Int):=by omega
   go_wp2_with fail
   go_region_law (first | (go_simp;go_at_call 32;refine (turned (dt _ _)).mono ?_;rintro e wb ⟨rfl,rfl⟩) | (refine mE rfl (.tmp 11) (.tmp 29) rfl w.heap.size (.slice q k cp) k (jt id l k) rfl HO4.out HB4.out.size wr.heap.size ⟨qd,qa,qc⟩ rfl HFc.out (by have:=HC.out;omega) ?_;intro v5 w5 ho5 hb5;rw [← HS.out] at ho5;have HB5:=hideS (HB4.out.trans hb5);obtain⟨q5,g5,k5,hv5,_,_,_,hm5⟩:=av ho5 (zK _ _ _);subst hv5;have HO5:=hideS ho5;clear ho5 hb5))
   all_goals
    go_wp2_with fail
    go_roundw
    case rel=>exact⟨k+1,q5,k5,by omega,by go_num,rfl,HO5,HB5⟩
    case measure=>simp [intOf];omega
  ·obtain rfl:k=N:=by omega
   go_wp2_with fail
   go_ret
   refine⟨⟨_,rfl,?_⟩,HB.out⟩
   have:=HO.out
   rw [← HN.out,Er,HN.out] at this
   exact this
end Go.Proofs.YtjjlnmihkadlmaaGreat
namespace Go.Proofs.YtjjlnmihkadlmaaGreat
open Go.RowKit

theorem vH (a:Nat):df (a:Int) (a:Int)=true:=by
 unfold df;simp
set_option maxRecDepth 20000 in
set_option maxHeartbeats 6400000 in
theorem gg (l:List Flw) (p q:Option Addr) (b off c b2 off2 c2 N:Nat) (w:World) (hl:JSrc aF w p b off l) (hm:JSrc aB w q b2 off2 l) (hN:l.length=N) (hc:N≤9223372036854775807) (hf:dL l) :
  Calls Tryz.prog 15 #[.slice p N c,.slice q N c2] w fun e w'=>e=.returned (.bool true)∧Below w.heap.size w w':=by
 have HN:=hideS hN
 have HQ:=hideS hl
 have HQ2:=hideS hm
 have HF:=hideS hf
 have HP:Hid (0<N→p=some ⟨b,off,none⟩ ∧q=some ⟨b2,off2,none⟩):=fun h=>⟨hl.at_ (by omega),hm.at_ (by omega)⟩
 clear hl hm hN hf
 go_enter Tryz.func15,Tryz.ntmps15
 go_wp2_with fail
 go_loopw [5] (fun i wr=>∃ k:Nat,k≤N∧i=.int .i64 k∧Hid (∃ n,wr=w.drewN n)) (fun i _=>N - (intOf i).toNat)
 case atStart=>exact⟨0,Nat.zero_le _,rfl,0,rfl⟩
 case round=>
  obtain⟨k,hk,rfl,HW⟩:=hrel
  have HB:Hid (Below w.heap.size w wr):=by obtain⟨n,rfl⟩:=HW.out;exact⟨rfl,rfl,rfl,Nat.le_refl _,fun _ _=>rfl⟩
  by_cases hlt:k<N
  ·obtain⟨rfl,rfl⟩:=HP.out (by omega)
   obtain⟨c0,c1,c2'⟩:=(HQ.out.below HB.out).cell k (by rw [HN.out];exact hlt)
   obtain⟨d0,d1,d2⟩:=(HQ2.out.below HB.out).cell k (by rw [HN.out];exact hlt)
   have HSm:=hideS fun wx=>qH ((l.getD k an).am:Int) ((l.getD k an).am:Int) wx (by have:=HF.out k;unfold U64;omega) (by have:=HF.out k;unfold U64;omega)
   rw [vH] at HSm
   obtain⟨f,hf⟩:∃ f,l.getD k an=f:=⟨_,rfl⟩
   rw [hf] at c0 c1 c2' d0 d1 d2 HSm
   clear hf
   obtain⟨qd,qa,qc⟩:=f
   dsimp only [aF,aB] at *
   have g3:(0:Int)≤(k:Int):=by omega
   have g4:(k:Int)<(N:Int):=by omega
   have e1:(qd !=qd)=false:=by simp
   have e2:(qc !=qc)=false:=by simp
   go_wp2_with fail
   go_quiet (first | (go_at_call 32;exact Calls.quiet_of_same (dt _ _)) | (go_at_call 51;exact Calls.quiet_of_same (HSm.out _)))
   all_goals
    go_wp2_with fail
    go_roundw
    case rel=>exact⟨k+1,by omega,by go_num,by obtain⟨n,rfl⟩:=HW.out;exact⟨n+_,by simp [World.drewN,Nat.add_assoc];rfl⟩⟩
    case measure=>simp [intOf];omega
  ·obtain rfl:k=N:=by omega
   go_wp2_with fail
   go_ret
   exact⟨rfl,HB.out⟩
end Go.Proofs.YtjjlnmihkadlmaaGreat
