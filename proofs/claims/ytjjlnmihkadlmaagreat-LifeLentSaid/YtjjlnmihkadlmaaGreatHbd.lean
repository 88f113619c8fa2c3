/-  -/
import Derived.Test.YtjjlnmihkadlmaaGreatHar
import Derived.Deep.QuietTactic
import Derived.BigQuiet
import Derived.RegionTactic
import Derived.Deep.RegionHeld3
import Derived.Deep.RegionLaw
namespace Go.Proofs.YtjjlnmihkadlmaaGreat
open Go.RowKit

theorem np {ops:Array Oper} {o:Oper} {a:Act} {w:World} {K:Act→World→Prop} {Q:Exit→Act→World→Prop} {E:Prop} (hgd:o.guard=none) (s x:Operand)
  (ho:o.op=.call { callee:=.builtin .append,args:=#[s,x],argTypes:=#[29,29] })
  (base:Nat) (v:Value) (n:Nat) (xs:List Flw) (hs:a.eval s=v) (hown:w.ownsRow base 104 3 v n (aw aB xs)) (hb:base≤w.heap.size)
  (g:Nat) (z:Flw) (hx:a.eval x=.slice (some ⟨g,0,none⟩) 1 1) (hc:FCells aB w g 0 z) (hn:(n+1)*24≤140737488355328)
  (h:∀ v' w',w'.ownsRow base 104 3 v' (n+1) (aw aB (xs++[z]))→Below base w w'→K (a.put o.dst v') w') :
  if Region.wanted o (yielded ops a.tmps)=true then Oper.wp Tryz.prog o a w K Q else E:=by
 have hw:Region.wanted o (yielded ops a.tmps)=true:=by simp [Region.wanted,hgd]
 rw [if_pos hw]
 obtain⟨i0,hi,hz0,hz1,hz2⟩:=info_parts pE
 refine wp_append_own w s x 29 ho base 104 i0 (.agg #[.int .i64 0,aB 0,.int .i64 0]) 3 24 Tryz.underlying29 hi hz0 hz1 hz2 rfl (by decide) v n (aw aB xs) hs hown ⟨g,0,none⟩ 1 1 (aw aB [z]) hx (by rw [ce];rfl) ?_ (iR (fun _=>rfl) [z]) (by unfold maxLen;omega) (by omega) hb ?_
 ·intro j u hj
  have hlt:j<3:=by
   have:=(List.getElem?_eq_some_iff.1 hj).1
   rw [ce] at this
   exact this
  rw [Addr.add_lit]
  rcases (show j=0∨j=1∨j=2 by omega) with rfl | rfl | rfl
  ·rw [← hj];exact hc.c0
  ·rw [← hj];exact hc.c1
  ·rw [← hj];exact hc.c2
 ·intro v' w' h1 h2 _
  refine h v' w' ?_ (bm hown h2 hb)
  rw [cE];exact h1
theorem fl (w:World) {ops:Array Oper} {rest:List Oper} {o:Oper} {a:Act} {Q:Exit→Act→World→Prop} (hgd:o.guard=none) (s x:Operand)
  (ho:o.op=.call { callee:=.builtin .append,args:=#[s,x],argTypes:=#[29,29] })
  (base:Nat) (v:Value) (n:Nat) (xs:List Flw) (hs:a.eval s=v) (hown:w.ownsRow base 104 3 v n (aw aB xs)) (hb:base≤w.heap.size)
  (g:Nat) (z:Flw) (hx:a.eval x=.slice (some ⟨g,0,none⟩) 1 1) (hc:FCells aB w g 0 z) (hn:(n+1)*24≤140737488355328)
  (h:∀ v' w',w'.ownsRow base 104 3 v' (n+1) (aw aB (xs++[z]))→Below base w w'→wpList Tryz.prog ops Q rest (a.put o.dst v') w'):wpList Tryz.prog ops Q (o::rest) a w:=
 eJ aB (fun _=>rfl) 29 104 Tryz.underlying29 pE rfl w hgd s x ho base v n xs hs hown g 0 1 [z] hx (fun i hi=>by
  obtain rfl:i=0:=by simp at hi;omega
  exact hc) hn hb (fun v' w' h1 h2=>h v' w' h1 (bm hown h2 hb))
theorem iN (w:World) (f:Flw):FCells aB (w.alloc (.cells #[.int .i64 f.day,.int .u64 (f.am:Int),.int .i64 f.cur] 104)) w.heap.size 0 f:=
 ⟨by simp,by simp [aB],by simp⟩
theorem Fp (l:List Flw):jH id l l.length=l:=by rw [Az];simp

set_option maxRecDepth 20000 in
set_option maxHeartbeats 6400000 in
theorem kK (l:List Flw) (p:Option Addr) (b off c N:Nat) (w:World) (hl:JSrc aF w p b off l) (hN:l.length=N) (hc:N*24≤140737488355328) :
  Calls Tryz.prog 11 #[.slice p N c] w fun e w'=>(∃ u,e=.returned u∧w'.ownsRow w.heap.size 104 3 u N (aw aB l))∧Below w.heap.size w w':=by
 have HN:=hideS hN
 have HQ:=hideS hl
 have HP:Hid (0<N→p=some ⟨b,off,none⟩):=fun h=>hl.at_ (by omega)
 have HC:=hideS hc
 have hc2:N≤140737488355328:=by omega
 have HO0:=hideS (cL aB w w.heap.size 104)
 clear hl hN hc
 go_enter Tryz.func11,Tryz.ntmps11
 go_wp2_with fail
 go_loopw [3,4] (fun g i wr=>∃ (k:Nat) (q:Option Addr) (cp:Nat),k≤N∧i=.int .i64 k∧g=.slice q k cp∧Hid (wr.ownsRow w.heap.size 104 3 (.slice q k cp) k (aw aB (jH id l k)))∧Hid (Below w.heap.size w wr)) (fun _ i _=>N - (intOf i).toNat)
 case atStart=>exact⟨0,none,0,Nat.zero_le _,rfl,rfl,HO0,Below.refl _ _⟩
 case round=>
  clear HO0
  obtain⟨k,q,cp,hk,rfl,rfl,HO,HB⟩:=hrel
  by_cases hlt:k<N
  ·obtain rfl:=HP.out (by omega)
   obtain⟨c0,c1,c2⟩:=(HQ.out.below HB.out).cell k (by rw [HN.out];exact hlt)
   have hbl:b<wr.heap.size:=Nat.lt_of_lt_of_le (HQ.out.lt (by rw [HN.out];omega)) HB.out.size
   have HS:Hid (jH id l (k+1)=jH id l k++[l.getD k ak]):=xR id l k
   obtain⟨f,hf⟩:∃ f,l.getD k ak=f:=⟨_,rfl⟩
   rw [hf] at HS c0 c1 c2
   clear hf
   obtain⟨qd,qa,qc⟩:=f
   dsimp only [aF] at *
   have hbn:b≠wr.heap.size:=Nat.ne_of_lt hbl
   have HBw:=hideS ((Below.refl wr.heap.size wr).drew.alloc (Nat.le_refl _) (.cells #[.int .i64 qd,.int .u64 (qa:Int),.int .i64 qc] 104))
   have HO4:=hideS (ap HO.out HBw.out)
   have HB4:=hideS (HB.out.trans (HBw.out.mono HB.out.size))
   have HFc:Hid (FCells aB (wr.drew.alloc (.cells #[.int .i64 qd,.int .u64 (qa:Int),.int .i64 qc] 104)) wr.heap.size 0 ⟨qd,qa,qc⟩):=iN wr.drew ⟨qd,qa,qc⟩
   have g3:(0:Int)≤(k:Int):=by omega
   have g4:(k:Int)<(N:Int):=by omega
   go_wp2_with fail
   go_region_law (first | (go_simp;go_at_call 32;refine (turned (iP _ _)).mono ?_;rintro e wb ⟨rfl,rfl⟩) | (refine np rfl (.tmp 11) (.tmp 29) rfl w.heap.size (.slice q k cp) k (jH id l k) rfl HO4.out HB4.out.size wr.heap.size ⟨qd,qa,qc⟩ rfl HFc.out (by have:=HC.out;omega) ?_;intro v5 w5 ho5 hb5;rw [← HS.out] at ho5;have HB5:=hideS (HB4.out.trans hb5);obtain⟨q5,g5,k5,hv5,_,_,_,hm5⟩:=av ho5 (Ay _ _ _);subst hv5;have HO5:=hideS ho5;clear ho5 hb5))
   all_goals
    go_wp2_with fail
    go_roundw
    case rel=>exact⟨k+1,q5,k5,by omega,by go_num,rfl,HO5,HB5⟩
    case measure=>simp [intOf];omega
  ·obtain rfl:k=N:=by omega
   go_wp2_with fail
   go_ret
   refine⟨⟨_,rfl,?_⟩,HB.out⟩
   have:=HO.out
   rw [← HN.out,Fp,HN.out] at this
   exact this
end Go.Proofs.YtjjlnmihkadlmaaGreat
namespace Go.Proofs.YtjjlnmihkadlmaaGreat
open Go.RowKit

theorem jG (n:Int) (w:World) :
  Calls Tryz.prog 43 #[.int .i64 n] w fun e w'=>e=.returned (.bool (decide (1≤n∧n≤8)))∧w'=w:=by
 by_cases h1:1≤n<;>by_cases h2:n≤8
 all_goals
  first | rw [decide_eq_true (⟨h1,h2⟩:1≤n∧n≤8)] | rw [decide_eq_false (fun h:1≤n∧n≤8=>by omega)]
  go_enter Tryz.func43,Tryz.ntmps43
  go_wp2
  go_ret
  exact⟨rfl,rfl⟩
set_option maxRecDepth 20000 in
set_option maxHeartbeats 3200000 in
theorem nr (l:List Flw) (p:Option Addr) (b off c N:Nat) (E K:Int) (w:World) (hl:JSrc aB w p b off l) (hN:l.length=N) (hc:N≤9223372036854775807) (hf:dm l) (hE:ChkF l E K) :
  Calls Tryz.prog 42 #[.slice p N c] w fun e w'=>e=.returned (.tuple #[.int .i64 E,.int .i64 K])∧Below w.heap.size w w':=by
 have HN:=hideS hN
 have HE:=hideS hE
 have HQ:=hideS hl
 have HF:=hideS hf
 by_cases hm:4096<N
 ·obtain⟨rfl,rfl⟩:=aj hE (.many (by omega))
  clear hE hl hN hf
  go_enter Tryz.func42,Tryz.ntmps42
  go_wp2
  go_ret2
  exact⟨rfl,Below.refl _ _⟩
 ·have HP:Hid (0<N→p=some ⟨b,off,none⟩):=fun h=>hl.at_ (by omega)
  clear hE hl hN hf
  go_enter Tryz.func42,Tryz.ntmps42
  go_wp2_with fail
  go_loopw [4] (fun i wr=>∃ k:Nat,k≤N∧i=.int .i64 k∧Hid (∀ j<k,dl (l.getD j ak)=0)∧Hid (Below w.heap.size w wr)) (fun i _=>N - (intOf i).toNat)
  case atStart=>exact⟨0,Nat.zero_le _,rfl,fun j hj=>by omega,Below.refl _ _⟩
  case round=>
   obtain⟨k,hk,rfl,HFi,HB⟩:=hrel
   by_cases hlt:k<N
   ·obtain rfl:=HP.out (by omega)
    obtain⟨c0,c1,c2⟩:=(HQ.out.below HB.out).cell k (by rw [HN.out];exact hlt)
    have HFk:=hideS (HF.out k)
    obtain⟨F,hF⟩:∃ F,dl (l.getD k ak)=F:=⟨_,rfl⟩
    have HFe:=hideS hF
    have HFd:Hid ((if ¬ (0≤(l.getD k ak).day∧(l.getD k ak).day≤109572) then 51 else if bL (l.getD k ak).am=false then 91 else if ¬ (1≤(l.getD k ak).cur∧(l.getD k ak).cur≤8) then 140 else 0)=F):=hF
    clear hF
    have HEK:Hid (F≠0→F=E∧(k:Int)=K):=fun hz=>aj (.bad (by rw [HN.out];omega) k (by rw [HN.out];exact hlt) F HFe.out hz HFi.out) HE.out
    have HFi2:Hid (F=0→∀ j<k+1,dl (l.getD j ak)=0):=fun hz j hj=>by
     by_cases c:j<k
     ·exact HFi.out j c
     ·obtain rfl:j=k:=by omega
      rw [HFe.out];exact hz
    obtain⟨q,hq⟩:∃ q,l.getD k ak=q:=⟨_,rfl⟩
    rw [hq] at c0 c1 c2 HFd HFk
    clear hq HFe
    obtain⟨qd,qa,qc⟩:=q
    dsimp only [aB] at *
    have HNm:=hideS fun wx=>uq (qa:Int) wx (by have:=HFk.out;unfold U64;omega)
    have HCu:=hideS fun wx=>jG qc wx
    by_cases h1:0≤qd
    ·by_cases h2:qd≤109572
     ·rw [if_neg (not_not_intro ⟨h1,h2⟩)] at HFd
      cases h3:bL (qa:Int)
      ·rw [h3] at HNm HFd
       have HF9:F=91:=HFd.out.symm
       have h9:=HEK.out (by rw [HF9];decide)
       rw [HF9] at h9
       have HE9:=hideS h9
       clear HFd HF9 h9 h3 HEK HFi2
       go_wp2_with fail
       refine (HNm.out _).mono ?_
       rintro e w' ⟨rfl,rfl⟩
       go_wp2_with fail
       go_ret2
       obtain⟨rfl,rfl⟩:=HE9.out
       exact⟨rfl,HB.out⟩
      ·rw [h3] at HNm HFd
       rw [if_neg (by simp)] at HFd
       by_cases h4:1≤qc∧qc≤8
       ·rw [if_neg (not_not_intro h4)] at HFd
        rw [decide_eq_true h4] at HCu
        replace HFi2:=hideS (HFi2.out HFd.out.symm)
        clear HFd h3 h4 HEK
        go_wp2_with fail
        refine (HNm.out _).mono ?_
        rintro e w' ⟨rfl,rfl⟩
        go_wp2_with fail
        refine (HCu.out _).mono ?_
        rintro e w' ⟨rfl,rfl⟩
        go_wp2_with fail
        go_roundw
        case rel=>exact⟨k+1,by omega,by simp,HFi2,HB⟩
        case measure=>simp [intOf];omega
       ·rw [if_pos h4] at HFd
        rw [decide_eq_false h4] at HCu
        have HF9:F=140:=HFd.out.symm
        have h9:=HEK.out (by rw [HF9];decide)
        rw [HF9] at h9
        have HE9:=hideS h9
        clear HFd HF9 h9 h3 h4 HEK HFi2
        go_wp2_with fail
        refine (HNm.out _).mono ?_
        rintro e w' ⟨rfl,rfl⟩
        go_wp2_with fail
        refine (HCu.out _).mono ?_
        rintro e w' ⟨rfl,rfl⟩
        go_wp2_with fail
        go_ret2
        obtain⟨rfl,rfl⟩:=HE9.out
        exact⟨rfl,HB.out⟩
     ·rw [if_pos (fun h=>h2 h.2)] at HFd
      have HF9:F=51:=HFd.out.symm
      have h9:=HEK.out (by rw [HF9];decide)
      rw [HF9] at h9
      have HE9:=hideS h9
      clear HFd HF9 h9 HEK HFi2
      go_wp2_with fail
      go_ret2
      obtain⟨rfl,rfl⟩:=HE9.out
      exact⟨rfl,HB.out⟩
    ·rw [if_pos (fun h=>h1 h.1)] at HFd
     have HF9:F=51:=HFd.out.symm
     have h9:=HEK.out (by rw [HF9];decide)
     rw [HF9] at h9
     have HE9:=hideS h9
     clear HFd HF9 h9 HEK HFi2
     go_wp2_with fail
     go_ret2
     obtain⟨rfl,rfl⟩:=HE9.out
     exact⟨rfl,HB.out⟩
   ·obtain rfl:k=N:=by omega
    have hEK:(0:Int)=E∧(0:Int)=K:=aj (.fine (by rw [HN.out];omega) (by rw [HN.out];exact HFi.out)) HE.out
    have HEK:=hideS hEK
    clear hEK
    go_wp2_with fail
    go_ret2
    obtain⟨rfl,rfl⟩:=HEK.out
    exact⟨rfl,HB.out⟩
end Go.Proofs.YtjjlnmihkadlmaaGreat
namespace Go.Proofs.YtjjlnmihkadlmaaGreat
open Go.RowKit

theorem wG (a:Nat):dA (a:Int) (a:Int)=true:=by
 unfold dA;simp
set_option maxRecDepth 20000 in
set_option maxHeartbeats 6400000 in
theorem ed (l:List Flw) (p q:Option Addr) (b off c b2 off2 c2 N:Nat) (w:World) (hl:JSrc aF w p b off l) (hm:JSrc aB w q b2 off2 l) (hN:l.length=N) (hc:N≤9223372036854775807) (hf:dm l) :
  Calls Tryz.prog 15 #[.slice p N c,.slice q N c2] w fun e w'=>e=.returned (.bool true)∧Below w.heap.size w w':=by
 have HN:=hideS hN
 have HQ:=hideS hl
 have HQ2:=hideS hm
 have HF:=hideS hf
 have HP:Hid (0<N→p=some ⟨b,off,none⟩ ∧q=some ⟨b2,off2,none⟩):=fun h=>⟨hl.at_ (by omega),hm.at_ (by omega)⟩
 clear hl hm hN hf
 go_enter Tryz.func15,Tryz.ntmps15
 go_wp2_with fail
 go_loopw [5] (fun i wr=>∃ k:Nat,k≤N∧i=.int .i64 k∧Hid (∃ n,wr=w.drewN n)) (fun i _=>N - (intOf i).toNat)
 case atStart=>exact⟨0,Nat.zero_le _,rfl,0,rfl⟩
 case round=>
  obtain⟨k,hk,rfl,HW⟩:=hrel
  have HB:Hid (Below w.heap.size w wr):=by obtain⟨n,rfl⟩:=HW.out;exact⟨rfl,rfl,rfl,Nat.le_refl _,fun _ _=>rfl⟩
  by_cases hlt:k<N
  ·obtain⟨rfl,rfl⟩:=HP.out (by omega)
   obtain⟨c0,c1,c2'⟩:=(HQ.out.below HB.out).cell k (by rw [HN.out];exact hlt)
   obtain⟨d0,d1,d2⟩:=(HQ2.out.below HB.out).cell k (by rw [HN.out];exact hlt)
   have HSm:=hideS fun wx=>rm ((l.getD k ak).am:Int) ((l.getD k ak).am:Int) wx (by have:=HF.out k;unfold U64;omega) (by have:=HF.out k;unfold U64;omega)
   rw [wG] at HSm
   obtain⟨f,hf⟩:∃ f,l.getD k ak=f:=⟨_,rfl⟩
   rw [hf] at c0 c1 c2' d0 d1 d2 HSm
   clear hf
   obtain⟨qd,qa,qc⟩:=f
   dsimp only [aF,aB] at *
   have g3:(0:Int)≤(k:Int):=by omega
   have g4:(k:Int)<(N:Int):=by omega
   have e1:(qd !=qd)=false:=by simp
   have e2:(qc !=qc)=false:=by simp
   go_wp2_with fail
   go_quiet (first | (go_at_call 32;exact Calls.quiet_of_same (iP _ _)) | (go_at_call 51;exact Calls.quiet_of_same (HSm.out _)))
   all_goals
    go_wp2_with fail
    go_roundw
    case rel=>exact⟨k+1,by omega,by go_num,by obtain⟨n,rfl⟩:=HW.out;exact⟨n+_,by simp [World.drewN,Nat.add_assoc];rfl⟩⟩
    case measure=>simp [intOf];omega
  ·obtain rfl:k=N:=by omega
   go_wp2_with fail
   go_ret
   exact⟨rfl,HB.out⟩
end Go.Proofs.YtjjlnmihkadlmaaGreat
