/-  -/
import Derived.Test.YtjjlnmihkadlmaaGreatHam
import Derived.Deep.RegionHeld3
import Derived.Test.YtjjlnmihkadlmaaGreatHac
import Derived.Deep.RegionWith
import Derived.Lib.MinMax
import Derived.Test.YtjjlnmihkadlmaaGreatHal
namespace Go.Proofs.YtjjlnmihkadlmaaGreat
open Go.RowKit

def jI (P:Program) (md:Region.Mode) (ops:Array Oper) (Q:Exit→Act→World→Prop) (S:World→Prop) (L:Nat→Bool):Nat→Array Bool→Act→World→Prop
 | 0,l,a,w=>Region.ready md ops l=[]∧Q .normal a w
 | f+1,l,a,w=>(Region.ready md ops l=[]→Q .normal a w)∧∀ i ∈ Region.ready md ops l,wpOp P ops Q i (fun a' w'=>(L i=false→S w')∧jI P md ops Q S L f (l.setIfInBounds i true) a' w') a w

variable {P:Program} {md:Region.Mode} {ops:Array Oper} {Q:Exit→Act→World→Prop} {S:World→Prop} {L:Nat→Bool}

theorem rv:∀ (f:Nat) (l:Array Bool) (a:Act) (w:World),jI P md ops Q S L f l a w→wpAny P md ops Q f l a w
 | 0,_,_,_,h=>h
 | f+1,_,_,_,h=>⟨h.1,fun i hi=>wpOp_mono (fun a w k=>rv f _ a w k.2) (h.2 i hi)⟩

def wN (md:Region.Mode) (ops:Array Oper) (l:Array Bool):Bool:=
 (List.range ops.size).all fun k=>!l.getD k false||((ops[k]?).map (·.after.all fun e=>!Region.binds md e||l.getD e.on false)).getD true
def Closed (md:Region.Mode) (ops:Array Oper) (l:Array Bool):Prop:=∀ k ok,ops[k]? =some ok→l.getD k false=true→∀ e ∈ ok.after,Region.binds md e=true→l.getD e.on false=true
theorem xS {l:Array Bool} (h:wN md ops l=true):Closed md ops l:=fun k ok hk hl e he hb=>by
 have hm:=List.all_eq_true.1 h k (List.mem_range.2 (Array.getElem?_eq_some_iff.1 hk).1)
 rw [hl,hk] at hm
 simp only [Bool.not_true,Bool.false_or,Option.map_some,Option.getD_some,Array.all_eq_true'] at hm
 have:=hm e he
 rw [hb] at this
 simpa using this
theorem ur {l:Array Bool} {j:Nat} (h:Closed md ops l) (hj:j ∈ Region.ready md ops l):Closed md ops (l.setIfInBounds j true):=fun k ok hk hl e he hb=>by
 by_cases c:j=k
 ·subst c
  obtain⟨_,oj,hoj,hall⟩:=mem_ready.1 hj
  rw [hk] at hoj
  obtain rfl:=Option.some.inj hoj
  exact getD_set_true (hall e he hb)
 ·rw [getD_set_ne false c] at hl
  exact getD_set_true (h k ok hk hl e he hb)
def pJ (md:Region.Mode) (ops:Array Oper):Nat→Nat→Nat→Bool
 | 0,_,_=>false
 | f+1,j,i=>((ops[j]?).map (·.after.any fun e=>Region.binds md e&&(e.on==i||pJ md ops f e.on i))).getD false
theorem iV {l:Array Bool} (h:Closed md ops l) {i:Nat}:∀ (f j:Nat),pJ md ops f j i=true→(∀ oj,ops[j]? =some oj→∀ e ∈ oj.after,Region.binds md e=true→l.getD e.on false=true)→l.getD i false=true
 | 0,_,hw,_=>by cases hw
 | f+1,j,hw,hd=>by
  unfold pJ at hw
  cases hj:ops[j]? with
  | none=>rw [hj] at hw;cases hw
  | some oj=>
   rw [hj] at hw
   simp only [Option.map_some,Option.getD_some,Array.any_eq_true'] at hw
   obtain⟨e,he,hb⟩:=hw
   rw [Bool.and_eq_true,Bool.or_eq_true,beq_iff_eq] at hb
   have h1:=hd oj hj e he hb.1
   rcases hb.2 with c | c
   ·rw [← c];exact h1
   ·exact iV h f e.on c (fun ok hk e' he' hb'=>h e.on ok hk h1 e' he' hb')
def AB (md:Region.Mode) (ops:Array Oper) (L:Nat→Bool) (i:Nat):Bool:=(List.range ops.size).all fun j=>!L j||pJ md ops 6 j i
theorem AC {i j:Nat} {l:Array Bool} (h:AB md ops L i=true) (hc:Closed md ops l) (hi:i ∈ Region.ready md ops l) (hj:j ∈ Region.ready md ops l):L j=false:=by
 cases hl:L j with
 | false=>rfl
 | true=>
  obtain⟨_,oj,hoj,hall⟩:=mem_ready.1 hj
  have hm:=List.all_eq_true.1 h j (List.mem_range.2 (Array.getElem?_eq_some_iff.1 hoj).1)
  rw [hl] at hm
  have h1:=iV hc 6 j (by simpa using hm) (fun ok hk e he hb=>by
   rw [hoj] at hk
   obtain rfl:=Option.some.inj hk
   exact hall e he hb)
  have h0:=(mem_ready.1 hi).1
  rcases Nat.lt_or_ge i l.size with h' | h'
  ·simp [h'] at h0 h1;rw [h0] at h1;cases h1
  ·simp [Array.getElem?_eq_none h'] at h1

theorem us {i:Nat} {oi:Oper} {v:Value} (hi:ops[i]? =some oi) (hs:Region.noSelect ops=true) (hl:AB md ops L i=true) (hQ:∀ c a w,Q (.panic c) (a.put oi.dst v) w→Q (.panic c) a w) :
  ∀ (f:Nat) (l:Array Bool) (a:Act) (w:World),Closed md ops l→(∀ j oj,ops[j]? =some oj→j≠i→l.getD j true=false→(∀ e ∈ oj.after,Region.binds md e=true→e.on≠i)→oi.apart ops oj=true)→
   i ∈ Region.ready md ops l→YieldsIf P ops S oi v a→S w→jI P md ops Q S L f (l.setIfInBounds i true) (a.put oi.dst v) w→jI P md ops Q S L (f+1) l a w:=by
 intro f
 induction f with
 | zero=>
  intro l a w _ _ hr hy hS H
  refine⟨fun h=>(by rw [h] at hr;cases hr),fun j hj=>?_⟩
  by_cases c:j=i
  ·subst c;exact hy.wpOp hi hS ⟨fun _=>hS,H⟩
  ·have:=ready_mono hj c
   rw [H.1] at this;cases this
 | succ f ih=>
  intro l a w hcl hfree hr hy hS H
  refine⟨fun h=>(by rw [h] at hr;cases hr),fun j hj=>?_⟩
  by_cases c:j=i
  ·subst c;exact hy.wpOp hi hS ⟨fun _=>hS,H⟩
  ·obtain⟨hun,oj,hoj,hall⟩:=mem_ready.1 hj
   have hno:∀ e ∈ oj.after,Region.binds md e=true→e.on≠i:=fun e he hb heq=>by
    have h1:=hall e he hb
    have h0:=(mem_ready.1 hr).1
    rw [heq] at h1
    rcases Nat.lt_or_ge i l.size with h' | h'
    ·simp [h'] at h0 h1;rw [h0] at h1;cases h1
    ·simp [Array.getElem?_eq_none h'] at h1
   have hLj:L j=false:=AC hl hcl hr hj
   have h2:=wpOp_putIf hoj (hfree j oj hoj c hun hno) (fun cs b=>Region.noSelect_spec hs i oi cs b hi) (fun cs b=>Region.noSelect_spec hs j oj cs b hoj) hQ hy (H.2 j (ready_mono hj c))
   refine wpOp_mono (fun a' w' h3=>⟨fun _=>h3.2.1 hLj,ih (l.setIfInBounds j true) a' w' (ur hcl hj) (fun k ok hk hki hu hn=>hfree k ok hk hki ?_ hn) (ready_mono hr (Ne.symm c)) h3.1 (h3.2.1 hLj) ?_⟩) h2
   ·by_cases hjk:j=k
    ·subst hjk;exact hun
    ·rw [getD_set_ne true hjk] at hu;exact hu
   ·rw [Array.setIfInBounds_comm _ _ c]
    exact h3.2.2
theorem aJ (i:Nat) {oi:Oper} (v:Value) {f:Nat} {l:Array Bool} {a:Act} {w:World} (hi:ops[i]? =some oi) (hs:Region.noSelect ops=true) (hl:AB md ops L i=true) (hc:wN md ops l=true) (hf:Region.free md ops l i=true) (hr:(Region.ready md ops l).contains i=true)
  (hQ:∀ c a w,Q (.panic c) (a.put oi.dst v) w→Q (.panic c) a w) (hw:Region.wanted oi (yielded ops a.tmps)=true) (hS:S w) (hy:∀ w,S w→(execOp a.eval oi).run P w=.ok (.value v) w)
  (h:jI P md ops Q S L f (l.setIfInBounds i true) (a.put oi.dst v) w):jI P md ops Q S L (f+1) l a w:=
 us hi hs hl hQ f l a w (xS hc) (Region.free_spec hi hf) (by simpa using hr) (Or.inl ⟨hw,hy⟩) hS h
theorem rx {i j:Nat} {f:Nat} {l:Array Bool} {a:Act} {w:World} (hr:Region.ready md ops l=[i,j])
  (h1:wpOp P ops Q i (fun a' w'=>(L i=false→S w')∧jI P md ops Q S L f (l.setIfInBounds i true) a' w') a w)
  (h2:wpOp P ops Q j (fun a' w'=>(L j=false→S w')∧jI P md ops Q S L f (l.setIfInBounds j true) a' w') a w):jI P md ops Q S L (f+1) l a w:=
 ⟨fun h=>(by rw [hr] at h;cases h),fun k hk=>by
  rw [hr] at hk
  rcases List.mem_cons.1 hk with rfl | hk
  ·exact h1
  ·rcases List.mem_cons.1 hk with rfl | hk
   ·exact h2
   ·cases hk⟩
theorem aL {i:Nat} {f:Nat} {l:Array Bool} {a:Act} {w:World} (hr:Region.ready md ops l=[i])
  (h1:wpOp P ops Q i (fun a' w'=>(L i=false→S w')∧jI P md ops Q S L f (l.setIfInBounds i true) a' w') a w):jI P md ops Q S L (f+1) l a w:=
 ⟨fun h=>(by rw [hr] at h;cases h),fun k hk=>by
  rw [hr] at hk
  rcases List.mem_cons.1 hk with rfl | hk
  ·exact h1
  ·cases hk⟩
theorem gG {f:Nat} {l:Array Bool} {a:Act} {w:World} (hr:Region.ready md ops l=[]) (h:Q .normal a w):jI P md ops Q S L f l a w:=by
 cases f with
 | zero=>exact⟨hr,h⟩
 | succ f=>exact⟨fun _=>h,by rw [hr];simp⟩
theorem fW {id:Nat} {a:Act} {w:World} (S:World→Prop) (L:Nat→Bool) (hm:P.follows .mixedOrders=true)
  (h:jI P .any ops Q S L ops.size (Array.replicate ops.size false) a w.drew):(Code.region id ops true).wp P Q a w:=
 wp_region_any hm (rv _ _ _ _ h)
end Go.Proofs.YtjjlnmihkadlmaaGreat
namespace Go.Proofs.YtjjlnmihkadlmaaGreat
open Go.RowKit

def bH (N n:Nat):Bool:=decide (N % 2^n≠0)
theorem xX (N:Nat):bH N 0=false:=by unfold bH;rw [Nat.pow_zero,Nat.mod_one];rfl
theorem xY (N k:Nat):bH N (32*(k+1))=(bH N (32*k)||decide (dgt N k≠0)):=by
 unfold bH
 rw [dM]
 have hp:=Nat.two_pow_pos (32*k)
 by_cases h1:N % 2^(32*k)=0
 ·by_cases h2:dgt N k=0
  ·simp [h1,h2]
  ·have:dgt N k*2^(32*k)≠0:=Nat.mul_ne_zero h2 (by omega)
   simp [h1,h2];exact this
 ·simp [h1]
theorem AN {N q r n:Nat} (hn:n=32*q+r) (hr:r<32):bH N n=(bH N (32*q)||decide (dgt N q % 2^r≠0)):=by
 unfold bH
 have e:N % 2^n=N % 2^(32*q)+2^(32*q)*(N / 2^(32*q) % 2^r):=by rw [hn,Nat.pow_add,Nat.mod_mul]
 have e2:dgt N q % 2^r=N / 2^(32*q) % 2^r:=by
  unfold dgt
  exact Nat.mod_mod_of_dvd _ (by rw [show (4294967296:Nat)=2^r*2^(32 - r) by rw [← Nat.pow_add,show r+(32 - r)=32 by omega]];exact Nat.dvd_mul_right _ _)
 rw [e,e2]
 have hp:=Nat.two_pow_pos (32*q)
 by_cases h1:N % 2^(32*q)=0
 ·by_cases h2:N / 2^(32*q) % 2^r=0
  ·simp [h1,h2]
  ·have:2^(32*q)*(N / 2^(32*q) % 2^r)≠0:=Nat.mul_ne_zero (by omega) h2
   simp [h1,h2];exact this
 ·simp [h1]
theorem uD (N q r n i:Nat) (hn:n=32*q+r) (hr:r<32):(dgt N (i+q)+dgt N (i+q+1)*4294967296) / 2^r % 4294967296=dgt (N / 2^n) i:=by
 have e1:dgt N (i+q)+dgt N (i+q+1)*4294967296=N / 2^(32*(i+q)) % (4294967296*4294967296):=by
  unfold dgt
  rw [eM,← Nat.div_div_eq_div_mul]
  rw [Nat.mod_mul,Nat.mul_comm 4294967296]
 rw [e1]
 unfold dgt
 have e2:N / 2^n / 2^(32*i)=N / 2^(32*(i+q)) / 2^r:=by
  rw [Nat.div_div_eq_div_mul,Nat.div_div_eq_div_mul,← Nat.pow_add,← Nat.pow_add];congr 2;omega
 rw [e2]
 generalize N / 2^(32*(i+q))=Y
 have e3:(4294967296*4294967296:Nat)=2^r*(4294967296*2^(32 - r)):=by
  rw [Nat.mul_left_comm,← Nat.pow_add,show r+(32 - r)=32 by omega]
 rw [e3,Nat.mod_mul_right_div_self]
 exact Nat.mod_mod_of_dvd _ (Nat.dvd_mul_right _ _)

theorem lw {r:Nat} (h:r<32):IntKind.u64.wrap (2^r)=((2^r:Nat):Int):=by
 have h3:(2:Nat)^r≤2^31:=Nat.pow_le_pow_right (by decide) (by omega)
 have e1:((2:Int)^r)=((2^r:Nat):Int):=by rw [Int.natCast_pow];rfl
 rw [e1,IntKind.wrap_u64]
 generalize 2^r=z at *
 omega

theorem oh (g m c N kk:Nat) (i:Int) (w:World) (hr:RowIs w g m N) (hN:N<2^(32*m)) (hi:Hid (i=kk)) :
  Calls Tryz.prog 161 #[.slice (some ⟨g,0,none⟩) m c,.int .i64 i] w fun e w'=>e=.returned (.int .u64 (dgt N kk:Int))∧w'=w:=by
 rw [hi.out]
 by_cases hk:kk<m
 ·exact rE g m c kk _ w hk (hr kk hk)
 ·rw [jL (Nat.lt_of_lt_of_le hN (Nat.pow_le_pow_right (by decide) (by omega)))];exact jM _ _ c kk w (by omega)

theorem wT {w:World} {g m N b j:Nat} {v:Value} (h:RowIs w g m N) (hb:b≠g):RowIs (w.setCell ⟨b,j,none⟩ v) g m N:=
 fun i hi=>(World.cell?_setCell_far w ⟨b,j,none⟩ ⟨g,i,none⟩ v hb).trans (h i hi)

theorem pO {v:Value} {a b:Bool} (h:a=b):Ending.returned (.tuple #[v,.bool a])=.returned (.tuple #[v,.bool b]):=by rw [h]
theorem DQ (D P:Nat):((D:Int) % (P:Int) !=0)=decide (D % P≠0):=by
 by_cases h:D % P=0
 ·have:(D:Int) % (P:Int)=0:=by rw [← Int.natCast_emod,h];rfl
  simp [h,this]
 ·have:(D:Int) % (P:Int)≠0:=by rw [← Int.natCast_emod];omega
  simp [h,this]
theorem rH {N q r n i:Nat} (hn:n=32*q+r) (hr:r<32):(((dgt N (i+q):Int)+(dgt N (i+q+1):Int)*4294967296) / 2^r).tmod 4294967296=(dgt (N / 2^n) i:Int):=by
 have e:=uD N q r n i hn hr
 have e1:((dgt N (i+q):Int)+(dgt N (i+q+1):Int)*4294967296) / 2^r=(((dgt N (i+q)+dgt N (i+q+1)*4294967296) / 2^r:Nat):Int):=by
  rw [Int.natCast_ediv,Int.natCast_add,Int.natCast_mul,Int.natCast_pow];rfl
 rw [e1,Int.tmod_eq_emod_of_nonneg (Int.natCast_nonneg _),← e,Int.natCast_emod];rfl

def nu (w:World) (b n M j:Nat):Prop:=w.rowIs b 57 n (fun i=>.int .u64 ((if i<j then dgt M i else 0:Nat):Int))
theorem gK (w:World) (n M:Nat):nu (w.alloc (.cells (madeCells #[.int .u64 0] n) 57)) w.heap.size n M 0:=
 (World.rowIs_made w (.int .u64 0) n 57).congr (fun i _=>by rw [if_neg (by omega)];rfl)
theorem gL {w:World} {b n M j:Nat} {x:Int} (h:nu w b n M j) (hx:x=(dgt M j:Int)):nu (w.setCell ⟨b,j,none⟩ (.int .u64 x)) b n M (j+1):=by
 refine (h.set j (.int .u64 x)).congr fun i _=>?_
 by_cases c:i=j
 ·rw [if_pos c,if_pos (by omega),hx,c]
 ·rw [if_neg c]
  by_cases d:i<j
  ·rw [if_pos d,if_pos (by omega)]
  ·rw [if_neg d,if_neg (by omega)]
theorem iZ {w:World} {b n M:Nat} (h:nu w b n M n):Own w b n M:=h.congr (fun i hi=>by rw [if_pos hi])

set_option maxHeartbeats 400000 in
theorem ie (p:Option Addr) (m c:Nat) (n:Int) (w:World) (hm:m≤10000000) (h:32*(m:Int)≤n) :
  Calls Tryz.prog 190 #[.slice p m c,.int .i64 n] w fun e w'=>e=.returned (.tuple #[.slice none 0 0,.bool (decide (0<m))])∧w'=w:=by
 go_enter Tryz.func190,Tryz.ntmps190
 go_wp2
 go_ret2
 exact⟨rfl,rfl⟩

set_option maxRecDepth 10000 in
set_option maxHeartbeats 800000 in
theorem nv (g c N m n q r:Nat) (w:World) (hm:1≤m) (hm':m≤10000000) (hn:(n:Int)<32*m) (hq:(n:Int) / 32=q) (hr:(n:Int) % 32=r) (hrow:Hid (RowIs w g m N)) (hg:g<w.heap.size) (hN:Hid (N<2^(32*m))) :
  Calls Tryz.prog 190 #[.slice (some ⟨g,0,none⟩) m c,.int .i64 n] w fun e w'=>∃ v,e=.returned (.tuple #[v,.bool (bH N n)])∧DN w' v (N / 2^n)∧Below w.heap.size w w':=by
 have hr1:r<32:=by omega
 have hq1:q<m:=by omega
 have HN:Hid (n=32*q+r):=by show _=_;omega
 go_enter Tryz.func190,Tryz.ntmps190
 go_wp2
 go_loop [6,7] (fun l i=>∃ k:Nat,k≤q∧l=.bool (bH N (32*k))∧i=.int .i64 k) (fun _ i=>q - (intOf i).toNat)
 case atStart=>exact⟨0,Nat.zero_le _,by rw [Nat.mul_zero,xX],rfl⟩
 case round=>
  obtain⟨k,hk,rfl,rfl⟩:=hrel
  by_cases hlt:k<q
  ·have hc:=hrow.out k (by omega)
   have HS:=aa (xY N k)
   have HD:Hid (∀ D,dgt N k=D→bH N (32*(k+1))=(bH N (32*k)||decide (D≠0))):=fun D hD=>by rw [← hD];exact HS.out
   generalize hD:dgt N k=D at hc
   have HS:=aa (HD.out D hD)
   clear hD HD
   cases hl:bH N (32*k)
   ·rw [hl,Bool.false_or] at HS
    by_cases h0:D=0
    ·subst h0
     go_wp2
     go_round
     case rel=>exact⟨k+1,by omega,by rw [HS.out];rfl,by go_num⟩
     case measure=>simp [intOf];omega
    ·have h1:((D:Int) !=0)=true:=by simpa using h0
     have H0:=aa h0
     clear h0
     go_wp2
     go_round
     case rel=>exact⟨k+1,by omega,by rw [HS.out,decide_eq_true H0.out],by go_num⟩
     case measure=>simp [intOf];omega
   ·rw [hl,Bool.true_or] at HS
    go_wp2
    go_round
    case rel=>exact⟨k+1,by omega,by rw [HS.out],by go_num⟩
    case measure=>simp [intOf];omega
  ·obtain rfl:k=q:=by omega
   have hcq:=hrow.out k hq1
   have hki:(k:Int)<(m:Int):=by omega
   have HL:=aa (AN (N:=N) HN.out hr1)
   have HD:Hid (∀ D,dgt N k=D→bH N n=(bH N (32*k)||decide (D % 2^r≠0))):=fun D hD=>by rw [← hD];exact HL.out
   have b1:=aX N k
   generalize hD:dgt N k=D at hcq b1
   have HL:=aa (HD.out D hD)
   clear hD HD
   cases hl:bH N (32*k)
   ·rw [hl,Bool.false_or] at HL
    have hw1:=lw hr1
    have hP:=Nat.two_pow_pos r
    generalize 2^r=P at hw1 HL hP
    go_wp2_with fail
    go_quiet (fail)
    have hmk:=fun w=>run_make_row' (P:=Tryz.prog) 30 57 (.int .u64 0) 8 Tryz.underlying30 dq rfl .i64 .i64 (m - k) (by omega) (by omega) w
    have ec:((m - k:Nat):Int)=(m:Int) - (k:Int):=by omega
    rw [ec] at hmk
    clear ec
    go_wp2_with fail
    rw [hr]
    go_loopw [9] (fun i wr=>∃ j:Nat,j≤m - k∧i=.int .i64 j∧Hid (nu wr w.heap.size (m - k) (N / 2^n) j)∧Hid (Below w.heap.size w wr)) (fun i _=>m - k - (intOf i).toNat)
    case atStart=>exact⟨0,Nat.zero_le _,rfl,gK (w.drewN nq) (m - k) _,below_drewN ((Below.refl _ _).alloc (Nat.le_refl _) _) _⟩
    case round=>
     obtain⟨j,hj,rfl,HH,HB⟩:=hrel
     by_cases hlt:j<m - k
     ·have hc1:wr.cell? ⟨g,j+k,none⟩=some (.int .u64 (dgt N (j+k):Int)):=(HB.out.cell (p:=⟨g,j+k,none⟩) hg).trans (hrow.out (j+k) (by omega))
      have HR:Hid (RowIs wr g m N):=hrow.out.below hg HB.out
      have h1:=HH.out.cell (i:=j) (by omega)
      have f1:=HH.out.frozen j
      have b2:=aX N (j+k)
      have b3:=aX N (j+k+1)
      generalize hE:(if j<j then dgt (N / 2^n) j else 0:Nat)=E at h1
      clear hE
      have hjk:(j:Int)+(k:Int)<(m:Int):=by omega
      have hjm:(j:Int)<((m - k:Nat):Int):=by omega
      go_wp2_with fail
      generalize hD1:dgt N (j+k)=D1 at hc1 b2
      have HD1:=aa hD1
      clear hD1
      generalize hD2:dgt N (j+k+1)=D2 at b3
      have HD2:=aa hD2
      clear hD2
      have t1:(n:Int).tdiv 32=(k:Int):=by rw [Int.tdiv_eq_ediv_of_nonneg (by omega)];exact hq
      have t2:(n:Int).tmod 32=(r:Int):=by rw [Int.tmod_eq_emod_of_nonneg (by omega)];exact hr
      have w0:IntKind.i64.wrap (k:Int)=(k:Int):=by rw [IntKind.wrap_i64];omega
      have w0':IntKind.i64.wrap (r:Int)=(r:Int):=by rw [IntKind.wrap_i64];omega
      have nn:(0:Int)≤(j:Int)+(k:Int):=by omega
      have tn:((j:Int)+(k:Int)).toNat=j+k:=by omega
      have w1:IntKind.i64.wrap ((j:Int)+(k:Int))=(j:Int)+(k:Int):=by rw [IntKind.wrap_i64];omega
      have w2:IntKind.i64.wrap ((j:Int)+(k:Int)+1)=(j:Int)+(k:Int)+1:=by rw [IntKind.wrap_i64];omega
      have w3:IntKind.u64.wrap ((D2:Int)*4294967296)=(D2:Int)*4294967296:=by rw [IntKind.wrap_u64];omega
      have w4:IntKind.u64.wrap ((D1:Int)+(D2:Int)*4294967296)=(D1:Int)+(D2:Int)*4294967296:=by rw [IntKind.wrap_u64];omega
      have hDig:∀ w',RowIs w' g m N→Calls Tryz.prog 161 #[.slice (some ⟨g,0,none⟩) m c,.int .i64 ((j:Int)+(k:Int)+1)] w' fun e w''=>e=.returned (.int .u64 (D2:Int))∧w''=w':=fun w' h=>by
       have:=oh g m c N (j+k+1) ((j:Int)+(k:Int)+1) w' h hN.out (by show _=_;omega)
       rw [HD2.out] at this;exact this
      have HDig:=aa hDig
      clear hDig
      have hfar:w.heap.size≠g:=by omega
      have HST:Hid (nu (wr.setCell ⟨w.heap.size,j,none⟩ (.int .u64 ((((D1:Int)+(D2:Int)*4294967296) / 2^r).tmod 4294967296))).drew w.heap.size (m - k) (N / 2^n) (j+1)):=gL HH.out (by rw [← HD1.out,← HD2.out];exact rH HN.out hr1)
      have HBT:Hid (Below w.heap.size w (wr.setCell ⟨w.heap.size,j,none⟩ (.int .u64 ((((D1:Int)+(D2:Int)*4294967296) / 2^r).tmod 4294967296))).drew):=(HB.out.setCell (Nat.le_refl _) _).drew
      go_region_held3 (fun w'=>w'.cell? ⟨g,j+k,none⟩=some (.int .u64 (D1:Int))∧RowIs w' g m N) (first | exact⟨hc1,HR.out⟩| exact⟨(World.cell?_setCell_far _ _ _ _ hfar).trans hc1,wT HR.out hfar⟩| go_keep) ((go_at_call 161;refine (HDig.out _ (by first | assumption | exact HR.out)).mono ?_;rintro e w' ⟨rfl,rfl⟩))
      go_wp2_with fail
      go_roundw
      case rel=>first | exact⟨j+1,by omega,by go_num,HST,HBT⟩| ((repeat apply Exists.intro);exact⟨⟨j+1,by omega,by go_num,HST,HBT⟩,rfl⟩)
      case measure=>simp [intOf];omega
     ·obtain rfl:j=m - k:=by omega
      have HO:=aa (iZ HH.out)
      have HM:Hid (N / 2^n<2^(32*(m - k))):=by
       show _<_
       rw [Nat.div_lt_iff_lt_mul (Nat.two_pow_pos _),← Nat.pow_add]
       refine Nat.lt_of_lt_of_le hN.out (Nat.pow_le_pow_right (by decide) ?_)
       have:=HN.out;omega
      have hlt2:=HH.out.lt
      have HD:=aa (kq HO.out.row HM.out (Nat.le_refl _) hlt2)
      go_wp2_with fail
      refine (cN _ _ _ _ _ HO.out.row HM.out (Nat.le_refl _) (by omega)).mono ?_
      rintro e w' ⟨rfl,rfl⟩
      go_wp2_with fail
      go_ret2
      exact⟨_,pO (by rw [HL.out];exact DQ D P),HD.out,HB.out⟩
   ·rw [hl,Bool.true_or] at HL
    go_wp2_with fail
    go_quiet (fail)
    have hmk:=fun w=>run_make_row' (P:=Tryz.prog) 30 57 (.int .u64 0) 8 Tryz.underlying30 dq rfl .i64 .i64 (m - k) (by omega) (by omega) w
    have ec:((m - k:Nat):Int)=(m:Int) - (k:Int):=by omega
    rw [ec] at hmk
    clear ec
    go_wp2_with fail
    go_loopw [9] (fun i wr=>∃ j:Nat,j≤m - k∧i=.int .i64 j∧Hid (nu wr w.heap.size (m - k) (N / 2^n) j)∧Hid (Below w.heap.size w wr)) (fun i _=>m - k - (intOf i).toNat)
    case atStart=>exact⟨0,Nat.zero_le _,rfl,gK (w.drewN nq) (m - k) _,below_drewN ((Below.refl _ _).alloc (Nat.le_refl _) _) _⟩
    case round=>
     obtain⟨j,hj,rfl,HH,HB⟩:=hrel
     by_cases hlt:j<m - k
     ·have hc1:wr.cell? ⟨g,j+k,none⟩=some (.int .u64 (dgt N (j+k):Int)):=(HB.out.cell (p:=⟨g,j+k,none⟩) hg).trans (hrow.out (j+k) (by omega))
      have HR:Hid (RowIs wr g m N):=hrow.out.below hg HB.out
      have h1:=HH.out.cell (i:=j) (by omega)
      have f1:=HH.out.frozen j
      have b2:=aX N (j+k)
      have b3:=aX N (j+k+1)
      generalize hE:(if j<j then dgt (N / 2^n) j else 0:Nat)=E at h1
      clear hE
      have hjk:(j:Int)+(k:Int)<(m:Int):=by omega
      have hjm:(j:Int)<((m - k:Nat):Int):=by omega
      go_wp2_with fail
      generalize hD1:dgt N (j+k)=D1 at hc1 b2
      have HD1:=aa hD1
      clear hD1
      generalize hD2:dgt N (j+k+1)=D2 at b3
      have HD2:=aa hD2
      clear hD2
      have t1:(n:Int).tdiv 32=(k:Int):=by rw [Int.tdiv_eq_ediv_of_nonneg (by omega)];exact hq
      have t2:(n:Int).tmod 32=(r:Int):=by rw [Int.tmod_eq_emod_of_nonneg (by omega)];exact hr
      have w0:IntKind.i64.wrap (k:Int)=(k:Int):=by rw [IntKind.wrap_i64];omega
      have w0':IntKind.i64.wrap (r:Int)=(r:Int):=by rw [IntKind.wrap_i64];omega
      have nn:(0:Int)≤(j:Int)+(k:Int):=by omega
      have tn:((j:Int)+(k:Int)).toNat=j+k:=by omega
      have w1:IntKind.i64.wrap ((j:Int)+(k:Int))=(j:Int)+(k:Int):=by rw [IntKind.wrap_i64];omega
      have w2:IntKind.i64.wrap ((j:Int)+(k:Int)+1)=(j:Int)+(k:Int)+1:=by rw [IntKind.wrap_i64];omega
      have w3:IntKind.u64.wrap ((D2:Int)*4294967296)=(D2:Int)*4294967296:=by rw [IntKind.wrap_u64];omega
      have w4:IntKind.u64.wrap ((D1:Int)+(D2:Int)*4294967296)=(D1:Int)+(D2:Int)*4294967296:=by rw [IntKind.wrap_u64];omega
      have hDig:∀ w',RowIs w' g m N→Calls Tryz.prog 161 #[.slice (some ⟨g,0,none⟩) m c,.int .i64 ((j:Int)+(k:Int)+1)] w' fun e w''=>e=.returned (.int .u64 (D2:Int))∧w''=w':=fun w' h=>by
       have:=oh g m c N (j+k+1) ((j:Int)+(k:Int)+1) w' h hN.out (by show _=_;omega)
       rw [HD2.out] at this;exact this
      have HDig:=aa hDig
      clear hDig
      have hfar:w.heap.size≠g:=by omega
      have HST:Hid (nu (wr.setCell ⟨w.heap.size,j,none⟩ (.int .u64 ((((D1:Int)+(D2:Int)*4294967296) / 2^r).tmod 4294967296))).drew w.heap.size (m - k) (N / 2^n) (j+1)):=gL HH.out (by rw [← HD1.out,← HD2.out];exact rH HN.out hr1)
      have HBT:Hid (Below w.heap.size w (wr.setCell ⟨w.heap.size,j,none⟩ (.int .u64 ((((D1:Int)+(D2:Int)*4294967296) / 2^r).tmod 4294967296))).drew):=(HB.out.setCell (Nat.le_refl _) _).drew
      go_region_held3 (fun w'=>w'.cell? ⟨g,j+k,none⟩=some (.int .u64 (D1:Int))∧RowIs w' g m N) (first | exact⟨hc1,HR.out⟩| exact⟨(World.cell?_setCell_far _ _ _ _ hfar).trans hc1,wT HR.out hfar⟩| go_keep) ((go_at_call 161;refine (HDig.out _ (by first | assumption | exact HR.out)).mono ?_;rintro e w' ⟨rfl,rfl⟩))
      go_wp2_with fail
      go_roundw
      case rel=>first | exact⟨j+1,by omega,by go_num,HST,HBT⟩| ((repeat apply Exists.intro);exact⟨⟨j+1,by omega,by go_num,HST,HBT⟩,rfl⟩)
      case measure=>simp [intOf];omega
     ·obtain rfl:j=m - k:=by omega
      have HO:=aa (iZ HH.out)
      have HM:Hid (N / 2^n<2^(32*(m - k))):=by
       show _<_
       rw [Nat.div_lt_iff_lt_mul (Nat.two_pow_pos _),← Nat.pow_add]
       refine Nat.lt_of_lt_of_le hN.out (Nat.pow_le_pow_right (by decide) ?_)
       have:=HN.out;omega
      have hlt2:=HH.out.lt
      have HD:=aa (kq HO.out.row HM.out (Nat.le_refl _) hlt2)
      go_wp2_with fail
      refine (cN _ _ _ _ _ HO.out.row HM.out (Nat.le_refl _) (by omega)).mono ?_
      rintro e w' ⟨rfl,rfl⟩
      go_wp2_with fail
      go_ret2
      exact⟨_,pO HL.out.symm,HD.out,HB.out⟩

theorem nw (v:Value) (N n:Nat) (w:World) (h:DN w v N) (hb:nd N≤10000000) :
  Calls Tryz.prog 190 #[v,.int .i64 n] w fun e w'=>∃ v,e=.returned (.tuple #[v,.bool (bH N n)])∧DN w' v (N / 2^n)∧Below w.heap.size w w':=by
 rcases h with⟨h0,p,c,rfl⟩| ⟨h0,g,c,rfl,hc,hg,hr⟩
 ·refine (ie p 0 c n w (by omega) (by omega)).mono ?_
  rintro e w' ⟨rfl,rfl⟩
  exact⟨_,pO (by rw [h0];unfold bH;rw [Nat.zero_mod];rfl),Or.inl ⟨by rw [h0,Nat.zero_div],none,0,rfl⟩,Below.refl _ _⟩
 ·have h1:=dw h0
  by_cases hf:32*(nd N:Int)≤n
  ·have hlt:N<2^n:=Nat.lt_of_lt_of_le (cG N) (Nat.pow_le_pow_right (by decide) (by omega))
   refine (ie _ (nd N) c n w hb hf).mono ?_
   rintro e w' ⟨rfl,rfl⟩
   exact⟨_,pO (by unfold bH;rw [Nat.mod_eq_of_lt hlt];simp [h0];omega),Or.inl ⟨Nat.div_eq_of_lt hlt,none,0,rfl⟩,Below.refl _ _⟩
  ·exact nv g c N (nd N) n (n / 32) (n % 32) w h1 hb (by omega) (by omega) (by omega) hr hg (cG N)

end Go.Proofs.YtjjlnmihkadlmaaGreat
namespace Go.Proofs.YtjjlnmihkadlmaaGreat
open Go.RowKit

theorem dN (v:Value) (N k:Nat) (i:Int) (q:Int) (w:World) (h:DN w v N) (hi:Hid (i=k)) (hq:Hid ((dgt N k:Int)=q)) :
  Calls Tryz.prog 161 #[v,.int .i64 i] w fun e w'=>e=.returned (.int .u64 q)∧w'=w:=by
 rw [hi.out,← hq.out];exact gJ v N k w h
theorem uE (v:Value) (N n:Nat) (i:Int) (w:World) (h:DN w v N) (hb:nd N≤10000000) (hn:n≤100000000) (hi:Hid (i=n)) :
  Calls Tryz.prog 147 #[v,.int .i64 i] w fun e w'=>∃ v,e=.returned v∧DN w' v (N*2^n)∧Below w.heap.size w w':=by
 rw [hi.out];exact ks v N n w h hb hn
theorem fu (v:Value) (N n:Nat) (i:Int) (w:World) (h:DN w v N) (hb:nd N≤10000000) (hi:Hid (i=n)) :
  Calls Tryz.prog 190 #[v,.int .i64 i] w fun e w'=>∃ v,e=.returned (.tuple #[v,.bool (bH N n)])∧DN w' v (N / 2^n)∧Below w.heap.size w w':=by
 rw [hi.out];exact nw v N n w h hb
theorem DN.drewN {w:World} {v:Value} {N:Nat} (h:DN w v N) (n:Nat):DN (w.drewN n) v N:=h

set_option maxHeartbeats 800000 in
theorem uF (v:Value) (N:Nat) (e L:Int) (more:Bool) (w:World) (h:DN w v N) (hb:nd N≤1000000) (he: -10000000≤e) (he':e≤10000000) (hL:Hid (L=aA N e)) (hLe:L≤e) (hLm:L+1074≤3000) :
  Calls Tryz.prog 179 #[v,.int .i64 e,.bool more,.int .i64 53,.int .i64 (-1074)] w fun x w'=>x=.returned (.int .u64 (rnd53 N e more:Int))∧Below w.heap.size w w':=by
 have hbl:=oc N
 have HK:Hid (N*2^(e - L).toNat<9007199254740992):=by rw [hL.out] at hLe ⊢;exact wS hLe
 have hLl: -1074≤L:=by rw [hL.out];exact pN N e
 have HV:Hid ((rnd53 N e more:Int)=(L+1074)*4503599627370496+(dgt (N*2^(e - L).toNat) 0:Int)+(dgt (N*2^(e - L).toNat) 1:Int)*4294967296):=by
  show _=_
  have e1:=fq (K:=N*2^(e - L).toNat) (by have:=HK.out;omega)
  have e2:rnd53 N e more=(L+1074).toNat*4503599627370496+N*2^(e - L).toNat:=by
   unfold rnd53 iq;rw [← hL.out,if_pos hLe]
  rw [e2]
  generalize N*2^(e - L).toNat=K at *
  omega
 have hmax:max ((bl N:Int) - 53+e) (-1074)=L:=by rw [hL.out];rfl
 have b0:=aX (N*2^(e - L).toNat) 0
 have HB1:dgt (N*2^(e - L).toNat) 1≤2097152:=by
  have e1:=fq (K:=N*2^(e - L).toNat) (by have:=HK.out;omega)
  have:=HK.out;omega
 rw [HV.out]
 generalize hd0:dgt (N*2^(e - L).toNat) 0=d0 at b0
 generalize hd1:dgt (N*2^(e - L).toNat) 1=d1 at HB1
 have HD0:Hid ((dgt (N*2^(e - L).toNat) 0:Int)=d0):=by show _=_;rw [hd0]
 have HD1:Hid ((dgt (N*2^(e - L).toNat) 1:Int)=d1):=by show _=_;rw [hd1]
 clear hd0 hd1 HV
 have H:=aa h
 clear h
 have HLen:=aa (fun w (h:DN w v N)=>kS v N w h (by omega))
 generalize hB:(bl N:Int)=B at hmax HLen
 have hB0:0≤B:=by omega
 have hB1:B≤32000000:=by omega
 clear hB hbl
 have w1:IntKind.i64.wrap (L+1074)=L+1074:=by rw [IntKind.wrap_i64];omega
 have w2:IntKind.u64.wrap (L+1074)=L+1074:=by rw [IntKind.wrap_u64];omega
 have w3:IntKind.u64.wrap ((L+1074)*4503599627370496)=(L+1074)*4503599627370496:=by rw [IntKind.wrap_u64];omega
 have w4:IntKind.u64.wrap ((L+1074)*4503599627370496+(d0:Int))=(L+1074)*4503599627370496+(d0:Int):=by rw [IntKind.wrap_u64];omega
 have w5:IntKind.u64.wrap ((d1:Int)*4294967296)=(d1:Int)*4294967296:=by rw [IntKind.wrap_u64];omega
 have w6:IntKind.u64.wrap ((L+1074)*4503599627370496+(d0:Int)+(d1:Int)*4294967296)=(L+1074)*4503599627370496+(d0:Int)+(d1:Int)*4294967296:=by rw [IntKind.wrap_u64];omega
 go_enter Tryz.func179,Tryz.ntmps179
 go_wp2_with fail
 refine (uA HLen _ H.out).mono ?_
 rintro x w' ⟨rfl,rfl⟩
 go_wp2_with fail
 refine (uE v N (e - L).toNat _ _ H.out (by omega) (by omega) (by show _=_;omega)).mono ?_
 rintro x w1 ⟨v1,rfl,hd1,hb1⟩
 have HN1:=aa hd1
 have HB:=aa hb1
 clear hd1 hb1
 go_wp2_with fail
 go_quiet ((first | (go_at_call_of 161 (Value.int IntKind.i64 0);exact Calls.quiet_of_same (dN v1 _ 0 0 _ _ HN1.out rfl HD0)) | (go_at_call_of 161 (Value.int IntKind.i64 1);exact Calls.quiet_of_same (dN v1 _ 1 1 _ _ HN1.out rfl HD1))))
 go_wp2_with fail
 go_ret
 exact⟨rfl,below_drewN HB.out _⟩

set_option maxHeartbeats 2000000 in
theorem pP (v:Value) (N d:Nat) (e L:Int) (more hf lo qo:Bool) (w:World) (h:DN w v N) (hb:nd N≤1000000) (he: -10000000≤e) (he':e≤10000000) (hL:Hid (L=aA N e)) (hLe:e<L) (hLm:L+1074≤3000) (hd:Hid (L - e=d))
  (hhf:Hid (((dgt (N / 2^(d - 1)) 0:Int) % 2==1)=hf)) (hlo:Hid (bH N (d - 1)=lo)) (hqo:Hid (((N / 2^d:Nat):Int) % 2=if qo then 1 else 0)) :
  Calls Tryz.prog 179 #[v,.int .i64 e,.bool more,.int .i64 53,.int .i64 (-1074)] w fun x w'=>x=.returned (.int .u64 ((L+1074)*4503599627370496+(((N / 2^d:Nat):Int)+if hf&&(lo||more||qo) then 1 else 0)))∧Below w.heap.size w w':=by
 have hbl:=oc N
 have HQ:N / 2^d<9007199254740992:=by
  have:=oe (N:=N) (e:=e) (by rw [← hL.out];exact hLe)
  rw [← hL.out,show (L - e).toNat=d by have:=hd.out;omega] at this;exact this
 have hLl: -1074≤L:=by rw [hL.out];exact pN N e
 have hmax:max ((bl N:Int) - 53+e) (-1074)=L:=by rw [hL.out];rfl
 have h2:=fq (K:=N / 2^d) (by omega)
 have b0:=aX (N / 2^d) 0
 have b1:dgt (N / 2^d) 1≤2097152:=by omega
 have bh:=aX (N / 2^(d - 1)) 0
 generalize hQ:N / 2^d=Q at hqo HQ h2
 have HQe:Hid (N / 2^d=Q):=hQ
 rw [hQ] at b0 b1
 generalize hq0:dgt Q 0=q0 at h2 b0
 generalize hq1:dgt Q 1=q1 at h2 b1
 have hh:=hhf.out
 generalize hg0:dgt (N / 2^(d - 1)) 0=g0 at bh hh
 have HD0:Hid ((dgt Q 0:Int)=q0):=by show _=_;rw [hq0]
 have HD1:Hid ((dgt Q 1:Int)=q1):=by show _=_;rw [hq1]
 have HH:Hid ((dgt (N / 2^(d - 1)) 0:Int)=g0):=by show _=_;rw [hg0]
 clear hq0 hq1 hg0
 have hQq:(q0:Int)+(q1:Int)*4294967296=(Q:Int):=by omega
 clear hQ h2
 have H:=aa h
 clear h
 have HLen:=aa (fun w (h:DN w v N)=>kS v N w h (by omega))
 have HE:=aa (show L - e=(d:Int) from hd.out)
 have HE1:Hid (L - e - 1=((d - 1:Nat):Int)):=by show _=_;have:=hd.out;omega
 generalize hB:(bl N:Int)=B at hmax HLen
 have hB0:0≤B:=by omega
 have hB1:B≤32000000:=by omega
 clear hB hbl
 have hq2:((Q:Int) % 2==1)=qo:=by have:=hqo.out;cases qo<;>simp at this ⊢<;>omega
 cases hf<;>cases lo<;>cases more<;>cases qo
 all_goals
  simp only [Bool.false_and,Bool.true_and,Bool.or_true,Bool.or_false,Bool.false_eq_true,if_true,if_false,Int.add_zero]
  go_enter Tryz.func179,Tryz.ntmps179
  go_wp2_with fail
  refine (uA HLen _ H.out).mono ?_
  rintro x w' ⟨rfl,rfl⟩
  go_wp2_with fail
  refine (fu v N d _ _ H.out (by omega) HE).mono ?_
  rintro x w1 ⟨v1,rfl,hd1,hb1⟩
  have HN1:=aa hd1
  have HB:=aa hb1
  clear hd1 hb1
  go_wp2_with fail
  refine (fu v N (d - 1) _ _ (H.out.below HB.out) (by omega) HE1).mono ?_
  rw [hlo.out]
  rintro x w2 ⟨v2,rfl,hd2,hb2⟩
  have HN2:=aa hd2
  have HN1:=aa (HN1.out.below hb2)
  have HB:=aa (HB.out.trans (hb2.mono HB.out.size))
  clear hd2 hb2
  rw [HQe.out] at HN1
  go_wp2_with fail
  refine (dN v1 Q 0 0 q0 _ HN1.out rfl HD0).mono ?_
  rintro x w' ⟨rfl,rfl⟩
  go_wp2_with fail
  refine (dN v1 Q 1 1 q1 _ HN1.out rfl HD1).mono ?_
  rintro x w' ⟨rfl,rfl⟩
  go_wp2_with fail
  refine (dN v2 _ 0 0 g0 _ HN2.out rfl HH).mono ?_
  rintro x w' ⟨rfl,rfl⟩
  go_wp2_with fail
  go_ret
  exact⟨bW (by omega),HB.out⟩

theorem AO (N k:Nat):((dgt (N / 2^k) 0:Int) % 2==1)=decide (N / 2^k % 2=1):=by
 unfold dgt
 rw [Nat.mul_zero,Nat.pow_zero,Nat.div_one]
 generalize N / 2^k=z
 by_cases h:z % 2=1
 ·rw [decide_eq_true h];simp;omega
 ·rw [decide_eq_false h];simp;omega

theorem rJ (v:Value) (N:Nat) (e:Int) (more:Bool) (w:World) (h:DN w v N) (hb:nd N≤1000000) (he: -10000000≤e) (he':e≤10000000) (hLm:aA N e+1074≤3000) :
  Calls Tryz.prog 179 #[v,.int .i64 e,.bool more,.int .i64 53,.int .i64 (-1074)] w fun x w'=>x=.returned (.int .u64 (rnd53 N e more:Int))∧Below w.heap.size w w':=by
 by_cases hc:aA N e≤e
 ·exact uF v N e (aA N e) more w h hb he he' rfl hc hLm
 ·have hl:=pN N e
  have key:=pP v N (aA N e - e).toNat e (aA N e) more (decide (N / 2^((aA N e - e).toNat - 1) % 2=1)) (bH N ((aA N e - e).toNat - 1)) (decide (N / 2^(aA N e - e).toNat % 2=1)) w h hb he he' rfl (by omega) hLm (by show _=_;omega) (AO N _) rfl
   (by show _=_;generalize N / 2^(aA N e - e).toNat=z;by_cases h:z % 2=1<;>simp [h]<;>omega)
  have ev:(rnd53 N e more:Int)=(aA N e+1074)*4503599627370496+(((N / 2^(aA N e - e).toNat:Nat):Int)+if decide (N / 2^((aA N e - e).toNat - 1) % 2=1)&&(bH N ((aA N e - e).toNat - 1)||more||decide (N / 2^(aA N e - e).toNat % 2=1)) then 1 else 0):=by
   unfold rnd53 iq kp bH
   rw [if_neg hc]
   have e1:(((decide (N / 2^((aA N e - e).toNat - 1) % 2=1)&&(decide (N % 2^((aA N e - e).toNat - 1)≠0)||more||decide (N / 2^(aA N e - e).toNat % 2=1)))=true)↔(N / 2^((aA N e - e).toNat - 1) % 2=1∧(N % 2^((aA N e - e).toNat - 1)≠0∨more=true∨N / 2^(aA N e - e).toNat % 2=1))):=by
    simp only [Bool.and_eq_true,Bool.or_eq_true,decide_eq_true_eq,or_assoc]
   simp only [e1]
   split<;>omega
  rw [ev];exact key

end Go.Proofs.YtjjlnmihkadlmaaGreat
namespace Go.Proofs.YtjjlnmihkadlmaaGreat
open Go.RowKit

def dx (neg:Bool) (v:Value) (e:Int):Value:=.agg #[.bool neg,v,.int .i64 e]

def bR (neg:Bool) (u:Int):Int:=if neg then min u 9218868437227405312+9223372036854775808 else min u 9218868437227405312

set_option maxHeartbeats 400000 in
theorem rK (neg:Bool) (u:Int) (w:World) (h0:0≤u) (h1:u<18446744073709551616) :
  Calls Tryz.prog 178 #[.bool neg,.int .u64 u] w fun e w'=>e=.returned (.int .u64 (bR neg u))∧w'=w:=by
 unfold bR
 cases neg
 ·simp only [Bool.false_eq_true,if_false]
  go_enter Tryz.func178,Tryz.ntmps178
  go_wp2
  go_ret
  exact⟨rfl,rfl⟩
 ·simp only [if_true]
  go_enter Tryz.func178,Tryz.ntmps178
  go_wp2
  go_ret
  exact⟨bW (by omega),rfl⟩

set_option maxHeartbeats 400000 in
theorem AP (neg:Bool) (v:Value) (e:Int) (N:Nat) (w:World) (h:DN w v N) :
  Calls Tryz.prog 144 #[dx neg v e] w fun x w'=>x=.returned (.bool (decide (N=0)))∧Below w.heap.size w w':=by
 unfold dx
 rcases h with⟨h0,p,c,rfl⟩| ⟨h0,g,c,rfl,hc,hg,hr⟩
 ·go_enter Tryz.func144,Tryz.ntmps144
  go_wp2
  go_ret
  exact⟨eH (by simp [h0]),(Below.refl _ _).alloc (Nat.le_refl _) _⟩
 ·have h1:=dw h0
  have h2:((nd N:Int)==0)=false:=by simp;omega
  clear hr
  go_enter Tryz.func144,Tryz.ntmps144
  go_wp2
  go_ret
  exact⟨eH (by simp [h0]),(Below.refl _ _).alloc (Nat.le_refl _) _⟩

def hU (N:Nat) (e:Int):Bool:=decide (1100<(bl N:Int)+e)||decide ((bl N:Int)+e< -1200)

theorem jO (v:Value) (N:Nat) (B:Int) (w:World) (h:DN w v N) (hb:nd N≤100000000) (hB:Hid ((bl N:Int)=B)) :
  Calls Tryz.prog 145 #[v] w fun e w'=>e=.returned (.int .i64 B)∧w'=w:=by
 rw [← hB.out];exact kS v N w h hb

set_option maxHeartbeats 400000 in
theorem DR (neg:Bool) (v:Value) (e:Int) (N:Nat) (w:World) (h:DN w v N) (hb:nd N≤1000000) (he: -10000000≤e) (he':e≤10000000) :
  Calls Tryz.prog 177 #[dx neg v e] w fun x w'=>x=.returned (.bool (hU N e))∧Below w.heap.size w w':=by
 unfold dx hU
 have hbl:=oc N
 have HA:Hid (∀ n,DN ((w.alloc (.cells #[.bool neg,v,.int .i64 e] 32)).drewN n) v N):=fun n=>h.below (below_drewN ((Below.refl _ _).alloc (Nat.le_refl _) _) n)
 generalize hB:(bl N:Int)=B
 have HB:=aa hB
 have hB0:0≤B:=by omega
 have hB1:B≤32000000:=by omega
 clear hB hbl h
 have w1:IntKind.i64.wrap (B+e)=B+e:=by rw [IntKind.wrap_i64];omega
 by_cases h1:1100<B+e
 ·have d1:decide (1100<B+e)=true:=by simpa using h1
  rw [d1,Bool.true_or]
  go_enter Tryz.func177,Tryz.ntmps177
  go_wp2_with fail
  go_quiet ((go_at_call 145;exact Calls.quiet_of_same (jO v N B _ (HA.out _) (by omega) HB)))
  go_wp2_with fail
  go_ret
  exact⟨rfl,below_drewN ((Below.refl _ _).alloc (Nat.le_refl _) _) _⟩
 ·have d1:decide (1100<B+e)=false:=by simpa using h1
  rw [d1,Bool.false_or]
  go_enter Tryz.func177,Tryz.ntmps177
  go_wp2_with fail
  go_quiet ((go_at_call 145;exact Calls.quiet_of_same (jO v N B _ (HA.out _) (by omega) HB)))
  go_wp2_with fail
  go_ret
  exact⟨rfl,below_drewN ((Below.refl _ _).alloc (Nat.le_refl _) _) _⟩

def bO (neg:Bool) (N:Nat) (e:Int) (more:Bool):Int:=
 if N=0 then 0 else if hU N e then (if 0<e∨0<(bl N:Int)+e then bR neg 9218868437227405312 else bR neg 0) else bR neg (rnd53 N e more)

theorem rL {W w1:World} (hb:Below W.heap.size W w1):(∀ b o,b<W.heap.size→w1.cell? ⟨b,o,none⟩=W.cell? ⟨b,o,none⟩)∧(∀ b o,b<W.heap.size→w1.frozen? ⟨b,o,none⟩=W.frozen? ⟨b,o,none⟩):=
 ⟨fun b o h=>hb.cell (p:=⟨b,o,none⟩) h,fun b o h=>hb.frozen (p:=⟨b,o,none⟩) h⟩

theorem aR (neg:Bool) (v:Value) (e:Int) (N:Nat) (z:Bool) (w:World) (h:DN w v N) (hz:Hid (decide (N=0)=z)) :
  Calls Tryz.prog 144 #[.agg #[.bool neg,v,.int .i64 e]] w fun x w'=>x=.returned (.bool z)∧Below w.heap.size w w':=by
 rw [← hz.out];exact AP neg v e N w h
theorem AQ (neg:Bool) (v:Value) (e:Int) (N:Nat) (z:Bool) (w:World) (h:DN w v N) (hb:nd N≤1000000) (he: -10000000≤e) (he':e≤10000000) (hz:Hid (hU N e=z)) :
  Calls Tryz.prog 177 #[.agg #[.bool neg,v,.int .i64 e]] w fun x w'=>x=.returned (.bool z)∧Below w.heap.size w w':=by
 rw [← hz.out];exact DR neg v e N w h hb he he'

set_option maxHeartbeats 400000 in
theorem nA (neg more:Bool) (v:Value) (e:Int) (w:World) (h:DN w v 0) :
  Calls Tryz.prog 148 #[dx neg v e,.bool more] w fun x w'=>x=.returned (.int .u64 0)∧Below w.heap.size w w':=by
 unfold dx
 have H1:=aa (h.below ((Below.refl w.heap.size w).alloc (Nat.le_refl _) (.cells #[.bool neg,v,.int .i64 e] 32)))
 clear h
 go_enter Tryz.func148,Tryz.ntmps148
 go_wp2_with fail
 refine (aR _ _ _ 0 true _ H1.out rfl).mono ?_
 rintro x w1 ⟨rfl,hb1⟩
 have HB:=aa hb1
 clear hb1
 go_wp2_with fail
 go_ret
 exact⟨rfl,((Below.refl _ _).alloc (Nat.le_refl _) _).trans (HB.out.mono (by simp))⟩

theorem gM {w w1:World} {neg:Bool} {v:Value} {e:Int} (hb:Below (w.alloc (.cells #[.bool neg,v,.int .i64 e] 32)).heap.size (w.alloc (.cells #[.bool neg,v,.int .i64 e] 32)) w1) :
  w1.cell? ⟨w.heap.size,0,none⟩=some (.bool neg)∧w1.cell? ⟨w.heap.size,1,none⟩=some v∧w1.cell? ⟨w.heap.size,2,none⟩=some (.int .i64 e):=by
 refine⟨?_,?_,?_⟩
 ·rw [hb.cell (p:=⟨w.heap.size,0,none⟩) (by simp)];simp
 ·rw [hb.cell (p:=⟨w.heap.size,1,none⟩) (by simp)];simp
 ·rw [hb.cell (p:=⟨w.heap.size,2,none⟩) (by simp)];simp

set_option maxHeartbeats 800000 in
theorem rM (neg more:Bool) (v:Value) (e:Int) (N:Nat) (w:World) (h:DN w v N) (hN:N≠0) (hb:nd N≤1000000) (he: -10000000≤e) (he':e≤10000000) (hf:Hid (hU N e=false)) (R:Int) (hR:Hid ((rnd53 N e more:Int)=R)) (hR0:0≤R) (hR1:R<18446744073709551616) (hLm:aA N e+1074≤3000) :
  Calls Tryz.prog 148 #[dx neg v e,.bool more] w fun x w'=>x=.returned (.int .u64 (bR neg R))∧Below w.heap.size w w':=by
 unfold dx
 have HBox:Hid (Below w.heap.size w (w.alloc (.cells #[.bool neg,v,.int .i64 e] 32))):=(Below.refl w.heap.size w).alloc (Nat.le_refl _) _
 have H1:=aa (h.below HBox.out)
 have HN:=aa hN
 have HLm:=aa hLm
 clear h hN hLm
 go_enter Tryz.func148,Tryz.ntmps148
 go_wp2_with fail
 refine (aR _ _ _ N false _ H1.out (decide_eq_false HN.out)).mono ?_
 rintro x w1 ⟨rfl,hb1⟩
 have HB1:=aa hb1
 have H2:=aa (H1.out.below hb1)
 obtain⟨c0,c1,c2⟩:=gM hb1
 clear hb1
 go_wp2_with fail
 refine (AQ _ _ _ N false _ H2.out hb he he' hf).mono ?_
 rintro x w2 ⟨rfl,hb2⟩
 have hz:w.heap.size<w1.heap.size:=by have:=HB1.out.size;simp at this;omega
 have H3:=aa (H2.out.below hb2)
 have d0:w2.cell? ⟨w.heap.size,0,none⟩=some (.bool neg):=(hb2.cell (p:=⟨w.heap.size,0,none⟩) hz).trans c0
 have d1:w2.cell? ⟨w.heap.size,1,none⟩=some v:=(hb2.cell (p:=⟨w.heap.size,1,none⟩) hz).trans c1
 have d2:w2.cell? ⟨w.heap.size,2,none⟩=some (.int .i64 e):=(hb2.cell (p:=⟨w.heap.size,2,none⟩) hz).trans c2
 have HB2:Hid (Below w.heap.size w w2):=(HBox.out.trans (HB1.out.mono (by simp))).trans (hb2.mono (by omega))
 have hz2:w.heap.size<w2.heap.size:=by have:=hb2.size;omega
 have HRd:Hid (∀ w',DN w' v N→Calls Tryz.prog 179 #[v,.int .i64 e,.bool more,.int .i64 53,.int .i64 (-1074)] w' fun x w''=>x=.returned (.int .u64 R)∧Below w'.heap.size w' w''):=fun w' h=>by
  have:=rJ v N e more w' h hb he he' HLm.out
  rw [hR.out] at this;exact this
 clear hb2 c0 c1 c2
 go_wp2_with fail
 go_region_held3 (fun w'=>w'.cell? ⟨w.heap.size,0,none⟩=some (.bool neg)∧w'.cell? ⟨w.heap.size,1,none⟩=some v∧w'.cell? ⟨w.heap.size,2,none⟩=some (.int .i64 e)) (first | exact⟨d0,d1,d2⟩| exact⟨(hb3.cell (p:=⟨w.heap.size,0,none⟩) hz2).trans d0,(hb3.cell (p:=⟨w.heap.size,1,none⟩) hz2).trans d1,(hb3.cell (p:=⟨w.heap.size,2,none⟩) hz2).trans d2⟩| go_keep) (first | ((go_at_call 179;refine (HRd.out _ (by exact H3.out)).mono ?_;rintro x w3 ⟨rfl,hb3⟩)) | ((go_at_call 178;refine (rK _ _ _ hR0 hR1).mono ?_;rintro x w4 ⟨rfl,rfl⟩)))
 go_wp2_with fail
 go_ret
 exact⟨rfl,(HB2.out.drew).trans (hb3.mono (by have h9:w.heap.size<w2.drew.heap.size:=hz2;omega))⟩

set_option maxHeartbeats 1600000 in
theorem pQ (neg more:Bool) (v:Value) (e:Int) (N:Nat) (w:World) (h:DN w v N) (hN:N≠0) (hb:nd N≤1000000) (he: -10000000≤e) (he':e≤10000000) (hf:Hid (hU N e=true)) :
  Calls Tryz.prog 148 #[dx neg v e,.bool more] w fun x w'=>x=.returned (.int .u64 (if 0<e∨0<(bl N:Int)+e then bR neg 9218868437227405312 else bR neg 0))∧Below w.heap.size w w':=by
 unfold dx
 have HBox:Hid (Below w.heap.size w (w.alloc (.cells #[.bool neg,v,.int .i64 e] 32))):=(Below.refl w.heap.size w).alloc (Nat.le_refl _) _
 have H1:=aa (h.below HBox.out)
 have HN:=aa hN
 have hbl:=oc N
 clear h hN
 generalize hB:(bl N:Int)=B
 have HB:=aa hB
 have hB0:0≤B:=by omega
 have hB1:B≤32000000:=by omega
 clear hB hbl
 have w1:IntKind.i64.wrap (B+e)=B+e:=by rw [IntKind.wrap_i64];omega
 have hcase:(0<e∧decide (0<e)=true)∨(decide (0<e)=false∧0<B+e∧¬ 0<e)∨(decide (0<e)=false∧¬ 0<B+e∧¬ 0<e):=by
  by_cases h1:0<e
  ·exact Or.inl ⟨h1,by simpa using h1⟩
  ·by_cases h2:0<B+e
   ·exact Or.inr (Or.inl ⟨by simpa using h1,h2,h1⟩)
   ·exact Or.inr (Or.inr ⟨by simpa using h1,h2,h1⟩)
 rcases hcase with⟨g1,g2⟩| ⟨g1,g2,g3⟩| ⟨g1,g2,g3⟩
 all_goals first | rw [if_pos (Or.inl g1)] | rw [if_pos (Or.inr g2)] | rw [if_neg (fun h=>h.elim g3 g2)]
 all_goals
  go_enter Tryz.func148,Tryz.ntmps148
  go_wp2_with fail
  refine (aR _ _ _ N false _ H1.out (decide_eq_false HN.out)).mono ?_
  rintro x w1 ⟨rfl,hb1⟩
  have HB1:=aa hb1
  have H2:=aa (H1.out.below hb1)
  obtain⟨c0,c1,c2⟩:=gM hb1
  clear hb1
  go_wp2_with fail
  refine (AQ _ _ _ N true _ H2.out hb he he' hf).mono ?_
  rintro x w2 ⟨rfl,hb2⟩
  have hz:w.heap.size<w1.heap.size:=by have:=HB1.out.size;simp at this;omega
  have H3:=aa (H2.out.below hb2)
  have d0:w2.cell? ⟨w.heap.size,0,none⟩=some (.bool neg):=(hb2.cell (p:=⟨w.heap.size,0,none⟩) hz).trans c0
  have d1:w2.cell? ⟨w.heap.size,1,none⟩=some v:=(hb2.cell (p:=⟨w.heap.size,1,none⟩) hz).trans c1
  have d2:w2.cell? ⟨w.heap.size,2,none⟩=some (.int .i64 e):=(hb2.cell (p:=⟨w.heap.size,2,none⟩) hz).trans c2
  have HB2:Hid (Below w.heap.size w w2):=(HBox.out.trans (HB1.out.mono (by simp))).trans (hb2.mono (by omega))
  clear hb2 c0 c1 c2
  go_wp2_with fail
  go_quiet ((go_at_call 145;exact Calls.quiet_of_same (jO v N B _ H3.out (by omega) HB)))
  go_wp2_with (go_at_call 178;refine (rK _ _ _ (by omega) (by omega)).mono ?_;rintro x w4 ⟨rfl,rfl⟩)
  go_ret
  exact⟨rfl,below_drewN HB2.out _⟩

theorem rN {N:Nat} {e:Int} (h:hU N e=false):aA N e+1074≤3000:=by
 unfold hU at h
 rw [Bool.or_eq_false_iff] at h
 have h1:=of_decide_eq_false h.1
 unfold aA;omega
theorem FK {N:Nat} {e:Int} {more:Bool} (h:hU N e=false):rnd53 N e more<18446744073709551616:=by
 have h1:=rN h
 have h2:=DL N e more
 have h3:=pN N e
 unfold rnd53;omega

theorem ja (neg more:Bool) (v:Value) (e:Int) (N:Nat) (w:World) (h:DN w v N) (hb:nd N≤1000000) (he: -10000000≤e) (he':e≤10000000) :
  Calls Tryz.prog 148 #[dx neg v e,.bool more] w fun x w'=>x=.returned (.int .u64 (bO neg N e more))∧Below w.heap.size w w':=by
 unfold bO
 by_cases h0:N=0
 ·subst h0;rw [if_pos rfl];exact nA neg more v e w h
 ·rw [if_neg h0]
  cases hf:hU N e
  ·simp only [Bool.false_eq_true,if_false]
   have h1:=FK (more:=more) hf
   exact rM neg more v e N w h h0 hb he he' hf _ rfl (Int.natCast_nonneg _) (by omega) (rN hf)
  ·simp only [if_true];exact pQ neg more v e N w h h0 hb he he' hf

set_option maxHeartbeats 400000 in
theorem AR (neg:Bool) (v:Value) (e:Int) (N:Nat) (w:World) (h:DN w v N) (hb:nd N≤1000000) (he: -10000000≤e) (he':e≤10000000) :
  Calls Tryz.prog 164 #[dx neg v e] w fun x w'=>x=.returned (.int .u64 (bO neg N e false))∧Below w.heap.size w w':=by
 have HBox:Hid (Below w.heap.size w (w.alloc (.cells #[.bool neg,v,.int .i64 e] 32))):=(Below.refl w.heap.size w).alloc (Nat.le_refl _) _
 have HM:=aa (ja neg false v e N _ (h.below HBox.out) hb he he')
 unfold dx at HM ⊢
 clear h
 go_enter Tryz.func164,Tryz.ntmps164
 go_wp2_with fail
 refine HM.out.mono ?_
 rintro x w1 ⟨rfl,hb1⟩
 have HB1:=aa hb1
 clear hb1
 go_wp2_with fail
 go_ret
 exact⟨rfl,HBox.out.trans (HB1.out.mono (by simp))⟩

end Go.Proofs.YtjjlnmihkadlmaaGreat
namespace Go.Proofs.YtjjlnmihkadlmaaGreat
open Go.RowKit

theorem lB {N:Nat} {e:Int} (h0:N≠0) (h:(bl N:Int)+e< -1200):nearR N e=0:=by
 have hb:=gc h0
 have e3:ao N e= -1074:=by unfold ao;omega
 unfold nearR
 rw [e3,show (e - -1074).toNat=0 by omega,Nat.pow_zero,Nat.mul_one,eL]
 ·rfl
 ·have h1:=AK N
  have h2:(2:Nat)^(bl N+1)≤2^(-1074 - e).toNat:=Nat.pow_le_pow_right (by decide) (by omega)
  rw [Nat.pow_succ] at h2;omega
theorem eN (neg:Bool) {N:Nat} (e:Int) (h0:N≠0):bO neg N e false=(if neg then 9223372036854775808 else 0)+(nearR N e:Int):=by
 have hb:=gc h0
 unfold bO
 rw [if_neg h0]
 have key:(if hU N e=true then if 0<e∨0<(bl N:Int)+e then bR neg 9218868437227405312 else bR neg 0 else bR neg (rnd53 N e false))=bR neg (nearR N e):=by
  cases hf:hU N e
  ·simp only [Bool.false_eq_true,if_false]
   rw [← AM e h0]
   unfold bR
   cases neg<;>simp only [Bool.false_eq_true,if_true,if_false]<;>omega
  ·simp only [if_true]
   unfold hU at hf
   rw [Bool.or_eq_true,decide_eq_true_eq,decide_eq_true_eq] at hf
   rcases hf with hf | hf
   ·rw [if_pos (Or.inr (by omega)),gH h0 (by omega)];rfl
   ·rw [if_neg (by omega),lB h0 hf];rfl
 rw [key]
 have hle:nearR N e≤9218868437227405312:=Nat.min_le_right _ _
 unfold bR
 cases neg<;>simp only [Bool.false_eq_true,if_true,if_false]<;>omega

theorem DN.shape {w:World} {v:Value} {N:Nat} (h:DN w v N):∃ p l c,v=.slice p l c:=by
 rcases h with⟨_,p,c,rfl⟩| ⟨_,g,c,rfl,_⟩
 ·exact⟨p,0,c,rfl⟩
 ·exact⟨_,_,_,rfl⟩

set_option maxHeartbeats 400000 in
theorem yd (n:Int) (w:World) (h0:0≤n) (h1:n≤9223372036854775807) :
  Calls Tryz.prog 165 #[.int .i64 n] w fun x w'=>∃ v,x=.returned (dx false v 0)∧DN w' v n.toNat∧Below w.heap.size w w':=by
 have hu:Hid (n=(n.toNat:Int)):=by show _=_;omega
 unfold dx
 go_enter Tryz.func165,Tryz.ntmps165
 go_wp2_with fail
 refine (gI n n.toNat _ hu (by omega)).mono ?_
 rintro x w1 ⟨v1,rfl,hd1,hfr,hb1⟩
 obtain⟨p,l,c,rfl⟩:=hd1.shape
 have HB:=aa hb1
 obtain⟨hc,hf⟩:=rL hb1
 have hz:w.heap.size<w1.heap.size:=by have:=hb1.size;simp at this;omega
 have HD:=fun a b c=>((hd1.set hfr (a:=⟨w.heap.size,0,none⟩) (by simp) a).set hfr (a:=⟨w.heap.size,1,none⟩) (by simp) b).set hfr (a:=⟨w.heap.size,2,none⟩) (by simp) c
 have HD:=aa HD
 clear hd1 hb1 hfr
 go_wp2_with fail
 refine bodyPost_ret (v:=.agg #[.bool false,.slice p l c,.int .i64 0]) (by simp [results,Tryz.results165,go_sem,hc]) rfl ⟨_,rfl,HD.out _ _ _,?_⟩
 exact ((((Below.refl w.heap.size w).alloc (Nat.le_refl _) _).trans (HB.out.mono (by simp))).setCell (Nat.le_refl _) _).setCell (Nat.le_refl _) _ |>.setCell (Nat.le_refl _) _

set_option maxHeartbeats 400000 in
theorem ye (n:Int) (w:World) (h0:n<0) (h1: -9223372036854775808≤n) :
  Calls Tryz.prog 165 #[.int .i64 n] w fun x w'=>∃ v,x=.returned (dx true v 0)∧DN w' v n.natAbs∧Below w.heap.size w w':=by
 have hu:Hid (-(n+1)+1=(n.natAbs:Int)):=by show _=_;omega
 unfold dx
 go_enter Tryz.func165,Tryz.ntmps165
 go_wp2_with fail
 refine (gI _ n.natAbs _ hu (by omega)).mono ?_
 rintro x w1 ⟨v1,rfl,hd1,hfr,hb1⟩
 obtain⟨p,l,c,rfl⟩:=hd1.shape
 have HB:=aa hb1
 obtain⟨hc,hf⟩:=rL hb1
 have hz:w.heap.size<w1.heap.size:=by have:=hb1.size;simp at this;omega
 have HD:=fun a b c=>((hd1.set hfr (a:=⟨w.heap.size,0,none⟩) (by simp) a).set hfr (a:=⟨w.heap.size,1,none⟩) (by simp) b).set hfr (a:=⟨w.heap.size,2,none⟩) (by simp) c
 have HD:=aa HD
 clear hd1 hb1 hfr
 go_wp2_with fail
 refine bodyPost_ret (v:=.agg #[.bool true,.slice p l c,.int .i64 0]) (by simp [results,Tryz.results165,go_sem,hc]) rfl ⟨_,rfl,HD.out _ _ _,?_⟩
 exact ((((Below.refl w.heap.size w).alloc (Nat.le_refl _) _).trans (HB.out.mono (by simp))).setCell (Nat.le_refl _) _).setCell (Nat.le_refl _) _ |>.setCell (Nat.le_refl _) _

theorem uH (n:Int) (w:World) (h0: -9223372036854775808≤n) (h1:n≤9223372036854775807) :
  Calls Tryz.prog 165 #[.int .i64 n] w fun x w'=>∃ v,x=.returned (dx (decide (n<0)) v 0)∧DN w' v n.natAbs∧Below w.heap.size w w':=by
 by_cases h:n<0
 ·rw [decide_eq_true h];exact ye n w h h0
 ·rw [decide_eq_false h,show n.natAbs=n.toNat by omega];exact yd n w (by omega) h1

theorem gj (neg:Bool) (v:Value) (e:Int) (N:Nat) (w:World) (h:DN w v N) (hb:nd N≤1000000) (he: -10000000≤e) (he':e≤10000000) :
  Calls Tryz.prog 164 #[.agg #[.bool neg,v,.int .i64 e]] w fun x w'=>x=.returned (.int .u64 (bO neg N e false))∧Below w.heap.size w w':=AR neg v e N w h hb he he'

theorem lC {u:Int} (h:U64 u):bits .and .u64 u 4503599627370495=szI u % 4503599627370496:=by
 rw [lA h.1 h.2];unfold szI;omega
theorem lD {z:Int} (h0:0≤z) (h:z<18446744073709551616):bits .and .u64 z 2047=z % 2048:=by
 obtain⟨b,rfl⟩:=Int.eq_ofNat_of_zero_le h0
 have:=bits_and_u64_nat b 2047 (by omega) (by decide)
 rw [show ((2047:Nat):Int)=2047 from rfl] at this
 rw [this]
 have e:=Nat.and_two_pow_sub_one_eq_mod b 11
 rw [show (2:Nat)^11 - 1=2047 from rfl,show (2:Nat)^11=2048 from rfl] at e
 rw [e];omega

set_option maxHeartbeats 400000 in
theorem FM (u:Int) (w:World) (h:U64 u) (h1:0<szI u) (h2:szI u<4503599627370496) :
  Calls Tryz.prog 89 #[.int .u64 u] w fun x w'=>∃ v,x=.returned (dx (sgB u) v (-1074))∧DN w' v (szI u).toNat∧Below w.heap.size w w':=by
 have hm:bits .and .u64 u 4503599627370495=szI u:=by rw [lC h];omega
 have hE:bits .and .u64 (u / 4503599627370496) 2047=0:=by
  have:=h.1;have:=h.2
  rw [lD (by omega) (by omega)];unfold szI at h2;omega
 have hz0:(szI u==0)=false:=by simp;omega
 have hu:Hid (szI u=((szI u).toNat:Int)):=by show _=_;omega
 have hsg:decide (9223372036854775808≤u)=sgB u:=rfl
 have hb2:(szI u).toNat<18446744073709551616:=by omega
 generalize szI u=z at h1 h2 hm hz0 hu hb2
 generalize sgB u=sg at hsg
 unfold dx
 go_enter Tryz.func89,Tryz.ntmps89
 go_wp2_with fail
 refine (gI z z.toNat _ hu hb2).mono ?_
 rintro x w1 ⟨v1,rfl,hd1,hfr,hb1⟩
 obtain⟨p,l,c,rfl⟩:=hd1.shape
 have HB:=aa hb1
 obtain⟨hc,hf⟩:=rL hb1
 have hz:w.heap.size<w1.heap.size:=by have:=hb1.size;simp at this;omega
 have HD:=fun a b c=>((hd1.set hfr (a:=⟨w.heap.size,0,none⟩) (by simp) a).set hfr (a:=⟨w.heap.size,1,none⟩) (by simp) b).set hfr (a:=⟨w.heap.size,2,none⟩) (by simp) c
 have HD:=aa HD
 clear hd1 hb1 hfr
 go_wp2_with fail
 refine bodyPost_ret (v:=.agg #[.bool sg,.slice p l c,.int .i64 (-1074)]) (by simp [results,Tryz.results89,go_sem,hc]) rfl ⟨_,rfl,HD.out _ _ _,?_⟩
 exact ((((Below.refl w.heap.size w).alloc (Nat.le_refl _) _).trans (HB.out.mono (by simp))).setCell (Nat.le_refl _) _).setCell (Nat.le_refl _) _ |>.setCell (Nat.le_refl _) _

set_option maxHeartbeats 400000 in
theorem yg (u:Int) (w:World) (h:U64 u) (h1:4503599627370496≤szI u) (h2:szI u<9218868437227405312) :
  Calls Tryz.prog 89 #[.int .u64 u] w fun x w'=>∃ v,x=.returned (dx (sgB u) v (szI u / 4503599627370496 - 1075))∧DN w' v (4503599627370496+szI u % 4503599627370496).toNat∧Below w.heap.size w w':=by
 have hm:bits .and .u64 u 4503599627370495=szI u % 4503599627370496:=lC h
 have hE:bits .and .u64 (u / 4503599627370496) 2047=szI u / 4503599627370496:=by
  have:=h.1;have:=h.2
  rw [lD (by omega) (by omega)];unfold szI at h2 ⊢;omega
 have hq0:0<szI u / 4503599627370496:=by omega
 have hq1:szI u / 4503599627370496<2047:=by omega
 have hr0:0≤szI u % 4503599627370496:=by omega
 have hr1:szI u % 4503599627370496<4503599627370496:=by omega
 have hsg:decide (9223372036854775808≤u)=sgB u:=rfl
 clear h1 h2
 generalize szI u % 4503599627370496=z at hm hr0 hr1
 generalize szI u / 4503599627370496=q at hE hq0 hq1
 generalize sgB u=sg at hsg
 have hu:Hid (z+4503599627370496=((4503599627370496+z).toNat:Int)):=by show _=_;omega
 have hz0:(z+4503599627370496==0)=false:=by simp;omega
 unfold dx
 go_enter Tryz.func89,Tryz.ntmps89
 go_wp2_with fail
 refine (gI _ (4503599627370496+z).toNat _ hu (by omega)).mono ?_
 rintro x w1 ⟨v1,rfl,hd1,hfr,hb1⟩
 obtain⟨p,l,c,rfl⟩:=hd1.shape
 have HB:=aa hb1
 obtain⟨hc,hf⟩:=rL hb1
 have hz:w.heap.size<w1.heap.size:=by have:=hb1.size;simp at this;omega
 have HD:=fun a b c=>((hd1.set hfr (a:=⟨w.heap.size,0,none⟩) (by simp) a).set hfr (a:=⟨w.heap.size,1,none⟩) (by simp) b).set hfr (a:=⟨w.heap.size,2,none⟩) (by simp) c
 have HD:=aa HD
 clear hd1 hb1 hfr
 go_wp2_with fail
 refine bodyPost_ret (v:=.agg #[.bool sg,.slice p l c,.int .i64 (q - 1075)]) (by simp [results,Tryz.results89,go_sem,hc]) rfl ⟨_,rfl,HD.out _ _ _,?_⟩
 exact ((((Below.refl w.heap.size w).alloc (Nat.le_refl _) _).trans (HB.out.mono (by simp))).setCell (Nat.le_refl _) _).setCell (Nat.le_refl _) _ |>.setCell (Nat.le_refl _) _

theorem FN (u:Int) (w:World) (h:U64 u) (h1:0<szI u) (h2:szI u<9218868437227405312) :
  Calls Tryz.prog 89 #[.int .u64 u] w fun x w'=>∃ v,x=.returned (dx (sgB u) v (ir (szI u)))∧DN w' v (eB (szI u)).toNat∧Below w.heap.size w w':=by
 unfold ir eB
 by_cases hc:szI u<4503599627370496
 ·rw [if_pos hc,if_pos hc];exact FM u w h h1 hc
 ·rw [if_neg hc,if_neg hc];exact yg u w h (by omega) h2

end Go.Proofs.YtjjlnmihkadlmaaGreat
