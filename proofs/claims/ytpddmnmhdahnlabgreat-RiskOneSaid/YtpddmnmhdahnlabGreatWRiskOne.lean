/-  -/
import Derived.Test.YtpddmnmhdahnlabGreatHbv
import Derived.Test.YtpddmnmhdahnlabGreatFFlw
namespace Go.Proofs.YtpddmnmhdahnlabGreat
open Go.RowKit

theorem FY (l:List Flw) (cur:Int) (c:Cv) (h:Nat) (hn:c.ds.length=1):lnV l cur c h 0=deV l cur c h∧lnE l cur c h 0=deE l cur c h:=by
 have e1:c.bump 0 h=c.para h:=by
  unfold Cv.bump Cv.para
  rw [hn];rfl
 have e2:bmE c 0 h=paE c h:=by
  unfold bmE paE
  by_cases hb:bmB c 0 h=true
  ·rw [if_pos hb,if_pos (fun k hk=>by rw [show k=0 by omega];exact hb)]
  ·rw [if_neg hb,if_neg (fun hA=>hb (hA 0 (by omega)))]
 unfold lnV lnE deV deE
 rw [e1,e2];exact⟨rfl,rfl⟩
theorem IR (w:World) (o1 o2:Obj):(((w.alloc o1).alloc o2).alloc ao).heap[w.heap.size]? =some o1∧(((w.alloc o1).alloc o2).alloc ao).heap[w.heap.size+1]? =some o2∧(((w.alloc o1).alloc o2).alloc ao).heap[w.heap.size+1+1]? =some ao∧Below w.heap.size w (((w.alloc o1).alloc o2).alloc ao):=by
 have s1:(w.alloc o1).heap.size=w.heap.size+1:=by simp
 have s2:((w.alloc o1).alloc o2).heap.size=w.heap.size+1+1:=by simp
 have b1:=(Below.refl (w.heap.size+1) (w.alloc o1)).alloc (by omega) o2
 have b2:=(Below.refl (w.heap.size+1+1) ((w.alloc o1).alloc o2)).alloc (by omega) ao
 refine⟨?_,?_,?_,(((Below.refl _ _).alloc (Nat.le_refl _) _).alloc (by omega) _).alloc (by omega) _⟩
 ·rw [b2.block _ (by omega),b1.block _ (by omega)];exact heap_alloc_new _ _
 ·rw [b2.block _ (by omega),← s1];exact heap_alloc_new _ _
 ·rw [← s2];exact heap_alloc_new _ _
structure OnB (w:World) (c:Cv) (wr:World):Prop where
 bx:BxK wr (w.heap.size+1+1) c.base c.kind (.slice (some ⟨w.heap.size,0,none⟩) 1 1) (.slice (some ⟨w.heap.size+1,0,none⟩) 1 1)
 src:TFl wr (some ⟨w.heap.size,0,none⟩) (some ⟨w.heap.size+1,0,none⟩) w.heap.size 0 (w.heap.size+1) 0 c.ds c.fs
 bl:Below w.heap.size w wr
theorem OnB.step {w:World} {c:Cv} {wr w':World} (h:OnB w c wr) (hb:Below wr.heap.size wr w'):OnB w c w':=⟨h.bx.step hb,h.src.below hb,h.bl.trans (hb.mono h.bl.size)⟩
set_option maxRecDepth 40000 in
set_option maxHeartbeats 12800000 in
theorem yl (l:List Flw) (cur base kind day:Int) (fa h:Nat) (pl:Option Addr) (bl ol cl N:Nat) (w:World) (hl:JSrc aF w pl bl ol l) (hN:l.length=N) (hf:eI l) (hfa:fa<18446744073709551616) (hh:h<18446744073709551616) :
  Calls Tryz.prog 3 #[.slice pl N cl,.int .i64 cur,.int .i64 base,.int .i64 kind,.int .i64 day,.float .f64 fa,.float .f64 h] w fun e w'=>e=.returned (.bool true)∧Below w.heap.size w w':=by
 obtain⟨c,hc⟩:∃ c:Cv,c=⟨base,kind,[day],[fa]⟩:=⟨_,rfl⟩
 have cb:c.base=base:=by rw [hc]
 have ck:c.kind=kind:=by rw [hc]
 have cd:c.ds=[day]:=by rw [hc]
 have cf:c.fs=[fa]:=by rw [hc]
 have cn:c.ds.length=1:=by rw [cd];rfl
 have cm:c.fs.length=1:=by rw [cf];rfl
 obtain⟨h3x,h3y,h3z,h3b⟩:=IR w (.cells #[.int .i64 day] 3) (.cells #[.float .f64 fa] 23)
 obtain⟨w3,hw3⟩:∃ w3,((w.alloc (.cells #[.int .i64 day] 3)).alloc (.cells #[.float .f64 fa] 23)).alloc ao=w3:=⟨_,rfl⟩
 rw [hw3] at h3x h3y h3z h3b
 unfold ao at hw3
 obtain⟨u1,u2,u3,u4,⟨e0,z0,y0⟩,⟨e1,z1,y1⟩,⟨e2,z2,y2⟩,⟨e3,z3,y3⟩,hZ,hB⟩:=aS (w.heap.size+1+1) base kind (.slice (some ⟨w.heap.size,0,none⟩) 1 1) (.slice (some ⟨w.heap.size+1,0,none⟩) 1 1) w3 h3z
 have hx:=(hB.block w.heap.size (by omega)).trans h3x
 have hy:=(hB.block (w.heap.size+1) (by omega)).trans h3y
 have HA:Hid (OnB w c u4):=by
  refine⟨by rw [cb,ck];exact hZ,⟨⟨fun _=>rfl,fun _=>(Array.getElem?_eq_some_iff.1 hx).1,fun j hj=>?_⟩,⟨fun _=>rfl,fun _=>(Array.getElem?_eq_some_iff.1 hy).1,fun j hj=>?_⟩,fun i hi=>?_⟩,h3b.trans (hB.mono (by omega))⟩
  ·obtain rfl:j=0:=by omega
   simp only [World.cell?,hx,Option.isSome_none,Bool.false_eq_true,if_false]
   rw [cd];rfl
  ·obtain rfl:j=0:=by omega
   simp only [World.cell?,hy,Option.isSome_none,Bool.false_eq_true,if_false]
   rw [cf];rfl
  ·obtain rfl:i=0:=by omega
   rw [cf];exact hfa
 have HBl:=hideS (HA.out.bl)
 have Hhl:=hideS hl
 have HAw:=hideS IP
 have Hbk:=hideS (And.intro cb ck)
 by_cases hN20:N≤20
 ·obtain⟨s1,s2⟩:=FY l cur c h cn
  have HLa:Hid (∀ wx,OnB w c wx→JSrc aF wx pl bl ol l→Calls Tryz.prog 7 #[.slice pl N cl,.int .i64 cur,.agg #[.int .i64 base,.int .i64 kind,.slice (some ⟨w.heap.size,0,none⟩) 1 1,.slice (some ⟨w.heap.size+1,0,none⟩) 1 1],.float .f64 h] wx fun e w'=>((prE l cur c≠0∧e=.returned (.tuple #[.slice none 0 0,.int .i64 (prE l cur c)]))∨(prE l cur c=0∧deE l cur c h≠0∧e=.returned (.tuple #[.slice none 0 0,.int .i64 (deE l cur c h)]))∨(prE l cur c=0∧deE l cur c h=0∧∃ g,e=.returned (.tuple #[.slice (some ⟨g,0,none⟩) 1 1,.int .i64 0])∧w'.cell? ⟨g,0,none⟩=some (.float .f64 (deV l cur c h))∧g<w'.heap.size))∧Below wx.heap.size wx w'):=fun wx hx hj=>by
   have:=oF l cur c h pl bl ol cl N _ _ _ _ 1 _ _ 1 wx hh hj hN (by omega) hf hx.src
   rw [cb,ck,cn,cm] at this
   refine this.mono ?_
   rintro e w' ⟨ho,hb⟩
   refine⟨?_,hb⟩
   rcases ho with ho | ⟨h0,ho⟩
   ·exact Or.inl ho
   ·rcases ho with⟨k,hk,hE,_,he⟩| ⟨hE,g,he,ho⟩
    ·obtain rfl:k=0:=by omega
     rw [s2] at hE he
     exact Or.inr (Or.inl ⟨h0,hE,he⟩)
    ·have hE0:=hE 0 (by omega)
     rw [s2] at hE0
     obtain⟨g',c',e',hs',_⟩:=cQ ho (by simp) (by omega)
     injection e' with e1 _ _
     injection e1 with e1
     injection e1 with e1
     subst e1
     have hc0:=hs'.cell 0 (by omega)
     unfold flV at hc0
     rw [vC _ (by omega),s1] at hc0
     exact Or.inr (Or.inr ⟨h0,hE0,g,he,hc0,hs'.lt (by omega)⟩)
  have HDe:Hid (∀ wx,OnB w c wx→JSrc aF wx pl bl ol l→Calls Tryz.prog 8 #[.slice pl N cl,.int .i64 cur,.agg #[.int .i64 base,.int .i64 kind,.slice (some ⟨w.heap.size,0,none⟩) 1 1,.slice (some ⟨w.heap.size+1,0,none⟩) 1 1],.float .f64 h] wx fun e w'=>((prE l cur c≠0∧e=.returned (.tuple #[.float .f64 0,.int .i64 (prE l cur c)]))∨(prE l cur c=0∧e=.returned (.tuple #[.float .f64 (deV l cur c h),.int .i64 (deE l cur c h)])))∧Below wx.heap.size wx w'):=fun wx hx hj=>by
   have:=qP l cur c h pl bl ol cl N _ _ _ _ 1 _ _ 1 wx hh hj hN (by omega) hf hx.src
   rw [cb,ck,cn,cm] at this
   exact this
  have HTt:Hid (∀ wx,OnB w c wx→wx.cell? ⟨w.heap.size+1+1,0,none⟩=some (.int .i64 base)∧wx.cell? ⟨w.heap.size+1+1,1,none⟩=some (.int .i64 kind)∧wx.cell? ⟨w.heap.size+1+1,2,none⟩=some (.slice (some ⟨w.heap.size,0,none⟩) 1 1)∧wx.cell? ⟨w.heap.size+1+1,3,none⟩=some (.slice (some ⟨w.heap.size+1,0,none⟩) 1 1)):=fun wx hx=>by
   have:=hx.bx.t
   rw [cb,ck] at this;exact this
  have HJ:=hideS (Hhl.out.below HA.out.bl)
  obtain⟨t0,t1,t2,t3⟩:=HTt.out _ HA.out
  generalize prE l cur c=PE at *
  generalize deE l cur c h=DE at *
  generalize deV l cur c h=DV at *
  clear s1 s2 hl hN hf hfa hh cb ck cd cf cn cm h3x h3y h3z h3b hZ hB hx hy Hbk hc
  have n20:¬ (20:Int)<(N:Int):=by omega
  go_enter Tryz.func3,Tryz.ntmps3
  go_wp2_with fail
  clear hw3 e0 z0 y0 e1 z1 y1 e2 z2 y2 e3 z3 y3 t0 t1 t2 t3
  refine (HLa.out _ HA.out HJ.out).mono ?_
  rintro e w5 ⟨ho,hb5⟩
  have HA5:=hideS (HA.out.step hb5)
  have HJ5:=hideS (HJ.out.below hb5)
  obtain⟨t0,t1,t2,t3⟩:=HTt.out _ HA5.out
  clear hb5 HLa
  rcases ho with⟨hP,rfl⟩| ⟨hP,hD,rfl⟩| ⟨hP,hD,g,rfl,hc0,hg⟩
  ·have HP:=hideS hP
   have dP:(PE !=0)=true:=bne_iff_ne.2 hP
   clear hP
   go_wp2_with fail
   refine (HDe.out _ HA5.out HJ5.out).mono ?_
   rintro e w6 ⟨ho,hb6⟩
   have HA6:=hideS (HA5.out.step hb6)
   clear hb6
   rcases ho with⟨_,rfl⟩| ⟨h0,_⟩
   ·go_wp2_with fail
    refine (HAw.out _).mono ?_
    rintro e w7 ⟨rfl,hb7⟩
    have HB7:=hideS (HA6.out.bl.trans (hb7.mono HA6.out.bl.size))
    clear hb7
    go_wp2_with fail
    go_ret
    exact⟨rfl,HB7.out⟩
   ·exact absurd h0 HP.out
  ·have HP:=hideS hP
   have dD:(DE !=0)=true:=bne_iff_ne.2 hD
   clear hP hD
   go_wp2_with fail
   refine (HDe.out _ HA5.out HJ5.out).mono ?_
   rintro e w6 ⟨ho,hb6⟩
   have HA6:=hideS (HA5.out.step hb6)
   clear hb6
   rcases ho with⟨h0,_⟩| ⟨_,rfl⟩
   ·exact absurd HP.out h0
   ·go_wp2_with fail
    refine (HAw.out _).mono ?_
    rintro e w7 ⟨rfl,hb7⟩
    have HB7:=hideS (HA6.out.bl.trans (hb7.mono HA6.out.bl.size))
    clear hb7
    go_wp2_with fail
    go_ret
    exact⟨rfl,HB7.out⟩
  ·have HP:=hideS hP
   have HC:=hideS (And.intro hc0 hg)
   subst hD
   clear hP hc0 hg
   go_wp2_with fail
   refine (HDe.out _ HA5.out HJ5.out).mono ?_
   rintro e w6 ⟨ho,hb6⟩
   have HA6:=hideS (HA5.out.step hb6)
   have k0:=(hb6.cell (p:=⟨g,0,none⟩) HC.out.2).trans HC.out.1
   clear hb6
   rcases ho with⟨h0,_⟩| ⟨_,rfl⟩
   ·exact absurd HP.out h0
   ·go_wp2_with (go_at_call 9;refine (turned (lZ _ _)).mono ?_;rintro e w' ⟨rfl,rfl⟩)
    refine (HAw.out _).mono ?_
    rintro e w7 ⟨rfl,hb7⟩
    have HB7:=hideS (HA6.out.bl.trans (hb7.mono HA6.out.bl.size))
    clear hb7
    go_wp2_with fail
    go_ret
    exact⟨rfl,HB7.out⟩
 ·have n20:(20:Int)<(N:Int):=by omega
  clear hl hN hf hfa hh cb ck cd cf cn cm h3x h3y h3z h3b hZ hB hx hy Hbk hc
  go_enter Tryz.func3,Tryz.ntmps3
  go_wp2_with fail
  refine (HAw.out _).mono ?_
  rintro e w7 ⟨rfl,hb7⟩
  have HB7:=hideS (HBl.out.trans (hb7.mono HBl.out.size))
  clear hb7
  go_wp2_with fail
  go_ret
  exact⟨rfl,HB7.out⟩
theorem sx (pl:Option Addr) (bl ol cl:Nat) (l:List Flw) (cur base kind day:Int) (fa h:Nat) (w:World) (hl:JSrc aF w pl bl ol l) (hf:eI l) (_:l.length≤9223372036854775807) (_:vK cur) (_:vK base) (_:vK kind) (_:vK day) (hfa:fa<18446744073709551616) (hh:h<18446744073709551616) :
  Calls Tryz.prog 3 #[.slice pl l.length cl,.int .i64 cur,.int .i64 base,.int .i64 kind,.int .i64 day,.float .f64 fa,.float .f64 h] w fun e w'=>e=.returned (.bool true)∧Below w.heap.size w w':=
 yl l cur base kind day fa h pl bl ol cl _ w hl rfl hf hfa hh
end Go.Proofs.YtpddmnmhdahnlabGreat
