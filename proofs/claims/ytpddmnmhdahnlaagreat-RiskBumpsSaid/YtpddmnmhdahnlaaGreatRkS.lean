/-  -/
import Derived.Shelf.SlicesE.Clone
import Derived.Shelf.SlGeneric
import Derived.Test.YtpddmnmhdahnlaaGreatHaw
namespace Go.Proofs
open Go.Shelf
def Tryz.cloneI_ren:Go.Shelf.Ren:=⟨fun | 41=>78 | n=>n,fun | 22=>22 | 23=>3 | 4=>4 | n=>n,fun | n=>n⟩
theorem Tryz.cloneI:Go.Proofs.SlLaysE0.n41 Tryz.prog Tryz.cloneI_ren:={
 mixed:=by kernel_rfl
 f41:=⟨Tryz.f78.name,by decide,Tryz.func78.trans (congrArg some (by kernel_rfl))⟩
 t4:=Tryz.underlying4
 a4:=Tryz.isAgg4
 z4:=Tryz.sizeOf4
 v4:=Tryz.zeroValue4
 t22:=Tryz.underlying22
 a22:=Tryz.isAgg22
 z22:=Tryz.sizeOf22
 v22:=Tryz.zeroValue22 }
def Tryz.cloneF_ren:Go.Shelf.Ren:=⟨fun | 41=>79 | n=>n,fun | 22=>23 | 23=>26 | 4=>4 | n=>n,fun | n=>n⟩
theorem Tryz.cloneF:Go.Proofs.SlLaysE0.n41 Tryz.prog Tryz.cloneF_ren:={
 mixed:=by kernel_rfl
 f41:=⟨Tryz.f79.name,by decide,Tryz.func79.trans (congrArg some (by kernel_rfl))⟩
 t4:=Tryz.underlying4
 a4:=Tryz.isAgg4
 z4:=Tryz.sizeOf4
 v4:=Tryz.zeroValue4
 t22:=Tryz.underlying23
 a22:=Tryz.isAgg23
 z22:=Tryz.sizeOf23
 v22:=Tryz.zeroValue23 }
end Go.Proofs
namespace Go.Proofs.YtpddmnmhdahnlaaGreat
open Go.RowKit
theorem zf (b off n cap:Nat) (ds:List Int) (w:World) (hs:VSrc w (some ⟨b,off,none⟩) b off n (xV ds)) (hl:ds.length=n) (h0:0<n) (hn:n≤1000) :
  Calls Tryz.prog 78 #[.slice (some ⟨b,off,none⟩) n cap] w fun e w'=>∃ g c,e=.returned (.slice (some ⟨g,0,none⟩) n c)∧w'.ownsRow w.heap.size 3 1 (.slice (some ⟨g,0,none⟩) n c) n (ds.map kV)∧Below w.heap.size w w':=by
 obtain⟨i0,hi,hz0,hz1,hz2⟩:=info_parts jy
 have key:=AnyE.slices_Clone Tryz.cloneI i0 (.int .i64 0) 1 8 hi hz0 hz1 hz2 rfl (by decide) Tryz.sizeOf3 b off n cap (ds.map kV) w (by simp [hl]) (by unfold maxLen;omega) (by omega) (fun j u hj=>by
  have hj1:j<ds.length:=by
   have:=(List.getElem?_eq_some_iff.1 hj).1
   simpa using this
  rw [hs.cell j (by omega)]
  rw [List.getElem?_map,List.getElem?_eq_getElem hj1] at hj
  have hu:kV ds[j]=u:=Option.some.inj hj
  rw [← hu]
  show some (Value.int .i64 (ds.getD j 0))=_
  rw [List.getD_eq_getElem?_getD,List.getElem?_eq_getElem hj1];rfl) (fun u hu=>by obtain⟨x,_,rfl⟩:=List.mem_map.1 hu;rfl)
 refine (key:Calls Tryz.prog 78 _ _ _).mono ?_
 rintro e w' ⟨v',rfl,ho,_,hb⟩
 obtain⟨g,c,rfl,_,_,_,_⟩:=fI ho hl h0
 exact⟨g,c,rfl,ho,hb⟩
theorem zg (b off n cap:Nat) (fs:List Nat) (w:World) (hs:VSrc w (some ⟨b,off,none⟩) b off n (flV fs)) (hl:fs.length=n) (h0:0<n) (hn:n≤1000) :
  Calls Tryz.prog 79 #[.slice (some ⟨b,off,none⟩) n cap] w fun e w'=>∃ g c,e=.returned (.slice (some ⟨g,0,none⟩) n c)∧w'.ownsRow w.heap.size 26 1 (.slice (some ⟨g,0,none⟩) n c) n (fs.map fV)∧Below w.heap.size w w':=by
 obtain⟨i0,hi,hz0,hz1,hz2⟩:=info_parts ij
 have key:=AnyE.slices_Clone Tryz.cloneF i0 (.float .f64 0) 1 8 hi hz0 hz1 hz2 rfl (by decide) Tryz.sizeOf26 b off n cap (fs.map fV) w (by simp [hl]) (by unfold maxLen;omega) (by omega) (fun j u hj=>by
  have hj1:j<fs.length:=by
   have:=(List.getElem?_eq_some_iff.1 hj).1
   simpa using this
  rw [hs.cell j (by omega)]
  rw [List.getElem?_map,List.getElem?_eq_getElem hj1] at hj
  have hu:fV fs[j]=u:=Option.some.inj hj
  rw [← hu]
  show some (Value.float .f64 (fs.getD j 0))=_
  rw [List.getD_eq_getElem?_getD,List.getElem?_eq_getElem hj1];rfl) (fun u hu=>by obtain⟨x,_,rfl⟩:=List.mem_map.1 hu;rfl)
 refine (key:Calls Tryz.prog 79 _ _ _).mono ?_
 rintro e w' ⟨v',rfl,ho,_,hb⟩
 obtain⟨g,c,rfl,_,_,_,_⟩:=dO ho hl h0
 exact⟨g,c,rfl,ho,hb⟩
end Go.Proofs.YtpddmnmhdahnlaaGreat
