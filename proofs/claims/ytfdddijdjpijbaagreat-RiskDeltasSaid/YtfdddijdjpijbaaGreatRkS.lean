/-  -/
import Derived.Shelf.SlicesE.Clone
import Derived.Shelf.SlGeneric
import Derived.Test.YtfdddijdjpijbaaGreatHav
namespace Go.Proofs
open Go.Shelf
def Tryz.cloneI_ren:Go.Shelf.Ren:=⟨fun | 41=>55 | n=>n,fun | 22=>23 | 23=>3 | 4=>4 | n=>n,fun | n=>n⟩
theorem Tryz.cloneI:Go.Proofs.SlLaysE0.n41 Tryz.prog Tryz.cloneI_ren:={
 mixed:=by kernel_rfl
 f41:=⟨Tryz.f55.name,by decide,Tryz.func55.trans (congrArg some (by kernel_rfl))⟩
 t4:=Tryz.underlying4
 a4:=Tryz.isAgg4
 z4:=Tryz.sizeOf4
 v4:=Tryz.zeroValue4
 t22:=Tryz.underlying23
 a22:=Tryz.isAgg23
 z22:=Tryz.sizeOf23
 v22:=Tryz.zeroValue23 }
def Tryz.cloneF_ren:Go.Shelf.Ren:=⟨fun | 41=>56 | n=>n,fun | 22=>24 | 23=>27 | 4=>4 | n=>n,fun | n=>n⟩
theorem Tryz.cloneF:Go.Proofs.SlLaysE0.n41 Tryz.prog Tryz.cloneF_ren:={
 mixed:=by kernel_rfl
 f41:=⟨Tryz.f56.name,by decide,Tryz.func56.trans (congrArg some (by kernel_rfl))⟩
 t4:=Tryz.underlying4
 a4:=Tryz.isAgg4
 z4:=Tryz.sizeOf4
 v4:=Tryz.zeroValue4
 t22:=Tryz.underlying24
 a22:=Tryz.isAgg24
 z22:=Tryz.sizeOf24
 v22:=Tryz.zeroValue24 }
end Go.Proofs
namespace Go.Proofs.YtfdddijdjpijbaaGreat
open Go.RowKit
theorem Cx (b off n f:Nat) (a:List Int) (w:World) (t:VSrc w (some ⟨b,off,none⟩) b off n (xV a)) (q:a.length=n) (v:0<n) (hn:n<=1000) :
  Calls Tryz.prog 55 #[.slice (some ⟨b,off,none⟩) n f] w fun e o=>∃ g c,e=.returned (.slice (some ⟨g,0,none⟩) n c)/\o.ownsRow w.heap.size 3 1 (.slice (some ⟨g,0,none⟩) n c) n (a.map kV)/\Below w.heap.size w o:=by
 obtain⟨s,hi,l,m,p⟩:=info_parts iP;have k:=AnyE.slices_Clone Tryz.cloneI s (.int .i64 0) 1 8 hi l m p rfl (by decide) Tryz.sizeOf3 b off n f (a.map kV) w (by simp [q]) (by unfold maxLen;omega) (by omega) (fun j u h=>by
  have d:j<a.length:=by
   have:=(List.getElem?_eq_some_iff.1 h).1
   simpa using this
  rw [t.cell j (by omega)]
  rw [List.getElem?_map,List.getElem?_eq_getElem d] at h
  have i:kV a[j]=u:=Option.some.inj h;rw [<- i]
  show some (Value.int .i64 (a.getD j 0))=_
  rw [List.getD_eq_getElem?_getD,List.getElem?_eq_getElem d];rfl) (fun u i=>by obtain⟨x,_,rfl⟩:=List.mem_map.1 i;rfl)
 refine (k:Calls Tryz.prog 55 _ _ _).mono ?_
 rintro e o ⟨z,rfl,r,_,y⟩;obtain⟨g,c,rfl,_,_,_,_⟩:=dD r q v;exact⟨g,c,rfl,r,y⟩
theorem Cy (b off n f:Nat) (a:List Nat) (w:World) (t:VSrc w (some ⟨b,off,none⟩) b off n (flV a)) (q:a.length=n) (v:0<n) (hn:n<=1000) :
  Calls Tryz.prog 56 #[.slice (some ⟨b,off,none⟩) n f] w fun e o=>∃ g c,e=.returned (.slice (some ⟨g,0,none⟩) n c)/\o.ownsRow w.heap.size 27 1 (.slice (some ⟨g,0,none⟩) n c) n (a.map fV)/\Below w.heap.size w o:=by
 obtain⟨s,hi,l,m,p⟩:=info_parts jx;have k:=AnyE.slices_Clone Tryz.cloneF s (.float .f64 0) 1 8 hi l m p rfl (by decide) Tryz.sizeOf27 b off n f (a.map fV) w (by simp [q]) (by unfold maxLen;omega) (by omega) (fun j u h=>by
  have d:j<a.length:=by
   have:=(List.getElem?_eq_some_iff.1 h).1
   simpa using this
  rw [t.cell j (by omega)]
  rw [List.getElem?_map,List.getElem?_eq_getElem d] at h
  have i:fV a[j]=u:=Option.some.inj h;rw [<- i]
  show some (Value.float .f64 (a.getD j 0))=_
  rw [List.getD_eq_getElem?_getD,List.getElem?_eq_getElem d];rfl) (fun u i=>by obtain⟨x,_,rfl⟩:=List.mem_map.1 i;rfl)
 refine (k:Calls Tryz.prog 56 _ _ _).mono ?_
 rintro e o ⟨z,rfl,r,_,y⟩;obtain⟨g,c,rfl,_,_,_,_⟩:=fx r q v;exact⟨g,c,rfl,r,y⟩
end Go.Proofs.YtfdddijdjpijbaaGreat
