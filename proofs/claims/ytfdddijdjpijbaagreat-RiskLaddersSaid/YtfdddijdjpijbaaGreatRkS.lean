/-  -/
import Derived.Shelf.SlicesE.Clone
import Derived.Shelf.SlGeneric
import Derived.Test.YtfdddijdjpijbaaGreatHav
namespace Go.Proofs
open Go.Shelf
def Tryz.cloneI_ren:Go.Shelf.Ren:=⟨fun | 41=>55 | n=>n,fun | 22=>23 | 23=>3 | 4=>4 | n=>n,fun | n=>n⟩
theorem Tryz.cloneI:Go.Proofs.SlLaysE0.n41 Tryz.prog Tryz.cloneI_ren:={
 mixed:=by kernel_rfl
 f41:=⟨Tryz.f55.name,by decide,Tryz.func55.trans (congrArg some (by kernel_rfl))⟩
 t4:=Tryz.underlying4
 a4:=Tryz.isAgg4
 z4:=Tryz.sizeOf4
 v4:=Tryz.zeroValue4
 t22:=Tryz.underlying23
 a22:=Tryz.isAgg23
 z22:=Tryz.sizeOf23
 v22:=Tryz.zeroValue23 }
def Tryz.cloneF_ren:Go.Shelf.Ren:=⟨fun | 41=>56 | n=>n,fun | 22=>24 | 23=>27 | 4=>4 | n=>n,fun | n=>n⟩
theorem Tryz.cloneF:Go.Proofs.SlLaysE0.n41 Tryz.prog Tryz.cloneF_ren:={
 mixed:=by kernel_rfl
 f41:=⟨Tryz.f56.name,by decide,Tryz.func56.trans (congrArg some (by kernel_rfl))⟩
 t4:=Tryz.underlying4
 a4:=Tryz.isAgg4
 z4:=Tryz.sizeOf4
 v4:=Tryz.zeroValue4
 t22:=Tryz.underlying24
 a22:=Tryz.isAgg24
 z22:=Tryz.sizeOf24
 v22:=Tryz.zeroValue24 }
end Go.Proofs
namespace Go.Proofs.YtfdddijdjpijbaaGreat
open Go.RowKit
theorem BZ (b off n d:Nat) (a:List Int) (w:World) (t:VSrc w (some ⟨b,off,none⟩) b off n (xV a)) (q:a.length=n) (s:0<n) (hn:n<=1000) :
  Calls Tryz.prog 55 #[.slice (some ⟨b,off,none⟩) n d] w fun e i=>∃ g c,e=.returned (.slice (some ⟨g,0,none⟩) n c)/\i.ownsRow w.heap.size 3 1 (.slice (some ⟨g,0,none⟩) n c) n (a.map kV)/\Below w.heap.size w i:=by
 obtain⟨y,hi,o,m,p⟩:=info_parts iI;have l:=AnyE.slices_Clone Tryz.cloneI y (.int .i64 0) 1 8 hi o m p rfl (by decide) Tryz.sizeOf3 b off n d (a.map kV) w (by simp [q]) (by unfold maxLen;omega) (by omega) (fun j u h=>by
  have f:j<a.length:=by
   have:=(List.getElem?_eq_some_iff.1 h).1
   simpa using this
  rw [t.cell j (by omega)]
  rw [List.getElem?_map,List.getElem?_eq_getElem f] at h
  have k:kV a[j]=u:=Option.some.inj h;rw [<- k]
  show some (Value.int .i64 (a.getD j 0))=_
  rw [List.getD_eq_getElem?_getD,List.getElem?_eq_getElem f];rfl) (fun u k=>by obtain⟨x,_,rfl⟩:=List.mem_map.1 k;rfl)
 refine (l:Calls Tryz.prog 55 _ _ _).mono ?_
 rintro e i ⟨z,rfl,r,_,v⟩;obtain⟨g,c,rfl,_,_,_,_⟩:=dz r q s;exact⟨g,c,rfl,r,v⟩
theorem Ca (b off n d:Nat) (a:List Nat) (w:World) (t:VSrc w (some ⟨b,off,none⟩) b off n (flV a)) (q:a.length=n) (s:0<n) (hn:n<=1000) :
  Calls Tryz.prog 56 #[.slice (some ⟨b,off,none⟩) n d] w fun e i=>∃ g c,e=.returned (.slice (some ⟨g,0,none⟩) n c)/\i.ownsRow w.heap.size 27 1 (.slice (some ⟨g,0,none⟩) n c) n (a.map fV)/\Below w.heap.size w i:=by
 obtain⟨y,hi,o,m,p⟩:=info_parts jo;have l:=AnyE.slices_Clone Tryz.cloneF y (.float .f64 0) 1 8 hi o m p rfl (by decide) Tryz.sizeOf27 b off n d (a.map fV) w (by simp [q]) (by unfold maxLen;omega) (by omega) (fun j u h=>by
  have f:j<a.length:=by
   have:=(List.getElem?_eq_some_iff.1 h).1
   simpa using this
  rw [t.cell j (by omega)]
  rw [List.getElem?_map,List.getElem?_eq_getElem f] at h
  have k:fV a[j]=u:=Option.some.inj h;rw [<- k]
  show some (Value.float .f64 (a.getD j 0))=_
  rw [List.getD_eq_getElem?_getD,List.getElem?_eq_getElem f];rfl) (fun u k=>by obtain⟨x,_,rfl⟩:=List.mem_map.1 k;rfl)
 refine (l:Calls Tryz.prog 56 _ _ _).mono ?_
 rintro e i ⟨z,rfl,r,_,v⟩;obtain⟨g,c,rfl,_,_,_,_⟩:=dO r q s;exact⟨g,c,rfl,r,v⟩
end Go.Proofs.YtfdddijdjpijbaaGreat
