/-  -/
import Derived.Test.YtjjlnmihkadlmaaGreatHal
import Derived.Deep.OwnRows
namespace Go.Proofs.YtjjlnmihkadlmaaGreat
open Go.RowKit

end Go.Proofs.YtjjlnmihkadlmaaGreat
namespace Go.Proofs.YtjjlnmihkadlmaaGreat
open Go.RowKit

end Go.Proofs.YtjjlnmihkadlmaaGreat
namespace Go.Proofs.YtjjlnmihkadlmaaGreat
open Go.RowKit

end Go.Proofs.YtjjlnmihkadlmaaGreat
namespace Go.Proofs.YtjjlnmihkadlmaaGreat
open Go.RowKit

end Go.Proofs.YtjjlnmihkadlmaaGreat
namespace Go.Proofs.YtjjlnmihkadlmaaGreat
open Go.RowKit

end Go.Proofs.YtjjlnmihkadlmaaGreat
namespace Go.Proofs.YtjjlnmihkadlmaaGreat
open Go.RowKit

structure Days (w:World) (dp:Option Addr) (bd:Nat) (xs:List Int):Prop where
 at_:0<xs.length→dp=some ⟨bd,0,none⟩
 lt:0<xs.length→bd<w.heap.size
 cell:∀ j<xs.length,w.cell? ⟨bd,j,none⟩=some (.int .i64 (xs.getD j 0))
theorem Days.below {w w':World} {dp:Option Addr} {bd:Nat} {xs:List Int} (h:Days w dp bd xs) (hb:Below w.heap.size w w'):Days w' dp bd xs:=
 ⟨h.at_,fun hx=>Nat.lt_of_lt_of_le (h.lt hx) hb.size,fun j hj=>(hb.cell (p:=⟨bd,j,none⟩) (h.lt (by omega))).trans (h.cell j hj)⟩

end Go.Proofs.YtjjlnmihkadlmaaGreat
namespace Go.Proofs.YtjjlnmihkadlmaaGreat
open Go.RowKit

end Go.Proofs.YtjjlnmihkadlmaaGreat
