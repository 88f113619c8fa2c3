/-  -/
import Derived.Test.YtjjlnmihkadlmaaGreatHbc
import Derived.Test.YtjjlnmihkadlmaaGreatHal
import Derived.Test.YtjjlnmihkadlmaaGreatHba
import Derived.Test.YtjjlnmihkadlmaaGreatHax
import Derived.Test.YtjjlnmihkadlmaaGreatHbb
import Derived.Test.YtjjlnmihkadlmaaGreatNFrac
namespace Go.Proofs.YtjjlnmihkadlmaaGreat
open Go.RowKit

end Go.Proofs.YtjjlnmihkadlmaaGreat
namespace Go.Proofs.YtjjlnmihkadlmaaGreat
open Go.RowKit

end Go.Proofs.YtjjlnmihkadlmaaGreat
namespace Go.Proofs.YtjjlnmihkadlmaaGreat
open Go.RowKit

def Two (b:Nat) (P Q:Int) (w:World):Prop:=w.cell? ⟨b,0,none⟩=some (.int .i64 P)∧w.cell? ⟨b,1,none⟩=some (.int .i64 Q)
theorem Two.below {w w':World} {b s:Nat} {P Q:Int} (h:Two b P Q w) (hb:Below s w w') (hs:b<s):Two b P Q w':=
 ⟨(hb.cell (p:=⟨b,0,none⟩) hs).trans h.1,(hb.cell (p:=⟨b,1,none⟩) hs).trans h.2⟩
end Go.Proofs.YtjjlnmihkadlmaaGreat
namespace Go.Proofs.YtjjlnmihkadlmaaGreat
open Go.RowKit

end Go.Proofs.YtjjlnmihkadlmaaGreat
namespace Go.Proofs.YtjjlnmihkadlmaaGreat
open Go.RowKit

end Go.Proofs.YtjjlnmihkadlmaaGreat
namespace Go.Proofs.YtjjlnmihkadlmaaGreat
open Go.RowKit

theorem Gb {kind:Int}:0<zX kind∧zX kind≤1000000000:=by
 unfold zX
 split
 ·decide
 ·split
  ·decide
  ·split<;>decide
theorem FracR.bd {kind W a b P Q E:Int} {rs:List Rul} (h:FracR kind W a b rs P Q E): -1000000000≤P∧P≤1000000000∧(E=0→0<Q∧Q≤1000000000)∧(E≠0→P=0∧Q=0):=by
 cases h with
 | fine hk hk' ha hb h6=>
  have:=Ga (opB W rs) (kind:=kind) ha hb
  exact⟨this.1,this.2,fun _=>Gb,fun c=>absurd rfl c⟩
 | kind h=>exact⟨by decide,by decide,fun c=>absurd c (by decide),fun _=>⟨rfl,rfl⟩⟩
 | cal A B h6 h hA=>exact⟨by decide,by decide,fun c=>absurd c hA,fun _=>⟨rfl,rfl⟩⟩
 | day hk hk' h h6=>exact⟨by decide,by decide,fun c=>absurd c (by decide),fun _=>⟨rfl,rfl⟩⟩
end Go.Proofs.YtjjlnmihkadlmaaGreat
