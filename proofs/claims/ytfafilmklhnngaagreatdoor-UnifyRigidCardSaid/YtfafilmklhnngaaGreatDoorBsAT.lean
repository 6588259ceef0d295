import Derived.Test.YtfafilmklhnngaaGreatDoorBsAS
import Derived.Laws.OwnMore
set_option maxHeartbeats 12800000
set_option maxRecDepth 100000
namespace Go.Proofs.YtfafilmklhnngaaGreatDoor
open Tryz
section
open Go.RowKit Lx Tx Go.Maps Go.WideMaps Go.Shelf
def I9(w:World)(t:Ty)(v:Value):Prop:=nc (λg=>g<w.heap.size) w t v
theorem I9.below {w w':World} {t:Ty} {v:Value}(h:I9 w t v)(hb:Below w.heap.size w w'):I9 w' t v:=nc.al h (λ_ hg=>Ci hg hb.size) (λg hg=>hb.block g hg)
theorem R6 {w:World} {t u:Ty} {v uv:Value}(hv:I9 w t v)(hu:I9 w u uv)(iW:Nm t)(bT:Nm u)(aA:t.size<=10000000000000)(h:db [] t=db [] u):Calls prog 22 #[v,uv] w λe w'=>e=.returned (.bool true)/\Below w.heap.size w w':=by
 have:=zjl t u _ _ v uv w hv hu (λ_ h=>h) (λ_ h=>h) iW bT aA;rw[(JA t u).2 h]at this;exact this
theorem FZ {w0 w w':World}(h:Below w0.heap.size w0 w)(hb:Below w.heap.size w w'):Below w0.heap.size w0 w':=h.trans (hb.mono h.size)
end
section
open Go.RowKit Lx Tx Go.Maps Go.WideMaps Go.Shelf
set_option maxRecDepth 100000
theorem Ij.shape {S:Nat->Prop} {B:Nat} {w:World} {l:List (Nat × Ty)} {v:Value}(h:Ij S B w l v):∃A c,v=.slice A l.length c:=by
 obtain⟨vs,h1,-⟩:=h;obtain⟨a,q,e⟩:=GS h1;exact⟨a,q,e⟩
end
end Go.Proofs.YtfafilmklhnngaaGreatDoor
