import Derived.Test.YthaefdlkpljojaaGreatDoorQ22
import Derived.Test.YthaefdlkpljojaaGreatDoorQ23
import Derived.Test.YthaefdlkpljojaaGreatDoorQ24
set_option maxHeartbeats 8000000
namespace Go.Proofs.YthaefdlkpljojaaGreatDoor.Sp
open Go.RowKit Go.Maps Sc
theorem eright_any (e:Ev) (ha:e.a<4294967296) (w:World):
  Calls Tryz.prog 44 #[.agg (ecs e)] w fun x w'=>x= .returned (.bool (right e))∧Below w.heap.size w w':=by
 have hs:(⟨e.p.toArray⟩:ByteArray).size=e.p.length:=str_size e.p
 have e7:decide (((⟨e.p.toArray⟩:ByteArray).size:Int)≤240)=decide (e.p.length≤240):=by rw [hs,decide_eq_decide]; omega
 have e8:((((⟨e.p.toArray⟩:ByteArray).size:Int) % 6)==0)=decide (e.p.length % 6=0):=by rw [hs,Bool.eq_iff_iff,beq_iff_eq,decide_eq_true_eq]; omega
 unfold right
 cases h0:decide (0≤e.kind)
 ·exact right_0 e _ rfl h0 w
 cases h1:decide (e.kind≤10)
 ·exact right_1 e _ rfl h0 h1 w
 cases h2:bare e
 ·exact right_2 e _ rfl h0 h1 h2 w
 cases h3:small e.i
 ·exact right_3 e _ rfl h0 h1 h2 h3 w
 cases h4:small e.k
 ·exact right_4 e _ rfl h0 h1 h2 h3 h4 w
 cases h5:small e.n
 ·exact right_5 e _ rfl h0 h1 h2 h3 h4 h5 w
 cases h6:Am.right e.a e.len
 ·exact right_6 e _ rfl h0 h1 h2 h3 h4 h5 ha h6 w
 cases h7:decide (e.p.length≤240)
 ·exact right_7 e _ rfl h0 h1 h2 h3 h4 h5 ha h6 (e7.trans h7) w
 ·exact right_8 e _ rfl h0 h1 h2 h3 h4 h5 ha h6 (e7.trans h7) _ e8 w
theorem eright_eq {e:Ev} {r:Bool} (ha:e.a<4294967296) (h:right e=r) (w:World):Calls Tryz.prog 44 #[.agg (ecs e)] w fun x w'=>x= .returned (.bool r)∧Below w.heap.size w w':=h ▸ eright_any e ha w
end Go.Proofs.YthaefdlkpljojaaGreatDoor.Sp
