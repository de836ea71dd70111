import Derived.Test.YtafkfnodcemefaaGreatB31
set_option maxHeartbeats 8000000
namespace Go.Proofs.YtafkfnodcemefaaGreat
section
open Go.RowKit Go.Maps Rm Fm Sb
theorem dh5 (z:Int) (m:Nat) (hm:m<65536):∃ c:Nat,c<=m/\bits .and .i64 z (m:Int)=(c:Int):=by
 have e0:(BitVec.ofInt 64 (m:Int)).toNat=m:=by simp; omega
 have h1:(BitVec.ofInt 64 z &&& BitVec.ofInt 64 (m:Int)).toNat<=m:=by
  rw [BitVec.toNat_and,e0];exact Nat.and_le_right
 refine ⟨(BitVec.ofInt 64 z &&& BitVec.ofInt 64 (m:Int)).toNat,h1,?_⟩;have e:bits .and .i64 z (m:Int)=IntKind.i64.wrap ((BitVec.ofInt 64 z &&& BitVec.ofInt 64 (m:Int)).toNat:Int):=rfl;rw [e];generalize (BitVec.ofInt 64 z &&& BitVec.ofInt 64 (m:Int)).toNat=n at*;simp only [IntKind.wrap,IntKind.bits,IntKind.signed];simp;omega
section
variable {w0 w:World} {N:Nat} {d:Nat->Nat} {z:Int}
end
section
variable {w0 w:World} {N:Nat} {d:Nat->Nat} {z:Int}
end
end
end Go.Proofs.YtafkfnodcemefaaGreat
