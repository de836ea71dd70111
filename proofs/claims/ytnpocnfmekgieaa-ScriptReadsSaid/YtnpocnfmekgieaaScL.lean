/-
  The contract of the statement's own Right of an event.
-/
import Derived.Test.YtnpocnfmekgieaaScE
import Derived.Test.YtnpocnfmekgieaaScA
namespace Go.Proofs.Ytnpocnfmekgieaa
open Go.RowKit Go.Maps Sc

theorem eql_pz (a : Nat) (n : Int) (w : World) : (binOp .eql 28 (.agg #[.int .u32 (a : Nat), .int .i64 n]) (.agg #[.int .u32 0, .int .i64 0])).run Try.prog w = .ok (.bool (a == 0 && n == 0)) w := by
  go_simp
  by_cases h1 : a = 0
  · by_cases h2 : n = 0
    · simp [h1, h2]
    · simp [h1, h2]
  · simp [h1]
theorem eql_s0 (s : ByteArray) (p : List UInt8) (h : s = ⟨p.toArray⟩) (w : World) : (binOp .eql 9 (.string s) (.string ⟨#[]⟩)).run Try.prog w = .ok (.bool p.isEmpty) w := by
  subst h
  go_simp
end Go.Proofs.Ytnpocnfmekgieaa
