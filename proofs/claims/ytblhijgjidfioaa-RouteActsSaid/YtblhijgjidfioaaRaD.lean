/-
  Package route: what forgets ways: Drop; deletion from a map that may be nil, also while it is gone through.
-/
import Derived.Test.YtblhijgjidfioaaPfx
namespace Go.Proofs.Ytblhijgjidfioaa
open Go.RowKit Go.Maps
attribute [local go_sem] Oper.semAt_some

section
variable {P : Program} {k t e : TypeId} {α : Type} [DecidableEq α] {E : Ke P k α} {w : World} {o : Option Nat} {n : Nat} {f : α → Option Value}
/-- 'delete(m, i)', m may be nil -/
theorem Mo.drop (h : Mo E w o n f) (ht : P.underlying t = some (.map k e)) {i : α} (hw : E.ok i) (ty : TypeId) :
    ∃ w' n', (Builtin.delete_ #[t, k] ty #[.map o, E.enc i]).run P w = .ok (.tuple #[]) w' ∧ Mo E w' o n' (cut f i) ∧ n' ≤ n ∧ Turn o.toList w w' ∧ w'.heap.size = w.heap.size := by
  cases o with
  | none =>
    refine ⟨w, n, drop_nil ht hw ty, ⟨h.1, fun x => ?_⟩, Nat.le_refl _, .refl _ _, rfl⟩
    unfold cut
    split
    · rfl
    · exact h.2 x
  | some b =>
    obtain ⟨w', n', h1, h2, h3, h4, h5⟩ := Mk.drop h ht hw ty
    exact ⟨w', n', h1, h2, h3, Turn.of_grown h4 (by simp), h5⟩
end

set_option maxHeartbeats 2000000 in
theorem rt_drop {w : World} {t n : Nat} {o : Option Nat} {f : Ways} (h : Tb w t o n f) (a : Nat) (len fr : Int) (hk : Rk.ok ⟨a, len, fr⟩) {ok : Bool} (ho : (f ⟨a, len, fr⟩).isSome = ok) :
    Calls Try.prog 9 #[.pointer (some ⟨t, 0, none⟩), .agg #[.int .u32 a, .int .i64 len], .int .i64 fr] w fun e w' => e = .returned (.bool ok) ∧ ∃ n', Tb w' t o n' (cutR f ⟨a, len, fr⟩) ∧ n' ≤ n ∧ Turn o.toList w w' := by
  have hb := below_new w (.cells #[.int .u32 a, .int .i64 len] 32)
  have PB := Blk.new w 32 #[.int .u32 a, .int .i64 len]
  have hG := rt_get (h.held hb) a len fr hk rfl ho
  generalize (f ⟨a, len, fr⟩).getD Rt.zero = r at hG
  obtain ⟨fr', id, seq, met, exp⟩ := r
  have p0 := PB.at_ 0
  have p1 := PB.at_ 1
  have H := Lib.hid (And.intro h (And.intro hb PB))
  clear h hb PB ho
  go_enter Try.func9, Try.ntmps9
  go_wp2_with fail
  refine hG.mono ?_
  rintro e w3 ⟨rfl, hb3⟩
  unfold rV
  have hb4 := next hb3 (below_new w3 (.cells #[.int .i64 fr', .int .u32 id, .int .u32 seq, .int .u16 met, .int .i64 exp] 37))
  have hbw := next H.out.2.1 hb4
  have PW := H.out.2.2.held hb4
  have TW := H.out.1.held hbw
  clear hG p0 p1 hb3 hb4 H
  go_wp2_with fail
  generalize w3.alloc (.cells #[.int .i64 fr', .int .u32 id, .int .u32 seq, .int .u16 met, .int .i64 exp] 37) = W at *
  obtain ⟨w4, n', hu, hM4, hn', hT4, hs4⟩ := (TW.map.of_block (w' := W.drew) (fun b e => rfl)).drop (t := 73) (e := 37) (by kernel_rfl) (i := ⟨a, len, fr⟩) hk 0
  have hu : (Builtin.delete_ #[73, 77] 0 #[.map o, .agg #[.int .u32 a, .int .i64 len, .int .i64 fr]]).run Try.prog W.drew = .ok (.tuple #[]) w4 := hu
  have k0 := PW.at_ 0
  have k1 := PW.at_ 1
  have t0 : W.cell? ⟨t, 0, none⟩ = some (.map o) := TW.head.at_ 0
  have Z := Lib.hid (And.intro TW (And.intro hM4 (And.intro hn' (And.intro hT4 hbw))))
  clear TW hM4 hn' hT4 hbw PW hs4
  go_region
  all_goals
    go_wp2_with fail
    go_ret
    have hM := Z.out.2.1
    rw [← vals_cut] at hM
    exact ⟨rfl, n', ⟨Z.out.1.head.drew.turn Z.out.2.2.2.1 (fun hm => Z.out.1.ne (b := t) (by simpa using hm) rfl), hM⟩, Z.out.2.2.1, ((Turn.of_below _ Z.out.2.2.2.2).drew).trans Z.out.2.2.2.1⟩
end Go.Proofs.Ytblhijgjidfioaa
