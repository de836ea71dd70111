/-
  Two lists of what is told held against each other.
-/
import Derived.Test.YtpdbaediepofjaaTlvJ
namespace Go.Proofs.Ytpdbaediepofjaa
open Go.RowKit Tm

set_option maxHeartbeats 1000000 in
theorem neq_up (a a' id id' s s' m m' : Nat) (n n' : Int) (w : World) :
    (binOp .neq 31 (.agg #[.int .u32 a, .int .i64 n, .int .u32 id, .int .u32 s, .int .u16 m]) (.agg #[.int .u32 a', .int .i64 n', .int .u32 id', .int .u32 s', .int .u16 m'])).run Try.prog w =
      .ok (.bool (!decide ((⟨a, n, id, s, m⟩ : Up) = ⟨a', n', id', s', m'⟩))) w := by
  go_simp
  by_cases h1 : a = a'
  case neg => simp [h1, show ¬ (a : Int) = a' by omega]
  by_cases h2 : n = n'
  case neg => simp [h2]
  by_cases h3 : id = id'
  case neg => simp [h3, show ¬ (id : Int) = id' by omega]
  by_cases h4 : s = s'
  case neg => simp [h4, show ¬ (s : Int) = s' by omega]
  by_cases h5 : m = m'
  case neg => simp [h5, show ¬ (m : Int) = m' by omega]
  simp [h1, h2, h3, h4, h5]
theorem neq_op {P : Program} {C : World → Prop} {K : Act → Prop} {a : Act} {o : Oper} {t : TypeId} {x y : Operand} {z : TypeId} {xs ys : Array Value} {b : Bool} (ho : o.op = .binOp .neq t x y z) (ha : a.eval x = .agg xs) (hb : a.eval y = .agg ys)
    (hm : P.eqGuardType P.depth t = false) (hq : ∀ w, (binOp .neq t (.agg xs) (.agg ys)).run P w = .ok (.bool b) w) (hk : K (a.put o.dst (.bool b))) : o.quiet P a C K :=
  ⟨_, fun w _ => by
    unfold Oper.quietAt execOp
    simp [ho, ha, hb, run_eqGuard_agg _ _ _ _ _ _ _ hm, hq, Oper.quietUpon], hk⟩

theorem take_same {us vs : List Up} {k : Nat} (h : us.take k = vs.take k) (h1 : k < us.length) (h2 : k < vs.length) : us.take (k + 1) = vs.take (k + 1) ↔ us[k] = vs[k] := by
  constructor
  · intro e
    have e2 : (us.take (k + 1))[k]? = (vs.take (k + 1))[k]? := by rw [e]
    simpa [List.getElem?_take, h1, h2] using e2
  · intro e
    rw [List.take_succ_eq_append_getElem h1, h, e]
    exact (List.take_succ_eq_append_getElem h2).symm

set_option maxHeartbeats 4000000 in
theorem same_any {A A' : Option Addr} {n n' cap cap' : Nat} {us vs : List Up} {w : World} (h : Ul w A n cap us) (h' : Ul w A' n' cap' vs) :
    Calls Try.prog 13 #[.slice A n cap, .slice A' n' cap'] w fun e w' => e = .returned (.bool (decide (us = vs))) ∧ Below w.heap.size w w' := by
  have hn := h.len
  have hn' := h'.len
  have hmx := h.max
  have hmx' := h'.max
  have H := Lib.hid (And.intro h h')
  clear h h'
  obtain ⟨r, hr⟩ : ∃ r, r = decide (us = vs) := ⟨_, rfl⟩
  rw [← hr]
  have RR := Lib.hid hr
  clear hr
  go_enter Try.func13, Try.ntmps13
  by_cases hnn : n = n'
  · subst hnn
    go_wp2_with fail
    go_loopw [13] (fun k wr => ∃ i : Nat, k = .int .i64 i ∧ i ≤ n ∧ us.take i = vs.take i ∧ Below w.heap.size w wr) (fun k _ => n - (intOf k).toNat)
    case atStart => exact ⟨0, rfl, by omega, rfl, Below.refl _ _⟩
    case round =>
      obtain ⟨i, rfl, hi, hT, hB⟩ := hrel
      by_cases hlt : i < n
      · obtain ⟨b, off, rfl⟩ := H.out.1.plain (by omega)
        obtain ⟨b', off', rfl⟩ := H.out.2.plain (by omega)
        have hk : i < us.length := by omega
        have hk' : i < vs.length := by omega
        have hts := take_same hT hk hk'
        obtain ⟨u, hu⟩ : ∃ u, u = us[i] := ⟨_, rfl⟩
        obtain ⟨v, hv⟩ : ∃ v, v = vs[i] := ⟨_, rfl⟩
        rw [← hu, ← hv] at hts
        obtain ⟨c0, c1, c2, c3, c4⟩ := (H.out.1.held hB).at_ hk (a := u.a) (len := u.len) (id := u.id) (seq := u.seq) (met := u.met) hu.symm
        obtain ⟨d0, d1, d2, d3, d4⟩ := (H.out.2.held hB).at_ hk' (a := v.a) (len := v.len) (id := v.id) (seq := v.seq) (met := v.met) hv.symm
        have q1 : IntKind.i64.wrap ((i : Int) + 1) = ((i + 1 : Nat) : Int) := by rw [IntKind.wrap_i64]; omega
        have HQ := Lib.hid (fun w : World => neq_up u.a v.a u.id v.id u.seq v.seq u.met v.met u.len v.len w)
        have Y := Lib.hid (And.intro hB (And.intro hts hT))
        clear hB hts hT hu hv
        go_upto_region 6 with (fail)
        obtain ⟨e0, e1, e2, e3, e4⟩ : (∀ d os, _) ∧ (∀ d os, _) ∧ (∀ d os, _) ∧ (∀ d os, _) ∧ (∀ d os, _) := ⟨fun d os => cell_regrown c0 d os, fun d os => cell_regrown c1 d os, fun d os => cell_regrown c2 d os, fun d os => cell_regrown c3 d os, fun d os => cell_regrown c4 d os⟩
        obtain ⟨f0, f1, f2, f3, f4⟩ : (∀ d os, _) ∧ (∀ d os, _) ∧ (∀ d os, _) ∧ (∀ d os, _) ∧ (∀ d os, _) := ⟨fun d os => cell_regrown d0 d os, fun d os => cell_regrown d1 d os, fun d os => cell_regrown d2 d os, fun d os => cell_regrown d3 d os, fun d os => cell_regrown d4 d os⟩
        refine wp_region_quiet_below (by kernel_rfl) (by kernel_rfl) ?_
        iterate 8 (go_big_quiet_step (fail))
        go_big_quiet_want
        refine neq_op rfl rfl rfl (by kernel_rfl) HQ.out ?_
        go_frame
        go_big_quiet_on
        refine wpQuiet_nil ?_
        intro wq hw'
        obtain ⟨⟨dq, osq⟩, hw''⟩ := hw'
        subst hw''
        clear c0 c1 c2 c3 c4 d0 d1 d2 d3 d4 e0 e1 e2 e3 e4 f0 f1 f2 f3 f4 HQ
        obtain ⟨hB, hts, hT⟩ := Y.out
        clear Y
        have hB2 := next hB (below_regrown wr dq osq)
        have hB3 : Below w.heap.size w («Sort».grow (redrawn wr dq) osq) := hB2
        by_cases e : u = v
        · have hd : (!decide (({ a := u.a, len := u.len, id := u.id, seq := u.seq, met := u.met } : Up) = { a := v.a, len := v.len, id := v.id, seq := v.seq, met := v.met })) = false := by rw [Bool.not_eq_false']; exact decide_eq_true e
          rw [hd]
          have R5 := Lib.hid (And.intro (hts.2 e) hB3)
          clear hts hT hB hB2 hB3 hd e
          go_wp2_with fail
          go_roundw
          case rel => exact ⟨i + 1, by rfl, by omega, R5.out.1, R5.out.2⟩
          case measure => simp only [intOf]; omega
        · have hd : (!decide (({ a := u.a, len := u.len, id := u.id, seq := u.seq, met := u.met } : Up) = { a := v.a, len := v.len, id := v.id, seq := v.seq, met := v.met })) = true := by rw [Bool.not_eq_true']; exact decide_eq_false e
          rw [hd]
          have R5 := Lib.hid (And.intro (show ¬ us = vs from fun h => e (hts.1 (by rw [h]))) hB3)
          clear hts hT hB hB2 hB3 hd e
          go_wp2_with fail
          go_ret
          exact ⟨by rw [RR.out, decide_eq_false R5.out.1]; rfl, R5.out.2⟩
      · have R5 := Lib.hid (And.intro (show us = vs by rw [List.take_of_length_le (by omega), List.take_of_length_le (by omega)] at hT; exact hT) hB)
        clear hT hB
        go_wp2_with fail
        go_ret
        exact ⟨by rw [RR.out, decide_eq_true R5.out.1]; rfl, R5.out.2⟩
  · have hd : ((n : Int) != (n' : Int)) = true := by simp; omega
    have E : ¬ us = vs := fun e => hnn (by rw [← hn, ← hn', e])
    go_wp2_with fail
    go_ret
    exact ⟨by rw [RR.out, decide_eq_false E]; rfl, Below.refl _ _⟩
end Go.Proofs.Ytpdbaediepofjaa
