/-
  The contract of script's events.
-/
import Derived.Test.YtnpocnfmekgieaaScF
namespace Go.Proofs.Ytnpocnfmekgieaa
open Go.RowKit Go.Maps Sc

/-- while bytes are gone through: these are events, up to byte k -/
structure EvR (w : World) (bs : List Nat) (n : Nat) (v : Value) (l : List Ev) (k : Nat) (W : World) : Prop where
  own : Oe w.heap.size v l W
  below : Below w.heap.size w W
  right : ∀ x ∈ l, Sc.right x = true ∧ x.a < 4294967296
  few : l.length ≤ 8192
  at_ : k = 3 + (flat l).length
  le : k ≤ n
  parts : bs.drop 3 = flat l ++ bs.drop k
theorem EvR.evs {w : World} {bs : List Nat} {n : Nat} {v : Value} {l : List Ev} {k : Nat} {W : World} (R : EvR w bs n v l k W) (hl : bs.length = n) {e : Nat} (h : (e = 0 ∧ k = bs.length) ∨ (e = 6 ∧ k < bs.length ∧ first (bs.drop k) = false) ∨ (e = 7 ∧ k < bs.length ∧ l.length = 8192 ∧ first (bs.drop k) = true)) : Evs bs l k e :=
  ⟨R.right, R.few, R.at_, by rw [hl]; exact R.le, R.parts, h⟩
theorem EvR.next {w : World} {bs : List Nat} {n : Nat} {v v' : Value} {l : List Ev} {k : Nat} {W W' : World} (R : EvR w bs n v l k W) (hl : bs.length = n) (hb : ∀ c ∈ bs, c < 256) (hk : k < n) (hf : first (bs.drop k) = true) (hfew : l.length < 8192)
    (ho : Oe w.heap.size v' (l ++ [parse (bs.drop k)]) W') (hbe : Below w.heap.size w W') : EvR w bs n v' (l ++ [parse (bs.drop k)]) (k + (16 + (parse (bs.drop k)).p.length)) W' := by
  unfold first at hf
  rw [Bool.and_eq_true] at hf
  obtain ⟨hr, hright⟩ := hf
  have hbd : ∀ c ∈ bs.drop k, c < 256 := fun c hc => hb c (List.mem_of_mem_drop hc)
  have hp := parse_p hr
  have hpb := parse_bytes hbd hr
  have hroom := hr
  unfold room at hroom
  simp only [Bool.and_eq_true, decide_eq_true_eq, List.length_drop] at hroom
  have hfl : (flat (l ++ [parse (bs.drop k)])).length = (flat l).length + (16 + (parse (bs.drop k)).p.length) := by rw [flat_snoc, List.length_append, ebytes_length]
  refine ⟨ho, hbe, fun x hx => ?_, by simp; omega, by rw [hfl, R.at_]; omega, by rw [hp]; omega, ?_⟩
  · rcases List.mem_append.1 hx with h | h
    · exact R.right x h
    · rw [List.mem_singleton] at h
      subst h
      exact ⟨hright, (parse_fits hbd).2⟩
  · rw [R.parts, flat_snoc, List.append_assoc]
    congr 1
    rw [List.drop_drop] at hpb
    exact hpb

set_option maxRecDepth 100000 in
set_option maxHeartbeats 4000000 in
theorem events_any {A : Option Addr} {n cap : Nat} {bs : List Nat} {w : World} (h : Sl w A n cap bs) (h3 : 3 ≤ n) (hn : n ≤ 262144) :
    Calls Try.prog 27 #[.slice A n cap] w fun x w' => ∃ v l k e, x = .returned (.tuple #[v, .int .i64 (k : Nat), .int .i64 (e : Nat)]) ∧ Oe w.heap.size v l w' ∧ Evs bs l k e ∧ Below w.heap.size w w' := by
  have hl := h.bytes.1
  have hcap := h.cap
  have hb := h.bytes.2.2.1
  obtain ⟨b, off, rfl⟩ := h.plain (by omega)
  have H := Lib.hid (And.intro h (And.intro hl hb))
  clear h hl hb
  go_enter Try.func27, Try.ntmps27
  go_wp2_with fail
  go_loopw [5, 6] (fun v a wr => ∃ (l : List Ev) (k q c : Nat) (p : Option Addr), v = .slice p q c ∧ Hid (q = l.length) ∧ a = .int .i64 (k : Nat) ∧ k ≤ n ∧ Hid (EvR w bs n (.slice p q c) l k wr)) (fun _ a _ => n - (intOf a).toNat)
  case atStart => exact ⟨[], 3, 0, 0, none, rfl, Lib.hid rfl, rfl, h3, Lib.hid ⟨Ol.nil _ _, .refl _ _, by simp, by simp, by simp [flat_nil], h3, by simp [flat_nil]⟩⟩
  case round =>
    obtain ⟨l, k, q, c, p, rfl, hq, rfl, hkn, R⟩ := hrel
    by_cases hlt : k < n
    · have d1 : decide ((k : Int) < (n : Int)) = true := decide_eq_true (by omega)
      have sl : ∀ W : World, (Instr.slice 32 (.slice (some ⟨b, off, none⟩) n cap) (some (.int .i64 (k : Int))) none none).run Try.prog W = .ok (.slice (some ⟨b, off + k, none⟩) (n - k) (cap - k)) W := fun W => cut_low _ n cap k (by omega) hcap W rfl (by rw [if_neg (by omega)]; exact (congrArg some (Addr.add_mid ..)).symm) rfl rfl
      have HF0 := first_any ((H.out.1.held (R.out.below)).rest k (by omega))
      obtain ⟨E, hE⟩ : ∃ E, Sc.fst (bs.drop k) = E := ⟨_, rfl⟩
      obtain ⟨f, hf⟩ : ∃ f, first (bs.drop k) = f := ⟨_, rfl⟩
      rw [hE, hf] at HF0
      have HF : Calls Try.prog 31 #[.slice (some ⟨b, off + k, none⟩) (n - k) (cap - k)] wr fun x w' => x = .returned (.tuple #[.agg #[.int .i64 E.kind, .int .i64 E.i, .int .i64 E.k, .int .i64 E.n, .int .u32 (E.a : Nat), .int .i64 E.len, .string ⟨E.p.toArray⟩], .bool f]) ∧ Below wr.heap.size wr w' := HF0
      have EH := Lib.hid (And.intro hE hf)
      clear HF0 hE hf
      obtain ⟨m, hm⟩ : ∃ m, m = n - k := ⟨_, rfl⟩
      obtain ⟨cm, hcm⟩ : ∃ cm, cm = cap - k := ⟨_, rfl⟩
      rw [← hm, ← hcm] at sl HF
      clear hm hcm
      obtain ⟨s, hs⟩ : ∃ s : ByteArray, s = ⟨E.p.toArray⟩ := ⟨_, rfl⟩
      rw [← hs] at HF
      have hsz : s.size = E.p.length := by rw [hs]; exact str_size _
      obtain ⟨L, hL⟩ : ∃ L, L = E.p.length := ⟨_, rfl⟩
      rw [← hL] at hsz
      obtain ⟨Q, hQ⟩ : ∃ Q : List Value, Q = [.int .i64 E.kind, .int .i64 E.i, .int .i64 E.k, .int .i64 E.n, .int .u32 (E.a : Nat), .int .i64 E.len, .string s] := ⟨_, rfl⟩
      have hQ2 : ecl E = Q := by rw [hQ, hs]; rfl
      have QH := Lib.hid (And.intro hQ2 (And.intro hL hQ))
      clear hQ2 hs hL hQ
      generalize E.kind = y0 at *
      generalize E.i = y1 at *
      generalize E.k = y2 at *
      generalize E.n = y3 at *
      generalize E.a = y4 at *
      generalize E.len = y5 at *
      go_upto_region 5 with (go_at_call 31; refine HF.mono ?_; rintro e w5 ⟨rfl, hb5⟩)
      have hbx := next hb5 (below_new w5 (.cells #[.int .i64 y0, .int .i64 y1, .int .i64 y2, .int .i64 y3, .int .u32 (y4 : Nat), .int .i64 y5, .string s] 30))
      have BX := Blk.new w5 30 #[.int .i64 y0, .int .i64 y1, .int .i64 y2, .int .i64 y3, .int .u32 (y4 : Nat), .int .i64 y5, .string s]
      have hsx := hb5.size
      generalize w5.alloc (.cells #[.int .i64 y0, .int .i64 y1, .int .i64 y2, .int .i64 y3, .int .u32 (y4 : Nat), .int .i64 y5, .string s] 30) = w6 at *
      generalize w5.heap.size = bx at *
      clear sl HF hb5
      have hbw := R.out.below.trans (hbx.mono R.out.below.size)
      have ho6 := R.out.own.held hbx
      cases f with
      | false =>
        have Z := Lib.hid (And.intro ho6 hbw)
        clear ho6 hbw hbx BX hsx
        go_wp2_with fail
        go_ret3
        exact ⟨_, l, k, 6, rfl, Z.out.1, R.out.evs H.out.2.1 (.inr (.inl ⟨rfl, by rw [H.out.2.1]; exact hlt, EH.out.2⟩)), Z.out.2⟩
      | true =>
        cases hq8 : ((q : Int) == 8192) with
        | true =>
          have Z := Lib.hid (And.intro ho6 hbw)
          clear ho6 hbw hbx BX hsx
          have e8 : q = 8192 := by have := beq_iff_eq.1 hq8; omega
          have e8 := Lib.hid e8
          go_wp2_with fail
          go_ret3
          exact ⟨_, l, k, 7, rfl, Z.out.1, R.out.evs H.out.2.1 (.inr (.inr ⟨rfl, by rw [H.out.2.1]; exact hlt, by rw [← hq.out, e8.out], EH.out.2⟩)), Z.out.2⟩
        | false =>
          have e8 : q ≠ 8192 := fun e => by subst e; simp at hq8
          have hfew : l.length < 8192 := by have := R.out.few; have := hq.out; omega
          obtain ⟨g', cap', w7, hrun, hO7, hT7, hat⟩ := ho6.push1 elemE hbw.size E (by omega) 22
          have hrun2 : (Builtin.append_ #[22, 22] 22 #[.slice p q c, .slice (some ⟨w6.heap.size, 0, none⟩) 1 1]).run Try.prog (w6.alloc (.cells #[.int .i64 y0, .int .i64 y1, .int .i64 y2, .int .i64 y3, .int .u32 (y4 : Nat), .int .i64 y5, .string s] 30)) = .ok (.slice (some ⟨g', 0, none⟩) (q + 1) cap') w7 := by
            have t := hrun
            rw [← hq.out, QH.out.1, QH.out.2.2] at t
            exact t
          rw [← hq.out] at hO7
          have hk : E = parse (bs.drop k) := by
            have h1 := EH.out.2
            unfold first at h1
            rw [Bool.and_eq_true] at h1
            rw [← EH.out.1, fst_room h1.1]
          have hB7 := own_below ho6 hbw hbw.size hT7
          have hob : bx ∉ (Value.slice p q c).ownBlock.toList := fun hm => by
            have h1 : (Value.slice p q c).ownBlock = some bx := by simpa using hm
            have := (R.out.own.lt h1).1
            omega
          have BX7 := BX.turn hT7 hob
          have c6 : w7.cell? ⟨bx, 5 + 1, none⟩ = some (.string s) := BX7.at_ 6
          rw [hk] at hO7
          have R7 := R.out.next H.out.2.1 H.out.2.2 hlt EH.out.2 hfew hO7 hB7
          have hL : L = (parse (bs.drop k)).p.length := by rw [← hk]; exact QH.out.2.1
          rw [← hL] at R7
          have R7 := Lib.hid R7
          have LH := Lib.hid (And.intro hk hq.out)
          have hle := R7.out.le
          have x0 : w6.cell? ⟨bx, 0, none⟩ = some (.int .i64 y0) := BX.at_ 0
          have x1 : w6.cell? ⟨bx, 1, none⟩ = some (.int .i64 y1) := BX.at_ 1
          have x2 : w6.cell? ⟨bx, 2, none⟩ = some (.int .i64 y2) := BX.at_ 2
          have x3 : w6.cell? ⟨bx, 3, none⟩ = some (.int .i64 y3) := BX.at_ 3
          have x4 : w6.cell? ⟨bx, 4, none⟩ = some (.int .u32 (y4 : Nat)) := BX.at_ 4
          have x5 : w6.cell? ⟨bx, 5, none⟩ = some (.int .i64 y5) := BX.at_ 5
          have x6 : w6.cell? ⟨bx, 6, none⟩ = some (.string s) := BX.at_ 6
          clear hrun hO7 hT7 hat hk hB7 hob BX7 hL hbx BX hsx hbw ho6 QH EH R hq e8 hfew
          go_wp2_with (first | (at_builtin; refine Lib.wpList_append_run _ rfl (.tmp 29) (.tmp 31) 22 22 rfl _ _ rfl rfl _ _ hrun2 ?_) | fail)
          go_roundw
          case rel => exact ⟨_, k + (16 + L), q + 1, cap', some ⟨g', 0, none⟩, rfl, Lib.hid (by simp [LH.out.2]), by go_num, hle, R7⟩
          case measure => simp [intOf]; omega
    · obtain rfl : k = n := by omega
      have d1 : decide ((k : Int) < (k : Int)) = false := decide_eq_false (by omega)
      go_wp2_with fail
      go_ret3
      exact ⟨_, l, k, 0, rfl, R.out.own, R.out.evs H.out.2.1 (.inl ⟨rfl, H.out.2.1.symm⟩), R.out.below⟩
end Go.Proofs.Ytnpocnfmekgieaa
