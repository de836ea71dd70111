/-
  The statement's model: Apply, whatever the record; few; the example.
-/
import Derived.Test.YtncliolkdkofhaaStN
import Derived.Test.YtncliolkdkofhaaStR
namespace Go.Proofs.Ytncliolkdkofhaa
open Go.RowKit Rm

set_option maxHeartbeats 1000000 in
theorem mapply_other {w : World} {d o fl id N : Nat} {S : Sm} (h : Says w d o fl id N S) (k : Int) (h2 : k ≠ 2) (h3 : k ≠ 3) (h4 : k ≠ 4) (g l i a : Nat) (n : Int) (b : Bool) (s x : Nat) :
    Calls Try.prog 10 #[.pointer (some ⟨d, 0, none⟩), .agg #[.int .i64 k, .int .u32 g, .int .u32 l, .int .u32 i, .int .u32 a, .int .i64 n, .bool b, .int .u32 s, .int .u16 x]] w fun e w' => e = .returned (.tuple #[]) ∧
      Says w' d o fl id (N + 1) (app S ⟨k, g, l, i, a, n, b, s, x⟩) ∧ Turn [d, o, fl] w w' := by
  obtain ⟨nn, m, hnm, hS⟩ := h
  have RB := Blk.new w 37 #[.int .i64 k, .int .u32 g, .int .u32 l, .int .u32 i, .int .u32 a, .int .i64 n, .bool b, .int .u32 s, .int .u16 x]
  have hb := below_new w (.cells #[.int .i64 k, .int .u32 g, .int .u32 l, .int .u32 i, .int .u32 a, .int .i64 n, .bool b, .int .u32 s, .int .u16 x] 37)
  have E := Lib.hid (show app S ⟨k, g, l, i, a, n, b, s, x⟩ = S by unfold app; simp [h2, h3, h4])
  have d2 : (k == 2) = false := beq_eq_false_iff_ne.2 h2
  have d3 : (k == 3) = false := beq_eq_false_iff_ne.2 h3
  have d4 : (k == 4) = false := beq_eq_false_iff_ne.2 h4
  clear h2 h3 h4
  go_enter Try.func10, Try.ntmps10
  go_wp2_with fail
  generalize w.alloc (.cells #[.int .i64 k, .int .u32 g, .int .u32 l, .int .u32 i, .int .u32 a, .int .i64 n, .bool b, .int .u32 s, .int .u16 x] 37) = W at *
  have c0 := RB.at_ 0
  have ST := Lib.hid (And.intro (hS.held hb) hb)
  clear hS hb RB
  go_quiet (fail)
  go_wp2_with fail
  refine bodyPost_end (v := .tuple #[]) (results_none rfl _ _ _) rfl ⟨rfl, ?_⟩
  rw [E.out]
  exact ⟨Says.up ⟨_, _, hnm, ST.out.1.drewN _⟩, .of_below _ (drewN_below ST.out.2 _)⟩

/-- a record's nine values -/
def rcl (r : Rc) : Array Value := #[.int .i64 r.kind, .int .u32 r.gen, .int .u32 r.lsn, .int .u32 r.id, .int .u32 r.a, .int .i64 r.len, .bool r.on, .int .u32 r.seq, .int .u16 r.met]
theorem mapply_any {w : World} {d o fl id N : Nat} {S : Sm} (h : Says w d o fl id N S) (hN : N < 100000) (r : Rc) (hr : r.Fits) :
    Calls Try.prog 10 #[.pointer (some ⟨d, 0, none⟩), .agg (rcl r)] w fun e w' => e = .returned (.tuple #[]) ∧
      Says w' d o fl id (N + 1) (app S r) ∧ Turn [d, o, fl] w w' := by
  obtain ⟨k, g, l, i, a, n, b, s, x⟩ := r
  by_cases h2 : k = 2
  · subst h2
    exact mapply_own h hN g l i a n b s x ⟨hr.a, hr.n1, hr.n2⟩
  by_cases h3 : k = 3
  · subst h3
    exact mapply_lease h g l i a n b s x hr.seq
  by_cases h4 : k = 4
  · subst h4
    exact mapply_floor h hN g l i a n b s x ⟨hr.a, ⟨hr.n1, hr.n2⟩, hr.id⟩ hr.seq hr.met
  · exact mapply_other h k h2 h3 h4 g l i a n b s x

/-! ### a list of records -/
/-- the records rs lie one behind the other from ⟨b, off⟩ on -/
def Recs (w : World) (b off : Nat) (rs : List Rc) : Prop := ∀ i (h : i < rs.length), ∀ j, j < 9 → w.cell? ⟨b, off + (9 * i + j), none⟩ = (rcl rs[i])[j]?
theorem Recs.of_block {w w' : World} {b off : Nat} {rs : List Rc} (h : Recs w b off rs) (hb : w'.heap[b]? = w.heap[b]?) : Recs w' b off rs := fun i hi j hj => by rw [World.cell?_of_block hb]; exact h i hi j hj
theorem Recs.held {w w' : World} {b off : Nat} {rs : List Rc} (h : Recs w b off rs) (hb : Below w.heap.size w w') : Recs w' b off rs := fun i hi j hj => by
  have h1 := h i hi j hj
  have hj' : j < (rcl rs[i]).size := hj
  rw [Array.getElem?_eq_getElem hj'] at h1 ⊢
  exact Go.Proofs.Ytncliolkdkofhaa.held hb h1

theorem rec_under : ∃ d, Try.prog.underlying 37 = some d ∧ d.isRow = true := ⟨_, Try.underlying37, rfl⟩
theorem rec_size (r : Rc) : (Try.prog.info? 37).map (·.size) = some (rcl r).toList.length := by
  show _ = some 9
  kernel_rfl
theorem Blk.rec_range {w : World} {g : Nat} {t : TypeId} {C : Array Value} (h : Blk t w g C) : w.rangeAt g 0 C.toList := fun j v hv => by
  rw [Nat.zero_add, h.at_ j]
  simpa using hv
theorem Recs.range {w : World} {b off : Nat} {rs : List Rc} (h : Recs w b off rs) {k : Nat} (hk : k < rs.length) : w.rangeAt b (off + 9 * k) (rcl rs[k]).toList := fun j v hv => by
  have hj : j < 9 := by
    rcases Nat.lt_or_ge j 9 with h' | h'
    · exact h'
    · rw [List.getElem?_eq_none (by exact h')] at hv; cases hv
  rw [show off + 9 * k + j = off + (9 * k + j) by omega, h k hk j hj]
  simpa using hv
theorem rright_rc {r : Rc} {q : Bool} (ha : r.a < 4294967296) (h : right2 r = q) (w : World) :
    Calls Try.prog 15 #[.agg (rcl r)] w fun e w' => e = .returned (.bool q) ∧ Below w.heap.size w w' := by
  obtain ⟨k, g, l, i, a, n, o, s, m⟩ := r
  exact rright_eq ha h w

theorem Recs.cells {w : World} {b off : Nat} {rs : List Rc} (h : Recs w b off rs) {k : Nat} (hk : k < rs.length) {kd : Int} {g l i a : Nat} {n : Int} {o : Bool} {s m : Nat} (e : rs[k] = ⟨kd, g, l, i, a, n, o, s, m⟩) :
    w.cell? ⟨b, off + k * 9, none⟩ = some (.int .i64 kd) ∧ w.cell? ⟨b, off + k * 9 + 1, none⟩ = some (.int .u32 g) ∧ w.cell? ⟨b, off + k * 9 + 2, none⟩ = some (.int .u32 l) ∧ w.cell? ⟨b, off + k * 9 + 3, none⟩ = some (.int .u32 i) ∧ w.cell? ⟨b, off + k * 9 + 4, none⟩ = some (.int .u32 a) ∧ w.cell? ⟨b, off + k * 9 + 5, none⟩ = some (.int .i64 n) ∧ w.cell? ⟨b, off + k * 9 + 6, none⟩ = some (.bool o) ∧ w.cell? ⟨b, off + k * 9 + 7, none⟩ = some (.int .u32 s) ∧ w.cell? ⟨b, off + k * 9 + 8, none⟩ = some (.int .u16 m) :=
  ⟨(by rw [show off + k * 9 = off + (9 * k + 0) by omega, h k hk 0 (by omega), e]; rfl), (by rw [show off + k * 9 + 1 = off + (9 * k + 1) by omega, h k hk 1 (by omega), e]; rfl), (by rw [show off + k * 9 + 2 = off + (9 * k + 2) by omega, h k hk 2 (by omega), e]; rfl), (by rw [show off + k * 9 + 3 = off + (9 * k + 3) by omega, h k hk 3 (by omega), e]; rfl), (by rw [show off + k * 9 + 4 = off + (9 * k + 4) by omega, h k hk 4 (by omega), e]; rfl), (by rw [show off + k * 9 + 5 = off + (9 * k + 5) by omega, h k hk 5 (by omega), e]; rfl), (by rw [show off + k * 9 + 6 = off + (9 * k + 6) by omega, h k hk 6 (by omega), e]; rfl), (by rw [show off + k * 9 + 7 = off + (9 * k + 7) by omega, h k hk 7 (by omega), e]; rfl), (by rw [show off + k * 9 + 8 = off + (9 * k + 8) by omega, h k hk 8 (by omega), e]; rfl)⟩

def fewR (rs : List Rc) : Bool := rs.all right2 && decide (rs.length ≤ 60)
set_option maxHeartbeats 1000000 in
theorem few_any (a : Option Addr) (len cap : Nat) (rs : List Rc) (hl : rs.length = len) (hm : len ≤ maxLen) (hc : len ≤ cap) (hA : 0 < len → ∃ b off, a = some ⟨b, off, none⟩) (hF : ∀ r ∈ rs, r.Fits) (w : World)
    (hR : ∀ b off, a = some ⟨b, off, none⟩ → Recs w b off rs) :
    Calls Try.prog 6 #[.slice a len cap] w fun e w' => e = .returned (.bool (fewR rs)) ∧ Below w.heap.size w w' := by
  unfold maxLen at hm
  go_enter Try.func6, Try.ntmps6
  go_wp2_with fail
  go_loopw [7] (fun i wr => ∃ k : Nat, k ≤ len ∧ i = .int .i64 k ∧ ((rs.take k).all right2 = true ∧ Below w.heap.size w wr)) (fun i _ => len - (intOf i).toNat)
  case atStart => exact ⟨0, by omega, rfl, rfl, Below.refl _ _⟩
  case round =>
    obtain ⟨k, hk, rfl, hall, hB⟩ := hrel
    by_cases hlt : k < len
    · obtain ⟨b, off, rfl⟩ := hA (by omega)
      have hk' : k < rs.length := by omega
      have hRw := (hR b off rfl).held hB
      have hfit := hF rs[k] (List.getElem_mem hk')
      have hnext : (rs.take (k + 1)).all right2 = ((rs.take k).all right2 && right2 rs[k]) := by rw [List.take_succ_eq_append_getElem hk', List.all_append]; simp
      have hwhole : rs.all right2 = true → right2 rs[k] = true := fun h => List.all_eq_true.1 h _ (List.getElem_mem hk')
      generalize hrk : rs[k] = r at *
      obtain ⟨kd, g, l, i, a, n, o, s, m⟩ := r
      obtain ⟨c0, c1, c2, c3, c4, c5, c6, c7, c8⟩ := hRw.cells hk' hrk
      have ha := hfit.a
      generalize hq : right2 ⟨kd, g, l, i, a, n, o, s, m⟩ = q at *
      have HH := Lib.hid (And.intro hall (And.intro hB (And.intro hnext hwhole)))
      clear hall hB hnext hwhole hRw hfit hrk hR hF hA
      go_wp2_with fail
      refine (rright_eq ha hq _).mono ?_
      rintro e x ⟨rfl, hb⟩
      have hB2 := next (next HH.out.2.1 (below_new _ _)) hb
      clear hb c0 c1 c2 c3 c4 c5 c6 c7 c8
      cases q with
      | false =>
        have F := Lib.hid (show fewR rs = false by
          unfold fewR
          cases hr : rs.all right2 with
          | false => rfl
          | true => exact absurd (HH.out.2.2.2 hr) (by simp))
        clear HH
        go_wp2_with fail
        go_ret
        exact ⟨ret_bool F.out.symm, hB2⟩
      | true =>
        have N := Lib.hid (show (rs.take (k + 1)).all right2 = true by rw [HH.out.2.2.1, HH.out.1]; rfl)
        clear HH
        go_wp2_with fail
        go_roundw
        case rel => exact ⟨k + 1, by omega, by go_num, N.out, hB2⟩
        case measure => simp [intOf]; omega
    · obtain rfl : k = len := by omega
      have F := Lib.hid (show fewR rs = decide ((k : Int) ≤ 60) by
        unfold fewR
        rw [List.take_of_length_le (by omega)] at hall
        rw [hall, hl, Bool.true_and, decide_eq_decide]
        omega)
      clear hall hR hF
      go_wp2_with fail
      go_ret
      exact ⟨ret_bool F.out.symm, hB⟩

end Go.Proofs.Ytncliolkdkofhaa
