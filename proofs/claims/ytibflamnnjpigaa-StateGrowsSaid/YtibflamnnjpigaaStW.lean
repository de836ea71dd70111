/-
  StateAllows: its walk. The state and the model side by side.
-/
import Derived.Test.YtibflamnnjpigaaStH
namespace Go.Proofs.Ytibflamnnjpigaa
open Go.RowKit Rm

/-- A state in block sd that notes S1, a model in block md that says S2, in blocks that W0 hasn't; the rest of W0 stands. -/
def LR (W0 : World) (sd md mo mf id : Nat) (S1 : Sm) (N1 : Nat) (S2 : Sm) (N2 : Nat) (w : World) : Prop :=
  ∃ o fl, Notes w sd o fl id N1 S1 ∧ Says w md mo mf id N2 S2 ∧ Below W0.heap.size W0 w ∧ (∀ y, y ∈ fp sd o fl → W0.heap.size ≤ y ∧ y ≠ md ∧ y ≠ mo ∧ y ≠ mf) ∧ W0.heap.size ≤ md ∧ W0.heap.size ≤ mo ∧ W0.heap.size ≤ mf
theorem Says.turn {L : List Nat} {w w' : World} {d o fl id N : Nat} {S : Sm} (h : Says w d o fl id N S) (t : Turn L w w') (hd : d ∉ L) (ho : o ∉ L) (hf : fl ∉ L) : Says w' d o fl id N S := by
  obtain ⟨n, m, h1, h2⟩ := h
  exact ⟨n, m, h1, h2.turn t hd ho hf⟩
theorem Notes.turn {L : List Nat} {w w' : World} {d : Nat} {o fl : Option Nat} {id N : Nat} {S : Sm} (h : Notes w d o fl id N S) (t : Turn L w w') (hL : ∀ x, x ∈ fp d o fl → x ∉ L) : Notes w' d o fl id N S := by
  obtain ⟨n, m, h1, h2⟩ := h
  exact ⟨n, m, h1, h2.turn t hL⟩
theorem Says.lts {w : World} {d o fl id N : Nat} {S : Sm} (h : Says w d o fl id N S) : d < w.heap.size ∧ o < w.heap.size ∧ fl < w.heap.size := by
  obtain ⟨n, m, -, h2⟩ := h
  exact ⟨h2.head.lt, h2.owns.lt, h2.floors.lt⟩
section
variable {W0 w w' : World} {sd md mo mf id N1 N2 : Nat} {S1 S2 : Sm}
theorem LR.held (h : LR W0 sd md mo mf id S1 N1 S2 N2 w) (hb : Below w.heap.size w w') : LR W0 sd md mo mf id S1 N1 S2 N2 w' := by
  obtain ⟨o, fl, h1, h2, h3, h4⟩ := h
  exact ⟨o, fl, h1.held hb, h2.turn (.of_below [] hb) (by simp) (by simp) (by simp), next h3 (hb.mono (Nat.le_refl _)), h4⟩
theorem LR.below (h : LR W0 sd md mo mf id S1 N1 S2 N2 w) : Below W0.heap.size W0 w := by obtain ⟨o, fl, h1, h2, h3, h4⟩ := h; exact h3
theorem LR.apply_at {wr : World} (h : LR W0 sd md mo mf id S1 N1 S2 N2 wr) (hb : Below wr.heap.size wr w) (hN : N1 < 100000) (r : Rc) (hr : r.Fits) :
    Calls Try.prog 11 #[.pointer (some ⟨sd, 0, none⟩), .agg (rcl r)] w fun e w' => e = .returned (.tuple #[]) ∧ LR W0 sd md mo mf id (app S1 r) (N1 + 1) S2 N2 w' ∧ ∀ t g cs, wr.heap.size ≤ g → Blk t w g cs → Blk t w' g cs := by
  obtain ⟨o, fl, h1, h2, h3, h4, h5, h6, h7⟩ := h
  have hlt : ∀ y, y ∈ fp sd o fl → y < wr.heap.size := fun y hy => by
    obtain ⟨_, _, _, hS⟩ := h1
    exact hS.lt hy
  have h1' := h1.held hb
  have h2' := h2.turn (.of_below [] hb) (by simp) (by simp) (by simp)
  have h3' := next h3 (hb.mono (Nat.le_refl _))
  refine (apply_any h1' hN r hr).mono ?_
  rintro e w' ⟨rfl, o', fl', hN', hT, hf⟩
  have hsz := h3'.size
  obtain ⟨l1, l2, l3⟩ := h2'.lts
  refine ⟨rfl, ⟨o', fl', hN', h2'.turn hT (fun hm => (h4 _ hm).2.1 rfl) (fun hm => (h4 _ hm).2.2.1 rfl) (fun hm => (h4 _ hm).2.2.2 rfl), h3'.trans (hT.below (fun i hi => (h4 i hi).1) hsz), fun y hy => ?_, h5, h6, h7⟩, fun t g cs hg hB => hB.turn hT fun hm => by have := hlt g hm; omega⟩
  rcases hf y hy with h | h
  · exact h4 y h
  · exact ⟨by omega, by omega, by omega, by omega⟩
theorem LR.mapply (h : LR W0 sd md mo mf id S1 N1 S2 N2 w) (hN : N2 < 100000) (r : Rc) (hr : r.Fits) :
    Calls Try.prog 12 #[.pointer (some ⟨md, 0, none⟩), .agg (rcl r)] w fun e w' => e = .returned (.tuple #[]) ∧ LR W0 sd md mo mf id S1 N1 (app S2 r) (N2 + 1) w' := by
  obtain ⟨o, fl, h1, h2, h3, h4, h5, h6, h7⟩ := h
  refine (mapply_any h2 hN r hr).mono ?_
  rintro e w' ⟨rfl, hS, hT⟩
  have hsz := h3.size
  refine ⟨rfl, o, fl, h1.turn hT (fun x hx => ?_), hS, h3.trans (hT.below (fun i hi => ?_) hsz), h4, h5, h6, h7⟩
  · obtain ⟨-, a1, a2, a3⟩ := h4 x hx
    simp [a1, a2, a3]
  · simp only [List.mem_cons, List.not_mem_nil, or_false] at hi
    rcases hi with rfl | rfl | rfl <;> assumption
end
/-- what k records make of nothing -/
def appN (rs : List Rc) (k : Nat) : Sm := (rs.take k).foldl app sm0
theorem appN_succ (rs : List Rc) {k : Nat} (hk : k < rs.length) : appN rs (k + 1) = app (appN rs k) rs[k] := by
  unfold appN
  rw [List.take_succ_eq_append_getElem hk, List.foldl_append]
  rfl

theorem feas_at {wr w' : World} {sd : Nat} {o fl : Option Nat} {id N : Nat} {S : Sm} (hN : Notes wr sd o fl id N S) (hb : Below wr.heap.size wr w') {ka : Nat} {kn : Int} {kid : Nat} (hk : Ky.ok ⟨ka, kn, kid⟩) {s x : Nat} {r : Bool} (hr : fea (S.floor ⟨ka, kn, kid⟩) s x = r) :
    Calls Try.prog 16 #[.pointer (some ⟨sd, 0, none⟩), .agg #[.int .u32 ka, .int .i64 kn, .int .u32 kid], .agg #[.int .u32 s, .int .u16 x]] w' fun e w'' => e = .returned (.bool r) ∧ Below w'.heap.size w' w'' := by
  obtain ⟨_, _, _, h⟩ := hN.held hb
  subst hr
  exact feasible_any h ⟨ka, kn, kid⟩ hk s x
theorem cov_at {wr w' : World} {sd : Nat} {o fl : Option Nat} {id N : Nat} {S : Sm} (hN : Notes wr sd o fl id N S) (hb : Below wr.heap.size wr w') {ka : Nat} {kn : Int} {kid : Nat} (hk : Ky.ok ⟨ka, kn, kid⟩) {s x : Nat} {r : Bool} (hr : cov (S.floor ⟨ka, kn, kid⟩) s x = r) :
    Calls Try.prog 18 #[.pointer (some ⟨sd, 0, none⟩), .agg #[.int .u32 ka, .int .i64 kn, .int .u32 kid], .agg #[.int .u32 s, .int .u16 x]] w' fun e w'' => e = .returned (.bool r) ∧ Below w'.heap.size w' w'' := by
  obtain ⟨_, _, _, h⟩ := hN.held hb
  subst hr
  exact covers_any h ⟨ka, kn, kid⟩ hk s x

set_option maxHeartbeats 2000000 in
theorem allows_any (a : Option Addr) (len cap : Nat) (rs : List Rc) (hl : rs.length = len) (hm : len ≤ maxLen) (hc : len ≤ cap) (hA : 0 < len → ∃ b off, a = some ⟨b, off, none⟩) (hF : ∀ r ∈ rs, r.Fits) (ka : Nat) (kn : Int) (kid : Nat) (hk : Ky.ok ⟨ka, kn, kid⟩) (s x : Nat) (w : World)
    (hR : ∀ b off, a = some ⟨b, off, none⟩ → Recs w b off rs) :
    Calls Try.prog 4 #[.slice a len cap, .agg #[.int .u32 ka, .int .i64 kn, .int .u32 kid], .agg #[.int .u32 s, .int .u16 x]] w fun e w' => e = .returned (.bool true) ∧ Below w.heap.size w w' := by
  have KB := (Blk.new w 45 #[.int .u32 ka, .int .i64 kn, .int .u32 kid]).more (.cells #[.int .u32 s, .int .u16 x] 35)
  have DB := Blk.new (w.alloc (.cells #[.int .u32 ka, .int .i64 kn, .int .u32 kid] 45)) 35 #[.int .u32 s, .int .u16 x]
  rw [size_new] at DB
  have hb := next (below_new w (.cells #[.int .u32 ka, .int .i64 kn, .int .u32 kid] 45)) (below_new _ (.cells #[.int .u32 s, .int .u16 x] 35))
  go_enter Try.func4, Try.ntmps4
  go_wp2_with fail
  generalize (w.alloc (.cells #[.int .u32 ka, .int .i64 kn, .int .u32 kid] 45)).alloc (.cells #[.int .u32 s, .int .u16 x] 35) = w2 at *
  refine (head_any _).mono ?_
  rintro e w3 ⟨rfl, hb3⟩
  have KB3 := KB.held hb3
  have DB3 := DB.held hb3
  have HB3 := next hb hb3
  clear hb3 hb KB DB
  go_wp2_with fail
  refine (few_any a len cap rs hl hm hc hA hF w3 (fun b off e => (hR b off e).held HB3)).mono ?_
  rintro e w4 ⟨rfl, hb4⟩
  have KB4 := KB3.held hb4
  have DB4 := DB3.held hb4
  have HB4 := next HB3 hb4
  clear hb4 HB3 KB3 DB3
  cases hfew : fewR rs with
  | false =>
    go_wp2_with fail
    go_ret
    exact ⟨rfl, HB4⟩
  | true =>
    have hsixty : len ≤ 60 := by
      unfold fewR at hfew
      simp at hfew
      omega
    clear hfew
    go_wp2_with fail
    refine (new_any 1 w4).mono ?_
    rintro e w5 ⟨rfl, hS, hb5⟩
    go_wp2_with fail
    refine (model_new 1 w5).mono ?_
    rintro e w6 ⟨md, mo, mf, rfl, hM, hb6, g1, g2, g3⟩
    have z5 := hb5.size
    have z4 : w4.heap.size < w5.heap.size := hS.head.lt
    have L0 : LR w4 w4.heap.size md mo mf 1 (appN rs 0) 0 (appN rs 0) 0 w6 := ⟨none, none, ⟨0, 0, by omega, hS.held hb6⟩, hM, next hb5 hb6, (fun y hy => by
      rcases mem_fp.1 hy with rfl | h | h
      · exact ⟨by omega, by omega, by omega, by omega⟩
      · cases h
      · cases h), by omega, by omega, by omega⟩
    clear hS hM hb5 hb6 g1 g2 g3 z5
    have hRw : ∀ b off, a = some ⟨b, off, none⟩ → Recs w4 b off rs := fun b off e => (hR b off e).held HB4
    clear hR
    go_wp2_with fail
    unfold maxLen at hm
    go_loopw [23] (fun i wr => ∃ k : Nat, k ≤ len ∧ i = .int .i64 k ∧ LR w4 w4.heap.size md mo mf 1 (appN rs k) k (appN rs k) k wr) (fun i _ => len - (intOf i).toNat)
    case atStart => exact ⟨0, by omega, rfl, L0⟩
    case round =>
      obtain ⟨k, hk, rfl, hL⟩ := hrel
      by_cases hlt : k < len
      · obtain ⟨b, off, rfl⟩ := hA (by omega)
        have hk' : k < rs.length := by omega
        have hRk := (hRw b off rfl).held hL.below
        have hfit := hF rs[k] (List.getElem_mem hk')
        have hnext := appN_succ rs hk'
        generalize hrk : rs[k] = r at *
        have hr0 := hrk
        obtain ⟨kd, g, l, i, ra, n, on, rs', rm⟩ := r
        obtain ⟨c0, c1, c2, c3, c4, c5, c6, c7, c8⟩ := hRk.cells hk' hrk
        have HH := Lib.hid (And.intro hL (And.intro hfit hnext))
        have B0 := Blk.new wr 37 (rcl ⟨kd, g, l, i, ra, n, on, rs', rm⟩)
        clear hL hfit hnext hrk hr0 hRk hRw hF hA L0 KB4 DB4
        go_wp2_with fail
        refine (LR.apply_at HH.out.1 (below_new _ _) (by omega) ⟨kd, g, l, i, ra, n, on, rs', rm⟩ HH.out.2.1).mono ?_
        rintro e x1 ⟨rfl, hL1, hX⟩
        have RB := hX _ _ _ (Nat.le_refl _) B0
        clear hX B0 c0 c1 c2 c3 c4 c5 c6 c7 c8
        have c0 := RB.at_ 0
        have c1 := RB.at_ 1
        have c2 := RB.at_ 2
        have c3 := RB.at_ 3
        have c4 := RB.at_ 4
        have c5 := RB.at_ 5
        have c6 := RB.at_ 6
        have c7 := RB.at_ 7
        have c8 := RB.at_ 8
        simp only [rcl] at c0 c1 c2 c3 c4 c5 c6 c7 c8
        clear RB
        go_wp2_with fail
        refine (LR.mapply hL1 (by omega) ⟨kd, g, l, i, ra, n, on, rs', rm⟩ HH.out.2.1).mono ?_
        rintro e x2 ⟨rfl, hL2⟩
        rw [← HH.out.2.2] at hL2
        clear c0 c1 c2 c3 c4 c5 c6 c7 c8 hL1 HH
        go_wp2_with fail
        go_roundw
        case rel => exact ⟨k + 1, by omega, by go_num, hL2⟩
        case measure => simp [intOf]; omega
      · obtain rfl : k = len := by omega
        clear hRw hF hA L0
        go_wp2_with fail
        have dl := hL.below.size
        have KB5 := KB4.held hL.below
        have DB5 := DB4.held hL.below
        have hB5 := next HB4 hL.below
        have kW : w.heap.size < wr.heap.size := KB5.lt
        have k0 := KB5.at_ 0
        have k1 := KB5.at_ 1
        have k2 := KB5.at_ 2
        obtain ⟨o, fl, hN, hS, -⟩ := hL
        clear KB4 DB4 HB4
        generalize appN rs k = S at *
        have fc : wr.cell? ⟨md, 3, none⟩ = some (.map (some mf)) := by
          obtain ⟨_, _, _, h⟩ := hS
          exact h.head.at_ 3
        have mW : md < wr.heap.size := hS.lts.1
        have hlook : ∀ w', Below wr.heap.size wr w' → (Instr.lookup 48 (.map (some mf)) (.agg #[.int .u32 ka, .int .i64 kn, .int .u32 kid]) true).run Try.prog w' = .ok (.tuple #[((S.floor ⟨ka, kn, kid⟩).map dV).getD (.agg #[.int .u32 0, .int .u16 0]), .bool (S.floor ⟨ka, kn, kid⟩).isSome]) w' := fun w' hb => by
          obtain ⟨_, _, _, h⟩ := hS
          have h2 := (h.held hb).floors.look_ok (t := 48) (e := 35) (by kernel_rfl) (zero_dist _) (i := ⟨ka, kn, kid⟩) (by assumption)
          rw [show ((S.floor ⟨ka, kn, kid⟩).map dV).isSome = (S.floor ⟨ka, kn, kid⟩).isSome by cases S.floor ⟨ka, kn, kid⟩ <;> rfl] at h2
          exact h2
        have fc3 := held (below_new wr (.cells #[.int .u32 0, .int .u16 0] 35)) fc
        have k03 := held (below_new wr (.cells #[.int .u32 0, .int .u16 0] 35)) k0
        have k13 := held (below_new wr (.cells #[.int .u32 0, .int .u16 0] 35)) k1
        have k23 := held (below_new wr (.cells #[.int .u32 0, .int .u16 0] 35)) k2
        cases hx : ((x : Int) == 65535) with
        | true =>
          have hx2 : (x == 65535) = true := by have := eq_of_beq hx; exact beq_iff_eq.2 (by omega)
          cases hf : S.floor ⟨ka, kn, kid⟩ with
          | none =>
            rw [hf] at hlook
            have q1 : (Instr.lookup 48 (.map (some mf)) (.agg #[.int .u32 ka, .int .i64 kn, .int .u32 kid]) true).run Try.prog _ = .ok (.tuple #[.agg #[.int .u32 0, .int .u16 0], .bool false]) _ := hlook _ (Below.refl wr.heap.size wr).drew
            have q2 : (Instr.lookup 48 (.map (some mf)) (.agg #[.int .u32 ka, .int .i64 kn, .int .u32 kid]) true).run Try.prog _ = .ok (.tuple #[.agg #[.int .u32 0, .int .u16 0], .bool false]) _ := hlook _ (below_new wr (.cells #[.int .u32 0, .int .u16 0] 35)).drew
            have EF := Lib.hid (show fea (S.floor ⟨ka, kn, kid⟩) s x = true by rw [hf]; unfold fea; rw [hx2]; rfl)
            have EC := Lib.hid (show cov (S.floor ⟨ka, kn, kid⟩) s x = true by rw [hf]; unfold cov; rw [hx2]; rfl)
            clear hlook hf
            go_region
            all_goals
              have W5b := (below_new wr (.cells #[.int .u32 0, .int .u16 0] 35)).drew
              have DB6 := DB5.held W5b
              have KB6 := KB5.held W5b
              have FB6 := (Blk.new wr 35 #[.int .u32 0, .int .u16 0]).drew
              clear q1 q2 fc3 k03 k13 k23 fc k0 k1 k2
              generalize (wr.alloc (.cells #[.int .u32 0, .int .u16 0] 35)).drew = W5 at *
              have k0 := KB6.at_ 0
              have k1 := KB6.at_ 1
              have k2 := KB6.at_ 2
              have d0 := DB6.at_ 0
              have d1 := DB6.at_ 1
              have f0 := FB6.at_ 0
              have f1 := FB6.at_ 1
              go_wp2_with fail
              refine (feas_at hN W5b (by assumption) EF.out).mono ?_
              rintro e W6 ⟨rfl, hb⟩
              have KB6 := KB6.held hb
              have DB6 := DB6.held hb
              have FB6 := FB6.held hb
              have W5b := next W5b hb
              clear hb k0 k1 k2 d0 d1 f0 f1
              have k0 := KB6.at_ 0
              have k1 := KB6.at_ 1
              have k2 := KB6.at_ 2
              have d0 := DB6.at_ 0
              have d1 := DB6.at_ 1
              have f0 := FB6.at_ 0
              have f1 := FB6.at_ 1
              go_wp2_with fail
              refine (cov_at hN W5b (by assumption) EC.out).mono ?_
              rintro e W6 ⟨rfl, hb⟩
              have KB6 := KB6.held hb
              have DB6 := DB6.held hb
              have FB6 := FB6.held hb
              have W5b := next W5b hb
              clear hb k0 k1 k2 d0 d1 f0 f1
              have k0 := KB6.at_ 0
              have k1 := KB6.at_ 1
              have k2 := KB6.at_ 2
              have d0 := DB6.at_ 0
              have d1 := DB6.at_ 1
              have f0 := FB6.at_ 0
              have f1 := FB6.at_ 1
              go_wp2_with fail
              go_ret
              exact ⟨rfl, next hB5 W5b⟩
          | some f =>
            obtain ⟨fs, fm⟩ := f
            rw [hf] at hlook
            have q1 : (Instr.lookup 48 (.map (some mf)) (.agg #[.int .u32 ka, .int .i64 kn, .int .u32 kid]) true).run Try.prog _ = .ok (.tuple #[.agg #[.int .u32 fs, .int .u16 fm], .bool true]) _ := hlook _ (Below.refl wr.heap.size wr).drew
            have q2 : (Instr.lookup 48 (.map (some mf)) (.agg #[.int .u32 ka, .int .i64 kn, .int .u32 kid]) true).run Try.prog _ = .ok (.tuple #[.agg #[.int .u32 fs, .int .u16 fm], .bool true]) _ := hlook _ (below_new wr (.cells #[.int .u32 0, .int .u16 0] 35)).drew
            have EF := Lib.hid (show fea (S.floor ⟨ka, kn, kid⟩) s x = true by rw [hf]; unfold fea; rw [hx2]; rfl)
            have EC := Lib.hid (show cov (S.floor ⟨ka, kn, kid⟩) s x = true by rw [hf]; unfold cov; rw [hx2]; rfl)
            clear hlook hf
            go_region
            all_goals
              have W5b := (below_new wr (.cells #[.int .u32 fs, .int .u16 fm] 35)).drew
              have DB6 := DB5.held W5b
              have KB6 := KB5.held W5b
              have FB6 := (Blk.new wr 35 #[.int .u32 fs, .int .u16 fm]).drew
              clear q1 q2 fc3 k03 k13 k23 fc k0 k1 k2
              generalize (wr.alloc (.cells #[.int .u32 fs, .int .u16 fm] 35)).drew = W5 at *
              have k0 := KB6.at_ 0
              have k1 := KB6.at_ 1
              have k2 := KB6.at_ 2
              have d0 := DB6.at_ 0
              have d1 := DB6.at_ 1
              have f0 := FB6.at_ 0
              have f1 := FB6.at_ 1
              go_wp2_with fail
              refine (feas_at hN W5b (by assumption) EF.out).mono ?_
              rintro e W6 ⟨rfl, hb⟩
              have KB6 := KB6.held hb
              have DB6 := DB6.held hb
              have FB6 := FB6.held hb
              have W5b := next W5b hb
              clear hb k0 k1 k2 d0 d1 f0 f1
              have k0 := KB6.at_ 0
              have k1 := KB6.at_ 1
              have k2 := KB6.at_ 2
              have d0 := DB6.at_ 0
              have d1 := DB6.at_ 1
              have f0 := FB6.at_ 0
              have f1 := FB6.at_ 1
              go_wp2_with fail
              refine (cov_at hN W5b (by assumption) EC.out).mono ?_
              rintro e W6 ⟨rfl, hb⟩
              have KB6 := KB6.held hb
              have DB6 := DB6.held hb
              have FB6 := FB6.held hb
              have W5b := next W5b hb
              clear hb k0 k1 k2 d0 d1 f0 f1
              have k0 := KB6.at_ 0
              have k1 := KB6.at_ 1
              have k2 := KB6.at_ 2
              have d0 := DB6.at_ 0
              have d1 := DB6.at_ 1
              have f0 := FB6.at_ 0
              have f1 := FB6.at_ 1
              go_wp2_with fail
              go_ret
              exact ⟨rfl, next hB5 W5b⟩
        | false =>
          have hx2 : (x == 65535) = false := by have := ne_of_beq_false hx; exact beq_eq_false_iff_ne.2 (by omega)
          cases hf : S.floor ⟨ka, kn, kid⟩ with
          | none =>
            rw [hf] at hlook
            have q1 : (Instr.lookup 48 (.map (some mf)) (.agg #[.int .u32 ka, .int .i64 kn, .int .u32 kid]) true).run Try.prog _ = .ok (.tuple #[.agg #[.int .u32 0, .int .u16 0], .bool false]) _ := hlook _ (Below.refl wr.heap.size wr).drew
            have q2 : (Instr.lookup 48 (.map (some mf)) (.agg #[.int .u32 ka, .int .i64 kn, .int .u32 kid]) true).run Try.prog _ = .ok (.tuple #[.agg #[.int .u32 0, .int .u16 0], .bool false]) _ := hlook _ (below_new wr (.cells #[.int .u32 0, .int .u16 0] 35)).drew
            have EF := Lib.hid (show fea (S.floor ⟨ka, kn, kid⟩) s x = true by rw [hf]; unfold fea; rw [hx2]; rfl)
            have EC := Lib.hid (show cov (S.floor ⟨ka, kn, kid⟩) s x = false by rw [hf]; unfold cov; rw [hx2]; rfl)
            clear hlook hf
            go_region
            all_goals
              have W5b := (below_new wr (.cells #[.int .u32 0, .int .u16 0] 35)).drew
              have DB6 := DB5.held W5b
              have KB6 := KB5.held W5b
              have FB6 := (Blk.new wr 35 #[.int .u32 0, .int .u16 0]).drew
              clear q1 q2 fc3 k03 k13 k23 fc k0 k1 k2
              generalize (wr.alloc (.cells #[.int .u32 0, .int .u16 0] 35)).drew = W5 at *
              have k0 := KB6.at_ 0
              have k1 := KB6.at_ 1
              have k2 := KB6.at_ 2
              have d0 := DB6.at_ 0
              have d1 := DB6.at_ 1
              have f0 := FB6.at_ 0
              have f1 := FB6.at_ 1
              go_wp2_with fail
              refine (feas_at hN W5b (by assumption) EF.out).mono ?_
              rintro e W6 ⟨rfl, hb⟩
              have KB6 := KB6.held hb
              have DB6 := DB6.held hb
              have FB6 := FB6.held hb
              have W5b := next W5b hb
              clear hb k0 k1 k2 d0 d1 f0 f1
              have k0 := KB6.at_ 0
              have k1 := KB6.at_ 1
              have k2 := KB6.at_ 2
              have d0 := DB6.at_ 0
              have d1 := DB6.at_ 1
              have f0 := FB6.at_ 0
              have f1 := FB6.at_ 1
              go_wp2_with fail
              refine (cov_at hN W5b (by assumption) EC.out).mono ?_
              rintro e W6 ⟨rfl, hb⟩
              have KB6 := KB6.held hb
              have DB6 := DB6.held hb
              have FB6 := FB6.held hb
              have W5b := next W5b hb
              clear hb k0 k1 k2 d0 d1 f0 f1
              have k0 := KB6.at_ 0
              have k1 := KB6.at_ 1
              have k2 := KB6.at_ 2
              have d0 := DB6.at_ 0
              have d1 := DB6.at_ 1
              have f0 := FB6.at_ 0
              have f1 := FB6.at_ 1
              go_wp2_with fail
              go_ret
              exact ⟨rfl, next hB5 W5b⟩
          | some f =>
            obtain ⟨fs, fm⟩ := f
            rw [hf] at hlook
            have hbs := bet_some (fs, fm) s x
            cases hbt : better s x fs fm with
            | true =>
              have BT := Lib.hid hbt
              have q1 : (Instr.lookup 48 (.map (some mf)) (.agg #[.int .u32 ka, .int .i64 kn, .int .u32 kid]) true).run Try.prog _ = .ok (.tuple #[.agg #[.int .u32 fs, .int .u16 fm], .bool true]) _ := hlook _ (Below.refl wr.heap.size wr).drew
              have q2 : (Instr.lookup 48 (.map (some mf)) (.agg #[.int .u32 ka, .int .i64 kn, .int .u32 kid]) true).run Try.prog _ = .ok (.tuple #[.agg #[.int .u32 fs, .int .u16 fm], .bool true]) _ := hlook _ (below_new wr (.cells #[.int .u32 0, .int .u16 0] 35)).drew
              have EF := Lib.hid (show fea (S.floor ⟨ka, kn, kid⟩) s x = true by rw [hf]; unfold fea; rw [hx2]; rw [hbs, hbt]; rfl)
              have EC := Lib.hid (show cov (S.floor ⟨ka, kn, kid⟩) s x = false by rw [hf]; unfold cov; rw [hx2]; rw [hbs, hbt]; rfl)
              clear hlook hf hbs hbt
              go_region
              all_goals
                have W5b := (below_new wr (.cells #[.int .u32 fs, .int .u16 fm] 35)).drew
                have DB6 := DB5.held W5b
                have KB6 := KB5.held W5b
                have FB6 := (Blk.new wr 35 #[.int .u32 fs, .int .u16 fm]).drew
                clear q1 q2 fc3 k03 k13 k23 fc k0 k1 k2
                generalize (wr.alloc (.cells #[.int .u32 fs, .int .u16 fm] 35)).drew = W5 at *
                have k0 := KB6.at_ 0
                have k1 := KB6.at_ 1
                have k2 := KB6.at_ 2
                have d0 := DB6.at_ 0
                have d1 := DB6.at_ 1
                have f0 := FB6.at_ 0
                have f1 := FB6.at_ 1
                go_wp2_with fail
                refine (feas_at hN W5b (by assumption) EF.out).mono ?_
                rintro e W6 ⟨rfl, hb⟩
                have KB6 := KB6.held hb
                have DB6 := DB6.held hb
                have FB6 := FB6.held hb
                have W5b := next W5b hb
                clear hb k0 k1 k2 d0 d1 f0 f1
                have k0 := KB6.at_ 0
                have k1 := KB6.at_ 1
                have k2 := KB6.at_ 2
                have d0 := DB6.at_ 0
                have d1 := DB6.at_ 1
                have f0 := FB6.at_ 0
                have f1 := FB6.at_ 1
                go_wp2_with fail
                refine (better_eq BT.out _).mono ?_
                rintro e W6 ⟨rfl, hb⟩
                have KB6 := KB6.held hb
                have DB6 := DB6.held hb
                have FB6 := FB6.held hb
                have W5b := next W5b hb
                clear hb k0 k1 k2 d0 d1 f0 f1
                have k0 := KB6.at_ 0
                have k1 := KB6.at_ 1
                have k2 := KB6.at_ 2
                have d0 := DB6.at_ 0
                have d1 := DB6.at_ 1
                have f0 := FB6.at_ 0
                have f1 := FB6.at_ 1
                go_wp2_with fail
                refine (cov_at hN W5b (by assumption) EC.out).mono ?_
                rintro e W6 ⟨rfl, hb⟩
                have KB6 := KB6.held hb
                have DB6 := DB6.held hb
                have FB6 := FB6.held hb
                have W5b := next W5b hb
                clear hb k0 k1 k2 d0 d1 f0 f1
                have k0 := KB6.at_ 0
                have k1 := KB6.at_ 1
                have k2 := KB6.at_ 2
                have d0 := DB6.at_ 0
                have d1 := DB6.at_ 1
                have f0 := FB6.at_ 0
                have f1 := FB6.at_ 1
                go_wp2_with fail
                refine (better_eq BT.out _).mono ?_
                rintro e W6 ⟨rfl, hb⟩
                have KB6 := KB6.held hb
                have DB6 := DB6.held hb
                have FB6 := FB6.held hb
                have W5b := next W5b hb
                clear hb k0 k1 k2 d0 d1 f0 f1
                have k0 := KB6.at_ 0
                have k1 := KB6.at_ 1
                have k2 := KB6.at_ 2
                have d0 := DB6.at_ 0
                have d1 := DB6.at_ 1
                have f0 := FB6.at_ 0
                have f1 := FB6.at_ 1
                go_wp2_with fail
                go_ret
                exact ⟨rfl, next hB5 W5b⟩
            | false =>
              have BT := Lib.hid hbt
              have q1 : (Instr.lookup 48 (.map (some mf)) (.agg #[.int .u32 ka, .int .i64 kn, .int .u32 kid]) true).run Try.prog _ = .ok (.tuple #[.agg #[.int .u32 fs, .int .u16 fm], .bool true]) _ := hlook _ (Below.refl wr.heap.size wr).drew
              have q2 : (Instr.lookup 48 (.map (some mf)) (.agg #[.int .u32 ka, .int .i64 kn, .int .u32 kid]) true).run Try.prog _ = .ok (.tuple #[.agg #[.int .u32 fs, .int .u16 fm], .bool true]) _ := hlook _ (below_new wr (.cells #[.int .u32 0, .int .u16 0] 35)).drew
              have EF := Lib.hid (show fea (S.floor ⟨ka, kn, kid⟩) s x = false by rw [hf]; unfold fea; rw [hx2]; rw [hbs, hbt]; rfl)
              have EC := Lib.hid (show cov (S.floor ⟨ka, kn, kid⟩) s x = true by rw [hf]; unfold cov; rw [hx2]; rw [hbs, hbt]; rfl)
              clear hlook hf hbs hbt
              go_region
              all_goals
                have W5b := (below_new wr (.cells #[.int .u32 fs, .int .u16 fm] 35)).drew
                have DB6 := DB5.held W5b
                have KB6 := KB5.held W5b
                have FB6 := (Blk.new wr 35 #[.int .u32 fs, .int .u16 fm]).drew
                clear q1 q2 fc3 k03 k13 k23 fc k0 k1 k2
                generalize (wr.alloc (.cells #[.int .u32 fs, .int .u16 fm] 35)).drew = W5 at *
                have k0 := KB6.at_ 0
                have k1 := KB6.at_ 1
                have k2 := KB6.at_ 2
                have d0 := DB6.at_ 0
                have d1 := DB6.at_ 1
                have f0 := FB6.at_ 0
                have f1 := FB6.at_ 1
                go_wp2_with fail
                refine (feas_at hN W5b (by assumption) EF.out).mono ?_
                rintro e W6 ⟨rfl, hb⟩
                have KB6 := KB6.held hb
                have DB6 := DB6.held hb
                have FB6 := FB6.held hb
                have W5b := next W5b hb
                clear hb k0 k1 k2 d0 d1 f0 f1
                have k0 := KB6.at_ 0
                have k1 := KB6.at_ 1
                have k2 := KB6.at_ 2
                have d0 := DB6.at_ 0
                have d1 := DB6.at_ 1
                have f0 := FB6.at_ 0
                have f1 := FB6.at_ 1
                go_wp2_with fail
                refine (better_eq BT.out _).mono ?_
                rintro e W6 ⟨rfl, hb⟩
                have KB6 := KB6.held hb
                have DB6 := DB6.held hb
                have FB6 := FB6.held hb
                have W5b := next W5b hb
                clear hb k0 k1 k2 d0 d1 f0 f1
                have k0 := KB6.at_ 0
                have k1 := KB6.at_ 1
                have k2 := KB6.at_ 2
                have d0 := DB6.at_ 0
                have d1 := DB6.at_ 1
                have f0 := FB6.at_ 0
                have f1 := FB6.at_ 1
                go_wp2_with fail
                refine (cov_at hN W5b (by assumption) EC.out).mono ?_
                rintro e W6 ⟨rfl, hb⟩
                have KB6 := KB6.held hb
                have DB6 := DB6.held hb
                have FB6 := FB6.held hb
                have W5b := next W5b hb
                clear hb k0 k1 k2 d0 d1 f0 f1
                have k0 := KB6.at_ 0
                have k1 := KB6.at_ 1
                have k2 := KB6.at_ 2
                have d0 := DB6.at_ 0
                have d1 := DB6.at_ 1
                have f0 := FB6.at_ 0
                have f1 := FB6.at_ 1
                go_wp2_with fail
                refine (better_eq BT.out _).mono ?_
                rintro e W6 ⟨rfl, hb⟩
                have KB6 := KB6.held hb
                have DB6 := DB6.held hb
                have FB6 := FB6.held hb
                have W5b := next W5b hb
                clear hb k0 k1 k2 d0 d1 f0 f1
                have k0 := KB6.at_ 0
                have k1 := KB6.at_ 1
                have k2 := KB6.at_ 2
                have d0 := DB6.at_ 0
                have d1 := DB6.at_ 1
                have f0 := FB6.at_ 0
                have f1 := FB6.at_ 1
                go_wp2_with fail
                go_ret
                exact ⟨rfl, next hB5 W5b⟩
end Go.Proofs.Ytibflamnnjpigaa
