/-
  Package tell: Run of no bytes; the statement's head.
-/
import Derived.Test.YtkchckeecfalhaaGreatDoorTeD
import Derived.Test.YtkchckeecfalhaaGreatDoorOl
import Derived.Room.AppendZeros
namespace Go.Proofs.YtkchckeecfalhaaGreatDoor
open Go.RowKit Go.Maps
attribute [local go_sem] Oper.semAt_some

theorem ret5 {fn : Func} {a b c d e : Tmp} (h : fn.results = #[.tmp a, .tmp b, .tmp c, .tmp d, .tmp e]) (tmps : Array Value) (P : Program) (w : World) :
    (results fn tmps).run P w = .ok (.tuple #[tmps.getD a undef, tmps.getD b undef, tmps.getD c undef, tmps.getD d undef, tmps.getD e undef]) w := by
  simp [results, h]

theorem decode_nil (w : World) : Calls Tryz.prog 22 #[.slice none 0 0] w fun e w' => e = .returned (.tuple #[.int .i64 0, .int .i64 0, .slice none 0 0, .int .i64 0, .int .i64 6]) ∧ w' = w := by
  go_enter Tryz.func22, Tryz.ntmps22
  go_wp2_with fail
  refine bodyPost_ret (ret5 rfl _ _ _) rfl ⟨rfl, rfl⟩
def stc (s : ByteArray) : List Value := [.string s]
theorem elemStr : Elem Tryz.prog 32 9 stc 1 16 := ⟨by kernel_rfl, elem_info (z := .string ⟨#[]⟩) (by kernel_rfl) rfl, by omega, fun _ => rfl, fun x v hv => by simp only [stc, List.mem_cons, List.not_mem_nil, or_false] at hv; subst hv; rfl, by omega⟩
/-- a list of lines -/
def Lns (B : Nat) (v : Value) (ls : List ByteArray) (w : World) : Prop := Ol 9 stc 1 B v ls w
def errA : ByteArray := ⟨#[101, 114, 114, 111, 114]⟩
def atA : ByteArray := ⟨#[97, 116]⟩
theorem err_line : lineS [errA, eW 6, atA, nS 0] = ⟨#[101, 114, 114, 111, 114, 32, 102, 111, 114, 109, 32, 97, 116, 32, 48]⟩ := by decide +kernel
theorem eW_len (z : Int) : (eW z).data.toList.length ≤ 5 := by
  unfold eW
  (repeat' split) <;> decide
theorem join4 (a b c d : List UInt8) : (Lib.join [a, b, c, d] [32]).length = a.length + 1 + b.length + 1 + c.length + 1 + d.length := by
  simp [Lib.join, List.intercalate]
  omega
set_option maxRecDepth 20000 in
set_option maxHeartbeats 2000000 in
theorem run_nil (w : World) (ht : Tab w) : Calls Tryz.prog 13 #[.slice none 0 0] w fun e w' => ∃ v, e = .returned v ∧ Lns w.heap.size v [lineS [errA, eW 6, atA, nS 0]] w' ∧ Below w.heap.size w w' := by
  have hb4 := below_new w (.cells #[.iface 50 (.string ⟨#[101, 114, 114, 111, 114]⟩), .iface 43 (.int .i64 6), .iface 50 (.string ⟨#[97, 116]⟩), .iface 52 (.int .i64 0)] 74)
  have PB := Blk.new w 74 #[.iface 50 (.string ⟨#[101, 114, 114, 111, 114]⟩), .iface 43 (.int .i64 6), .iface 50 (.string ⟨#[97, 116]⟩), .iface 52 (.int .i64 0)]
  have ht4 := ht.held hb4
  have HL := line_any _ w.heap.size 4 [(50, .string errA), (43, .int .i64 6), (50, .string atA), (52, .int .i64 0)] [errA, eW 6, atA, nS 0] 4 rfl rfl (fun j q hj => by
    rw [PB.at_]
    match j, hj with
    | 0, hj => cases hj; rfl
    | 1, hj => cases hj; rfl
    | 2, hj => cases hj; rfl
    | 3, hj => cases hj; rfl) (Nat.le_refl _) (by omega) (fun j q x hj hx => by
      match j, hj, hx with
      | 0, hj, hx => cases hj; cases hx; exact wordy_text _ errA
      | 1, hj, hx => cases hj; cases hx; exact wordy_errno _ 6 (by omega) (by omega)
      | 2, hj, hx => cases hj; cases hx; exact wordy_text _ atA
      | 3, hj, hx => cases hj; cases hx; exact wordy_number _ 0 (by omega) (by omega) ht4) (by
      simp only [List.map_cons, List.map_nil]
      rw [join4]
      have h3 := nS_len 0 (by omega) (by omega)
      have h4 : (nS 0).data.toList.length = (Lib.itoa 0).length := by simp [nS]
      have h5 := eW_len 6
      have h6 : errA.data.toList.length = 5 := rfl
      have h7 : atA.data.toList.length = 2 := rfl
      omega)
  obtain ⟨s, hs⟩ : ∃ s, lineS [errA, eW 6, atA, nS 0] = s := ⟨_, rfl⟩
  rw [hs] at HL ⊢
  have HB := Lib.hid hb4
  clear PB ht4 hb4 ht hs
  go_enter Tryz.func13, Tryz.ntmps13
  go_wp2_with fail
  refine (decode_nil w).mono ?_
  rintro e w2 ⟨rfl, rfl⟩
  go_wp2_with fail
  refine HL.mono ?_
  rintro e w3 ⟨rfl, hb3⟩
  have hb := next HB.out hb3
  obtain ⟨np, n0, nc, hnl, hn0⟩ : ∃ (np : Option Addr) (n0 nc : Nat), Value.slice none 0 0 = .slice np n0 nc ∧ n0 = 0 := ⟨_, _, _, rfl, rfl⟩
  rw [hnl]
  have hO0 : Ol 9 stc 1 w2.heap.size (.slice np n0 nc) [] w3 := hnl ▸ Ol.nil _ _
  obtain ⟨g', cap', W', hrun, hO, hT, hat⟩ := Ol.push1 elemStr hO0 hb.size s (by simp) 32
  have hB2 := own_below hO0 hb hb.size hT
  have X := Lib.hid (And.intro hO (And.intro hB2 hnl))
  obtain ⟨n1, hn1⟩ : ∃ n1, ([] : List ByteArray).length + 1 = n1 := ⟨_, rfl⟩
  rw [hn1] at X
  replace hrun : (Builtin.append_ #[32, 32] 32 #[.slice np n0 nc, .slice (some ⟨w3.heap.size, 0, none⟩) 1 1]).run Tryz.prog (w3.alloc (.cells #[.string s] 9)) = .ok (.slice (some ⟨g', 0, none⟩) n1 cap') W' := by rw [← hn1]; exact hrun
  have d5 : decide ((500 : Int) < (n1 : Int)) = false := decide_eq_false (by rw [← hn1]; decide)
  clear hO hT hat hb hb3 HL hB2 hO0 hnl hn0 hn1
  go_wp2_with (first | (at_builtin; refine Lib.wpList_append_run _ rfl (.tmp 25) (.tmp 34) 32 32 rfl _ _ rfl rfl _ _ hrun ?_) | fail)
  go_ret
  exact ⟨_, rfl, X.out.1, X.out.2.1⟩
set_option maxRecDepth 20000 in
theorem lprefix_zero (i : Nat) (hi : i ≤ 7) (w : World) : Calls Tryz.prog 15 #[.int .i64 i, .int .i64 0] w fun e w' => e = .returned (.agg #[.int .u32 ((167772160 + i * 65536 : Nat) : Int), .int .i64 16]) ∧ Below w.heap.size w w' := by
  have hb := below_new w (.cells #[.int .u32 0, .int .i64 0] 24)
  have PB := Blk.new w 24 #[.int .u32 0, .int .i64 0]
  have c0 := PB.at_ 0
  have c1 := PB.at_ 1
  have f0 := PB.free 0
  have f1 := PB.free 1
  have hi2 : i = 0 ∨ i = 1 ∨ i = 2 ∨ i = 3 ∨ i = 4 ∨ i = 5 ∨ i = 6 ∨ i = 7 := by omega
  have e0 : bits .and .i64 0 3 = 0 := by decide +kernel
  clear PB hi
  rcases hi2 with rfl | rfl | rfl | rfl | rfl | rfl | rfl | rfl
  all_goals
    go_enter Tryz.func15, Tryz.ntmps15
    go_wp2_with fail
  · refine bodyPost_ret (v := .agg #[.int .u32 ((167772160 + 0 * 65536 : Nat) : Int), .int .i64 16]) ?_ rfl ⟨rfl, below_new _ _⟩
    simp [results, Tryz.results15, go_sem]
  · refine bodyPost_ret (v := .agg #[.int .u32 ((167772160 + 1 * 65536 : Nat) : Int), .int .i64 16]) ?_ rfl ⟨rfl, below_new _ _⟩
    simp [results, Tryz.results15, go_sem]
  · refine bodyPost_ret (v := .agg #[.int .u32 ((167772160 + 2 * 65536 : Nat) : Int), .int .i64 16]) ?_ rfl ⟨rfl, below_new _ _⟩
    simp [results, Tryz.results15, go_sem]
  · refine bodyPost_ret (v := .agg #[.int .u32 ((167772160 + 3 * 65536 : Nat) : Int), .int .i64 16]) ?_ rfl ⟨rfl, below_new _ _⟩
    simp [results, Tryz.results15, go_sem]
  · refine bodyPost_ret (v := .agg #[.int .u32 ((167772160 + 4 * 65536 : Nat) : Int), .int .i64 16]) ?_ rfl ⟨rfl, below_new _ _⟩
    simp [results, Tryz.results15, go_sem]
  · refine bodyPost_ret (v := .agg #[.int .u32 ((167772160 + 5 * 65536 : Nat) : Int), .int .i64 16]) ?_ rfl ⟨rfl, below_new _ _⟩
    simp [results, Tryz.results15, go_sem]
  · refine bodyPost_ret (v := .agg #[.int .u32 ((167772160 + 6 * 65536 : Nat) : Int), .int .i64 16]) ?_ rfl ⟨rfl, below_new _ _⟩
    simp [results, Tryz.results15, go_sem]
  · refine bodyPost_ret (v := .agg #[.int .u32 ((167772160 + 7 * 65536 : Nat) : Int), .int .i64 16]) ?_ rfl ⟨rfl, below_new _ _⟩
    simp [results, Tryz.results15, go_sem]
end Go.Proofs.YtkchckeecfalhaaGreatDoor
