/-
  Package tell: words.
-/
import Derived.Test.YtkchckeecfalhaaGreatDoorStrW
import Derived.Test.YtkchckeecfalhaaGreatDoorTurn
namespace Go.Proofs.YtkchckeecfalhaaGreatDoor
open Go.RowKit
attribute [local go_sem] Oper.semAt_some

/-- a how's word -/
def hW (z : Int) : ByteArray := if z = 0 then ⟨#[110, 111, 110, 101]⟩ else if z = 1 then ⟨#[104, 101, 114, 101]⟩ else if z = 2 then ⟨#[118, 105, 97]⟩ else if z = 3 then ⟨#[100, 114, 111, 112]⟩ else ⟨#[]⟩
def hWs : Array Value := #[.string ⟨#[110, 111, 110, 101]⟩, .string ⟨#[104, 101, 114, 101]⟩, .string ⟨#[118, 105, 97]⟩, .string ⟨#[100, 114, 111, 112]⟩]
set_option maxRecDepth 20000 in
theorem how_word (z : Int) (w : World) : Calls Tryz.prog 18 #[.int .i64 z] w fun e w' => e = .returned (.string (hW z)) ∧ Below w.heap.size w w' := by
  by_cases h0 : z < 0
  · have d0 : decide (z < 0) = true := decide_eq_true h0
    have E := Lib.hid (show hW z = ⟨#[]⟩ by unfold hW; rw [if_neg (by omega), if_neg (by omega), if_neg (by omega), if_neg (by omega)])
    have hb := Lib.hid (below_new w (.cells #[.string ⟨#[110, 111, 110, 101]⟩, .string ⟨#[104, 101, 114, 101]⟩, .string ⟨#[118, 105, 97]⟩, .string ⟨#[100, 114, 111, 112]⟩] 71))
    go_enter Tryz.func18, Tryz.ntmps18
    go_wp2_with fail
    go_ret
    exact ⟨ret_string E.out.symm, hb.out⟩
  by_cases h4 : (4 : Int) ≤ z
  · have d0 : decide (z < 0) = false := decide_eq_false h0
    have d4 : decide ((4 : Int) ≤ z) = true := decide_eq_true h4
    have E := Lib.hid (show hW z = ⟨#[]⟩ by unfold hW; rw [if_neg (by omega), if_neg (by omega), if_neg (by omega), if_neg (by omega)])
    have hb := Lib.hid (below_new w (.cells #[.string ⟨#[110, 111, 110, 101]⟩, .string ⟨#[104, 101, 114, 101]⟩, .string ⟨#[118, 105, 97]⟩, .string ⟨#[100, 114, 111, 112]⟩] 71))
    go_enter Tryz.func18, Tryz.ntmps18
    go_wp2_with fail
    go_ret
    exact ⟨ret_string E.out.symm, hb.out⟩
  · have hz : z = 0 ∨ z = 1 ∨ z = 2 ∨ z = 3 := by omega
    have HB := Blk.new w 71 #[.string ⟨#[110, 111, 110, 101]⟩, .string ⟨#[104, 101, 114, 101]⟩, .string ⟨#[118, 105, 97]⟩, .string ⟨#[100, 114, 111, 112]⟩]
    have c0 := HB.at_ 0
    have c1 := HB.at_ 1
    have c2 := HB.at_ 2
    have c3 := HB.at_ 3
    have hb := Lib.hid (below_new w (.cells #[.string ⟨#[110, 111, 110, 101]⟩, .string ⟨#[104, 101, 114, 101]⟩, .string ⟨#[118, 105, 97]⟩, .string ⟨#[100, 114, 111, 112]⟩] 71))
    clear HB h0 h4
    rcases hz with rfl | rfl | rfl | rfl
    all_goals
      go_enter Tryz.func18, Tryz.ntmps18
      go_wp2_with fail
      go_ret
      exact ⟨rfl, hb.out⟩
theorem text_word (s : ByteArray) (w : World) : Calls Tryz.prog 296 #[.string s] w fun e w' => e = .returned (.string s) ∧ Below w.heap.size w w' := by
  go_enter Tryz.func296, Tryz.ntmps296
  go_wp2_with fail
  go_ret
  exact ⟨rfl, .refl _ _⟩
theorem number_word (n : Int) (h0 : -9223372036854775808 ≤ n) (h1 : n ≤ 9223372036854775807) (w : World) (ht : Tab w) : Calls Tryz.prog 297 #[.int .i64 n] w fun e w' => e = .returned (.string ⟨(Lib.itoa n).toArray⟩) ∧ Below w.heap.size w w' := by
  have HF : Calls Tryz.prog 298 #[.int .i64 n, .int .i64 10] w fun e w' => e = .returned (.string ⟨(Lib.itoa n).toArray⟩) ∧ Below w.heap.size w w' := (Tryz.strconv_FormatInt_10 n h0 h1 w ht).mono fun _ _ ⟨he, k, os, hw⟩ => ⟨he, hw ▸ grow_below w k os⟩
  clear ht h0 h1
  go_enter Tryz.func297, Tryz.ntmps297
  go_wp2_with fail
  refine HF.mono ?_
  rintro e w2 ⟨rfl, hb⟩
  have HB := Lib.hid hb
  clear hb HF
  go_wp2_with fail
  go_ret
  exact ⟨rfl, HB.out⟩
/-- an error's word -/
def eW (z : Int) : ByteArray := if z = 0 then ⟨#[111, 107]⟩ else if z = 1 then ⟨#[97, 114, 103]⟩ else if z = 2 then ⟨#[110, 111, 110, 101]⟩ else if z = 3 then ⟨#[115, 116, 97, 116, 101]⟩ else if z = 4 then ⟨#[105, 111]⟩ else if z = 5 then ⟨#[102, 117, 108, 108]⟩ else if z = 6 then ⟨#[102, 111, 114, 109]⟩ else ⟨#[109, 97, 110, 121]⟩
set_option maxRecDepth 20000 in
theorem errno_word (z : Int) (h0 : 0 ≤ z) (h7 : z ≤ 7) (w : World) : Calls Tryz.prog 295 #[.int .i64 z] w fun e w' => e = .returned (.string (eW z)) ∧ Below w.heap.size w w' := by
  have hz : z = 0 ∨ z = 1 ∨ z = 2 ∨ z = 3 ∨ z = 4 ∨ z = 5 ∨ z = 6 ∨ z = 7 := by omega
  have HB := Blk.new w 388 #[.string ⟨#[111, 107]⟩, .string ⟨#[97, 114, 103]⟩, .string ⟨#[110, 111, 110, 101]⟩, .string ⟨#[115, 116, 97, 116, 101]⟩, .string ⟨#[105, 111]⟩, .string ⟨#[102, 117, 108, 108]⟩, .string ⟨#[102, 111, 114, 109]⟩, .string ⟨#[109, 97, 110, 121]⟩]
  have c0 := HB.at_ 0
  have c1 := HB.at_ 1
  have c2 := HB.at_ 2
  have c3 := HB.at_ 3
  have c4 := HB.at_ 4
  have c5 := HB.at_ 5
  have c6 := HB.at_ 6
  have c7 := HB.at_ 7
  have hb := Lib.hid (below_new w (.cells #[.string ⟨#[111, 107]⟩, .string ⟨#[97, 114, 103]⟩, .string ⟨#[110, 111, 110, 101]⟩, .string ⟨#[115, 116, 97, 116, 101]⟩, .string ⟨#[105, 111]⟩, .string ⟨#[102, 117, 108, 108]⟩, .string ⟨#[102, 111, 114, 109]⟩, .string ⟨#[109, 97, 110, 121]⟩] 388))
  clear HB h0 h7
  rcases hz with rfl | rfl | rfl | rfl | rfl | rfl | rfl | rfl
  all_goals
    go_enter Tryz.func295, Tryz.ntmps295
    go_wp2_with fail
    go_ret
    exact ⟨rfl, hb.out⟩
/-! ### what has a word -/
structure Wordy (w : World) (T : TypeId) (v : Value) (s : ByteArray) : Prop where
  ex : ∃ f, (∀ w', Sem.run Tryz.prog (method (Tryz.prog.types.size + Made.depth) T v "Word") w' = .ok (f, v) w') ∧ (∀ args w', (callFunc f args).run Tryz.prog w' = .ok (.enter f args) w') ∧ ∀ W, Below w.heap.size w W → Calls Tryz.prog f #[v] W fun e w' => e = .returned (.string s) ∧ Below W.heap.size W w'
theorem Wordy.held {w w' : World} {T : TypeId} {v : Value} {s : ByteArray} (h : Wordy w T v s) (hb : Below w.heap.size w w') : Wordy w' T v s := by
  obtain ⟨f, h1, h2, h3⟩ := h.ex
  exact ⟨f, h1, h2, fun W hW => h3 W (next hb hW)⟩
theorem wordy_text (w : World) (s : ByteArray) : Wordy w 50 (.string s) s := ⟨296, fun _ => by kernel_rfl, fun _ _ => by kernel_rfl, fun W _ => text_word s W⟩
theorem wordy_how (w : World) (z : Int) : Wordy w 48 (.int .i64 z) (hW z) := ⟨18, fun _ => by kernel_rfl, fun _ _ => by kernel_rfl, fun W _ => how_word z W⟩
theorem wordy_number (w : World) (n : Int) (h0 : -9223372036854775808 ≤ n) (h1 : n ≤ 9223372036854775807) (ht : Tab w) : Wordy w 52 (.int .i64 n) ⟨(Lib.itoa n).toArray⟩ := ⟨297, fun _ => by kernel_rfl, fun _ _ => by kernel_rfl, fun W hb => number_word n h0 h1 W (ht.held hb)⟩
theorem wordy_errno (w : World) (z : Int) (h0 : 0 ≤ z) (h7 : z ≤ 7) : Wordy w 43 (.int .i64 z) (eW z) := ⟨295, fun _ => by kernel_rfl, fun _ _ => by kernel_rfl, fun W _ => errno_word z h0 h7 W⟩
end Go.Proofs.YtkchckeecfalhaaGreatDoor
