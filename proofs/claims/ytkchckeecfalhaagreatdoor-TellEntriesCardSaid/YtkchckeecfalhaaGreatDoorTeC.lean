/-
  Package tell: Entry; the statement's entry.
-/
import Derived.Test.YtkchckeecfalhaaGreatDoorTeB
import Derived.Lib.ItoaLen
namespace Go.Proofs.YtkchckeecfalhaaGreatDoor
open Go.RowKit
attribute [local go_sem] Oper.semAt_some

theorem Wordy.str {w : World} {T : TypeId} {v : Value} {s s' : ByteArray} (h : Wordy w T v s) (e : s = s') : Wordy w T v s' := e ▸ h
/-- the text of a prefix -/
def pS (a : Nat) (len : Int) : ByteArray := ⟨(Sm.str a len).toArray⟩
def nS (n : Int) : ByteArray := ⟨(Lib.itoa n).toArray⟩
/-- an entry as a line -/
def enS (a : Nat) (len how nx : Int) : ByteArray :=
  if how < 0 ∨ 4 ≤ how then ⟨#[]⟩ else if how = 2 then lineS [pS a len, hW how, nS nx] else lineS [pS a len, hW how]
theorem hW_some {z : Int} (h : ¬ (z < 0 ∨ 4 ≤ z)) : (hW z).toList.isEmpty = false := by
  have hz : z = 0 ∨ z = 1 ∨ z = 2 ∨ z = 3 := by omega
  rcases hz with rfl | rfl | rfl | rfl <;> decide +kernel
theorem hW_none {z : Int} (h : z < 0 ∨ 4 ≤ z) : hW z = ⟨#[]⟩ := by
  unfold hW; rw [if_neg (by omega), if_neg (by omega), if_neg (by omega), if_neg (by omega)]
theorem str_len (a : Nat) (len : Int) : (Sm.str a len).length ≤ 100 := by
  unfold Sm.str
  split
  · rename_i h
    obtain ⟨n, hn, rfl, -⟩ := right_len h
    have h1 := Sm.upTo_len a 4
    have h2 := Sm.dec_len (n := n) (by omega)
    unfold Sm.text
    simp only [List.length_append, List.length_cons, List.length_nil, Int.toNat_natCast]
    omega
  · simp
theorem nS_len (n : Int) (h0 : -9223372036854775808 ≤ n) (h1 : n ≤ 9223372036854775807) : (Lib.itoa n).length ≤ 21 := Lib.itoa_length_le n h0 h1
theorem hW_len (z : Int) : (hW z).data.toList.length ≤ 4 := by
  unfold hW
  (repeat' split) <;> decide
theorem join3 (a b c : List UInt8) : (Lib.join [a, b, c] [32]).length = a.length + 1 + b.length + 1 + c.length := by
  simp [Lib.join, List.intercalate]
  omega
theorem join2 (a b : List UInt8) : (Lib.join [a, b] [32]).length = a.length + 1 + b.length := by
  simp [Lib.join, List.intercalate]
  omega
set_option maxRecDepth 20000 in
set_option maxHeartbeats 2000000 in
theorem entry_any (a : Nat) (len how nx : Int) (ha : a < 4294967296) (h0 : -9223372036854775808 ≤ nx) (h1 : nx ≤ 9223372036854775807) (w : World) (ht : Tab w) :
    Calls Tryz.prog 8 #[.agg #[.int .u32 a, .int .i64 len, .int .i64 how, .int .i64 nx]] w fun e w' => e = .returned (.string (enS a len how nx)) ∧ Below w.heap.size w w' := by
  have EB := Blk.new w 27 #[.int .u32 a, .int .i64 len, .int .i64 how, .int .i64 nx]
  have hb1 := below_new w (.cells #[.int .u32 a, .int .i64 len, .int .i64 how, .int .i64 nx] 27)
  have e0 := EB.at_ 0
  have e1 := EB.at_ 1
  have e2 := EB.at_ 2
  have e3 := EB.at_ 3
  have HT := Lib.hid (ht.held hb1)
  have HN := Lib.hid (And.intro h0 (And.intro h1 ha))
  have HB := Lib.hid hb1
  clear EB hb1 ht h0 h1 ha
  go_enter Tryz.func8, Tryz.ntmps8
  go_wp2_with fail
  generalize w.alloc (.cells #[.int .u32 a, .int .i64 len, .int .i64 how, .int .i64 nx] 27) = w1 at *
  refine (how_word how w1).mono ?_
  rintro e w2 ⟨rfl, hb2⟩
  replace e0 := held hb2 e0
  replace e1 := held hb2 e1
  replace e2 := held hb2 e2
  replace e3 := held hb2 e3
  replace HT := Lib.hid (HT.out.held hb2)
  replace HB := Lib.hid (next HB.out hb2)
  clear hb2
  by_cases hh : how < 0 ∨ 4 ≤ how
  · rw [hW_none hh]
    have E := Lib.hid (show enS a len how nx = ⟨#[]⟩ by unfold enS; rw [if_pos hh])
    clear hh
    go_wp2_with fail
    go_ret
    exact ⟨ret_string E.out.symm, HB.out⟩
  · have hne := hW_some hh
    obtain ⟨s, hs⟩ : ∃ s, hW how = s := ⟨_, rfl⟩
    rw [hs] at hne ⊢
    have HS := Lib.hid hs
    have HH := Lib.hid hh
    clear hs hh
    have HP := string_any a len HN.out.2.2 w2 HT.out
    go_wp2_with fail
    refine HP.mono ?_
    rintro e w3 ⟨rfl, hb3⟩
    replace e0 := held hb3 e0
    replace e1 := held hb3 e1
    replace e2 := held hb3 e2
    replace e3 := held hb3 e3
    replace HT := Lib.hid (HT.out.held hb3)
    replace HB := Lib.hid (next HB.out hb3)
    clear hb3 HP
    obtain ⟨p, hp⟩ : ∃ p : ByteArray, ⟨(Sm.str a len).toArray⟩ = p := ⟨_, rfl⟩
    rw [hp]
    have HPp := Lib.hid hp
    clear hp
    have hsl := hW_len how
    rw [HS.out] at hsl
    have hpl : p.data.toList.length ≤ 100 := by rw [← HPp.out]; simpa using str_len a len
    have hL := Lib.hid (And.intro hsl hpl)
    clear hsl hpl
    by_cases h2 : how = 2
    · subst h2
      have HL := fun (w : World) (hT : Tab w) (pb c : Nat) (hcs : ∀ (j : Nat) (q : TypeId × Value), ([(50, Value.string p), (48, .int .i64 2), (52, .int .i64 nx)] : List (TypeId × Value))[j]? = some q → w.cell? ⟨pb, j, none⟩ = some (.iface q.1 q.2)) (hc : 3 ≤ c) =>
        line_any w pb c [(50, .string p), (48, .int .i64 2), (52, .int .i64 nx)] [p, s, nS nx] 3 rfl rfl hcs hc (by omega) (fun j q x hj hx => by
          match j, hj, hx with
          | 0, hj, hx => cases hj; cases hx; exact wordy_text w p
          | 1, hj, hx => cases hj; cases hx; exact (wordy_how w 2).str HS.out
          | 2, hj, hx => cases hj; cases hx; exact wordy_number w nx HN.out.1 HN.out.2.1 hT) (by
          simp only [List.map_cons, List.map_nil]
          rw [join3]
          have h3 := nS_len nx HN.out.1 HN.out.2.1
          have h4 : (nS nx).data.toList.length = (Lib.itoa nx).length := by simp [nS]
          have := hL.out
          omega)
      have hb4 := below_new w3 (.cells #[.iface 50 (.string p), .iface 48 (.int .i64 2), .iface 52 (.int .i64 nx)] 74)
      have PB := Blk.new w3 74 #[.iface 50 (.string p), .iface 48 (.int .i64 2), .iface 52 (.int .i64 nx)]
      have HL1 := HL _ (HT.out.held hb4) w3.heap.size 3 (fun j q hj => by
        rw [PB.at_]
        match j, hj with
        | 0, hj => cases hj; rfl
        | 1, hj => cases hj; rfl
        | 2, hj => cases hj; rfl) (Nat.le_refl _)
      have HB2 := Lib.hid (next HB.out hb4)
      have E := Lib.hid (show enS a len 2 nx = lineS [p, s, nS nx] by
        unfold enS
        rw [if_neg HH.out, if_pos rfl, HS.out, show pS a len = p from HPp.out])
      clear HL hb4 PB
      go_wp2_with fail
      refine HL1.mono ?_
      rintro e w5 ⟨rfl, hb5⟩
      have HB3 := Lib.hid (next HB2.out hb5)
      clear hb5 HL1
      go_wp2_with fail
      go_ret
      exact ⟨ret_string E.out.symm, HB3.out⟩
    · have d2 : (how == 2) = false := beq_eq_false_iff_ne.2 h2
      have hb4 := below_new w3 (.cells #[.iface 50 (.string p), .iface 48 (.int .i64 how)] 74)
      have PB := Blk.new w3 74 #[.iface 50 (.string p), .iface 48 (.int .i64 how)]
      have HL1 := line_any _ w3.heap.size 2 [(50, .string p), (48, .int .i64 how)] [p, s] 2 rfl rfl (fun j q hj => by
        rw [PB.at_]
        match j, hj with
        | 0, hj => cases hj; rfl
        | 1, hj => cases hj; rfl) (Nat.le_refl _) (by omega) (fun j q x hj hx => by
          match j, hj, hx with
          | 0, hj, hx => cases hj; cases hx; exact wordy_text _ p
          | 1, hj, hx => cases hj; cases hx; exact (wordy_how _ how).str HS.out) (by
          simp only [List.map_cons, List.map_nil]
          rw [join2]
          have := hL.out
          omega)
      have HB2 := Lib.hid (next HB.out hb4)
      have E := Lib.hid (show enS a len how nx = lineS [p, s] by
        unfold enS
        rw [if_neg HH.out, if_neg h2, HS.out, show pS a len = p from HPp.out])
      clear hb4 PB
      go_wp2_with fail
      refine HL1.mono ?_
      rintro e w5 ⟨rfl, hb5⟩
      have HB3 := Lib.hid (next HB2.out hb5)
      clear hb5 HL1
      go_wp2_with fail
      go_ret
      exact ⟨ret_string E.out.symm, HB3.out⟩
end Go.Proofs.YtkchckeecfalhaaGreatDoor
