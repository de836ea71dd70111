/-
  ScriptMany: as many events as there may be, and more.
-/
import Derived.Test.YtnpocnfmekgieaaScH
import Derived.Test.YtnpocnfmekgieaaScY
import Derived.Laws.MakeOwn
namespace Go.Proofs.Ytnpocnfmekgieaa
open Go.RowKit Go.Maps Sc

theorem info_parts' {P : Program} {e : TypeId} {z : Option Value} {k b : Nat} (h : (P.info? e).map (fun i => (i.zero, i.size, i.bytes)) = some (z, k, b)) : ∃ i, P.info? e = some i ∧ i.zero = z ∧ i.size = k ∧ i.bytes = b := by
  cases hi : P.info? e with
  | none => rw [hi] at h; cases h
  | some i =>
    rw [hi] at h
    simp only [Option.map_some, Option.some.injEq, Prod.mk.injEq] at h
    exact ⟨i, rfl, h.1, h.2.1, h.2.2⟩
theorem mask7 (z : Int) : ∃ c : Nat, c ≤ 7 ∧ bits .and .i64 z 7 = (c : Int) := by
  have h1 : (BitVec.ofInt 64 z &&& BitVec.ofInt 64 7).toNat ≤ 7 := by
    rw [BitVec.toNat_and]
    exact Nat.le_trans Nat.and_le_right (by decide)
  refine ⟨(BitVec.ofInt 64 z &&& BitVec.ofInt 64 7).toNat, h1, ?_⟩
  have e : bits .and .i64 z 7 = IntKind.i64.wrap ((BitVec.ofInt 64 z &&& BitVec.ofInt 64 7).toNat : Int) := rfl
  rw [e]
  generalize (BitVec.ofInt 64 z &&& BitVec.ofInt 64 7).toNat = n at *
  simp only [IntKind.wrap, IntKind.bits, IntKind.signed]
  simp
  omega
theorem ev_parts : (Try.prog.info? 30).map (fun i => (i.zero, i.size, i.bytes)) = some (some (.agg (ecs zev)), 7, 64) := by kernel_rfl
theorem run_make_evs (n : Nat) (hn : n ≤ 100000) (w : World) : (Instr.makeSlice 22 (.int .i64 (n : Int)) (.int .i64 (n : Int))).run Try.prog w = .ok (.slice (some ⟨w.heap.size, 0, none⟩) n n) (w.alloc (.cells (madeCells (ecs zev) (n * 7)) 30)) := by
  obtain ⟨i, h1, h2, h3, h4⟩ := info_parts' ev_parts
  have h := run_make (P := Try.prog) w 22 30 i _ (by kernel_rfl) h1 h2 .i64 .i64 (n : Int) (n : Int) (by omega) (by omega) (by rw [h4]; omega) (by omega)
  simpa [h3, Value.cells] using h
theorem made_ev (n i j : Nat) (hi : i < n) (hj : j < 7) : (madeCells (ecs zev) (n * 7))[7 * i + j]? = (ecs zev)[j]? := by
  have h : 7 * i + j < n * 7 := by omega
  have hm : (7 * i + j) % 7 = j := by omega
  unfold madeCells
  rw [Array.getElem?_map, Array.getElem?_range, if_pos h, Option.map_some, show (ecs zev).size = 7 from rfl, hm, getElem!_pos (ecs zev) j hj, Array.getElem?_eq_getElem (show j < (ecs zev).size from hj)]
  rfl
theorem zev_good : zev.Good := ⟨by constructor <;> decide, by unfold maxLen; decide⟩
theorem zev_right : right zev = true := by decide
theorem El.made (W : World) (n : Nat) (hn : n ≤ 100000) : El (W.alloc (.cells (madeCells (ecs zev) (n * 7)) 30)) (some ⟨W.heap.size, 0, none⟩) n n (List.replicate n zev) := by
  refine ⟨by simp, by unfold maxLen; omega, Nat.le_refl _, fun _ => ⟨_, _, rfl⟩, fun b off h i hi j hj => ?_, fun x hx => by rw [List.eq_of_mem_replicate hx]; exact zev_good⟩
  cases h
  have hi' : i < n := by simpa using hi
  rw [Nat.zero_add, (Blk.new W 30 _).at_, made_ev n i j hi' hj]
  simp
theorem flat_zev (n : Nat) : (flat (List.replicate n zev)).length = 16 * n := by
  induction n with
  | zero => rfl
  | succ n ih => rw [List.replicate_succ, flat_cons, List.length_append, ih, ebytes_length]; show 16 + 0 + 16 * n = _; omega
theorem all_zev (n : Nat) : Sc.allRight (List.replicate n zev) = true := by
  unfold Sc.allRight
  rw [List.all_eq_true]
  intro x hx
  rw [List.eq_of_mem_replicate hx]; exact zev_right

set_option maxRecDepth 100000 in
set_option maxHeartbeats 4000000 in
theorem many_any (z : Int) (w : World) : Calls Try.prog 6 #[.int .i64 z] w fun x w' => x = .returned (.bool true) ∧ Below w.heap.size w w' := by
  obtain ⟨c, hc, hmask⟩ := mask7 z
  obtain ⟨n, hn⟩ : ∃ n : Nat, n = 8189 + c := ⟨_, rfl⟩
  have hz : (8189 + (c : Int)) = (n : Int) := by omega
  have hnb : n ≤ 8196 := by omega
  have mk := fun u => run_make_evs n (by omega) u
  have NH := Lib.hid hn
  clear hn
  go_enter Try.func6, Try.ntmps6
  go_upto_region 4 with (go_at_call 7; refine (head_any w).mono ?_; rintro e w1 ⟨rfl, hb1⟩)
  try rw [hmask]
  try rw [hz]
  clear hmask hz
  have HEl := El.made w1 n (by omega)
  have hb2 := hb1.trans ((below_new w1 (.cells (madeCells (ecs zev) (n * 7)) 30)).mono hb1.size)
  have hR : ∀ x ∈ List.replicate n zev, Sc.right x = true ∧ x.a < 4294967296 := fun x hx => by rw [List.eq_of_mem_replicate hx]; exact ⟨zev_right, by decide⟩
  have hfl := flat_zev n
  have hall := all_zev n
  have hlen : (List.replicate n zev).length = n := by simp
  have hsl : (script 2 40 (List.replicate n zev)).length = 3 + 16 * n := by rw [script_length, hfl]
  have hd1 : Sc.headed (script 2 40 (List.replicate n zev)) = true := by
    unfold Sc.headed
    rw [hsl, decide_eq_true (by omega), Bool.true_and]
    rfl
  have hdr : (script 2 40 (List.replicate n zev)).drop 3 = flat (List.replicate n zev) := rfl
  have hg0 : (((script 2 40 (List.replicate n zev)).getD 0 0 : Nat) : Int) = 2 := rfl
  have hg1 : (((script 2 40 (List.replicate n zev)).getD 1 0 * 256 + (script 2 40 (List.replicate n zev)).getD 2 0 : Nat) : Int) = 40 := rfl
  have HLB := fun u (hu : Below (w1.alloc (.cells (madeCells (ecs zev) (n * 7)) 30)).heap.size (w1.alloc (.cells (madeCells (ecs zev) (n * 7)) 30)) u) => lbytes_any (HEl.held hu) hall (nn := 2) (ss := 40) (by omega) (by omega) (by rw [hfl]; omega)
  rw [show ((2 : Nat) : Int) = 2 from rfl, show ((40 : Nat) : Int) = 40 from rfl] at HLB
  by_cases h8 : 8192 < n
  · have dn : decide ((8192 : Int) < (n : Int)) = true := decide_eq_true (by omega)
    have HE := encode_many (A := some ⟨w1.heap.size, 0, none⟩) (n := n) (cap := n) 2 40 (w := w1.alloc (.cells (madeCells (ecs zev) (n * 7)) 30)) h8 (by unfold maxLen; omega)
    have htake : (List.replicate n zev).take 8192 = List.replicate 8192 zev := by rw [List.take_replicate, Nat.min_eq_left (by omega)]
    have F8 := flat_zev 8192
    have B2 := Lib.hid hb2
    have X := Lib.hid (And.intro hR (And.intro hsl (And.intro hd1 (And.intro hdr (And.intro hlen (And.intro htake F8))))))
    have Y := Lib.hid (And.intro hg0 hg1)
    clear hb1 hb2 HEl hR hfl hall hsl hd1 hdr hlen htake F8 hg0 hg1
    generalize hL : List.replicate n zev = L at *
    clear hL
    go_wp2_with fail
    refine HE.mono ?_
    rintro e3 w3 ⟨rfl, hb3⟩
    have HL := HLB _ hb3
    have B3 := Lib.hid (next B2.out hb3)
    clear HE HLB hb3 B2
    go_wp2_with fail
    refine HL.mono ?_
    rintro e4 w4 ⟨g, c4, q, rfl, hq, hO, hb4⟩
    have HD := decode_good (Ob.sl hO (script_lt _ _ _)) (by rw [hq, X.out.2.1]; omega) X.out.2.2.1
    rw [Y.out.1, Y.out.2] at HD
    have B4 := Lib.hid (next B3.out hb4)
    clear HL hb4 B3 hO hq
    go_wp2_with fail
    refine HD.mono ?_
    rintro e5 w5 ⟨v, l, k, e, rfl, hO5, hE, hb5⟩
    obtain ⟨hl, rfl, hl2⟩ := hE.many X.out.1 X.out.2.2.2.1 (by rw [X.out.2.2.2.2.1]; exact h8)
    have hk : k = 131075 := by rw [hE.at_, hl, X.out.2.2.2.2.2.1, X.out.2.2.2.2.2.2]
    obtain ⟨p, cp, rfl, -⟩ := hO5.form
    rw [hl2]
    subst hk
    have B5 := Lib.hid (next B4.out hb5)
    clear HD hb5 B4 hO5 hE hl hl2 X Y
    go_wp2_with fail
    go_ret
    exact ⟨rfl, B5.out⟩
  · have dn : decide ((8192 : Int) < (n : Int)) = false := decide_eq_false (by omega)
    have HE := encode_good HEl (by omega) (nn := 2) (ss := 40) (by decide) hall (by rw [hfl]; omega)
    rw [show ((2 : Nat) : Int) = 2 from rfl, show ((40 : Nat) : Int) = 40 from rfl] at HE
    have B2 := Lib.hid hb2
    have X := Lib.hid (And.intro hR (And.intro hsl (And.intro hd1 (And.intro hdr hlen))))
    have Y := Lib.hid (And.intro hg0 hg1)
    clear hb1 hb2 HEl hR hfl hall hsl hd1 hdr hlen hg0 hg1
    generalize hL : List.replicate n zev = L at *
    clear hL
    go_wp2_with fail
    refine HE.mono ?_
    rintro e3 w3 ⟨g3, c3, q3, rfl, hq3, hO3, hb3⟩
    have HL := HLB _ hb3
    have B3 := Lib.hid (next B2.out hb3)
    rw [X.out.2.1] at hq3
    have Q3 := Lib.hid hq3
    clear HE HLB hb3 B2 hO3 hq3
    go_wp2_with fail
    refine HL.mono ?_
    rintro e4 w4 ⟨g, c4, q, rfl, hq, hO, hb4⟩
    have HD := decode_good (Ob.sl hO (script_lt _ _ _)) (by rw [hq, X.out.2.1]; omega) X.out.2.2.1
    rw [Y.out.1, Y.out.2] at HD
    have B4 := Lib.hid (next B3.out hb4)
    clear HL hb4 B3 hO hq
    go_wp2_with fail
    refine HD.mono ?_
    rintro e5 w5 ⟨v, l, k, e, rfl, hO5, hE, hb5⟩
    obtain ⟨hl, rfl, hk⟩ := hE.back X.out.1 X.out.2.2.2.1 (by rw [X.out.2.2.2.2]; omega)
    rw [X.out.2.1] at hk
    have hll : l.length = n := by rw [hl]; exact X.out.2.2.2.2
    obtain ⟨p, cp, rfl, -⟩ := hO5.form
    rw [hll]
    have eq1 : ((q3 : Int) == 3 + 16 * (n : Int)) = true := beq_iff_eq.2 (by have := Q3.out; omega)
    have eq2 : ((k : Int) == (q3 : Int)) = true := beq_iff_eq.2 (by have := Q3.out; omega)
    have B5 := Lib.hid (next B4.out hb5)
    clear HD hb5 B4 hO5 hE hl hll X Y hk Q3
    go_wp2_with fail
    go_ret
    exact ⟨rfl, B5.out⟩
end Go.Proofs.Ytnpocnfmekgieaa
