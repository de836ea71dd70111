/-
  RecReads' walk.
-/
import Derived.Test.YtbjminjcccflcaaRecN
import Derived.Deep.RegionLaw
namespace Go.Proofs.Ytbjminjcccflcaa
open Go.RowKit Rm

/-- 'append(b, x...)' of bytes, as one step of a region that draws its order -/
theorem step_app {ops : Array Oper} {o : Oper} {a : Act} {w : World} {K : Act → World → Prop} {Q : Exit → Act → World → Prop} {E : Prop}
    (hg : o.guard = none) (s x : Operand) (hop : o.op = Op.call { callee := Callee.builtin Builtin.append, args := #[s, x], argTypes := #[32, 32] })
    {g cap len m c : Nat} {ad : Addr} {bs news : List Nat} (hs : a.eval s = .slice (some ⟨g, 0, none⟩) len cap) (hx : a.eval x = .slice (some ad) m c) (h : Ob w g cap bs) (hn : bs.length = len) (hb : BytesAt w (some ad) m news) (hm : len + m ≤ 1000) {r : Nat} (hr : len + m = r)
    (hK : ∀ g' cap' w', Ob w' g' cap' (bs ++ news) → Turn [g] w w' → (g' = g ∨ w.heap.size ≤ g') → K (a.put o.dst (.slice (some ⟨g', 0, none⟩) r cap')) w') :
    if Region.wanted o (yielded ops a.tmps) = true then Oper.wp Try.prog o a w K Q else E := by
  subst hr
  have hw : Region.wanted o (yielded ops a.tmps) = true := by simp [Region.wanted, hg]
  rw [if_pos hw]
  obtain ⟨g', cap', w', hrun, hO, hT, hat⟩ := run_app_n h hn hb hm c o.type
  exact Lib.wp_append_run w s x 32 32 hop _ _ hs hx _ _ hrun (hK _ _ _ hO hT hat)

theorem cut_head (b off n cap : Nat) (h1 : 44 ≤ cap) (w : World) : (Instr.slice 32 (.slice (some ⟨b, off, none⟩) n cap) none (some (.int .i64 44)) none).run Try.prog w = .ok (.slice (some ⟨b, off, none⟩) 44 cap) w := by
  have d1 : (44 : Int) ≤ (cap : Int) := by omega
  go_simp
theorem BytesAt.head {w : World} {ad : Addr} {n : Nat} {bs : List Nat} (h : BytesAt w (some ad) n bs) {m : Nat} (hm : m ≤ n) : BytesAt w (some ad) m (bs.take m) := by
  have k := h.part 0 m (by omega)
  rw [List.drop_zero] at k
  have e : ad.add 0 = ad := by unfold Addr.add; simp
  rwa [e] at k
theorem BytesAt.turn {w w' : World} {b off : Nat} {n : Nat} {bs : List Nat} {L : List Nat} (h : BytesAt w (some ⟨b, off, none⟩) n bs) (t : Turn L w w') (hb : b ∉ L) : BytesAt w' (some ⟨b, off, none⟩) n bs :=
  ⟨h.1, h.2.1, h.2.2.1, fun k hk => by
    obtain ⟨ad, e, hc⟩ := h.2.2.2 k hk
    cases e
    exact ⟨_, rfl, t.cell hc (by rw [add_block]; exact hb)⟩⟩

theorem of_ans' {b off cap : Nat} (hcap : 48 ≤ cap) {bs : List Nat} {w : World} (h : BytesAt w (some ⟨b, off, none⟩) 48 bs) {x : Rc} {y : Bool} (hx : (Rm.of bs).getD Rm.zero = x) (hy : (Rm.of bs).isSome = y) :
    Calls Try.prog 9 #[.slice (some ⟨b, off, none⟩) 48 cap] w fun e w' => e = .returned (.tuple #[.agg (rcells x.kind x.gen x.lsn x.id x.a x.len x.on x.seq x.met), .bool y]) ∧ Below w.heap.size w w' := by
  subst hx hy
  exact of_long b off cap hcap bs w h
theorem of_some_inv {bs : List Nat} {r : Rc} (h : Rm.of bs = some r) : parse bs = r ∧ right r = true ∧ Rm.bytes r = bs := by
  unfold Rm.of at h
  split at h
  case isFalse => cases h
  rename_i hc
  simp only [Option.some.injEq] at h
  rw [h] at hc
  exact ⟨h, hc.2.1, hc.2.2⟩
theorem of_none_inv {bs : List Nat} {r : Rc} (h : Rm.of bs = none) (hp : parse bs = r) (hl : bs.length = 48) (hr : right r = true) : ¬ Rm.bytes r = bs := by
  intro he
  unfold Rm.of at h
  rw [hp, if_pos ⟨hl, hr, he⟩] at h
  cases h
theorem wrap_u16 {z : Int} (h0 : 0 ≤ z) (h1 : z < 65536) : IntKind.u16.wrap z = z := by
  have e : IntKind.u16.wrap z = z % 65536 := by simp [IntKind.wrap, IntKind.bits, IntKind.signed]
  rw [e]
  omega
theorem one_le {B g : Nat} (h : B ≤ g) : ∀ i, i ∈ [g] → B ≤ i := by
  intro i hi
  simp at hi
  omega
theorem turn_ne {w : World} {g : Nat} (h : w.heap.size < g) : w.heap.size ∉ [g] := by simp; omega
/-- what the variable b holds, and that all else is as it was -/
def Var (w u : World) (A : Option Addr) (n cap : Nat) (bs : List Nat) : Prop :=
  u.cell? ⟨w.heap.size, 0, none⟩ = some (.slice A n cap) ∧ BytesAt u A n bs ∧ (n ≤ cap ∧ n ≤ 100) ∧ (0 < n → ∃ b off, A = some ⟨b, off, none⟩) ∧ Below w.heap.size w u

theorem var_sealed {w u : World} {C : Array Value} {g cap : Nat} {bs : List Nat} (hX : Blk 32 u w.heap.size C) (hC : C.size = 1) (hO : Ob u g cap bs) (hl : bs.length = 48) (hlt : ∀ c ∈ bs, c < 256) (hg : w.heap.size < g) (hb : Below w.heap.size w u) :
    Var w (u.setCell ⟨w.heap.size, 0, none⟩ (.slice (some ⟨g, 0, none⟩) 48 cap)) (some ⟨g, 0, none⟩) 48 cap bs := by
  have hT : Turn [w.heap.size] u (u.setCell ⟨w.heap.size, 0, none⟩ (.slice (some ⟨g, 0, none⟩) 48 cap)) := Turn.setCell u (by simp) _
  have hO2 := hO.turn hT (by simp; omega)
  refine ⟨?_, ?_, ⟨?_, by omega⟩, fun _ => ⟨g, 0, rfl⟩, hb.trans (hT.below (by simp) hb.size)⟩
  · have h := (hX.store 0 (.slice (some ⟨g, 0, none⟩) 48 cap)).at_ 0
    rw [h, Array.getElem?_setIfInBounds_self_of_lt (by omega)]
  · have h := hO2.bytes hlt (by omega)
    rwa [hl] at h
  · obtain ⟨_, _, _, h3, _⟩ := hO
    omega
theorem sealed_lt {bs : List Nat} (h : ∀ c ∈ bs, c < 256) (x : Nat) : ∀ c ∈ ([] ++ bs.take 44) ++ four x, c < 256 := by
  intro c hc
  rcases List.mem_append.1 hc with h1 | h1
  · exact h c (List.mem_of_mem_take (by simpa using h1))
  · exact four_lt x c h1

set_option maxRecDepth 100000 in
set_option maxHeartbeats 4000000 in
theorem reads_any (A : Option Addr) (n cap : Nat) (bs : List Nat) (sealed : Bool) (w : World) (h : BytesAt w A n bs) (hn : n ≤ cap) (hA : 0 < n → ∃ b off, A = some ⟨b, off, none⟩) :
    Calls Try.prog 4 #[.slice A n cap, .bool sealed] w fun e w' => e = .returned (.bool true) ∧ Below w.heap.size w w' := by
  have hn2 : n ≤ 9223372036854775807 := by have := h.2.1; unfold maxLen at this; omega
  go_enter Try.func4, Try.ntmps4
  go_wp2_with fail
  have hX0 := Blk.new w 32 #[.slice A n cap]
  have hb0 := below_new w (.cells #[.slice A n cap] 32)
  have hh := h.held hb0
  clear h
  generalize w.alloc (.cells #[.slice A n cap] 32) = w2 at *
  refine (rec_head _).mono ?_
  rintro e x1 ⟨rfl, hb⟩
  have hX1 := hX0.held hb
  have c2 : x1.cell? ⟨w.heap.size, 0, none⟩ = some (.slice A n cap) := hX1.at_ 0
  have f2 : x1.frozen? ⟨w.heap.size, 0, none⟩ = false := hX1.free 0
  have T := Lib.hid (And.intro (hh.held hb) (And.intro (next hb0 hb) (And.intro hn (And.intro hA hX1))))
  have hl1 : w.heap.size < x1.heap.size := hX1.lt
  clear hX0 hb0 hh hb hX1 hn hA
  by_cases hbig : 100 < n
  · go_wp2_with fail
    go_ret
    exact ⟨rfl, T.out.2.1⟩
  · go_upto_region 5 with fail
    go_cut [19] from 14 (fun s u => s = .bool (sealed && decide (44 ≤ n)) ∧ u = x1)
    case first =>
      cases sealed
      · go_wp2_with fail
        go_meet
        case rel => exact ⟨rfl, rfl⟩
      · by_cases h44 : 44 ≤ n
        · go_wp2_with fail
          go_meet
          case rel => exact ⟨by simp; omega, rfl⟩
        · go_wp2_with fail
          go_meet
          case rel => exact ⟨by simp; omega, rfl⟩
    case rest =>
      obtain ⟨rfl, rfl⟩ := hcut
      obtain ⟨sb, hsb⟩ : ∃ sb, sb = (sealed && decide (44 ≤ n)) := ⟨_, rfl⟩
      rw [← hsb]
      have SB := Lib.hid hsb
      clear hsb
      go_upto_if 19 with fail
      go_cut [] from 20 (fun u => ∃ A n cap bs, Var w u A n cap bs)
      case first =>
        cases sb
        · go_wp2_with fail
          go_meet
          case rel => exact ⟨A, n, cap, bs, c2, T.out.1, ⟨T.out.2.2.1, by omega⟩, T.out.2.2.2.1, T.out.2.1⟩
        · have h44 : 44 ≤ n := by
            have := SB.out
            simp at this
            omega
          obtain ⟨b, off, rfl⟩ := T.out.2.2.2.1 (by omega)
          have hXB := T.out.2.2.2.2
          have sl := cut_head b off n cap (by have := T.out.2.2.1; omega)
          have hB1 := T.out.1
          have hb1 : b < wc.heap.size := cell_lt ((hB1.at_ (k := 0) (by omega)))
          have OB1 : Ob (wc.alloc (.cells #[] 5)).drew wc.heap.size 0 [] := Ob.of_blk (bs := []) (Blk.new wc 5 #[]) (by simp)
          have BA1 : BytesAt (wc.alloc (.cells #[] 5)).drew (some ⟨b, off, none⟩) 44 (bs.take 44) := (hB1.held (below_new _ _)).head h44
          have XB1 : Blk 32 (wc.alloc (.cells #[] 5)).drew w.heap.size #[.slice (some ⟨b, off, none⟩) n cap] := hXB.more _
          have BE1 : Below w.heap.size w (wc.alloc (.cells #[] 5)).drew := (next T.out.2.1 (below_new _ _)).drew
          have NE1 : w.heap.size ∉ [wc.heap.size] := by simp; omega
          have NB1 : b ∉ [wc.heap.size] := by simp; omega
          have L44 : ([] ++ bs.take 44).length = 44 := by simp [hB1.1, h44]
          have LT : ∀ c ∈ bs.take 44, c < 256 := fun c hc => hB1.2.2.1 c (List.mem_of_mem_take hc)
          have hsm : 44 + 4 ≤ 1000 := by decide
          have hsm0 : 0 + 44 ≤ 1000 := by decide
          have hcrc : Crc.all (bs.take 44) < 4294967296 := Crc.all_lt _ LT
          have hwlt : w.heap.size < wc.heap.size := hl1
          have hsz1 : (wc.alloc (.cells #[] 5)).drew.heap.size = wc.heap.size + 1 := size_new _ _
          have hall := hB1.2.2.1
          clear hB1
          go_wp2_with fail
          go_region_law (first
            | (refine step_app rfl (.tmp 20) (.tmp 22) rfl rfl rfl OB1 rfl BA1 hsm0 rfl ?_; intro g1 cap1 u1 hO1 hT1 hw1; have X1 := XB1.turn hT1 NE1; have bb1 := BA1.turn hT1 NB1; have be1 := BE1.trans (hT1.below (B := w.heap.size) (one_le (Nat.le_of_lt hwlt)) (by omega)); have c1 : u1.cell? ⟨w.heap.size, 0, none⟩ = some (.slice (some ⟨b, off, none⟩) n cap) := X1.at_ 0; have hg1 : w.heap.size < g1 := (by omega); have K1 := Lib.hid (And.intro hO1 (And.intro X1 (And.intro be1 (And.intro bb1 hg1)))); clear hO1 hT1 hw1 X1 be1 bb1)
            | (refine step_app rfl (.tmp 23) (.tmp 27) rfl rfl rfl K2.out.1 L44 K2.out.2.2.2.1 hsm rfl ?_; intro g3 cap3 u3 hO3 hT3 hw3; have hg3 : w.heap.size < g3 := (by have := K2.out.2.1.lt; omega); have X3 := K2.out.2.1.turn hT3 (turn_ne hg1); have be3 := K2.out.2.2.1.trans (hT3.below (B := w.heap.size) (one_le (Nat.le_of_lt hg1)) K2.out.2.2.1.size); have c3 : u3.cell? ⟨w.heap.size, 0, none⟩ = some (.slice (some ⟨b, off, none⟩) n cap) := X3.at_ 0; have f3 : u3.frozen? ⟨w.heap.size, 0, none⟩ = false := X3.free 0; have K3 := Lib.hid (And.intro hO3 (And.intro X3 (And.intro be3 hg3))); clear hO3 hT3 hw3 X3 be3)
            | (go_simp; go_at_call 12; refine (ref_any _ _ _ _ _ K1.out.2.2.2.1).mono ?_; rintro e w' ⟨rfl, rfl⟩)
            | (go_simp; go_at_call 11; refine (four_ans _ hcrc _).mono ?_; rintro e u2 ⟨rfl, hF, hb2, hsz2⟩; have K2 := Lib.hid (And.intro (K1.out.1.held hb2) (And.intro (K1.out.2.1.held hb2) (And.intro (next K1.out.2.2.1 hb2) (And.intro hF K1.out.2.2.2.2)))); clear hF hb2 hsz2))
          all_goals
            go_wp2_with fail
            go_meet
            case rel => exact ⟨_, 48, cap3, _, var_sealed K3.out.2.1 rfl K3.out.1 (by rw [List.length_append, L44]; rfl) (sealed_lt hall _) K3.out.2.2.2 K3.out.2.2.1⟩
      case rest =>
        clear T c2 f2 hl1 hbig SB hn2
        obtain ⟨A', n', cap', bs', hV⟩ := hcut
        obtain ⟨D, hD1, hD2⟩ := rec_under
        have U := Lib.hid (And.intro hD1 hD2)
        clear hD1 hD2
        have c2 : wc.cell? ⟨w.heap.size, 0, none⟩ = some (.slice A' n' cap') := hV.1
        have V := Lib.hid hV
        clear hV
        by_cases h48 : n' = 48
        · subst h48
          obtain ⟨b, off, rfl⟩ := V.out.2.2.2.1 (by omega)
          cases ho : Rm.of bs'
          · have O := Lib.hid ho
            clear ho
            go_wp2_with fail
            refine (of_ans' (x := Rm.zero) (y := false) V.out.2.2.1.1 V.out.2.1 (by rw [O.out]; rfl) (by rw [O.out]; rfl)).mono ?_
            rintro e x2 ⟨rfl, hb⟩
            rw [show rcells Rm.zero.kind Rm.zero.gen Rm.zero.lsn Rm.zero.id Rm.zero.a Rm.zero.len Rm.zero.on Rm.zero.seq Rm.zero.met = #[.int .i64 0, .int .u32 0, .int .u32 0, .int .u32 0, .int .u32 0, .int .i64 0, .bool false, .int .u32 0, .int .u16 0] from rfl]
            have c3 : x2.cell? ⟨w.heap.size, 0, none⟩ = some (.slice (some ⟨b, off, none⟩) 48 cap') := held hb c2
            have hlt : w.heap.size < x2.heap.size := cell_lt c3
            have T2 := Lib.hid (And.intro (V.out.2.1.held hb) (next V.out.2.2.2.2 hb))
            clear hb c2
            go_wp2_with fail
            have c4 : (x2.alloc (.cells #[.int .i64 0, .int .u32 0, .int .u32 0, .int .u32 0, .int .u32 0, .int .i64 0, .bool false, .int .u32 0, .int .u16 0] 30)).cell? ⟨w.heap.size, 0, none⟩ = some (.slice (some ⟨b, off, none⟩) 48 cap') := held (below_new _ _) c3
            have hB4 := T2.out.1.held (below_new x2 (.cells #[.int .i64 0, .int .u32 0, .int .u32 0, .int .u32 0, .int .u32 0, .int .i64 0, .bool false, .int .u32 0, .int .u16 0] 30))
            have hb4 := next T2.out.2 (below_new x2 (.cells #[.int .i64 0, .int .u32 0, .int .u32 0, .int .u32 0, .int .u32 0, .int .i64 0, .bool false, .int .u32 0, .int .u16 0] 30))
            clear T2 c3 V hlt
            generalize x2.alloc _ = x4 at *
            generalize x2.heap.size = b2 at *
            have e0 := hB4.lt 0
            have e1 := hB4.lt 1
            have e2 := hB4.lt 2
            have e3 := hB4.lt 3
            have e20 := hB4.lt 20
            have a0 : x4.cell? ⟨b, off, none⟩ = some (.int .u8 (bs'.getD 0 0 : Nat)) := hB4.at_ (k := 0) (by omega)
            have a1 : x4.cell? ⟨b, off + 1, none⟩ = some (.int .u8 (bs'.getD 1 0 : Nat)) := hB4.at_ (k := 1) (by omega)
            have a2 : x4.cell? ⟨b, off + 2, none⟩ = some (.int .u8 (bs'.getD 2 0 : Nat)) := hB4.at_ (k := 2) (by omega)
            have a3 : x4.cell? ⟨b, off + 3, none⟩ = some (.int .u8 (bs'.getD 3 0 : Nat)) := hB4.at_ (k := 3) (by omega)
            have a20 : x4.cell? ⟨b, off + 20, none⟩ = some (.int .u8 (bs'.getD 20 0 : Nat)) := hB4.at_ (k := 20) (by omega)
            have hpf := parse_fits hB4.2.2.1
            have hpx : parse bs' = ⟨(bs'.getD 0 0 : Nat), num4 bs' 4, num4 bs' 8, num4 bs' 12, num4 bs' 16, (bs'.getD 20 0 : Nat), bs'.getD 1 0 == 1, num4 bs' 24, bs'.getD 2 0 * 256 + bs'.getD 3 0⟩ := rfl
            have T4 := Lib.hid (And.intro hB4 (And.intro hb4 (And.intro hpx (And.intro hpf c4))))
            clear hB4 hb4 hpx hpf
            go_cut [8] from 57 (fun s8 u => ∃ q, s8 = .pointer (some ⟨q, 0, none⟩) ∧ Blk 30 u q (rcells (bs'.getD 0 0 : Nat) (num4 bs' 4) (num4 bs' 8) (num4 bs' 12) (num4 bs' 16) (bs'.getD 20 0 : Nat) (bs'.getD 1 0 == 1) (num4 bs' 24) (bs'.getD 2 0 * 256 + bs'.getD 3 0)) ∧ u.cell? ⟨w.heap.size, 0, none⟩ = some (.slice (some ⟨b, off, none⟩) 48 cap') ∧ BytesAt u (some ⟨b, off, none⟩) 48 bs' ∧ Below w.heap.size w u)
            case first =>
              have q0 : IntKind.i64.wrap ((bs'.getD 0 0 : Nat) : Int) = (bs'.getD 0 0 : Nat) := by rw [IntKind.wrap_i64]; omega
              have q20 : IntKind.i64.wrap ((bs'.getD 20 0 : Nat) : Int) = (bs'.getD 20 0 : Nat) := by rw [IntKind.wrap_i64]; omega
              have q2 : IntKind.u16.wrap ((bs'.getD 2 0 : Nat) : Int) = (bs'.getD 2 0 : Nat) := wrap_u16 (by omega) (by omega)
              have q3 : IntKind.u16.wrap ((bs'.getD 3 0 : Nat) : Int) = (bs'.getD 3 0 : Nat) := wrap_u16 (by omega) (by omega)
              have hB := T4.out.1
              have hE := hB.held (below_new x4 (.cells #[.int .i64 0, .int .u32 0, .int .u32 0, .int .u32 0, .int .u32 0, .int .i64 0, .bool false, .int .u32 0, .int .u16 0] 30))
              have cE := held (below_new x4 (.cells #[.int .i64 0, .int .u32 0, .int .u32 0, .int .u32 0, .int .u32 0, .int .i64 0, .bool false, .int .u32 0, .int .u16 0] 30)) c4
              generalize bs'.getD 0 0 = v0 at *
              generalize bs'.getD 1 0 = v1 at *
              generalize bs'.getD 2 0 = v2 at *
              generalize bs'.getD 3 0 = v3 at *
              generalize bs'.getD 20 0 = v20 at *
              have q1 : ((v1 : Int) == 1) = (v1 == 1) := by rw [Bool.eq_iff_iff]; simp; omega
              have q4 : IntKind.u16.wrap ((v2 : Int) * 256) = ((v2 * 256 : Nat) : Int) := by rw [wrap_u16 (by omega) (by omega)]; omega
              have q5 : IntKind.u16.wrap (((v2 * 256 : Nat) : Int) + v3) = ((v2 * 256 + v3 : Nat) : Int) := by rw [wrap_u16 (by omega) (by omega)]; omega
              have q6 : IntKind.u16.wrap ((v2 : Int) * 256 + (v3 : Int)) = ((v2 * 256 + v3 : Nat) : Int) := by rw [wrap_u16 (by omega) (by omega)]; omega
              generalize (v1 == 1) = o1 at *
              go_region_held3 (fun w' => w'.cell? ⟨w.heap.size, 0, none⟩ = some (.slice (some ⟨b, off, none⟩) 48 cap') ∧ w'.cell? ⟨b, off, none⟩ = some (.int .u8 (v0 : Nat)) ∧ w'.cell? ⟨b, off + 1, none⟩ = some (.int .u8 (v1 : Nat)) ∧ w'.cell? ⟨b, off + 2, none⟩ = some (.int .u8 (v2 : Nat)) ∧ w'.cell? ⟨b, off + 3, none⟩ = some (.int .u8 (v3 : Nat)) ∧ w'.cell? ⟨b, off + 20, none⟩ = some (.int .u8 (v20 : Nat)))
                (first | exact ⟨c4, a0, a1, a2, a3, a20⟩ | exact ⟨held (below_new x4 _) c4, held (below_new x4 _) a0, held (below_new x4 _) a1, held (below_new x4 _) a2, held (below_new x4 _) a3, held (below_new x4 _) a20⟩ | go_keep)
                (first | (go_at_call 13; refine (n_all (p := w.heap.size) (b := b) (off := off) (cap := cap') (bs := bs') ?_ ?_ ?_).mono ?_; (· decide); (· first | exact hB | exact hE); (· first | exact c4 | exact cE); rintro e w' ⟨rfl, rfl⟩))
              all_goals
                go_wp2_with fail
                go_meet
                case rel =>
                  have hN := Blk.new x4 30 (rcells (v0 : Nat) (num4 bs' 4) (num4 bs' 8) (num4 bs' 12) (num4 bs' 16) (v20 : Nat) o1 (num4 bs' 24) (v2 * 256 + v3))
                  have H := next T4.out.2.1 (below_new x4 (.cells (rcells (v0 : Nat) (num4 bs' 4) (num4 bs' 8) (num4 bs' 12) (num4 bs' 16) (v20 : Nat) o1 (num4 bs' 24) (v2 * 256 + v3)) 30))
                  have hB6 := hB.held (below_new x4 (.cells (rcells (v0 : Nat) (num4 bs' 4) (num4 bs' 8) (num4 bs' 12) (num4 bs' 16) (v20 : Nat) o1 (num4 bs' 24) (v2 * 256 + v3)) 30))
                  have c6 := held (below_new x4 (.cells (rcells (v0 : Nat) (num4 bs' 4) (num4 bs' 8) (num4 bs' 12) (num4 bs' 16) (v20 : Nat) o1 (num4 bs' 24) (v2 * 256 + v3)) 30)) c4
                  exact ⟨_, rfl, hN, c6, hB6, ⟨H.os, H.tape, H.output, H.size, H.block⟩⟩
            case rest =>
              obtain ⟨q, rfl, hX, c5, hB5, hb5⟩ := hcut
              have hpx := T4.out.2.2.1
              have hpf : (⟨(bs'.getD 0 0 : Nat), num4 bs' 4, num4 bs' 8, num4 bs' 12, num4 bs' 16, (bs'.getD 20 0 : Nat), bs'.getD 1 0 == 1, num4 bs' 24, bs'.getD 2 0 * 256 + bs'.getD 3 0⟩ : Rc).Fits := hpx ▸ T4.out.2.2.2.1
              clear T4 a0 a1 a2 a3 a20 e0 e1 e2 e3 e20 c4
              generalize bs'.getD 0 0 = v0 at *
              generalize bs'.getD 20 0 = v20 at *
              generalize (bs'.getD 1 0 == 1) = o at *
              generalize bs'.getD 2 0 * 256 + bs'.getD 3 0 = m at *
              generalize num4 bs' 4 = g at *
              generalize num4 bs' 8 = l at *
              generalize num4 bs' 12 = i at *
              generalize num4 bs' 16 = a at *
              generalize num4 bs' 24 = s at *
              obtain ⟨-, -, hg, hl, hi, ha, -, -, hs, hm⟩ := hpf
              simp only at hg hl hi ha hs hm
              obtain ⟨d0, d1, d2, d3, d4, d5, d6, d7, d8⟩ := rec_cells hX
              have hl48 : bs'.length = 48 := hB5.1
              have hlt := hB5.2.2.1
              have X3 := Lib.hid (And.intro hX.drew (And.intro (show wc.drew.cell? _ = _ from c5) (And.intro (show BytesAt wc.drew _ _ _ from hB5) hb5.drew)))
              clear hX hB5 hb5
              cases hr : Rm.right ⟨v0, g, l, i, a, v20, o, s, m⟩
              · have R := Lib.hid hr
                clear hr hpx hlt
                go_wp2_with fail
                go_region_with (go_at_call 8; refine (rright_eq ha R.out _).mono ?_; rintro e y ⟨rfl, hb⟩; have Y := Lib.hid (next X3.out.2.2.2 hb); clear hb)
                all_goals
                  go_wp2_with fail
                  go_ret
                  exact ⟨rfl, Y.out⟩
              · have R := Lib.hid hr
                have hne := of_none_inv O.out hpx hl48 hr
                have hneq : (toU (Rm.bytes ⟨v0, g, l, i, a, v20, o, s, m⟩) == toU bs') = false := beq_eq_false_iff_ne.2 (fun h => hne (toU_inj (bytes_lt _) hlt h))
                clear hr hpx hne hlt
                go_wp2_with fail
                go_region_with (first
                  | (go_at_call 8; refine (rright_eq ha R.out _).mono ?_; rintro e y ⟨rfl, hb⟩; obtain ⟨e0, e1, e2, e3, e4, e5, e6, e7, e8⟩ := rec_cells (X3.out.1.held hb); have c6 := held hb X3.out.2.1; have cv5 := conv_str (cap := cap') (X3.out.2.2.1.held hb); have Y := Lib.hid (And.intro (X3.out.2.2.1.held hb) (And.intro (next X3.out.2.2.2 hb) c6)); clear hb)
                  | (go_at_call 10; refine (bytes_any v0 g l i a v20 o s m hg hl hi ha hs hm _).mono ?_; rintro e z ⟨b7, cap7, rfl, hO, -, hb7⟩; have cv7 := conv_str (cap := cap7) (show BytesAt z (some ⟨b7, 0, none⟩) 48 _ from hO.bytes (bytes_lt _) (by rw [bytes_length]; omega)); have cv8 := conv_str (cap := cap') (Y.out.1.held hb7); have c7 := held hb7 Y.out.2.2; have Z := Lib.hid (next Y.out.2.1 hb7); clear hb7 hO))
                all_goals
                  go_wp2_with fail
                  go_ret
                  exact ⟨rfl, Z.out⟩
          · rename_i r
            obtain ⟨hp, hr, hby⟩ := of_some_inv ho
            have hf : r.Fits := hp ▸ parse_fits V.out.2.1.2.2.1
            obtain ⟨k, g, l, i, a, n1, o, s, m⟩ := r
            obtain ⟨-, -, hg, hl, hi, ha, -, -, hs, hm⟩ := hf
            simp only at hg hl hi ha hs hm
            have R := Lib.hid (And.intro ho hr)
            clear ho hp hr
            go_wp2_with fail
            refine (of_ans' (x := ⟨k, g, l, i, a, n1, o, s, m⟩) (y := true) V.out.2.2.1.1 V.out.2.1 (by rw [R.out.1]; rfl) (by rw [R.out.1]; rfl)).mono ?_
            subst hby
            rintro e x2 ⟨rfl, hb⟩
            have hB2 := V.out.2.1.held hb
            have hb2 := next V.out.2.2.2.2 hb
            have c3 := held hb c2
            clear hb c2 V
            dsimp only
            go_wp2_with fail
            have hX := Blk.new x2 30 (rcells k g l i a n1 o s m)
            have hb3 := next hb2 (below_new x2 (.cells (rcells k g l i a n1 o s m) 30))
            have hB3 := hB2.held (below_new x2 (.cells (rcells k g l i a n1 o s m) 30))
            have c4 : (x2.alloc (.cells (rcells k g l i a n1 o s m) 30)).cell? ⟨w.heap.size, 0, none⟩ = some (.slice (some ⟨b, off, none⟩) 48 cap') := held (below_new _ _) c3
            clear hb2 hB2 c3
            generalize x2.alloc _ = x3 at *
            generalize x2.heap.size = b2 at *
            obtain ⟨d0, d1, d2, d3, d4, d5, d6, d7, d8⟩ := rec_cells hX
            have X3 := Lib.hid (And.intro hX.drew (And.intro (show x3.drew.cell? _ = _ from c4) (And.intro (show BytesAt x3.drew _ _ _ from hB3) hb3.drew)))
            clear hX hb3 hB3
            go_region_with (first
              | (go_at_call 8; refine (rright_eq ha R.out.2 _).mono ?_; rintro e y ⟨rfl, hb⟩; obtain ⟨e0, e1, e2, e3, e4, e5, e6, e7, e8⟩ := rec_cells (X3.out.1.held hb); have c5 := held hb X3.out.2.1; have cv5 := conv_str (cap := cap') (X3.out.2.2.1.held hb); have Y := Lib.hid (And.intro (X3.out.2.1) (And.intro (X3.out.2.2.1.held hb) (And.intro (next X3.out.2.2.2 hb) c5))); clear hb)
              | (go_at_call 10; refine (bytes_any k g l i a n1 o s m hg hl hi ha hs hm _).mono ?_; rintro e z ⟨b7, cap7, rfl, hO, -, hb7⟩; have cv7 := conv_str (cap := cap7) (show BytesAt z (some ⟨b7, 0, none⟩) 48 _ from hO.bytes (bytes_lt _) (by rw [bytes_length]; omega)); have cv8 := conv_str (cap := cap') (Y.out.2.1.held hb7); have c6 := held hb7 Y.out.2.2.2; have Z := Lib.hid (next Y.out.2.2.1 hb7); clear hb7 hO))
            all_goals
              go_wp2_with fail
              go_ret
              exact ⟨rfl, Z.out⟩
        · have d48 : ((n' : Int) == 48) = false := beq_eq_false_iff_ne.2 (by omega)
          have d49 : ((n' : Int) != 48) = true := by simp; omega
          have hn4 : n' ≤ 100 := V.out.2.2.1.2
          go_wp2_with fail
          refine (of_short A' n' cap' _ h48 V.out.2.1.2.1).mono ?_
          rintro e x2 ⟨rfl, hb⟩
          rw [show Rm.zero.val = .agg #[.int .i64 0, .int .u32 0, .int .u32 0, .int .u32 0, .int .u32 0, .int .i64 0, .bool false, .int .u32 0, .int .u16 0] from rfl]
          have c3 : x2.cell? ⟨w.heap.size, 0, none⟩ = some (.slice A' n' cap') := held hb c2
          have hlt : w.heap.size < x2.heap.size := cell_lt c3
          have T2 := Lib.hid (next V.out.2.2.2.2 hb)
          clear hb c2 h48
          go_wp2_with fail
          go_ret
          exact ⟨rfl, T2.out.alloc (Nat.le_of_lt hlt) _⟩
end Go.Proofs.Ytbjminjcccflcaa
