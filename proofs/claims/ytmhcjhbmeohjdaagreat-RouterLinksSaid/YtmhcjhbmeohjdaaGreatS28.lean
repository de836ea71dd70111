/-
  What all laws share: a call that answers true and turns nothing that was there leaves every argument readable as it was. No program's own text in sight.
  What comes in: a list of what is told, bytes.
  RouterPeriod: whatever number of ticks: a router that has a prefix of its own tells each number of its own for just twelve ticks, then the next one, and takes leases of eight at once. No condition.
  Package router's law: a list that a statement makes, sent as datagrams, and received one behind the other.
  RouterDeaf: of whom there is no link nothing is heard; what is told of its own, or as its own, is passed over.
  RouterDeaf: whatever is told, by whomever, to a router that owns the prefix or does not: of a neighbour to whom there is no link nothing is heard, and what is told of its own, or as its own, is passed over; the list reads as it did. No condition.
-/
import Derived.WalkKit
import Derived.ProofKit
import Derived.OpenShut
import Derived.Carry
import Derived.Test.YtmhcjhbmeohjdaaGreatRows
import Derived.Test.YtmhcjhbmeohjdaaGreatS20
import Derived.Deep.Slices
import Derived.Deep.Fields
import Derived.ChangeSame
import Derived.Lib.SmallJoins
import Derived.Test.YtmhcjhbmeohjdaaGreatS27
namespace Go.Proofs.YtmhcjhbmeohjdaaGreat
open Go.ChangeShapes Go.WideShapes Go.ChangeAt Go.RowKit

section
variable {H : Type} {enc : TypeId × Value → H} {P : Program}
/-- Arguments read in a later world as they did, if nothing that was there has turned. -/
theorem trodAll_keep (hl : laidOutB P = true) {W W' : World} (hb : Below W.heap.size W W') {sp : Nat → Bool} :
    ∀ {ts : List TypeId} {vs : List Value} {ds : List (DataW H)} {ps : List MemPlace}, (∀ t ∈ ts, P.readableRec t = true ∧ t < P.types.size) →
      DataW.TrodAll enc P W 0 (fun _ => true) true ts vs ds ps → (∀ x ∈ ps, x.block < W.heap.size) → (∀ x ∈ ps, sp x.block = true) → DataW.TrodAll enc P W' 0 sp true ts vs ds ps
  | [], vs, ds, ps, _, h, _, _ => by
    obtain ⟨rfl, rfl, rfl⟩ := trodAll_nil h
    exact trodAll_mk0
  | t :: ts, vs, ds, ps, hr, h, hlt, hs => by
    obtain ⟨v, vs', d, ds', p, q, rfl, rfl, rfl, h0, h1⟩ := trodAll_cons h
    have r := hr t (List.mem_cons_self ..)
    exact trodAll_cons_mk (WideElems.Trod_stays hl r.1 r.2 h0 (fun x hx => hb.same (hlt x (List.mem_append_left _ hx))) (fun x hx => hs x (List.mem_append_left _ hx)))
      (trodAll_keep hl hb (fun u hu => hr u (List.mem_cons_of_mem _ hu)) h1 (fun x hx => hlt x (List.mem_append_right _ hx)) (fun x hx => hs x (List.mem_append_right _ hx)))

/-- The row's end of a law: it answered true, and nothing that was there has turned. -/
theorem law_post {f : Func} {s : ChangeSpec} {tb : TypeId} (hl : laidOutB P = true) (hr : ∀ t ∈ f.params.toList, P.readableRec t = true ∧ t < P.types.size)
    (hres : f.resultTypes = #[tb]) (htb : P.underlying tb = some .bool) {W W' : World} {args : Array Value} {ds gs : List (DataW H)} {before : List MemPlace}
    (hvars : s.vars = []) (hfn : s.fn H ds = { results := [.lit (.bool true)], args := ds })
    (hW : DataW.Whole enc P f.params.toList s.vars false W args.toList ds gs before) (hb : Below W.heap.size W W') :
    s.post enc P f false true false false W args (.bool true) W' := by
  have hlt : ∀ p ∈ before, p.block < W.heap.size := fun p hp => hW.lt p hp
  have hW0 := hW
  obtain ⟨p, q, hA, hV, hpq, hz, _⟩ := hW
  rw [hvars] at hV
  obtain ⟨rfl, rfl⟩ := trodVars_none hV
  simp only [List.append_nil] at hpq
  subst hpq
  refine ⟨ds, [], before, [], before, [], hW0, ?_, ?_, ?_, World.keptBut_mono (fun x hx => ⟨hx, .inr (.inl hx)⟩) (hb.frame (· ∈ before)), fun h => by cases h⟩
  · rw [List.append_nil, hfn, hres]
    exact trodAll_mk1 (shut_bool htb _)
  · rw [List.append_nil, hfn]
    exact trodAll_keep hl hb hr hA hlt (fun x hx => by simpa using hlt x hx)
  · rw [List.append_nil, hfn, hvars]
    exact rfl
end
end Go.Proofs.YtmhcjhbmeohjdaaGreat

set_option maxRecDepth 20000
namespace Go.Proofs.YtmhcjhbmeohjdaaGreat.T
open Go.ChangeShapes Go.WideShapes Go.ChangeAt Go.RowKit Go.Joins Go.Deep Tm
set_option maxRecDepth 100000

theorem row_own : ownKnob Tryz.prog.godebug = none := by kernel_rfl
theorem row_laidOut : laidOutB Tryz.prog = true := by kernel_rfl
theorem cells_up : Tryz.prog.cellsOf 41 = 5 := by kernel_rfl
theorem cells_pre : Tryz.prog.cellsOf 36 = 2 := by kernel_rfl
theorem cells_u32 : Tryz.prog.cellsOf 22 = 1 := by kernel_rfl
theorem cells_int : Tryz.prog.cellsOf 3 = 1 := by kernel_rfl
theorem cells_dist : Tryz.prog.cellsOf 39 = 2 := by kernel_rfl
theorem cells_u16 : Tryz.prog.cellsOf 23 = 1 := by kernel_rfl
theorem cells_u8 : Tryz.prog.cellsOf 5 = 1 := by kernel_rfl
theorem row_i64 {z : Int} (h : (Lit.int .i64 z).wf = true) : -9223372036854775808 ≤ z ∧ z ≤ 9223372036854775807 := by
  have h1 : IntKind.i64.min = -9223372036854775808 := rfl
  have h2 : IntKind.i64.max = 9223372036854775807 := rfl
  simp only [Lit.wf, Bool.and_eq_true, decide_eq_true_eq] at h
  omega
theorem row_u16 {z : Int} (h : (Lit.int .u16 z).wf = true) : ∃ n : Nat, z = n ∧ n < 65536 := by
  have h1 : IntKind.u16.min = 0 := rfl
  have h2 : IntKind.u16.max = 65535 := rfl
  simp only [Lit.wf, Bool.and_eq_true, decide_eq_true_eq] at h
  exact ⟨z.toNat, by omega, by omega⟩
theorem row_u32 {z : Int} (h : (Lit.int .u32 z).wf = true) : ∃ n : Nat, z = n ∧ n < 4294967296 := by
  have h1 : IntKind.u32.min = 0 := rfl
  have h2 : IntKind.u32.max = 4294967295 := rfl
  simp only [Lit.wf, Bool.and_eq_true, decide_eq_true_eq] at h
  exact ⟨z.toNat, by omega, by omega⟩
theorem row_u8 {z : Int} (h : (Lit.int .u8 z).wf = true) : ∃ c : Nat, c < 256 ∧ z = c := by
  have h1 : IntKind.u8.min = 0 := rfl
  have h2 : IntKind.u8.max = 255 := rfl
  simp only [Lit.wf, Bool.and_eq_true, decide_eq_true_eq] at h
  exact ⟨z.toNat, by omega, by omega⟩
theorem list5 {α : Type} {l : List α} (h : l.length = 5) : ∃ a b c d e, l = [a, b, c, d, e] := by
  match l, h with
  | [a, b, c, d, e], _ => exact ⟨a, b, c, d, e, rfl⟩
theorem bytesAt_of {W : World} (a : Addr) (len cap : Nat) (zs : List Int) (hl : len ≤ cap) (hm : cap ≤ maxLen) (hz : zs.length = cap)
    (hcell : ∀ i, i < zs.length → W.cell? (a.add i) = some (.int .u8 (zs.getD i 0))) (hwz : ∀ n ∈ zs, (Lit.int .u8 n).wf = true) : BytesAt W (some a) len ((zs.take len).map Int.toNat) := by
  refine ⟨by simp; omega, by omega, fun c hc => ?_, fun k hk => ⟨a, rfl, ?_⟩⟩
  · obtain ⟨z, hz', rfl⟩ := List.mem_map.1 hc
    obtain ⟨d, hd, rfl⟩ := row_u8 (hwz z (List.mem_of_mem_take hz'))
    simpa using hd
  · have hkz : k < zs.length := by omega
    rw [hcell k hkz]
    obtain ⟨d, hd, e⟩ := row_u8 (hwz zs[k] (List.getElem_mem hkz))
    have e1 : zs.getD k 0 = zs[k] := by simp [List.getD, hkz]
    have e2 : ((zs.take len).map Int.toNat).getD k 0 = zs[k].toNat := by simp [List.getD, hk, hkz]
    rw [e1, e2, e]
    rfl

section
variable {H : Type} {enc : TypeId × Value → H} {w : World} {base : Nat} {spare : Nat → Bool} {hld : Bool}
theorem trod_pre {fuel : Nat} {c c' : Value} {y : DataW H × List MemPlace} (h : DataW.trod enc Tryz.prog w base spare hld fuel 36 [c, c'] = some y) :
    ∃ a n : Int, c = .int .u32 a ∧ c' = .int .i64 n ∧ (Lit.int .u32 a).wf = true ∧ (Lit.int .i64 n).wf = true := by
  cases fuel with
  | zero => simp [DataW.trod] at h
  | succ fuel =>
    simp only [DataW.trod, Tryz.underlying36, cells_pre] at h
    simp [cells_u32, cells_int, Option.bind_eq_some_iff] at h
    obtain ⟨_, _, h0, _, ⟨_, _, h1, _⟩, _⟩ := h
    obtain ⟨n0, e0, -, w0⟩ := DataW.trod_int Tryz.underlying22 h0
    obtain ⟨n1, e1, -, w1⟩ := DataW.trod_int Tryz.underlying3 h1
    simp only [List.cons.injEq, and_true] at e0 e1
    exact ⟨n0, n1, e0, e1, w0, w1⟩
theorem trod_dist {fuel : Nat} {c c' : Value} {y : DataW H × List MemPlace} (h : DataW.trod enc Tryz.prog w base spare hld fuel 39 [c, c'] = some y) :
    ∃ s m : Int, c = .int .u32 s ∧ c' = .int .u16 m ∧ (Lit.int .u32 s).wf = true ∧ (Lit.int .u16 m).wf = true := by
  cases fuel with
  | zero => simp [DataW.trod] at h
  | succ fuel =>
    simp only [DataW.trod, Tryz.underlying39, cells_dist] at h
    simp [cells_u32, cells_u16, Option.bind_eq_some_iff] at h
    obtain ⟨_, _, h0, _, ⟨_, _, h1, _⟩, _⟩ := h
    obtain ⟨n0, e0, -, w0⟩ := DataW.trod_int Tryz.underlying22 h0
    obtain ⟨n1, e1, -, w1⟩ := DataW.trod_int Tryz.underlying23 h1
    simp only [List.cons.injEq, and_true] at e0 e1
    exact ⟨n0, n1, e0, e1, w0, w1⟩
theorem trod_up {fuel : Nat} {cs : List Value} {y : DataW H × List MemPlace} (h : DataW.trod enc Tryz.prog w base spare hld fuel 41 cs = some y) :
    ∃ (a : Nat) (n : Int) (i s m : Nat), cs = (ucs a n i s m).toList ∧ (⟨a, n, i, s, m⟩ : Up).Fits := by
  cases fuel with
  | zero => simp [DataW.trod] at h
  | succ fuel =>
    simp only [DataW.trod, Tryz.underlying41, cells_up] at h
    split at h
    case isFalse => cases h
    rename_i hlen
    obtain ⟨c0, c1, c2, c3, c4, rfl⟩ := list5 hlen
    simp [cells_u32, cells_pre, cells_dist, Option.bind_eq_some_iff] at h
    obtain ⟨_, _, h0, _, ⟨_, _, h1, _, ⟨_, _, h2, _⟩, _⟩, _⟩ := h
    obtain ⟨n0, n1, e0, e1, w0, w1⟩ := trod_pre h0
    obtain ⟨n2, e2, -, w2⟩ := DataW.trod_int Tryz.underlying22 h1
    obtain ⟨n3, n4, e3, e4, w3, w4⟩ := trod_dist h2
    simp only [List.cons.injEq, and_true] at e2
    subst e0 e1 e2 e3 e4
    obtain ⟨a, rfl, ha⟩ := row_u32 w0
    obtain ⟨i, rfl, hi⟩ := row_u32 w2
    obtain ⟨s, rfl, hs⟩ := row_u32 w3
    obtain ⟨m, rfl, hm⟩ := row_u16 w4
    exact ⟨a, n1, i, s, m, rfl, ⟨ha, (row_i64 w1).1, (row_i64 w1).2, hi, hs, hm⟩⟩
/-- a list that comes in -/
structure Ulw (w : World) (A : Option Addr) (n cap : Nat) (us : List Up) : Prop where
  len : us.length = n
  max : n ≤ maxLen
  cap : n ≤ cap
  plain : 0 < n → ∃ b off, A = some ⟨b, off, none⟩
  cells : ∀ b off, A = some ⟨b, off, none⟩ → ∀ i (_ : i < us.length), ∀ j, j < 5 → w.cell? ⟨b, off + (5 * i + j), none⟩ = (us[i].cs)[j]?
  fits : ∀ u ∈ us, u.Fits
theorem Ulw.ul {A : Option Addr} {n cap : Nat} {us : List Up} (h : Ulw w A n cap us) (hn : n ≤ 100000) : Ul w A n cap us := ⟨h.len, hn, h.cap, h.plain, h.cells, h.fits⟩
theorem open_ups {fuel : Nat} {A : Option Addr} {len cap : Nat} {x : DataW H × List MemPlace} (h : DataW.trod enc Tryz.prog w base (fun _ => true) hld fuel 42 (Value.slice A len cap).cells.toList = some x) :
    ∃ us, Ulw w A len cap us := by
  rcases open_slice Tryz.underlying42 h with ⟨hcs, -⟩ | ⟨a, len', cap', m, n, D, Pl, hcs, _, hl, hm, hmm, -, hi⟩
  · simp [Value.cells] at hcs
    obtain ⟨rfl, rfl, rfl⟩ := hcs
    exact ⟨[], ⟨rfl, by unfold maxLen; omega, by omega, fun h => absurd h (by omega), (fun b off e => by cases e), by simp⟩⟩
  · simp [Value.cells] at hcs
    obtain ⟨rfl, rfl, rfl⟩ := hcs
    simp only [if_true] at hmm
    have hp : ∀ i : Nat, ∃ r : Up, i < m → r.Fits ∧ ∀ j, j < 5 → w.cell? (a.add (i * 5 + j)) = (r.cs)[j]? := fun i => by
      by_cases him : i < m
      · obtain ⟨cs', hc, ht⟩ := hi i him
        rw [cells_up] at hc
        obtain ⟨_, hcl, hat⟩ := World.cells?_some hc
        obtain ⟨ra, rn, i', s, mt, rfl, hfit⟩ := trod_up ht
        refine ⟨⟨ra, rn, i', s, mt⟩, fun _ => ⟨hfit, fun j hj => ?_⟩⟩
        have h1 := hat j (by simpa [ucs] using hj)
        rw [Deep.add_add] at h1
        rw [h1]
        simp [Up.cs]
      · exact ⟨⟨0, 0, 0, 0, 0⟩, fun h => absurd h him⟩
    obtain ⟨f, hf⟩ := Classical.axiomOfChoice hp
    refine ⟨(List.range len).map f, ⟨by simp, by omega, hl, fun h0 => ?_, fun b off e i hi' j hj => ?_, fun r hr => ?_⟩⟩
    · obtain ⟨b, off, spot⟩ := a
      have h1 := (hf 0 (by omega)).2 0 (by omega)
      have hspot : spot = none := by simpa [Addr.add] using World.cell?_spot (h1.trans rfl)
      exact ⟨b, off, by rw [hspot]⟩
    · cases e
      have hil : i < len := by simpa using hi'
      have h1 := (hf i (by omega)).2 j hj
      simp only [List.getElem_map, List.getElem_range]
      rw [← h1]
      rw [show (⟨b, off, none⟩ : Addr).add (i * 5 + j) = ⟨b, off + (5 * i + j), none⟩ by
        rw [show i * 5 + j = 5 * i + j by omega]
        generalize 5 * i + j = q
        by_cases hq : q = 0
        · subst hq; rfl
        · simp [Addr.add, hq]]
    · obtain ⟨i, hi', rfl⟩ := List.mem_map.1 hr
      exact (hf i (by have := List.mem_range.1 hi'; omega)).1
theorem open_sl {fuel : Nat} {A : Option Addr} {len cap : Nat} {x : DataW H × List MemPlace} (hf : DataW.trod enc Tryz.prog w base (fun _ => true) hld fuel 43 (Value.slice A len cap).cells.toList = some x) :
    ∃ bs, Sl w A len cap bs := by
  rcases open_ints Tryz.underlying43 Tryz.underlying5 cells_u8 hf with ⟨hcs, hx⟩ | ⟨a, len', cap', zs, hcs, _, hl, hm, hz, hx, hcell, hwz⟩
  · simp [Value.cells] at hcs
    obtain ⟨rfl, rfl, rfl⟩ := hcs
    exact ⟨[], ⟨rfl, by unfold maxLen; omega, by simp, fun k hk => absurd hk (by omega)⟩, by omega, fun h => absurd h (by omega)⟩
  · simp [Value.cells] at hcs
    obtain ⟨rfl, rfl, rfl⟩ := hcs
    simp only [if_true] at hz
    refine ⟨_, bytesAt_of a len cap zs hl hm hz hcell hwz, hl, fun h0 => ?_⟩
    obtain ⟨b, off, spot⟩ := a
    have h1 := hcell 0 (by omega)
    have hspot : spot = none := by simpa [Addr.add] using World.cell?_spot h1
    exact ⟨b, off, by rw [hspot]⟩
end
end Go.Proofs.YtmhcjhbmeohjdaaGreat.T

namespace Go.Proofs.YtmhcjhbmeohjdaaGreat
open Go.ChangeShapes Go.WideShapes Go.ChangeAt Go.RowKit Go.Joins T

set_option maxRecDepth 100000 in
theorem period_lifted (os : Os) (started : os.Started) (H : Type) (enc : TypeId × Value → H) :
    ReturnsInHanded {} Tryz.checked os 4 .any (Rows.routerPeriodSpec.pre6 enc Tryz.prog Tryz.f4 Rows.routerPeriodRow.domain false) (Rows.routerPeriodSpec.post enc Tryz.prog Tryz.f4 false true false false) := by
  refine returnsInHanded_of_change (C := Tryz.checked) row_own started (by kernel_rfl) Tryz.func4
    (ChangeSpec.witness6 (enc := enc) (C := Tryz.checked) false ⟨#[], #[.int .i64 0], []⟩ 8 (by kernel_rfl) (by kernel_rfl) (by kernel_rfl) (by kernel_rfl)) ?_
  intro W base args ds gs before hval0 hW hcnd _
  have hval : ∀ (j : Nat) t v, Tryz.f4.params[j]? = some t → args[j]? = some v → Value.okWide Tryz.prog W .any base t v := hval0
  obtain ⟨p, q, hA0, hV, rfl, hfz, hnd⟩ := id hW
  have hA : DataW.TrodAll enc Tryz.prog W 0 (fun _ => true) true Tryz.f4.params.toList args.toList ds p := hA0
  rw [Tryz.params4] at hA hval
  obtain ⟨v0, vs0, d0, ds0, p0, q0, hargs, rfl, rfl, h0, r0⟩ := trodAll_cons hA
  obtain ⟨rfl, rfl, rfl⟩ := trodAll_nil r0
  obtain rfl : args = #[v0] := by cases args; simp_all
  obtain ⟨a, rfl, -, -, -⟩ := open_int Tryz.underlying3 (hval 0 3 v0 rfl rfl) h0
  refine (period_walk a W).mono fun e W' ⟨he, hb⟩ => ?_
  subst he
  exact ⟨_, rfl, law_post row_laidOut (by rw [Tryz.params4]; decide +kernel) rfl Tryz.underlying4 rfl rfl hW hb⟩

theorem routerPeriod_holds : Rows.RouterPeriodSaid :=
  OpenClaim.holds_of_wide 4 Tryz.f4 rfl rfl rfl rfl rfl rfl rfl ⟨rfl, rfl, rfl, rfl, rfl⟩ rfl rfl rfl rfl rfl (by kernel_rfl) Tryz.func4 (by kernel_rfl)
    (of_decide_eq_true (by kernel_rfl)) (by unfold Func.isWrapper; first | (rw [if_pos (by decide +kernel)]; kernel_rfl) | (rw [if_neg (by decide +kernel)]; exact ⟨rfl, rfl⟩))
    (fun os started H enc _ => period_lifted os started H enc)
#print axioms routerPeriod_holds
end Go.Proofs.YtmhcjhbmeohjdaaGreat

namespace Go.Proofs.YtmhcjhbmeohjdaaGreat
open Go.RowKit Go.Maps Rm Fm Sb

theorem elemU : Elem Tryz.prog 42 41 T.ucl 5 32 := ⟨by kernel_rfl, elem_info (z := .agg #[.int .u32 0, .int .i64 0, .int .u32 0, .int .u32 0, .int .u16 0]) (by kernel_rfl) rfl, by omega, T.ucl_length, fun x v hv => T.ucl_one [x] v (by simpa using hv), by omega⟩
theorem Ol.ul {B : Nat} {v : Value} {us : List T.Tm.Up} {w : World} (h : Ol 41 T.ucl 5 B v us w) (hf : ∀ u ∈ us, u.Fits) (hm : us.length ≤ 100000) : ∃ A cap, v = .slice A us.length cap ∧ T.Ul w A us.length cap us := by
  rcases h.2 with ⟨rfl, h0⟩ | ⟨g, cap, cur, rfl, h4, h5, h6, h7, h8, h9⟩
  · rw [h0]
    exact ⟨none, 0, rfl, h0, by omega, by omega, fun h => by omega, fun _ _ e => (by cases e), hf⟩
  · refine ⟨some ⟨g, 0, none⟩, cap, rfl, rfl, hm, h6, fun _ => ⟨_, _, rfl⟩, fun b off e i hi j hj => ?_, hf⟩
    cases e
    have h5' : Blk 41 w g cur := h5
    have e2 := cl_flat_get T.ucl_length us i hi j hj
    rw [Nat.zero_add, h5'.at_, show 5 * i + j = i * 5 + j by omega]
    rw [← h9, List.getElem?_take, if_pos (by omega)] at e2
    have e3 : (T.ucl us[i])[j]? = (us[i].cs)[j]? := by unfold T.ucl; simp
    rw [← e3, ← e2]
    simp
theorem Las_turn {B : Nat} {v : Value} {rows : List (List Nat)} {W W' : World} {L : List Nat} (h : T.Las B v rows W) (t : Turn L W W') (hL : ∀ y, y ∈ L → y < B) : T.Las B v rows W' := by
  obtain ⟨g, cap, h⟩ := h
  refine ⟨g, cap, h.of_block (fun b e => ?_) (fun i hi => ?_)⟩
  · have hb : b < W.heap.size ∧ B ≤ b := by
      rcases h.own.2 with ⟨rfl, _⟩ | ⟨gb, cp, cur, rfl, h4, h5, _⟩
      · cases e
      · cases e
        exact ⟨(Array.getElem?_eq_some_iff.1 h5).1, h4⟩
    exact t.block b hb.1 (fun hm => by have := hL b hm; omega)
  · exact t.block _ (h.ob i hi).lt (fun hm => by have := hL _ hm; have := h.ge i hi; omega)
/-- a datagram of a list: what it tells -/
theorem page_tells {l : List T.Tm.Up} (hf : ∀ u ∈ l, u.Fits) {i : Nat} (hi : i < (T.Tm.encode l).length) : ∃ us, T.Tm.decode (T.Tm.encode l)[i] = some us ∧ us.length ≤ l.length ∧ ∀ u ∈ us, u ∈ l ∧ T.Tm.right u = true := by
  obtain ⟨L, h1, h2⟩ := T.Tm.encode_back l hf
  have hl : L.length = (T.Tm.encode l).length := by
    have := congrArg List.length h1
    simpa using this.symm
  have hiL : i < L.length := by omega
  have e : (T.Tm.encode l).map T.Tm.decode = L.map some := h1
  have e2 : ((T.Tm.encode l).map T.Tm.decode)[i]? = (L.map some)[i]? := by rw [e]
  rw [List.getElem?_map, List.getElem?_map, List.getElem?_eq_getElem hi, List.getElem?_eq_getElem hiL] at e2
  simp only [Option.map_some, Option.some.injEq] at e2
  have hmem : L[i] ∈ L := List.getElem_mem hiL
  have hsub : ∀ u ∈ L[i], u ∈ l.filter (fun u => T.Tm.right u) := fun u hu => by
    rw [← h2]
    exact List.mem_flatten.2 ⟨_, hmem, hu⟩
  refine ⟨L[i], e2, ?_, fun u hu => ?_⟩
  · have h3 : L[i].length ≤ L.flatten.length := (List.sublist_flatten_of_mem hmem).length_le
    have h4 : (l.filter (fun u => T.Tm.right u)).length ≤ l.length := List.length_filter_le _ _
    rw [h2] at h3
    omega
  · have := List.mem_filter.1 (hsub u hu)
    exact ⟨this.1, by simpa using this.2⟩
/-- behind so many datagrams of a list, of a router that has turned none of what it knows, or just so -/
structure Rcv (F : List Nat) (w7 : World) (R room sp : Nat) (M : Mr) (wr : World) : Prop where
  ex : ∃ F', Rz F' wr R room sp M ∧ Turn F w7 wr ∧ ∀ y, y ∈ F' → y ∈ F ∨ w7.heap.size ≤ y
theorem rcv_receive {F : List Nat} {w7 wr : World} {R room sp : Nat} {M : Mr} (h : Rcv F w7 R room (sp + 1000) M wr) {A : Option Addr} {n cap : Nat} {bs : List Nat} (hs : T.Sl wr A n cap bs) {us : List T.Tm.Up} (hd : T.Tm.decode bs = some us) (hl : us.length ≤ 1000) (z : Int) :
    Calls Tryz.prog 13 #[.pointer (some ⟨R, 0, none⟩), .int .i64 z, .slice A n cap] wr fun e w' => e = .returned (.tuple #[]) ∧ Rcv F w7 R room sp (M.receive z bs) w' := by
  obtain ⟨F', hz, hT, hn⟩ := h.ex
  refine (rz_receive (fun us' e => by rw [hd] at e; cases e; exact hl) hz hs z).mono ?_
  rintro e w' ⟨rfl, F2, hz2, t2, n2⟩
  exact ⟨rfl, F2, hz2, hT.beyond t2 hn, fun y hy => (n2 y hy).elim (hn y) (fun h => .inr (Nat.le_trans hT.size h))⟩
theorem Rl.rcv {w0 w w7 : World} {R room sp : Nat} {M : Mr} (h : Rl w0 w R room sp M) (hb : Below w.heap.size w w7) : ∃ F, Rcv F w7 R room sp M w7 ∧ (∀ y, y ∈ F → w0.heap.size ≤ y ∧ y < w.heap.size) ∧ Below w0.heap.size w0 w7 := by
  obtain ⟨F, hz, hF, hB⟩ := h.ex
  exact ⟨F, ⟨F, hz.held hb, .refl _ _, fun _ h => .inl h⟩, fun y hy => ⟨hF y hy, hz.lt hy⟩, hB.trans (hb.mono hB.size)⟩
theorem Rcv.rl {F : List Nat} {w0 w7 wr : World} {R room sp : Nat} {M : Mr} (h : Rcv F w7 R room sp M wr) (hF : ∀ y, y ∈ F → w0.heap.size ≤ y) (hB : Below w0.heap.size w0 w7) : Rl w0 wr R room sp M := by
  obtain ⟨F', hz, hT, hn⟩ := h.ex
  exact ⟨F', hz, fun y hy => (hn y hy).elim (hF y) (fun h => Nat.le_trans hB.size h), hB.trans (hT.below hF hB.size)⟩
/-- nothing of a list is taken: no datagram turns anything -/
theorem hears_same {M : Mr} {fr : Nat} : ∀ {us : List T.Tm.Up} (_ : ∀ u ∈ us, M.hear fr u.a u.len u.id u.seq u.met = M), M.hears fr us = M
  | [], _ => rfl
  | u :: r, h => by
    unfold Mr.hears
    rw [List.foldl_cons, h u (List.mem_cons_self)]
    exact hears_same fun u hu => h u (List.mem_cons_of_mem _ hu)
/-- one entry -/
theorem lf_one {B : Nat} {v : Value} {e : Fe} {w : World} (h : Lf B v [e] w) : ∃ g cp, v = .slice (some ⟨g, 0, none⟩) 1 cp ∧ w.cell? ⟨g, 0, none⟩ = some (.int .u32 e.a) ∧ w.cell? ⟨g, 1, none⟩ = some (.int .i64 e.n) ∧ w.cell? ⟨g, 2, none⟩ = some (.int .i64 e.how) ∧ w.cell? ⟨g, 3, none⟩ = some (.int .i64 e.nx) := by
  have hO : Ol 54 fcl 4 B v [e] w := h.1
  obtain ⟨g, cp, rfl, -, -, hc⟩ := hO.at_ fcl_length (i := 0) (by simp)
  have c0 := hc 0 (by omega)
  have c1 := hc 1 (by omega)
  have c2 := hc 2 (by omega)
  have c3 := hc 3 (by omega)
  simp only [List.getElem_cons_zero, Nat.zero_mul, Nat.zero_add] at c0 c1 c2 c3
  exact ⟨g, cp, rfl, c0, c1, c2, c3⟩
end Go.Proofs.YtmhcjhbmeohjdaaGreat

namespace Go.Proofs.YtmhcjhbmeohjdaaGreat
open Go.RowKit Go.Maps Rm Fm Sb
attribute [local go_sem] Oper.semAt_some

def dC : Nat → Int := fun i => if i = 1 then 4 else 0
/-- the router: with the prefix of its own, or without -/
def dM (own : Bool) : Mr := if own = true then Mown 7 dC 0 0 0 0 else Mnone 7 dC (fun _ => none) 0
/-- what the statement makes of a thing told -/
def dU (fr own : Bool) (u : T.Tm.Up) : T.Tm.Up := if (fr && own) = true then { u with a := 167772160, len := 8 } else if fr = true ∧ u.met < 65535 then { u with id := 7 } else u
theorem dU_fits {fr own : Bool} {u : T.Tm.Up} (h : u.Fits) : (dU fr own u).Fits := by
  unfold dU
  split
  · exact ⟨by show 167772160 < 4294967296; decide, by show (-9223372036854775808 : Int) ≤ 8; decide, by show (8 : Int) ≤ 9223372036854775807; decide, h.id, h.seq, h.met⟩
  · split
    · exact ⟨h.a, h.n1, h.n2, by show 7 < 4294967296; decide, h.seq, h.met⟩
    · exact h
theorem deaf_hear {own : Bool} {u : T.Tm.Up} (h : u.Fits) : (dM own).hear 1 (dU true own u).a (dU true own u).len (dU true own u).id (dU true own u).seq (dU true own u).met = dM own := by
  cases own with
  | true =>
    unfold Mr.hear
    rw [if_pos]
    exact .inl Mown.owns_ten
  | false =>
    unfold Mr.hear
    by_cases hm : u.met < 65535
    · rw [if_pos]
      refine .inr ?_
      unfold dU
      rw [if_neg (by decide), if_pos ⟨rfl, hm⟩]
      rfl
    · have e : dU true false u = u := by unfold dU; rw [if_neg (by decide), if_neg (fun h => hm h.2)]
      rw [e]
      split
      · rfl
      · rw [if_pos (by have := h.met; omega)]
        show ({ dM false with f := cutR (fun _ => none) _ } : Mr) = dM false
        rw [cutR_none]
        rfl
theorem deaf_receive {own : Bool} {us l : List T.Tm.Up} (hl : ∀ u ∈ l, u.Fits) {from_ : Int} {bs : List Nat} (hd : T.Tm.decode bs = some us) (hus : ∀ u ∈ us, u ∈ l.map (dU (from_ == 1) own)) : (dM own).receive from_ bs = dM own := by
  unfold Mr.receive
  have hc : (dM own).c = dC := by unfold dM; cases own <;> rfl
  by_cases hf : from_ = 1
  · subst hf
    split
    · rfl
    · rw [hd]
      refine hears_same (fr := 1) fun u hu => ?_
      obtain ⟨u0, h0, rfl⟩ := List.mem_map.1 (hus u hu)
      exact deaf_hear (hl u0 h0)
  · rw [if_pos]
    rw [hc]
    unfold cAt dC
    split
    · rfl
    · rw [if_neg (by omega)]
theorem deaf_few {own : Bool} : Few (dM own) 1 0 := by
  cases own with
  | true => exact Mown.few
  | false =>
    obtain ⟨ps, ks, ws, h1, h2, h⟩ := (Mnone.few (id := 7) (c := dC) (now := 0)).ex
    exact ⟨ps, ks, ws, by omega, h2, h⟩

set_option maxRecDepth 100000 in
set_option maxHeartbeats 8000000 in
theorem deaf_walk (A : Option Addr) (len cap : Nat) (us : List T.Tm.Up) (from_ : Int) (own : Bool) (w : World) (hU : T.Ulw w A len cap us) :
    Calls Tryz.prog 5 #[.slice A len cap, .int .i64 from_, .bool own] w fun e w' => e = .returned (.bool true) ∧ Below w.heap.size w w' := by
  have hlen := hU.max
  unfold maxLen at hlen
  by_cases hbig : 20 < len
  · have d20 : decide ((20 : Int) < (len : Int)) = true := decide_eq_true (by omega)
    clear hU
    go_enter Tryz.func5, Tryz.ntmps5
    go_wp2_with (go_at_call 7; refine (router_head w).mono ?_; rintro e w1 ⟨rfl, hb1⟩)
    go_ret
    exact ⟨rfl, hb1⟩
  · have d20 : decide ((20 : Int) < (len : Int)) = false := decide_eq_false (by omega)
    have HU := Lib.hid hU
    clear hU
    go_enter Tryz.func5, Tryz.ntmps5
    go_upto_region 5 with (go_at_call 7; refine (router_head w).mono ?_; rintro e w1 ⟨rfl, hb1⟩)
    have HD := disk_new (n := 64) (by omega) (by omega) (z := 64) rfl w1
    have hs1 := hb1.size
    go_upto_region 8 with (first | (go_at_call 9; refine HD.mono ?_; rintro e w2 ⟨rfl, hD1, hb2⟩; have HN := rl_new (w0 := w) (hb1.trans (hb2.mono hs1)) ⟨by omega, by omega, by omega⟩ hD1 (id := 7) (by omega) (by omega) (by omega) (by omega) (z := 7) rfl; clear HD hD1 hb2) | (go_at_call 8; refine HN.mono ?_; rintro e w3 ⟨R, rfl, h2⟩; clear HN) | fail)
    rw [mr0_none] at h2
    have HL := rl_link h2 (k := 1) (by omega) (c := 4) (by omega) (by omega) (z := 1) rfl
    rw [link_none] at HL
    clear h2 hb1 hs1
    go_upto_region 9 with (go_at_call 10; refine HL.mono ?_; rintro e w4 ⟨rfl, h4⟩; clear HL)
    go_cut [35] from 29 (fun s u => s = .bool false ∧ Hid (Rl w u R 30 90000 (dM own)))
    case first =>
      have X := Lib.hid h4
      clear h4
      cases own with
      | true =>
        go_wp2_with (first | (go_at_call 12; refine (ten_any _).mono ?_; rintro e w5 ⟨rfl, hb5⟩; have HO := rl_own (room := 30) (X.out.held hb5) ⟨_, _, _, rfl⟩; clear hb5) | (go_at_call 17; refine HO.mono ?_; rintro e w6 ⟨rfl, h6⟩; clear HO; have X6 := Lib.hid h6; clear h6) | fail)
        go_meet
        case rel => exact ⟨rfl, X6.out⟩
      | false =>
        go_wp2_with fail
        go_meet
        case rel =>
          obtain ⟨F, hz, hF, hB⟩ := X.out.ex
          exact ⟨rfl, ⟨F, hz.fewer (by omega), hF, hB⟩⟩
    case rest =>
      obtain ⟨rfl, h5⟩ := hcut
      clear h4
      have hUc := (HU.out.ul (by omega)).held h5.out.below
      have hlu := hUc.len
      obtain ⟨q1, hq1⟩ : ∃ q, (from_ == 1) = q := ⟨_, rfl⟩
      obtain ⟨own0, hown⟩ : ∃ q, own = q := ⟨_, rfl⟩
      have HQ := Lib.hid (And.intro hq1 hown)
      rw [hown]
      have V := Lib.hid (And.intro hUc h5.out)
      clear hUc h5 hown HU
      generalize wc = wC at *
      have S0 := Lib.hid (show Ol 41 T.ucl 5 wC.heap.size (.slice (some ⟨wC.heap.size, 0, none⟩) 0 0) ((us.take 0).map (dU q1 own0)) (wC.alloc (.cells #[] 41)) ∧ Below wC.heap.size wC (wC.alloc (.cells #[] 41)) from ⟨Ol.empty wC (Nat.le_refl _), below_new _ _⟩)
      go_wp2_with fail
      go_loopw [9, 39] (fun v i wr => ∃ k : Nat, i = .int .i64 k ∧ k ≤ len ∧ Hid (Ol 41 T.ucl 5 wC.heap.size v ((us.take k).map (dU q1 own0)) wr ∧ Below wC.heap.size wC wr)) (fun _ i _ => len - (intOf i).toNat)
      case atStart => exact ⟨0, rfl, Nat.zero_le _, S0.out⟩
      case round =>
        clear S0
        obtain ⟨k, rfl, hk, S⟩ := hrel
        by_cases hkl : k < len
        · have hkz : (k : Int) < (len : Int) := by omega
          have hk2 : k < us.length := by omega
          have hUr := V.out.1.held S.out.2
          obtain ⟨ab, ao, rfl⟩ := hUr.plain (by omega)
          obtain ⟨⟨ua, ul, ui, xs, xm⟩, hue⟩ : ∃ u, us[k] = u := ⟨_, rfl⟩
          obtain ⟨c0, c1, c2, c3, c4⟩ := hUr.at_ hk2 hue
          obtain ⟨p0, cc, rfl, -⟩ := S.out.1.form
          have hlk : ((us.take k).map (dU q1 own0)).length = k := by rw [List.length_map, List.length_take]; omega
          have hb1 := below_new wr (.cells #[.int .u32 ua, .int .i64 ul, .int .u32 ui, .int .u32 xs, .int .u16 xm] 41)
          have EB := Blk.new wr 41 #[.int .u32 ua, .int .i64 ul, .int .u32 ui, .int .u32 xs, .int .u16 xm]
          have hO1 := S.out.1.held hb1
          have hB1 := S.out.2.trans (hb1.mono S.out.2.size)
          have hEge : wC.heap.size ≤ wr.heap.size := S.out.2.size
          have hEown : ∀ b, (Value.slice p0 ((us.take k).map (dU q1 own0)).length cc).ownBlock = some b → b ≠ wr.heap.size := fun b e => by have := (S.out.1.lt e).1; omega
          rw [hlk] at hO1 hEown
          rw [hlk]
          clear hUr S hlk hb1
          go_upto_region 15 with fail
          generalize wr.alloc (.cells #[.int .u32 ua, .int .i64 ul, .int .u32 ui, .int .u32 xs, .int .u16 xm] 41) = w2 at *
          generalize wr.heap.size = Eb at *
          clear c0 c1 c2 c3 c4
          by_cases hway : q1 = true ∧ own0 = true
          · obtain ⟨rfl, rfl⟩ := hway
            have hdU : dU true true ⟨ua, ul, ui, xs, xm⟩ = ⟨167772160, 8, ui, xs, xm⟩ := by unfold dU; rw [if_pos (by decide)]
            have Z := Lib.hid (And.intro hO1 (And.intro hB1 (And.intro hue hdU)))
            have EBH := Lib.hid EB
            clear hO1 hB1 hue hdU EB
            go_upto_region 19 with (go_at_call 12; refine (ten_any w2).mono ?_; rintro e w3 ⟨rfl, hb3⟩; have z0 := (EBH.out.held hb3).at_ 0; have z1 := (EBH.out.held hb3).at_ 1; have y0 := (EBH.out.held hb3).free 0; have y1 := (EBH.out.held hb3).free 1)
            have E3 : Blk 41 ((w3.setCell ⟨Eb, 0, none⟩ (.int .u32 167772160)).setCell ⟨Eb, 1, none⟩ (.int .i64 8)) Eb #[.int .u32 167772160, .int .i64 8, .int .u32 ui, .int .u32 xs, .int .u16 xm] := ((EBH.out.held hb3).store 0 (.int .u32 167772160)).store 1 (.int .i64 8)
            have T3 : Turn [Eb] w3 ((w3.setCell ⟨Eb, 0, none⟩ (.int .u32 167772160)).setCell ⟨Eb, 1, none⟩ (.int .i64 8)) := (Turn.setCell _ (by simp) _).trans (Turn.setCell _ (by simp) _)
            clear z0 z1 y0 y1
            have hne : ∀ b, (Value.slice p0 k cc).ownBlock = some b → b ∉ [Eb] := fun b e hm => by
              simp at hm
              subst hm
              exact hEown _ e rfl
            have Z2 := Lib.hid (show Ol 41 T.ucl 5 wC.heap.size (.slice p0 k cc) ((us.take k).map (dU true true)) ((w3.setCell ⟨Eb, 0, none⟩ (.int .u32 167772160)).setCell ⟨Eb, 1, none⟩ (.int .i64 8)) ∧ Below wC.heap.size wC ((w3.setCell ⟨Eb, 0, none⟩ (.int .u32 167772160)).setCell ⟨Eb, 1, none⟩ (.int .i64 8)) ∧ us[k] = ⟨ua, ul, ui, xs, xm⟩ ∧ dU true true ⟨ua, ul, ui, xs, xm⟩ = ⟨167772160, 8, ui, xs, xm⟩ from ⟨(Z.out.1.held hb3).turn T3 hne, (Z.out.2.1.trans (hb3.mono Z.out.2.1.size)).trans (T3.below (fun i hi => by simp at hi; omega) (Nat.le_trans Z.out.2.1.size hb3.size)), Z.out.2.2.1, Z.out.2.2.2⟩)
            clear Z EBH hb3 T3 hne
            have Z := Z2; clear Z2
            generalize (w3.setCell ⟨Eb, 0, none⟩ (.int .u32 167772160)).setCell ⟨Eb, 1, none⟩ (.int .i64 8) = w4 at *
            have e0 := E3.at_ 0
            have e1 := E3.at_ 1
            have e2 := E3.at_ 2
            have e3 := E3.at_ 3
            have e4 := E3.at_ 4
            clear E3
            have hO2 := Z.out.1.held (Below.refl w4.heap.size w4)
            obtain ⟨g', cap2, W6, hrun, hO6, hT6, hg6⟩ := hO2.push1 elemU (Nat.le_trans Z.out.2.1.size ((Below.refl w4.heap.size w4)).size) ⟨167772160, 8, ui, xs, xm⟩ (by rw [List.length_map, List.length_take]; omega) 42
            have hBw := own_below hO2 (Z.out.2.1.trans (((Below.refl w4.heap.size w4)).mono Z.out.2.1.size)) (Nat.le_trans Z.out.2.1.size ((Below.refl w4.heap.size w4)).size) hT6
            have hlk : ((us.take k).map (dU true true)).length = k := by rw [List.length_map, List.length_take]; omega
            rw [hlk] at hrun hO6
            obtain ⟨L1, hL1⟩ : ∃ L1, k + 1 = L1 := ⟨_, rfl⟩
            rw [hL1] at hrun hO6
            replace hrun : (Builtin.append_ #[42, 42] 42 #[.slice p0 k cc, .slice (some ⟨(w4).heap.size, 0, none⟩) 1 1]).run Tryz.prog ((w4).alloc (.cells #[.int .u32 167772160, .int .i64 8, .int .u32 ui, .int .u32 xs, .int .u16 xm] 41)) = .ok (.slice (some ⟨g', 0, none⟩) L1 cap2) W6 := hrun
            have S2 := Lib.hid (show Ol 41 T.ucl 5 wC.heap.size (.slice (some ⟨g', 0, none⟩) L1 cap2) ((us.take (k + 1)).map (dU true true)) W6 ∧ Below wC.heap.size wC W6 from ⟨by
              rw [List.take_add_one, List.map_append, List.getElem?_eq_getElem hk2]
              simp only [Option.toList_some, List.map_cons, List.map_nil]
              rw [Z.out.2.2.1, Z.out.2.2.2]
              exact hO6, hBw⟩)
            clear hO2 hO6 hT6 hg6 hBw Z hlk hL1
            go_wp2_with (first | (at_builtin; refine Lib.wpList_append_run _ rfl (.tmp 59) (.tmp 61) 42 42 rfl _ _ rfl rfl _ _ hrun ?_) | fail)
            go_roundw
            case rel => exact ⟨k + 1, by go_num, by omega, S2⟩
            case measure => simp [intOf]; omega
          · have hpick : (q1 && own0) = false := by cases q1 <;> cases own0 <;> simp_all
            by_cases hmet : q1 = true ∧ xm < 65535
            · obtain ⟨rfl, hm⟩ := hmet
              obtain rfl : own0 = false := by simpa using hpick
              have dm : decide ((xm : Int) < 65535) = true := decide_eq_true (by omega)
              have hdU : dU true false ⟨ua, ul, ui, xs, xm⟩ = ⟨ua, ul, 7, xs, xm⟩ := by unfold dU; rw [if_neg (by decide), if_pos ⟨rfl, hm⟩]
              have Z := Lib.hid (And.intro hO1 (And.intro hB1 (And.intro hue hdU)))
              have z4 := EB.at_ 4
              have z2 := EB.at_ 2
              have y2 := EB.free 2
              have EBH := Lib.hid EB
              clear hO1 hB1 hue hdU EB hway hpick
              go_upto_region 19 with fail
              have E3 : Blk 41 (w2.setCell ⟨Eb, 2, none⟩ (.int .u32 7)) Eb #[.int .u32 ua, .int .i64 ul, .int .u32 7, .int .u32 xs, .int .u16 xm] := EBH.out.store 2 (.int .u32 7)
              have T3 : Turn [Eb] w2 (w2.setCell ⟨Eb, 2, none⟩ (.int .u32 7)) := Turn.setCell _ (by simp) _
              clear z4 z2 y2
              have hne : ∀ b, (Value.slice p0 k cc).ownBlock = some b → b ∉ [Eb] := fun b e hm => by
                simp at hm
                subst hm
                exact hEown _ e rfl
              have Z2 := Lib.hid (show Ol 41 T.ucl 5 wC.heap.size (.slice p0 k cc) ((us.take k).map (dU true false)) (w2.setCell ⟨Eb, 2, none⟩ (.int .u32 7)) ∧ Below wC.heap.size wC (w2.setCell ⟨Eb, 2, none⟩ (.int .u32 7)) ∧ us[k] = ⟨ua, ul, ui, xs, xm⟩ ∧ dU true false ⟨ua, ul, ui, xs, xm⟩ = ⟨ua, ul, 7, xs, xm⟩ from ⟨Z.out.1.turn T3 hne, Z.out.2.1.trans (T3.below (fun i hi => by simp at hi; omega) Z.out.2.1.size), Z.out.2.2.1, Z.out.2.2.2⟩)
              clear Z EBH T3 hne
              have Z := Z2; clear Z2
              generalize w2.setCell ⟨Eb, 2, none⟩ (.int .u32 7) = w4 at *
              have e0 := E3.at_ 0
              have e1 := E3.at_ 1
              have e2 := E3.at_ 2
              have e3 := E3.at_ 3
              have e4 := E3.at_ 4
              clear E3
              have hO2 := Z.out.1.held (Below.refl w4.heap.size w4)
              obtain ⟨g', cap2, W6, hrun, hO6, hT6, hg6⟩ := hO2.push1 elemU (Nat.le_trans Z.out.2.1.size ((Below.refl w4.heap.size w4)).size) ⟨ua, ul, 7, xs, xm⟩ (by rw [List.length_map, List.length_take]; omega) 42
              have hBw := own_below hO2 (Z.out.2.1.trans (((Below.refl w4.heap.size w4)).mono Z.out.2.1.size)) (Nat.le_trans Z.out.2.1.size ((Below.refl w4.heap.size w4)).size) hT6
              have hlk : ((us.take k).map (dU true false)).length = k := by rw [List.length_map, List.length_take]; omega
              rw [hlk] at hrun hO6
              obtain ⟨L1, hL1⟩ : ∃ L1, k + 1 = L1 := ⟨_, rfl⟩
              rw [hL1] at hrun hO6
              replace hrun : (Builtin.append_ #[42, 42] 42 #[.slice p0 k cc, .slice (some ⟨(w4).heap.size, 0, none⟩) 1 1]).run Tryz.prog ((w4).alloc (.cells #[.int .u32 ua, .int .i64 ul, .int .u32 7, .int .u32 xs, .int .u16 xm] 41)) = .ok (.slice (some ⟨g', 0, none⟩) L1 cap2) W6 := hrun
              have S2 := Lib.hid (show Ol 41 T.ucl 5 wC.heap.size (.slice (some ⟨g', 0, none⟩) L1 cap2) ((us.take (k + 1)).map (dU true false)) W6 ∧ Below wC.heap.size wC W6 from ⟨by
                rw [List.take_add_one, List.map_append, List.getElem?_eq_getElem hk2]
                simp only [Option.toList_some, List.map_cons, List.map_nil]
                rw [Z.out.2.2.1, Z.out.2.2.2]
                exact hO6, hBw⟩)
              clear hO2 hO6 hT6 hg6 hBw Z hlk hL1
              go_wp2_with (first | (at_builtin; refine Lib.wpList_append_run _ rfl (.tmp 59) (.tmp 61) 42 42 rfl _ _ rfl rfl _ _ hrun ?_) | fail)
              go_roundw
              case rel => exact ⟨k + 1, by go_num, by omega, S2⟩
              case measure => simp [intOf]; omega
            · have hdU : dU q1 own0 ⟨ua, ul, ui, xs, xm⟩ = ⟨ua, ul, ui, xs, xm⟩ := by unfold dU; rw [if_neg (by rw [hpick]; decide), if_neg hmet]
              have Z := Lib.hid (And.intro hO1 (And.intro hB1 (And.intro hue hdU)))
              have e0 := EB.at_ 0
              have e1 := EB.at_ 1
              have e2 := EB.at_ 2
              have e3 := EB.at_ 3
              have e4 := EB.at_ 4
              have dm : q1 = true → decide ((xm : Int) < 65535) = false := fun h => decide_eq_false (fun h2 => hmet ⟨h, by omega⟩)
              clear hO1 hB1 hue hdU EB hway hmet
              cases q1 with
              | true =>
                replace dm := dm rfl
                obtain rfl : own0 = false := by simpa using hpick
                clear hpick
                have hO2 := Z.out.1.held (Below.refl w2.heap.size w2)
                obtain ⟨g', cap2, W6, hrun, hO6, hT6, hg6⟩ := hO2.push1 elemU (Nat.le_trans Z.out.2.1.size ((Below.refl w2.heap.size w2)).size) ⟨ua, ul, ui, xs, xm⟩ (by rw [List.length_map, List.length_take]; omega) 42
                have hBw := own_below hO2 (Z.out.2.1.trans (((Below.refl w2.heap.size w2)).mono Z.out.2.1.size)) (Nat.le_trans Z.out.2.1.size ((Below.refl w2.heap.size w2)).size) hT6
                have hlk : ((us.take k).map (dU true false)).length = k := by rw [List.length_map, List.length_take]; omega
                rw [hlk] at hrun hO6
                obtain ⟨L1, hL1⟩ : ∃ L1, k + 1 = L1 := ⟨_, rfl⟩
                rw [hL1] at hrun hO6
                replace hrun : (Builtin.append_ #[42, 42] 42 #[.slice p0 k cc, .slice (some ⟨(w2).heap.size, 0, none⟩) 1 1]).run Tryz.prog ((w2).alloc (.cells #[.int .u32 ua, .int .i64 ul, .int .u32 ui, .int .u32 xs, .int .u16 xm] 41)) = .ok (.slice (some ⟨g', 0, none⟩) L1 cap2) W6 := hrun
                have S2 := Lib.hid (show Ol 41 T.ucl 5 wC.heap.size (.slice (some ⟨g', 0, none⟩) L1 cap2) ((us.take (k + 1)).map (dU true false)) W6 ∧ Below wC.heap.size wC W6 from ⟨by
                  rw [List.take_add_one, List.map_append, List.getElem?_eq_getElem hk2]
                  simp only [Option.toList_some, List.map_cons, List.map_nil]
                  rw [Z.out.2.2.1, Z.out.2.2.2]
                  exact hO6, hBw⟩)
                clear hO2 hO6 hT6 hg6 hBw Z hlk hL1
                go_wp2_with (first | (at_builtin; refine Lib.wpList_append_run _ rfl (.tmp 59) (.tmp 61) 42 42 rfl _ _ rfl rfl _ _ hrun ?_) | fail)
                go_roundw
                case rel => exact ⟨k + 1, by go_num, by omega, S2⟩
                case measure => simp [intOf]; omega
              | false =>
                clear dm hpick
                have hO2 := Z.out.1.held (Below.refl w2.heap.size w2)
                obtain ⟨g', cap2, W6, hrun, hO6, hT6, hg6⟩ := hO2.push1 elemU (Nat.le_trans Z.out.2.1.size ((Below.refl w2.heap.size w2)).size) ⟨ua, ul, ui, xs, xm⟩ (by rw [List.length_map, List.length_take]; omega) 42
                have hBw := own_below hO2 (Z.out.2.1.trans (((Below.refl w2.heap.size w2)).mono Z.out.2.1.size)) (Nat.le_trans Z.out.2.1.size ((Below.refl w2.heap.size w2)).size) hT6
                have hlk : ((us.take k).map (dU false own0)).length = k := by rw [List.length_map, List.length_take]; omega
                rw [hlk] at hrun hO6
                obtain ⟨L1, hL1⟩ : ∃ L1, k + 1 = L1 := ⟨_, rfl⟩
                rw [hL1] at hrun hO6
                replace hrun : (Builtin.append_ #[42, 42] 42 #[.slice p0 k cc, .slice (some ⟨(w2).heap.size, 0, none⟩) 1 1]).run Tryz.prog ((w2).alloc (.cells #[.int .u32 ua, .int .i64 ul, .int .u32 ui, .int .u32 xs, .int .u16 xm] 41)) = .ok (.slice (some ⟨g', 0, none⟩) L1 cap2) W6 := hrun
                have S2 := Lib.hid (show Ol 41 T.ucl 5 wC.heap.size (.slice (some ⟨g', 0, none⟩) L1 cap2) ((us.take (k + 1)).map (dU false own0)) W6 ∧ Below wC.heap.size wC W6 from ⟨by
                  rw [List.take_add_one, List.map_append, List.getElem?_eq_getElem hk2]
                  simp only [Option.toList_some, List.map_cons, List.map_nil]
                  rw [Z.out.2.2.1, Z.out.2.2.2]
                  exact hO6, hBw⟩)
                clear hO2 hO6 hT6 hg6 hBw Z hlk hL1
                go_wp2_with (first | (at_builtin; refine Lib.wpList_append_run _ rfl (.tmp 59) (.tmp 61) 42 42 rfl _ _ rfl rfl _ _ hrun ?_) | fail)
                go_roundw
                case rel => exact ⟨k + 1, by go_num, by omega, S2⟩
                case measure => simp [intOf]; omega
        · obtain rfl : k = len := by omega
          have htl : (us.take k).map (dU q1 own0) = us.map (dU q1 own0) := by rw [List.take_of_length_le (by omega)]
          have hO := S.out.1
          rw [htl] at hO
          have hfit : ∀ u ∈ us.map (dU q1 own0), u.Fits := fun u hu => by
            obtain ⟨u0, h0, rfl⟩ := List.mem_map.1 hu
            exact dU_fits (V.out.1.fits u0 h0)
          obtain ⟨A2, c2, rfl, hUl2⟩ := Ol.ul hO hfit (by rw [List.length_map]; omega)
          have HE := T.encode_any hUl2
          have hRl := V.out.2.held S.out.2
          have hcount := encode_few (us.map (dU q1 own0))
          rw [List.length_map, hlu] at hcount
          obtain ⟨l, hl⟩ : ∃ l, us.map (dU q1 own0) = l := ⟨_, rfl⟩
          have hll : l.length = k := by rw [← hl, List.length_map]; omega
          have HL := Lib.hid (And.intro hl (And.intro hfit hll))
          rw [hl] at HE hcount
          rw [hl, hll]
          rw [hll] at HE
          obtain ⟨D, hD⟩ : ∃ D, T.Tm.encode l = D := ⟨_, rfl⟩
          rw [hD] at HE hcount
          obtain ⟨Ld, hLd⟩ : ∃ Ld, D.length = Ld := ⟨_, rfl⟩
          rw [hLd] at hcount
          have HD := Lib.hid (And.intro hD hLd)
          have X := Lib.hid hRl
          clear hO hfit hUl2 S htl hl hll hD hLd hRl
          go_wp2_with (go_at_call 11; refine HE.mono ?_; rintro e w7 ⟨v, rfl, hLas, hb7⟩; obtain ⟨pa, ca, rfl, hca⟩ := hLas.form; rw [HD.out.2] at hca ⊢; obtain ⟨F, hRc, hF, hBw⟩ := X.out.rcv hb7; have Y := Lib.hid (And.intro hLas (And.intro hF (And.intro hBw hRc))); clear HE hLas hb7 hF hBw hRc)
          go_loopw [67] (fun i wr2 => ∃ j : Nat, i = .int .i64 j ∧ j ≤ Ld ∧ Hid (Rcv F w7 R 30 (90000 - 1000 * j) (dM own) wr2)) (fun i _ => Ld - (intOf i).toNat)
          case atStart => exact ⟨0, rfl, Nat.zero_le _, Y.out.2.2.2⟩
          case round =>
            obtain ⟨j, rfl, hj, S⟩ := hrel
            by_cases hjl : j < Ld
            · have hjz : (j : Int) < (Ld : Int) := by omega
              have hjd : j < D.length := by rw [HD.out.2]; exact hjl
              obtain ⟨F', hz, hT, hn⟩ := S.out.ex
              have hLr := Las_turn Y.out.1 hT (fun y hy => (Y.out.2.1 y hy).2)
              clear hz hT hn F'
              obtain ⟨gb, cp, gi, ci, e, hcell, hOb, -, -⟩ := hLr.inplace hjd
              rw [HD.out.2] at e
              cases e
              obtain ⟨bs, hbs⟩ : ∃ bs, D.getD j [] = bs := ⟨_, rfl⟩
              rw [hbs] at hcell hOb
              have hbd : bs = D[j] := by rw [← hbs]; simp [hjd]
              have hfine := T.Tm.encode_fine l bs (by rw [HD.out.1, hbd]; exact List.getElem_mem hjd)
              obtain ⟨us', hdec, hul, hmem⟩ := page_tells (l := l) (by rw [← HL.out.1]; exact HL.out.2.1) (i := j) (by rw [HD.out.1]; exact hjd)
              have hdec2 : T.Tm.decode bs = some us' := by
                rw [hbd, ← hdec]
                congr 1
                simp only [HD.out.1]
              have hSl : T.Sl _ (some ⟨gi, 0, none⟩) bs.length ci bs := ⟨hOb.bytes hfine.2.2.1 (by omega), by obtain ⟨cur, q1, q2, q3, q4, q5⟩ := hOb; exact q3, fun _ => ⟨_, _, rfl⟩⟩
              have hsp : 90000 - 1000 * j = (90000 - 1000 * (j + 1)) + 1000 := by omega
              have hS := S.out
              rw [hsp] at hS
              have hllk := HL.out.2.2
              have HR := rcv_receive hS hSl hdec2 (by omega) from_
              rw [deaf_receive (own := own) (l := us) V.out.1.fits hdec2 (fun u hu => by
                have := (hmem u hu).1
                rw [← HL.out.1] at this
                rw [HQ.out.1, HQ.out.2]
                exact this)] at HR
              obtain ⟨bl, hbl⟩ : ∃ bl, bs.length = bl := ⟨_, rfl⟩
              rw [hbl] at hcell HR
              clear S hLr hOb hbs hbd hfine hdec hul hmem hdec2 hSl hsp hS hbl hjd hllk
              go_wp2_with (go_at_call 13; refine HR.mono ?_; rintro e w8 ⟨rfl, h8⟩; have H8 := Lib.hid h8; clear HR h8)
              go_roundw
              case rel => exact ⟨j + 1, by go_num, by omega, H8⟩
              case measure => simp [intOf]; omega
            · obtain rfl : j = Ld := by omega
              have hRl := S.out.rl (fun y hy => (Y.out.2.1 y hy).1) Y.out.2.2.1
              have HFb := rl_fib hRl deaf_few (by omega)
              have X2 := Lib.hid hRl.below
              clear S hRl
              go_upto_region 27 with (go_at_call 15; refine HFb.mono ?_; rintro e w9 ⟨fv, rs, rfl, hSu, hLf, hb9⟩)
              have hB9 := X2.out.trans (hb9.mono X2.out.size)
              cases own0 with
              | true =>
                have eo : dM own = Mown 7 dC 0 0 0 0 := by rw [HQ.out.2]; rfl
                rw [eo] at hSu hLf
                obtain rfl := Mown.subj hSu
                rw [Mown.entry] at hLf
                obtain ⟨fg, fc, rfl, e0, e1, e2, e3⟩ := lf_one hLf
                have HB9 := Lib.hid hB9
                clear HFb hSu hLf hb9 hB9 X2
                go_upto_region 28 with fail
                have hTn : ∀ (d : Nat) (os : Array Obj), Calls Tryz.prog 12 #[] (Sort.grow (redrawn w9 d) os) fun e w' => e = .returned (.agg #[.int .u32 167772160, .int .i64 8]) ∧ Below (Sort.grow (redrawn w9 d) os).heap.size (Sort.grow (redrawn w9 d) os) w' := fun d os => ten_any _
                replace e0 : w9.cell? ⟨fg, 0, none⟩ = some (.int .u32 167772160) := e0
                have u0 := fun d os => cell_regrown e0 d os
                have u1 := fun d os => cell_regrown e1 d os
                have u2 := fun d os => cell_regrown e2 d os
                have u3 := fun d os => cell_regrown e3 d os
                dsimp only at u1 u2 u3
                clear e0 e1 e2 e3
                refine wp_region_quiet_below (by kernel_rfl) (by kernel_rfl) ?_
                repeat (go_big_quiet_step (first | (go_at_call 12; exact Calls.regrown_of (hTn _ _))))
                refine wpQuiet_nil ?_
                intro _ hw'
                obtain ⟨⟨dq, osq⟩, hw''⟩ := hw'
                subst hw''
                have hbr := HB9.out.trans ((below_regrown w9 dq osq).mono HB9.out.size)
                clear hTn u0 u1 u2 u3
                go_wp2_with fail
                go_ret
                exact ⟨rfl, hbr⟩
              | false =>
                have eo : dM own = Mnone 7 dC (fun _ => none) 0 := by rw [HQ.out.2]; rfl
                rw [eo] at hSu hLf
                obtain rfl := Mnone.subj hSu
                have hnil : fv = .slice none 0 0 := hLf.2.2 rfl
                subst hnil
                have HB9 := Lib.hid hB9
                clear HFb hSu hLf hb9 hB9 X2
                go_wp2_with fail
                go_ret
                exact ⟨rfl, HB9.out⟩
end Go.Proofs.YtmhcjhbmeohjdaaGreat

namespace Go.Proofs.YtmhcjhbmeohjdaaGreat
open Go.ChangeShapes Go.WideShapes Go.ChangeAt Go.RowKit Go.Joins T

set_option maxRecDepth 100000 in
theorem deaf_lifted (os : Os) (started : os.Started) (H : Type) (enc : TypeId × Value → H) :
    ReturnsInHanded {} Tryz.checked os 5 .any (Rows.routerDeafSpec.pre6 enc Tryz.prog Tryz.f5 Rows.routerDeafRow.domain false) (Rows.routerDeafSpec.post enc Tryz.prog Tryz.f5 false true false false) := by
  refine returnsInHanded_of_change (C := Tryz.checked) row_own started (by kernel_rfl) Tryz.func5
    (ChangeSpec.witness6 (enc := enc) (C := Tryz.checked) false ⟨#[], #[.slice none 0 0, .int .i64 0, .bool false], []⟩ 8 (by kernel_rfl) (by kernel_rfl) (by kernel_rfl) (by kernel_rfl)) ?_
  intro W base args ds gs before hval0 hW hcnd _
  have hval : ∀ (j : Nat) t v, Tryz.f5.params[j]? = some t → args[j]? = some v → Value.okWide Tryz.prog W .any base t v := hval0
  obtain ⟨p, q, hA0, hV, rfl, hfz, hnd⟩ := id hW
  have hA : DataW.TrodAll enc Tryz.prog W 0 (fun _ => true) true Tryz.f5.params.toList args.toList ds p := hA0
  rw [Tryz.params5] at hA hval
  obtain ⟨v0, vs0, d0, ds0, p0, q0, hargs, rfl, rfl, h0, r0⟩ := trodAll_cons hA
  obtain ⟨v1, vs1, d1, ds1, p1, q1, rfl, rfl, rfl, h1, r1⟩ := trodAll_cons r0
  obtain ⟨v2, vs2, d2, ds2, p2, q2, rfl, rfl, rfl, h2, r2⟩ := trodAll_cons r1
  obtain ⟨rfl, rfl, rfl⟩ := trodAll_nil r2
  obtain rfl : args = #[v0, v1, v2] := by cases args; simp_all
  obtain ⟨a0, len0, cap0, rfl⟩ := okWide_slice Tryz.underlying42 (hval 0 42 v0 rfl rfl)
  obtain ⟨z, rfl, -, -, -⟩ := open_int Tryz.underlying3 (hval 1 3 v1 rfl rfl) h1
  obtain ⟨b, rfl, -⟩ := open_bool Tryz.underlying4 (hval 2 4 v2 rfl rfl) h2
  obtain ⟨fuel, hf⟩ := h0
  obtain ⟨us, hU⟩ := open_ups hf
  refine (deaf_walk a0 len0 cap0 us z b W hU).mono fun e W' ⟨he, hb⟩ => ?_
  subst he
  exact ⟨_, rfl, law_post row_laidOut (by rw [Tryz.params5]; decide +kernel) rfl Tryz.underlying4 rfl rfl hW hb⟩

theorem routerDeaf_holds : Rows.RouterDeafSaid :=
  OpenClaim.holds_of_wide 5 Tryz.f5 rfl rfl rfl rfl rfl rfl rfl ⟨rfl, rfl, rfl, rfl, rfl⟩ rfl rfl rfl rfl rfl (by kernel_rfl) Tryz.func5 (by kernel_rfl)
    (of_decide_eq_true (by kernel_rfl)) (by unfold Func.isWrapper; first | (rw [if_pos (by decide +kernel)]; kernel_rfl) | (rw [if_neg (by decide +kernel)]; exact ⟨rfl, rfl⟩))
    (fun os started H enc _ => deaf_lifted os started H enc)
#print axioms routerDeaf_holds
end Go.Proofs.YtmhcjhbmeohjdaaGreat

