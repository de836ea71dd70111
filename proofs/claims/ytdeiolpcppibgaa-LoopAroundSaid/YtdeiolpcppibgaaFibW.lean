/-
  The contract of package fib's Lookup.
-/
import Derived.Test.YtdeiolpcppibgaaAddrH
import Derived.Test.YtdeiolpcppibgaaItems
import Derived.Test.YtdeiolpcppibgaaFibM
namespace Go.Proofs.Ytdeiolpcppibgaa
open Go.RowKit Fm

/-- an entry's four values -/
def ecl (e : En) : List Value := [.int .u32 e.a, .int .i64 e.n, .int .i64 e.how, .int .i64 e.nx]
theorem ecl_len (e : En) : (ecl e).length = 4 := rfl
abbrev Ents := Items ecl 4
theorem Ents.cells {w : World} {b off : Nat} {es : List En} (h : Ents w b off es) {k : Nat} (hk : k < es.length) {a : Nat} {n how nx : Int} (e : es[k] = ⟨a, n, how, nx⟩) :
    w.cell? ⟨b, off + k * 4, none⟩ = some (.int .u32 a) ∧ w.cell? ⟨b, off + k * 4 + 1, none⟩ = some (.int .i64 n) ∧ w.cell? ⟨b, off + k * 4 + 2, none⟩ = some (.int .i64 how) ∧ w.cell? ⟨b, off + k * 4 + 3, none⟩ = some (.int .i64 nx) :=
  ⟨(by have := h k hk 0 (by omega); rw [e] at this; exact this), (by have := h k hk 1 (by omega); rw [e] at this; exact this), (by have := h k hk 2 (by omega); rw [e] at this; exact this), (by have := h k hk 3 (by omega); rw [e] at this; exact this)⟩

theorem has_eq {a : Nat} {len : Int} {x : Nat} {r : Bool} (ha : a < 4294967296) (hx : x < 4294967296) (h : Am.has a len x = r) (w : World) :
    Calls Try.prog 21 #[.agg #[.int .u32 a, .int .i64 len], .int .u32 x] w fun e w' => e = .returned (.bool r) ∧ Below w.heap.size w w' := h ▸ has_any a len x ha hx w
theorem refHas_eq {a : Nat} {len : Int} {x : Nat} {r : Bool} (ha : a < 4294967296) (hx : x < 4294967296) (h : Am.has a len x = r) (w : World) :
    Calls Try.prog 22 #[.agg #[.int .u32 a, .int .i64 len], .int .u32 x] w fun e w' => e = .returned (.bool r) ∧ Below w.heap.size w w' := h ▸ refHas_any a len x ha hx w

/-- where Lookup stands: the best so far lies in block g + 1 -/
def Best (W : World) (g : Nat) (wr : World) (r : En) : Prop := Blk 39 wr g #[.int .u32 0, .int .i64 0, .int .i64 0, .int .i64 0] ∧ Blk 39 wr (g + 1) #[.int .u32 r.a, .int .i64 r.n, .int .i64 r.how, .int .i64 r.nx] ∧ Turn [g, g + 1] W wr

theorem Best.held {W : World} {g : Nat} {wr w' : World} {r : En} (h : Best W g wr r) (hb : Below wr.heap.size wr w') : Best W g w' r := ⟨h.1.held hb, h.2.1.held hb, h.2.2.and_below hb⟩
theorem Best.drewN {W : World} {g : Nat} {wr : World} {r : En} (h : Best W g wr r) (n : Nat) : Best W g (wr.drewN n) r := ⟨h.1, h.2.1, h.2.2.and_below (drewN_below (Below.refl _ _) n)⟩
theorem Best.drew {W : World} {g : Nat} {wr : World} {r : En} (h : Best W g wr r) : Best W g wr.drew r := h.drewN 1
theorem Best.set {W : World} {g : Nat} {wr : World} {r : En} (h : Best W g wr r) (s : En) : Best W g (wr.setCells (g + 1) 0 (ecl s)) s :=
  ⟨h.1.apart (by omega) _, h.2.1.put_all (ecl s) rfl, h.2.2.trans (Turn.setCells _ (by simp) _ _)⟩
theorem ent_info (e : En) : (Try.prog.info? 39).map (·.size) = some (ecl e).toArray.size := by
  show _ = some 4
  kernel_rfl
theorem ent_one (e : En) : (ecl e).toArray.all (·.oneCell') = true := all_oneCell_toArray (by intro v hv; simp only [ecl, List.mem_cons, List.not_mem_nil, or_false] at hv; rcases hv with rfl | rfl | rfl | rfl <;> rfl)

set_option maxHeartbeats 1000000 in
theorem lookup_any (A : Option Addr) (len cap : Nat) (es : List En) (hl : es.length = len) (hm : len ≤ maxLen) (hc : len ≤ cap) (hA : 0 < len → ∃ b off, A = some ⟨b, off, none⟩) (hF : ∀ e ∈ es, e.Fits) (x : Nat) (hx : x < 4294967296) (w : World)
    (hR : ∀ b off, A = some ⟨b, off, none⟩ → Ents w b off es) :
    Calls Try.prog 15 #[.slice A len cap, .int .u32 x] w fun e w' => ∃ r, e = .returned (.agg (ecl r).toArray) ∧ IsLook x es es.length r ∧ Below w.heap.size w w' := by
  unfold maxLen at hm
  have B0 := (Blk.new w 39 #[.int .u32 0, .int .i64 0, .int .i64 0, .int .i64 0]).more (.cells #[.int .u32 0, .int .i64 0, .int .i64 0, .int .i64 0] 39)
  have B1 := Blk.new (w.alloc (.cells #[.int .u32 0, .int .i64 0, .int .i64 0, .int .i64 0] 39)) 39 #[.int .u32 0, .int .i64 0, .int .i64 0, .int .i64 0]
  rw [size_new] at B1
  have hb := next (below_new w (.cells #[.int .u32 0, .int .i64 0, .int .i64 0, .int .i64 0] 39)) (below_new _ (.cells #[.int .u32 0, .int .i64 0, .int .i64 0, .int .i64 0] 39))
  go_enter Try.func15, Try.ntmps15
  go_wp2_with fail
  generalize (w.alloc (.cells #[.int .u32 0, .int .i64 0, .int .i64 0, .int .i64 0] 39)).alloc (.cells #[.int .u32 0, .int .i64 0, .int .i64 0, .int .i64 0] 39) = w2 at *
  have hRw : ∀ b off, A = some ⟨b, off, none⟩ → Ents w2 b off es ∧ b < w.heap.size ∨ len = 0 := fun b off e => by
    rcases Nat.eq_zero_or_pos len with h0 | h0
    · exact .inr h0
    · have h1 := hR b off e
      have := h1 0 (by omega) 0 (by omega)
      exact .inl ⟨h1.held ecl_len hb, by have := cell_lt (this.trans (show _ = some _ from rfl)); simpa using this⟩
  clear hR
  have S0 : Best w2 w.heap.size w2 En.zero := ⟨B0, B1, .refl _ _⟩
  have HB := Lib.hid hb
  clear B0 B1 hb
  generalize hg : w.heap.size = g at *
  go_loopw [10] (fun i wr => ∃ (k : Nat) (r : En), k ≤ len ∧ i = .int .i64 k ∧ IsLook x es k r ∧ Best w2 g wr r) (fun i _ => len - (intOf i).toNat)
  case atStart => exact ⟨0, En.zero, by omega, rfl, .none x es, S0⟩
  case round =>
    obtain ⟨k, r, hk, rfl, hI, hB⟩ := hrel
    by_cases hlt : k < len
    · obtain ⟨b, off, rfl⟩ := hA (by omega)
      have hk' : k < es.length := by omega
      obtain ⟨hE, hbg⟩ : Ents w2 b off es ∧ b < g := by
        rcases hRw b off rfl with h | h
        · exact h
        · omega
      have hEr := hE.turn ecl_len hB.2.2 (by simp; omega)
      have ha := (hF es[k] (List.getElem_mem hk')).a
      have hskip : good x es[k] = false → IsLook x es (k + 1) r := hI.skip hk'
      have htake : good x es[k] = true → ((r.how == 0) = true ∨ es[k].n > r.n) → IsLook x es (k + 1) es[k] := hI.take hk'
      have hleave : (r.how == 0) = false → ¬ es[k].n > r.n → IsLook x es (k + 1) r := hI.leave hk'
      generalize hek : es[k] = e at *
      obtain ⟨ea, en, eh, ex⟩ := e
      obtain ⟨c0, c1, c2, c3⟩ := Ents.cells hEr hk' hek
      have Z0 := Blk.new wr 39 #[.int .u32 ea, .int .i64 en, .int .i64 eh, .int .i64 ex]
      have hbn := below_new wr (.cells #[.int .u32 ea, .int .i64 en, .int .i64 eh, .int .i64 ex] 39)
      have gs : g + 1 < wr.heap.size := hB.2.1.lt
      have HH := Lib.hid (And.intro hB (And.intro hskip (And.intro htake hleave)))
      clear hB hskip htake hleave hI hEr hE hRw hF hA S0
      cases heh : (eh == 0) with
      | true =>
        have hG : good x ⟨ea, en, eh, ex⟩ = false := by unfold good; dsimp only; rw [heh]; rfl
        have N := Lib.hid (And.intro (HH.out.1.held hbn) (HH.out.2.1 hG))
        clear HH hbn Z0 hG hek
        go_wp2_with fail
        go_roundw
        case rel => exact ⟨k + 1, r, by omega, by go_num, N.out.2, N.out.1⟩
        case measure => simp [intOf]; omega
      | false =>
        obtain ⟨q, hq⟩ : ∃ q, Am.has ea en x = q := ⟨_, rfl⟩
        have hG : good x ⟨ea, en, eh, ex⟩ = q := by unfold good; dsimp only; rw [heh, hq]; rfl
        have HG := Lib.hid (And.intro hG (And.intro hbn Z0))
        clear hG hbn Z0 hek
        go_wp2_with fail
        refine (has_eq ha hx hq _).mono ?_
        rintro e w3 ⟨rfl, hb⟩
        have Z := HG.out.2.2.held hb
        have hB3 := HH.out.1.held (next HG.out.2.1 hb)
        have N := Lib.hid (And.intro HH.out.2 HG.out.1)
        have z0 := Z.at_ 0
        have z1 := Z.at_ 1
        have z2 := Z.at_ 2
        have z3 := Z.at_ 3
        clear hb HH HG hq c0 c1 c2 c3
        cases q with
        | false =>
          have M := Lib.hid (And.intro hB3 (N.out.1.1 N.out.2))
          clear hB3 N Z
          go_wp2_with fail
          go_roundw
          case rel => exact ⟨k + 1, r, by omega, by go_num, M.out.2, M.out.1⟩
          case measure => simp [intOf]; omega
        | true =>
          obtain ⟨ra, rn, rh, rx⟩ := r
          have b0 := hB3.2.1.at_ 0
          have b1 := hB3.2.1.at_ 1
          have b2 := hB3.2.1.at_ 2
          have b3 := hB3.2.1.at_ 3
          have f0 := hB3.2.1.free 0
          have f1 := hB3.2.1.free 1
          have f2 := hB3.2.1.free 2
          have f3 := hB3.2.1.free 3
          cases hrh : (rh == 0) with
          | true =>
            have M := Lib.hid (And.intro hB3 (N.out.1.2.1 N.out.2 (.inl hrh)))
            clear hB3 N Z
            go_wp2_with fail
            go_roundw
            case rel => exact ⟨k + 1, ⟨ea, en, eh, ex⟩, by omega, by go_num, M.out.2, M.out.1.set ⟨ea, en, eh, ex⟩⟩
            case measure => simp [intOf]; omega
          | false =>
            cases hgt : decide (rn < en) with
            | true =>
              have M := Lib.hid (And.intro hB3 (N.out.1.2.1 N.out.2 (.inr (of_decide_eq_true hgt))))
              clear hB3 N Z
              go_wp2_with fail
              go_roundw
              case rel => exact ⟨k + 1, ⟨ea, en, eh, ex⟩, by omega, by go_num, M.out.2, M.out.1.set ⟨ea, en, eh, ex⟩⟩
              case measure => simp [intOf]; omega
            | false =>
              have M := Lib.hid (And.intro hB3 (N.out.1.2.2 hrh (by have := of_decide_eq_false hgt; dsimp only at this ⊢; omega)))
              clear hB3 N Z
              go_wp2_with fail
              go_roundw
              case rel => exact ⟨k + 1, ⟨ra, rn, rh, rx⟩, by omega, by go_num, M.out.2, M.out.1⟩
              case measure => simp [intOf]; omega
    · obtain rfl : k = len := by omega
      obtain ⟨ra, rn, rh, rx⟩ := r
      have b0 := hB.2.1.at_ 0
      have b1 := hB.2.1.at_ 1
      have b2 := hB.2.1.at_ 2
      have b3 := hB.2.1.at_ 3
      have a0 := hB.1.at_ 0
      have a1 := hB.1.at_ 1
      have a2 := hB.1.at_ 2
      have a3 := hB.1.at_ 3
      have f0 := hB.1.free 0
      have f1 := hB.1.free 1
      have f2 := hB.1.free 2
      have f3 := hB.1.free 3
      have M := Lib.hid (And.intro hB hI)
      clear hB hI hRw hF hA S0
      go_wp2_with fail
      refine bodyPost_ret (v := .agg (ecl ⟨ra, rn, rh, rx⟩).toArray) (results_cell_row (p := 4) (by kernel_rfl) _ _ g 39 _ (0, 0) _ rfl (M.out.1.1.put_all (ecl ⟨ra, rn, rh, rx⟩) rfl) Try.underlying39 rfl (ent_info _)) rfl ⟨⟨ra, rn, rh, rx⟩, rfl, ?_, ?_⟩
      · exact M.out.2
      · exact below_put (HB.out.trans (M.out.1.2.2.below (by intro i hi; simp at hi; omega) (by have := HB.out.size; omega))) (Nat.le_refl _) 0 (ecl ⟨ra, rn, rh, rx⟩)

/-! ### the statement's own Lookup -/
set_option maxHeartbeats 1000000 in
theorem refLookup_any (A : Option Addr) (len cap : Nat) (es : List En) (hl : es.length = len) (hm : len ≤ maxLen) (hc : len ≤ cap) (hA : 0 < len → ∃ b off, A = some ⟨b, off, none⟩) (hF : ∀ e ∈ es, e.Fits) (x : Nat) (hx : x < 4294967296) (w : World)
    (hR : ∀ b off, A = some ⟨b, off, none⟩ → Ents w b off es) :
    Calls Try.prog 16 #[.slice A len cap, .int .u32 x] w fun e w' => ∃ r, e = .returned (.agg (ecl r).toArray) ∧ IsLook x es es.length r ∧ Below w.heap.size w w' := by
  unfold maxLen at hm
  have B0 := Blk.new w 39 #[.int .u32 0, .int .i64 0, .int .i64 0, .int .i64 0]
  have hb := below_new w (.cells #[.int .u32 0, .int .i64 0, .int .i64 0, .int .i64 0] 39)
  go_enter Try.func16, Try.ntmps16
  go_wp2_with fail
  generalize w.alloc (.cells #[.int .u32 0, .int .i64 0, .int .i64 0, .int .i64 0] 39) = w2 at *
  have hRw : ∀ b off, A = some ⟨b, off, none⟩ → Ents w2 b off es := fun b off e => (hR b off e).held ecl_len hb
  clear hR
  have HB := Lib.hid hb
  clear hb
  generalize hg : w.heap.size = g at *
  go_loopw [5] (fun i wr => ∃ n : Nat, n ≤ 33 ∧ i = .int .i64 ((n : Int) - 1) ∧ Fm.Below x es ((n : Int) - 1) 0 ∧ RowKit.Below w2.heap.size w2 wr) (fun i _ => (intOf i + 1).toNat)
  case atStart => exact ⟨33, by omega, rfl, .start x es, .refl _ _⟩
  case round =>
    obtain ⟨n, hn, rfl, hI, hB⟩ := hrel
    cases n with
    | zero =>
      have b0 := (B0.held hB).at_ 0
      have b1 := (B0.held hB).at_ 1
      have b2 := (B0.held hB).at_ 2
      have b3 := (B0.held hB).at_ 3
      have f0 := (B0.held hB).free 0
      have f1 := (B0.held hB).free 1
      have f2 := (B0.held hB).free 2
      have f3 := (B0.held hB).free 3
      have L := Lib.hid (hI.none (by omega))
      have M := Lib.hid (And.intro (B0.held hB) hB)
      clear hRw hF hA hI hB B0
      go_wp2_with fail
      refine bodyPost_ret (v := .agg (ecl En.zero).toArray) (results_cell_row (p := 4) (by kernel_rfl) _ _ g 39 _ (0, 0) _ rfl (M.out.1.put_all (ecl En.zero) rfl) Try.underlying39 rfl (ent_info _)) rfl ⟨En.zero, rfl, L.out, ?_⟩
      subst hg
      exact below_put (HB.out.trans (M.out.2.mono (by have := HB.out.size; omega))) (Nat.le_refl _) 0 (ecl En.zero)
    | succ n =>
      rw [show ((n + 1 : Nat) : Int) - 1 = (n : Int) by omega] at *
      have NB := Lib.hid (And.intro hB hI)
      clear hB hI
      go_wp2_with fail
      go_loopw [14] (fun i wr => ∃ k : Nat, k ≤ len ∧ i = .int .i64 k ∧ Fm.Below x es (n : Int) k ∧ RowKit.Below w2.heap.size w2 wr) (fun i _ => len - (intOf i).toNat)
      case atStart => exact ⟨0, by omega, rfl, NB.out.2, NB.out.1⟩
      case round =>
        clear NB
        obtain ⟨k, hk, rfl, hI, hB⟩ := hrel
        by_cases hlt : k < len
        · obtain ⟨b, off, rfl⟩ := hA (by omega)
          have hk' : k < es.length := by omega
          have hEr := (hRw b off rfl).held ecl_len hB
          have ha := (hF es[k] (List.getElem_mem hk')).a
          have hskip : (es[k].n == (n : Int) && good x es[k]) = false → Fm.Below x es n (k + 1) := hI.skip hk'
          have hfound : es[k].n = (n : Int) → good x es[k] = true → IsLook x es es.length es[k] := hI.found hk'
          generalize hek : es[k] = e at *
          obtain ⟨ea, en, eh, ex⟩ := e
          obtain ⟨c0, c1, c2, c3⟩ := Ents.cells hEr hk' hek
          have Z0 := Blk.new wr 39 #[.int .u32 ea, .int .i64 en, .int .i64 eh, .int .i64 ex]
          have hbn := below_new wr (.cells #[.int .u32 ea, .int .i64 en, .int .i64 eh, .int .i64 ex] 39)
          have B0r := B0.held hB
          have HH := Lib.hid (And.intro hB (And.intro hskip hfound))
          clear hB hskip hfound hI hEr hRw hF hA B0 hek
          cases hen : (en == (n : Int)) with
          | false =>
            have M := Lib.hid (And.intro (HH.out.2.1 (by rw [hen]; rfl)) (HH.out.1.trans (hbn.mono HH.out.1.size)))
            clear HH hbn Z0 B0r
            go_wp2_with fail
            go_roundw
            case rel => exact ⟨k + 1, by omega, by go_num, M.out⟩
            case measure => simp [intOf]; omega
          | true =>
            cases heh : (eh == 0) with
            | true =>
              obtain rfl : eh = 0 := eq_of_beq heh
              have M := Lib.hid (And.intro (HH.out.2.1 (by rw [hen]; rfl)) (HH.out.1.trans (hbn.mono HH.out.1.size)))
              clear HH hbn Z0 B0r
              go_wp2_with fail
              go_roundw
              case rel => exact ⟨k + 1, by omega, by go_num, M.out⟩
              case measure => simp [intOf]; omega
            | false =>
              obtain ⟨q, hq⟩ : ∃ q, Am.has ea en x = q := ⟨_, rfl⟩
              have hG : good x ⟨ea, en, eh, ex⟩ = q := by unfold good; dsimp only; rw [heh, hq]; rfl
              have hne : (eh != 0) = true := by simp only [bne, heh]; rfl
              have HG := Lib.hid (And.intro hG (And.intro hbn (And.intro Z0 (And.intro B0r (eq_of_beq hen)))))
              clear hG hbn Z0 B0r
              go_wp2_with fail
              refine (refHas_eq ha hx hq _).mono ?_
              rintro e w3 ⟨rfl, hb⟩
              have Z := HG.out.2.2.1.held hb
              have B := HG.out.2.2.2.1.held (next HG.out.2.1 hb)
              have hB3 := HH.out.1.trans ((next HG.out.2.1 hb).mono HH.out.1.size)
              have N := Lib.hid (And.intro HH.out.2 (And.intro HG.out.1 HG.out.2.2.2.2))
              clear hb HH HG hq c0 c1 c2 c3
              cases q with
              | false =>
                have M := Lib.hid (And.intro (N.out.1.1 (by rw [N.out.2.1, Bool.and_false])) hB3)
                clear hB3 N Z B
                go_wp2_with fail
                go_roundw
                case rel => exact ⟨k + 1, by omega, by go_num, M.out⟩
                case measure => simp [intOf]; omega
              | true =>
                have z0 := Z.at_ 0
                have z1 := Z.at_ 1
                have z2 := Z.at_ 2
                have z3 := Z.at_ 3
                have b0 := B.at_ 0
                have b1 := B.at_ 1
                have b2 := B.at_ 2
                have b3 := B.at_ 3
                have f0 := B.free 0
                have f1 := B.free 1
                have f2 := B.free 2
                have f3 := B.free 3
                have L := Lib.hid (N.out.1.2 N.out.2.2 N.out.2.1)
                have M := Lib.hid (And.intro B hB3)
                clear hB3 N Z B
                go_wp2_with fail
                refine bodyPost_ret (v := .agg (ecl ⟨ea, en, eh, ex⟩).toArray) (results_cell_row (p := 4) (by kernel_rfl) _ _ g 39 _ (0, 0) _ rfl (M.out.1.put_all (ecl ⟨ea, en, eh, ex⟩) rfl) Try.underlying39 rfl (ent_info _)) rfl ⟨⟨ea, en, eh, ex⟩, rfl, L.out, ?_⟩
                subst hg
                exact below_put (HB.out.trans (M.out.2.mono (by have := HB.out.size; omega))) (Nat.le_refl _) 0 (ecl ⟨ea, en, eh, ex⟩)
        · obtain rfl : k = len := by omega
          have M := Lib.hid (And.intro (show Fm.Below x es ((n : Int) - 1) 0 from Fm.Below.down (by first | exact hI | (rw [hl]; exact hI))) hB)
          clear hI hB
          go_wp2_with fail
          go_roundw
          case rel => exact ⟨n, by omega, by go_num, M.out⟩
          case measure => simp [intOf]
end Go.Proofs.Ytdeiolpcppibgaa
