/-
  Package loop's Walk.
-/
import Derived.Test.YtdeiolpcppibgaaLpB
import Derived.Deep.CutRange
import Derived.OwnWalk
import Derived.Shelf.RegionOpenPlain
import Derived.Lib.AppendZeros
import Derived.Deep.DeepCutAuto
namespace Go.Proofs.Ytdeiolpcppibgaa
open Go.RowKit Go.Maps Fm

def lenV : Value → Nat
  | .slice _ k _ => k
  | _ => 0
/-- a walk under way -/
structure WlR (w : World) (fss : List (List En)) (x : Nat) (from_ : Int) (path : List Int) (at_ : Int) (v : Value) (wr : World) : Prop where
  own : Oi w.heap.size v path wr
  way : Path fss path
  goes : ∀ p how ok, Walks fss x path at_ p how ok → Walks fss x [] from_ p how ok
  below : Below w.heap.size w wr
set_option maxRecDepth 100000 in
set_option maxHeartbeats 4000000 in
theorem walk_any {w : World} {g cap : Nat} {fss : List (List En)} (h : InF w g cap fss) {x : Nat} (hx : x < 4294967296) (from_ : Int) :
    Calls Try.prog 8 #[.slice (some ⟨g, 0, none⟩) fss.length cap, .int .i64 from_, .int .u32 x] w fun e w' => ∃ v p how ok, e = .returned (.tuple #[v, .int .i64 how, .bool ok]) ∧ Walks fss x [] from_ p how ok ∧ Path fss p ∧ Oi w.heap.size v p w' ∧ Below w.heap.size w w' := by
  have R0 : WlR w fss x from_ [] from_ (.slice none 0 0) w := ⟨Ol.nil _ _, .nil _, fun _ _ _ h => h, .refl _ _⟩
  have H := Lib.hid (And.intro h (And.intro hx R0))
  have mixed : Try.prog.follows .mixedOrders = true := by decide
  have hlen : fss.length ≤ 100 := Nat.le_trans h.le h.few
  clear h hx R0
  go_enter Try.func8, Try.ntmps8
  go_wp2_with fail
  go_loopw [9, 10, 11] (fun l a _ wr => ∃ (path : List Int) (z : Int), a = .int .i64 z ∧ Hid (WlR w fss x from_ path z l wr)) (fun l _ _ _ => fss.length - lenV l)
  case atStart => exact ⟨[], from_, rfl, H.out.2.2⟩
  case round =>
    obtain ⟨path, z, rfl, R⟩ := hrel
    obtain ⟨p0, cc, rfl, hcc⟩ := R.out.own.form
    have hpl := R.out.way.len
    have HT := there_any wr (some ⟨g, 0, none⟩) fss.length cap z
    by_cases hin : 0 ≤ z ∧ z < (fss.length : Int)
    · rw [decide_eq_true hin] at HT
      obtain ⟨k, rfl⟩ := Int.eq_ofNat_of_zero_le hin.1
      have hk : k < fss.length := by omega
      have hkz : (k : Int) < (fss.length : Int) := hin.2
      obtain ⟨Ln, hLn⟩ : ∃ Ln, path.length = Ln := ⟨_, rfl⟩
      have hlt : Ln ≤ 100 := by omega
      have HC := contains_any R.out.own rfl (by omega) (k : Int)
      rw [hLn] at HC
      by_cases hm : (k : Int) ∈ path
      · rw [decide_eq_true hm] at HC
        have G := Lib.hid (And.intro (R.out.goes _ _ _ (.ring hin hm)) (And.intro R.out.way (And.intro R.out.own R.out.below)))
        rw [hLn] at G
        clear R hm hin hcc
        rw [hLn]
        have HL := Lib.hid hLn
        clear hLn hpl
        go_wp2_with (first | (go_at_call 13; refine HT.mono ?_; rintro e w1 ⟨rfl, rfl⟩) | (go_at_call 14; refine HC.mono ?_; rintro e w2 ⟨rfl, rfl⟩) | fail)
        go_ret3
        exact ⟨_, path, _, _, rfl, G.out.1, G.out.2.1, G.out.2.2.1, G.out.2.2.2⟩
      · rw [decide_eq_false hm] at HC
        obtain ⟨g', cap', W6, hrun, hO6, hT6, hg6⟩ := Ol.push1 elemI R.out.own R.out.below.size (k : Int) (by omega) 28
        have hB6 := own_below R.out.own R.out.below R.out.below.size hT6
        obtain ⟨A, c, hcell, hE⟩ := (H.out.1.held (hB6)).rows k hk
        obtain ⟨⟨ea, en, eh, ex⟩, he⟩ : ∃ r, lookB x fss[k] = r := ⟨_, rfl⟩
        have HK := hE.lookup H.out.2.1 he
        have hsz : fss[k].length ≤ maxLen := hE.hm
        generalize hfl : fss[k].length = fl at *
        rw [hLn] at hrun hO6
        obtain ⟨L1, hL1⟩ : ∃ L1, Ln + 1 = L1 := ⟨_, rfl⟩
        rw [hL1] at hrun hO6
        have G := Lib.hid (And.intro R (And.intro hm (And.intro hO6 (And.intro hB6 (And.intro he (And.intro hL1 hLn))))))
        clear R hm hO6 hB6 he hT6 hg6 hE hL1 hcc hpl hfl
        rw [hLn]
        clear hLn
        replace hrun : (Builtin.append_ #[28, 28] 28 #[.slice p0 Ln cc, .slice (some ⟨wr.heap.size, 0, none⟩) 1 1]).run Try.prog (wr.alloc (.cells #[.int .i64 (k : Int)] 3)) = .ok (.slice (some ⟨g', 0, none⟩) L1 cap') W6 := hrun
        by_cases hh : eh = 2
        · subst hh
          go_wp2_with (first | (go_at_call 13; refine HT.mono ?_; rintro e w1 ⟨rfl, rfl⟩) | (go_at_call 14; refine HC.mono ?_; rintro e w2 ⟨rfl, rfl⟩) | (at_builtin; refine Lib.wpList_append_run _ rfl (.tmp 20) (.tmp 22) 28 28 rfl _ _ rfl rfl _ _ hrun ?_) | (go_at_call 15; refine HK.mono ?_; rintro e w7 ⟨rfl, hb7⟩; have hb8 := next hb7 (below_new w7 (.cells #[.int .u32 ea, .int .i64 en, .int .i64 2, .int .i64 ex] 39)); have G2 := Lib.hid (And.intro (G.out.2.2.1.held hb8) (G.out.2.2.2.1.trans (hb8.mono G.out.2.2.2.1.size))); have e1 := (Blk.new w7 39 #[.int .u32 ea, .int .i64 en, .int .i64 2, .int .i64 ex]).at_ 1; have e2 := (Blk.new w7 39 #[.int .u32 ea, .int .i64 en, .int .i64 2, .int .i64 ex]).at_ 2; clear hb7 hb8) | fail)
          go_roundw
          case rel =>
            refine ⟨path ++ [(k : Int)], ex, rfl, ?_⟩
            exact ⟨G2.out.1, G.out.1.out.way.snoc hk G.out.2.1, fun p how ok hw => G.out.1.out.goes _ _ _ (.go rfl hk G.out.2.1 G.out.2.2.2.2.1 hw), G2.out.2⟩
          case measure =>
            have := G.out.2.2.2.2.2.1
            have := G.out.2.2.2.2.2.2
            have := (G.out.1.out.way.snoc hk G.out.2.1).len
            simp at this
            simp [lenV]
            omega
        · have d1 : (eh != 2) = true := by simpa using hh
          have HH := Lib.hid hh
          clear hh
          go_wp2_with (first | (go_at_call 13; refine HT.mono ?_; rintro e w1 ⟨rfl, rfl⟩) | (go_at_call 14; refine HC.mono ?_; rintro e w2 ⟨rfl, rfl⟩) | (at_builtin; refine Lib.wpList_append_run _ rfl (.tmp 20) (.tmp 22) 28 28 rfl _ _ rfl rfl _ _ hrun ?_) | (go_at_call 15; refine HK.mono ?_; rintro e w7 ⟨rfl, hb7⟩; have hb8 := next hb7 (below_new w7 (.cells #[.int .u32 ea, .int .i64 en, .int .i64 eh, .int .i64 ex] 39)); have G2 := Lib.hid (And.intro (G.out.2.2.1.held hb8) (G.out.2.2.2.1.trans (hb8.mono G.out.2.2.2.1.size))); have e1 := (Blk.new w7 39 #[.int .u32 ea, .int .i64 en, .int .i64 eh, .int .i64 ex]).at_ 1; have e2 := (Blk.new w7 39 #[.int .u32 ea, .int .i64 en, .int .i64 eh, .int .i64 ex]).at_ 2; clear hb7 hb8) | fail)
          go_big_region_o
          all_goals go_wp2_with fail
          go_ret3
          exact ⟨_, path ++ [(k : Int)], _, _, rfl, G.out.1.out.goes _ _ _ (.stop rfl hk G.out.2.1 G.out.2.2.2.2.1 HH.out), G.out.1.out.way.snoc hk G.out.2.1, G2.out.1.drew, G2.out.2.drew⟩
    · rw [decide_eq_false hin] at HT
      have G := Lib.hid (And.intro (R.out.goes _ _ _ (.out hin)) (And.intro R.out.way (And.intro R.out.own R.out.below)))
      obtain ⟨Ln, hLn⟩ : ∃ Ln, path.length = Ln := ⟨_, rfl⟩
      rw [hLn] at G
      clear R hin hcc
      rw [hLn]
      clear hLn hpl
      go_wp2_with (first | (go_at_call 13; refine HT.mono ?_; rintro e w1 ⟨rfl, rfl⟩) | fail)
      go_ret3
      exact ⟨_, path, _, _, rfl, G.out.1, G.out.2.1, G.out.2.2.1, G.out.2.2.2⟩
end Go.Proofs.Ytdeiolpcppibgaa
