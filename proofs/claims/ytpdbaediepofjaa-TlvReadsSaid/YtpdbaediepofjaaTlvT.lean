/-
  The contract of package tlv's told: of bytes as long as a distance's body has to be.
-/
import Derived.Test.YtpdbaediepofjaaTlvZ
namespace Go.Proofs.Ytpdbaediepofjaa
open Go.RowKit Tm

theorem cut_low_run (A : Option Addr) (n cap k : Nat) (hk : k ≤ n) (hcap : n ≤ cap) (w : World) {z : Int} (hz : z = k) {A' : Option Addr} (hA : A' = if cap = k then A else A.map (·.add k)) {m c : Nat} (hm : m = n - k) (hc : c = cap - k) :
    (Instr.slice 35 (.slice A n cap) (some (.int .i64 z)) none none).run Try.prog w = .ok (.slice A' m c) w := by
  subst hA hm hc
  have d1 : (k : Int) ≤ (n : Int) := by omega
  subst hz
  by_cases e : cap = k
  · rw [if_pos e]; subst e; go_simp
  · rw [if_neg e]; go_simp
theorem cut_both_run (b off n cap k l : Nat) (hk : k < l) (hl : l ≤ cap) (w : World) {z y : Int} (hz : z = k) (hy : y = l) {o' m c : Nat} (ho : o' = off + k) (hm : m = l - k) (hc : c = cap - k) :
    (Instr.slice 35 (.slice (some ⟨b, off, none⟩) n cap) (some (.int .i64 z)) (some (.int .i64 y)) none).run Try.prog w = .ok (.slice (some ⟨b, o', none⟩) m c) w := by
  subst hm hc ho
  have d1 : (k : Int) ≤ (l : Int) := by omega
  have d2 : (l : Int) ≤ (cap : Int) := by omega
  have d3 : ¬ cap = k := by omega
  subst hz hy
  go_simp

theorem Sl.turn {w w' : World} {b off n cap : Nat} {bs : List Nat} {L : List Nat} (h : Sl w (some ⟨b, off, none⟩) n cap bs) (t : Turn L w w') (hb : b ∉ L) : Sl w' (some ⟨b, off, none⟩) n cap bs :=
  ⟨⟨h.bytes.1, h.bytes.2.1, h.bytes.2.2.1, fun k hk => by
    obtain ⟨ad, e, hc⟩ := h.bytes.2.2.2 k hk
    cases e
    exact ⟨_, rfl, t.cell hc (by rw [add_block]; exact hb)⟩⟩, h.cap, h.plain⟩
theorem Sl.lt {w : World} {b off n cap : Nat} {bs : List Nat} (h : Sl w (some ⟨b, off, none⟩) n cap bs) (h0 : 0 < n) : b < w.heap.size := cell_lt (h.at_ (k := 0) h0)
theorem Sl.drew {w : World} {A : Option Addr} {n cap : Nat} {bs : List Nat} (h : Sl w A n cap bs) : Sl w.drew A n cap bs := ⟨h.bytes, h.cap, h.plain⟩
/-- the three calls of Get -/
structure Gets (b off cap g : Nat) (n : Nat) (bs : List Nat) (a s m : Nat) : Prop where
  ga : ∀ wx : World, Blk 57 wx g (cls ((bs.drop 7 ++ [0, 0, 0, 0]).take 4)) → Calls Try.prog 23 #[.slice (some ⟨g, 0, none⟩) 4 4] wx fun e w' => e = .returned (.int .u32 (a : Nat)) ∧ wx = w'
  gs : ∀ wx : World, Sl wx (some ⟨b, off, none⟩) n cap bs → Calls Try.prog 23 #[.slice (some ⟨b, off + 1, none⟩) 4 (cap - 1)] wx fun e w' => e = .returned (.int .u32 (s : Nat)) ∧ wx = w'
  gm : ∀ wx : World, Sl wx (some ⟨b, off, none⟩) n cap bs → Calls Try.prog 23 #[.slice (some ⟨b, off + 5, none⟩) 2 (cap - 5)] wx fun e w' => e = .returned (.int .u32 (m : Nat)) ∧ wx = w'
theorem gets (b off cap g n : Nat) (bs : List Nat) (h7 : 7 ≤ n) (hb : ∀ c ∈ bs, c < 256) : Gets b off cap g n bs (val ((bs.drop 7 ++ [0, 0, 0, 0]).take 4)) (val ((bs.drop 1).take 4)) (val ((bs.drop 5).take 2)) :=
  ⟨fun wx h => by
    have hl : ((bs.drop 7 ++ [0, 0, 0, 0]).take 4).length = 4 := by simp
    have h4 := BytesAt.cls h (fun c hc => by
      rcases List.mem_append.1 (List.mem_of_mem_take hc) with h' | h'
      · exact hb c (List.mem_of_mem_drop h')
      · simp at h'; omega) (by omega)
    rw [hl] at h4
    exact get_any _ 4 4 _ wx h4 (by omega),
   fun wx h => get_part h 1 4 (by omega) (by omega) (cap - 1), fun wx h => get_part h 5 2 (by omega) (by omega) (cap - 5)⟩

set_option maxHeartbeats 4000000 in
theorem told_long {A : Option Addr} {n cap : Nat} {bs : List Nat} {w : World} (h : Sl w A n cap bs) (hf : fits bs = true) {id : Nat} {u : Up} (hu : upOf bs id = u) {r : Bool} (hr : right u = r) :
    Calls Try.prog 24 #[.slice A n cap, .int .u32 id] w fun e w' => e = .returned (.tuple #[.agg u.cs, .bool r]) ∧ Below w.heap.size w w' := by
  have hl := h.bytes.1
  have hmx := h.bytes.2.1
  have hcap := h.cap
  have hmx' : n ≤ 9223372036854775807 := by unfold maxLen at hmx; omega
  clear hmx
  unfold fits at hf
  simp only [Bool.and_eq_true, decide_eq_true_eq, hl] at hf
  obtain ⟨h7, hn⟩ := hf
  obtain ⟨b, off, rfl⟩ := h.plain (by omega)
  have d1 : decide ((n : Int) < 7) = false := decide_eq_false (by omega)
  have hbl := h.lt (by omega)
  have hx := h.bytes.lt 0
  have hZ : Blk 31 (w.alloc (.cells #[.int .u32 0, .int .i64 0, .int .u32 0, .int .u32 0, .int .u16 0] 31)) w.heap.size (ucs 0 0 0 0 0) := Blk.new w _ _
  have hb := below_new w (.cells #[.int .u32 0, .int .i64 0, .int .u32 0, .int .u32 0, .int .u16 0] 31)
  have hsz := size_new w (.cells #[.int .u32 0, .int .i64 0, .int .u32 0, .int .u32 0, .int .u16 0] 31)
  have h1 := h.held hb
  have c0 : (w.alloc (.cells #[.int .u32 0, .int .i64 0, .int .u32 0, .int .u32 0, .int .u16 0] 31)).cell? ⟨b, off, none⟩ = some (.int .u8 (bs.getD 0 0 : Nat)) := h1.at_ (k := 0) (by omega)
  have hup : u = ⟨val ((bs.drop 7 ++ [0, 0, 0, 0]).take 4), bs.getD 0 0, if val ((bs.drop 5).take 2) = 65535 then 0 else id, val ((bs.drop 1).take 4), val ((bs.drop 5).take 2)⟩ := hu ▸ rfl
  clear hu
  generalize hxx : bs.getD 0 0 = x0 at *
  have d2 : ((n : Int) == ((7 + nb x0 : Nat) : Int)) = true := beq_iff_eq.2 (by omega)
  have ha4 : val ((bs.drop 7 ++ [0, 0, 0, 0]).take 4) < 4294967296 := val_lt 4 _ (by simp) (fun c hc => by
    rcases List.mem_append.1 (List.mem_of_mem_take hc) with h' | h'
    · exact h.bytes.2.2.1 c (List.mem_of_mem_drop h')
    · simp at h'; omega)
  have hm2 : val ((bs.drop 5).take 2) < 65536 := val_lt 2 _ (by simp; omega) (fun c hc => h.bytes.2.2.1 c (List.mem_of_mem_drop (List.mem_of_mem_take hc)))
  have V := Lib.hid (And.intro hZ (And.intro hb (And.intro h1 (And.intro hup (And.intro hr hl)))))
  clear hZ hb h h1 hup hr hn hl
  go_enter Try.func24, Try.ntmps24
  go_wp2_with fail
  generalize w.alloc _ = w2 at *
  refine (bodyBytes_any x0 (by omega) _).mono ?_
  rintro e w' ⟨rfl, rfl⟩
  generalize 7 + nb x0 = q at *
  go_wp2_with fail
  obtain ⟨hZ, hb, h1, hup, hr, hl⟩ := V.out
  have hG := Blk.new w2 57 #[.int .u8 0, .int .u8 0, .int .u8 0, .int .u8 0]
  have hbn := below_new w2 (.cells #[.int .u8 0, .int .u8 0, .int .u8 0, .int .u8 0] 57)
  have hG4 : Blk 57 (w2.alloc (.cells #[.int .u8 0, .int .u8 0, .int .u8 0, .int .u8 0] 57)) w2.heap.size (cls [0, 0, 0, 0]) := hG
  rw [hsz] at hG4
  have hZ2 := hZ.held hbn
  have hb2 := next hb hbn
  have h2 := h1.held hbn
  have hsz2 := size_new w2 (.cells #[.int .u8 0, .int .u8 0, .int .u8 0, .int .u8 0] 57)
  rw [hsz] at hsz2
  clear hG hbn hZ hb h1 V
  generalize w2.alloc (.cells #[.int .u8 0, .int .u8 0, .int .u8 0, .int .u8 0] 57) = W at *
  obtain ⟨A', hA'⟩ : ∃ A' : Option Addr, A' = if cap = 7 then some ⟨b, off, none⟩ else (some (⟨b, off, none⟩ : Addr)).map (·.add 7) := ⟨_, rfl⟩
  obtain ⟨m, hm⟩ : ∃ m, m = n - 7 := ⟨_, rfl⟩
  obtain ⟨c, hc⟩ : ∃ c, c = cap - 7 := ⟨_, rfl⟩
  have s7 := cut_low_run (some ⟨b, off, none⟩) n cap 7 h7 hcap W (z := 7) rfl hA' hm hc
  have s7' := cut_low_run (some ⟨b, off, none⟩) n cap 7 h7 hcap W.drew (z := 7) rfl hA' hm hc
  have hS7 : Sl W.drew A' m c (bs.drop 7) := by
    have := h2.of_part (k := 7) (m := m) (cap' := c) (by omega) (by omega) hA'
    rw [List.take_of_length_le (by rw [List.length_drop, hl]; omega)] at this
    exact ⟨this.bytes, this.cap, this.plain⟩
  obtain ⟨w3, hcp, hG3, hT3⟩ := copy_four (w := W.drew) hG4 hS7 3
  have hbn : b ∉ [w.heap.size + 1] := by simp; omega
  have X := Lib.hid (And.intro (hZ2.drew.turn hT3 (by simp)) (And.intro (hb2.drew.trans (hT3.below (B := w.heap.size) (by simp) (by show w.heap.size ≤ W.heap.size; omega))) (And.intro (h2.drew.turn hT3 hbn) (And.intro hup (And.intro hr (And.intro hG3 (And.intro hT3.size hl)))))))
  clear hG4 hZ2 hb2 h2 hS7 hG3 hT3 hA' hm hc hup hr hl
  clear c0 hsz
  go_region
  obtain ⟨hZ3, hb3, h3, hup, hr, hG3, hT3, hl⟩ := X.out
  have hT3' : w.heap.size + 1 + 1 ≤ w3.heap.size := by rw [← hsz2]; exact hT3
  clear s7 s7' hcp X hT3 hsz2
  have G := gets b off cap (w.heap.size + 1) n bs h7 h3.bytes.2.2.1
  have s1 : ∀ W : World, (Instr.slice 35 (.slice (some ⟨b, off, none⟩) n cap) (some (.int .i64 1)) (some (.int .i64 5)) none).run Try.prog W = .ok (.slice (some ⟨b, off + 1, none⟩) 4 (cap - 1)) W := fun W => cut_both_run b off n cap 1 5 (by omega) (by omega) W rfl rfl rfl rfl rfl
  have s5 : ∀ W : World, (Instr.slice 35 (.slice (some ⟨b, off, none⟩) n cap) (some (.int .i64 5)) (some (.int .i64 7)) none).run Try.prog W = .ok (.slice (some ⟨b, off + 5, none⟩) 2 (cap - 5)) W := fun W => cut_both_run b off n cap 5 7 (by omega) (by omega) W rfl rfl rfl rfl rfl
  have c0 : w3.cell? ⟨b, off, none⟩ = some (.int .u8 (bs.getD 0 0 : Nat)) := h3.at_ (k := 0) (by omega)
  have hx0 : bs.getD 0 0 = x0 := hxx
  rw [hx0] at c0
  have hBd := h3.drew
  have hBe : Sl (w3.alloc (.cells #[.int .u32 0, .int .i64 0, .int .u32 0, .int .u32 0, .int .u16 0] 31)).drew (some ⟨b, off, none⟩) n cap bs := (h3.held (below_new _ _)).drew
  have hGd : Blk 57 w3.drew (w.heap.size + 1) (cls ((bs.drop 7 ++ [0, 0, 0, 0]).take 4)) := hG3
  have hGe : Blk 57 (w3.alloc (.cells #[.int .u32 0, .int .i64 0, .int .u32 0, .int .u32 0, .int .u16 0] 31)).drew (w.heap.size + 1) (cls ((bs.drop 7 ++ [0, 0, 0, 0]).take 4)) := (hG3.held (below_new _ _)).drew
  have Z := Lib.hid (And.intro hZ3 (And.intro hb3 (And.intro hup (And.intro hr hT3'))))
  clear hZ3 hb3 hup hr hT3'
  generalize val ((bs.drop 7 ++ [0, 0, 0, 0]).take 4) = av at *
  generalize val ((bs.drop 1).take 4) = sv at *
  generalize val ((bs.drop 5).take 2) = mv at *
  have q0 : IntKind.i64.wrap (x0 : Int) = x0 := by rw [IntKind.wrap_i64]; omega
  have q2 : IntKind.u16.wrap (mv : Int) = mv := by simp [IntKind.wrap, IntKind.bits, IntKind.signed]; omega
  replace G := Lib.hid G
  have hn0 : 0 < n := by omega
  have hn1 : (0 : Int) < (n : Int) := by omega
  go_wp2_with fail
  go_region_held3 (fun w' => w'.cell? ⟨b, off, none⟩ = some (.int .u8 (x0 : Nat)))
    (first | exact c0 | exact held (below_new _ _) c0 | go_keep)
    (first | (go_at_call 23; with_reducible refine (G.out.ga _ (by first | exact hGd | exact hGe)).mono ?_; rintro e w' ⟨rfl, rfl⟩)
           | (go_at_call 23; with_reducible refine (G.out.gs _ (by first | exact hBd | exact hBe)).mono ?_; rintro e w' ⟨rfl, rfl⟩)
           | (go_at_call 23; with_reducible refine (G.out.gm _ (by first | exact hBd | exact hBe)).mono ?_; rintro e w' ⟨rfl, rfl⟩))
  all_goals
    obtain ⟨hZ3, hb3, hup, hr, hT3⟩ := Z.out
    have hX : Blk 31 (w3.alloc (.cells #[.int .u32 av, .int .i64 x0, .int .u32 0, .int .u32 sv, .int .u16 mv] 31)).drew w3.heap.size #[.int .u32 av, .int .i64 x0, .int .u32 0, .int .u32 sv, .int .u16 mv] := (Blk.new w3 _ _).drew
    have hY : Blk 31 (w3.alloc (.cells #[.int .u32 av, .int .i64 x0, .int .u32 0, .int .u32 sv, .int .u16 mv] 31)).drew w.heap.size (ucs 0 0 0 0 0) := (hZ3.more _).drew
    have hb4 := (next hb3 (below_new w3 (.cells #[.int .u32 av, .int .i64 x0, .int .u32 0, .int .u32 sv, .int .u16 mv] 31))).drew
    generalize (w3.alloc (.cells #[.int .u32 av, .int .i64 x0, .int .u32 0, .int .u32 sv, .int .u16 mv] 31)).drew = x at *
    have hne : w3.heap.size ≠ w.heap.size := by omega
    have hge : w.heap.size ≤ w3.heap.size := by omega
    clear hZ3 hb3 hT3 Z q0 q2 s1 s5 hBd hBe hGd hGe h3 hG3 c0 hn0 hn1 h7 hcap hmx' d1 hbn hl hbl hx0
    generalize w3.heap.size = g at *
    have c3 : x.cell? ⟨g, 3, none⟩ = some (.int .u32 sv) := hX.at_ 3
    have c4 : x.cell? ⟨g, 4, none⟩ = some (.int .u16 mv) := hX.at_ 4
    have N := Lib.hid (And.intro hup (And.intro hr (And.intro hne (And.intro hX (And.intro hY hb4)))))
    clear hup hr hne hX hY hb4
    cases hm : ((mv : Int) == 65535)
    · have M := Lib.hid hm
      clear hm
      go_wp2_with fail
      refine (lost_eq M.out _).mono ?_
      rintro e x2 ⟨rfl, hb5⟩
      obtain ⟨hup, hr, hne, hX, hY, hb4⟩ := N.out
      have hX2 := (hX.held hb5).store 2 (.int .u32 (id : Int))
      have f2 := (hX.held hb5).free 2
      have c2 := (hX.held hb5).at_ 2
      have hY2 := (hY.held hb5).away (p := ⟨g, 2, none⟩) (by show w.heap.size ≠ g; omega) (.int .u32 (id : Int))
      have hb6 := (next hb4 hb5).setCell (p := ⟨g, 2, none⟩) hge (.int .u32 (id : Int))
      have hm' : ¬ mv = 65535 := fun e => by subst e; cases M.out
      rw [if_neg hm'] at hup
      have N2 := Lib.hid (And.intro hup (And.intro hr (And.intro hne (And.intro hX2 (And.intro hY2 hb6)))))
      clear hup hr hne hX hY hb4 hb5 hX2 hY2 hb6 c3 c4 N M hm'
      go_wp2_with fail
      clear c2 f2
      generalize x2.setCell ⟨g, 2, none⟩ (.int .u32 (id : Int)) = y at *
      obtain ⟨hup, hr, hne, hX, hY, hb4⟩ := N2.out
      have TR := tright_any av x0 id sv mv ha4 y.drew
      rw [← hup, hr] at TR
      have x0c : y.drew.cell? ⟨g, 0, none⟩ = some (.int .u32 av) := hX.at_ 0
      have x1c : y.drew.cell? ⟨g, 1, none⟩ = some (.int .i64 x0) := hX.at_ 1
      have x2c : y.drew.cell? ⟨g, 2, none⟩ = some (.int .u32 id) := hX.at_ 2
      have x3c : y.drew.cell? ⟨g, 3, none⟩ = some (.int .u32 sv) := hX.at_ 3
      have x4c : y.drew.cell? ⟨g, 4, none⟩ = some (.int .u16 mv) := hX.at_ 4
      have Y := Lib.hid (And.intro hY.drew hb4.drew)
      have U := Lib.hid hup
      clear hup hr hne hX hY hb4 N2
      go_region_with (go_at_call 8; refine TR.mono ?_; rintro e y2 ⟨rfl, hb6⟩; have k0 := held hb6 x0c; have k1 := held hb6 x1c; have k2 := held hb6 x2c; have k3 := held hb6 x3c; have k4 := held hb6 x4c; have hY2 := Y.out.1.held hb6; have hb7 := next Y.out.2 hb6; have z0 : y2.cell? ⟨w.heap.size, 0, none⟩ = some (.int .u32 ((0 : Nat) : Int)) := hY2.at_ 0; have z1 : y2.cell? ⟨w.heap.size, 1, none⟩ = some (.int .i64 ((0 : Nat) : Int)) := hY2.at_ 1; have z2 : y2.cell? ⟨w.heap.size, 2, none⟩ = some (.int .u32 ((0 : Nat) : Int)) := hY2.at_ 2; have z3 : y2.cell? ⟨w.heap.size, 3, none⟩ = some (.int .u32 ((0 : Nat) : Int)) := hY2.at_ 3; have z4 : y2.cell? ⟨w.heap.size, 4, none⟩ = some (.int .u16 ((0 : Nat) : Int)) := hY2.at_ 4; have f0 := hY2.free 0; have f1 := hY2.free 1; have f2 := hY2.free 2; have f3 := hY2.free 3; have f4 := hY2.free 4; have Y2 := Lib.hid (And.intro hY2 hb7); clear hb6 hY2 hb7)
      all_goals
        go_wp2_with fail
        have L := ((((Y2.out.1.store 0 (.int .u32 (av : Int))).store 1 (.int .i64 (x0 : Int))).store 2 (.int .u32 (id : Int))).store 3 (.int .u32 (sv : Int))).store 4 (.int .u16 (mv : Int))
        have L2 : Blk 31 _ w.heap.size (ucs av x0 id sv mv) := L
        have eu := U.out
        subst eu
        refine bodyPost_ret (v := .tuple #[.agg (ucs av x0 id sv mv), .bool r]) (results_up (p := 4) (u := 5) (by kernel_rfl) rfl rfl L2) rfl ⟨rfl, ?_⟩
        exact ((((Y2.out.2.setCell (p := ⟨w.heap.size, 0, none⟩) (Nat.le_refl _) _).setCell (p := ⟨w.heap.size, 1, none⟩) (Nat.le_refl _) _).setCell (p := ⟨w.heap.size, 2, none⟩) (Nat.le_refl _) _).setCell (p := ⟨w.heap.size, 3, none⟩) (Nat.le_refl _) _).setCell (p := ⟨w.heap.size, 4, none⟩) (Nat.le_refl _) _
    · have M := Lib.hid hm
      clear hm
      go_wp2_with fail
      refine (lost_eq M.out _).mono ?_
      rintro e y ⟨rfl, hb5⟩
      obtain ⟨hup, hr, hne, hX, hY, hb4⟩ := N.out
      have hm' : mv = 65535 := by have := beq_iff_eq.1 M.out; omega
      rw [if_pos hm'] at hup
      have N2 := Lib.hid (And.intro hup (And.intro hr (And.intro hne (And.intro (hX.held hb5) (And.intro (hY.held hb5) (next hb4 hb5))))))
      clear hup hr hne hX hY hb4 hb5 c3 c4 N M hm'
      go_wp2_with fail
      obtain ⟨hup, hr, hne, hX, hY, hb4⟩ := N2.out
      have TR := tright_any av x0 0 sv mv ha4 y.drew
      rw [← hup, hr] at TR
      have x0c : y.drew.cell? ⟨g, 0, none⟩ = some (.int .u32 av) := hX.at_ 0
      have x1c : y.drew.cell? ⟨g, 1, none⟩ = some (.int .i64 x0) := hX.at_ 1
      have x2c : y.drew.cell? ⟨g, 2, none⟩ = some (.int .u32 ((0 : Nat) : Int)) := hX.at_ 2
      have x3c : y.drew.cell? ⟨g, 3, none⟩ = some (.int .u32 sv) := hX.at_ 3
      have x4c : y.drew.cell? ⟨g, 4, none⟩ = some (.int .u16 mv) := hX.at_ 4
      have Y := Lib.hid (And.intro hY.drew hb4.drew)
      have U := Lib.hid hup
      clear hup hr hne hX hY hb4 N2
      go_region_with (go_at_call 8; refine TR.mono ?_; rintro e y2 ⟨rfl, hb6⟩; have k0 := held hb6 x0c; have k1 := held hb6 x1c; have k2 := held hb6 x2c; have k3 := held hb6 x3c; have k4 := held hb6 x4c; have hY2 := Y.out.1.held hb6; have hb7 := next Y.out.2 hb6; have z0 : y2.cell? ⟨w.heap.size, 0, none⟩ = some (.int .u32 ((0 : Nat) : Int)) := hY2.at_ 0; have z1 : y2.cell? ⟨w.heap.size, 1, none⟩ = some (.int .i64 ((0 : Nat) : Int)) := hY2.at_ 1; have z2 : y2.cell? ⟨w.heap.size, 2, none⟩ = some (.int .u32 ((0 : Nat) : Int)) := hY2.at_ 2; have z3 : y2.cell? ⟨w.heap.size, 3, none⟩ = some (.int .u32 ((0 : Nat) : Int)) := hY2.at_ 3; have z4 : y2.cell? ⟨w.heap.size, 4, none⟩ = some (.int .u16 ((0 : Nat) : Int)) := hY2.at_ 4; have f0 := hY2.free 0; have f1 := hY2.free 1; have f2 := hY2.free 2; have f3 := hY2.free 3; have f4 := hY2.free 4; have Y2 := Lib.hid (And.intro hY2 hb7); clear hb6 hY2 hb7)
      all_goals
        go_wp2_with fail
        have L := ((((Y2.out.1.store 0 (.int .u32 (av : Int))).store 1 (.int .i64 (x0 : Int))).store 2 (.int .u32 ((0 : Nat) : Int))).store 3 (.int .u32 (sv : Int))).store 4 (.int .u16 (mv : Int))
        have L2 : Blk 31 _ w.heap.size (ucs av x0 0 sv mv) := L
        have eu := U.out
        subst eu
        refine bodyPost_ret (v := .tuple #[.agg (ucs av x0 0 sv mv), .bool r]) (results_up (p := 4) (u := 5) (by kernel_rfl) rfl rfl L2) rfl ⟨rfl, ?_⟩
        exact ((((Y2.out.2.setCell (p := ⟨w.heap.size, 0, none⟩) (Nat.le_refl _) _).setCell (p := ⟨w.heap.size, 1, none⟩) (Nat.le_refl _) _).setCell (p := ⟨w.heap.size, 2, none⟩) (Nat.le_refl _) _).setCell (p := ⟨w.heap.size, 3, none⟩) (Nat.le_refl _) _).setCell (p := ⟨w.heap.size, 4, none⟩) (Nat.le_refl _) _
end Go.Proofs.Ytpdbaediepofjaa
