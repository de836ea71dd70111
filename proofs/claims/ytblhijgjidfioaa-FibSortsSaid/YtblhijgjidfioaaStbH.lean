/-
  A sort that keeps the order of equals: package fib's Sorted.
-/
import Derived.Test.YtblhijgjidfioaaStbG
import Derived.Test.YtblhijgjidfioaaFibHd
import Derived.Laws.MakeOwn
import Derived.Shelf.SlSortCmp.WholeK
namespace Go.Proofs.Ytblhijgjidfioaa
open Go.RowKit Go.Lib Go.Sort Fm Sb

theorem ent_parts : (Try.prog.info? 66).map (fun i => (i.zero, i.size, i.bytes)) = some (some (.agg #[.int .u32 0, .int .i64 0, .int .i64 0, .int .i64 0]), 4, 32) := by kernel_rfl
theorem info_parts' {P : Program} {t : TypeId} {z : Option Value} {n b : Nat} (h : (P.info? t).map (fun i => (i.zero, i.size, i.bytes)) = some (z, n, b)) : ∃ i, P.info? t = some i ∧ i.zero = z ∧ i.size = n ∧ i.bytes = b := by
  cases hi : P.info? t with
  | none => rw [hi] at h; cases h
  | some i =>
    rw [hi] at h
    simp only [Option.map_some, Option.some.injEq, Prod.mk.injEq] at h
    exact ⟨i, rfl, h.1, h.2.1, h.2.2⟩

section
variable {α : Type} [Inhabited α] {cl : α → List Value} {k : Nat}
theorem flat_get (hk : ∀ x, (cl x).length = k) : ∀ (xs : List α) (j : Nat), j < xs.length * k → (xs.flatMap cl)[j]? = (cl xs[j / k]!)[j % k]?
  | [], j, h => by simp at h
  | x :: r, j, h => by
    have hk0 : 0 < k := by
      rcases Nat.eq_zero_or_pos k with h0 | h0
      · subst h0; simp at h
      · exact h0
    rw [List.flatMap_cons]
    by_cases hj : j < k
    · rw [List.getElem?_append_left (by rw [hk]; exact hj), Nat.div_eq_of_lt hj, Nat.mod_eq_of_lt hj]
      rfl
    · have hj' : k ≤ j := Nat.le_of_not_lt hj
      have h' : j - k < r.length * k := by rw [List.length_cons, Nat.add_mul, Nat.one_mul] at h; omega
      rw [List.getElem?_append_right (by rw [hk]; exact hj'), hk, flat_get hk r (j - k) h']
      have e1 : j / k = (j - k) / k + 1 := by
        have : j = (j - k) + k := by omega
        conv => lhs; rw [this]
        exact Nat.add_div_right _ hk0
      have e2 : j % k = (j - k) % k := by
        have : j = (j - k) + k := by omega
        conv => lhs; rw [this]
        exact Nat.add_mod_right _ _
      rw [e1, e2]
      simp
theorem bnd_at {i j n k : Nat} (hi : i < n) (hj : j < k) : i * k + j < n * k := by
  have := Nat.mul_le_mul_right k (show i + 1 ≤ n from hi)
  rw [Nat.add_mul, Nat.one_mul] at this
  omega
theorem getB {l : List Value} {j : Nat} (h : j < l.length) : l[j]? = some (l[j]!) := by rw [List.getElem?_eq_getElem h]; simp [h]
theorem holdsK_of_owns {w : World} {g : Nat} {cur : Array Value} {e : TypeId} {xs : List α} (hk : ∀ x, (cl x).length = k) (hb : w.heap[g]? = some (.cells cur e (0, 0))) (h4 : cur.toList.take (xs.length * k) = xs.flatMap cl) : HoldsK cl k w g 0 xs.toArray := by
  intro j hj
  have hj : j < xs.length * k := by simpa using hj
  have e1 : (xs.flatMap cl)[j]? = some ((flatK cl k xs.toArray)[j]!) := by
    rw [get_flatK _ _ _ _ (by simpa using hj), flat_get hk xs j hj]
    have hk0 : 0 < k := by
      rcases Nat.eq_zero_or_pos k with h0 | h0
      · subst h0; simp at hj
      · exact h0
    have hl : j % k < (cl xs[j / k]!).length := by rw [hk]; exact Nat.mod_lt _ hk0
    rw [getB hl]
    simp
  refine ⟨?_, by simp [World.frozen?, hb]⟩
  show w.cell? ⟨g, 0 + j, none⟩ = some _
  rw [Nat.zero_add]
  show _ = some ((flatK cl k xs.toArray)[j]!)
  rw [← e1, ← h4, List.getElem?_take_of_lt hj]
  simp [World.cell?, hb]
theorem grownBy_sortK {w : World} {g n : Nat} {os : Array Obj} (d : Array α) : w.grownBy (sortWorldK cl k w g 0 n d os) (some g) := by
  unfold sortWorldK
  refine ⟨rfl, rfl, rfl, by rw [size_grow, size_putRowK]; exact Nat.le_add_right _ _, fun i hi hne => ?_⟩
  rw [heap_grow_old _ _ (by rw [size_putRowK]; exact hi)]
  show (Array.modify _ g _)[i]? = _
  rw [Array.getElem?_modify, if_neg (fun e => hne (by rw [e]))]
  rfl
end

/-- entries with their places -/
def deco (es : List En) : List De := es.zipIdx.map fun p => ⟨p.1, p.2⟩
theorem deco_len (es : List En) : (deco es).length = es.length := by simp [deco]
theorem deco_get {es : List En} {k : Nat} (h : k < (deco es).length) : (deco es)[k] = ⟨es[k]'(by rw [deco_len] at h; exact h), k⟩ := by simp [deco]
theorem deco_e (es : List En) : (deco es).map (·.e) = es := by
  apply List.ext_getElem
  · simp [deco]
  · intro i h1 h2
    simp [deco]
theorem deco_flat (es : List En) : (deco es).flatMap dcl = es.flatMap ecl := by
  conv => rhs; rw [← deco_e es]
  rw [List.flatMap_map]
  rfl

/-- ds are es in order, those with one prefix as they came -/
structure SortOf (es : List En) (ds : List De) : Prop where
  len : ds.length = es.length
  at_ : ∀ k (h : k < ds.length), ∃ h' : ds[k].i < es.length, ds[k].e = es[ds[k].i]
  srt : ∀ p q (h1 : p < q) (h2 : q < ds.length), Lx ds[p] ds[q]
  all : ∀ i, i < es.length → ∃ p, ∃ h : p < ds.length, ds[p].i = i

theorem sortOf_of {es : List En} {d' : Array De} (hp : PermIn 0 es.length (deco es).toArray d') (hs : Srt 0 es.length d') : SortOf es d'.toList := by
  have hz : d'.size = es.length := by rw [hp.1]; simp [deco_len]
  have hperm : d'.toList.Perm (deco es) := by
    have h := hp.2.2
    have e1 : d'.extract 0 es.length = d' := by rw [← hz]; simp
    have e2 : (deco es).toArray.extract 0 es.length = (deco es).toArray := by
      have : es.length = (deco es).toArray.size := by simp [deco_len]
      rw [this]; simp
    rw [e1, e2] at h
    simpa using h
  have ht : ∀ k (h : k < d'.toList.length), d'.toList[k] = d'[k]! := fun k h => by
    simp only [Array.length_toList] at h
    simp [h]
  refine ⟨by simp [hz], fun k h => ?_, fun p q h1 h2 => ?_, fun i hi => ?_⟩
  · have hm : d'.toList[k] ∈ deco es := hperm.mem_iff.1 (List.getElem_mem h)
    obtain ⟨j, hj, e⟩ := List.mem_iff_getElem.1 hm
    rw [deco_get hj] at e
    rw [← e]
    exact ⟨by rw [deco_len] at hj; exact hj, rfl⟩
  · rw [ht p (by omega), ht q h2]
    exact hs p q (Nat.zero_le _) h1 (by simpa [hz] using h2)
  · have hj : i < (deco es).length := by rw [deco_len]; exact hi
    have hm : (deco es)[i] ∈ d'.toList := hperm.mem_iff.2 (List.getElem_mem hj)
    obtain ⟨p, h, e⟩ := List.mem_iff_getElem.1 hm
    exact ⟨p, h, by rw [e, deco_get]⟩

theorem ins_nil (w : World) : Calls Try.prog 63 #[.slice none 0 0, .int .i64 0, .int .i64 0, .func (.func 38) #[] #[]] w fun e w' => e = .returned (.tuple #[]) ∧ w = w' := by
  go_enter Try.func63, Try.ntmps63
  go_wp2_with fail
  refine wp_loop_rounds 2 ?_
  rw [rounds_succ]
  go_wp2_with fail
  go_end0
  exact ⟨rfl, rfl⟩
theorem stable_nil (w : World) : Calls Try.prog 50 #[.slice none 0 0, .int .i64 0, .func (.func 38) #[] #[]] w fun e w' => e = .returned (.tuple #[]) ∧ w = w' := by
  go_enter Try.func50, Try.ntmps50
  go_wp2_with fail
  refine wp_loop_rounds 2 ?_
  rw [rounds_succ]
  go_wp2_with fail
  refine (ins_nil _).mono ?_
  rintro e w' ⟨rfl, rfl⟩
  go_wp2_with fail
  refine wp_loop_rounds 2 ?_
  rw [rounds_succ]
  go_wp2_with fail
  go_end0
  exact ⟨rfl, rfl⟩
/-- sorting whatever number of entries up to sixty -/
theorem stable_any {blk off cap n : Nat} {d : Array De} {w : World} (R : RW w blk off d) (hn : d.size = n) (h60 : n ≤ 60) (hraw : Raw 0 n d) :
    Calls Try.prog 50 #[.slice (some ⟨blk, off, none⟩) n cap, .int .i64 n, .func (.func 38) #[] #[]] w fun e w' => e = .returned (.tuple #[]) ∧ ∃ d', SW w blk off d' w' ∧ PermIn 0 n d d' ∧ Srt 0 n d' := by
  by_cases h1 : n < 20
  · exact stable_lt20 R hn h1 hraw
  by_cases h2 : n = 20
  · subst h2; exact stable_eq20 R hn hraw
  by_cases h3 : n < 40
  · exact stable_lt40 R hn ⟨by omega, h3⟩ hraw
  by_cases h4 : n = 40
  · subst h4; exact stable_eq40 R hn hraw
  by_cases h5 : n < 60
  · exact stable_lt60 R hn ⟨by omega, h5⟩ hraw
  · obtain rfl : n = 60 := by omega
    exact stable_eq60 R hn hraw

theorem flat_len : ∀ es : List En, (es.flatMap ecl).length = es.length * 4
  | [] => rfl
  | e :: r => by rw [List.flatMap_cons, List.length_append, flat_len r, List.length_cons, ecl_len]; omega
set_option maxHeartbeats 400000 in
theorem clone_any (w : World) (ad : Addr) (es : List En) (n cap : Nat) (hl : es.length = n) (hn : n ≤ 60) (hc : ∀ j v, (es.flatMap ecl)[j]? = some v → w.cell? (ad.add j) = some v) :
    Calls Try.prog 36 #[.slice (some ad) n cap] w fun e w' => ∃ v', e = .returned v' ∧ w'.ownsRow w.heap.size 66 4 v' n (es.flatMap ecl) ∧ v' ≠ .slice none 0 0 ∧ Below w.heap.size w w' := by
  have HC := Lib.hid hc
  clear hc
  obtain ⟨i0, hi0, hz0, hz1, hz2⟩ := info_parts' ent_parts
  have II := Lib.hid (And.intro hi0 (And.intro hz0 (And.intro hz1 hz2)))
  clear hi0 hz0 hz1 hz2
  have hq := Lib.run_eql_slice_nil (P := Try.prog) w 67 66 (some ad) n cap 0 0 (by kernel_rfl)
  have h1 : ∀ u ∈ es.flatMap ecl, u.oneCell' = true := fun u hu => by
    obtain ⟨e, -, he⟩ := List.mem_flatMap.1 hu
    exact dcl_one ⟨e, 0⟩ u he
  have hfl : (es.flatMap ecl).length = n * 4 := by rw [flat_len, hl]
  have L := Lib.hid (And.intro h1 hfl)
  clear h1 hfl hl
  generalize es.flatMap ecl = news at *
  go_enter Try.func36, Try.ntmps36
  go_wp2_with (first | (at_builtin; have own0 := World.ownsRow_made (base := w.heap.size) (e := 66) (size := 4) w #[] 0 (Nat.le_refl _) (by unfold maxLen; omega) rfl; (refine wpList_append_own _ rfl (.tmp 5) (.tmp 6) 67 rfl w.heap.size 66 i0 (.agg #[.int .u32 0, .int .i64 0, .int .i64 0, .int .i64 0]) 4 32 (by kernel_rfl) II.out.1 II.out.2.1 II.out.2.2.1 II.out.2.2.2 rfl (by decide) _ 0 [] rfl own0 ad n cap news rfl ?c1 ?c2 L.out.1 ?c3 ?c4 ?c5 ?_)))
  case c1 => exact L.out.2
  case c2 => exact fun j u hu => held (below_new w _) (HC.out j u hu)
  case c3 => unfold maxLen; omega
  case c4 => omega
  case c5 => simp
  intro v' w1 hown hg hnil
  have Z := Lib.hid (And.intro hown (And.intro hg hnil))
  clear hown hg hnil hq
  go_wp2_with fail
  go_ret
  obtain ⟨hown, hg, hnil⟩ := Z.out
  exact ⟨v', rfl, hown, hnil, (below_new w _).grown hg (by simp) (fun k hk => by simp [Value.ownBlock] at hk; omega)⟩

theorem clone_nil (w : World) : Calls Try.prog 36 #[.slice none 0 0] w fun e w' => e = .returned (.slice none 0 0) ∧ w = w' := by
  have hq := Lib.run_eql_slice_nil (P := Try.prog) w 67 66 none 0 0 0 0 (by kernel_rfl)
  go_enter Try.func36, Try.ntmps36
  go_wp2_with fail
  go_ret
  exact ⟨rfl, rfl⟩

theorem sortFunc_nil (w : World) : Calls Try.prog 37 #[.slice none 0 0, .func (.func 38) #[] #[]] w fun e w' => e = .returned (.tuple #[]) ∧ w = w' := by
  go_enter Try.func37, Try.ntmps37
  go_wp2_with fail
  refine (stable_nil _).mono ?_
  rintro e w' ⟨rfl, rfl⟩
  go_wp2_with fail
  go_end0
  exact ⟨rfl, rfl⟩
theorem sortFunc_any {blk off cap n : Nat} {d : Array De} {w : World} (R : RW w blk off d) (hn : d.size = n) (h60 : n ≤ 60) (hraw : Raw 0 n d) :
    Calls Try.prog 37 #[.slice (some ⟨blk, off, none⟩) n cap, .func (.func 38) #[] #[]] w fun e w' => e = .returned (.tuple #[]) ∧ ∃ d', SW w blk off d' w' ∧ PermIn 0 n d d' ∧ Srt 0 n d' := by
  have H := Lib.hid (stable_any (cap := cap) R hn h60 hraw)
  clear R hn hraw
  go_enter Try.func37, Try.ntmps37
  go_wp2_with fail
  refine H.out.mono ?_
  rintro e w' ⟨rfl, d', h⟩
  have H2 := Lib.hid h
  clear h H
  go_wp2_with fail
  go_end0
  exact ⟨rfl, d', H2.out⟩

/-- what Sorted answers -/
def SortedAns (es : List En) (n : Nat) (w w' : World) (B : Option Addr) (cap' : Nat) : Prop := ∃ ds, SortOf es ds ∧ InE w' B n cap' (ds.map (·.e)) ∧ Below w.heap.size w w'
theorem fits_of {es : List En} {ds : List De} (h : SortOf es ds) (hF : ∀ e ∈ es, e.Fits) : ∀ e ∈ ds.map (·.e), e.Fits := fun e he => by
  obtain ⟨x, hx, rfl⟩ := List.mem_map.1 he
  obtain ⟨k, hk, rfl⟩ := List.mem_iff_getElem.1 hx
  obtain ⟨h1, h2⟩ := h.at_ k hk
  rw [h2]
  exact hF _ (List.getElem_mem h1)
theorem ans_of {es : List En} {n g cap : Nat} {w w1 w' : World} {d' : Array De} (hl : es.length = n) (h60 : n ≤ 60) (hF : ∀ e ∈ es, e.Fits) (hb : Below w.heap.size w w1) (hg : w.heap.size ≤ g) (hcap : n ≤ cap) (R : RW w1 g 0 (deco es).toArray) (hS : SW w1 g 0 d' w') (hp : PermIn 0 n (deco es).toArray d') (hs : Srt 0 n d') :
    SortedAns es n w w' (some ⟨g, 0, none⟩) cap := by
  subst hl
  have hz : d'.size = (deco es).toArray.size := hp.1
  have hz2 : d'.size = es.length := by rw [hz]; simp [deco_len]
  have hso := sortOf_of hp hs
  refine ⟨d'.toList, hso, ⟨by simp [hz2], by unfold maxLen; omega, hcap, fun _ => ⟨_, _, rfl⟩, fits_of hso hF, fun b off e => ?_⟩, ?_⟩
  · cases e
    have hH := hS.holds R.hblk R.hH hz
    intro i hi j hj
    have hi' : i < d'.size := by simpa using hi
    have k1 := (hH.cell hi' hj).1
    rw [k1]
    have k2 : (d'.toList.map (·.e))[i]'hi = d'[i]!.e := by simp [hi']
    rw [k2]
    exact (getB (show j < (dcl d'[i]!).length from hj)).symm
  · obtain ⟨n', os, rfl⟩ := hS
    have gr := grownBy_sortK (cl := dcl) (k := 4) (w := w1) (g := g) (n := n') (os := os) d'
    exact hb.grown gr hb.size (fun k hk => by cases hk; exact hg)
end Go.Proofs.Ytblhijgjidfioaa
