/-
  The statement's Shows: a state shows what a model says, where both were told the same.
-/
import Derived.Test.YtncliolkdkofhaaShk
namespace Go.Proofs.Ytncliolkdkofhaa
open Go.RowKit Rm

theorem chainP_nodup {xs : List Pk} (h : xs.Pairwise ltP) : xs.Nodup := h.imp fun {a b} hab e => by subst e; unfold ltP at hab; omega
theorem chainK_nodup {xs : List Ky} (h : xs.Pairwise ltK) : xs.Nodup := h.imp fun {a b} hab e => by subst e; unfold ltK ltP at hab; dsimp only at hab; omega

set_option maxHeartbeats 4000000 in
theorem shows_any {w : World} {sd md mo mf id N1 N2 : Nat} {o fl : Option Nat} {S : Sm} (h1 : Notes w sd o fl id N1 S) (h2 : Says w md mo mf id N2 S) :
    Calls Try.prog 11 #[.pointer (some ⟨md, 0, none⟩), .pointer (some ⟨sd, 0, none⟩)] w fun e w' => e = .returned (.bool true) ∧ Below w.heap.size w w' := by
  obtain ⟨n, m, -, hS⟩ := h1
  obtain ⟨mn, mm, -, hM⟩ := h2
  have hmn : mn ≤ 100000 := by have := hM.counts; omega
  have hmm : mm ≤ 100000 := by have := hM.counts; omega
  have hSlt : ∀ b, b ∈ sd :: (o.toList ++ fl.toList) → b < w.heap.size := fun b hb => hS.lt hb
  have hMlt : md < w.heap.size ∧ mo < w.heap.size ∧ mf < w.heap.size := ⟨hM.head.lt, hM.owns.lt, hM.floors.lt⟩
  have hb2 := next (below_new w (.cells #[.pointer (some ⟨md, 0, none⟩)] 28)) (below_new _ (.cells #[.pointer (some ⟨sd, 0, none⟩)] 26))
  have hz : ((w.alloc (.cells #[.pointer (some ⟨md, 0, none⟩)] 28)).alloc (.cells #[.pointer (some ⟨sd, 0, none⟩)] 26)).heap.size = w.heap.size + 2 := by rw [size_new, size_new]
  have bm := (Blk.new w 28 #[.pointer (some ⟨md, 0, none⟩)]).more (.cells #[.pointer (some ⟨sd, 0, none⟩)] 26)
  have bs := Blk.new (w.alloc (.cells #[.pointer (some ⟨md, 0, none⟩)] 28)) 26 #[.pointer (some ⟨sd, 0, none⟩)]
  rw [size_new] at bs
  go_enter Try.func11, Try.ntmps11
  go_wp2_with fail
  generalize (w.alloc (.cells #[.pointer (some ⟨md, 0, none⟩)] 28)).alloc (.cells #[.pointer (some ⟨sd, 0, none⟩)] 26) = w2 at *
  have HS := Lib.hid ((hS.held hb2).drew)
  have HM := Lib.hid ((hM.held hb2).drew)
  have HB := Lib.hid (And.intro hb2.drew (And.intro bm.drew (And.intro bs.drew (And.intro hSlt hMlt))))
  have cm := bm.at_ 0
  have cs := bs.at_ 0
  have m0 := (hM.held hb2).head.at_ 0
  have m1 := (hM.held hb2).head.at_ 1
  have hz2 : w2.drew.heap.size = w.heap.size + 2 := hz
  clear hS hM hb2 bm bs hSlt hMlt hz
  go_region_held3 (fun w' => w' = w2.drew ∧ w'.cell? ⟨w.heap.size, 0, none⟩ = some (.pointer (some ⟨md, 0, none⟩)) ∧ w'.cell? ⟨w.heap.size + 1, 0, none⟩ = some (.pointer (some ⟨sd, 0, none⟩)) ∧ w'.cell? ⟨md, 0, none⟩ = some (.int .u32 id) ∧ w'.cell? ⟨md, 1, none⟩ = some (.int .u32 S.lease)) (go_keep)
    (first | (go_at_call 23; refine (id_any HS.out).mono ?_; rintro e w' ⟨rfl, rfl⟩) | (go_at_call 24; refine (lease_any HS.out).mono ?_; rintro e w' ⟨rfl, rfl⟩))
  obtain ⟨hb2, bm, bs, hSlt, hMlt⟩ := HB.out
  have hS := HS.out
  have hM := HM.out
  clear HS HM HB cm cs m0 m1
  generalize w2.drew = v at *
  have hb5 := next (next (below_new v (.cells #[.int .i64 0] 3)) (below_new _ (.cells #[.bool true] 4))) (below_new _ (.cells #[.int .u32 0, .int .i64 0] 32))
  have hz5 : (((v.alloc (.cells #[.int .i64 0] 3)).alloc (.cells #[.bool true] 4)).alloc (.cells #[.int .u32 0, .int .i64 0] 32)).heap.size = w.heap.size + 5 := by rw [size_new, size_new, size_new, hz2]
  have bn := (((Blk.new v 3 #[.int .i64 0]).more (.cells #[.bool true] 4)).more (.cells #[.int .u32 0, .int .i64 0] 32))
  have bo := (Blk.new (v.alloc (.cells #[.int .i64 0] 3)) 4 #[.bool true]).more (.cells #[.int .u32 0, .int .i64 0] 32)
  have bl := Blk.new ((v.alloc (.cells #[.int .i64 0] 3)).alloc (.cells #[.bool true] 4)) 32 #[.int .u32 0, .int .i64 0]
  rw [size_new, hz2] at bo
  rw [size_new, size_new, hz2] at bl
  rw [hz2] at bn
  have bm5 := bm.held hb5
  have bs5 := bs.held hb5
  have cs5 := bs5.at_ 0
  have HO := owns_any (hS.held hb5)
  have HS5 := Lib.hid (And.intro (hS.held hb5) (And.intro (hM.held hb5) (And.intro (next hb2 hb5) (And.intro bm5 (And.intro bs5 (And.intro bn (And.intro bo bl)))))))
  clear hS hM hb2 hb5 bm bs bm5 bs5 bn bo bl
  go_wp2_with fail
  generalize ((v.alloc (.cells #[.int .i64 0] 3)).alloc (.cells #[.bool true] 4)).alloc (.cells #[.int .u32 0, .int .i64 0] 32) = V at *
  refine HO.mono ?_
  rintro e w5 ⟨B1, B2, B3, v1, o1, xs, rfl, hI, h3, hfr, hB3, hB⟩
  obtain ⟨hS, hM, hbV, bm, bs, bn, bo, bl⟩ := HS5.out
  have hS5 := hS.held hB
  have hM5 := hM.held hB
  have bm5 := bm.held hB
  have bs5 := bs.held hB
  have bn5 := bn.held hB
  have bo5 := bo.held hB
  have bl5 := bl.held hB
  have hbw5 := next hbV hB
  obtain ⟨es, hE⟩ := esP_ex (f := S.own) (fun _ _ _ => rfl) xs (fun x hx => (hI.mem x).1 hx)
  have hlen : es.length = xs.length := by rw [← show es.map (·.key) = xs from hE]; simp
  have hcard : xs.length = mn := hM.owns.card (chainP_nodup hI.srt) (fun k => by rw [hI.mem k]; show _ ↔ k.ok ∧ _; cases S.own k <;> simp)
  have hfrs : ∀ b, b ∈ sd :: w.heap.size :: (w.heap.size + 1) :: md :: mo :: mf :: (o.toList ++ fl.toList) → b < w.heap.size + 2 := fun b hb => by
    have h1 := hSlt b
    obtain ⟨g1, g2, g3⟩ := hMlt
    simp only [List.mem_cons] at hb h1
    rcases hb with rfl | rfl | rfl | rfl | rfl | rfl | h
    · have := h1 (.inl rfl); omega
    · omega
    · omega
    · omega
    · omega
    · omega
    · have := h1 (.inr h); omega
  have HW := callsIn_wide.1 (owns1 hI hE h3 (.fn 26 #[.pointer (some ⟨w.heap.size, 0, none⟩), .pointer (some ⟨w.heap.size + 1, 0, none⟩), .pointer (some ⟨w.heap.size + 2 + 1, 0, none⟩), .pointer (some ⟨w.heap.size + 2, 0, none⟩), .pointer (some ⟨w.heap.size + 2 + 1 + 1, 0, none⟩)]) (JO S.own w5 (w.heap.size + 2 + 1) (w.heap.size + 2) (w.heap.size + 2 + 1 + 1)) (fun _ _ => False) (jo_own _ _ _ _ _ _ (Nat.le_refl _)) (fun _ _ _ _ h _ _ => h)
    (jo_step hS5 hM5 bm5 bs5 (N := es.length) (by omega) (fun b hb => by have := hfrs b hb; omega) (fun b hb => ⟨hI.lt b hb, by have := hfr b hb; omega⟩)) ⟨true, fun _ => rfl, bo5, bn5, bl5, Turn.refl _ _⟩ 0)
  clear HO hS hM bm bs bn bo bl HS5 hbV
  go_wp2_with fail
  refine HW.mono ?_
  rintro e w6 ⟨⟨v6, rfl⟩, (⟨c, hc, bo6, bn6, -, T6⟩ | ⟨_, hf⟩)⟩
  rotate_left
  · exact hf.elim
  have hsV := hB.size
  have hsz6 := T6.size
  have hsz5 := hbw5.size
  have hc1 : c = true := hc (by unfold Chain1; rw [show es.map (·.key) = xs from hE]; exact hI.srt)
  rw [hc1] at bo6
  rw [hlen, hcard] at bn6
  have hT : ∀ b, b ∈ sd :: w.heap.size :: (w.heap.size + 1) :: md :: mo :: mf :: (o.toList ++ fl.toList) → b ∉ [w.heap.size + 2 + 1, w.heap.size + 2, w.heap.size + 2 + 1 + 1] := fun b hb => by
    have := hfrs b hb
    simp
    omega
  have hS6 := hS5.turn T6 fun b hb => hT b (by rcases mem_fp.1 hb with rfl | h | h <;> simp [*])
  have hM6 := hM5.turn T6 (hT _ (by simp)) (hT _ (by simp)) (hT _ (by simp))
  have bm6 := bm5.turn T6 (hT _ (by simp))
  have bs6 := bs5.turn T6 (hT _ (by simp))
  have hbw6 := hbw5.trans (T6.below (B := w.heap.size) (by simp; omega) hsz5)
  have LEN := (Mk.of_block (w' := w6.drew) hM6.owns rfl).len (t := 48) (e := 4) (by kernel_rfl) 3
  have q1 := bo6.at_ 0
  have q2 := bn6.at_ 0
  have q3 := bm6.at_ 0
  have q4 := hM6.head.at_ 2
  have mdl := hM6.head.lt
  have R6 := Lib.hid (And.intro hS6 (And.intro hM6 (And.intro bm6 (And.intro bs6 (And.intro bo6 (And.intro bn6 hbw6))))))
  clear HW hS5 hM5 bm5 bs5 bn5 bo5 bl5 hbw5 hc hE hlen hI h3 hfr hB T6 hS6 hM6 bm6 bs6 bo6 bn6 hbw6 hcard
  go_wp2_with fail
  go_region_held3 (fun w' => w' = w6.drew ∧ w'.cell? ⟨w.heap.size + 2 + 1, 0, none⟩ = some (.bool true) ∧ w'.cell? ⟨w.heap.size + 2, 0, none⟩ = some (.int .i64 mn) ∧ w'.cell? ⟨w.heap.size, 0, none⟩ = some (.pointer (some ⟨md, 0, none⟩)) ∧ w'.cell? ⟨md, 2, none⟩ = some (.map (some mo))) (go_keep) (fail)
  obtain ⟨hS6, hM6, bm6, bs6, bo6, bn6, hbw6⟩ := R6.out
  have hS7 := hS6.drew
  have hM7 := hM6.drew
  have bm7 := bm6.drew
  have bs7 := bs6.drew
  have bo7 := bo6.drew
  have bn7 := bn6.drew
  have hbw7 := hbw6.drew
  have hsz7 : w.heap.size + 5 ≤ w6.drew.heap.size := by show _ ≤ w6.heap.size; omega
  clear R6 q1 q2 q3 q4 LEN mdl hS6 hM6 bm6 bs6 bo6 bn6 hbw6 hsz6 hsz5 hT
  generalize w6.drew = w7 at *
  have TX := (Turn.setCell w7 (L := [w.heap.size + 2]) (p := ⟨w.heap.size + 2, 0, none⟩) (by simp) (.int .i64 0)).and_below (below_new _ (.cells #[.int .u32 0, .int .i64 0, .int .u32 0] 45))
  have hT : ∀ b, b ∈ sd :: w.heap.size :: (w.heap.size + 1) :: md :: mo :: mf :: (o.toList ++ fl.toList) → b ∉ [w.heap.size + 2] := fun b hb => by
    have := hfrs b hb
    simp
    omega
  have hS8 := hS7.turn TX fun b hb => hT b (by rcases mem_fp.1 hb with rfl | h | h <;> simp [*])
  have hM8 := hM7.turn TX (hT _ (by simp)) (hT _ (by simp)) (hT _ (by simp))
  have bm8 := bm7.turn TX (hT _ (by simp))
  have bs8 := bs7.turn TX (hT _ (by simp))
  have bo8 := bo7.turn TX (by simp)
  have bn8 := (bn7.store 0 (.int .i64 0)).more (.cells #[.int .u32 0, .int .i64 0, .int .u32 0] 45)
  have bl8 := Blk.new (w7.setCell ⟨w.heap.size + 2, 0, none⟩ (.int .i64 0)) 45 #[.int .u32 0, .int .i64 0, .int .u32 0]
  have hss : (w7.setCell ⟨w.heap.size + 2, 0, none⟩ (.int .i64 0)).heap.size = w7.heap.size := by simp [World.setCell]
  rw [hss] at bl8
  have hbw8 := hbw7.trans (TX.below (B := w.heap.size) (by simp) (by omega))
  have n0 := bn7.at_ 0
  have nf := bn7.free 0
  have s8 := bs8.at_ 0
  have HF := floors_any hS8
  have R8 := Lib.hid (And.intro hS8 (And.intro hM8 (And.intro hbw8 (And.intro bm8 (And.intro bs8 (And.intro bn8 (And.intro bo8 bl8)))))))
  have hz8 := TX.size
  clear hS7 hM7 bm7 bs7 bo7 bn7 hbw7 TX hT hS8 hM8 bm8 bs8 bo8 bn8 bl8 hbw8
  go_wp2_with fail
  generalize (w7.setCell ⟨w.heap.size + 2, 0, none⟩ (.int .i64 0)).alloc (.cells #[.int .u32 0, .int .i64 0, .int .u32 0] 45) = V8 at *
  refine HF.mono ?_
  rintro e w9 ⟨C1, C2, v2, o2, ys, rfl, hI, hfr, hB⟩
  obtain ⟨hS, hM, hbV, bm, bs, bn, bo, bl⟩ := R8.out
  have hS9 := hS.held hB
  have hM9 := hM.held hB
  have bm9 := bm.held hB
  have bs9 := bs.held hB
  have bn9 := bn.held hB
  have bo9 := bo.held hB
  have bl9 := bl.held hB
  have hbw9 := next hbV hB
  obtain ⟨fs, hE⟩ := esK_ex (f := S.floor) hM.small ys (fun x hx => (hI.mem x).1 hx)
  have hlen : fs.length = ys.length := by rw [← show fs.map (·.key) = ys from hE]; simp
  have hcard : ys.length = mm := hM.floors.card (chainK_nodup hI.srt) (fun k => by rw [hI.mem k]; show _ ↔ k.ok ∧ _; cases S.floor k <;> simp)
  have HW := callsIn_wide.1 (inOrd1K hI hE (.fn 29 #[.pointer (some ⟨w.heap.size, 0, none⟩), .pointer (some ⟨w.heap.size + 1, 0, none⟩), .pointer (some ⟨w.heap.size + 2, 0, none⟩), .pointer (some ⟨w7.heap.size, 0, none⟩), .pointer (some ⟨w.heap.size + 2 + 1, 0, none⟩)]) (JF S.floor w9 (w.heap.size + 2 + 1) (w.heap.size + 2) w7.heap.size) (fun _ _ => False) (OwnFrom.abides (jf_own _ _ _ _ _ _ (Nat.le_refl _)))
    (fun pre x rest W1 hcut hj => jf_step hS9 hM9 bm9 bs9 (N := fs.length) (by omega) (fun b hb => by have := hfrs b hb; omega) (fun b hb => ⟨hI.lt b hb, by have := hfr b hb; have := bl.lt; omega⟩) pre x W1 hj (by rw [hcut]; simp)) ⟨true, fun _ => rfl, bo9, bn9, bl9, Turn.refl _ _⟩ 0)
  clear HF hS hM bm bs bn bo R8 hbV
  go_wp2_with fail
  refine HW.mono ?_
  rintro e w10 ⟨⟨v10, rfl⟩, (⟨c, hc, bo10, bn10, -, T10⟩ | ⟨_, _, hf⟩)⟩
  rotate_left
  · exact hf.elim
  have hsz9 := hB.size
  have hsz10 := T10.size
  have hblt := bl.lt
  have hc1 : c = true := hc (by unfold Chain2; rw [show fs.map (·.key) = ys from hE]; exact hI.srt)
  rw [hc1] at bo10
  rw [hlen, hcard] at bn10
  have hT : ∀ b, b ∈ sd :: w.heap.size :: (w.heap.size + 1) :: md :: mo :: mf :: (o.toList ++ fl.toList) → b ∉ [w.heap.size + 2 + 1, w.heap.size + 2, w7.heap.size] := fun b hb => by
    have := hfrs b hb
    simp
    omega
  have hM10 := hM9.turn T10 (hT _ (by simp)) (hT _ (by simp)) (hT _ (by simp))
  have bm10 := bm9.turn T10 (hT _ (by simp))
  have hbw10 := hbw9.trans (T10.below (B := w.heap.size) (by simp; omega) hbw9.size)
  have LEN := (Mk.of_block (w' := w10.drew) hM10.floors rfl).len (t := 49) (e := 35) (by kernel_rfl) 3
  have q1 := bo10.at_ 0
  have q2 := bn10.at_ 0
  have q3 := bm10.at_ 0
  have q4 := hM10.head.at_ 3
  have HB := Lib.hid hbw10.drew
  clear HW hS9 hM9 bm9 bs9 bn9 bo9 bl9 hbw9 hc hE hlen hI hfr hB T10 hM10 bm10 bo10 bn10 hbw10 hcard hT bl
  go_wp2_with fail
  go_region_held3 (fun w' => w' = w10.drew ∧ w'.cell? ⟨w.heap.size + 2 + 1, 0, none⟩ = some (.bool true) ∧ w'.cell? ⟨w.heap.size + 2, 0, none⟩ = some (.int .i64 mm) ∧ w'.cell? ⟨w.heap.size, 0, none⟩ = some (.pointer (some ⟨md, 0, none⟩)) ∧ w'.cell? ⟨md, 3, none⟩ = some (.map (some mf))) (go_keep) (fail)
  go_wp2_with fail
  go_ret
  exact ⟨rfl, HB.out⟩
end Go.Proofs.Ytncliolkdkofhaa
