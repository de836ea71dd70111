/-
  Package net: Lose.
  Package net: Deliver.
  Package net: Round, over what each tick and each datagram makes.
  Package net: Link between two machines.
  Package net: Own of a machine that runs.
  A Net that a statement, or play, makes: what it knows of each machine; its blocks are new.
  A Net that a statement makes: ticks, datagrams that come or are lost.
-/
import Derived.Test.YtkchckeecfalhaaGreatS27
import Derived.Test.YtkchckeecfalhaaGreatS26
namespace Go.Proofs.YtkchckeecfalhaaGreat
open Go.RowKit Go.Maps Rm
attribute [local go_sem] Oper.semAt_some

section
variable {w w' : World} {N MB n : Nat} {ms : Nat → Ma} {v : Value} {xs : List Pe} {os : List (Nat × Nat × List Nat)}
theorem Wy.erase {W W' : World} (h : Wy v os xs W) {k : Nat} (hk : k < xs.length) {v' : Value} (hv : v'.ownBlock = v.ownBlock) (hO : Ol 109 pcl 3 0 v' (xs.eraseIdx k) W') (hT : Turn v.ownBlock.toList W W') : Wy v' (os.eraseIdx k) (xs.eraseIdx k) W' := by
  have hko : k < os.length := by rw [← h.len]; exact hk
  refine ⟨hO, by rw [List.length_eraseIdx, List.length_eraseIdx, if_pos hk, if_pos hko, h.len], fun i hi hi' => ?_⟩
  have hi2 : i < xs.length - 1 := by rw [List.length_eraseIdx, if_pos hk] at hi; exact hi
  have away : ∀ x, v.ownBlock ≠ some x → x ∉ v.ownBlock.toList := fun x hx hm => hx (by simpa using hm)
  rw [List.getElem_eraseIdx, List.getElem_eraseIdx]
  by_cases e : i < k
  · rw [dif_pos e, dif_pos e]
    obtain ⟨a, b, c, d, f⟩ := h.row i (by omega) (by rw [← h.len]; omega)
    exact ⟨a, b, c, d.turn hT (away _ f), by rw [hv]; exact f⟩
  · rw [dif_neg e, dif_neg e]
    obtain ⟨a, b, c, d, f⟩ := h.row (i + 1) (by omega) (by rw [← h.len]; omega)
    exact ⟨a, b, c, d.turn hT (away _ f), by rw [hv]; exact f⟩
/-- the list is stored, fewer in it -/
theorem Nw.fewer (h : Nw w N MB n ms v xs os) (hT : Turn v.ownBlock.toList w w') {v' : Value} {os' : List (Nat × Nat × List Nat)} {xs' : List Pe} (hW : Wy v' os' xs' w') (hv : v'.ownBlock = v.ownBlock) (hx : ∀ p, p ∈ xs' → p ∈ xs) :
    Nw (w'.setCell ⟨N, 1, none⟩ v') N MB n ms v' xs' os' ∧ Turn (N :: v.ownBlock.toList) w (w'.setCell ⟨N, 1, none⟩ v') := by
  have t2 : Turn [N] w' (w'.setCell ⟨N, 1, none⟩ v') := Turn.setCell w' (by simp) _
  have away : ∀ x, x ∈ v.ownBlock.toList → x ≠ N ∧ x ≠ MB ∧ ∀ i, i < n → x ∉ (ms i).F := fun x hx => h.apart x (.inl (by simpa using hx))
  have hN1 := (h.nt.head.turn hT fun hm => (away _ hm).1 rfl).store 1 v'
  have hap : ∀ x, inW v' xs' x → x ≠ N ∧ x ≠ MB ∧ ∀ i, i < n → x ∉ (ms i).F := fun x hx1 => by
    rcases hx1 with e | ⟨q, hq, e⟩
    · exact h.apart x (.inl (by rw [← hv]; exact e))
    · exact h.apart x (.inr ⟨q, hx q hq, e⟩)
  exact ⟨⟨⟨hN1, (h.nt.mas.turn hT (fun hm => (away _ hm).2.1 rfl) (fun i hi x hx hm => (away x hm).2.2 i hi hx)).turn t2 (by simp; exact fun e => h.nt.ne e.symm) (fun i hi x hx => by simp; exact fun e => h.nt.nF i hi (e ▸ hx)), h.nt.ne, h.nt.nF, h.nt.n1, h.nt.n8⟩, hW.turn t2 fun x hx => by simp; exact (hap x hx).1, hap⟩, (hT.mono fun x hx => List.mem_cons_of_mem _ hx).trans (t2.mono fun x hx => by simp at hx; simp [hx])⟩
set_option maxRecDepth 100000 in
set_option maxHeartbeats 1000000 in
theorem net_lose (h : Nw w N MB n ms v xs os) {k : Nat} (hk : k < os.length) : Calls Tryz.prog 39 #[.pointer (some ⟨N, 0, none⟩), .int .i64 k] w fun e w' => e = .returned (.int .i64 0) ∧
    ∃ v', Nw w' N MB n ms v' (xs.eraseIdx k) (os.eraseIdx k) ∧ Turn (N :: v.ownBlock.toList) w w' ∧ v'.ownBlock = v.ownBlock := by
  have hkx : k < xs.length := by rw [h.wy.len]; exact hk
  have HW := net_waits_in h hk
  obtain ⟨g0, cap0, rfl, h1, h2, hc⟩ := h.wy.own.at_ elemW.len hkx
  have hsm : os.length ≤ maxLen := by have := h.wy.len; omega
  unfold maxLen at hsm
  have HD := del_any h.wy.own hkx
  have hln := h.wy.len
  have ek : ((k + 1 : Nat) : Int) = (k : Int) + 1 := by omega
  rw [ek, hln] at HD
  rw [hln] at h ⊢
  have c0 : w.cell? ⟨N, 1, none⟩ = some (.slice (some ⟨g0, 0, none⟩) os.length cap0) := h.nt.head.at_ 1
  have e1 : wrap64 ((k : Int) + 1) = (k : Int) + 1 := IntWalk.wrap64_in _ (by omega)
  have hgN : N ∉ [g0] := by simp; exact fun e => (h.apart g0 (.inl rfl)).1 e.symm
  have f0 : w.frozen? ⟨N, 1, none⟩ = false := h.nt.head.free 1
  have H := Lib.hid h
  clear hc h1 h2 h ek hln
  go_enter Tryz.func39, Tryz.ntmps39
  go_wp2_with fail
  refine HW.mono ?_
  rintro e w2 ⟨rfl, rfl⟩
  clear HW
  go_wp2_with fail
  refine HD.mono ?_
  rintro e w3 ⟨rfl, hO, hT⟩
  have hT2 : Turn (Value.slice (some ⟨g0, 0, none⟩) os.length cap0).ownBlock.toList w2 w3 := hT
  have hv2 : (Value.slice (some ⟨g0, 0, none⟩) (os.length - 1) cap0).ownBlock = (Value.slice (some ⟨g0, 0, none⟩) os.length cap0).ownBlock := rfl
  have hE := H.out.wy.erase hkx hv2 hO hT2
  have hF := H.out.fewer hT2 hE hv2 (fun p hp => List.mem_of_mem_eraseIdx hp)
  have c1 := hT.cell c0 hgN
  have f1 : w3.frozen? ⟨N, 1, none⟩ = false := (H.out.nt.head.turn hT hgN).free 1
  have R := Lib.hid hF
  clear hF hO hT HD c0 hE hT2 hv2
  go_wp2_with fail
  go_ret
  exact ⟨rfl, .slice (some ⟨g0, 0, none⟩) (os.length - 1) cap0, R.out.1, R.out.2, rfl⟩
end
end Go.Proofs.YtkchckeecfalhaaGreat

namespace Go.Proofs.YtkchckeecfalhaaGreat
open Go.RowKit Go.Maps Rm
attribute [local go_sem] Oper.semAt_some

section
variable {w : World} {N MB n : Nat} {ms : Nat → Ma} {v : Value} {xs : List Pe} {os : List (Nat × Nat × List Nat)}
/-- of a datagram that comes: its machine runs -/
def Comes (w : World) (N MB n : Nat) (ms : Nat → Ma) (v : Value) (xs : List Pe) (os : List (Nat × Nat × List Nat)) (k : Nat) (F : List Nat) (i : Nat) (m : List Nat → Ma) (w' : World) : Prop :=
  ∃ F' v', Nw w' N MB n (puts ms i (m F')) v' (xs.eraseIdx k) (os.eraseIdx k) ∧ Turn (N :: (v.ownBlock.toList ++ F)) w w' ∧ (∀ y, y ∈ F' → y ∈ F ∨ w.heap.size ≤ y) ∧ v'.ownBlock = v.ownBlock
set_option maxRecDepth 100000 in
set_option maxHeartbeats 2000000 in
theorem net_deliver (h : Nw w N MB n ms v xs os) (hlen : os.length ≤ 256) {k : Nat} (hk : k < os.length) {fr i : Nat} {bs : List Nat} (ho : os[k] = (fr, i, bs)) (hi : i < n) {d R room sp : Nat} {M : Mr} {F : List Nat} {c : Nat → Int} {z : Dz} (hm : ms i = ⟨d, some ⟨R, room, sp + 1000, M⟩, F, c, z⟩)
    {most : Int} {m : Nat} (hmm : min (max most 0) (bs.length : Int) = m) (h256 : ∀ c ∈ bs, c < 256) (hbl : bs.length ≤ 5000) (hdec : ∀ us, T.Tm.decode (bs.take m) = some us → us.length ≤ 1000) :
    Calls Tryz.prog 59 #[.pointer (some ⟨N, 0, none⟩), .int .i64 k, .int .i64 most] w fun e w' => e = .returned (.int .i64 0) ∧ Comes w N MB n ms v xs os k F i (fun F' => ⟨d, some ⟨R, room, sp, M.receive fr (bs.take m)⟩, F', c, z⟩) w' := by
  have hkx : k < xs.length := by rw [h.wy.len]; exact hk
  obtain ⟨a1, a2, a3, a4, a5⟩ := h.wy.row k hkx hk
  rw [ho] at a1 a2 a3 a4
  simp only at a1 a2 a3 a4
  obtain ⟨g, hg⟩ : ∃ g, xs[k].g = g := ⟨_, rfl⟩
  obtain ⟨cap, hcap⟩ : ∃ cap, xs[k].cap = cap := ⟨_, rfl⟩
  have hga := h.apart g (.inr ⟨_, List.getElem_mem hkx, hg⟩)
  rw [hg] at a4 a5
  rw [hcap] at a4
  have HW := net_waits_in h hk
  obtain ⟨g0, cap0, rfl, h1, h2, hc⟩ := h.wy.own.at_ elemW.len hkx
  have hsm : os.length ≤ maxLen := by have := h.wy.len; omega
  unfold maxLen at hsm
  have q0 : w.cell? ⟨g0, k * 3, none⟩ = some (.int .i64 xs[k].frm) := hc 0 (by omega)
  have q1 : w.cell? ⟨g0, k * 3 + 1, none⟩ = some (.int .i64 xs[k].dst) := hc 1 (by omega)
  have q2 : w.cell? ⟨g0, k * 3 + 2, none⟩ = some (.slice (some ⟨xs[k].g, 0, none⟩) xs[k].n xs[k].cap) := hc 2 (by omega)
  rw [a1] at q0
  rw [a2] at q1
  rw [a3, hg, hcap] at q2
  have hln := h.wy.len
  rw [hln] at h a5 ⊢
  have c0 : w.cell? ⟨N, 1, none⟩ = some (.slice (some ⟨g0, 0, none⟩) os.length cap0) := h.nt.head.at_ 1
  have hin : (k : Int) < (os.length : Int) := by omega
  have hii : (i : Int) < (n : Int) := by omega
  obtain ⟨L, hL⟩ : ∃ L, bs.length = L := ⟨_, rfl⟩
  rw [hL] at q2 hmm
  have hmL : m ≤ L := by omega
  have hLm : (L : Int) ≤ 5000 := by omega
  have hcapL : L ≤ cap ∧ cap ≤ maxLen := by obtain ⟨cur, -, -, b3, b4, -⟩ := a4; rw [hL] at b3; exact ⟨b3, b4⟩
  unfold maxLen at hcapL
  have hb1 := below_new w (.cells #[.int .i64 fr, .int .i64 i, .slice (some ⟨g, 0, none⟩) L cap] 109)
  have PB := Blk.new w 109 #[.int .i64 fr, .int .i64 i, .slice (some ⟨g, 0, none⟩) L cap]
  have h1' := h.held hb1
  have HL := net_lose h1' hk
  have hlt0 : g0 < w.heap.size := h.wy.lt (.inl rfl)
  have hNlt := h.nt.head.lt
  have hFlt : ∀ y, y ∈ F → y < w.heap.size := fun y hy => (h.nt.mas.ok i hi).lt (by rw [hm]; exact hy)
  have hFN : ∀ y, y ∈ F → y ≠ N ∧ y ≠ MB := fun y hy => ⟨fun e => h.nt.nF i hi (by rw [hm, ← e]; exact hy), fun e => h.nt.mas.mb i hi (by rw [hm, ← e]; exact hy)⟩
  have hglt := a4.lt
  have a4' := a4.held hb1
  have X := Lib.hid (And.intro h (And.intro hm (And.intro hb1 (And.intro a4' (And.intro a5 (And.intro hga (And.intro hlt0 (And.intro hNlt (And.intro hFlt (And.intro hFN hglt))))))))))
  have Y := Lib.hid (And.intro h256 (And.intro hbl (And.intro hdec (And.intro hL hlen))))
  clear h hm hb1 a4 a4' a5 hga hlt0 hNlt hFlt hFN hglt h256 hbl hdec hL hlen h1 h2 hc a1 a2 a3 hg hcap hln h1'
  go_enter Tryz.func59, Tryz.ntmps59
  go_wp2_with fail
  refine HW.mono ?_
  rintro e w2 ⟨rfl, rfl⟩
  clear HW
  go_wp2_with fail
  generalize w2.alloc (.cells #[.int .i64 fr, .int .i64 i, .slice (some ⟨g, 0, none⟩) L cap] 109) = w1 at *
  refine HL.mono ?_
  rintro e w3 ⟨rfl, v', hN3, hT3, hv3⟩
  clear HL q0 q1 q2 c0
  have hpn : w2.heap.size ∉ N :: (Value.slice (some ⟨g0, 0, none⟩) os.length cap0).ownBlock.toList := by
    have e1 := X.out.2.2.2.2.2.2.1
    have e2 := X.out.2.2.2.2.2.2.2.1
    simp only [List.mem_cons, Value.ownBlock, Option.toList_some, List.not_mem_nil, or_false, not_or]
    omega
  have p0 := hT3.cell (PB.at_ 0 : w1.cell? ⟨w2.heap.size, 0, none⟩ = some (.int .i64 fr)) hpn
  have p1 := hT3.cell (PB.at_ 1 : w1.cell? ⟨w2.heap.size, 1, none⟩ = some (.int .i64 i)) hpn
  have p2 := hT3.cell (PB.at_ 2 : w1.cell? ⟨w2.heap.size, 2, none⟩ = some (.slice (some ⟨g, 0, none⟩) L cap)) hpn
  have HR := net_runs hN3.nt hi
  rw [X.out.2.1] at HR
  replace HR : Calls Tryz.prog 66 #[.pointer (some ⟨N, 0, none⟩), .int .i64 i] w3 fun e w' => e = .returned (.bool true) ∧ w' = w3 := HR
  have hOb : T.Ob w3 g cap bs := X.out.2.2.2.1.turn hT3 (by
    have e1 := X.out.2.2.2.2.1
    have e2 := X.out.2.2.2.2.2.1.1
    simp only [List.mem_cons, Value.ownBlock, Option.toList_some, List.not_mem_nil, or_false, not_or]
    exact ⟨e2, fun e => e1 (by simp [Value.ownBlock, e])⟩)
  have hSl : T.Sl w3.drew (some ⟨g, 0, none⟩) m cap (bs.take m) := by
    have s1 := ((⟨hOb.bytes Y.out.1 Y.out.2.1, by obtain ⟨cur, q1, q2, q3, q4, q5⟩ := hOb; exact q3, fun _ => ⟨_, _, rfl⟩⟩ : T.Sl w3 (some ⟨g, 0, none⟩) bs.length cap bs).part 0 m (by rw [Y.out.2.2.2.1]; omega)).drew
    simpa using s1
  have hz := hN3.nt.mas.ok i hi
  rw [X.out.2.1] at hz
  have HC := rz_receive Y.out.2.2.1 ((hz.some rfl).held (Below.refl _ _).drew) hSl fr
  have m0 : w3.drew.cell? ⟨N, 0, none⟩ = some (.slice (some ⟨MB, 0, none⟩) n n) := hN3.nt.head.at_ 0
  have m1 : w3.drew.cell? ⟨MB, i * 10, none⟩ = some (.pointer (some ⟨R, 0, none⟩)) := hN3.nt.cell hi (j := 0) (by rw [X.out.2.1]; rfl)
  have p0' : w3.drew.cell? ⟨w2.heap.size, 0, none⟩ = some (.int .i64 fr) := p0
  have p1' : w3.drew.cell? ⟨w2.heap.size, 1, none⟩ = some (.int .i64 i) := p1
  have p2' : w3.drew.cell? ⟨w2.heap.size, 2, none⟩ = some (.slice (some ⟨g, 0, none⟩) L cap) := p2
  have Z := Lib.hid (And.intro hN3 (And.intro hT3 (And.intro hv3 hOb)))
  clear hN3 hT3 hv3 hOb hSl hz PB hpn
  go_wp2_with fail
  refine HR.mono ?_
  rintro e w4 ⟨rfl, rfl⟩
  clear HR
  go_wp2_with fail
  clear p0 p1 p2
  refine wp_region_held_drew (S := fun u => u.cell? ⟨N, 0, none⟩ = some (.slice (some ⟨MB, 0, none⟩) n n) ∧ u.cell? ⟨MB, i * 10, none⟩ = some (.pointer (some ⟨R, 0, none⟩)) ∧ u.cell? ⟨w2.heap.size, 0, none⟩ = some (.int .i64 fr) ∧ u.cell? ⟨w2.heap.size, 1, none⟩ = some (.int .i64 i) ∧ u.cell? ⟨w2.heap.size, 2, none⟩ = some (.slice (some ⟨g, 0, none⟩) L cap)) (by kernel_rfl) ⟨m0, m1, p0', p1', p2'⟩ (fun hHeld => ?_)
  refine take_list (i := 0) (v := .pointer (some ⟨N, 0, none⟩)) rfl (by kernel_rfl) (by kernel_rfl) (by kernel_rfl) (fun _ _ _ h => h) (.inl ⟨rfl, ?_⟩) hHeld ?_
  · (intro w hSw; go_simp)
  go_frame
  refine take_list (i := 1) (v := .pointer (some ⟨N, 0, none⟩)) rfl (by kernel_rfl) (by kernel_rfl) (by kernel_rfl) (fun _ _ _ h => h) (.inl ⟨rfl, ?_⟩) hHeld ?_
  · (intro w hSw; go_simp)
  go_frame
  refine take_list (i := 2) (v := .pointer (some ⟨N, 0, none⟩)) rfl (by kernel_rfl) (by kernel_rfl) (by kernel_rfl) (fun _ _ _ h => h) (.inl ⟨rfl, ?_⟩) hHeld ?_
  · (intro w hSw; go_simp)
  go_frame
  refine take_list (i := 3) (v := .slice (some ⟨MB, 0, none⟩) n n) rfl (by kernel_rfl) (by kernel_rfl) (by kernel_rfl) (fun _ _ _ h => h) (.inl ⟨rfl, ?_⟩) hHeld ?_
  · (intro w hSw; go_simp)
  go_frame
  refine take_list (i := 4) (v := .pointer (some ⟨w2.heap.size, 1, none⟩)) rfl (by kernel_rfl) (by kernel_rfl) (by kernel_rfl) (fun _ _ _ h => h) (.inl ⟨rfl, ?_⟩) hHeld ?_
  · (intro w hSw; go_simp)
  go_frame
  refine take_list (i := 5) (v := .int .i64 i) rfl (by kernel_rfl) (by kernel_rfl) (by kernel_rfl) (fun _ _ _ h => h) (.inl ⟨rfl, ?_⟩) hHeld ?_
  · (intro w hSw; go_simp)
  go_frame
  refine take_list (i := 6) (v := .pointer (some ⟨MB, i * 10, none⟩)) rfl (by kernel_rfl) (by kernel_rfl) (by kernel_rfl) (fun _ _ _ h => h) (.inl ⟨rfl, ?_⟩) hHeld ?_
  · (intro w hSw; go_simp)
  go_frame
  refine take_list (i := 7) (v := .pointer (some ⟨MB, i * 10, none⟩)) rfl (by kernel_rfl) (by kernel_rfl) (by kernel_rfl) (fun _ _ _ h => h) (.inl ⟨rfl, ?_⟩) hHeld ?_
  · (intro w hSw; go_simp)
  go_frame
  refine take_list (i := 8) (v := .pointer (some ⟨R, 0, none⟩)) rfl (by kernel_rfl) (by kernel_rfl) (by kernel_rfl) (fun _ _ _ h => h) (.inl ⟨rfl, ?_⟩) hHeld ?_
  · (intro w hSw; go_simp)
  go_frame
  refine take_list (i := 9) (v := .pointer (some ⟨w2.heap.size, 0, none⟩)) rfl (by kernel_rfl) (by kernel_rfl) (by kernel_rfl) (fun _ _ _ h => h) (.inl ⟨rfl, ?_⟩) hHeld ?_
  · (intro w hSw; go_simp)
  go_frame
  refine take_list (i := 10) (v := .int .i64 fr) rfl (by kernel_rfl) (by kernel_rfl) (by kernel_rfl) (fun _ _ _ h => h) (.inl ⟨rfl, ?_⟩) hHeld ?_
  · (intro w hSw; go_simp)
  go_frame
  refine take_list (i := 11) (v := .pointer (some ⟨w2.heap.size, 2, none⟩)) rfl (by kernel_rfl) (by kernel_rfl) (by kernel_rfl) (fun _ _ _ h => h) (.inl ⟨rfl, ?_⟩) hHeld ?_
  · (intro w hSw; go_simp)
  go_frame
  refine take_list (i := 12) (v := .slice (some ⟨g, 0, none⟩) L cap) rfl (by kernel_rfl) (by kernel_rfl) (by kernel_rfl) (fun _ _ _ h => h) (.inl ⟨rfl, ?_⟩) hHeld ?_
  · (intro w hSw; go_simp)
  go_frame
  refine take_list (i := 13) (v := .int .i64 m) rfl (by kernel_rfl) (by kernel_rfl) (by kernel_rfl) (fun _ _ _ h => h) (.inl ⟨rfl, ?_⟩) hHeld ?_
  · (intro w hSw; go_simp)
  go_frame
  refine take_list (i := 14) (v := .slice (some ⟨g, 0, none⟩) m cap) rfl (by kernel_rfl) (by kernel_rfl) (by kernel_rfl) (fun _ _ _ h => h) (.inl ⟨rfl, ?_⟩) hHeld ?_
  · (intro w hSw; go_simp; intro h; exfalso; omega)
  go_frame
  refine ready_list (i := 15) rfl (by kernel_rfl) (fun K hK => ?_)
  go_simp
  refine HC.mono ?_
  rintro e w5 ⟨rfl, hG⟩
  obtain ⟨F4, hz4, t4, n4⟩ := hG
  have hp4 : w2.heap.size ∉ F := fun hx => by have := X.out.2.2.2.2.2.2.2.2.1 _ hx; omega
  have hNF : N ∉ F := fun hx => (X.out.2.2.2.2.2.2.2.2.2.1 _ hx).1 rfl
  have hMF : MB ∉ F := fun hx => (X.out.2.2.2.2.2.2.2.2.2.1 _ hx).2 rfl
  refine hK.out _ _ ⟨t4.cell m0 hNF, t4.cell m1 hMF, t4.cell p0' hp4, t4.cell p1' hp4, t4.cell p2' hp4⟩ (fun hHeld => ?_)
  clear hK K HC m0 m1 p0' p1' p2'
  have hN4 : Nw w4.drew N MB n ms v' (xs.eraseIdx k) (os.eraseIdx k) := Z.out.1.held (Below.refl _ _).drew
  obtain ⟨F', g1, g2, g3⟩ := hN4.nt.goes hi (m := ⟨d, none, [], c, z⟩) (x := ⟨R, room, sp + 1000, M⟩) (F := F) (by rw [X.out.2.1]; rfl) ⟨F4, hz4, t4, n4⟩ (Mr.receive_kin _ _ _).2
  have G := Lib.hid (And.intro g1 (And.intro g2 (And.intro g3 hN4)))
  clear hz4 t4 n4 g1 g2 g3 hN4
  refine wpAnyH_done (by kernel_rfl) ?_ _
  try go_frame
  clear hHeld
  go_wp2_with fail
  go_ret
  have hFi : (ms i).F = F := by rw [X.out.2.1]
  have hsz : w2.heap.size ≤ w4.heap.size := Nat.le_trans X.out.2.2.1.size Z.out.2.1.size
  have hT4 : Turn (N :: ((Value.slice (some ⟨g0, 0, none⟩) os.length cap0).ownBlock.toList ++ F)) w2 w4.drew := ((Turn.of_below _ X.out.2.2.1).trans (Z.out.2.1.mono fun x hx => by
    rcases List.mem_cons.1 hx with e | e
    · exact List.mem_cons.2 (.inl e)
    · exact List.mem_cons_of_mem _ (List.mem_append_left _ e))).drew
  refine ⟨rfl, F', v', G.out.2.2.2.one hi G.out.1 G.out.2.1 (fun x hx => .inr (by rw [hFi]; exact hx)) (fun y hy => by rw [hFi]; exact G.out.2.2.1 y hy), hT4.trans (G.out.2.1.mono fun x hx => List.mem_cons_of_mem _ (List.mem_append_right _ hx)), fun y hy => (G.out.2.2.1 y hy).imp id (Nat.le_trans hsz), Z.out.2.2.1⟩
set_option maxRecDepth 100000 in
set_option maxHeartbeats 2000000 in
/-- of a datagram that comes to where nothing runs -/
theorem net_deliver_down (h : Nw w N MB n ms v xs os) {k : Nat} (hk : k < os.length) {fr i : Nat} {bs : List Nat} (ho : os[k] = (fr, i, bs)) (hi : i < n → (ms i).r = none) (most : Int) :
    Calls Tryz.prog 59 #[.pointer (some ⟨N, 0, none⟩), .int .i64 k, .int .i64 most] w fun e w' => e = .returned (.int .i64 0) ∧ ∃ v', Nw w' N MB n ms v' (xs.eraseIdx k) (os.eraseIdx k) ∧ Turn (N :: v.ownBlock.toList) w w' ∧ v'.ownBlock = v.ownBlock := by
  have hkx : k < xs.length := by rw [h.wy.len]; exact hk
  obtain ⟨a1, a2, a3, a4, a5⟩ := h.wy.row k hkx hk
  rw [ho] at a1 a2 a3
  simp only at a1 a2 a3
  have HW := net_waits_in h hk
  obtain ⟨g0, cap0, rfl, h1, h2, hc⟩ := h.wy.own.at_ elemW.len hkx
  have hsm : os.length ≤ maxLen := by have := h.wy.len; omega
  unfold maxLen at hsm
  have q0 : w.cell? ⟨g0, k * 3, none⟩ = some (.int .i64 xs[k].frm) := hc 0 (by omega)
  have q1 : w.cell? ⟨g0, k * 3 + 1, none⟩ = some (.int .i64 xs[k].dst) := hc 1 (by omega)
  have q2 : w.cell? ⟨g0, k * 3 + 2, none⟩ = some (.slice (some ⟨xs[k].g, 0, none⟩) xs[k].n xs[k].cap) := hc 2 (by omega)
  rw [a1] at q0
  rw [a2] at q1
  obtain ⟨g, hg⟩ : ∃ g, xs[k].g = g := ⟨_, rfl⟩
  obtain ⟨cap, hcap⟩ : ∃ cap, xs[k].cap = cap := ⟨_, rfl⟩
  obtain ⟨L, hL⟩ : ∃ L, xs[k].n = L := ⟨_, rfl⟩
  rw [hL, hg, hcap] at q2
  have hln := h.wy.len
  rw [hln] at h ⊢
  have c0 : w.cell? ⟨N, 1, none⟩ = some (.slice (some ⟨g0, 0, none⟩) os.length cap0) := h.nt.head.at_ 1
  have hin : (k : Int) < (os.length : Int) := by omega
  have hb1 := below_new w (.cells #[.int .i64 fr, .int .i64 i, .slice (some ⟨g, 0, none⟩) L cap] 109)
  have PB := Blk.new w 109 #[.int .i64 fr, .int .i64 i, .slice (some ⟨g, 0, none⟩) L cap]
  have h1' := h.held hb1
  have HL := net_lose h1' hk
  have hlt0 : g0 < w.heap.size := h.wy.lt (.inl rfl)
  have hNlt := h.nt.head.lt
  have X := Lib.hid (And.intro hi (And.intro hb1 (And.intro hlt0 hNlt)))
  clear h hb1 hlt0 hNlt h1 h2 hc a1 a2 a3 a4 a5 hg hcap hln h1' hi hL
  go_enter Tryz.func59, Tryz.ntmps59
  go_wp2_with fail
  refine HW.mono ?_
  rintro e w2 ⟨rfl, rfl⟩
  clear HW
  go_wp2_with fail
  generalize w2.alloc (.cells #[.int .i64 fr, .int .i64 i, .slice (some ⟨g, 0, none⟩) L cap] 109) = w1 at *
  refine HL.mono ?_
  rintro e w3 ⟨rfl, v', hN3, hT3, hv3⟩
  clear HL q0 q1 q2 c0
  have hpn : w2.heap.size ∉ N :: (Value.slice (some ⟨g0, 0, none⟩) os.length cap0).ownBlock.toList := by
    have e1 := X.out.2.2.1
    have e2 := X.out.2.2.2
    simp only [List.mem_cons, Value.ownBlock, Option.toList_some, List.not_mem_nil, or_false, not_or]
    omega
  have p1 := hT3.cell (PB.at_ 1 : w1.cell? ⟨w2.heap.size, 1, none⟩ = some (.int .i64 i)) hpn
  have HR : Calls Tryz.prog 66 #[.pointer (some ⟨N, 0, none⟩), .int .i64 i] w3 fun e w' => e = .returned (.bool false) ∧ w' = w3 := by
    by_cases hin2 : i < n
    · have := net_runs hN3.nt hin2
      rw [X.out.1 hin2] at this
      exact this
    · exact net_runs_out hN3.nt (by omega)
  have Z := Lib.hid (And.intro hN3 (And.intro ((Turn.of_below _ X.out.2.1).trans hT3) hv3))
  clear hN3 hT3 hv3 PB hpn
  go_wp2_with fail
  refine HR.mono ?_
  rintro e w4 ⟨rfl, rfl⟩
  clear HR
  go_wp2_with fail
  go_ret
  exact ⟨rfl, v', Z.out.1, Z.out.2.1, Z.out.2.2⟩
end
end Go.Proofs.YtkchckeecfalhaaGreat

namespace Go.Proofs.YtkchckeecfalhaaGreat
open Go.RowKit Go.Maps Rm
attribute [local go_sem] Oper.semAt_some

section
variable {w : World} {N MB n : Nat}
/-- P k: behind k machines' ticks; Q j: where j datagrams wait at most -/
theorem net_round {P : Nat → World → Prop} {Q : Nat → World → Prop} (hn8 : n ≤ 8) (h0 : P 0 w)
    (hn : w.cell? ⟨N, 0, none⟩ = some (.slice (some ⟨MB, 0, none⟩) n n))
    (ht : ∀ k wr, k < n → P k wr → Calls Tryz.prog 34 #[.pointer (some ⟨N, 0, none⟩), .int .i64 k] wr fun e w' => ∃ z : Int, e = .returned (.int .i64 z) ∧ P (k + 1) w')
    (hs : ∀ wr, P n wr → ∃ J, Q J wr)
    (hw : ∀ j wr, Q j wr → Calls Tryz.prog 36 #[.pointer (some ⟨N, 0, none⟩)] wr fun e w' => e = .returned (.int .i64 (j : Int)) ∧ w' = wr)
    (hd : ∀ j wr, Q (j + 1) wr → Calls Tryz.prog 59 #[.pointer (some ⟨N, 0, none⟩), .int .i64 0, .int .i64 1024] wr fun e w' => ∃ z : Int, e = .returned (.int .i64 z) ∧ Q j w') :
    Calls Tryz.prog 24 #[.pointer (some ⟨N, 0, none⟩)] w fun e w' => e = .returned (.tuple #[]) ∧ Q 0 w' := by
  have c0 := hn
  have H := Lib.hid (And.intro hn (And.intro ht (And.intro hs (And.intro hw hd))))
  have HP := Lib.hid h0
  clear hn ht hs hw hd h0
  go_enter Tryz.func24, Tryz.ntmps24
  go_wp2_with fail
  clear c0
  go_loopw [8] (fun ix wr => ∃ k : Nat, ix = .int .i64 k ∧ k ≤ n ∧ Hid (P k wr)) (fun ix _ => n - (intOf ix).toNat)
  case atStart => exact ⟨0, rfl, by omega, HP⟩
  case round =>
    clear HP
    obtain ⟨k, rfl, hk, hB⟩ := hrel
    by_cases hkn : k < n
    · have hin : (k : Int) < (n : Int) := by omega
      have HT := H.out.2.1 k wr hkn hB.out
      clear hB
      go_wp2_with fail
      refine HT.mono ?_
      rintro e w2 ⟨z, rfl, hP⟩
      have R := Lib.hid hP
      clear hP HT
      go_wp2_with fail
      go_roundw
      case rel => exact ⟨k + 1, by go_num, by omega, R⟩
      case measure => simp [intOf]; omega
    · obtain rfl : k = n := by omega
      obtain ⟨J, hQ0⟩ := H.out.2.2.1 wr hB.out
      have hQ := Lib.hid hQ0
      clear hQ0
      clear hB
      go_wp2_with fail
      go_loopg [] J (fun g wr2 => Hid (Q g wr2))
      case atStart => exact hQ
      case round =>
        clear hQ
        have HWt := H.out.2.2.2.1 gk _ hrel.out
        by_cases hg : gk = 0
        · subst hg
          go_wp2_with fail
          refine HWt.mono ?_
          rintro e w5 ⟨rfl, rfl⟩
          go_wp2_with fail
          refine bodyPost_end (v := .tuple #[]) (results_none rfl _ _ _) rfl ⟨rfl, hrel.out⟩
        · obtain ⟨g, rfl⟩ : ∃ g, gk = g + 1 := ⟨gk - 1, by omega⟩
          have HD := H.out.2.2.2.2 g _ hrel.out
          have d0 : (0 : Int) < ((g + 1 : Nat) : Int) := by omega
          go_wp2_with fail
          refine HWt.mono ?_
          rintro e w5 ⟨rfl, rfl⟩
          clear hrel
          go_wp2_with fail
          refine HD.mono ?_
          rintro e w6 ⟨z, rfl, hQ6⟩
          have R := Lib.hid hQ6
          clear hQ6 HD HWt
          go_wp2_with fail
          go_roundg g
          case measure => omega
          case rel => exact R
end
end Go.Proofs.YtkchckeecfalhaaGreat

namespace Go.Proofs.YtkchckeecfalhaaGreat
open Go.RowKit Go.Maps Rm
attribute [local go_sem] Oper.semAt_some

section
variable {w : World} {N MB n : Nat} {ms : Nat → Ma} {v : Value}
set_option maxRecDepth 100000 in
set_option maxHeartbeats 1000000 in
theorem net_link (h : Nt w N MB n ms v) {a b : Nat} (ha : a < n) (hb : b < n) (hab : a ≠ b) {cost : Int} (h0 : 0 ≤ cost) (h1 : cost ≤ 1000) :
    Calls Tryz.prog 23 #[.pointer (some ⟨N, 0, none⟩), .int .i64 a, .int .i64 b, .int .i64 cost] w fun e w' => ∃ F G, e = .returned (.int .i64 0) ∧ Nt w' N MB n (puts (puts ms a ((ms a).linked b cost F)) b ((ms b).linked a cost G)) v ∧ Turn (MB :: ((ms a).F ++ (ms b).F)) w w' ∧ (∀ y, y ∈ F → y ∈ (ms a).F ∨ w.heap.size ≤ y) ∧ (∀ y, y ∈ G → y ∈ (ms b).F ∨ w.heap.size ≤ y) := by
  have H1 := net_has_in h ha
  have H2 := net_has_in h hb
  have h8 := h.n8
  have c0 : w.cell? ⟨N, 0, none⟩ = some (.slice (some ⟨MB, 0, none⟩) n n) := h.head.at_ 0
  have hin : (a : Int) < (n : Int) := by omega
  have hin2 : (b : Int) < (n : Int) := by omega
  have d1 : decide (cost < 0) = false := decide_eq_false (by omega)
  have d2 : decide ((1000 : Int) < cost) = false := decide_eq_false (by omega)
  have d3 : ((a : Int) == (b : Int)) = false := beq_eq_false_iff_ne.2 (by omega)
  have HA := net_mlink h ha (k := b) (by omega) h0 h1
  have H := Lib.hid (And.intro h (And.intro hab (And.intro h0 h1)))
  clear h hab h0 h1
  go_enter Tryz.func23, Tryz.ntmps23
  go_wp2_with fail
  refine H1.mono ?_
  rintro e w2 ⟨rfl, rfl⟩
  go_wp2_with fail
  refine H2.mono ?_
  rintro e w2 ⟨rfl, rfl⟩
  go_wp2_with fail
  refine HA.mono ?_
  rintro e w1 ⟨F, rfl, hN, ht, hF⟩
  have c1 : w1.cell? ⟨N, 0, none⟩ = some (.slice (some ⟨MB, 0, none⟩) n n) := hN.head.at_ 0
  have HB := net_mlink hN hb (k := a) (by omega) H.out.2.2.1 H.out.2.2.2
  rw [puts_other (Ne.symm H.out.2.1)] at HB
  have X := Lib.hid (And.intro ht hF)
  clear H1 H2 HA hN ht hF c0
  go_wp2_with fail
  refine HB.mono ?_
  rintro e w2 ⟨G, rfl, hN, ht, hG⟩
  have Y := Lib.hid (And.intro hN (And.intro ht hG))
  clear HB hN ht hG c1
  go_wp2_with fail
  go_ret
  have hsz := X.out.1.size
  refine ⟨F, G, rfl, Y.out.1, (X.out.1.mono fun x hx => ?_).trans (Y.out.2.1.mono fun x hx => ?_), X.out.2, fun y hy => (Y.out.2.2 y hy).imp id (Nat.le_trans hsz)⟩
  · rcases List.mem_cons.1 hx with e | e
    · exact List.mem_cons.2 (.inl e)
    · exact List.mem_cons_of_mem _ (List.mem_append_left _ e)
  · rcases List.mem_cons.1 hx with e | e
    · exact List.mem_cons.2 (.inl e)
    · exact List.mem_cons_of_mem _ (List.mem_append_right _ e)
end
end Go.Proofs.YtkchckeecfalhaaGreat

namespace Go.Proofs.YtkchckeecfalhaaGreat
open Go.RowKit Go.Maps Rm
attribute [local go_sem] Oper.semAt_some

section
variable {w : World} {N MB n : Nat} {ms : Nat → Ma} {v : Value}
set_option maxRecDepth 100000 in
set_option maxHeartbeats 1000000 in
theorem net_own (h : Nt w N MB n ms v) {i : Nat} (hi : i < n) {d R room sp : Nat} {M : Mr} {F : List Nat} {c : Nat → Int} {z : Dz} (hm : ms i = ⟨d, some ⟨R, room + 1, sp, M⟩, F, c, z⟩)
    {a : Nat} {len : Int} (hp : Pk.ok ⟨a, len⟩) (hright : Am.right a len = true) (hrt : right ⟨2, 0, 0, 0, a, len, true, 0, 0⟩ = true) (hn : M.sm.own ⟨a, len⟩ = none)
    (hfew : ∀ xs : List Pk, xs.Pairwise ltP → (∀ x, x ∈ xs ↔ x.ok ∧ (M.sm.own x).isSome = true) → xs.length < 16) :
    Calls Tryz.prog 31 #[.pointer (some ⟨N, 0, none⟩), .int .i64 i, .agg #[.int .u32 a, .int .i64 len], .bool true] w fun e w' => ∃ F', e = .returned (.int .i64 0) ∧ Nt w' N MB n (puts ms i ⟨d, some ⟨R, room, sp, { M with sm := app M.sm ⟨2, 0, 0, 0, a, len, true, 0, 0⟩ }⟩, F', c, z⟩) v ∧ Turn F w w' ∧ (∀ y, y ∈ F' → y ∈ F ∨ w.heap.size ≤ y) := by
  have hb := below_new w (.cells #[.int .u32 a, .int .i64 len] 58)
  have PB := Blk.new w 58 #[.int .u32 a, .int .i64 len]
  have hsz := size_new w (.cells #[.int .u32 a, .int .i64 len] 58)
  have h1 := h.held hb
  have hz := h1.mas.ok i hi
  rw [hm] at hz
  have H2 := net_runs h1 hi
  rw [hm] at H2
  replace H2 : Calls Tryz.prog 66 #[.pointer (some ⟨N, 0, none⟩), .int .i64 i] (w.alloc (.cells #[.int .u32 a, .int .i64 len] 58)) fun e w' => e = .returned (.bool true) ∧ w' = w.alloc (.cells #[.int .u32 a, .int .i64 len] 58) := H2
  have c0 : (w.alloc (.cells #[.int .u32 a, .int .i64 len] 58)).cell? ⟨N, 0, none⟩ = some (.slice (some ⟨MB, 0, none⟩) n n) := h1.head.at_ 0
  have c1 : (w.alloc (.cells #[.int .u32 a, .int .i64 len] 58)).cell? ⟨MB, i * 10, none⟩ = some (.pointer (some ⟨R, 0, none⟩)) := h1.cell hi (j := 0) (by rw [hm]; rfl)
  have c2 : (w.alloc (.cells #[.int .u32 a, .int .i64 len] 58)).cell? ⟨w.heap.size, 0, none⟩ = some (.int .u32 a) := PB.at_ 0
  have c3 : (w.alloc (.cells #[.int .u32 a, .int .i64 len] 58)).cell? ⟨w.heap.size, 1, none⟩ = some (.int .i64 len) := PB.at_ 1
  have hin : (i : Int) < (n : Int) := by omega
  have HO := rz_own ((hz.some rfl).held (Below.refl _ _).drew) hp hright hrt hn hfew
  have hlt : ∀ x, x ∈ F → x < w.heap.size := fun x hx => (h.mas.ok i hi).lt (by rw [hm]; exact hx)
  have hNF : N ∉ F := by have := h.nF i hi; rw [hm] at this; exact this
  have hMF : MB ∉ F := by have := h.mas.mb i hi; rw [hm] at this; exact this
  have X := Lib.hid (And.intro h1 (And.intro hm (And.intro hb (And.intro hlt (And.intro hNF (And.intro hMF hsz))))))
  clear hlt hNF hMF h h1 hm hp hright hrt hn hfew hz PB
  go_enter Tryz.func31, Tryz.ntmps31
  go_wp2_with fail
  generalize w.alloc (.cells #[.int .u32 a, .int .i64 len] 58) = w1 at *
  refine H2.mono ?_
  rintro e w2 ⟨rfl, rfl⟩
  go_wp2_with fail
  clear H2
  refine wp_region_held_drew (S := fun u => u.cell? ⟨N, 0, none⟩ = some (.slice (some ⟨MB, 0, none⟩) n n) ∧ u.cell? ⟨MB, i * 10, none⟩ = some (.pointer (some ⟨R, 0, none⟩)) ∧ u.cell? ⟨w.heap.size, 0, none⟩ = some (.int .u32 a) ∧ u.cell? ⟨w.heap.size, 1, none⟩ = some (.int .i64 len)) (by kernel_rfl) ⟨c0, c1, c2, c3⟩ (fun hHeld => ?_)
  refine take_list (i := 0) (v := .pointer (some ⟨N, 0, none⟩)) rfl (by kernel_rfl) (by kernel_rfl) (by kernel_rfl) (fun _ _ _ h => h) (.inl ⟨rfl, ?_⟩) hHeld ?_
  · (intro w hSw; go_simp)
  go_frame
  refine take_list (i := 1) (v := .pointer (some ⟨N, 0, none⟩)) rfl (by kernel_rfl) (by kernel_rfl) (by kernel_rfl) (fun _ _ _ h => h) (.inl ⟨rfl, ?_⟩) hHeld ?_
  · (intro w hSw; go_simp)
  go_frame
  refine take_list (i := 2) (v := .pointer (some ⟨N, 0, none⟩)) rfl (by kernel_rfl) (by kernel_rfl) (by kernel_rfl) (fun _ _ _ h => h) (.inl ⟨rfl, ?_⟩) hHeld ?_
  · (intro w hSw; go_simp)
  go_frame
  refine take_list (i := 3) (v := .slice (some ⟨MB, 0, none⟩) n n) rfl (by kernel_rfl) (by kernel_rfl) (by kernel_rfl) (fun _ _ _ h => h) (.inl ⟨rfl, ?_⟩) hHeld ?_
  · (intro w hSw; go_simp)
  go_frame
  refine take_list (i := 4) (v := .int .i64 i) rfl (by kernel_rfl) (by kernel_rfl) (by kernel_rfl) (fun _ _ _ h => h) (.inl ⟨rfl, ?_⟩) hHeld ?_
  · (intro w hSw; go_simp)
  go_frame
  refine take_list (i := 5) (v := .pointer (some ⟨MB, i * 10, none⟩)) rfl (by kernel_rfl) (by kernel_rfl) (by kernel_rfl) (fun _ _ _ h => h) (.inl ⟨rfl, ?_⟩) hHeld ?_
  · (intro w hSw; go_simp)
  go_frame
  refine take_list (i := 6) (v := .pointer (some ⟨MB, i * 10, none⟩)) rfl (by kernel_rfl) (by kernel_rfl) (by kernel_rfl) (fun _ _ _ h => h) (.inl ⟨rfl, ?_⟩) hHeld ?_
  · (intro w hSw; go_simp)
  go_frame
  refine take_list (i := 7) (v := .pointer (some ⟨R, 0, none⟩)) rfl (by kernel_rfl) (by kernel_rfl) (by kernel_rfl) (fun _ _ _ h => h) (.inl ⟨rfl, ?_⟩) hHeld ?_
  · (intro w hSw; go_simp)
  go_frame
  refine take_list (i := 8) (v := .agg #[.int .u32 a, .int .i64 len]) rfl (by kernel_rfl) (by kernel_rfl) (by kernel_rfl) (fun _ _ _ h => h) (.inl ⟨rfl, ?_⟩) hHeld ?_
  · (intro w hSw; go_simp)
  go_frame
  refine take_list (i := 9) (v := .bool true) rfl (by kernel_rfl) (by kernel_rfl) (by kernel_rfl) (fun _ _ _ h => h) (.inl ⟨rfl, ?_⟩) hHeld ?_
  · (intro w hSw; go_simp)
  go_frame
  refine ready_list (i := 10) rfl (by kernel_rfl) (fun K hK => ?_)
  go_simp
  refine HO.mono ?_
  rintro e w4 ⟨rfl, hG⟩
  obtain ⟨F4, hz4, t4, n4⟩ := hG
  have hp4 : w.heap.size ∉ F := fun hx => by have := X.out.2.2.2.1 _ hx; omega
  refine hK.out _ _ ⟨t4.cell c0 X.out.2.2.2.2.1, t4.cell c1 X.out.2.2.2.2.2.1, t4.cell c2 hp4, t4.cell c3 hp4⟩ (fun hHeld => ?_)
  clear hK K HO c0 c1 c2 c3
  obtain ⟨F', g1, g2, g3⟩ := (X.out.1.held (Below.refl _ _).drew).goes hi (m := ⟨d, none, [], c, z⟩) (x := ⟨R, room + 1, sp, M⟩) (F := F) (by rw [X.out.2.1]; rfl) ⟨F4, hz4, t4, n4⟩
  have G := Lib.hid (And.intro g1 (And.intro g2 g3))
  clear hz4 t4 n4 g1 g2 g3
  refine take_list (i := 11) (v := .int .i64 0) rfl (by kernel_rfl) (by kernel_rfl) (by kernel_rfl) (fun _ _ _ h => h) (.inl ⟨rfl, ?_⟩) hHeld ?_
  · (intro w hSw; go_simp)
  go_frame
  refine wpAnyH_done (by kernel_rfl) ?_ _
  try go_frame
  clear hHeld
  go_wp2_with fail
  go_ret
  have hbd := X.out.2.2.1.trans ((Below.refl _ _).drew.mono X.out.2.2.1.size)
  refine ⟨rfl, F', G.out.1, (Turn.of_below _ hbd).trans G.out.2.1, fun y hy => (G.out.2.2 y hy).imp id (Nat.le_trans hbd.size)⟩
end
end Go.Proofs.YtkchckeecfalhaaGreat

namespace Go.Proofs.YtkchckeecfalhaaGreat
open Go.RowKit Go.Maps Rm

/-- a router that runs: its journal's room, its table's, what it knows -/
structure Rv where
  room : Nat
  sp : Nat
  M : Mr
/-- a machine, without its blocks -/
structure Sv where
  d : Nat
  r : Option Rv
  c : Nat → Int
  z : Dz
def Ma.sv (m : Ma) : Sv := ⟨m.d, m.r.map fun x => ⟨x.room, x.sp, x.M⟩, m.c, m.z⟩
theorem Ma.sv_none {m : Ma} {d : Nat} {c : Nat → Int} {z : Dz} (h : m.sv = ⟨d, none, c, z⟩) : m = ⟨d, none, m.F, c, z⟩ := by
  obtain ⟨d', r, F, c', z'⟩ := m
  unfold Ma.sv at h
  simp only [Sv.mk.injEq, Option.map_eq_none_iff] at h
  obtain ⟨rfl, rfl, rfl, rfl⟩ := h
  rfl
theorem Ma.sv_some {m : Ma} {d room sp : Nat} {M : Mr} {c : Nat → Int} {z : Dz} (h : m.sv = ⟨d, some ⟨room, sp, M⟩, c, z⟩) : ∃ R, m = ⟨d, some ⟨R, room, sp, M⟩, m.F, c, z⟩ := by
  obtain ⟨d', r, F, c', z'⟩ := m
  unfold Ma.sv at h
  simp only [Sv.mk.injEq, Option.map_eq_some_iff] at h
  obtain ⟨rfl, ⟨⟨R, a, b, e⟩, rfl, h2⟩, rfl, rfl⟩ := h
  simp only [Rv.mk.injEq] at h2
  obtain ⟨rfl, rfl, rfl⟩ := h2
  exact ⟨R, rfl⟩
/-- other machines stay -/
def sets (st : Nat → Sv) (i : Nat) (s : Sv) : Nat → Sv := fun k => if k = i then s else st k
theorem sets_same (st : Nat → Sv) (i : Nat) (s : Sv) : sets st i s i = s := by simp [sets]
theorem sets_other {st : Nat → Sv} {i k : Nat} (h : k ≠ i) (s : Sv) : sets st i s k = st k := by simp [sets, h]
abbrev Dg := Nat × Nat × List Nat
/-- a Net and what is under way; nothing that was there in w0 has turned -/
structure Bn (w0 w : World) (N n : Nat) (st : Nat → Sv) (os : List Dg) : Prop where
  ex : ∃ MB ms v xs, Nw w N MB n ms v xs os ∧ (∀ i, i < n → (ms i).sv = st i) ∧ w0.heap.size ≤ N ∧ w0.heap.size ≤ MB ∧ (∀ i, i < n → ∀ x, x ∈ (ms i).F → w0.heap.size ≤ x) ∧ (∀ x, v.ownBlock = some x → w0.heap.size ≤ x) ∧ Below w0.heap.size w0 w ∧ os.length ≤ 256
section
variable {w0 w w' : World} {N n : Nat} {st : Nat → Sv} {os : List Dg}
theorem Bn.below (h : Bn w0 w N n st os) : Below w0.heap.size w0 w := by
  obtain ⟨MB, ms, v, xs, hW, hst, b1, b2, b3, b4, hB, hl⟩ := h.ex
  exact hB
theorem Bn.n8 (h : Bn w0 w N n st os) : n ≤ 8 := by
  obtain ⟨MB, ms, v, xs, hW, hst, b1, b2, b3, b4, hB, hl⟩ := h.ex
  exact hW.nt.n8
theorem Bn.held (h : Bn w0 w N n st os) (hb : Below w.heap.size w w') : Bn w0 w' N n st os := by
  obtain ⟨MB, ms, v, xs, hW, hst, b1, b2, b3, b4, hB, hl⟩ := h.ex
  exact ⟨MB, ms, v, xs, hW.held hb, hst, b1, b2, b3, b4, hB.trans (hb.mono hB.size), hl⟩
/-- the same machines, in other words -/
theorem Bn.same (h : Bn w0 w N n st os) {st' : Nat → Sv} (hs : ∀ i, i < n → st i = st' i) : Bn w0 w N n st' os := by
  obtain ⟨MB, ms, v, xs, hW, hst, b1, b2, b3, b4, hB, hl⟩ := h.ex
  exact ⟨MB, ms, v, xs, hW, fun i hi => (hst i hi).trans (hs i hi), b1, b2, b3, b4, hB, hl⟩
/-- one machine has become another -/
theorem Bn.one {MB : Nat} {ms : Nat → Ma} {v : Value} {xs : List Pe} (hW : Nw w N MB n ms v xs os) (hst : ∀ i, i < n → (ms i).sv = st i) (b1 : w0.heap.size ≤ N) (b2 : w0.heap.size ≤ MB) (b3 : ∀ i, i < n → ∀ x, x ∈ (ms i).F → w0.heap.size ≤ x) (b4 : ∀ x, v.ownBlock = some x → w0.heap.size ≤ x) (hB : Below w0.heap.size w0 w) (hl : os.length ≤ 256)
    {i : Nat} (hi : i < n) {m : Ma} {s : Sv} (hs : m.sv = s) (hN : Nt w' N MB n (puts ms i m) v) (t : Turn (MB :: (ms i).F) w w') (hF : ∀ y, y ∈ m.F → y ∈ (ms i).F ∨ w.heap.size ≤ y) : Bn w0 w' N n (sets st i s) os := by
  refine ⟨MB, puts ms i m, v, xs, hW.one hi hN t (fun x hx => by simpa using hx) hF, fun k hk => ?_, b1, b2, fun k hk x hx => ?_, b4, hB.trans (t.below (fun y hy => ?_) hB.size), hl⟩
  · by_cases e : k = i
    · subst e; rw [puts_same, sets_same]; exact hs
    · rw [puts_other e, sets_other e]; exact hst k hk
  · by_cases e : k = i
    · subst e
      rw [puts_same] at hx
      rcases hF x hx with e2 | e2
      · exact b3 k hk x e2
      · exact Nat.le_trans hB.size e2
    · rw [puts_other e] at hx; exact b3 k hk x hx
  · rcases List.mem_cons.1 hy with e | e
    · rw [e]; exact b2
    · exact b3 i hi y e
/-! ### the calls -/
theorem bn_new (n : Nat) (h1 : 1 ≤ n) (h8 : n ≤ 8) (sec : Nat) (hs1 : 4 ≤ sec) (hs2 : sec ≤ 512) (w : World) : Calls Tryz.prog 18 #[.int .i64 (n : Int), .int .i64 (sec : Int)] w fun e w' =>
    ∃ (N : Nat) (d : Nat → Nat), e = .returned (.pointer (some ⟨N, 0, none⟩)) ∧ Bn w w' N n (fun i => ⟨d i, none, fun _ => 0, ⟨i + 1, sec / 2 - 1, sm0⟩⟩) [] := by
  refine (net_new n h1 h8 sec hs1 hs2 w).mono ?_
  rintro e w' ⟨ms, rfl, hN, hF, hb, hB⟩
  refine ⟨_, fun i => (ms i).d, rfl, w.heap.size, ms, _, [], ⟨hN, Wy.nil _, fun x hx => ?_⟩, fun i hi => ?_, by omega, Nat.le_refl _, hb, fun x hx => (by cases hx), hB, by simp⟩
  · rcases hx with e | ⟨p, hp, -⟩
    · cases e
    · cases hp
  · have f := hF i hi
    unfold Ma.sv
    rw [f.r, f.c, f.z]
    rfl
theorem bn_waiting (h : Bn w0 w N n st os) : Calls Tryz.prog 36 #[.pointer (some ⟨N, 0, none⟩)] w fun e w' => e = .returned (.int .i64 os.length) ∧ w' = w := by
  obtain ⟨MB, ms, v, xs, hW, hst, b1, b2, b3, b4, hB, hl⟩ := h.ex
  exact net_waiting hW
theorem bn_router_down (h : Bn w0 w N n st os) {i : Nat} (hi : i < n) (hr : (st i).r = none) : Calls Tryz.prog 35 #[.pointer (some ⟨N, 0, none⟩), .int .i64 i] w fun e w' => e = .returned (.pointer none) ∧ w' = w := by
  obtain ⟨MB, ms, v, xs, hW, hst, b1, b2, b3, b4, hB, hl⟩ := h.ex
  have hm := Ma.sv_none (d := (st i).d) (c := (st i).c) (z := (st i).z) ((hst i hi).trans (by rw [← hr]))
  have := net_router_in hW.nt hi
  rw [hm] at this
  exact this
theorem bn_router (h : Bn w0 w N n st os) {i : Nat} (hi : i < n) {d room sp : Nat} {M : Mr} {c : Nat → Int} {z : Dz} (hs : st i = ⟨d, some ⟨room, sp, M⟩, c, z⟩) : Calls Tryz.prog 35 #[.pointer (some ⟨N, 0, none⟩), .int .i64 i] w fun e w' => ∃ R, e = .returned (.pointer (some ⟨R, 0, none⟩)) ∧ w' = w ∧ ∃ F, Rz F w R room sp M := by
  obtain ⟨MB, ms, v, xs, hW, hst, b1, b2, b3, b4, hB, hl⟩ := h.ex
  obtain ⟨R, hm⟩ := Ma.sv_some ((hst i hi).trans hs)
  have := net_router_in hW.nt hi
  rw [hm] at this
  refine this.mono ?_
  rintro e w' ⟨rfl, rfl⟩
  have hk := hW.nt.mas.ok i hi
  rw [hm] at hk
  exact ⟨R, rfl, rfl, _, hk.some rfl⟩
/-- what a machine that boots knows -/
def mrB (id d : Nat) (sm : Sm) (c : Nat → Int) : Mr := lks c 8 (mr1 id d sm)
theorem bn_boot (h : Bn w0 w N n st os) {i : Nat} (hi : i < n) {d room : Nat} {sm : Sm} {c : Nat → Int} (hs : st i = ⟨d, none, c, ⟨i + 1, room, sm⟩⟩) (hlow : ∀ k, 0 ≤ c k ∧ c k ≤ 1000) :
    Calls Tryz.prog 22 #[.pointer (some ⟨N, 0, none⟩), .int .i64 i] w fun e w' => e = .returned (.int .i64 0) ∧ Bn w0 w' N n (sets st i ⟨d, some ⟨room, 90000, mrB (i + 1) d sm c⟩, c, ⟨i + 1, room, sm⟩⟩) os := by
  obtain ⟨MB, ms, v, xs, hW, hst, b1, b2, b3, b4, hB, hl⟩ := h.ex
  have hm := Ma.sv_none ((hst i hi).trans hs)
  have hk := hW.nt.mas.ok i hi
  rw [hm] at hk
  obtain ⟨S, Mp, e1, -⟩ := hk.none rfl
  have e1' : (ms i).F = [d, S, Mp] := e1
  rw [e1'] at hm
  refine (net_boot hW.nt hi hm hlow).mono ?_
  rintro e w' ⟨R, F, rfl, hN, t, hF⟩
  exact ⟨rfl, .one hW hst b1 b2 b3 b4 hB hl hi rfl hN (by rw [e1']; exact t) (by rw [e1']; exact hF)⟩
theorem bn_link (h : Bn w0 w N n st os) {a b : Nat} (ha : a < n) (hb : b < n) (hab : a ≠ b) {cost : Int} (h0 : 0 ≤ cost) (h1 : cost ≤ 1000) :
    Calls Tryz.prog 23 #[.pointer (some ⟨N, 0, none⟩), .int .i64 a, .int .i64 b, .int .i64 cost] w fun e w' => e = .returned (.int .i64 0) ∧
      Bn w0 w' N n (sets (sets st a ⟨(st a).d, (st a).r.map fun x => ⟨x.room, x.sp, x.M.link b cost⟩, fun q => if q = b then cost else (st a).c q, (st a).z⟩) b ⟨(st b).d, (st b).r.map fun x => ⟨x.room, x.sp, x.M.link a cost⟩, fun q => if q = a then cost else (st b).c q, (st b).z⟩) os := by
  obtain ⟨MB, ms, v, xs, hW, hst, b1, b2, b3, b4, hB, hl⟩ := h.ex
  refine (net_link hW.nt ha hb hab h0 h1).mono ?_
  rintro e w' ⟨F, G, rfl, hN, t, hF, hG⟩
  have key : ∀ (i k : Nat) (F : List Nat), i < n → ((ms i).linked k cost F).sv = ⟨(st i).d, (st i).r.map fun x => ⟨x.room, x.sp, x.M.link k cost⟩, fun q => if q = k then cost else (st i).c q, (st i).z⟩ := fun i k F hi => by
    rw [← hst i hi]
    unfold Ma.linked Ma.sv
    simp only [Option.map_map]
    rfl
  refine ⟨rfl, MB, _, v, xs, ⟨hN, hW.wy.turn t fun x hx hm => ?_, fun x hx => ⟨(hW.apart x hx).1, (hW.apart x hx).2.1, fun k hk hm => ?_⟩⟩, fun k hk => ?_, b1, b2, fun k hk x hx => ?_, b4, hB.trans (t.below (fun y hy => ?_) hB.size), hl⟩
  · rcases List.mem_cons.1 hm with e | e
    · exact (hW.apart x hx).2.1 e
    · rcases List.mem_append.1 e with e | e
      · exact (hW.apart x hx).2.2 a ha e
      · exact (hW.apart x hx).2.2 b hb e
  · have hlt := hW.wy.lt hx
    by_cases e : k = b
    · subst e
      rw [puts_same] at hm
      rcases hG x hm with e2 | e2
      · exact (hW.apart x hx).2.2 k hk e2
      · omega
    · rw [puts_other e] at hm
      by_cases e2 : k = a
      · subst e2
        rw [puts_same] at hm
        rcases hF x hm with e3 | e3
        · exact (hW.apart x hx).2.2 k hk e3
        · omega
      · rw [puts_other e2] at hm
        exact (hW.apart x hx).2.2 k hk hm
  · by_cases e : k = b
    · subst e; rw [puts_same, sets_same]; exact key _ _ _ hk
    · rw [puts_other e, sets_other e]
      by_cases e2 : k = a
      · subst e2; rw [puts_same, sets_same]; exact key _ _ _ hk
      · rw [puts_other e2, sets_other e2]; exact hst k hk
  · by_cases e : k = b
    · subst e
      rw [puts_same] at hx
      rcases hG x hx with e2 | e2
      · exact b3 k hk x e2
      · exact Nat.le_trans hB.size e2
    · rw [puts_other e] at hx
      by_cases e2 : k = a
      · subst e2
        rw [puts_same] at hx
        rcases hF x hx with e3 | e3
        · exact b3 k hk x e3
        · exact Nat.le_trans hB.size e3
      · rw [puts_other e2] at hx; exact b3 k hk x hx
  · rcases List.mem_cons.1 hy with e | e
    · rw [e]; exact b2
    · rcases List.mem_append.1 e with e | e
      · exact b3 a ha y e
      · exact b3 b hb y e
theorem bn_own (h : Bn w0 w N n st os) {i : Nat} (hi : i < n) {d room sp : Nat} {M : Mr} {c : Nat → Int} {z : Dz} (hs : st i = ⟨d, some ⟨room + 1, sp, M⟩, c, z⟩)
    {a : Nat} {len : Int} (hp : Pk.ok ⟨a, len⟩) (hright : Am.right a len = true) (hrt : right ⟨2, 0, 0, 0, a, len, true, 0, 0⟩ = true) (hn : M.sm.own ⟨a, len⟩ = none)
    (hfew : ∀ xs : List Pk, xs.Pairwise ltP → (∀ x, x ∈ xs ↔ x.ok ∧ (M.sm.own x).isSome = true) → xs.length < 16) :
    Calls Tryz.prog 31 #[.pointer (some ⟨N, 0, none⟩), .int .i64 i, .agg #[.int .u32 a, .int .i64 len], .bool true] w fun e w' => e = .returned (.int .i64 0) ∧
      Bn w0 w' N n (sets st i ⟨d, some ⟨room, sp, { M with sm := app M.sm ⟨2, 0, 0, 0, a, len, true, 0, 0⟩ }⟩, c, z⟩) os := by
  obtain ⟨MB, ms, v, xs, hW, hst, b1, b2, b3, b4, hB, hl⟩ := h.ex
  obtain ⟨R, hm⟩ := Ma.sv_some ((hst i hi).trans hs)
  refine (net_own hW.nt hi hm hp hright hrt hn hfew).mono ?_
  rintro e w' ⟨F', rfl, hN, t, hF⟩
  exact ⟨rfl, .one hW hst b1 b2 b3 b4 hB hl hi rfl hN (t.mono fun x hx => List.mem_cons_of_mem _ hx) hF⟩
end
end Go.Proofs.YtkchckeecfalhaaGreat

namespace Go.Proofs.YtkchckeecfalhaaGreat
open Go.RowKit Go.Maps Rm Fm Sb

section
variable {w0 w w' : World} {N n : Nat} {st : Nat → Sv} {os : List Dg}
theorem bn_tick (h : Bn w0 w N n st os) {i : Nat} (hi : i < n) {d room sp m1 m2 : Nat} {M : Mr} {c : Nat → Int} {z : Dz} (hs : st i = ⟨d, some ⟨room + m2 + m1, sp, M⟩, c, z⟩)
    (hG : M.Good) (hnow : M.now < 1000000) (hle : M.sm.lease ≤ 1073741824) {p r : Nat} (hf : ∀ M2, Ticks M M2 → Few M2 p r) (hpq : 2 * p + r < 20) (hm1 : M.aged.advN ≤ m1) (hm2 : ∀ M2 rs, Ticks M M2 → Subj M2 rs → M2.needS rs ≤ m2) :
    Calls Tryz.prog 34 #[.pointer (some ⟨N, 0, none⟩), .int .i64 i] w fun e w' => e = .returned (.int .i64 0) ∧ ∃ M2 rs, Ticks M M2 ∧ Subj M2 rs ∧
      Bn w0 w' N n (sets st i ⟨d, some ⟨room, sp, (M2.tellS rs).2⟩, c, z⟩) (sendAll i os (sends M.c (T.Tm.encode (M2.tellS rs).1) 8)) := by
  obtain ⟨MB, ms, v, xs, hW, hst, b1, b2, b3, b4, hB, hl⟩ := h.ex
  obtain ⟨R, hm⟩ := Ma.sv_some ((hst i hi).trans hs)
  have hk := hW.nt.mas.ok i hi
  rw [hm] at hk
  refine (net_tick hW hi hl hm (rz_tick (hk.some rfl) hG hnow hle hf hpq hm1 hm2)).mono ?_
  rintro e w' ⟨rfl, M2, rs, F', v', xs', k1, k2, hW', t, hF, hv⟩
  refine ⟨rfl, M2, rs, k1, k2, MB, _, v', xs', hW', fun q hq => ?_, b1, b2, fun q hq x hx => ?_, fun x hx => ?_, hB.trans (t.below (fun y hy => ?_) hB.size), sendAll_len _ _ hl⟩
  · by_cases e : q = i
    · rw [e, puts_same, sets_same]; rfl
    · rw [puts_other e, sets_other e]; exact hst q hq
  · by_cases e : q = i
    · rw [e, puts_same] at hx
      rcases hF x hx with e2 | e2
      · exact b3 i hi x e2
      · exact Nat.le_trans hB.size e2
    · rw [puts_other e] at hx; exact b3 q hq x hx
  · rcases hv x hx with e | e
    · exact b4 x e
    · exact Nat.le_trans hB.size e
  · rcases List.mem_cons.1 hy with e | e
    · rw [e]; exact b1
    · rcases List.mem_append.1 e with e | e
      · exact b4 y (by simpa using e)
      · exact b3 i hi y e
theorem bn_tick_down (h : Bn w0 w N n st os) {i : Nat} (hi : i < n) (hr : (st i).r = none) : Calls Tryz.prog 34 #[.pointer (some ⟨N, 0, none⟩), .int .i64 i] w fun e w' => e = .returned (.int .i64 3) ∧ w' = w := by
  obtain ⟨MB, ms, v, xs, hW, hst, b1, b2, b3, b4, hB, hl⟩ := h.ex
  have hm := Ma.sv_none (d := (st i).d) (c := (st i).c) (z := (st i).z) ((hst i hi).trans (by rw [← hr]))
  have HR := net_runs hW.nt hi
  rw [hm] at HR
  replace HR : Calls Tryz.prog 66 #[.pointer (some ⟨N, 0, none⟩), .int .i64 i] w fun e w' => e = .returned (.bool false) ∧ w' = w := HR
  clear hm hW hst b1 b2 b3 b4 hB hl h hr
  go_enter Tryz.func34, Tryz.ntmps34
  go_wp2_with fail
  refine HR.mono ?_
  rintro e w2 ⟨rfl, rfl⟩
  go_wp2_with fail
  go_ret
  exact ⟨rfl, rfl⟩
/-- what is under way gets shorter -/
theorem Bn.fewer {MB : Nat} {ms : Nat → Ma} {v v' : Value} {xs' : List Pe} {os' : List Dg} (hst : ∀ i, i < n → (ms i).sv = st i) (b1 : w0.heap.size ≤ N) (b2 : w0.heap.size ≤ MB) (b3 : ∀ i, i < n → ∀ x, x ∈ (ms i).F → w0.heap.size ≤ x) (b4 : ∀ x, v.ownBlock = some x → w0.heap.size ≤ x) (hB : Below w0.heap.size w0 w)
    (hW : Nw w' N MB n ms v' xs' os') (t : Turn (N :: v.ownBlock.toList) w w') (hv : v'.ownBlock = v.ownBlock) (hl : os'.length ≤ 256) : Bn w0 w' N n st os' := by
  refine ⟨MB, ms, v', xs', hW, hst, b1, b2, b3, fun x hx => b4 x (by rw [← hv]; exact hx), hB.trans (t.below (fun y hy => ?_) hB.size), hl⟩
  rcases List.mem_cons.1 hy with e | e
  · rw [e]; exact b1
  · exact b4 y (by simpa using e)
theorem bn_lose (h : Bn w0 w N n st os) {k : Nat} (hk : k < os.length) : Calls Tryz.prog 39 #[.pointer (some ⟨N, 0, none⟩), .int .i64 k] w fun e w' => e = .returned (.int .i64 0) ∧ Bn w0 w' N n st (os.eraseIdx k) := by
  obtain ⟨MB, ms, v, xs, hW, hst, b1, b2, b3, b4, hB, hl⟩ := h.ex
  refine (net_lose hW hk).mono ?_
  rintro e w' ⟨rfl, v', hW', t, hv⟩
  exact ⟨rfl, .fewer hst b1 b2 b3 b4 hB hW' t hv (by have := List.length_eraseIdx_le os k; omega)⟩
theorem bn_deliver (h : Bn w0 w N n st os) {k : Nat} (hk : k < os.length) {fr i : Nat} {bs : List Nat} (ho : os[k] = (fr, i, bs)) (hi : i < n) {d room sp : Nat} {M : Mr} {c : Nat → Int} {z : Dz} (hs : st i = ⟨d, some ⟨room, sp + 1000, M⟩, c, z⟩)
    {most : Int} {m : Nat} (hmm : min (max most 0) (bs.length : Int) = m) (h256 : ∀ c ∈ bs, c < 256) (hbl : bs.length ≤ 5000) (hdec : ∀ us, T.Tm.decode (bs.take m) = some us → us.length ≤ 1000) :
    Calls Tryz.prog 59 #[.pointer (some ⟨N, 0, none⟩), .int .i64 k, .int .i64 most] w fun e w' => e = .returned (.int .i64 0) ∧ Bn w0 w' N n (sets st i ⟨d, some ⟨room, sp, M.receive fr (bs.take m)⟩, c, z⟩) (os.eraseIdx k) := by
  obtain ⟨MB, ms, v, xs, hW, hst, b1, b2, b3, b4, hB, hl⟩ := h.ex
  obtain ⟨R, hm⟩ := Ma.sv_some ((hst i hi).trans hs)
  refine (net_deliver hW hl hk ho hi hm hmm h256 hbl hdec).mono ?_
  rintro e w' ⟨rfl, F', v', hW', t, hF, hv⟩
  refine ⟨rfl, MB, _, v', _, hW', fun q hq => ?_, b1, b2, fun q hq x hx => ?_, fun x hx => b4 x (by rw [← hv]; exact hx), hB.trans (t.below (fun y hy => ?_) hB.size), by have := List.length_eraseIdx_le os k; omega⟩
  · by_cases e : q = i
    · rw [e, puts_same, sets_same]; rfl
    · rw [puts_other e, sets_other e]; exact hst q hq
  · by_cases e : q = i
    · rw [e, puts_same] at hx
      rcases hF x hx with e2 | e2
      · exact b3 i hi x e2
      · exact Nat.le_trans hB.size e2
    · rw [puts_other e] at hx; exact b3 q hq x hx
  · rcases List.mem_cons.1 hy with e | e
    · rw [e]; exact b1
    · rcases List.mem_append.1 e with e | e
      · exact b4 y (by simpa using e)
      · exact b3 i hi y e
theorem bn_deliver_down (h : Bn w0 w N n st os) {k : Nat} (hk : k < os.length) {fr i : Nat} {bs : List Nat} (ho : os[k] = (fr, i, bs)) (hi : i < n → (st i).r = none) (most : Int) :
    Calls Tryz.prog 59 #[.pointer (some ⟨N, 0, none⟩), .int .i64 k, .int .i64 most] w fun e w' => e = .returned (.int .i64 0) ∧ Bn w0 w' N n st (os.eraseIdx k) := by
  obtain ⟨MB, ms, v, xs, hW, hst, b1, b2, b3, b4, hB, hl⟩ := h.ex
  refine (net_deliver_down hW hk ho (fun h2 => ?_) most).mono ?_
  · have hm := Ma.sv_none (d := (st i).d) (c := (st i).c) (z := (st i).z) ((hst i h2).trans (by rw [← hi h2]))
    rw [hm]
  · rintro e w' ⟨rfl, v', hW', t, hv⟩
    exact ⟨rfl, .fewer hst b1 b2 b3 b4 hB hW' t hv (by have := List.length_eraseIdx_le os k; omega)⟩
/-- a Round: P k are the states behind k machines' ticks, Q those that are left behind each datagram -/
theorem bn_round {P Q : Nat → (Nat → Sv) → List Dg → Prop} (h : Bn w0 w N n st os) (h0 : P 0 st os)
    (ht : ∀ k st os wr, k < n → P k st os → Bn w0 wr N n st os → Calls Tryz.prog 34 #[.pointer (some ⟨N, 0, none⟩), .int .i64 k] wr fun e w' => ∃ (z : Int) (st' : Nat → Sv) (os' : List Dg), e = .returned (.int .i64 z) ∧ P (k + 1) st' os' ∧ Bn w0 w' N n st' os')
    (hs : ∀ st os, P n st os → Q os.length st os) (hq : ∀ j st os, Q j st os → os.length = j)
    (hd : ∀ j st os wr, Q (j + 1) st os → Bn w0 wr N n st os → Calls Tryz.prog 59 #[.pointer (some ⟨N, 0, none⟩), .int .i64 0, .int .i64 1024] wr fun e w' => ∃ (z : Int) (st' : Nat → Sv) (os' : List Dg), e = .returned (.int .i64 z) ∧ Q j st' os' ∧ Bn w0 w' N n st' os') :
    Calls Tryz.prog 24 #[.pointer (some ⟨N, 0, none⟩)] w fun e w' => e = .returned (.tuple #[]) ∧ ∃ st' os', Q 0 st' os' ∧ Bn w0 w' N n st' os' := by
  have h8 := h.n8
  obtain ⟨MB, hMB⟩ : ∃ MB, w.cell? ⟨N, 0, none⟩ = some (.slice (some ⟨MB, 0, none⟩) n n) := by
    obtain ⟨MB, ms, v, xs, hW, -⟩ := h.ex
    exact ⟨MB, hW.nt.head.at_ 0⟩
  refine (net_round (MB := MB) (P := fun k wr => ∃ st os, P k st os ∧ Bn w0 wr N n st os) (Q := fun j wr => ∃ st os, Q j st os ∧ Bn w0 wr N n st os) h8 ⟨st, os, h0, h⟩ hMB ?_ ?_ ?_ ?_).mono ?_
  · rintro k wr hk ⟨st, os, h1, h2⟩
    refine (ht k st os wr hk h1 h2).mono ?_
    rintro e w' ⟨z, st', os', rfl, h3, h4⟩
    exact ⟨z, rfl, st', os', h3, h4⟩
  · rintro wr ⟨st, os, h1, h2⟩
    exact ⟨os.length, st, os, hs st os h1, h2⟩
  · rintro j wr ⟨st, os, h1, h2⟩
    have := bn_waiting h2
    rw [hq j st os h1] at this
    exact this
  · rintro j wr ⟨st, os, h1, h2⟩
    refine (hd j st os wr h1 h2).mono ?_
    rintro e w' ⟨z, st', os', rfl, h3, h4⟩
    exact ⟨z, rfl, st', os', h3, h4⟩
  · rintro e w' ⟨rfl, st', os', h1, h2⟩
    exact ⟨rfl, st', os', h1, h2⟩
end
end Go.Proofs.YtkchckeecfalhaaGreat

