/- The law of ImageValid: its walk. -/
import Derived.Test.YtoagnajljdbobaaZ
import Derived.Test.YtoagnajljdbobaaDC
import Derived.Deep.Cut
import Derived.Deep.CutRange
namespace Go.Proofs.Ytoagnajljdbobaa
open Go.RowKit
attribute [local go_sem ↓] Go.wp_at_zero Go.wp_at_succ

theorem Rd_blk {w : World} {k t : Nat} {u : Value} {fr : Nat × Nat} (h : w.heap[k]? = some (.cells #[u] t fr)) : Rd w w.heap.size 1 (some ⟨k, 0, none⟩) 1 [u] := by
  refine ⟨rfl, fun _ => ⟨_, rfl, blk_lt h, fun j v hj => ?_⟩⟩
  match j, hj with
  | 0, hj => simp at hj; subst hj; simp only [Addr.add]; exact blk_cell h 0
theorem heap_alloc2' (w : World) (o p : Obj) : ((w.alloc o).alloc p).heap[w.heap.size + 1]? = some p := by
  have h := heap_alloc_new (w.alloc o) p
  have e : (w.alloc o).heap.size = w.heap.size + 1 := by simp
  rw [e] at h
  exact h
theorem heap_alloc3 (w : World) (o p q : Obj) : (((w.alloc o).alloc p).alloc q).heap[w.heap.size + 1 + 1]? = some q := by
  have h := heap_alloc_new ((w.alloc o).alloc p) q
  have e : ((w.alloc o).alloc p).heap.size = w.heap.size + 1 + 1 := by simp
  rw [e] at h
  exact h
theorem store_keep {w : World} {k n o : Nat} {x : Value} {y : Obj} (_h : w.heap[k]? = some y) (q : w.cell? ⟨n, o, none⟩ = some x) (hn : n < k) (u u' : Value) : ((w.setCell ⟨k, 0, none⟩ u).setCell ⟨k, 1, none⟩ u').cell? ⟨n, o, none⟩ = some x :=
  ((below_2set k (Nat.le_refl _) u u').cell (p := ⟨n, o, none⟩) hn).trans q
theorem make_run17 (w : World) : ∃ w', Sem.run Try.prog (Instr.makeSlice 23 (.int .i64 17) (.int .i64 17)) w = Result.ok (.slice (some ⟨w.heap.size, 0, none⟩) 17 17) w' ∧ OwnB w' w.heap.size (.slice (some ⟨w.heap.size, 0, none⟩) 17 17) (List.replicate 17 false) ∧ Below w.heap.size w w' := by
  obtain ⟨i, hi, hz, hs1, hb1⟩ := info_parts (elB).info
  obtain ⟨w', hrun, r1, r2⟩ := run_make_full (P := Try.prog) w w.heap.size 23 4 i (.bool false) 1 elB.under hi hz hs1 .i64 .i64 17 (by omega) (by unfold maxLen; omega) (Nat.le_refl _)
  exact ⟨w', hrun, own_of_madeB r1, (Below.refl _ _).grown r2 (Nat.le_refl _) (by simp)⟩
theorem tight_bad (m : Img) : imgOK ⟨m.bits, m.words ++ [32768]⟩ = false := by
  unfold imgOK wordsOK; simp [inB]
theorem wide_bad (l : List Int) : imgOK ⟨List.replicate 17 false, l⟩ = false := by
  unfold imgOK; simp
/-- What stands behind the first new image. -/
structure Tight (W : World) (k g : Nat) (A1 : Option Addr) (c1 : Nat) (A2 : Option Addr) (c2 : Nat) (A5 : Option Addr) (c5 : Nat) (m : Img) (w : World) : Prop where
  old : Held w k A1 c1 A2 c2 m
  new : Held w g A1 c1 A5 c5 ⟨m.bits, m.words ++ [32768]⟩
  bel : Below W.heap.size W w
  kg : k < g
theorem Tight.below {W w w' : World} {k g : Nat} {A1 A2 A5 : Option Addr} {c1 c2 c5 : Nat} {m : Img} (h : Tight W k g A1 c1 A2 c2 A5 c5 m w) (hb : Below w.heap.size w w') : Tight W k g A1 c1 A2 c2 A5 c5 m w' :=
  ⟨h.old.below hb, h.new.below hb, h.bel.trans (hb.mono h.bel.size), h.kg⟩
theorem Tight.tcells {W w : World} {k g : Nat} {A1 A2 A5 : Option Addr} {c1 c2 c5 : Nat} {m : Img} (h : Tight W k g A1 c1 A2 c2 A5 c5 m w) : w.cell? ⟨g, 0, none⟩ = some (.slice A1 m.bits.length c1) ∧ w.cell? ⟨g, 1, none⟩ = some (.slice A5 (m.words.length + 1) c5) := by
  have h := h.new.cells
  simpa using h
theorem tight_call (v : Value) (m : Img) (w : World) (h : ImgR w w.heap.size v ⟨m.bits, m.words ++ [32768]⟩) : Calls Try.prog 21 #[v] w fun e w' => e = .returned (.bool false) ∧ Below w.heap.size w w' :=
  (iImageValid_any v _ w h).mono fun _ _ ⟨he, hb⟩ => ⟨by rw [he, tight_bad], hb⟩
theorem wide_call (v : Value) (l : List Int) (w : World) (h : ImgR w w.heap.size v ⟨List.replicate 17 false, l⟩) : Calls Try.prog 21 #[v] w fun e w' => e = .returned (.bool false) ∧ Below w.heap.size w w' :=
  (iImageValid_any v _ w h).mono fun _ _ ⟨he, hb⟩ => ⟨by rw [he, wide_bad], hb⟩
theorem wide_read {w : World} {b c : Nat} {v : Value} {A2 : Option Addr} {l : List Int} (h : OwnB w b v (List.replicate 17 false)) (h2 : IntsR w w.heap.size (.slice A2 l.length c) l) : ImgR w w.heap.size (.agg #[v, .slice A2 l.length c]) ⟨List.replicate 17 false, l⟩ :=
  ⟨_, _, rfl, OwnB.read h (by simp), h2⟩
theorem own_blk_ne {w : World} {b e s n k t : Nat} {v : Value} {xs : List Value} {cs : Array Value} {fr : Nat × Nat} (h : w.ownsRow b e s v n xs) (hk : w.heap[k]? = some (.cells cs t fr)) (ht : e ≠ t) : some k ≠ v.ownBlock := by
  intro hc
  exact own_blk h hk ht hc.symm
theorem Rd_new1' {W : World} {g t : Nat} {u : Value} (h : W.heap.size = g) : Rd (W.alloc (.cells #[u] t)) (g + 1) 1 (some ⟨g, 0, none⟩) 1 [u] := by
  subst h; exact Rd.new1 _ _ _
theorem zkeep {W w5 : World} {b e s n k t : Nat} {v : Value} {xs : List Value} {cs : Array Value} {fr : Nat × Nat} (hg : W.grownBy w5 v.ownBlock) (ho : W.ownsRow b e s v n xs) (hk : W.heap[k]? = some (.cells cs t fr)) (ht : e ≠ t) : w5.heap[k]? = some (.cells cs t fr) :=
  (hg.block k (blk_lt hk) (own_blk_ne ho hk ht)).trans hk
theorem tight_store {W w3 w5 : World} {k g : Nat} {A1 A2 A5 : Option Addr} {c1 c2 c5 : Nat} {m : Img} {x y : Value} (hH : Held w3 k A1 c1 A2 c2 m) (hB : Below W.heap.size W w3) (B5 : Below w3.heap.size w3 w5)
    (ho : w5.ownsRow w3.heap.size 3 1 (.slice A5 (m.words.length + 1) c5) (m.words.length + 1) (m.words.map (.int .i64) ++ [.int .i64 32768])) (hz : w5.heap[g]? = some (.cells #[x, y] 26 (0, 0))) (hg : w3.heap.size ≤ g) (hs : smallM m 17 9) :
    Tight W k g A1 c1 A2 c2 A5 c5 m ((w5.setCell ⟨g, 0, none⟩ (.slice A1 m.bits.length c1)).setCell ⟨g, 1, none⟩ (.slice A5 (m.words.length + 1) c5)) := by
  have b := B5.trans (below_2set g hg (.slice A1 m.bits.length c1) (.slice A5 (m.words.length + 1) c5))
  have o := hH.below b
  have h1 := heap_setCell_same w5 g 0 _ _ (.slice A1 m.bits.length c1) hz
  refine ⟨o, ⟨?_, ?_⟩, hB.trans (b.mono hB.size), by have := blk_lt hH.blk; omega⟩
  · simpa using heap_setCell_same _ g 1 _ _ (.slice A5 (m.words.length + 1) c5) h1
  · refine ⟨_, _, rfl, o.bits, ?_⟩
    have ho' : OwnI ((w5.setCell ⟨g, 0, none⟩ (.slice A1 m.bits.length c1)).setCell ⟨g, 1, none⟩ (.slice A5 (m.words.length + 1) c5)) w3.heap.size (.slice A5 (m.words ++ [32768]).length c5) (m.words ++ [32768]) := by
      unfold OwnI
      have := own_setCell (p := ⟨g, 1, none⟩) (own_setCell (p := ⟨g, 0, none⟩) ho hz (by decide) (.slice A1 m.bits.length c1)) h1 (by decide) (.slice A5 (m.words.length + 1) c5)
      simpa using this
    exact OwnI.read ho' (by simp; have := hs.2.1; omega) (fun x hx => by
      rcases List.mem_append.1 hx with h | h
      · have := hs.2.2 x h; omega
      · simp at h; omega)
theorem tight_alloc {W w3 w5 : World} {k : Nat} {A1 A2 A5 : Option Addr} {c1 c2 c5 : Nat} {m : Img} (hH : Held w3 k A1 c1 A2 c2 m) (hB : Below W.heap.size W w3) (B5 : Below w3.heap.size w3 w5)
    (ho : w5.ownsRow w3.heap.size 3 1 (.slice A5 (m.words.length + 1) c5) (m.words.length + 1) (m.words.map (.int .i64) ++ [.int .i64 32768])) (hs : smallM m 17 9) :
    Tight W k w5.heap.size A1 c1 A2 c2 A5 c5 m (w5.alloc (.cells #[.slice A1 m.bits.length c1, .slice A5 (m.words.length + 1) c5] 26)) := by
  have b := B5.alloc B5.size (.cells #[.slice A1 m.bits.length c1, .slice A5 (m.words.length + 1) c5] 26)
  have o := hH.below b
  refine ⟨o, ⟨?_, ?_⟩, hB.trans (b.mono hB.size), by have := blk_lt hH.blk; have := B5.size; omega⟩
  · simpa using heap_alloc_new w5 (.cells #[.slice A1 m.bits.length c1, .slice A5 (m.words.length + 1) c5] 26 (0, 0))
  · refine ⟨_, _, rfl, o.bits, ?_⟩
    have ho' : OwnI (w5.alloc (.cells #[.slice A1 m.bits.length c1, .slice A5 (m.words.length + 1) c5] 26)) w3.heap.size (.slice A5 (m.words ++ [32768]).length c5) (m.words ++ [32768]) := by
      unfold OwnI
      have := World.ownsRow.alloc ho (.cells #[.slice A1 m.bits.length c1, .slice A5 (m.words.length + 1) c5] 26)
      simpa using this
    exact OwnI.read ho' (by simp; have := hs.2.1; omega) (fun x hx => by
      rcases List.mem_append.1 hx with h | h
      · have := hs.2.2 x h; omega
      · simp at h; omega)
theorem FnImageValid_long (a : Option Addr) (n c : Nat) (w : World) (h : 1048576 < n) (_hn : n ≤ 9223372036854775807) : Calls Try.prog 3 #[.slice a n c] w (LawPost w) := by
  go_enter Try.func3, Try.ntmps3
  go_wp2
  go_ret
  exact ⟨rfl, Below.refl _ _⟩
set_option maxHeartbeats 20000000 in
theorem FnImageValid_core (v : Value) (l : List Int) (w : World) (h : BytesR w w.heap.size v l) (hl : l.length ≤ 1048576) :
    Calls Try.prog 3 #[v] w (LawPost w) := by
  have HO := Lib.hid (drawImageValid_any v l w h)
  obtain ⟨A, c, rfl, -⟩ := h
  go_enter Try.func3, Try.ntmps3
  go_wp2_with fail
  refine HO.out.mono ?_
  rintro e w1 ⟨v, m, rfl, hO1, hS1, hb1⟩
  clear HO
  obtain ⟨A1, c1, A2, c2, rfl, -, -⟩ := hO1.form
  have hH := Held.new hO1 (hS1.up (by omega) (by omega))
  have B1 : Below w.heap.size w (w1.alloc (.cells #[.slice A1 m.bits.length c1, .slice A2 m.words.length c2] 26)) := hb1.alloc hb1.size _
  have hbl := hS1.1
  have hwl := hS1.2.1
  clear hO1 hb1
  go_wp2_with fail
  refine (iImageValid_any _ m _ hH.read).mono ?_
  rintro e w2 ⟨rfl, hb2⟩
  have hH2 := hH.below hb2
  have B2 := B1.trans (hb2.mono (by have := B1.size; simp at this ⊢; omega))
  obtain ⟨p0, p1⟩ := hH2.cells
  clear hH B1 hb2
  go_wp2_with fail
  refine (sImageValid_any _ m _ hH2.read).mono ?_
  rintro e w3 ⟨rfl, hb3⟩
  have hH3 := hH2.below hb3
  have B3 := B2.trans (hb3.mono B2.size)
  clear hH2 B2 hb3 p0 p1
  obtain ⟨p0, p1⟩ := hH3.cells
  have s3 := B3.size
  cases hok : imgOK m
  · go_wp2_with fail
    refine (alive_any _).mono ?_
    rintro e w9 ⟨rfl, hb9⟩
    go_wp2
    go_ret
    exact ⟨rfl, B3.trans (hb9.mono s3)⟩
  · have HK := Lib.hid hok
    clear hok
    obtain ⟨Aw, cw, ew, hRw, -⟩ := hH3.wds
    injection ew with ew1 ew2 ew3
    subst ew1; subst ew3
    have l31 := blk_lt hH3.blk
    have k3 : ∀ (o p q : Obj) (x : Value) (i : Nat), w3.cell? ⟨w1.heap.size, i, none⟩ = some x → (((w3.alloc o).alloc p).alloc q).drew.cell? ⟨w1.heap.size, i, none⟩ = some x := fun o p q x i h => (((((Below.refl w3.heap.size w3).alloc (Nat.le_refl _) o).alloc (by simp) p).alloc (by simp; omega) q).cell (p := ⟨w1.heap.size, i, none⟩) l31).trans h
    have tok : True := trivial
    go_upto_region 9 with fail
    go_cut [5] from 21 to 29 (fun v5 wx => ∃ g A5 c5, v5 = .pointer (some ⟨g, 0, none⟩) ∧ Tight w w1.heap.size g A1 c1 A2 c2 A5 c5 m wx)
    case first =>
      go_region_held3 (fun w' => w'.cell? ⟨w1.heap.size, 0, none⟩ = some (.slice A1 m.bits.length c1) ∧ w'.cell? ⟨w1.heap.size, 1, none⟩ = some (.slice A2 m.words.length c2)) (first | exact ⟨p0, p1⟩ | exact ⟨q0, q1⟩ | exact ⟨r0 _ _, r1 _ _⟩ | exact ⟨k3 _ _ _ _ _ p0, k3 _ _ _ _ _ p1⟩ | go_keep)
        (first
      | (have hL' := hL; refine step_append (v := .slice A4 m.words.length c4) (n := m.words.length) (xs := m.words.map (.int .i64)) (base := w3.heap.size) (m := 1) (c := 1) (news := [.int .i64 32768]) (by rfl) _ _ 24 (by rfl) elI (by rfl) (show w4.ownsRow _ _ _ _ _ _ from hown1') (by rfl) (Rd_blk hL) ?_ ?_ ?_ ?_ ?_; (simp; rfl); omega; omega; (first | omega | (simp <;> omega)); intro u2 w5 hown2 hg2 hx2; have B5 := (show Below w3.heap.size w3 _ from by (repeat (first | exact Below.refl _ _ | assumption | (with_reducible refine Below.drew ?_) | ((with_reducible refine below_al ?_ ?_ _); (first | omega | (simp <;> omega)))))).grown hg2 (by first | omega | (simp <;> omega)) (by intro k hk; have := (hown1'.lt k hk).1; omega); have hH5 := hH3.below B5; obtain ⟨q0, q1⟩ := hH5.cells; have s5 := hg2.size; (first | (have hZ5 := zkeep hg2 (hown1') (hZ) (by decide); have z0 := blk_cell hZ5 0; have z1 := blk_cell hZ5 1; have z2 := blk_frozen hZ5 0; have z3 := blk_frozen hZ5 1; have r0 := store_keep hZ5 q0 (by omega); have r1 := store_keep hZ5 q1 (by omega)) | skip); obtain ⟨A5, c5, rfl, -, -⟩ := own_form hown2)
      | (have hL' := hL; refine step_append (v := .slice A4 m.words.length c4) (n := m.words.length) (xs := m.words.map (.int .i64)) (base := w3.heap.size) (m := 1) (c := 1) (news := [.int .i64 32768]) (by rfl) _ _ 24 (by rfl) elI (by rfl) (show (w4.alloc (.cells #[.slice none 0 0, .slice none 0 0] 26)).ownsRow _ _ _ _ _ _ from (World.ownsRow.alloc hown1' (.cells #[.slice none 0 0, .slice none 0 0] 26))) (by rfl) (Rd.alloc (Rd_blk hL) (Nat.le_refl _) (.cells #[.slice none 0 0, .slice none 0 0] 26)) ?_ ?_ ?_ ?_ ?_; (simp; rfl); omega; omega; (first | omega | (simp <;> omega)); intro u2 w5 hown2 hg2 hx2; have B5 := (show Below w3.heap.size w3 _ from by (repeat (first | exact Below.refl _ _ | assumption | (with_reducible refine Below.drew ?_) | ((with_reducible refine below_al ?_ ?_ _); (first | omega | (simp <;> omega)))))).grown hg2 (by first | omega | (simp <;> omega)) (by intro k hk; have := (hown1'.lt k hk).1; omega); have hH5 := hH3.below B5; obtain ⟨q0, q1⟩ := hH5.cells; have s5 := hg2.size; (first | (have hZ5 := zkeep hg2 ((World.ownsRow.alloc hown1' (.cells #[.slice none 0 0, .slice none 0 0] 26))) (heap_alloc_new w4 (.cells #[.slice none 0 0, .slice none 0 0] 26)) (by decide); have z0 := blk_cell hZ5 0; have z1 := blk_cell hZ5 1; have z2 := blk_frozen hZ5 0; have z3 := blk_frozen hZ5 1; have r0 := store_keep hZ5 q0 (by omega); have r1 := store_keep hZ5 q1 (by omega)) | skip); obtain ⟨A5, c5, rfl, -, -⟩ := own_form hown2)
      | (refine step_append (v := .slice A4 m.words.length c4) (n := m.words.length) (xs := m.words.map (.int .i64)) (base := w3.heap.size) (m := 1) (c := 1) (news := [.int .i64 32768]) (by rfl) _ _ 24 (by rfl) elI (by rfl) (show (w4.alloc (.cells #[.int .i64 32768] 3)).ownsRow _ _ _ _ _ _ from (World.ownsRow.alloc hown1' (.cells #[.int .i64 32768] 3))) (by rfl) (Rd.new1 w4 _ _) ?_ ?_ ?_ ?_ ?_; (simp; rfl); omega; omega; (first | omega | (simp <;> omega)); intro u2 w5 hown2 hg2 hx2; have B5 := (show Below w3.heap.size w3 _ from by (repeat (first | exact Below.refl _ _ | assumption | (with_reducible refine Below.drew ?_) | ((with_reducible refine below_al ?_ ?_ _); (first | omega | (simp <;> omega)))))).grown hg2 (by first | omega | (simp <;> omega)) (by intro k hk; have := (hown1'.lt k hk).1; omega); have hH5 := hH3.below B5; obtain ⟨q0, q1⟩ := hH5.cells; have s5 := hg2.size; (first | (have hZ5 := zkeep hg2 ((World.ownsRow.alloc hown1' (.cells #[.int .i64 32768] 3))) (blk_alloc hZ (.cells #[.int .i64 32768] 3)) (by decide); have z0 := blk_cell hZ5 0; have z1 := blk_cell hZ5 1; have z2 := blk_frozen hZ5 0; have z3 := blk_frozen hZ5 1; have r0 := store_keep hZ5 q0 (by omega); have r1 := store_keep hZ5 q1 (by omega)) | skip); obtain ⟨A5, c5, rfl, -, -⟩ := own_form hown2)
      | (refine step_append (v := .slice A4 m.words.length c4) (n := m.words.length) (xs := m.words.map (.int .i64)) (base := w3.heap.size) (m := 1) (c := 1) (news := [.int .i64 32768]) (by rfl) _ _ 24 (by rfl) elI (by rfl) (show ((w4.alloc (.cells #[.int .i64 32768] 3)).alloc (.cells #[.slice none 0 0, .slice none 0 0] 26)).ownsRow _ _ _ _ _ _ from (World.ownsRow.alloc (World.ownsRow.alloc hown1' (.cells #[.int .i64 32768] 3)) (.cells #[.slice none 0 0, .slice none 0 0] 26))) (by rfl) (Rd.alloc (Rd.new1 w4 _ _) (by simp) (.cells #[.slice none 0 0, .slice none 0 0] 26)) ?_ ?_ ?_ ?_ ?_; (simp; rfl); omega; omega; (first | omega | (simp <;> omega)); intro u2 w5 hown2 hg2 hx2; have B5 := (show Below w3.heap.size w3 _ from by (repeat (first | exact Below.refl _ _ | assumption | (with_reducible refine Below.drew ?_) | ((with_reducible refine below_al ?_ ?_ _); (first | omega | (simp <;> omega)))))).grown hg2 (by first | omega | (simp <;> omega)) (by intro k hk; have := (hown1'.lt k hk).1; omega); have hH5 := hH3.below B5; obtain ⟨q0, q1⟩ := hH5.cells; have s5 := hg2.size; (first | (have hZ5 := zkeep hg2 ((World.ownsRow.alloc (World.ownsRow.alloc hown1' (.cells #[.int .i64 32768] 3)) (.cells #[.slice none 0 0, .slice none 0 0] 26))) (heap_alloc2' w4 (.cells #[.int .i64 32768] 3) (.cells #[.slice none 0 0, .slice none 0 0] 26)) (by decide); have z0 := blk_cell hZ5 0; have z1 := blk_cell hZ5 1; have z2 := blk_frozen hZ5 0; have z3 := blk_frozen hZ5 1; have r0 := store_keep hZ5 q0 (by omega); have r1 := store_keep hZ5 q1 (by omega)) | skip); obtain ⟨A5, c5, rfl, -, -⟩ := own_form hown2)
      | (refine step_append (v := .slice A4 m.words.length c4) (n := m.words.length) (xs := m.words.map (.int .i64)) (base := w3.heap.size) (m := 1) (c := 1) (news := [.int .i64 32768]) (by rfl) _ _ 24 (by rfl) elI (by rfl) (show ((w4.alloc (.cells #[.slice none 0 0, .slice none 0 0] 26)).alloc (.cells #[.int .i64 32768] 3)).ownsRow _ _ _ _ _ _ from (World.ownsRow.alloc (World.ownsRow.alloc hown1' (.cells #[.slice none 0 0, .slice none 0 0] 26)) (.cells #[.int .i64 32768] 3))) (by rfl) (Rd_new1' (heap_al w4 (.cells #[.slice none 0 0, .slice none 0 0] 26))) ?_ ?_ ?_ ?_ ?_; (simp; rfl); omega; omega; (first | omega | (simp <;> omega)); intro u2 w5 hown2 hg2 hx2; have B5 := (show Below w3.heap.size w3 _ from by (repeat (first | exact Below.refl _ _ | assumption | (with_reducible refine Below.drew ?_) | ((with_reducible refine below_al ?_ ?_ _); (first | omega | (simp <;> omega)))))).grown hg2 (by first | omega | (simp <;> omega)) (by intro k hk; have := (hown1'.lt k hk).1; omega); have hH5 := hH3.below B5; obtain ⟨q0, q1⟩ := hH5.cells; have s5 := hg2.size; (first | (have hZ5 := zkeep hg2 ((World.ownsRow.alloc (World.ownsRow.alloc hown1' (.cells #[.slice none 0 0, .slice none 0 0] 26)) (.cells #[.int .i64 32768] 3))) (blk_alloc (heap_alloc_new w4 (.cells #[.slice none 0 0, .slice none 0 0] 26)) (.cells #[.int .i64 32768] 3)) (by decide); have z0 := blk_cell hZ5 0; have z1 := blk_cell hZ5 1; have z2 := blk_frozen hZ5 0; have z3 := blk_frozen hZ5 1; have r0 := store_keep hZ5 q0 (by omega); have r1 := store_keep hZ5 q1 (by omega)) | skip); obtain ⟨A5, c5, rfl, -, -⟩ := own_form hown2)
      | (have tk := tok; refine step_append (v := .slice (some ⟨w3.heap.size, 0, none⟩) 0 0) (n := 0) (xs := []) (base := w3.heap.size) (A := A2) (m := m.words.length) (c := c2) (news := m.words.map (.int .i64)) (B := w3.heap.size) (by rfl) _ _ 24 (by rfl) elI (by rfl) (show (((w3.alloc (.cells #[] 3)).alloc (.cells #[.int .i64 32768] 3)).alloc (.cells #[.slice none 0 0, .slice none 0 0] 26)).drew.ownsRow _ _ _ _ _ _ from (World.ownsRow.alloc (World.ownsRow.alloc (own_lit0 (W := w3) (by simp) (by omega)) _) _ : (((w3.alloc (.cells #[] 3)).alloc (.cells #[.int .i64 32768] 3)).alloc (.cells #[.slice none 0 0, .slice none 0 0] 26)).ownsRow w3.heap.size 3 1 (.slice (some ⟨w3.heap.size, 0, none⟩) 0 0) 0 [])) (by rfl) ?_ (one_i _) ?_ ?_ ?_ ?_; refine hRw.mono ?_; (repeat (first | exact Below.refl _ _ | assumption | (with_reducible refine Below.drew ?_) | ((with_reducible refine below_al ?_ ?_ _); (first | omega | (simp <;> omega))))); omega; omega; (first | omega | (simp <;> omega)); intro u1 w4 hown1 hg1 hx1; have B4 := (show Below w3.heap.size w3 _ from by (repeat (first | exact Below.refl _ _ | assumption | (with_reducible refine Below.drew ?_) | ((with_reducible refine below_al ?_ ?_ _); (first | omega | (simp <;> omega)))))).grown hg1 (by first | omega | (simp <;> omega)) (by intro k hk; simp [Value.ownBlock] at hk; omega); have hown1' : OwnI w4 w3.heap.size u1 m.words := (by unfold OwnI; simpa using hown1); have s4 := hg1.size; simp at s4; have hH4 := hH3.below B4; obtain ⟨p0, p1⟩ := hH4.cells; clear tok tk hown1; obtain ⟨A4, c4, rfl, -, -⟩ := own_form hown1'; have hL := (hg1.block (w3.heap.size + 1) (by show _ < (((w3.alloc (.cells #[] 3)).alloc (.cells #[.int .i64 32768] 3)).alloc (.cells #[.slice none 0 0, .slice none 0 0] 26)).heap.size; simp <;> omega) (by simp [Value.ownBlock] <;> omega)).trans (show (((w3.alloc (.cells #[] 3)).alloc (.cells #[.int .i64 32768] 3)).alloc (.cells #[.slice none 0 0, .slice none 0 0] 26)).drew.heap[w3.heap.size + 1]? = _ from blk_alloc (heap_alloc2' w3 _ _) _); have hZ := (hg1.block (w3.heap.size + 1 + 1) (by show _ < (((w3.alloc (.cells #[] 3)).alloc (.cells #[.int .i64 32768] 3)).alloc (.cells #[.slice none 0 0, .slice none 0 0] 26)).heap.size; simp <;> omega) (by simp [Value.ownBlock] <;> omega)).trans (show (((w3.alloc (.cells #[] 3)).alloc (.cells #[.int .i64 32768] 3)).alloc (.cells #[.slice none 0 0, .slice none 0 0] 26)).drew.heap[w3.heap.size + 1 + 1]? = _ from heap_alloc3 w3 _ _ _))
      | (have tk := tok; refine step_append (v := .slice (some ⟨w3.heap.size, 0, none⟩) 0 0) (n := 0) (xs := []) (base := w3.heap.size) (A := A2) (m := m.words.length) (c := c2) (news := m.words.map (.int .i64)) (B := w3.heap.size) (by rfl) _ _ 24 (by rfl) elI (by rfl) (show (((w3.alloc (.cells #[] 3)).alloc (.cells #[.slice none 0 0, .slice none 0 0] 26)).alloc (.cells #[.int .i64 32768] 3)).drew.ownsRow _ _ _ _ _ _ from (World.ownsRow.alloc (World.ownsRow.alloc (own_lit0 (W := w3) (by simp) (by omega)) _) _ : (((w3.alloc (.cells #[] 3)).alloc (.cells #[.slice none 0 0, .slice none 0 0] 26)).alloc (.cells #[.int .i64 32768] 3)).ownsRow w3.heap.size 3 1 (.slice (some ⟨w3.heap.size, 0, none⟩) 0 0) 0 [])) (by rfl) ?_ (one_i _) ?_ ?_ ?_ ?_; refine hRw.mono ?_; (repeat (first | exact Below.refl _ _ | assumption | (with_reducible refine Below.drew ?_) | ((with_reducible refine below_al ?_ ?_ _); (first | omega | (simp <;> omega))))); omega; omega; (first | omega | (simp <;> omega)); intro u1 w4 hown1 hg1 hx1; have B4 := (show Below w3.heap.size w3 _ from by (repeat (first | exact Below.refl _ _ | assumption | (with_reducible refine Below.drew ?_) | ((with_reducible refine below_al ?_ ?_ _); (first | omega | (simp <;> omega)))))).grown hg1 (by first | omega | (simp <;> omega)) (by intro k hk; simp [Value.ownBlock] at hk; omega); have hown1' : OwnI w4 w3.heap.size u1 m.words := (by unfold OwnI; simpa using hown1); have s4 := hg1.size; simp at s4; have hH4 := hH3.below B4; obtain ⟨p0, p1⟩ := hH4.cells; clear tok tk hown1; obtain ⟨A4, c4, rfl, -, -⟩ := own_form hown1'; have hL := (hg1.block (w3.heap.size + 1 + 1) (by show _ < (((w3.alloc (.cells #[] 3)).alloc (.cells #[.slice none 0 0, .slice none 0 0] 26)).alloc (.cells #[.int .i64 32768] 3)).heap.size; simp <;> omega) (by simp [Value.ownBlock] <;> omega)).trans (show (((w3.alloc (.cells #[] 3)).alloc (.cells #[.slice none 0 0, .slice none 0 0] 26)).alloc (.cells #[.int .i64 32768] 3)).drew.heap[w3.heap.size + 1 + 1]? = _ from heap_alloc3 w3 _ _ _); have hZ := (hg1.block (w3.heap.size + 1) (by show _ < (((w3.alloc (.cells #[] 3)).alloc (.cells #[.slice none 0 0, .slice none 0 0] 26)).alloc (.cells #[.int .i64 32768] 3)).heap.size; simp <;> omega) (by simp [Value.ownBlock] <;> omega)).trans (show (((w3.alloc (.cells #[] 3)).alloc (.cells #[.slice none 0 0, .slice none 0 0] 26)).alloc (.cells #[.int .i64 32768] 3)).drew.heap[w3.heap.size + 1]? = _ from blk_alloc (heap_alloc2' w3 _ _) _))
      | (have tk := tok; refine step_append (v := .slice (some ⟨w3.heap.size + 1, 0, none⟩) 0 0) (n := 0) (xs := []) (base := w3.heap.size) (A := A2) (m := m.words.length) (c := c2) (news := m.words.map (.int .i64)) (B := w3.heap.size) (by rfl) _ _ 24 (by rfl) elI (by rfl) (show (((w3.alloc (.cells #[.int .i64 32768] 3)).alloc (.cells #[] 3)).alloc (.cells #[.slice none 0 0, .slice none 0 0] 26)).drew.ownsRow _ _ _ _ _ _ from (World.ownsRow.alloc (own_lit0 (W := (w3.alloc (.cells #[.int .i64 32768] 3))) (by simp) (by omega)) _ : (((w3.alloc (.cells #[.int .i64 32768] 3)).alloc (.cells #[] 3)).alloc (.cells #[.slice none 0 0, .slice none 0 0] 26)).ownsRow w3.heap.size 3 1 (.slice (some ⟨w3.heap.size + 1, 0, none⟩) 0 0) 0 [])) (by rfl) ?_ (one_i _) ?_ ?_ ?_ ?_; refine hRw.mono ?_; (repeat (first | exact Below.refl _ _ | assumption | (with_reducible refine Below.drew ?_) | ((with_reducible refine below_al ?_ ?_ _); (first | omega | (simp <;> omega))))); omega; omega; (first | omega | (simp <;> omega)); intro u1 w4 hown1 hg1 hx1; have B4 := (show Below w3.heap.size w3 _ from by (repeat (first | exact Below.refl _ _ | assumption | (with_reducible refine Below.drew ?_) | ((with_reducible refine below_al ?_ ?_ _); (first | omega | (simp <;> omega)))))).grown hg1 (by first | omega | (simp <;> omega)) (by intro k hk; simp [Value.ownBlock] at hk; omega); have hown1' : OwnI w4 w3.heap.size u1 m.words := (by unfold OwnI; simpa using hown1); have s4 := hg1.size; simp at s4; have hH4 := hH3.below B4; obtain ⟨p0, p1⟩ := hH4.cells; clear tok tk hown1; obtain ⟨A4, c4, rfl, -, -⟩ := own_form hown1'; have hL := (hg1.block (w3.heap.size) (by show _ < (((w3.alloc (.cells #[.int .i64 32768] 3)).alloc (.cells #[] 3)).alloc (.cells #[.slice none 0 0, .slice none 0 0] 26)).heap.size; simp <;> omega) (by simp [Value.ownBlock] <;> omega)).trans (show (((w3.alloc (.cells #[.int .i64 32768] 3)).alloc (.cells #[] 3)).alloc (.cells #[.slice none 0 0, .slice none 0 0] 26)).drew.heap[w3.heap.size]? = _ from blk_alloc (blk_alloc (heap_alloc_new w3 _) _) _); have hZ := (hg1.block (w3.heap.size + 1 + 1) (by show _ < (((w3.alloc (.cells #[.int .i64 32768] 3)).alloc (.cells #[] 3)).alloc (.cells #[.slice none 0 0, .slice none 0 0] 26)).heap.size; simp <;> omega) (by simp [Value.ownBlock] <;> omega)).trans (show (((w3.alloc (.cells #[.int .i64 32768] 3)).alloc (.cells #[] 3)).alloc (.cells #[.slice none 0 0, .slice none 0 0] 26)).drew.heap[w3.heap.size + 1 + 1]? = _ from heap_alloc3 w3 _ _ _))
      | (have tk := tok; refine step_append (v := .slice (some ⟨w3.heap.size + 1 + 1, 0, none⟩) 0 0) (n := 0) (xs := []) (base := w3.heap.size) (A := A2) (m := m.words.length) (c := c2) (news := m.words.map (.int .i64)) (B := w3.heap.size) (by rfl) _ _ 24 (by rfl) elI (by rfl) (show (((w3.alloc (.cells #[.int .i64 32768] 3)).alloc (.cells #[.slice none 0 0, .slice none 0 0] 26)).alloc (.cells #[] 3)).drew.ownsRow _ _ _ _ _ _ from (own_lit0 (W := ((w3.alloc (.cells #[.int .i64 32768] 3)).alloc (.cells #[.slice none 0 0, .slice none 0 0] 26))) (by simp) (by omega) : (((w3.alloc (.cells #[.int .i64 32768] 3)).alloc (.cells #[.slice none 0 0, .slice none 0 0] 26)).alloc (.cells #[] 3)).ownsRow w3.heap.size 3 1 (.slice (some ⟨w3.heap.size + 1 + 1, 0, none⟩) 0 0) 0 [])) (by rfl) ?_ (one_i _) ?_ ?_ ?_ ?_; refine hRw.mono ?_; (repeat (first | exact Below.refl _ _ | assumption | (with_reducible refine Below.drew ?_) | ((with_reducible refine below_al ?_ ?_ _); (first | omega | (simp <;> omega))))); omega; omega; (first | omega | (simp <;> omega)); intro u1 w4 hown1 hg1 hx1; have B4 := (show Below w3.heap.size w3 _ from by (repeat (first | exact Below.refl _ _ | assumption | (with_reducible refine Below.drew ?_) | ((with_reducible refine below_al ?_ ?_ _); (first | omega | (simp <;> omega)))))).grown hg1 (by first | omega | (simp <;> omega)) (by intro k hk; simp [Value.ownBlock] at hk; omega); have hown1' : OwnI w4 w3.heap.size u1 m.words := (by unfold OwnI; simpa using hown1); have s4 := hg1.size; simp at s4; have hH4 := hH3.below B4; obtain ⟨p0, p1⟩ := hH4.cells; clear tok tk hown1; obtain ⟨A4, c4, rfl, -, -⟩ := own_form hown1'; have hL := (hg1.block (w3.heap.size) (by show _ < (((w3.alloc (.cells #[.int .i64 32768] 3)).alloc (.cells #[.slice none 0 0, .slice none 0 0] 26)).alloc (.cells #[] 3)).heap.size; simp <;> omega) (by simp [Value.ownBlock] <;> omega)).trans (show (((w3.alloc (.cells #[.int .i64 32768] 3)).alloc (.cells #[.slice none 0 0, .slice none 0 0] 26)).alloc (.cells #[] 3)).drew.heap[w3.heap.size]? = _ from blk_alloc (blk_alloc (heap_alloc_new w3 _) _) _); have hZ := (hg1.block (w3.heap.size + 1) (by show _ < (((w3.alloc (.cells #[.int .i64 32768] 3)).alloc (.cells #[.slice none 0 0, .slice none 0 0] 26)).alloc (.cells #[] 3)).heap.size; simp <;> omega) (by simp [Value.ownBlock] <;> omega)).trans (show (((w3.alloc (.cells #[.int .i64 32768] 3)).alloc (.cells #[.slice none 0 0, .slice none 0 0] 26)).alloc (.cells #[] 3)).drew.heap[w3.heap.size + 1]? = _ from blk_alloc (heap_alloc2' w3 _ _) _))
      | (have tk := tok; refine step_append (v := .slice (some ⟨w3.heap.size + 1, 0, none⟩) 0 0) (n := 0) (xs := []) (base := w3.heap.size) (A := A2) (m := m.words.length) (c := c2) (news := m.words.map (.int .i64)) (B := w3.heap.size) (by rfl) _ _ 24 (by rfl) elI (by rfl) (show (((w3.alloc (.cells #[.slice none 0 0, .slice none 0 0] 26)).alloc (.cells #[] 3)).alloc (.cells #[.int .i64 32768] 3)).drew.ownsRow _ _ _ _ _ _ from (World.ownsRow.alloc (own_lit0 (W := (w3.alloc (.cells #[.slice none 0 0, .slice none 0 0] 26))) (by simp) (by omega)) _ : (((w3.alloc (.cells #[.slice none 0 0, .slice none 0 0] 26)).alloc (.cells #[] 3)).alloc (.cells #[.int .i64 32768] 3)).ownsRow w3.heap.size 3 1 (.slice (some ⟨w3.heap.size + 1, 0, none⟩) 0 0) 0 [])) (by rfl) ?_ (one_i _) ?_ ?_ ?_ ?_; refine hRw.mono ?_; (repeat (first | exact Below.refl _ _ | assumption | (with_reducible refine Below.drew ?_) | ((with_reducible refine below_al ?_ ?_ _); (first | omega | (simp <;> omega))))); omega; omega; (first | omega | (simp <;> omega)); intro u1 w4 hown1 hg1 hx1; have B4 := (show Below w3.heap.size w3 _ from by (repeat (first | exact Below.refl _ _ | assumption | (with_reducible refine Below.drew ?_) | ((with_reducible refine below_al ?_ ?_ _); (first | omega | (simp <;> omega)))))).grown hg1 (by first | omega | (simp <;> omega)) (by intro k hk; simp [Value.ownBlock] at hk; omega); have hown1' : OwnI w4 w3.heap.size u1 m.words := (by unfold OwnI; simpa using hown1); have s4 := hg1.size; simp at s4; have hH4 := hH3.below B4; obtain ⟨p0, p1⟩ := hH4.cells; clear tok tk hown1; obtain ⟨A4, c4, rfl, -, -⟩ := own_form hown1'; have hL := (hg1.block (w3.heap.size + 1 + 1) (by show _ < (((w3.alloc (.cells #[.slice none 0 0, .slice none 0 0] 26)).alloc (.cells #[] 3)).alloc (.cells #[.int .i64 32768] 3)).heap.size; simp <;> omega) (by simp [Value.ownBlock] <;> omega)).trans (show (((w3.alloc (.cells #[.slice none 0 0, .slice none 0 0] 26)).alloc (.cells #[] 3)).alloc (.cells #[.int .i64 32768] 3)).drew.heap[w3.heap.size + 1 + 1]? = _ from heap_alloc3 w3 _ _ _); have hZ := (hg1.block (w3.heap.size) (by show _ < (((w3.alloc (.cells #[.slice none 0 0, .slice none 0 0] 26)).alloc (.cells #[] 3)).alloc (.cells #[.int .i64 32768] 3)).heap.size; simp <;> omega) (by simp [Value.ownBlock] <;> omega)).trans (show (((w3.alloc (.cells #[.slice none 0 0, .slice none 0 0] 26)).alloc (.cells #[] 3)).alloc (.cells #[.int .i64 32768] 3)).drew.heap[w3.heap.size]? = _ from blk_alloc (blk_alloc (heap_alloc_new w3 _) _) _))
      | (have tk := tok; refine step_append (v := .slice (some ⟨w3.heap.size + 1 + 1, 0, none⟩) 0 0) (n := 0) (xs := []) (base := w3.heap.size) (A := A2) (m := m.words.length) (c := c2) (news := m.words.map (.int .i64)) (B := w3.heap.size) (by rfl) _ _ 24 (by rfl) elI (by rfl) (show (((w3.alloc (.cells #[.slice none 0 0, .slice none 0 0] 26)).alloc (.cells #[.int .i64 32768] 3)).alloc (.cells #[] 3)).drew.ownsRow _ _ _ _ _ _ from (own_lit0 (W := ((w3.alloc (.cells #[.slice none 0 0, .slice none 0 0] 26)).alloc (.cells #[.int .i64 32768] 3))) (by simp) (by omega) : (((w3.alloc (.cells #[.slice none 0 0, .slice none 0 0] 26)).alloc (.cells #[.int .i64 32768] 3)).alloc (.cells #[] 3)).ownsRow w3.heap.size 3 1 (.slice (some ⟨w3.heap.size + 1 + 1, 0, none⟩) 0 0) 0 [])) (by rfl) ?_ (one_i _) ?_ ?_ ?_ ?_; refine hRw.mono ?_; (repeat (first | exact Below.refl _ _ | assumption | (with_reducible refine Below.drew ?_) | ((with_reducible refine below_al ?_ ?_ _); (first | omega | (simp <;> omega))))); omega; omega; (first | omega | (simp <;> omega)); intro u1 w4 hown1 hg1 hx1; have B4 := (show Below w3.heap.size w3 _ from by (repeat (first | exact Below.refl _ _ | assumption | (with_reducible refine Below.drew ?_) | ((with_reducible refine below_al ?_ ?_ _); (first | omega | (simp <;> omega)))))).grown hg1 (by first | omega | (simp <;> omega)) (by intro k hk; simp [Value.ownBlock] at hk; omega); have hown1' : OwnI w4 w3.heap.size u1 m.words := (by unfold OwnI; simpa using hown1); have s4 := hg1.size; simp at s4; have hH4 := hH3.below B4; obtain ⟨p0, p1⟩ := hH4.cells; clear tok tk hown1; obtain ⟨A4, c4, rfl, -, -⟩ := own_form hown1'; have hL := (hg1.block (w3.heap.size + 1) (by show _ < (((w3.alloc (.cells #[.slice none 0 0, .slice none 0 0] 26)).alloc (.cells #[.int .i64 32768] 3)).alloc (.cells #[] 3)).heap.size; simp <;> omega) (by simp [Value.ownBlock] <;> omega)).trans (show (((w3.alloc (.cells #[.slice none 0 0, .slice none 0 0] 26)).alloc (.cells #[.int .i64 32768] 3)).alloc (.cells #[] 3)).drew.heap[w3.heap.size + 1]? = _ from blk_alloc (heap_alloc2' w3 _ _) _); have hZ := (hg1.block (w3.heap.size) (by show _ < (((w3.alloc (.cells #[.slice none 0 0, .slice none 0 0] 26)).alloc (.cells #[.int .i64 32768] 3)).alloc (.cells #[] 3)).heap.size; simp <;> omega) (by simp [Value.ownBlock] <;> omega)).trans (show (((w3.alloc (.cells #[.slice none 0 0, .slice none 0 0] 26)).alloc (.cells #[.int .i64 32768] 3)).alloc (.cells #[] 3)).drew.heap[w3.heap.size]? = _ from blk_alloc (blk_alloc (heap_alloc_new w3 _) _) _))
      | (have tk := tok; refine step_append (v := .slice (some ⟨w3.heap.size, 0, none⟩) 0 0) (n := 0) (xs := []) (base := w3.heap.size) (A := A2) (m := m.words.length) (c := c2) (news := m.words.map (.int .i64)) (B := w3.heap.size) (by rfl) _ _ 24 (by rfl) elI (by rfl) (show ((w3.alloc (.cells #[] 3)).alloc (.cells #[.int .i64 32768] 3)).drew.ownsRow _ _ _ _ _ _ from (World.ownsRow.alloc (own_lit0 (W := w3) (by simp) (by omega)) _ : ((w3.alloc (.cells #[] 3)).alloc (.cells #[.int .i64 32768] 3)).ownsRow w3.heap.size 3 1 (.slice (some ⟨w3.heap.size, 0, none⟩) 0 0) 0 [])) (by rfl) ?_ (one_i _) ?_ ?_ ?_ ?_; refine hRw.mono ?_; (repeat (first | exact Below.refl _ _ | assumption | (with_reducible refine Below.drew ?_) | ((with_reducible refine below_al ?_ ?_ _); (first | omega | (simp <;> omega))))); omega; omega; (first | omega | (simp <;> omega)); intro u1 w4 hown1 hg1 hx1; have B4 := (show Below w3.heap.size w3 _ from by (repeat (first | exact Below.refl _ _ | assumption | (with_reducible refine Below.drew ?_) | ((with_reducible refine below_al ?_ ?_ _); (first | omega | (simp <;> omega)))))).grown hg1 (by first | omega | (simp <;> omega)) (by intro k hk; simp [Value.ownBlock] at hk; omega); have hown1' : OwnI w4 w3.heap.size u1 m.words := (by unfold OwnI; simpa using hown1); have s4 := hg1.size; simp at s4; have hH4 := hH3.below B4; obtain ⟨p0, p1⟩ := hH4.cells; clear tok tk hown1; obtain ⟨A4, c4, rfl, -, -⟩ := own_form hown1'; have hL := (hg1.block (w3.heap.size + 1) (by show _ < ((w3.alloc (.cells #[] 3)).alloc (.cells #[.int .i64 32768] 3)).heap.size; simp <;> omega) (by simp [Value.ownBlock] <;> omega)).trans (show ((w3.alloc (.cells #[] 3)).alloc (.cells #[.int .i64 32768] 3)).drew.heap[w3.heap.size + 1]? = _ from heap_alloc2' w3 _ _))
      | (have tk := tok; refine step_append (v := .slice (some ⟨w3.heap.size, 0, none⟩) 0 0) (n := 0) (xs := []) (base := w3.heap.size) (A := A2) (m := m.words.length) (c := c2) (news := m.words.map (.int .i64)) (B := w3.heap.size) (by rfl) _ _ 24 (by rfl) elI (by rfl) (show ((w3.alloc (.cells #[] 3)).alloc (.cells #[.slice none 0 0, .slice none 0 0] 26)).drew.ownsRow _ _ _ _ _ _ from (World.ownsRow.alloc (own_lit0 (W := w3) (by simp) (by omega)) _ : ((w3.alloc (.cells #[] 3)).alloc (.cells #[.slice none 0 0, .slice none 0 0] 26)).ownsRow w3.heap.size 3 1 (.slice (some ⟨w3.heap.size, 0, none⟩) 0 0) 0 [])) (by rfl) ?_ (one_i _) ?_ ?_ ?_ ?_; refine hRw.mono ?_; (repeat (first | exact Below.refl _ _ | assumption | (with_reducible refine Below.drew ?_) | ((with_reducible refine below_al ?_ ?_ _); (first | omega | (simp <;> omega))))); omega; omega; (first | omega | (simp <;> omega)); intro u1 w4 hown1 hg1 hx1; have B4 := (show Below w3.heap.size w3 _ from by (repeat (first | exact Below.refl _ _ | assumption | (with_reducible refine Below.drew ?_) | ((with_reducible refine below_al ?_ ?_ _); (first | omega | (simp <;> omega)))))).grown hg1 (by first | omega | (simp <;> omega)) (by intro k hk; simp [Value.ownBlock] at hk; omega); have hown1' : OwnI w4 w3.heap.size u1 m.words := (by unfold OwnI; simpa using hown1); have s4 := hg1.size; simp at s4; have hH4 := hH3.below B4; obtain ⟨p0, p1⟩ := hH4.cells; clear tok tk hown1; obtain ⟨A4, c4, rfl, -, -⟩ := own_form hown1'; have hZ := (hg1.block (w3.heap.size + 1) (by show _ < ((w3.alloc (.cells #[] 3)).alloc (.cells #[.slice none 0 0, .slice none 0 0] 26)).heap.size; simp <;> omega) (by simp [Value.ownBlock] <;> omega)).trans (show ((w3.alloc (.cells #[] 3)).alloc (.cells #[.slice none 0 0, .slice none 0 0] 26)).drew.heap[w3.heap.size + 1]? = _ from heap_alloc2' w3 _ _))
      | (have tk := tok; refine step_append (v := .slice (some ⟨w3.heap.size + 1, 0, none⟩) 0 0) (n := 0) (xs := []) (base := w3.heap.size) (A := A2) (m := m.words.length) (c := c2) (news := m.words.map (.int .i64)) (B := w3.heap.size) (by rfl) _ _ 24 (by rfl) elI (by rfl) (show ((w3.alloc (.cells #[.int .i64 32768] 3)).alloc (.cells #[] 3)).drew.ownsRow _ _ _ _ _ _ from (own_lit0 (W := (w3.alloc (.cells #[.int .i64 32768] 3))) (by simp) (by omega) : ((w3.alloc (.cells #[.int .i64 32768] 3)).alloc (.cells #[] 3)).ownsRow w3.heap.size 3 1 (.slice (some ⟨w3.heap.size + 1, 0, none⟩) 0 0) 0 [])) (by rfl) ?_ (one_i _) ?_ ?_ ?_ ?_; refine hRw.mono ?_; (repeat (first | exact Below.refl _ _ | assumption | (with_reducible refine Below.drew ?_) | ((with_reducible refine below_al ?_ ?_ _); (first | omega | (simp <;> omega))))); omega; omega; (first | omega | (simp <;> omega)); intro u1 w4 hown1 hg1 hx1; have B4 := (show Below w3.heap.size w3 _ from by (repeat (first | exact Below.refl _ _ | assumption | (with_reducible refine Below.drew ?_) | ((with_reducible refine below_al ?_ ?_ _); (first | omega | (simp <;> omega)))))).grown hg1 (by first | omega | (simp <;> omega)) (by intro k hk; simp [Value.ownBlock] at hk; omega); have hown1' : OwnI w4 w3.heap.size u1 m.words := (by unfold OwnI; simpa using hown1); have s4 := hg1.size; simp at s4; have hH4 := hH3.below B4; obtain ⟨p0, p1⟩ := hH4.cells; clear tok tk hown1; obtain ⟨A4, c4, rfl, -, -⟩ := own_form hown1'; have hL := (hg1.block (w3.heap.size) (by show _ < ((w3.alloc (.cells #[.int .i64 32768] 3)).alloc (.cells #[] 3)).heap.size; simp <;> omega) (by simp [Value.ownBlock] <;> omega)).trans (show ((w3.alloc (.cells #[.int .i64 32768] 3)).alloc (.cells #[] 3)).drew.heap[w3.heap.size]? = _ from blk_alloc (heap_alloc_new w3 _) _))
      | (have tk := tok; refine step_append (v := .slice (some ⟨w3.heap.size + 1, 0, none⟩) 0 0) (n := 0) (xs := []) (base := w3.heap.size) (A := A2) (m := m.words.length) (c := c2) (news := m.words.map (.int .i64)) (B := w3.heap.size) (by rfl) _ _ 24 (by rfl) elI (by rfl) (show ((w3.alloc (.cells #[.slice none 0 0, .slice none 0 0] 26)).alloc (.cells #[] 3)).drew.ownsRow _ _ _ _ _ _ from (own_lit0 (W := (w3.alloc (.cells #[.slice none 0 0, .slice none 0 0] 26))) (by simp) (by omega) : ((w3.alloc (.cells #[.slice none 0 0, .slice none 0 0] 26)).alloc (.cells #[] 3)).ownsRow w3.heap.size 3 1 (.slice (some ⟨w3.heap.size + 1, 0, none⟩) 0 0) 0 [])) (by rfl) ?_ (one_i _) ?_ ?_ ?_ ?_; refine hRw.mono ?_; (repeat (first | exact Below.refl _ _ | assumption | (with_reducible refine Below.drew ?_) | ((with_reducible refine below_al ?_ ?_ _); (first | omega | (simp <;> omega))))); omega; omega; (first | omega | (simp <;> omega)); intro u1 w4 hown1 hg1 hx1; have B4 := (show Below w3.heap.size w3 _ from by (repeat (first | exact Below.refl _ _ | assumption | (with_reducible refine Below.drew ?_) | ((with_reducible refine below_al ?_ ?_ _); (first | omega | (simp <;> omega)))))).grown hg1 (by first | omega | (simp <;> omega)) (by intro k hk; simp [Value.ownBlock] at hk; omega); have hown1' : OwnI w4 w3.heap.size u1 m.words := (by unfold OwnI; simpa using hown1); have s4 := hg1.size; simp at s4; have hH4 := hH3.below B4; obtain ⟨p0, p1⟩ := hH4.cells; clear tok tk hown1; obtain ⟨A4, c4, rfl, -, -⟩ := own_form hown1'; have hZ := (hg1.block (w3.heap.size) (by show _ < ((w3.alloc (.cells #[.slice none 0 0, .slice none 0 0] 26)).alloc (.cells #[] 3)).heap.size; simp <;> omega) (by simp [Value.ownBlock] <;> omega)).trans (show ((w3.alloc (.cells #[.slice none 0 0, .slice none 0 0] 26)).alloc (.cells #[] 3)).drew.heap[w3.heap.size]? = _ from blk_alloc (heap_alloc_new w3 _) _))
      | (have tk := tok; refine step_append (v := .slice (some ⟨w3.heap.size, 0, none⟩) 0 0) (n := 0) (xs := []) (base := w3.heap.size) (A := A2) (m := m.words.length) (c := c2) (news := m.words.map (.int .i64)) (B := w3.heap.size) (by rfl) _ _ 24 (by rfl) elI (by rfl) (show (w3.alloc (.cells #[] 3)).drew.ownsRow _ _ _ _ _ _ from (own_lit0 (W := w3) (by simp) (by omega) : (w3.alloc (.cells #[] 3)).ownsRow w3.heap.size 3 1 (.slice (some ⟨w3.heap.size, 0, none⟩) 0 0) 0 [])) (by rfl) ?_ (one_i _) ?_ ?_ ?_ ?_; refine hRw.mono ?_; (repeat (first | exact Below.refl _ _ | assumption | (with_reducible refine Below.drew ?_) | ((with_reducible refine below_al ?_ ?_ _); (first | omega | (simp <;> omega))))); omega; omega; (first | omega | (simp <;> omega)); intro u1 w4 hown1 hg1 hx1; have B4 := (show Below w3.heap.size w3 _ from by (repeat (first | exact Below.refl _ _ | assumption | (with_reducible refine Below.drew ?_) | ((with_reducible refine below_al ?_ ?_ _); (first | omega | (simp <;> omega)))))).grown hg1 (by first | omega | (simp <;> omega)) (by intro k hk; simp [Value.ownBlock] at hk; omega); have hown1' : OwnI w4 w3.heap.size u1 m.words := (by unfold OwnI; simpa using hown1); have s4 := hg1.size; simp at s4; have hH4 := hH3.below B4; obtain ⟨p0, p1⟩ := hH4.cells; clear tok tk hown1; obtain ⟨A4, c4, rfl, -, -⟩ := own_form hown1'))
      all_goals
        go_wp2_with fail
        go_meet
        first
          | exact ⟨_, _, _, rfl, tight_store hH3 B3 B5 hown2 hZ5 (by omega) hS1⟩
          | exact ⟨_, _, _, rfl, tight_alloc hH3 B3 B5 hown2 hS1⟩
          | (trace_state; sorry)
    case rest =>
      obtain ⟨g, A5, c5, rfl, hT⟩ := hcut
      clear hH3 B3 p0 p1 hRw k3 tok
      obtain ⟨p0, p1⟩ := hT.old.cells
      obtain ⟨q0, q1⟩ := hT.new.cells
      have lg := blk_lt hT.new.blk
      have lo := blk_lt hT.old.blk
      go_upto_region 10 with fail
      obtain ⟨wm, hm1, hm2, hm3⟩ := make_run17 wc.drew
      obtain ⟨wn, hn1, hn2, hn3⟩ := make_run17 (wc.alloc (.cells #[.slice none 0 0, .slice none 0 0] 26)).drew
      have hTm := hT.below ((Below.refl _ _).drew.trans hm3)
      have hTn := hT.below (((Below.refl _ _).alloc (Nat.le_refl _) (.cells #[.slice none 0 0, .slice none 0 0] 26)).drew.trans (hn3.mono (show wc.heap.size ≤ (wc.alloc (.cells #[.slice none 0 0, .slice none 0 0] 26)).heap.size by simp)))
      have hz := (hn3.block wc.heap.size (show wc.heap.size < (wc.alloc (.cells #[.slice none 0 0, .slice none 0 0] 26)).heap.size by simp)).trans (heap_alloc_new wc (.cells #[.slice none 0 0, .slice none 0 0] 26))
      have z0 := blk_cell hz 0
      have z1 := blk_cell hz 1
      have z2 := blk_frozen hz 0
      have z3 := blk_frozen hz 1
      obtain ⟨s0, s1⟩ := hTm.old.cells
      obtain ⟨t0, t1⟩ := hTn.old.cells
      have r0 := store_keep hz t0 lo
      have r1 := store_keep hz t1 lo
      go_region_held3 (fun w' => w'.cell? ⟨w1.heap.size, 0, none⟩ = some (.slice A1 m.bits.length c1) ∧ w'.cell? ⟨w1.heap.size, 1, none⟩ = some (.slice A2 m.words.length c2)) (first | exact ⟨p0, p1⟩ | exact ⟨s0, s1⟩ | exact ⟨t0, t1⟩ | exact ⟨r0 _ _, r1 _ _⟩ | go_keep)
        (first | fail)
      · have hT' := hTm.below ((Below.refl _ _).alloc (Nat.le_refl _) (.cells #[.slice (some ⟨wc.heap.size, 0, none⟩) 17 17, .slice A2 m.words.length c2] 26))
        have hb6 := heap_alloc_new wm (.cells #[.slice (some ⟨wc.heap.size, 0, none⟩) 17 17, .slice A2 m.words.length c2] 26 (0, 0))
        have hR6 := (wide_read hm2 hTm.old.wds).below ((Below.refl _ _).alloc (Nat.le_refl _) (.cells #[.slice (some ⟨wc.heap.size, 0, none⟩) 17 17, .slice A2 m.words.length c2] 26))
        clear hTm hTn hT hn1 hn2 hn3 hm1 hm2 hm3 hz z0 z1 z2 z3 s0 s1 t0 t1 r0 r1 p0 p1 q0 q1
        obtain ⟨n0, n1⟩ := hT'.tcells
        go_wp2_with fail
        refine (tight_call _ m _ (by simpa using hT'.new.read)).mono ?_
        rintro e w8 ⟨rfl, hb8⟩
        have hb6' := (hb8.block _ (blk_lt hb6)).trans hb6
        have x0 := blk_cell hb6' 0
        have x1 := blk_cell hb6' 1
        simp at x0 x1
        have hR6' := hR6.below hb8
        go_wp2_with fail
        refine (wide_call _ m.words _ hR6').mono ?_
        rintro e w9 ⟨rfl, hb9⟩
        go_wp2
        go_ret
        exact ⟨rfl, (hT'.bel.trans (hb8.mono hT'.bel.size)).trans (hb9.mono (Nat.le_trans hT'.bel.size hb8.size))⟩
      · have hbW := (((Below.refl _ _).alloc (Nat.le_refl _) (.cells #[.slice none 0 0, .slice none 0 0] 26)).drew.trans (hn3.mono (show wc.heap.size ≤ (wc.alloc (.cells #[.slice none 0 0, .slice none 0 0] 26)).heap.size by simp))).trans (below_2set (w := wn) wc.heap.size (Nat.le_refl _) (.slice (some ⟨wc.heap.size + 1, 0, none⟩) 17 17) (.slice A2 m.words.length c2))
        have hT' := hT.below hbW
        have hb6 := heap_setCell_same _ wc.heap.size 1 _ _ (.slice A2 m.words.length c2) (heap_setCell_same wn wc.heap.size 0 _ _ (.slice (some ⟨wc.heap.size + 1, 0, none⟩) 17 17) hz)
        have hs17 : (wc.alloc (.cells #[.slice none 0 0, .slice none 0 0] 26)).drew.heap.size = wc.heap.size + 1 := heap_al _ _
        rw [hs17] at hn2
        have hR6 := wide_read (own_2set hn2 (Nat.lt_succ_self _) (.slice (some ⟨wc.heap.size + 1, 0, none⟩) 17 17) (.slice A2 m.words.length c2)) (hT'.old.wds)
        clear hTm hTn hT hn1 hn2 hn3 hm1 hm2 hm3 hz z0 z1 z2 z3 s0 s1 t0 t1 r0 r1 p0 p1 q0 q1 hs17 hbW
        obtain ⟨n0, n1⟩ := hT'.tcells
        go_wp2_with fail
        refine (tight_call _ m _ (by simpa using hT'.new.read)).mono ?_
        rintro e w8 ⟨rfl, hb8⟩
        have hb6' := (hb8.block _ (blk_lt hb6)).trans hb6
        have x0 := blk_cell hb6' 0
        have x1 := blk_cell hb6' 1
        simp at x0 x1
        have hR6' := hR6.below hb8
        go_wp2_with fail
        refine (wide_call _ m.words _ hR6').mono ?_
        rintro e w9 ⟨rfl, hb9⟩
        go_wp2
        go_ret
        exact ⟨rfl, (hT'.bel.trans (hb8.mono hT'.bel.size)).trans (hb9.mono (Nat.le_trans hT'.bel.size hb8.size))⟩
end Go.Proofs.Ytoagnajljdbobaa
