/- Contracts of the draws of chapter 1. -/
import Derived.Test.YtoagnajljdbobaaR
import Derived.Test.YtoagnajljdbobaaG
namespace Go.Proofs.Ytoagnajljdbobaa
open Go.RowKit
attribute [local go_sem ↓] Go.wp_at_zero Go.wp_at_succ

theorem OwnM.read {w : World} {b : Nat} {v : Value} {m : Img} (h : OwnM w b v m) (hs : smallM m 100 100) : ImgR w w.heap.size v m := by
  obtain ⟨v1, v2, rfl, h1, h2⟩ := h
  exact ⟨v1, v2, rfl, h1.read (by have := hs.1; omega), h2.read (by have := hs.2.1; omega) (fun x hx => by have := hs.2.2 x hx; omega)⟩
theorem smallM.up {m : Img} {a b c d : Nat} (h : smallM m a b) (h1 : a ≤ c) (h2 : b ≤ d) : smallM m c d := ⟨Nat.le_trans h.1 h1, Nat.le_trans h.2.1 h2, h.2.2⟩
theorem ImgAt.new {w : World} {base r : Nat} {v1 v2 : Value} {m : Img} (h1 : OwnB w base v1 m.bits) (h2 : OwnI w base v2 m.words) (hr : w.heap[r]? = some (.cells #[.slice none 0 0, .slice none 0 0] 26 (0, 0))) :
    ImgAt (w.alloc (.cells #[v1, v2] 26)) base w.heap.size r v1 v2 m :=
  ⟨heap_alloc_new _ _, blk_alloc hr _, World.ownsRow.alloc h1 _, World.ownsRow.alloc h2 _, by have := blk_lt hr; omega⟩
theorem open_any2 (v : Value) (l : List Int) (w : World) (o : Obj) (h : BytesR w w.heap.size v l) :
    Calls Try.prog 79 #[v] (w.alloc o) fun e w' => e = .returned (.pointer (some ⟨w.heap.size + 1, 0, none⟩)) ∧ Rdr w' (w.heap.size + 1) 0 ∧ Below (w.heap.size + 1) (w.alloc o) w' := by
  have h' : BytesR (w.alloc o) (w.alloc o).heap.size v l := by
    obtain ⟨A, c, rfl, h1, h2, h3⟩ := h
    exact ⟨A, c, rfl, h1, h2.keep (fun p hp => World.cell?_alloc_lt w o p hp) (by simp), h3⟩
  simpa using l20Open_any v l (w.alloc o) h'
def DrawM (w : World) (e : Ending) (w' : World) : Prop := ∃ v m, e = .returned v ∧ OwnM w' w.heap.size v m ∧ smallM m 17 9 ∧ Below w.heap.size w w'
set_option maxHeartbeats 400000 in
theorem drawImageValid_any (v : Value) (l : List Int) (w : World) (h : BytesR w w.heap.size v l) :
    Calls Try.prog 20 #[v] w (DrawM w) := by
  have ho := open_any2 v l w
  have HO := Lib.hid (fun o => ho o h)
  obtain ⟨A, c, rfl, -⟩ := h
  clear ho
  go_enter Try.func20, Try.ntmps20
  go_wp2_with fail
  refine (HO.out _).mono ?_
  rintro e w1 ⟨rfl, hR1, hb1⟩
  have hx1 := (hb1.block w.heap.size (by omega)).trans (heap_alloc_new w _)
  have hF1 : Fr w.heap.size (w.heap.size + 1) w w1 := Fr.of_below _ (((Below.refl _ _).alloc (Nat.le_refl _) _).trans (hb1.mono (by omega)))
  have hs1 := hR1.lt
  go_wp2_with fail
  refine (image_any _ 0 2 _ hR1 (by omega) (by omega) (by omega)).mono ?_
  rintro e w2 ⟨v, m, rfl, hO2, hS2, hR2, hF2⟩
  obtain ⟨A1, c1, A2, c2, rfl, h1, h2⟩ := hO2.form
  have hx2 := (hF2.block _ (by omega) (by omega)).trans hx1
  replace hF2 := hF1.trans (hF2.mono (by omega))
  have d0 := blk_cell hx2 0
  have d1 := blk_cell hx2 1
  have y0 := blk_frozen hx2 0
  have y1 := blk_frozen hx2 1
  simp at d0 d1
  go_wp2
  refine bodyPost_ret (v := .agg #[.slice A1 m.bits.length c1, .slice A2 m.words.length c2]) (by simp [results, Try.results20, go_sem, *]) rfl ⟨_, m, rfl, ?_, hS2, ?_⟩
  · exact ⟨_, _, rfl, mono_own (own_2set h1 (by omega) _ _) (by omega), mono_own (own_2set h2 (by omega) _ _) (by omega)⟩
  · exact ((hF2.below (by omega)).setCell (Nat.le_refl _) _).setCell (Nat.le_refl _) _
def DrawGetBitP (w : World) (e : Ending) (w' : World) : Prop := ∃ v m n, e = .returned (.tuple #[v, .int .i64 n]) ∧ OwnM w' w.heap.size v m ∧ smallM m 17 9 ∧ Below w.heap.size w w' ∧ -1 ≤ n ∧ n ≤ 100
def DrawGetWordP (w : World) (e : Ending) (w' : World) : Prop := ∃ v m n, e = .returned (.tuple #[v, .int .i64 n]) ∧ OwnM w' w.heap.size v m ∧ smallM m 17 9 ∧ Below w.heap.size w w' ∧ -1 ≤ n ∧ n ≤ 100
def DrawSetBitP (w : World) (e : Ending) (w' : World) : Prop := ∃ v m n b, e = .returned (.tuple #[v, .int .i64 n, .bool b]) ∧ OwnM w' w.heap.size v m ∧ smallM m 17 9 ∧ Below w.heap.size w w' ∧ -1 ≤ n ∧ n ≤ 100
set_option maxHeartbeats 1000000 in
theorem drawSetBit_any (v : Value) (l : List Int) (w : World) (h : BytesR w w.heap.size v l) :
    Calls Try.prog 29 #[v] w (DrawSetBitP w) := by
  have ho := open_any2 v l w
  have HO := Lib.hid (fun o => ho o h)
  obtain ⟨A, c, rfl, -⟩ := h
  clear ho
  have tok1 : True := trivial
  go_enter Try.func29, Try.ntmps29
  go_wp2_with fail
  refine (HO.out _).mono ?_
  rintro e w1 ⟨rfl, hR1, hb1⟩
  have hx1 := (hb1.block w.heap.size (by omega)).trans (heap_alloc_new w _)
  have hF1 : Fr w.heap.size (w.heap.size + 1) w w1 := Fr.of_below _ (((Below.refl _ _).alloc (Nat.le_refl _) _).trans (hb1.mono (by omega)))
  have hs1 := hR1.lt
  clear hb1 HO
  go_wp2_with fail
  refine (image_any _ 0 9 _ hR1 (by omega) (by omega) (by omega)).mono ?_
  rintro e w2 ⟨v, m, rfl, hO2, hS2, hR2, hF2⟩
  obtain ⟨A1, c1, A2, c2, rfl, h1, h2⟩ := hO2.form
  have hx2 := (hF2.block _ (by omega) (by omega)).trans hx1
  have hI2 := ImgAt.new h1 h2 hx2
  replace hF2 := hF1.trans (hF2.mono (by omega))
  have hs2 := hR2.lt
  have hbl := hS2.1
  have hwl := hS2.2.1
  clear hO2 h1 h2 hx1 hx2 hF1 hR1
  obtain ⟨c0, c1', z0, z1, d0, d1, y0, y1⟩ := hI2.facts
  have hne := hI2.ne
  have hne' := hne.symm
  have wb : IntKind.i64.wrap ((m.bits.length : Int) + 2) = (m.bits.length : Int) + 2 := IntWalk.i64_in _ (by omega)
  have ww : IntKind.i64.wrap ((m.words.length : Int) + 2) = (m.words.length : Int) + 2 := IntWalk.i64_in _ (by omega)
  go_wp2_with fail
  go_region_held3 (fun w' => w'.cell? ⟨w2.heap.size, 0, none⟩ = some (.slice A1 m.bits.length c1) ∧ w'.cell? ⟨w2.heap.size, 1, none⟩ = some (.slice A2 m.words.length c2)) (first | go_keep)
    (first
      | (go_at_call 82; have tok := tok1; refine (pick_any (w.heap.size + 1) 100 _ _ ((hR2.below ((Below.refl _ _).alloc (Nat.le_refl _) _)).drew.mono (by omega)) (by omega) (by omega)).mono ?_; rintro e w3 ⟨r3, rfl, hr3, hR3, hF3⟩; have hI3 := (ImgAt.drew hI2).fr hF3 (by omega) (by omega) (by omega); obtain ⟨e0, e1', a0, a1, f0, f1, b0, b1⟩ := hI3.facts; have wr : IntKind.i64.wrap (r3 - 1) = r3 - 1 := IntWalk.i64_in _ (by omega); have hF3' := ((hF2.alloc (by omega) _).drew).trans (hF3.mono (by show w.heap.size ≤ (w2.alloc _).heap.size; simp; omega)); clear tok tok1)
      | (go_at_call 82; refine (pick_any (w.heap.size + 1) _ 2 _ hR3 (by omega) (by omega)).mono ?_; rintro e w4 ⟨r4, rfl, hr4, hR4, hF4⟩; have hI4 := hI3.fr hF4 (by omega) (by omega) (by omega); obtain ⟨g0, g1', i0, i1, j0, j1, k0, k1⟩ := hI4.facts; have hF4' := hF3'.trans (hF4.mono hF3'.size))
)
  go_wp2
  refine bodyPost_ret (v := .tuple #[.agg #[.slice A1 m.bits.length c1, .slice A2 m.words.length c2], .int .i64 (r3 - 1), .bool (r4 == 0)]) (by simp [results, Try.results29, go_sem, *]) rfl ⟨_, m, _, _, rfl, hI4.done.mono (by omega), hS2, ?_, by omega, by omega⟩
  exact (((hF4').setCell (.inl (Nat.le_refl _)) _).setCell (.inl (Nat.le_refl _)) _).below (by omega)
def DrawSetWordP (w : World) (e : Ending) (w' : World) : Prop := ∃ v m n x, e = .returned (.tuple #[v, .int .i64 n, .int .i64 x]) ∧ OwnM w' w.heap.size v m ∧ smallM m 17 9 ∧ Below w.heap.size w w' ∧ (-1 ≤ n ∧ n ≤ 100) ∧ -40000 ≤ x ∧ x ≤ 40000
set_option maxHeartbeats 1000000 in
theorem drawSetWord_any (v : Value) (l : List Int) (w : World) (h : BytesR w w.heap.size v l) :
    Calls Try.prog 34 #[v] w (DrawSetWordP w) := by
  have ho := open_any2 v l w
  have HO := Lib.hid (fun o => ho o h)
  obtain ⟨A, c, rfl, -⟩ := h
  clear ho
  have tok1 : True := trivial
  go_enter Try.func34, Try.ntmps34
  go_wp2_with fail
  refine (HO.out _).mono ?_
  rintro e w1 ⟨rfl, hR1, hb1⟩
  have hx1 := (hb1.block w.heap.size (by omega)).trans (heap_alloc_new w _)
  have hF1 : Fr w.heap.size (w.heap.size + 1) w w1 := Fr.of_below _ (((Below.refl _ _).alloc (Nat.le_refl _) _).trans (hb1.mono (by omega)))
  have hs1 := hR1.lt
  clear hb1 HO
  go_wp2_with fail
  refine (image_any _ 0 9 _ hR1 (by omega) (by omega) (by omega)).mono ?_
  rintro e w2 ⟨v, m, rfl, hO2, hS2, hR2, hF2⟩
  obtain ⟨A1, c1, A2, c2, rfl, h1, h2⟩ := hO2.form
  have hx2 := (hF2.block _ (by omega) (by omega)).trans hx1
  have hI2 := ImgAt.new h1 h2 hx2
  replace hF2 := hF1.trans (hF2.mono (by omega))
  have hs2 := hR2.lt
  have hbl := hS2.1
  have hwl := hS2.2.1
  clear hO2 h1 h2 hx1 hx2 hF1 hR1
  obtain ⟨c0, c1', z0, z1, d0, d1, y0, y1⟩ := hI2.facts
  have hne := hI2.ne
  have hne' := hne.symm
  have wb : IntKind.i64.wrap ((m.bits.length : Int) + 2) = (m.bits.length : Int) + 2 := IntWalk.i64_in _ (by omega)
  have ww : IntKind.i64.wrap ((m.words.length : Int) + 2) = (m.words.length : Int) + 2 := IntWalk.i64_in _ (by omega)
  go_wp2_with fail
  go_region_held3 (fun w' => w'.cell? ⟨w2.heap.size, 0, none⟩ = some (.slice A1 m.bits.length c1) ∧ w'.cell? ⟨w2.heap.size, 1, none⟩ = some (.slice A2 m.words.length c2)) (first | go_keep)
    (first
      | (go_at_call 82; have tok := tok1; refine (pick_any (w.heap.size + 1) 100 _ _ ((hR2.below ((Below.refl _ _).alloc (Nat.le_refl _) _)).drew.mono (by omega)) (by omega) (by omega)).mono ?_; rintro e w3 ⟨r3, rfl, hr3, hR3, hF3⟩; have hI3 := (ImgAt.drew hI2).fr hF3 (by omega) (by omega) (by omega); obtain ⟨e0, e1', a0, a1, f0, f1, b0, b1⟩ := hI3.facts; have wr : IntKind.i64.wrap (r3 - 1) = r3 - 1 := IntWalk.i64_in _ (by omega); have hF3' := ((hF2.alloc (by omega) _).drew).trans (hF3.mono (by show w.heap.size ≤ (w2.alloc _).heap.size; simp; omega)); clear tok tok1)
      | (go_at_call 88; refine (word_any (w.heap.size + 1) _ 4 _ hR3 (by omega) (by omega) (by omega)).mono ?_; rintro e w4 ⟨r4, rfl, hx1, hx2, hR4, hF4⟩; have hI4 := hI3.fr hF4 (by omega) (by omega) (by omega); obtain ⟨g0, g1', i0, i1, j0, j1, k0, k1⟩ := hI4.facts; have hF4' := hF3'.trans (hF4.mono hF3'.size))
)
  go_wp2
  refine bodyPost_ret (v := .tuple #[.agg #[.slice A1 m.bits.length c1, .slice A2 m.words.length c2], .int .i64 (r3 - 1), .int .i64 r4]) (by simp [results, Try.results34, go_sem, *]) rfl ⟨_, m, _, _, rfl, hI4.done.mono (by omega), hS2, ?_, ⟨by omega, by omega⟩, by omega, by omega⟩
  exact (((hF4').setCell (.inl (Nat.le_refl _)) _).setCell (.inl (Nat.le_refl _)) _).below (by omega)
end Go.Proofs.Ytoagnajljdbobaa
