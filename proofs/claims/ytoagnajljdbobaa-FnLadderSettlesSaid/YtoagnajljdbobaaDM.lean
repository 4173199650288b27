/- Contracts of the draws of chapter 3. -/
import Derived.Test.YtoagnajljdbobaaDL
import Derived.Test.YtoagnajljdbobaaDD
import Derived.Test.YtoagnajljdbobaaV
namespace Go.Proofs.Ytoagnajljdbobaa
open Go.RowKit
attribute [local go_sem ↓] Go.wp_at_zero Go.wp_at_succ

theorem smR.fit {r : Rg} (h : smR r) : rgFit r := by obtain ⟨_, _, _, _⟩ := h; unfold rgFit fit64; omega
theorem OwnS.rung {w : World} {b : Nat} {v : Value} {r : Rg} (h : OwnS w b v r.logic) (hs : smR r) : RungR w w.heap.size (rgV v r) r := ⟨v, rfl, h.read (by have := hs.2.1; omega) hs.1, hs.fit⟩
def smL (ps : List (Value × Rg)) : Prop := ps.length ≤ 24 ∧ ∀ p ∈ ps, smR p.2
theorem OwnD.sm {w : World} {b : Nat} {v : Value} {ps : List (Value × Rg)} (h : OwnD w b v ps) (hl : ps.length ≤ 24) : smL ps := ⟨hl, fun p hp => (h.2 p hp).2⟩
def DrawLP (w : World) (e : Ending) (w' : World) : Prop := ∃ v ps n, e = .returned (.tuple #[v, .int .i64 n]) ∧ LadR w' w'.heap.size v ps ∧ smL ps ∧ (0 ≤ n ∧ n ≤ 5) ∧ Below w.heap.size w w'
def DrawLL (w : World) (e : Ending) (w' : World) : Prop := ∃ v ps, e = .returned v ∧ LadR w' w'.heap.size v ps ∧ smL ps ∧ Below w.heap.size w w'
theorem open_at (v : Value) (l : List Int) (w W : World) (h : BytesR w w.heap.size v l) (hb : Below w.heap.size w W) :
    Calls Try.prog 79 #[v] W fun e w' => e = .returned (.pointer (some ⟨W.heap.size, 0, none⟩)) ∧ Rdr w' W.heap.size 0 ∧ Below W.heap.size W w' := by
  have h' : BytesR W W.heap.size v l := by
    obtain ⟨A, c, rfl, h1, h2, h3⟩ := h
    exact ⟨A, c, rfl, h1, h2.below hb, h3⟩
  simpa using l20Open_any v l W h'
set_option maxHeartbeats 400000 in
theorem drawDoubleCoils_any (v : Value) (l : List Int) (w : World) (h : BytesR w w.heap.size v l) :
    Calls Try.prog 62 #[v] w (DrawLL w) := by
  have HO := Lib.hid (l20Open_any v l w h)
  obtain ⟨A, n0, c, rfl⟩ := h.form
  clear h
  go_enter Try.func62, Try.ntmps62
  go_wp2_with fail
  refine HO.out.mono ?_
  rintro e w1 ⟨rfl, hR1, hb1⟩
  have hF1 : Fr w.heap.size w.heap.size w w1 := Fr.of_below _ hb1
  have hs1 := hR1.lt
  clear HO hb1
  go_wp2_with fail
  refine (pick_any _ 0 4 _ hR1 (by omega) (by omega)).mono ?_
  rintro e w2 ⟨r2, rfl, hr2, hR2, hF2⟩
  replace hF2 := hF1.trans (hF2.mono hF1.size)
  clear hR1 hF1
  go_wp2_with fail
  refine (ladder_any _ 1 _ 0 6 _ hR2 (by omega) (by omega) (by omega) (by omega) (by omega) (by omega) (by omega)).mono ?_
  rintro e w3 ⟨V, ps, rfl, hO, hL, hR3, hF3⟩
  have hsm := hO.sm hL
  have hLR := hO.read (by omega)
  replace hF3 := hF2.trans (hF3.mono hF2.size)
  obtain ⟨A3, c3, rfl, -, -⟩ := own_form hO.1

  go_wp2
  go_ret
  exact ⟨_, ps, rfl, hLR, hsm, hF3.below (Nat.le_refl _)⟩
def DrawRP (w : World) (e : Ending) (w' : World) : Prop := ∃ v r n, e = .returned (.tuple #[rgV v r, .int .i64 n]) ∧ RungR w' w'.heap.size (rgV v r) r ∧ smR r ∧ (0 ≤ n ∧ n ≤ 5) ∧ Below w.heap.size w w'
def DrawIP (w : World) (e : Ending) (w' : World) : Prop := ∃ v1 v2 m ps, e = .returned (.tuple #[v1, v2]) ∧ OwnM w' w.heap.size v1 m ∧ smallM m 17 9 ∧ LadR w' w'.heap.size v2 ps ∧ smL ps ∧ Below w.heap.size w w'
theorem OwnD.set_o {w : World} {base : Nat} {v : Value} {ps : List (Value × Rg)} (h : OwnD w base v ps) {p : Addr} (hp : p.block < base) (u : Value) : OwnD (w.setCell p u) base v ps :=
  ⟨ownsRow_setCell_below h.1 hp u, fun q hq => ⟨(h.2 q hq).1.set_o hp u, (h.2 q hq).2⟩⟩
set_option maxHeartbeats 1000000 in
theorem drawRunLadder_any (v : Value) (l : List Int) (w : World) (h : BytesR w w.heap.size v l) :
    Calls Try.prog 54 #[v] w (DrawIP w) := by
  have ho := open_any2 v l w
  have HO := Lib.hid (fun o => ho o h)
  obtain ⟨A, c, rfl, -⟩ := h
  clear ho
  have tok1 : True := trivial
  go_enter Try.func54, Try.ntmps54
  go_wp2_with fail
  refine (HO.out _).mono ?_
  rintro e w1 ⟨rfl, hR1, hb1⟩
  have hx1 := (hb1.block w.heap.size (by omega)).trans (heap_alloc_new w _)
  have hF1 : Fr w.heap.size (w.heap.size + 1) w w1 := Fr.of_below _ (((Below.refl _ _).alloc (Nat.le_refl _) _).trans (hb1.mono (by omega)))
  have hs1 := hR1.lt
  clear hb1 HO
  go_wp2_with fail
  refine (image_any _ 0 12 _ hR1 (by omega) (by omega) (by omega)).mono ?_
  rintro e w2 ⟨v, m, rfl, hO2, hS2, hR2, hF2⟩
  obtain ⟨A1, c1, A2, c2, rfl, h1, h2⟩ := hO2.form
  have hx2 := (hF2.block _ (by omega) (by omega)).trans hx1
  have hI2 := ImgAt.new h1 h2 hx2
  replace hF2 := hF1.trans (hF2.mono (by omega))
  have hs2 := hR2.lt
  have hbl := hS2.1
  have hwl := hS2.2.1
  clear hO2 h1 h2 hx1 hx2 hF1 hR1
  obtain ⟨c0, c1', z0, z1, d0, d1, y0, y1⟩ := hI2.facts
  have hne := hI2.ne
  have hne' := hne.symm
  go_wp2_with fail
  go_region_held3 (fun w' => w'.cell? ⟨w2.heap.size, 0, none⟩ = some (.slice A1 m.bits.length c1) ∧ w'.cell? ⟨w2.heap.size, 1, none⟩ = some (.slice A2 m.words.length c2)) (first | go_keep)
    (first
      | (go_at_call 108; have tok := tok1; refine (ladder_any (w.heap.size + 1) 100 _ 0 12 _ ((hR2.below ((Below.refl _ _).alloc (Nat.le_refl _) _)).drew.mono (by omega)) (by omega) (by omega) (by omega) (by omega) (by omega) (by omega) (by omega)).mono ?_; rintro e w3 ⟨V, ps, rfl, hO, hL, hR3, hF3⟩; have hO' := hO.mono (b := w.heap.size + 1) (by show _ ≤ (w2.alloc _).heap.size; simp; omega); have hI3 := (ImgAt.drew hI2).fr hF3 (by omega) (by omega) (by omega); obtain ⟨e0, e1', a0, a1, f0, f1, b0, b1⟩ := hI3.facts; have hF3' := ((hF2.alloc (by omega) _).drew).trans (hF3.mono (by show w.heap.size ≤ (w2.alloc _).heap.size; simp; omega)); obtain ⟨A3, c3, rfl, -, -⟩ := own_form hO'.1; clear tok tok1 hO)
)
  go_wp2
  exact bodyPost_ret (v := .tuple #[.agg #[.slice A1 m.bits.length c1, .slice A2 m.words.length c2], .slice A3 ps.length c3]) (by simp [results, Try.results54, go_sem, *]) rfl ⟨_, _, m, ps, rfl, hI3.done.mono (by omega), hS2, OwnD.read (OwnD.set_o (OwnD.set_o hO' (by simp) _) (by simp) _) (by omega), hO'.sm hL, (((hF3').setCell (.inl (Nat.le_refl _)) _).setCell (.inl (Nat.le_refl _)) _).below (by omega)⟩
theorem OwnM.set_d {w : World} {b : Nat} {v : Value} {m : Img} (h : OwnM w b v m) {p : Addr} (hp : p.block < b) (u : Value) : OwnM (w.setCell p u) b v m := by
  obtain ⟨v1, v2, rfl, h1, h2⟩ := h
  exact ⟨v1, v2, rfl, ownsRow_setCell_below h1 hp u, ownsRow_setCell_below h2 hp u⟩
def DrawGP (w : World) (e : Ending) (w' : World) : Prop := ∃ v1 v2 m r, e = .returned (.tuple #[v1, rgV v2 r]) ∧ OwnM w' w.heap.size v1 m ∧ smallM m 17 9 ∧ RungR w' w'.heap.size (rgV v2 r) r ∧ smR r ∧ Below w.heap.size w w'
set_option maxHeartbeats 1000000 in
theorem drawRunRung_any (v : Value) (l : List Int) (w : World) (h : BytesR w w.heap.size v l) :
    Calls Try.prog 49 #[v] w (DrawGP w) := by
  have HO := Lib.hid (fun (W : World) hb => open_at v l w W h hb)
  obtain ⟨A, n0, c, rfl⟩ := h.form
  clear h
  have tok1 : True := trivial
  go_enter Try.func49, Try.ntmps49
  go_wp2_with fail
  refine (HO.out _ (((Below.refl _ _).alloc (Nat.le_refl _) _).alloc (by simp) _)).mono ?_
  rintro e w1 ⟨rfl, hR1, hb1⟩
  simp only [World.size_alloc] at hR1 hb1
  have hx1 := (hb1.block w.heap.size (by omega)).trans (blk_alloc (heap_alloc_new w _) _)
  have hy0 := heap_alloc_new (w.alloc (.cells #[.slice none 0 0, .slice none 0 0] 26)) (.cells #[.slice none 0 0, .int .i64 0, .int .i64 0] 58)
  simp only [World.size_alloc] at hy0
  have hy1 := (hb1.block (w.heap.size + 1) (by omega)).trans hy0
  have hF1 : Fr w.heap.size (w.heap.size + 1 + 1) w w1 := Fr.of_below _ ((((Below.refl _ _).alloc (Nat.le_refl _) _).alloc (by simp) _).trans (hb1.mono (by omega)))
  have hs1 := hR1.lt
  clear hb1 HO hy0
  go_wp2_with fail
  refine (image_any _ 0 12 _ hR1 (by omega) (by omega) (by omega)).mono ?_
  rintro e w2 ⟨v, m, rfl, hO2, hS2, hR2, hF2⟩
  obtain ⟨A1, c1, A2, c2, rfl, h1, h2⟩ := hO2.form
  have hx2 := (hF2.block _ (by omega) (by omega)).trans hx1
  have hy2 := (hF2.block _ (by omega) (by omega)).trans hy1
  have hI2 := ImgAt.new h1 h2 hx2
  replace hF2 := hF1.trans (hF2.mono (by omega))
  have hs2 := hR2.lt
  have hbl := hS2.1
  have hwl := hS2.2.1
  clear hO2 h1 h2 hx1 hx2 hy1 hF1 hR1
  obtain ⟨c0, c1', z0, z1, d0, d1, y0, y1⟩ := hI2.facts
  have hne := hI2.ne
  have hne' := hne.symm
  go_wp2_with fail
  have hn4 : w2.heap.size ≠ w.heap.size + 1 := by omega
  have hn5 : w.heap.size + 1 ≠ w2.heap.size := by omega
  have hn6 : w.heap.size ≠ w.heap.size + 1 := by omega
  have hn7 : w.heap.size + 1 ≠ w.heap.size := by omega
  go_region_held3 (fun w' => w'.cell? ⟨w2.heap.size, 0, none⟩ = some (.slice A1 m.bits.length c1) ∧ w'.cell? ⟨w2.heap.size, 1, none⟩ = some (.slice A2 m.words.length c2)) (first | go_keep)
    (first
      | (go_at_call 101; have tok := tok1; refine (rung_any (w.heap.size + 1 + 1) 100 _ 0 14 _ ((hR2.below ((Below.refl _ _).alloc (Nat.le_refl _) _)).drew.mono (by omega)) (by omega) (by omega) (by omega) (by omega) (by omega) (by omega) (by omega)).mono ?_; rintro e w3 ⟨V, r, rfl, hO, hsm, hR3, hF3⟩; have hO' := hO.mono (b' := w.heap.size + 1 + 1) (by show _ ≤ (w2.alloc _).heap.size; simp; omega); have hI3 := (ImgAt.drew hI2).fr hF3 (by omega) (by omega) (by omega); have hy3 := (hF3.block _ (blk_lt (blk_alloc hy2 _)) (by omega)).trans (blk_alloc hy2 _); obtain ⟨e0, e1', a0, a1, f0, f1, b0, b1⟩ := hI3.facts; obtain ⟨⟨m0, m1, m2⟩, n1, n2, n3⟩ := blkR3 hy3; have hF3' := ((hF2.alloc (by omega) _).drew).trans (hF3.mono (by show w.heap.size ≤ (w2.alloc _).heap.size; simp; omega)); obtain ⟨B, off, cap, rfl, -, -, -⟩ := hO'.form; obtain ⟨lg, co, ki⟩ := r; unfold rgV; clear tok tok1 hO)
)
  go_wp2
  refine bodyPost_ret (v := .tuple #[.agg #[.slice A1 m.bits.length c1, .slice A2 m.words.length c2], .agg #[.slice (some ⟨B, off, none⟩) lg.length cap, .int .i64 co, .int .i64 ki]]) (by simp [results, Try.results49, go_sem, *]) rfl ⟨_, _, m, ⟨lg, co, ki⟩, rfl, ?_, hS2, OwnS.rung (r := ⟨lg, co, ki⟩) (((((hO'.set_o (by simp; omega) _).set_o (by simp; omega) _).set_o (by simp) _).set_o (by simp) _).set_o (by simp) _) hsm, hsm, ?_⟩
  · exact (((hI3.done.set_d (by simp; omega) _).set_d (by simp; omega) _).set_d (by simp; omega) _).mono (by omega)
  · exact ((((((hF3').setCell (.inl (Nat.le_refl _)) _).setCell (.inl (Nat.le_refl _)) _).setCell (.inl (by simp)) _).setCell (.inl (by simp)) _).setCell (.inl (by simp)) _).below (by omega)
def DrawTP (w : World) (e : Ending) (w' : World) : Prop := ∃ u1 u2 r1 r2, e = .returned (.tuple #[rgV u1 r1, rgV u2 r2]) ∧ RungR w' w'.heap.size (rgV u1 r1) r1 ∧ RungR w' w'.heap.size (rgV u2 r2) r2 ∧ (smR r1 ∧ smR r2) ∧ Below w.heap.size w w'
set_option maxHeartbeats 1000000 in
theorem drawRungsIndependent_any (v : Value) (l : List Int) (w : World) (h : BytesR w w.heap.size v l) :
    Calls Try.prog 59 #[v] w (DrawTP w) := by
  have HO := Lib.hid (fun (W : World) hb => open_at v l w W h hb)
  obtain ⟨A, n0, c, rfl⟩ := h.form
  clear h
  have tok1 : True := trivial
  go_enter Try.func59, Try.ntmps59
  go_wp2_with fail
  refine (HO.out _ (((Below.refl _ _).alloc (Nat.le_refl _) _).alloc (by simp) _)).mono ?_
  rintro e w1 ⟨rfl, hR1, hb1⟩
  simp only [World.size_alloc] at hR1 hb1
  have hx1 := (hb1.block w.heap.size (by omega)).trans (blk_alloc (heap_alloc_new w _) _)
  have hy0 := heap_alloc_new (w.alloc (.cells #[.slice none 0 0, .int .i64 0, .int .i64 0] 58)) (.cells #[.slice none 0 0, .int .i64 0, .int .i64 0] 58)
  simp only [World.size_alloc] at hy0
  have hy1 := (hb1.block (w.heap.size + 1) (by omega)).trans hy0
  have hF1 : Fr w.heap.size (w.heap.size + 1 + 1) w w1 := Fr.of_below _ ((((Below.refl _ _).alloc (Nat.le_refl _) _).alloc (by simp) _).trans (hb1.mono (by omega)))
  have hs1 := hR1.lt
  clear hb1 HO hy0
  go_wp2_with fail
  refine (pick_any _ 0 8 _ hR1 (by omega) (by omega)).mono ?_
  rintro e w2 ⟨r2, rfl, hr2, hR2, hF2⟩
  have hx2 := blkR hF2 hx1 (by omega)
  have hy2 := blkR hF2 hy1 (by omega)
  replace hF2 := hF1.trans (hF2.mono hF1.size)
  have hs2 := hR2.lt
  clear hR1 hF1 hx1 hy1
  go_wp2_with fail
  refine (rung_any _ 1 _ 0 14 _ hR2 (by omega) (by omega) (by omega) (by omega) (by omega) (by omega) (by omega)).mono ?_
  rintro e w3 ⟨V, r, rfl, hO, hsm, hR3, hF3⟩
  have hx3 := blkR hF3 hx2 (by omega)
  have hy3 := blkR hF3 hy2 (by omega)
  replace hO := hO.mono (b' := w.heap.size + 1 + 1 + 1) (by omega)
  replace hF3 := hF2.trans (hF3.mono hF2.size)
  have hs3 := hR3.lt
  obtain ⟨B, off, cap, rfl, -, -, -⟩ := hO.form
  obtain ⟨lg, co, ki⟩ := r
  unfold rgV
  clear hR2 hF2 hx2 hy2
  have ha3 := heap_alloc_new w3 (.cells #[.slice (some ⟨B, off, none⟩) lg.length cap, .int .i64 co, .int .i64 ki] 58)
  obtain ⟨⟨p0, p1, p2⟩, -, -, -⟩ := blkR3 ha3
  have hn1 : w3.heap.size ≠ w.heap.size := by omega
  have hn2 : w.heap.size ≠ w3.heap.size := by omega
  have hn4 : w3.heap.size ≠ w.heap.size + 1 := by omega
  have hn5 : w.heap.size + 1 ≠ w3.heap.size := by omega
  have hn6 : w.heap.size ≠ w.heap.size + 1 := by omega
  have hn7 : w.heap.size + 1 ≠ w.heap.size := by omega
  go_wp2_with fail
  go_region_held3 (fun w' => w'.cell? ⟨w3.heap.size, 0, none⟩ = some (.slice (some ⟨B, off, none⟩) lg.length cap) ∧ w'.cell? ⟨w3.heap.size, 1, none⟩ = some (.int .i64 co) ∧ w'.cell? ⟨w3.heap.size, 2, none⟩ = some (.int .i64 ki)) (first | go_keep)
    (first
      | (go_at_call 101; have tok := tok1; refine (rung_any (w.heap.size + 1 + 1) 61 _ 0 14 _ ((hR3.below ((Below.refl _ _).alloc (Nat.le_refl _) _)).drew.mono (by omega)) (by omega) (by omega) (by omega) (by omega) (by omega) (by omega) (by omega)).mono ?_; rintro e w4 ⟨V, r4, rfl, hO4, hsm4, hR4, hF4⟩; have hO4' := hO4.mono (b' := w.heap.size + 1 + 1) (by show _ ≤ (w3.alloc _).heap.size; simp; omega); have hO5 := (hF4.ownS ((hO.alloc _).drew) (by omega)).mono (b' := w.heap.size + 1 + 1) (by omega); have hx4 := (hF4.block _ (blk_lt (blk_alloc hx3 _)) (by omega)).trans (blk_alloc hx3 _); have hy4 := (hF4.block _ (blk_lt (blk_alloc hy3 _)) (by omega)).trans (blk_alloc hy3 _); have ha4 := (hF4.block _ (blk_lt ha3) (by omega)).trans ha3; obtain ⟨⟨m0, m1, m2⟩, n1, n2, n3⟩ := blkR3 hx4; obtain ⟨⟨m3, m4, m5⟩, n4, n5, n6⟩ := blkR3 hy4; obtain ⟨⟨m6, m7, m8⟩, -, -, -⟩ := blkR3 ha4; have hF4' := ((hF3.alloc (by omega) _).drew).trans (hF4.mono (by show w.heap.size ≤ (w3.alloc _).heap.size; simp; omega)); obtain ⟨B4, off4, cap4, rfl, -, -, -⟩ := hO4'.form; obtain ⟨lg4, co4, ki4⟩ := r4; unfold rgV; clear tok tok1 hO4)
)
  go_wp2
  refine bodyPost_ret (v := .tuple #[.agg #[.slice (some ⟨B, off, none⟩) lg.length cap, .int .i64 co, .int .i64 ki], .agg #[.slice (some ⟨B4, off4, none⟩) lg4.length cap4, .int .i64 co4, .int .i64 ki4]]) (by simp [results, Try.results59, go_sem, *]) rfl ⟨_, _, ⟨lg, co, ki⟩, ⟨lg4, co4, ki4⟩, rfl, OwnS.rung (b := w.heap.size + 1 + 1) (r := ⟨lg, co, ki⟩) ?_ hsm, OwnS.rung (b := w.heap.size + 1 + 1) (r := ⟨lg4, co4, ki4⟩) ?_ hsm4, ⟨hsm, hsm4⟩, ?_⟩
  · exact (((((hO5.set_o (by simp; omega) _).set_o (by simp; omega) _).set_o (by simp; omega) _).set_o (by simp) _).set_o (by simp) _).set_o (by simp) _
  · exact (((((hO4'.set_o (by simp; omega) _).set_o (by simp; omega) _).set_o (by simp; omega) _).set_o (by simp) _).set_o (by simp) _).set_o (by simp) _
  · exact (((((((hF4').setCell (.inl (Nat.le_refl _)) _).setCell (.inl (Nat.le_refl _)) _).setCell (.inl (Nat.le_refl _)) _).setCell (.inl (by simp)) _).setCell (.inl (by simp)) _).setCell (.inl (by simp)) _).below (by omega)
end Go.Proofs.Ytoagnajljdbobaa
