/- The draw of Debounce: a signal and a number of values, drawn from two rows of numbers. -/
import Derived.Test.YthebkamggkfnlaaLD
import Derived.Test.YthebkamggkfnlaaR
namespace Go.Proofs.Ythebkamggkfnlaa
open Go.RowKit
attribute [local go_sem ↓] Go.wp_at_zero Go.wp_at_succ

theorem lit_cell (W : World) {cs : Array Value} (t : TypeId) {i : Nat} {u : Value} (h : cs[i]? = some u) : (W.alloc (.cells cs t)).cell? ⟨W.heap.size, i, none⟩ = some u := by
  rw [blk_cell (heap_alloc_new W _) i]; exact h
theorem lit_next (W : World) {p : Addr} {u : Value} (h : W.cell? p = some u) (o : Obj) : (W.alloc o).cell? p = some u := by
  rw [World.cell?_alloc_lt W o p (World.block_lt_of_cell? W p h)]; exact h
def rowA : Array Value := #[.int .i64 1, .int .i64 2, .int .i64 3, .int .i64 5, .int .i64 0, .int .i64 21]
def rowB : Array Value := #[.int .i64 0, .int .i64 1, .int .i64 2, .int .i64 3, .int .i64 0, .int .i64 1, .int .i64 2, .int .i64 3, .int .i64 4, .int .i64 5]
theorem rows_sel (r : Int) (h : 0 ≤ r ∧ (r < 10 ∨ r = 0)) : ∃ x y : Int, (0 ≤ x ∧ x < 6) ∧ (0 ≤ y ∧ y ≤ 21) ∧ rowB[r.toNat]? = some (.int .i64 x) ∧ rowA[x.toNat]? = some (.int .i64 y) := by
  have h1 : r = 0 ∨ r = 1 ∨ r = 2 ∨ r = 3 ∨ r = 4 ∨ r = 5 ∨ r = 6 ∨ r = 7 ∨ r = 8 ∨ r = 9 := by omega
  rcases h1 with rfl | rfl | rfl | rfl | rfl | rfl | rfl | rfl | rfl | rfl
  · exact ⟨0, 1, by omega, by omega, rfl, rfl⟩
  · exact ⟨1, 2, by omega, by omega, rfl, rfl⟩
  · exact ⟨2, 3, by omega, by omega, rfl, rfl⟩
  · exact ⟨3, 5, by omega, by omega, rfl, rfl⟩
  · exact ⟨0, 1, by omega, by omega, rfl, rfl⟩
  · exact ⟨1, 2, by omega, by omega, rfl, rfl⟩
  · exact ⟨2, 3, by omega, by omega, rfl, rfl⟩
  · exact ⟨3, 5, by omega, by omega, rfl, rfl⟩
  · exact ⟨4, 0, by omega, by omega, rfl, rfl⟩
  · exact ⟨5, 21, by omega, by omega, rfl, rfl⟩
def DrawBSI (w : World) (e : Ending) (w' : World) : Prop := ∃ a A c l h, e = .returned (.tuple #[.bool a, .slice A l.length c, .int .i64 h]) ∧ OwnB w' w.heap.size (.slice A l.length c) l ∧ l.length ≤ 201 ∧ (0 ≤ h ∧ h ≤ 21) ∧ Below w.heap.size w w'
def PickP (n : Int) (g P : Nat) (w : World) (e : Ending) (w' : World) : Prop := ∃ r : Int, e = .returned (.int .i64 r) ∧ (0 ≤ r ∧ (r < n ∨ r = 0)) ∧ Rdr w' g (P + 1) ∧ Fr w.heap.size g w w'
set_option maxHeartbeats 4000000 in
theorem drawDebounce_any (v : Value) (l : List Int) (w : World) (h : BytesR w w.heap.size v l) :
    Calls Try.prog 28 #[v] w (DrawBSI w) := by
  have HO := Lib.hid (l20Open_any v l w h)
  obtain ⟨A, n0, c, rfl⟩ := h.formD
  clear h
  go_enter Try.func28, Try.ntmps28
  go_wp2_with fail
  refine HO.out.mono ?_
  rintro e w1 ⟨rfl, hR1, hb1⟩
  have hF1 : Fr w.heap.size w.heap.size w w1 := Fr.of_below _ hb1
  clear HO hb1
  go_wp2_with fail
  refine (pick_any _ 0 2 _ hR1 (by omega) (by omega)).mono ?_
  rintro e w2 ⟨r2, rfl, hr2, hR2, hF2⟩
  replace hF2 := hF1.trans (hF2.mono hF1.size)
  clear hR1 hF1
  go_wp2_with fail
  refine (signal_any _ 1 _ hR2 (by omega)).mono ?_
  rintro e w3 ⟨v, l, rfl, hO, hl, hR3, hF3⟩
  have hg3 := hR3.lt
  have hO' := mono_own hO (b' := w.heap.size + 1) (by have := hR2.lt; omega)
  replace hF3 := hF2.trans (hF3.mono hF2.size)
  obtain ⟨A, c, rfl, -, -⟩ := own_form hO
  have HOW := Lib.hid hO'
  have HL := Lib.hid hl
  have hs3 := hF3.size
  clear hO hO' hF2 hR2 hl
  have CG := Lib.hid (fun (W : World) (hb : Below w3.heap.size w3 W) => (show Calls Try.prog 38 #[.pointer (some ⟨w.heap.size, 0, none⟩), .int .i64 10] W (PickP 10 w.heap.size 406 W) from pick_any _ _ 10 _ (hR3.below hb) (by omega) (by omega)))
  have OG := Lib.hid (fun (W : World) (hb : Below w3.heap.size w3 W) => own_below HOW.out hb)
  have FG := Lib.hid (fun (W : World) (hb : Below w3.heap.size w3 W) => hF3.then_ hb hF3.size)
  have KA := Lib.hid (heap_alloc_new w3 (.cells #[.int .i64 1, .int .i64 2, .int .i64 3, .int .i64 5, .int .i64 0, .int .i64 21] 3))
  have KB := Lib.hid (heap_alloc_new w3 (.cells #[.int .i64 0, .int .i64 1, .int .i64 2, .int .i64 3, .int .i64 0, .int .i64 1, .int .i64 2, .int .i64 3, .int .i64 4, .int .i64 5] 3))
  have ab := heap_alloc_new (w3.alloc (.cells #[.int .i64 1, .int .i64 2, .int .i64 3, .int .i64 5, .int .i64 0, .int .i64 21] 3)) (.cells #[.int .i64 0, .int .i64 1, .int .i64 2, .int .i64 3, .int .i64 0, .int .i64 1, .int .i64 2, .int .i64 3, .int .i64 4, .int .i64 5] 3)
  have ba := heap_alloc_new (w3.alloc (.cells #[.int .i64 0, .int .i64 1, .int .i64 2, .int .i64 3, .int .i64 0, .int .i64 1, .int .i64 2, .int .i64 3, .int .i64 4, .int .i64 5] 3)) (.cells #[.int .i64 1, .int .i64 2, .int .i64 3, .int .i64 5, .int .i64 0, .int .i64 21] 3)
  rw [World.size_alloc] at ab ba
  have KABa := Lib.hid (blk_alloc (heap_alloc_new w3 (.cells #[.int .i64 1, .int .i64 2, .int .i64 3, .int .i64 5, .int .i64 0, .int .i64 21] 3)) (.cells #[.int .i64 0, .int .i64 1, .int .i64 2, .int .i64 3, .int .i64 0, .int .i64 1, .int .i64 2, .int .i64 3, .int .i64 4, .int .i64 5] 3))
  have KABb := Lib.hid ab
  have KBAb := Lib.hid (blk_alloc (heap_alloc_new w3 (.cells #[.int .i64 0, .int .i64 1, .int .i64 2, .int .i64 3, .int .i64 0, .int .i64 1, .int .i64 2, .int .i64 3, .int .i64 4, .int .i64 5] 3)) (.cells #[.int .i64 1, .int .i64 2, .int .i64 3, .int .i64 5, .int .i64 0, .int .i64 21] 3))
  have KBAa := Lib.hid ba
  have B0 := Lib.hid ((Below.refl w3.heap.size w3).drew)
  have BA := Lib.hid (((Below.refl w3.heap.size w3).alloc (Nat.le_refl _) (.cells #[.int .i64 1, .int .i64 2, .int .i64 3, .int .i64 5, .int .i64 0, .int .i64 21] 3)).drew)
  have BB := Lib.hid (((Below.refl w3.heap.size w3).alloc (Nat.le_refl _) (.cells #[.int .i64 0, .int .i64 1, .int .i64 2, .int .i64 3, .int .i64 0, .int .i64 1, .int .i64 2, .int .i64 3, .int .i64 4, .int .i64 5] 3)).drew)
  have BAB := Lib.hid ((((Below.refl w3.heap.size w3).alloc (Nat.le_refl _) (.cells #[.int .i64 1, .int .i64 2, .int .i64 3, .int .i64 5, .int .i64 0, .int .i64 21] 3)).alloc (by simp) (.cells #[.int .i64 0, .int .i64 1, .int .i64 2, .int .i64 3, .int .i64 0, .int .i64 1, .int .i64 2, .int .i64 3, .int .i64 4, .int .i64 5] 3)).drew)
  have BBA := Lib.hid ((((Below.refl w3.heap.size w3).alloc (Nat.le_refl _) (.cells #[.int .i64 0, .int .i64 1, .int .i64 2, .int .i64 3, .int .i64 0, .int .i64 1, .int .i64 2, .int .i64 3, .int .i64 4, .int .i64 5] 3)).alloc (by simp) (.cells #[.int .i64 1, .int .i64 2, .int .i64 3, .int .i64 5, .int .i64 0, .int .i64 21] 3)).drew)
  clear ab ba hR3 hF3
  have tok1 : True := trivial
  go_wp2_with fail
  go_region_with (first
      | (go_at_call 38; have tok := tok1; (with_reducible refine (CG.out _ BAB.out).mono ?_); rintro e w4 ⟨r, rfl, hr, hR4, hF4⟩; have hO4 := hF4.own (OG.out _ BAB.out) (by omega); have hF5 := (FG.out _ BAB.out).trans (hF4.mono (by simp; omega)); obtain ⟨x, y, hx, hy, eX, eY⟩ := rows_sel r hr; have EX := Lib.hid eX; have EY := Lib.hid eY; have hr1 := hr.1; have hr2 : r < 10 := (by omega); have hx1 := hx.1; have hx2 := hx.2; have mA := (hF4.block w3.heap.size (by simp; try omega) (by omega)).trans KABa.out; have sA := blk_lt mA; have mB := (hF4.block (w3.heap.size + 1) (by simp; try omega) (by omega)).trans KABb.out; have sB := blk_lt mB; have fA := (blk_cell mA x.toNat).trans (show _ = some (.int .i64 y) from EY.out); have fB := (blk_cell mB r.toNat).trans (show _ = some (.int .i64 x) from EX.out); clear tok tok1 eX eY hr hx hF4 hR4)
      | (go_at_call 38; have tok := tok1; (with_reducible refine (CG.out _ BBA.out).mono ?_); rintro e w4 ⟨r, rfl, hr, hR4, hF4⟩; have hO4 := hF4.own (OG.out _ BBA.out) (by omega); have hF5 := (FG.out _ BBA.out).trans (hF4.mono (by simp; omega)); obtain ⟨x, y, hx, hy, eX, eY⟩ := rows_sel r hr; have EX := Lib.hid eX; have EY := Lib.hid eY; have hr1 := hr.1; have hr2 : r < 10 := (by omega); have hx1 := hx.1; have hx2 := hx.2; have mB := (hF4.block w3.heap.size (by simp; try omega) (by omega)).trans KBAb.out; have sB := blk_lt mB; have mA := (hF4.block (w3.heap.size + 1) (by simp; try omega) (by omega)).trans KBAa.out; have sA := blk_lt mA; have fA := (blk_cell mA x.toNat).trans (show _ = some (.int .i64 y) from EY.out); have fB := (blk_cell mB r.toNat).trans (show _ = some (.int .i64 x) from EX.out); clear tok tok1 eX eY hr hx hF4 hR4)
      | (go_at_call 38; have tok := tok1; (with_reducible refine (CG.out _ BA.out).mono ?_); rintro e w4 ⟨r, rfl, hr, hR4, hF4⟩; have hO4 := hF4.own (OG.out _ BA.out) (by omega); have hF5 := (FG.out _ BA.out).trans (hF4.mono (by simp; omega)); obtain ⟨x, y, hx, hy, eX, eY⟩ := rows_sel r hr; have EX := Lib.hid eX; have EY := Lib.hid eY; have hr1 := hr.1; have hr2 : r < 10 := (by omega); have hx1 := hx.1; have hx2 := hx.2; have mA := (hF4.block w3.heap.size (by simp; try omega) (by omega)).trans KA.out; have sA := blk_lt mA; have fA := (blk_cell mA x.toNat).trans (show _ = some (.int .i64 y) from EY.out); have gA := lit_next w4 fA (.cells #[.int .i64 0, .int .i64 1, .int .i64 2, .int .i64 3, .int .i64 0, .int .i64 1, .int .i64 2, .int .i64 3, .int .i64 4, .int .i64 5] 3); have gB := lit_cell w4 3 (show (#[.int .i64 0, .int .i64 1, .int .i64 2, .int .i64 3, .int .i64 0, .int .i64 1, .int .i64 2, .int .i64 3, .int .i64 4, .int .i64 5] : Array Value)[r.toNat]? = some (.int .i64 x) from EX.out); clear tok tok1 eX eY hr hx hF4 hR4)
      | (go_at_call 38; have tok := tok1; (with_reducible refine (CG.out _ BB.out).mono ?_); rintro e w4 ⟨r, rfl, hr, hR4, hF4⟩; have hO4 := hF4.own (OG.out _ BB.out) (by omega); have hF5 := (FG.out _ BB.out).trans (hF4.mono (by simp; omega)); obtain ⟨x, y, hx, hy, eX, eY⟩ := rows_sel r hr; have EX := Lib.hid eX; have EY := Lib.hid eY; have hr1 := hr.1; have hr2 : r < 10 := (by omega); have hx1 := hx.1; have hx2 := hx.2; have mB := (hF4.block w3.heap.size (by simp; try omega) (by omega)).trans KB.out; have sB := blk_lt mB; have fB := (blk_cell mB r.toNat).trans (show _ = some (.int .i64 x) from EX.out); have gB := lit_next w4 fB (.cells #[.int .i64 1, .int .i64 2, .int .i64 3, .int .i64 5, .int .i64 0, .int .i64 21] 3); have gA := lit_cell w4 3 (show (#[.int .i64 1, .int .i64 2, .int .i64 3, .int .i64 5, .int .i64 0, .int .i64 21] : Array Value)[x.toNat]? = some (.int .i64 y) from EY.out); clear tok tok1 eX eY hr hx hF4 hR4)
      | (go_at_call 38; have tok := tok1; (with_reducible refine (CG.out _ B0.out).mono ?_); rintro e w4 ⟨r, rfl, hr, hR4, hF4⟩; have hO4 := hF4.own (OG.out _ B0.out) (by omega); have hF5 := (FG.out _ B0.out).trans (hF4.mono (by simp; omega)); obtain ⟨x, y, hx, hy, eX, eY⟩ := rows_sel r hr; have EX := Lib.hid eX; have EY := Lib.hid eY; have hr1 := hr.1; have hr2 : r < 10 := (by omega); have hx1 := hx.1; have hx2 := hx.2; have gA := lit_cell w4 3 (show (#[.int .i64 1, .int .i64 2, .int .i64 3, .int .i64 5, .int .i64 0, .int .i64 21] : Array Value)[x.toNat]? = some (.int .i64 y) from EY.out); have gB := lit_cell w4 3 (show (#[.int .i64 0, .int .i64 1, .int .i64 2, .int .i64 3, .int .i64 0, .int .i64 1, .int .i64 2, .int .i64 3, .int .i64 4, .int .i64 5] : Array Value)[r.toNat]? = some (.int .i64 x) from EX.out); have hA := lit_next _ gA (.cells #[.int .i64 0, .int .i64 1, .int .i64 2, .int .i64 3, .int .i64 0, .int .i64 1, .int .i64 2, .int .i64 3, .int .i64 4, .int .i64 5] 3); have hB := lit_next _ gB (.cells #[.int .i64 1, .int .i64 2, .int .i64 3, .int .i64 5, .int .i64 0, .int .i64 21] 3); have iA := lit_cell (w4.alloc (.cells #[.int .i64 0, .int .i64 1, .int .i64 2, .int .i64 3, .int .i64 0, .int .i64 1, .int .i64 2, .int .i64 3, .int .i64 4, .int .i64 5] 3)) 3 (show (#[.int .i64 1, .int .i64 2, .int .i64 3, .int .i64 5, .int .i64 0, .int .i64 21] : Array Value)[x.toNat]? = some (.int .i64 y) from EY.out); have iB := lit_cell (w4.alloc (.cells #[.int .i64 1, .int .i64 2, .int .i64 3, .int .i64 5, .int .i64 0, .int .i64 21] 3)) 3 (show (#[.int .i64 0, .int .i64 1, .int .i64 2, .int .i64 3, .int .i64 0, .int .i64 1, .int .i64 2, .int .i64 3, .int .i64 4, .int .i64 5] : Array Value)[r.toNat]? = some (.int .i64 x) from EX.out); rw [World.size_alloc] at iA iB; clear tok tok1 eX eY hr hx hF4 hR4))
  all_goals
    have hs4 := hF5.size
    go_wp2
    refine bodyPost_ret (v := .tuple #[.bool (r2 == 0), .slice A l.length c, .int .i64 y]) (by simp [results, Try.results28, go_sem, *]) rfl ⟨_, _, _, l, y, rfl, mono_own (b := w.heap.size + 1) (b' := w.heap.size) ?_ (by omega), HL.out, hy, ?_⟩
    · first | exact hO4 | exact World.ownsRow.alloc hO4 _ | exact World.ownsRow.alloc (World.ownsRow.alloc hO4 _) _
    · first | exact hF5.below (Nat.le_refl _) | exact (hF5.below (Nat.le_refl _)).alloc (by omega) _ | exact ((hF5.below (Nat.le_refl _)).alloc (by omega) _).alloc (by simp; omega) _
end Go.Proofs.Ythebkamggkfnlaa
