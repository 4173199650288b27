/- The exact laws' helpers over one rung: size, copy, equality, marks. -/
import Derived.Test.YtoagnajljdbobaaRS
import Derived.Test.YtoagnajljdbobaaEO
import Derived.Test.YtoagnajljdbobaaED
namespace Go.Proofs.Ytoagnajljdbobaa
open Go.RowKit
attribute [local go_sem ↓] Go.wp_at_zero Go.wp_at_succ

theorem szRung_in (A : Option Addr) (n c : Nat) (x y left : Int) (w : World) (h1 : n ≤ left ∧ left ≤ 1048576) :
    Calls Try.prog 66 #[.agg #[.slice A n c, .int .i64 x, .int .i64 y], .int .i64 left] w fun e w' => e = .returned (.int .i64 (left - n)) ∧ Below w.heap.size w w' := by
  have q0 : 0 ≤ left - n := by omega
  go_enter Try.func66, Try.ntmps66
  go_wp2_with fail
  refine (szN_in _ n _ left _ h1).mono ?_
  rintro e w1 ⟨rfl, rfl⟩
  go_wp2
  go_ret
  exact ⟨rfl, (Below.refl _ _).alloc (Nat.le_refl _) _⟩
theorem szRung_over (A : Option Addr) (n c : Nat) (x y left : Int) (w : World) (hn : n ≤ 9223372036854775807) (h1 : left < n ∧ 0 ≤ left ∧ left ≤ 1048576) :
    Calls Try.prog 66 #[.agg #[.slice A n c, .int .i64 x, .int .i64 y], .int .i64 left] w fun e w' => e = .returned (.int .i64 (-1)) ∧ Below w.heap.size w w' := by
  go_enter Try.func66, Try.ntmps66
  go_wp2_with fail
  refine (szN_over _ n _ left _ hn h1).mono ?_
  rintro e w1 ⟨rfl, rfl⟩
  go_wp2
  go_ret
  exact ⟨rfl, (Below.refl _ _).alloc (Nat.le_refl _) _⟩
def TRP (l : List Nd) (x y : Int) (w : World) (e : Ending) (w' : World) : Prop := ∃ A c, e = .returned (.agg #[.slice A l.length c, .int .i64 x, .int .i64 y]) ∧ OwnN w' w.heap.size (.slice A l.length c) l ∧ Below w.heap.size w w'
set_option maxHeartbeats 1000000 in
theorem toRung_any (A : Option Addr) (c : Nat) (l : List Nd) (x y : Int) (w : World) (h : NodesR w w.heap.size (.slice A l.length c) l) (hl : l.length ≤ 1048576) :
    Calls Try.prog 67 #[.agg #[.slice A l.length c, .int .i64 x, .int .i64 y]] w (TRP l x y w) := by
  have HN := Lib.hid (fun (w' : World) (hb : Below w.heap.size w w') => h.below hb)
  clear h
  have B0 : ∀ o p q, Below w.heap.size w (((w.alloc o).alloc p).alloc q) := fun o p q => (((Below.refl _ _).alloc (Nat.le_refl _) _).alloc (by simp) _).alloc (by simp; omega) _
  go_enter Try.func67, Try.ntmps67
  go_wp2_with fail
  refine (toNodeS_any _ l _ (HN.out _ (B0 _ _ _)) (by omega)).mono ?_
  rintro e w1 ⟨u1, rfl, hO1, hb1⟩
  obtain ⟨a0, a1, a2⟩ := kept hb1 w.heap.size (by simp; omega)
  obtain ⟨a3, a4, a5⟩ := kept hb1 (w.heap.size + 1) (by simp)
  obtain ⟨a6, a7, a8⟩ := kept hb1 (w.heap.size + 1 + 1) (by simp)
  obtain ⟨U1, d1, rfl, -, -⟩ := own_form hO1
  have B1 := (B0 (.cells #[.slice A l.length c, .int .i64 x, .int .i64 y] 78) (.cells #[.slice none 0 0, .int .i64 0, .int .i64 0] 58) (.cells #[.slice none 0 0, .int .i64 0, .int .i64 0] 58)).trans (hb1.mono (by simp; omega))
  simp only [World.size_alloc] at hO1
  have HO := Lib.hid hO1
  clear hO1
  go_wp2
  refine bodyPost_ret (v := .agg #[.slice U1 l.length d1, .int .i64 x, .int .i64 y]) (by simp [results, Try.results67, go_sem, *]) rfl ⟨_, _, rfl, ?_, ?_⟩
  · exact mono_own (ownsRow_setCell_below (a := ⟨w.heap.size + 1, 2, none⟩) (ownsRow_setCell_below (a := ⟨w.heap.size + 1, 1, none⟩) (ownsRow_setCell_below (a := ⟨w.heap.size + 1, 0, none⟩) (ownsRow_setCell_below (a := ⟨w.heap.size + 1 + 1, 2, none⟩) (ownsRow_setCell_below (a := ⟨w.heap.size + 1 + 1, 1, none⟩) (ownsRow_setCell_below (a := ⟨w.heap.size + 1 + 1, 0, none⟩) HO.out (by first | (simp; done) | (simp; omega)) _) (by first | (simp; done) | (simp; omega)) _) (by first | (simp; done) | (simp; omega)) _) (by first | (simp; done) | (simp; omega)) _) (by first | (simp; done) | (simp; omega)) _) (by first | (simp; done) | (simp; omega)) _) (by omega)
  · exact ((((((B1.setCell (p := ⟨w.heap.size + 1 + 1, 0, none⟩) (by first | (simp; done) | (simp; omega)) _).setCell (p := ⟨w.heap.size + 1 + 1, 1, none⟩) (by first | (simp; done) | (simp; omega)) _).setCell (p := ⟨w.heap.size + 1 + 1, 2, none⟩) (by first | (simp; done) | (simp; omega)) _).setCell (p := ⟨w.heap.size + 1, 0, none⟩) (by first | (simp; done) | (simp; omega)) _).setCell (p := ⟨w.heap.size + 1, 1, none⟩) (by first | (simp; done) | (simp; omega)) _).setCell (p := ⟨w.heap.size + 1, 2, none⟩) (by first | (simp; done) | (simp; omega)) _)
theorem eqRung_same (v1 v2 : Value) (r : Rg) (w : World) (h1 : RungR w w.heap.size v1 r) (h2 : RungR w w.heap.size v2 r) :
    Calls Try.prog 68 #[v1, v2] w fun e w' => e = .returned (.bool true) ∧ Below w.heap.size w w' := by
  obtain ⟨u1, rfl, n1, -⟩ := h1
  obtain ⟨u2, rfl, n2, -⟩ := h2
  have N1 := Lib.hid (fun (w' : World) (hb : Below w.heap.size w w') => n1.below hb)
  have N2 := Lib.hid (fun (w' : World) (hb : Below w.heap.size w w') => n2.below hb)
  obtain ⟨A1, c1, rfl, -⟩ := n1
  obtain ⟨A2, c2, rfl, -⟩ := n2
  obtain ⟨lg, co, ki⟩ := r
  unfold rgV
  simp only at N1 N2 ⊢
  have B0 : ∀ o p, Below w.heap.size w ((w.alloc o).alloc p) := fun o p => ((Below.refl _ _).alloc (Nat.le_refl _) _).alloc (by simp) _
  go_enter Try.func68, Try.ntmps68
  go_wp2_with fail
  refine (eqN_same _ _ lg _ (N1.out _ (B0 _ _)) (N2.out _ (B0 _ _))).mono ?_
  rintro e w1 ⟨rfl, hb1⟩
  obtain ⟨a0, a1, a2⟩ := kept hb1 w.heap.size (by simp; omega)
  obtain ⟨a3, a4, a5⟩ := kept hb1 (w.heap.size + 1) (by simp)
  have B1 := (B0 (.cells #[.slice A1 lg.length c1, .int .i64 co, .int .i64 ki] 58) (.cells #[.slice A2 lg.length c2, .int .i64 co, .int .i64 ki] 58)).trans (hb1.mono (by simp; omega))
  go_wp2
  go_ret
  exact ⟨rfl, B1⟩
/-- markRung, on a copy of the law's own. -/
theorem markRung_any (A : Option Addr) (c : Nat) (l : List Nd) (x y : Int) (k lo hi : Nat) (w : World) (h : OwnX w lo hi 92 2 (.slice A l.length c) l.length (cellsN l)) (hk : k ≤ 1000000000000) (hl : l.length ≤ 1099511627776) (_hh : hi ≤ w.heap.size) :
    Calls Try.prog 69 #[.agg #[.slice A l.length c, .int .i64 x, .int .i64 y], .int .i64 k] w fun e w' => e = .returned (.int .i64 ((k + 2 * l.length : Nat) : Int)) ∧ Out lo hi w w' := by
  have hX := h.below ((Below.refl w.heap.size w).alloc (Nat.le_refl _) (.cells #[.slice A l.length c, .int .i64 x, .int .i64 y] 58))
  go_enter Try.func69, Try.ntmps69
  go_wp2_with fail
  refine (markNodeS_any _ l k lo hi _ hX hk hl).mono ?_
  rintro e w1 ⟨rfl, -, ho, -⟩
  go_wp2
  go_ret
  exact ⟨rfl, ⟨ho.os, ho.tape, ho.output, Nat.le_trans (by simp) ho.size, fun j hj hd => (ho.block j (by simp; omega) hd).trans (Below.block ((Below.refl w.heap.size w).alloc (Nat.le_refl _) _) j hj)⟩⟩
end Go.Proofs.Ytoagnajljdbobaa
