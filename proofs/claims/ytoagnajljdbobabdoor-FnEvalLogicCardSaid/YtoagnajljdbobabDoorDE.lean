/- Contracts of the draws of EvalLogic, LogicEquivalent and NegateLogic. -/
import Derived.Test.YtoagnajljdbobabDoorDD
import Derived.Test.YtoagnajljdbobabDoorV
namespace Go.Proofs.YtoagnajljdbobabDoor
open Go.RowKit
attribute [local go_sem ↓] Go.wp_at_zero Go.wp_at_succ

theorem Rd.new2N (w : World) (x y : Nd) (t : TypeId) : Rd (w.alloc (.cells #[.int .i64 x.op, .int .i64 x.bit, .int .i64 y.op, .int .i64 y.bit] t)) (w.heap.size + 1) 2 (some ⟨w.heap.size, 0, none⟩) 2 (cellsN [x, y]) := by
  refine ⟨rfl, fun _ => ⟨_, rfl, Nat.lt_succ_self _, fun j v hj => ?_⟩⟩
  match j, hj with
  | 0, hj => simp [cellsN] at hj; subst hj; simp [Addr.add]
  | 1, hj => simp [cellsN] at hj; subst hj; simp [Addr.add]
  | 2, hj => simp [cellsN] at hj; subst hj; simp [Addr.add]
  | 3, hj => simp [cellsN] at hj; subst hj; simp [Addr.add]
theorem OwnS.set_other {w : World} {base : Nat} {v : Value} {l : List Nd} (h : OwnS w base v l) {p : Addr} (hp : p.block < base) (u : Value) : OwnS (w.setCell p u) base v l :=
  h.kept fun k hk => Below.heap_setCell _ _ _ _ (by have := (h.lt k hk).1; omega)
theorem fit_app {l l2 : List Nd} (h : ∀ y ∈ l, ndFit y) (h2 : ∀ y ∈ l2, ndFit y) : ∀ y ∈ l ++ l2, ndFit y := by
  intro y hy
  rcases List.mem_append.1 hy with h' | h'
  · exact h y h'
  · exact h2 y h'
def DrawQP (w : World) (e : Ending) (w' : World) : Prop := ∃ v1 v2 l1 l2 n, e = .returned (.tuple #[v1, v2, .int .i64 n]) ∧ NodesR w' w'.heap.size v1 l1 ∧ NodesR w' w'.heap.size v2 l2 ∧ (l1.length ≤ 50 ∧ l2.length ≤ 50) ∧ (1 ≤ n ∧ n ≤ 3) ∧ Below w.heap.size w w'
def DrawEP (w : World) (e : Ending) (w' : World) : Prop := ∃ v1 v2 m l, e = .returned (.tuple #[v1, v2]) ∧ OwnM w' w.heap.size v1 m ∧ smallM m 17 9 ∧ NodesR w' w'.heap.size v2 l ∧ l.length ≤ 50 ∧ Below w.heap.size w w'
set_option maxHeartbeats 1000000 in
theorem drawEvalLogic_any (v : Value) (l : List Int) (w : World) (h : BytesR w w.heap.size v l) :
    Calls Tryd.prog 4 #[v] w (DrawEP w) := by
  have ho := open_any2 v l w
  have HO := Lib.hid (fun o => ho o h)
  obtain ⟨A, c, rfl, -⟩ := h
  clear ho
  have tok1 : True := trivial
  go_enter Tryd.func4, Tryd.ntmps4
  go_wp2_with fail
  refine (HO.out _).mono ?_
  rintro e w1 ⟨rfl, hR1, hb1⟩
  have hx1 := (hb1.block w.heap.size (by omega)).trans (heap_alloc_new w _)
  have hF1 : Fr w.heap.size (w.heap.size + 1) w w1 := Fr.of_below _ (((Below.refl _ _).alloc (Nat.le_refl _) _).trans (hb1.mono (by omega)))
  have hs1 := hR1.lt
  clear hb1 HO
  go_wp2_with fail
  refine (image_any _ 0 12 _ hR1 (by omega) (by omega) (by omega)).mono ?_
  rintro e w2 ⟨v, m, rfl, hO2, hS2, hR2, hF2⟩
  obtain ⟨A1, c1, A2, c2, rfl, h1, h2⟩ := hO2.form
  have hx2 := (hF2.block _ (by omega) (by omega)).trans hx1
  have hI2 := ImgAt.new h1 h2 hx2
  replace hF2 := hF1.trans (hF2.mono (by omega))
  have hs2 := hR2.lt
  have hbl := hS2.1
  have hwl := hS2.2.1
  clear hO2 h1 h2 hx1 hx2 hF1 hR1
  obtain ⟨c0, c1', z0, z1, d0, d1, y0, y1⟩ := hI2.facts
  have hne := hI2.ne
  have hne' := hne.symm
  go_wp2_with fail
  go_region_held3 (fun w' => w'.cell? ⟨w2.heap.size, 0, none⟩ = some (.slice A1 m.bits.length c1) ∧ w'.cell? ⟨w2.heap.size, 1, none⟩ = some (.slice A2 m.words.length c2)) (first | go_keep)
    (first
      | (go_at_call 14; have tok := tok1; refine (expr_z (w.heap.size + 1) 100 _ 12 _ ((hR2.below ((Below.refl _ _).alloc (Nat.le_refl _) _)).drew.mono (by omega)) (by omega) (by omega) (by omega) (by omega) (by omega)).mono ?_; rintro e w3 ⟨V, L, rfl, hO, hL, hsm, hR3, hF3⟩; have hO' := hO.mono (b' := w.heap.size + 1) (by show _ ≤ (w2.alloc _).heap.size; simp; omega); have hI3 := (ImgAt.drew hI2).fr hF3 (by omega) (by omega) (by omega); obtain ⟨e0, e1', a0, a1, f0, f1, b0, b1⟩ := hI3.facts; have hF3' := ((hF2.alloc (by omega) _).drew).trans (hF3.mono (by show w.heap.size ≤ (w2.alloc _).heap.size; simp; omega)); obtain ⟨B, off, cap, rfl, -, -, -⟩ := hO'.form; clear tok tok1 hO)
)
  go_wp2
  exact bodyPost_ret (v := .tuple #[.agg #[.slice A1 m.bits.length c1, .slice A2 m.words.length c2], .slice (some ⟨B, off, none⟩) L.length cap]) (by simp [results, Tryd.results4, go_sem, *]) rfl ⟨_, _, m, L, rfl, hI3.done.mono (by omega), hS2, OwnS.read (OwnS.set_other (OwnS.set_other hO' (by simp) _) (by simp) _) (by omega) hsm, by omega, (((hF3').setCell (.inl (Nat.le_refl _)) _).setCell (.inl (Nat.le_refl _)) _).below (by omega)⟩
end Go.Proofs.YtoagnajljdbobabDoor
