/- sameNodes: two slices that hold the same elements. -/
import Derived.Test.YtbbaojmmjcdliaaDoorWP
import Derived.Test.YtbbaojmmjcdliaaDoorDD
import Derived.Test.YtbbaojmmjcdliaaDoorW
import Derived.Test.YtbbaojmmjcdliaaDoorS
import Derived.Laws.StructEq
namespace Go.Proofs.YtbbaojmmjcdliaaDoor
open Go.RowKit
attribute [local go_sem ↓] Go.wp_at_zero Go.wp_at_succ

theorem eqNd (a b : Int) (w : World) : (binOp .neq 46 (.agg #[.int .i64 a, .int .i64 b]) (.agg #[.int .i64 a, .int .i64 b])).run Tryd.prog w = .ok (.bool false) w := by
  have u3 := Tryd.underlying3
  have a3 := Tryd.isAgg3
  have z3 := Tryd.sizeOf3
  have hS : Tryd.prog.underlying 46 = some (.struct (Tryd.prog.fieldsOf 46)) := by kernel_rfl
  have hp : Tryd.prog.stoodInHeld 46 = false := by kernel_rfl
  rw [run_neq_struct]
  rw [show (10000 : Nat) = 9999 + 1 from rfl, run_equalIn_agg w 9999 _ _ _ hS hp]
  simp only [Program.fieldsOf, Tryd.underlying46]
  go_simp
theorem sameNodes_same (v1 v2 : Value) (a : List Nd) (w : World) (h1 : NodesR w w.heap.size v1 a) (h2 : NodesR w w.heap.size v2 a) :
    Calls Tryd.prog 27 #[v1, v2] w fun e w' => e = .returned (.bool true) ∧ Below w.heap.size w w' := by
  obtain ⟨A, c, rfl, hr, hl, hf⟩ := h1
  obtain ⟨A2, c2, rfl, hr2, hl2, hf2⟩ := h2
  have hq := eqNd
  go_enter Tryd.func27, Tryd.ntmps27
  go_wp2
  go_loopw [5] (fun i wr => ∃ k : Nat, k ≤ a.length ∧ i = .int .i64 k ∧ Below w.heap.size w wr) (fun i _ => a.length - (intOf i).toNat)
  case atStart => exact ⟨0, by omega, rfl, Below.refl _ _⟩
  case round =>
    obtain ⟨k, hk, rfl, hbr⟩ := hrel
    by_cases hlt : k < a.length
    · obtain ⟨p, rfl, hpb, c1, c2'⟩ := hr.two hlt
      obtain ⟨p2, rfl, hpb2, c3, c4⟩ := hr2.two hlt
      obtain ⟨x, hx⟩ : ∃ x, x = a[k] := ⟨_, rfl⟩
      rw [← hx] at c1 c2' c3 c4
      clear hx
      obtain ⟨op, bit⟩ := x
      have g1 := (hbr.cell (p := p.add (k * 2)) (by rw [add_block]; exact hpb)).trans c1
      have g2 := (hbr.cell (p := ⟨(p.add (k * 2)).block, (p.add (k * 2)).off + 1, none⟩) (by show (p.add (k * 2)).block < _; rw [add_block]; exact hpb)).trans c2'
      have g3 := (hbr.cell (p := p2.add (k * 2)) (by rw [add_block]; exact hpb2)).trans c3
      have g4 := (hbr.cell (p := ⟨(p2.add (k * 2)).block, (p2.add (k * 2)).off + 1, none⟩) (by show (p2.add (k * 2)).block < _; rw [add_block]; exact hpb2)).trans c4
      have i1 : (k : Int) < (a.length : Int) := by omega
      clear c1 c2' c3 c4 hr hr2 hf hf2
      go_wp2
      go_quiet (fail)
      go_wp2
      go_roundw
      case rel => exact ⟨k + 1, by omega, by go_num, by exact hbr.trans ⟨rfl, rfl, rfl, Nat.le_refl _, fun _ _ => rfl⟩⟩
      case measure => simp [intOf]; omega
    · go_wp2
      go_ret
      exact ⟨rfl, hbr⟩
end Go.Proofs.YtbbaojmmjcdliaaDoor
