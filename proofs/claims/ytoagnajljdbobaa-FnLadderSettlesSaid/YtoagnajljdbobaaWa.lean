/- The laws of RungValid and LadderValid: their walks. -/
import Derived.Test.YtoagnajljdbobaaDM
import Derived.Test.YtoagnajljdbobaaW
import Derived.Test.YtoagnajljdbobaaRI
namespace Go.Proofs.Ytoagnajljdbobaa
open Go.RowKit
attribute [local go_sem ↓] Go.wp_at_zero Go.wp_at_succ

theorem rv_more {r : Rg} {n : Int} (h : rvalid r n = true) : rvalid r (n + 1) = true := by
  obtain ⟨h1, h2, h3⟩ := rvalid_parts h
  exact rvalid_make (lvalid_mono h1 (by omega)) ⟨h2.1, by omega⟩ h3
theorem rv_coil (lg : List Nd) (ki n : Int) : rvalid ⟨lg, n, ki⟩ n = false := by unfold rvalid; simp
theorem rv_kind (lg : List Nd) (co n : Int) : rvalid ⟨lg, co, 4⟩ n = false := by unfold rvalid; simp
theorem ladvalid_take {l : List Rg} {n : Int} (h : ladvalid l n = true) (k : Nat) : ladvalid (l.take k) n = true := by
  unfold ladvalid at *
  simp only [Bool.and_eq_true, List.all_eq_true, decide_eq_true_eq] at *
  exact ⟨fun r hr => h.1 r (List.mem_of_mem_take hr), by rw [List.length_take]; omega⟩
theorem lads_takeN (ps : List (Value × Rg)) (k : Nat) : lads (ps.take k) = (lads ps).take k := by unfold lads; rw [List.map_take]
end Go.Proofs.Ytoagnajljdbobaa
