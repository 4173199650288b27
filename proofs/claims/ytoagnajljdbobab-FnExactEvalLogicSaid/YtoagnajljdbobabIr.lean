/- Negation, used bits, evaluation: the program's functions. -/
import Derived.Test.YtoagnajljdbobabIq
import Derived.Test.YtoagnajljdbobabE
import Derived.WalkSpells
namespace Go.Proofs.Ytoagnajljdbobab
open Go.RowKit
attribute [local go_sem ↓] Go.wp_at_zero Go.wp_at_succ

/-- A row of the call's own: elements. -/
def OwnN (w : World) (base : Nat) (v : Value) (l : List Nd) : Prop := w.ownsRow base 45 2 v l.length (cellsN l)
theorem elN : Elem Try.prog 32 45 (.agg #[.int .i64 0, .int .i64 0]) 2 16 := ⟨Try.underlying32, by kernel_rfl, rfl, by decide⟩
theorem OwnN.read {w : World} {b : Nat} {v : Value} {l : List Nd} (h : OwnN w b v l) (hl : l.length ≤ 8796093022208) (hf : ∀ x ∈ l, ndFit x) : NodesR w w.heap.size v l := by
  obtain ⟨A, c, rfl, hc, hr⟩ := own_form h; exact ⟨A, c, rfl, hr, ⟨hc, hl⟩, hf⟩
theorem OwnN.nil (w : World) (b : Nat) : OwnN w b (.slice none 0 0) [] := World.ownsRow_nil _ _ _ _
def OwnNP (l : List Nd) (w : World) (e : Ending) (w' : World) : Prop := ∃ v, e = .returned v ∧ OwnN w' w.heap.size v l ∧ Below w.heap.size w w'
theorem rd_none {w : World} {B sz n : Nat} {xs : List Value} (h : Rd w B sz none n xs) : n = 0 := by
  rcases Nat.eq_zero_or_pos n with h0 | h0
  · exact h0
  · obtain ⟨p, h, _⟩ := h.at_ h0; cases h
theorem eq_nil {P : Program} (w : World) (t e : TypeId) (a : Option Addr) (n c : Nat) (h : P.underlying t = some (.slice e)) :
    (binOp .eql t (.slice a n c) (.slice none 0 0)).run P w = .ok (.bool a.isNone) w := by
  simp only [binOp]
  simp [Op.equal, Op.maxDepth, Lib.run_equalIn_slice_nil w 9999 t e a n c 0 0 h]
theorem cellsN_take (l : List Nd) (k : Nat) : (cellsN l).take (k * 2) = cellsN (l.take k) := by
  induction k generalizing l with
  | zero => simp [cellsN]
  | succ k ih =>
    cases l with
    | nil => simp [cellsN]
    | cons x l => rw [cellsN_cons, List.take_succ_cons, cellsN_cons, show (k + 1) * 2 = k * 2 + 1 + 1 by omega, List.take_succ_cons, List.take_succ_cons, ih]
theorem Rd.take {w : World} {B sz : Nat} {A : Option Addr} {n m : Nat} {xs : List Value} (h : Rd w B sz A n xs) (hm : m ≤ n) : Rd w B sz A m (xs.take (m * sz)) := by
  refine ⟨?_, fun h0 => ?_⟩
  · rw [List.length_take, h.len, Nat.min_eq_left (Nat.mul_le_mul_right _ hm)]
  · obtain ⟨p, e, hb, hc⟩ := h.at_ (by omega)
    refine ⟨p, e, hb, fun j u hu => hc j u ?_⟩
    rw [List.getElem?_take] at hu
    split at hu
    · exact hu
    · cases hu
theorem NodesR.front {w : World} {B : Nat} {A : Option Addr} {c : Nat} {l : List Nd} (h : NodesR w B (.slice A l.length c) l) (k : Nat) (hk : k ≤ l.length) : NodesR w B (.slice A k c) (l.take k) := by
  obtain ⟨A', c', e, hr, hl, hf⟩ := h
  injection e with e1 _ e2
  subst e1; subst e2
  have hlen : (l.take k).length = k := by rw [List.length_take]; omega
  refine ⟨A, c, by rw [hlen], ?_, by rw [hlen]; omega, fun x hx => hf x (List.mem_of_mem_take hx)⟩
  have := hr.take hk
  rw [cellsN_take] at this
  rwa [hlen]
theorem Rd.newN (w : World) (x : Nd) (t : TypeId) : Rd (w.alloc (.cells #[.int .i64 x.op, .int .i64 x.bit] t)) (w.heap.size + 1) 2 (some ⟨w.heap.size, 0, none⟩) 1 (cellsN [x]) := by
  refine ⟨rfl, fun _ => ⟨_, rfl, Nat.lt_succ_self _, fun j v hj => ?_⟩⟩
  match j, hj with
  | 0, hj => simp [cellsN] at hj; subst hj; simp [Addr.add]
  | 1, hj => simp [cellsN] at hj; subst hj; simp [Addr.add]
theorem lastOp (l : List Nd) (h : 0 < l.length) : (l.getLastD ⟨0, 0⟩) = l[l.length - 1] := by
  rw [List.getLastD_eq_getLast?, List.getLast?_eq_getElem?, List.getElem?_eq_getElem (by omega)]; rfl
theorem dropTake (l : List Nd) : l.dropLast = l.take (l.length - 1) := List.dropLast_eq_take
end Go.Proofs.Ytoagnajljdbobab
