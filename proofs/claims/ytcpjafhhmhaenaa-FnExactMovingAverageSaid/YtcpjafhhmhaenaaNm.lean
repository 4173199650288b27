/- Lists of expression elements in memory. -/
import Derived.Test.YtcpjafhhmhaenaaB
import Derived.Test.YtcpjafhhmhaenaaLgP
namespace Go.Proofs.Ytcpjafhhmhaenaa
open Go.RowKit

def cellsN (l : List Nd) : List Value := l.flatMap fun x => [.int .i64 x.op, .int .i64 x.bit]
theorem cellsN_cons (x : Nd) (l : List Nd) : cellsN (x :: l) = .int .i64 x.op :: .int .i64 x.bit :: cellsN l := rfl
theorem cellsN_append (a b : List Nd) : cellsN (a ++ b) = cellsN a ++ cellsN b := by simp [cellsN]
theorem cellsN_length (l : List Nd) : (cellsN l).length = l.length * 2 := by
  induction l with
  | nil => rfl
  | cons x l ih => rw [cellsN_cons]; simp [ih]; omega
theorem cellsN_op (l : List Nd) (k : Nat) (h : k < l.length) : (cellsN l)[k * 2]? = some (.int .i64 l[k].op) := by
  induction l generalizing k with
  | nil => simp at h
  | cons x l ih =>
    cases k with
    | zero => rfl
    | succ k =>
      rw [cellsN_cons, show (k + 1) * 2 = k * 2 + 1 + 1 by omega]
      simp only [List.getElem?_cons_succ, List.getElem_cons_succ]
      exact ih k (by simpa using h)
theorem cellsN_bit (l : List Nd) (k : Nat) (h : k < l.length) : (cellsN l)[k * 2 + 1]? = some (.int .i64 l[k].bit) := by
  induction l generalizing k with
  | nil => simp at h
  | cons x l ih =>
    cases k with
    | zero => rfl
    | succ k =>
      rw [cellsN_cons, show (k + 1) * 2 + 1 = k * 2 + 1 + 1 + 1 by omega]
      simp only [List.getElem?_cons_succ, List.getElem_cons_succ]
      exact ih k (by simpa using h)
theorem one_n (l : List Nd) : ∀ u ∈ cellsN l, u.oneCell' = true := by
  intro u hu
  unfold cellsN at hu
  obtain ⟨x, _, hx⟩ := List.mem_flatMap.1 hu
  simp at hx
  rcases hx with rfl | rfl <;> rfl
def ndFit (x : Nd) : Prop := (-9223372036854775808 ≤ x.op ∧ x.op ≤ 9223372036854775807) ∧ (-9223372036854775808 ≤ x.bit ∧ x.bit ≤ 9223372036854775807)
/-- A slice of elements, as a value. -/
def NodesR (w : World) (B : Nat) (v : Value) (l : List Nd) : Prop := ∃ A c, v = .slice A l.length c ∧ Rd w B 2 A l.length (cellsN l) ∧ (l.length ≤ c ∧ l.length ≤ 8796093022208) ∧ ∀ x ∈ l, ndFit x
theorem NodesR.keep {w w' : World} {B B' : Nat} {v : Value} {l : List Nd} (h : NodesR w B v l) (hk : ∀ p : Addr, p.block < B → w'.cell? p = w.cell? p) (hB : B ≤ B') : NodesR w' B' v l := by
  obtain ⟨A, c, rfl, h1, h2⟩ := h; exact ⟨A, c, rfl, h1.keep hk hB, h2⟩
theorem NodesR.below {w w' : World} {v : Value} {l : List Nd} (h : NodesR w w.heap.size v l) (hb : Below w.heap.size w w') : NodesR w' w'.heap.size v l := h.keep (fun _ hp => hb.cell hp) hb.size
theorem at_next (q : Addr) : (⟨q.block, q.off + 1, none⟩ : Addr) = q.add 1 := by simp [Addr.add]
theorem Rd.two {w : World} {B : Nat} {A : Option Addr} {l : List Nd} (h : Rd w B 2 A l.length (cellsN l)) {k : Nat} (hk : k < l.length) :
    ∃ p, A = some p ∧ p.block < B ∧ w.cell? (p.add (k * 2)) = some (.int .i64 l[k].op) ∧ w.cell? ⟨(p.add (k * 2)).block, (p.add (k * 2)).off + 1, none⟩ = some (.int .i64 l[k].bit) := by
  obtain ⟨p, e, hb, hc⟩ := h.at_ (by omega)
  exact ⟨p, e, hb, hc _ _ (cellsN_op l k hk), by rw [at_next, add_add]; exact hc _ _ (cellsN_bit l k hk)⟩

/-- The small functions. -/
def cntI (op : Int) : Int := if op = 2 then 1 else if op = 3 ∨ op = 4 ∨ op = 5 then 2 else 0
theorem need_le (op : Int) : need op ≤ 2 := by unfold need; repeat' split
                                               all_goals omega
theorem cntI_need (op : Int) (h : 0 ≤ need op) : cntI op = need op := by
  unfold need at h; unfold cntI need
  repeat' split
  all_goals simp_all
end Go.Proofs.Ytcpjafhhmhaenaa
