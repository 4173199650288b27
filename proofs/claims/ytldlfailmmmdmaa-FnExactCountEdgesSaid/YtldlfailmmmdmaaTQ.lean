/- Contracts of the drawn timers. -/
import Derived.Test.YtldlfailmmmdmaaTP
import Derived.Test.YtldlfailmmmdmaaLD
namespace Go.Proofs.Ytldlfailmmmdmaa
open Go.RowKit
attribute [local go_sem ↓] Go.wp_at_zero Go.wp_at_succ

theorem Fr.setRow {B g : Nat} {a w : World} (h : Fr B g a w) {q : Nat} (hq : B ≤ q) (cs : Array Value) : Fr B g a (w.setRow q cs) :=
  h.trans ⟨rfl, rfl, rfl, by simp [World.setRow], fun k hk _ => setRow_other w q k cs (by omega)⟩
theorem Rdr.setRow {w : World} {g P : Nat} (h : Rdr w g P) {q : Nat} (hq : g < q) (cs : Array Value) : Rdr (w.setRow q cs) g P :=
  h.keep ⟨rfl, rfl, rfl, by simp [World.setRow], fun k hk => setRow_other w q k cs (by omega)⟩
theorem blk5 {w : World} {k t : Nat} {x0 x1 x2 x3 x4 : Value} (h : w.heap[k]? = some (.cells #[x0, x1, x2, x3, x4] t (0, 0))) :
    w.cell? ⟨k, 0, none⟩ = some x0 ∧ w.cell? ⟨k, 1, none⟩ = some x1 ∧ w.cell? ⟨k, 2, none⟩ = some x2 ∧ w.cell? ⟨k, 3, none⟩ = some x3 ∧ w.cell? ⟨k, 4, none⟩ = some x4 ∧
    w.frozen? ⟨k, 0, none⟩ = false ∧ w.frozen? ⟨k, 1, none⟩ = false ∧ w.frozen? ⟨k, 2, none⟩ = false ∧ w.frozen? ⟨k, 3, none⟩ = false ∧ w.frozen? ⟨k, 4, none⟩ = false :=
  ⟨blk_cell h 0, blk_cell h 1, blk_cell h 2, blk_cell h 3, blk_cell h 4, blk_frozen h 0, blk_frozen h 1, blk_frozen h 2, blk_frozen h 3, blk_frozen h 4⟩
def wtTm1 : Nat → Nat
  | 1 => 1
  | 4 => 1
  | 7 => 1
  | 11 => 1
  | 14 => 1
  | _ => 0
def tyTm2 (g q : Nat) : Nat → RT
  | 0 => .val (isP (.pointer (some ⟨q, 1, none⟩)))
  | 1 => .val (intP 0 10000)
  | 2 => .val (isP (.pointer (some ⟨g, 0, none⟩)))
  | 3 => .val (isP (.pointer (some ⟨q, 1, none⟩)))
  | 4 => .val (intP 0 10000)
  | 5 => .val (intP 1 10001)
  | 6 => .val (intP 0 10000)
  | 7 => .row 3 (intP 0 10000)
  | 8 => .val (isP (.pointer (some ⟨g, 0, none⟩)))
  | 9 => .val (intP 0 2)
  | 10 => .cell (intP 0 10000)
  | 11 => .val (intP 0 10000)
  | _ => .val (isP (.pointer (some ⟨q, 2, none⟩)))
def wtTm2 : Nat → Nat
  | 6 => 1
  | 9 => 1
  | _ => 0
def tyTm7 (g q : Nat) : Nat → RT
  | 0 => .row 2 (intP 0 4)
  | 1 => .val (isP (.pointer (some ⟨g, 0, none⟩)))
  | 2 => .val (intP 0 1)
  | 3 => .cell (intP 0 4)
  | 4 => .val (intP 0 4)
  | _ => .val (isP (.pointer (some ⟨q, 0, none⟩)))
def wtTm7 : Nat → Nat
  | 2 => 1
  | _ => 0
def tyTm9 (g q : Nat) : Nat → RT
  | 0 => .row 2 (intP (-1) 10001)
  | 1 => .val (isP (.pointer (some ⟨g, 0, none⟩)))
  | 2 => .val (intP 0 1)
  | 3 => .cell (intP (-1) 10001)
  | 4 => .val (intP (-1) 10001)
  | _ => .val (isP (.pointer (some ⟨q, 1, none⟩)))
def wtTm9 : Nat → Nat
  | 2 => 1
  | _ => 0
def tyTm5 (g q : Nat) : Nat → RT
  | 0 => .val (isP (.pointer (some ⟨q, 1, none⟩)))
  | 1 => .val (intP 0 10000)
  | 2 => .val (intP 1 10001)
  | 3 => .row 2 (intP (-1) 10001)
  | 4 => .val (isP (.pointer (some ⟨g, 0, none⟩)))
  | 5 => .val (intP 0 1)
  | 6 => .cell (intP (-1) 10001)
  | 7 => .val (intP (-1) 10001)
  | _ => .val (isP (.pointer (some ⟨q, 2, none⟩)))
def wtTm5 : Nat → Nat
  | 5 => 1
  | _ => 0

def TimPost (g P : Nat) (w : World) (e : Ending) (w' : World) : Prop := ∃ (k p l : Int) (b o : Bool), e = .returned (.agg #[.int .i64 k, .int .i64 p, .int .i64 l, .bool b, .bool o]) ∧ (0 ≤ k ∧ k ≤ 4) ∧ (-1 ≤ p ∧ p ≤ 10001) ∧ (-1 ≤ l ∧ l ≤ 10001) ∧ Rdr w' g (P + 20) ∧ Fr w.heap.size g w w'
def tyDt2 (g : Nat) : Nat → RT
  | 0 => .row 2 (intP (-1) 1001)
  | 1 => .val (isP (.pointer (some ⟨g, 0, none⟩)))
  | 2 => .val (intP 0 1)
  | 3 => .cell (intP (-1) 1001)
  | 4 => .val (intP (-1) 1001)
  | _ => .val (intP (-1) 1001)
def wtDt2 : Nat → Nat
  | 2 => 1
  | _ => 0
def tyDt3 (g : Nat) : Nat → RT
  | 0 => .val (isP (.pointer (some ⟨g, 0, none⟩)))
  | 1 => .val (intP 0 99)
  | 2 => .row 5 (intP 0 1000)
  | 3 => .val (isP (.pointer (some ⟨g, 0, none⟩)))
  | 4 => .val (intP 0 4)
  | 5 => .cell (intP 0 1000)
  | 6 => .val (intP 0 1000)
  | _ => .val (intP 0 1000)
def wtDt3 : Nat → Nat
  | 1 => 1
  | 4 => 1
  | _ => 0
def DtPost (g P : Nat) (w : World) (e : Ending) (w' : World) : Prop := ∃ d : Int, e = .returned (.int .i64 d) ∧ (-1 ≤ d ∧ d ≤ 1001) ∧ Rdr w' g (P + 5) ∧ Fr w.heap.size g w w'
def tyNt (g : Nat) : Nat → RT
  | 0 => .val (isP (.pointer (some ⟨g, 0, none⟩)))
  | 1 => .val (intP 0 4)
  | 2 => .val (isP (.pointer (some ⟨g, 0, none⟩)))
  | 3 => .val (intP 0 99)
  | 4 => .row 4 (intP (-1) 10001)
  | 5 => .row 6 (intP 0 3)
  | 6 => .val (isP (.pointer (some ⟨g, 0, none⟩)))
  | 7 => .val (intP 0 5)
  | 8 => .cell (intP 0 3)
  | 9 => .val (intP 0 3)
  | 10 => .cell (intP (-1) 10001)
  | 11 => .val (intP (-1) 10001)
  | 12 => .val (intP 0 4)
  | _ => .val (intP (-1) 10001)
def wtNt : Nat → Nat
  | 1 => 1
  | 3 => 1
  | 7 => 1
  | _ => 0
def DrawII (w : World) (e : Ending) (w' : World) : Prop := ∃ k p : Int, e = .returned (.tuple #[.int .i64 k, .int .i64 p]) ∧ (0 ≤ k ∧ k ≤ 4) ∧ (-1 ≤ p ∧ p ≤ 10001) ∧ Below w.heap.size w w'
end Go.Proofs.Ytldlfailmmmdmaa
