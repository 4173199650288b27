/- Contracts of the draws of chapter 1. -/
import Derived.Test.YtoagnajljdbobabR
import Derived.Test.YtoagnajljdbobabG
namespace Go.Proofs.Ytoagnajljdbobab
open Go.RowKit
attribute [local go_sem ↓] Go.wp_at_zero Go.wp_at_succ

theorem OwnM.read {w : World} {b : Nat} {v : Value} {m : Img} (h : OwnM w b v m) (hs : smallM m 100 100) : ImgR w w.heap.size v m := by
  obtain ⟨v1, v2, rfl, h1, h2⟩ := h
  exact ⟨v1, v2, rfl, h1.read (by have := hs.1; omega), h2.read (by have := hs.2.1; omega) (fun x hx => by have := hs.2.2 x hx; omega)⟩
theorem smallM.up {m : Img} {a b c d : Nat} (h : smallM m a b) (h1 : a ≤ c) (h2 : b ≤ d) : smallM m c d := ⟨Nat.le_trans h.1 h1, Nat.le_trans h.2.1 h2, h.2.2⟩
theorem ImgAt.new {w : World} {base r : Nat} {v1 v2 : Value} {m : Img} (h1 : OwnB w base v1 m.bits) (h2 : OwnI w base v2 m.words) (hr : w.heap[r]? = some (.cells #[.slice none 0 0, .slice none 0 0] 30 (0, 0))) :
    ImgAt (w.alloc (.cells #[v1, v2] 30)) base w.heap.size r v1 v2 m :=
  ⟨heap_alloc_new _ _, blk_alloc hr _, World.ownsRow.alloc h1 _, World.ownsRow.alloc h2 _, by have := blk_lt hr; omega⟩
def DrawM (w : World) (e : Ending) (w' : World) : Prop := ∃ v m, e = .returned v ∧ OwnM w' w.heap.size v m ∧ smallM m 17 9 ∧ Below w.heap.size w w'
def DrawGetBitP (w : World) (e : Ending) (w' : World) : Prop := ∃ v m n, e = .returned (.tuple #[v, .int .i64 n]) ∧ OwnM w' w.heap.size v m ∧ smallM m 17 9 ∧ Below w.heap.size w w' ∧ -1 ≤ n ∧ n ≤ 100
def DrawGetWordP (w : World) (e : Ending) (w' : World) : Prop := ∃ v m n, e = .returned (.tuple #[v, .int .i64 n]) ∧ OwnM w' w.heap.size v m ∧ smallM m 17 9 ∧ Below w.heap.size w w' ∧ -1 ≤ n ∧ n ≤ 100
def DrawSetBitP (w : World) (e : Ending) (w' : World) : Prop := ∃ v m n b, e = .returned (.tuple #[v, .int .i64 n, .bool b]) ∧ OwnM w' w.heap.size v m ∧ smallM m 17 9 ∧ Below w.heap.size w w' ∧ -1 ≤ n ∧ n ≤ 100
def DrawSetWordP (w : World) (e : Ending) (w' : World) : Prop := ∃ v m n x, e = .returned (.tuple #[v, .int .i64 n, .int .i64 x]) ∧ OwnM w' w.heap.size v m ∧ smallM m 17 9 ∧ Below w.heap.size w w' ∧ (-1 ≤ n ∧ n ≤ 100) ∧ -40000 ≤ x ∧ x ≤ 40000
end Go.Proofs.Ytoagnajljdbobab
