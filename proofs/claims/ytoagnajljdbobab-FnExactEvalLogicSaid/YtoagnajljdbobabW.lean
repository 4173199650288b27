/- The laws of chapter 1 that read: their walks. -/
import Derived.Test.YtoagnajljdbobabV
import Derived.Test.YtoagnajljdbobabE
namespace Go.Proofs.Ytoagnajljdbobab
open Go.RowKit
attribute [local go_sem ↓] Go.wp_at_zero Go.wp_at_succ

theorem field_bits (A1 A2 : Option Addr) (n1 c1 n2 c2 : Nat) (w : World) : (Instr.field 30 (.agg #[.slice A1 n1 c1, .slice A2 n2 c2]) 0).run Try.prog w = .ok (.slice A1 n1 c1) w := by kernel_rfl
def LawPost (w : World) (e : Ending) (w' : World) : Prop := e = .returned (.bool true) ∧ Below w.heap.size w w'

/-- A drawn image that the law keeps in block k. -/
structure Held (w : World) (k : Nat) (A1 : Option Addr) (c1 : Nat) (A2 : Option Addr) (c2 : Nat) (m : Img) : Prop where
  blk : w.heap[k]? = some (.cells #[.slice A1 m.bits.length c1, .slice A2 m.words.length c2] 30 (0, 0))
  read : ImgR w w.heap.size (.agg #[.slice A1 m.bits.length c1, .slice A2 m.words.length c2]) m
theorem Held.new {w : World} {b : Nat} {A1 A2 : Option Addr} {c1 c2 : Nat} {m : Img} (h : OwnM w b (.agg #[.slice A1 m.bits.length c1, .slice A2 m.words.length c2]) m) (hs : smallM m 100 100) :
    Held (w.alloc (.cells #[.slice A1 m.bits.length c1, .slice A2 m.words.length c2] 30)) w.heap.size A1 c1 A2 c2 m :=
  ⟨heap_alloc_new _ _, (h.read hs).below ((Below.refl _ _).alloc (Nat.le_refl _) _)⟩
theorem Held.below {w w' : World} {k : Nat} {A1 A2 : Option Addr} {c1 c2 : Nat} {m : Img} (h : Held w k A1 c1 A2 c2 m) (hb : Below w.heap.size w w') : Held w' k A1 c1 A2 c2 m :=
  ⟨(hb.block k (blk_lt h.blk)).trans h.blk, h.read.below hb⟩
theorem Held.cells {w : World} {k : Nat} {A1 A2 : Option Addr} {c1 c2 : Nat} {m : Img} (h : Held w k A1 c1 A2 c2 m) :
    w.cell? ⟨k, 0, none⟩ = some (.slice A1 m.bits.length c1) ∧ w.cell? ⟨k, 1, none⟩ = some (.slice A2 m.words.length c2) := ⟨blk_cell h.blk 0, blk_cell h.blk 1⟩
theorem Held.bit {w : World} {k : Nat} {A1 A2 : Option Addr} {c1 c2 : Nat} {m : Img} (h : Held w k A1 c1 A2 c2 m) {j : Nat} (hj : j < m.bits.length) : ∃ p, A1 = some p ∧ w.cell? (p.add j) = some (.bool m.bits[j]) := by
  obtain ⟨v1, v2, e, ⟨A, c, e1, hr, _⟩, -⟩ := h.read
  simp only [Value.agg.injEq, Array.mk.injEq, List.cons.injEq, and_true] at e
  obtain ⟨e2, -⟩ := e
  rw [← e2] at e1
  injection e1 with e1
  subst e1
  obtain ⟨p, u, rfl, -, hu, hc⟩ := hr.one hj
  rw [List.getElem?_map, List.getElem?_eq_getElem hj] at hu
  simp at hu
  exact ⟨p, rfl, by rw [hc, ← hu]⟩
theorem Held.word {w : World} {k : Nat} {A1 A2 : Option Addr} {c1 c2 : Nat} {m : Img} (h : Held w k A1 c1 A2 c2 m) {j : Nat} (hj : j < m.words.length) : ∃ p, A2 = some p ∧ w.cell? (p.add j) = some (.int .i64 m.words[j]) := by
  obtain ⟨v1, v2, e, -, ⟨A, c, e1, hr, _⟩⟩ := h.read
  simp only [Value.agg.injEq, Array.mk.injEq, List.cons.injEq, and_true] at e
  obtain ⟨-, e2⟩ := e
  rw [← e2] at e1
  injection e1 with e1
  subst e1
  obtain ⟨p, u, rfl, -, hu, hc⟩ := hr.one hj
  rw [List.getElem?_map, List.getElem?_eq_getElem hj] at hu
  simp at hu
  exact ⟨p, rfl, by rw [hc, ← hu]⟩
end Go.Proofs.Ytoagnajljdbobab
