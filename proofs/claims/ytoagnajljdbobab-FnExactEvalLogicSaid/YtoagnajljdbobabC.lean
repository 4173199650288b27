/- Contracts of chapter 1's exported functions. -/
import Derived.Test.YtoagnajljdbobabB
import Derived.Deep.RegionHeld3
import Derived.Deep.QuietTactic
import Derived.BigQuiet
import Derived.Deep.DrawnRows
namespace Go.Proofs.Ytoagnajljdbobab
open Go.RowKit
attribute [local go_sem ↓] Go.wp_at_zero Go.wp_at_succ

/-- An image of the call's own. -/
def OwnM (w : World) (base : Nat) (v : Value) (m : Img) : Prop := ∃ v1 v2, v = .agg #[v1, v2] ∧ OwnB w base v1 m.bits ∧ OwnI w base v2 m.words
theorem OwnM.form {w : World} {b : Nat} {v : Value} {m : Img} (h : OwnM w b v m) : ∃ A1 c1 A2 c2, v = .agg #[.slice A1 m.bits.length c1, .slice A2 m.words.length c2] ∧ OwnB w b (.slice A1 m.bits.length c1) m.bits ∧ OwnI w b (.slice A2 m.words.length c2) m.words := by
  obtain ⟨v1, v2, rfl, h1, h2⟩ := h
  obtain ⟨A1, c1, rfl, -, -⟩ := own_form h1
  obtain ⟨A2, c2, rfl, -, -⟩ := own_form h2
  exact ⟨A1, c1, A2, c2, rfl, h1, h2⟩
theorem OwnM.mono {w : World} {b b' : Nat} {v : Value} {m : Img} (h : OwnM w b v m) (hb : b' ≤ b) : OwnM w b' v m := by
  obtain ⟨v1, v2, rfl, h1, h2⟩ := h; exact ⟨v1, v2, rfl, mono_own h1 hb, mono_own h2 hb⟩
theorem old_cell {W w1 : World} (hb : Below W.heap.size W w1) : ∀ b o, b < W.heap.size → w1.cell? ⟨b, o, none⟩ = W.cell? ⟨b, o, none⟩ := fun b o h => hb.cell (p := ⟨b, o, none⟩) h
theorem old_frozen {W w1 : World} (hb : Below W.heap.size W w1) : ∀ b o, b < W.heap.size → w1.frozen? ⟨b, o, none⟩ = W.frozen? ⟨b, o, none⟩ := fun b o h => hb.frozen (p := ⟨b, o, none⟩) h
/-- one block that is there stays as it is -/
theorem kept {W w1 : World} (hb : Below W.heap.size W w1) (n : Nat) (hn : n < W.heap.size) :
    (∀ o, w1.cell? ⟨n, o, none⟩ = W.cell? ⟨n, o, none⟩) ∧ (∀ o, w1.frozen? ⟨n, o, none⟩ = W.frozen? ⟨n, o, none⟩) ∧ n < w1.heap.size :=
  ⟨fun o => hb.cell (p := ⟨n, o, none⟩) hn, fun o => hb.frozen (p := ⟨n, o, none⟩) hn, Nat.lt_of_lt_of_le hn hb.size⟩
def img0 : Value := .agg #[.slice none 0 0, .slice none 0 0]
end Go.Proofs.Ytoagnajljdbobab
