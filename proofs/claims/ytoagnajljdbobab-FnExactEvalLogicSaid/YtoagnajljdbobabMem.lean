/- What a slice value reads as, and how that is kept over new blocks. Plain facts on the model's memory; nothing of the translated program. -/
import Derived.WalkKit
import Derived.WalkSpells
import Derived.Laws.OwnMore
import Derived.Deep.Draws
import Derived.Lib.Hide
namespace Go.Proofs.Ytoagnajljdbobab
open Go.RowKit

theorem add_block (p : Addr) (j : Nat) : (p.add j).block = p.block := by
  unfold Addr.add; split <;> rfl
theorem add_add (p : Addr) (i j : Nat) : (p.add i).add j = p.add (i + j) := by
  unfold Addr.add
  rcases Nat.eq_zero_or_pos i with rfl | hi
  · simp
  · rcases Nat.eq_zero_or_pos j with rfl | hj
    · simp
    · simp [show i ≠ 0 by omega, show j ≠ 0 by omega, Nat.add_assoc]

/-- The slice (A, n elements of sz cells) reads as the cells xs, below block B. -/
structure Rd (w : World) (B sz : Nat) (A : Option Addr) (n : Nat) (xs : List Value) : Prop where
  len : xs.length = n * sz
  at_ : 0 < n → ∃ p, A = some p ∧ p.block < B ∧ ∀ j u, xs[j]? = some u → w.cell? (p.add j) = some u

section
variable {w w' : World} {B B' sz n : Nat} {A : Option Addr} {xs : List Value}
theorem Rd.none_ : Rd w B sz A 0 [] := ⟨by simp, fun h => absurd h (by omega)⟩
theorem Rd.keep (h : Rd w B sz A n xs) (hk : ∀ p : Addr, p.block < B → w'.cell? p = w.cell? p) (hB : B ≤ B') : Rd w' B' sz A n xs :=
  ⟨h.len, fun hn => by
    obtain ⟨p, e, hb, hc⟩ := h.at_ hn
    exact ⟨p, e, by omega, fun j u hu => (hk _ (by rw [add_block]; exact hb)).trans (hc j u hu)⟩⟩
theorem Rd.below (h : Rd w w.heap.size sz A n xs) (hb : Below w.heap.size w w') : Rd w' w'.heap.size sz A n xs := h.keep (fun _ hp => hb.cell hp) hb.size
theorem Rd.alloc (h : Rd w B sz A n xs) (hB : B ≤ w.heap.size) (o : Obj) : Rd (w.alloc o) B sz A n xs := h.keep (fun p hp => World.cell?_alloc_lt w o p (by omega)) (Nat.le_refl _)
/-- one element of one cell -/
theorem Rd.one (h : Rd w B 1 A n xs) {k : Nat} (hk : k < n) : ∃ p u, A = some p ∧ p.block < B ∧ xs[k]? = some u ∧ w.cell? (p.add k) = some u := by
  obtain ⟨p, e, hb, hc⟩ := h.at_ (by omega)
  have hl : k < xs.length := by have := h.len; omega
  exact ⟨p, xs[k], e, hb, List.getElem?_eq_getElem hl, hc k _ (List.getElem?_eq_getElem hl)⟩
theorem Rd.of_own {base e c : Nat} (h : w.ownsRow base e sz (.slice A n c) n xs) : Rd w w.heap.size sz A n xs := by
  refine ⟨h.1, fun hn => ?_⟩
  rcases h.2 with ⟨_, h0⟩ | ⟨g, cap, cur, hv, _, hg, _⟩
  · omega
  · injection hv with hA _ _
    subst hA
    exact ⟨_, rfl, (Array.getElem?_eq_some_iff.1 hg).1, h.cells rfl⟩
end

/-- A slice of ints, of bools, as a value. -/
def IntsR (w : World) (B : Nat) (v : Value) (l : List Int) : Prop := ∃ A c, v = .slice A l.length c ∧ Rd w B 1 A l.length (l.map (.int .i64)) ∧ l.length ≤ 17592186044416 ∧ ∀ x ∈ l, -9223372036854775808 ≤ x ∧ x ≤ 9223372036854775807
def BoolsR (w : World) (B : Nat) (v : Value) (l : List Bool) : Prop := ∃ A c, v = .slice A l.length c ∧ Rd w B 1 A l.length (l.map .bool) ∧ l.length ≤ 140737488355328
theorem IntsR.keep {w w' : World} {B B' : Nat} {v : Value} {l : List Int} (h : IntsR w B v l) (hk : ∀ p : Addr, p.block < B → w'.cell? p = w.cell? p) (hB : B ≤ B') : IntsR w' B' v l := by
  obtain ⟨A, c, rfl, h1, h2⟩ := h; exact ⟨A, c, rfl, h1.keep hk hB, h2⟩
theorem BoolsR.keep {w w' : World} {B B' : Nat} {v : Value} {l : List Bool} (h : BoolsR w B v l) (hk : ∀ p : Addr, p.block < B → w'.cell? p = w.cell? p) (hB : B ≤ B') : BoolsR w' B' v l := by
  obtain ⟨A, c, rfl, h1, h2⟩ := h; exact ⟨A, c, rfl, h1.keep hk hB, h2⟩
theorem IntsR.below {w w' : World} {v : Value} {l : List Int} (h : IntsR w w.heap.size v l) (hb : Below w.heap.size w w') : IntsR w' w'.heap.size v l := h.keep (fun _ hp => hb.cell hp) hb.size
theorem BoolsR.below {w w' : World} {v : Value} {l : List Bool} (h : BoolsR w w.heap.size v l) (hb : Below w.heap.size w w') : BoolsR w' w'.heap.size v l := h.keep (fun _ hp => hb.cell hp) hb.size

/-- What an image holds. -/
structure Img where
  bits : List Bool
  words : List Int
def ImgR (w : World) (B : Nat) (v : Value) (m : Img) : Prop := ∃ v1 v2, v = .agg #[v1, v2] ∧ BoolsR w B v1 m.bits ∧ IntsR w B v2 m.words
theorem ImgR.below {w w' : World} {v : Value} {m : Img} (h : ImgR w w.heap.size v m) (hb : Below w.heap.size w w') : ImgR w' w'.heap.size v m := by
  obtain ⟨v1, v2, rfl, h1, h2⟩ := h; exact ⟨v1, v2, rfl, h1.below hb, h2.below hb⟩

theorem ret_bool {a b : Bool} (h : a = b) : Ending.returned (.bool a) = .returned (.bool b) := by rw [h]
theorem ret_int {a b : Int} (h : a = b) : Ending.returned (.int .i64 a) = .returned (.int .i64 b) := by rw [h]
end Go.Proofs.Ytoagnajljdbobab
