/- Contracts of the reader that the laws draw their inputs from. Contracts of the drawn words and images. -/
import Derived.Test.YtoagnajljdbobabE
import Derived.IntWalk
namespace Go.Proofs.Ytoagnajljdbobab
open Go.RowKit
attribute [local go_sem ↓] Go.wp_at_zero Go.wp_at_succ

/-- Below B all is as it was, but for block g. -/
structure Fr (B g : Nat) (w w' : World) : Prop where
  os : w'.os = w.os
  tape : w'.tape = w.tape
  output : w'.output = w.output
  size : w.heap.size ≤ w'.heap.size
  block : ∀ k, k < B → k ≠ g → w'.heap[k]? = w.heap[k]?
section
variable {B C g : Nat} {a b c w w' : World}
theorem Fr.refl (B g : Nat) (w : World) : Fr B g w w := ⟨rfl, rfl, rfl, Nat.le_refl _, fun _ _ _ => rfl⟩
theorem Fr.trans (h : Fr B g a b) (k : Fr B g b c) : Fr B g a c := ⟨k.os.trans h.os, k.tape.trans h.tape, k.output.trans h.output, Nat.le_trans h.size k.size, fun i hi hn => (k.block i hi hn).trans (h.block i hi hn)⟩
theorem Fr.mono (h : Fr B g a b) (hc : C ≤ B) : Fr C g a b := ⟨h.os, h.tape, h.output, h.size, fun k hk hn => h.block k (by omega) hn⟩
theorem Fr.of_below (g : Nat) (h : Below B a b) : Fr B g a b := ⟨h.os, h.tape, h.output, h.size, fun k hk _ => h.block k hk⟩
theorem Fr.below (h : Fr B g a b) (hg : B ≤ g) : Below B a b := ⟨h.os, h.tape, h.output, h.size, fun k hk => h.block k hk (by omega)⟩
theorem Fr.then_ (h : Fr B g a b) (k : Below C b c) (hc : B ≤ C) : Fr B g a c := h.trans (Fr.of_below g (k.mono hc))
theorem Fr.grown (h : Fr B g a b) {row : Option Nat} (k : b.grownBy c row) (hB : B ≤ b.heap.size) (hr : ∀ j, row = some j → B ≤ j ∨ j = g) : Fr B g a c :=
  h.trans ⟨k.os, k.tape, k.output, k.size, fun i hi hn => k.block i (by omega) (fun e => by rcases hr i e.symm with h | h <;> omega)⟩
theorem Fr.alloc (h : Fr B g a w) (hB : B ≤ w.heap.size) (o : Obj) : Fr B g a (w.alloc o) := h.then_ ((Below.refl _ _).alloc (Nat.le_refl _) o) hB
theorem Fr.drew (h : Fr B g a w) : Fr B g a w.drew := ⟨h.os, h.tape, h.output, h.size, h.block⟩
theorem Fr.drewN (h : Fr B g a w) (n : Nat) : Fr B g a (w.drewN n) := ⟨h.os, h.tape, h.output, h.size, h.block⟩
theorem Fr.setCell (h : Fr B g a w) {p : Addr} (hp : B ≤ p.block ∨ p.block = g) (u : Value) : Fr B g a (w.setCell p u) :=
  h.trans ⟨rfl, rfl, rfl, by simp [World.setCell], fun k hk hn => Below.heap_setCell _ _ _ _ (by omega)⟩
/-- what another block holds -/
theorem Fr.kept (h : Fr B g w w') (n : Nat) (hn : n < B) (hg : n ≠ g) (hl : n < w.heap.size) :
    (∀ o, w'.cell? ⟨n, o, none⟩ = w.cell? ⟨n, o, none⟩) ∧ (∀ o, w'.frozen? ⟨n, o, none⟩ = w.frozen? ⟨n, o, none⟩) ∧ n < w'.heap.size :=
  ⟨fun _ => World.cell?_of_block (w := w) (h.block n hn hg), fun _ => World.frozen?_of_block (w := w) (h.block n hn hg), Nat.lt_of_lt_of_le hl h.size⟩
/-- what is owned apart from block g is owned still -/
theorem Fr.own {e s n base : Nat} {v : Value} {xs : List Value} (hf : Fr w.heap.size g w w') (h : w.ownsRow base e s v n xs) (hg : g < base) : w'.ownsRow base e s v n xs :=
  h.kept (row := some g) ⟨hf.os, hf.tape, hf.output, hf.size, fun k hk hne => hf.block k hk (fun e => hne (by rw [e]))⟩ (by
    cases hv : v.ownBlock with
    | none => exact .inl rfl
    | some k => right; intro e; have := (h.lt k hv).1; simp at e; omega)
end
theorem byte_at {bs : List Int} {k : Nat} (h : k < bs.length) {u : Value} (hu : (bs.map (Value.int .u8))[k]? = some u) : u = .int .u8 bs[k] := by
  rw [List.getElem?_map, List.getElem?_eq_getElem h] at hu; simpa using hu.symm

theorem xor_nonneg (a b : Int) (ha : 0 ≤ a) (ha' : a < 9223372036854775808) (hb : 0 ≤ b) (hb' : b < 9223372036854775808) : 0 ≤ bits .xor .i64 a b := by
  obtain ⟨x, rfl⟩ := Int.eq_ofNat_of_zero_le ha
  obtain ⟨y, rfl⟩ := Int.eq_ofNat_of_zero_le hb
  have h : x ^^^ y < 2 ^ 63 := Nat.xor_lt_two_pow (by omega) (by omega)
  have hx : (BitVec.ofInt 64 (x : Int)).toNat = x := by rw [BitVec.ofInt_natCast, BitVec.toNat_ofNat]; exact Nat.mod_eq_of_lt (by omega)
  have hy : (BitVec.ofInt 64 (y : Int)).toNat = y := by rw [BitVec.ofInt_natCast, BitVec.toNat_ofNat]; exact Nat.mod_eq_of_lt (by omega)
  show 0 ≤ IntKind.i64.wrap (((BitVec.ofInt 64 (x : Int)) ^^^ (BitVec.ofInt 64 (y : Int))).toNat : Int)
  rw [BitVec.toNat_xor, hx, hy, IntKind.wrap_i64]
  omega
/-- A list of bytes that came in. -/
def BytesR (w : World) (B : Nat) (v : Value) (l : List Int) : Prop := ∃ A c, v = .slice A l.length c ∧ l.length ≤ c ∧ Rd w B 1 A l.length (l.map (.int .u8)) ∧ l.length ≤ 140737488355328 ∧ c ≤ 9223372036854775807 ∧ ∀ b ∈ l, 0 ≤ b ∧ b ≤ 255
/-- A list of bytes as it comes in: nil; or a row of c cells, the first n of which are its elements. -/
def BytesIn (w : World) (a : Option Addr) (n c : Nat) (zs : List Int) : Prop :=
  (a = none ∧ n = 0 ∧ c = 0 ∧ zs = []) ∨
  ∃ x, a = some x ∧ n ≤ c ∧ c ≤ maxLen ∧ zs.length = c ∧ (∀ i, i < zs.length → w.cell? (x.add i) = some (.int .u8 (zs.getD i 0))) ∧ ∀ z ∈ zs, (Lit.int .u8 z).wf = true
theorem BytesIn.small {w : World} {a : Option Addr} {n c : Nat} {zs : List Int} (h : BytesIn w a n c zs) : n ≤ 9223372036854775807 := by
  rcases h with ⟨_, rfl, _⟩ | ⟨x, _, h1, h2, _⟩
  · omega
  · unfold maxLen at h2; omega
theorem BytesIn.len_take {w : World} {a : Option Addr} {n c : Nat} {zs : List Int} (h : BytesIn w a n c zs) : (zs.take n).length = n := by
  rcases h with ⟨_, rfl, _, rfl⟩ | ⟨x, _, h1, h2, h3, _⟩
  · rfl
  · simp; omega
theorem BytesIn.bytes {w : World} {a : Option Addr} {n c : Nat} {zs : List Int} (h : BytesIn w a n c zs) (hn : n ≤ 1048576) : BytesR w w.heap.size (.slice a n c) (zs.take n) := by
  have ht := h.len_take
  rcases h with ⟨rfl, rfl, rfl, rfl⟩ | ⟨x, rfl, h1, h2, h3, h4, h5⟩
  · exact ⟨none, 0, rfl, Nat.le_refl _, Rd.none_, by simp, by omega, by simp⟩
  · refine ⟨some x, c, by rw [ht], by omega, ?_, by omega, by unfold maxLen at h2; omega, fun b hb => ?_⟩
    · rw [ht]
      refine ⟨by simp; omega, fun h0 => ⟨x, rfl, ?_, fun j u hu => ?_⟩⟩
      · have := World.block_lt_of_cell? w _ (h4 0 (by omega))
        simpa [Addr.add] using this
      · rw [List.getElem?_map] at hu
        obtain ⟨z, hz, rfl⟩ := Option.map_eq_some_iff.1 hu
        rw [List.getElem?_take] at hz
        split at hz
        · have hj : j < zs.length := (List.getElem?_eq_some_iff.1 hz).1
          rw [h4 j hj]
          simp [List.getD, hz]
        · cases hz
    · have := h5 b (List.mem_of_mem_take hb)
      simp [Lit.wf, IntKind.min, IntKind.max, IntKind.signed, IntKind.bits] at this
      omega
end Go.Proofs.Ytoagnajljdbobab

namespace Go.Proofs.Ytoagnajljdbobab
open Go.RowKit
attribute [local go_sem ↓] Go.wp_at_zero Go.wp_at_succ

end Go.Proofs.Ytoagnajljdbobab
