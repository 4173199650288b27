/- The laws of chapter 1 that read: their walks. -/
import Derived.Test.YtmalbjeegjhhoaaV
import Derived.Test.YtmalbjeegjhhoaaE
namespace Go.Proofs.Ytmalbjeegjhhoaa
open Go.RowKit
attribute [local go_sem ↓] Go.wp_at_zero Go.wp_at_succ

theorem field_bits (A1 A2 : Option Addr) (n1 c1 n2 c2 : Nat) (w : World) : (Instr.field 26 (.agg #[.slice A1 n1 c1, .slice A2 n2 c2]) 0).run Try.prog w = .ok (.slice A1 n1 c1) w := by kernel_rfl
theorem alive_any (w : World) : Calls Try.prog 20 #[] w fun e w' => e = .returned (.bool true) ∧ Below w.heap.size w w' := by
  go_enter Try.func20, Try.ntmps20
  go_wp2_with fail
  refine (iNewImage_ok 3 2 _ (by decide)).mono ?_
  rintro e w1 ⟨v, rfl, hO, hb⟩
  obtain ⟨A1, c1, A2, c2, e, -, -⟩ := hO.form
  rw [show (newM 3 2).bits.length = 3 from rfl, show (newM 3 2).words.length = 2 from rfl] at e
  subst e
  have hfb := field_bits A1 A2 3 c1 2 c2
  go_wp2
  go_ret
  exact ⟨rfl, hb⟩
def LawPost (w : World) (e : Ending) (w' : World) : Prop := e = .returned (.bool true) ∧ Below w.heap.size w w'

/-- A drawn image that the law keeps in block k. -/
structure Held (w : World) (k : Nat) (A1 : Option Addr) (c1 : Nat) (A2 : Option Addr) (c2 : Nat) (m : Img) : Prop where
  blk : w.heap[k]? = some (.cells #[.slice A1 m.bits.length c1, .slice A2 m.words.length c2] 26 (0, 0))
  read : ImgR w w.heap.size (.agg #[.slice A1 m.bits.length c1, .slice A2 m.words.length c2]) m
theorem Held.new {w : World} {b : Nat} {A1 A2 : Option Addr} {c1 c2 : Nat} {m : Img} (h : OwnM w b (.agg #[.slice A1 m.bits.length c1, .slice A2 m.words.length c2]) m) (hs : smallM m 100 100) :
    Held (w.alloc (.cells #[.slice A1 m.bits.length c1, .slice A2 m.words.length c2] 26)) w.heap.size A1 c1 A2 c2 m :=
  ⟨heap_alloc_new _ _, (h.read hs).below ((Below.refl _ _).alloc (Nat.le_refl _) _)⟩
theorem Held.below {w w' : World} {k : Nat} {A1 A2 : Option Addr} {c1 c2 : Nat} {m : Img} (h : Held w k A1 c1 A2 c2 m) (hb : Below w.heap.size w w') : Held w' k A1 c1 A2 c2 m :=
  ⟨(hb.block k (blk_lt h.blk)).trans h.blk, h.read.below hb⟩
theorem Held.cells {w : World} {k : Nat} {A1 A2 : Option Addr} {c1 c2 : Nat} {m : Img} (h : Held w k A1 c1 A2 c2 m) :
    w.cell? ⟨k, 0, none⟩ = some (.slice A1 m.bits.length c1) ∧ w.cell? ⟨k, 1, none⟩ = some (.slice A2 m.words.length c2) := ⟨blk_cell h.blk 0, blk_cell h.blk 1⟩
theorem Held.bit {w : World} {k : Nat} {A1 A2 : Option Addr} {c1 c2 : Nat} {m : Img} (h : Held w k A1 c1 A2 c2 m) {j : Nat} (hj : j < m.bits.length) : ∃ p, A1 = some p ∧ w.cell? (p.add j) = some (.bool m.bits[j]) := by
  obtain ⟨v1, v2, e, ⟨A, c, e1, hr, _⟩, -⟩ := h.read
  simp only [Value.agg.injEq, Array.mk.injEq, List.cons.injEq, and_true] at e
  obtain ⟨e2, -⟩ := e
  rw [← e2] at e1
  injection e1 with e1
  subst e1
  obtain ⟨p, u, rfl, -, hu, hc⟩ := hr.one hj
  rw [List.getElem?_map, List.getElem?_eq_getElem hj] at hu
  simp at hu
  exact ⟨p, rfl, by rw [hc, ← hu]⟩
theorem Held.word {w : World} {k : Nat} {A1 A2 : Option Addr} {c1 c2 : Nat} {m : Img} (h : Held w k A1 c1 A2 c2 m) {j : Nat} (hj : j < m.words.length) : ∃ p, A2 = some p ∧ w.cell? (p.add j) = some (.int .i64 m.words[j]) := by
  obtain ⟨v1, v2, e, -, ⟨A, c, e1, hr, _⟩⟩ := h.read
  simp only [Value.agg.injEq, Array.mk.injEq, List.cons.injEq, and_true] at e
  obtain ⟨-, e2⟩ := e
  rw [← e2] at e1
  injection e1 with e1
  subst e1
  obtain ⟨p, u, rfl, -, hu, hc⟩ := hr.one hj
  rw [List.getElem?_map, List.getElem?_eq_getElem hj] at hu
  simp at hu
  exact ⟨p, rfl, by rw [hc, ← hu]⟩
theorem FnGetBit_long (a : Option Addr) (n c : Nat) (w : World) (h : 1048576 < n) (_hn : n ≤ 9223372036854775807) : Calls Try.prog 5 #[.slice a n c] w (LawPost w) := by
  go_enter Try.func5, Try.ntmps5
  go_wp2
  go_ret
  exact ⟨rfl, Below.refl _ _⟩
theorem FnGetWord_long (a : Option Addr) (n c : Nat) (w : World) (h : 1048576 < n) (_hn : n ≤ 9223372036854775807) : Calls Try.prog 7 #[.slice a n c] w (LawPost w) := by
  go_enter Try.func7, Try.ntmps7
  go_wp2
  go_ret
  exact ⟨rfl, Below.refl _ _⟩
set_option maxHeartbeats 1000000 in
theorem FnGetBit_core (v : Value) (l : List Int) (w : World) (h : BytesR w w.heap.size v l) (hl : l.length ≤ 1048576) :
    Calls Try.prog 5 #[v] w (LawPost w) := by
  have HO := Lib.hid (drawGetBit_any v l w h)
  obtain ⟨A, c, rfl, -⟩ := h
  go_enter Try.func5, Try.ntmps5
  go_wp2_with fail
  refine HO.out.mono ?_
  rintro e w1 ⟨v, m, n, rfl, hO1, hS1, hb1, hn1, hn2⟩
  clear HO
  obtain ⟨A1, c1, A2, c2, rfl, -, -⟩ := hO1.form
  have hH := Held.new hO1 (hS1.up (by omega) (by omega))
  have B1 : Below w.heap.size w (w1.alloc (.cells #[.slice A1 m.bits.length c1, .slice A2 m.words.length c2] 26)) := hb1.alloc hb1.size _
  have hbl := hS1.1
  have hwl := hS1.2.1
  clear hO1 hb1
  go_wp2_with fail
  refine (iGetBit_any _ m n _ hH.read (by omega)).mono ?_
  rintro e w2 ⟨rfl, hb2⟩
  have hH2 := hH.below hb2
  have B2 := B1.trans (hb2.mono (by have := B1.size; simp at this ⊢; omega))
  obtain ⟨c0, c1'⟩ := hH2.cells
  clear hH B1 hb2
  go_wp2_with fail
  refine (sGetBit_any _ m n _ hH2.read (by omega)).mono ?_
  rintro e w3 ⟨rfl, hb3⟩
  have hH3 := hH2.below hb3
  have B3 := B2.trans (hb3.mono B2.size)
  obtain ⟨d0, d1⟩ := hH3.cells
  clear hH2 B2 hb3 c0 c1'
  by_cases h0 : 0 ≤ n
  · by_cases h1 : n < m.bits.length
    · obtain ⟨j, rfl⟩ := Int.eq_ofNat_of_zero_le h0
      replace h1 : j < m.bits.length := by omega
      obtain ⟨p, rfl, hc⟩ := hH3.bit h1
      have hg := getB_in h1
      obtain ⟨x, hx⟩ : ∃ x, x = m.bits[j] := ⟨_, rfl⟩
      rw [← hx] at hc hg
      have i1 : (j : Int) < (m.bits.length : Int) := by omega
      clear hx
      go_wp2
      go_ret
      exact ⟨ret_bool (by simp), B3⟩
    · have hg := getB_out (l := m.bits) (n := n) (by omega)
      go_wp2_with fail
      refine (alive_any _).mono ?_
      rintro e w4 ⟨rfl, hb4⟩
      go_wp2
      go_ret
      exact ⟨rfl, B3.trans (hb4.mono B3.size)⟩
  · have hg := getB_out (l := m.bits) (n := n) (by omega)
    go_wp2_with fail
    refine (alive_any _).mono ?_
    rintro e w4 ⟨rfl, hb4⟩
    go_wp2
    go_ret
    exact ⟨rfl, B3.trans (hb4.mono B3.size)⟩
set_option maxHeartbeats 1000000 in
theorem FnGetWord_core (v : Value) (l : List Int) (w : World) (h : BytesR w w.heap.size v l) (hl : l.length ≤ 1048576) :
    Calls Try.prog 7 #[v] w (LawPost w) := by
  have HO := Lib.hid (drawGetWord_any v l w h)
  obtain ⟨A, c, rfl, -⟩ := h
  go_enter Try.func7, Try.ntmps7
  go_wp2_with fail
  refine HO.out.mono ?_
  rintro e w1 ⟨v, m, n, rfl, hO1, hS1, hb1, hn1, hn2⟩
  clear HO
  obtain ⟨A1, c1, A2, c2, rfl, -, -⟩ := hO1.form
  have hH := Held.new hO1 (hS1.up (by omega) (by omega))
  have B1 : Below w.heap.size w (w1.alloc (.cells #[.slice A1 m.bits.length c1, .slice A2 m.words.length c2] 26)) := hb1.alloc hb1.size _
  have hbl := hS1.1
  have hwl := hS1.2.1
  clear hO1 hb1
  go_wp2_with fail
  refine (iGetWord_any _ m n _ hH.read (by omega)).mono ?_
  rintro e w2 ⟨rfl, hb2⟩
  have hH2 := hH.below hb2
  have B2 := B1.trans (hb2.mono (by have := B1.size; simp at this ⊢; omega))
  obtain ⟨c0, c1'⟩ := hH2.cells
  clear hH B1 hb2
  go_wp2_with fail
  refine (sGetWord_any _ m n _ hH2.read (by omega)).mono ?_
  rintro e w3 ⟨rfl, hb3⟩
  have hH3 := hH2.below hb3
  have B3 := B2.trans (hb3.mono B2.size)
  obtain ⟨d0, d1⟩ := hH3.cells
  clear hH2 B2 hb3 c0 c1'
  by_cases h0 : 0 ≤ n
  · by_cases h1 : n < m.words.length
    · obtain ⟨j, rfl⟩ := Int.eq_ofNat_of_zero_le h0
      replace h1 : j < m.words.length := by omega
      obtain ⟨p, rfl, hc⟩ := hH3.word h1
      have hg := getW_in h1
      obtain ⟨x, hx⟩ : ∃ x, x = m.words[j] := ⟨_, rfl⟩
      rw [← hx] at hc hg
      have i1 : (j : Int) < (m.words.length : Int) := by omega
      clear hx
      go_wp2
      go_ret
      exact ⟨ret_bool (by simp), B3⟩
    · have hg := getW_out (l := m.words) (n := n) (by omega)
      go_wp2_with fail
      refine (alive_any _).mono ?_
      rintro e w4 ⟨rfl, hb4⟩
      go_wp2
      go_ret
      exact ⟨rfl, B3.trans (hb4.mono B3.size)⟩
  · have hg := getW_out (l := m.words) (n := n) (by omega)
    go_wp2_with fail
    refine (alive_any _).mono ?_
    rintro e w4 ⟨rfl, hb4⟩
    go_wp2
    go_ret
    exact ⟨rfl, B3.trans (hb4.mono B3.size)⟩
end Go.Proofs.Ytmalbjeegjhhoaa
