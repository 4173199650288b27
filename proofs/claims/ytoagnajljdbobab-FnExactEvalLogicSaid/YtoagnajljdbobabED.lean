/- What the exact laws keep of their images; the sizes of their arguments. -/
import Derived.Test.YtoagnajljdbobabEC
import Derived.Test.YtoagnajljdbobabE
import Derived.Test.YtoagnajljdbobabI
import Derived.Test.YtoagnajljdbobabR
namespace Go.Proofs.Ytoagnajljdbobab
open Go.RowKit
attribute [local go_sem ↓] Go.wp_at_zero Go.wp_at_succ

/-- An image of the call's own that is kept in block k. -/
structure HO (w : World) (k lo hi : Nat) (A1 : Option Addr) (c1 : Nat) (A2 : Option Addr) (c2 : Nat) (m : Img) : Prop where
  blk : w.heap[k]? = some (.cells #[.slice A1 m.bits.length c1, .slice A2 m.words.length c2] 30 (0, 0))
  own : OwnMX w lo hi (.agg #[.slice A1 m.bits.length c1, .slice A2 m.words.length c2]) m
  le : hi ≤ k
section
variable {w w' : World} {k lo hi lo2 hi2 : Nat} {A1 A2 : Option Addr} {c1 c2 : Nat} {m : Img}
theorem HO.new (h : OwnM w lo (.agg #[.slice A1 m.bits.length c1, .slice A2 m.words.length c2]) m) :
    HO (w.alloc (.cells #[.slice A1 m.bits.length c1, .slice A2 m.words.length c2] 30)) w.heap.size lo w.heap.size A1 c1 A2 c2 m :=
  ⟨heap_alloc_new _ _, (OwnMX.of h).below ((Below.refl _ _).alloc (Nat.le_refl _) _), Nat.le_refl _⟩
theorem HO.below (h : HO w k lo hi A1 c1 A2 c2 m) (hb : Below w.heap.size w w') : HO w' k lo hi A1 c1 A2 c2 m :=
  ⟨(hb.block k (blk_lt h.blk)).trans h.blk, h.own.below hb, h.le⟩
theorem HO.out (h : HO w k lo hi A1 c1 A2 c2 m) (ho : Out lo2 hi2 w w') (hd : (hi ≤ lo2 ∧ (k < lo2 ∨ hi2 ≤ k)) ∨ hi2 ≤ lo ∧ hi2 ≤ k) : HO w' k lo hi A1 c1 A2 c2 m :=
  ⟨(ho.block k (blk_lt h.blk) (by omega)).trans h.blk, h.own.out ho (by omega), h.le⟩
theorem HO.cells (h : HO w k lo hi A1 c1 A2 c2 m) : w.cell? ⟨k, 0, none⟩ = some (.slice A1 m.bits.length c1) ∧ w.cell? ⟨k, 1, none⟩ = some (.slice A2 m.words.length c2) := ⟨blk_cell h.blk 0, blk_cell h.blk 1⟩
theorem HO.lt (h : HO w k lo hi A1 c1 A2 c2 m) : k < w.heap.size := blk_lt h.blk
/-- Behind the marks of the image itself. -/
theorem HO.marked (h : HO w k lo hi A1 c1 A2 c2 m) (ho : Out lo hi w w') {j : Nat} (hm : OwnMX w' lo hi (.agg #[.slice A1 m.bits.length c1, .slice A2 m.words.length c2]) (markM m j)) : HO w' k lo hi A1 c1 A2 c2 (markM m j) := by
  refine ⟨?_, ?_, h.le⟩
  · have := (ho.block k (blk_lt h.blk) (.inr h.le)).trans h.blk
    simpa [markM, markB_len, markI_len] using this
  · simpa [markM, markB_len, markI_len] using hm
end
/-- The argument: kept in block k, its lists in the memory that came in. -/
structure HA (W w : World) (k : Nat) (A1 : Option Addr) (c1 : Nat) (A2 : Option Addr) (c2 : Nat) (m : Img) : Prop where
  blk : w.heap[k]? = some (.cells #[.slice A1 m.bits.length c1, .slice A2 m.words.length c2] 25 (0, 0))
  read : ImgR W W.heap.size (.agg #[.slice A1 m.bits.length c1, .slice A2 m.words.length c2]) m
  bel : Below W.heap.size W w
section
variable {W w w' : World} {k lo2 hi2 : Nat} {A1 A2 : Option Addr} {c1 c2 : Nat} {m : Img}
theorem HA.new (h : ImgR W W.heap.size (.agg #[.slice A1 m.bits.length c1, .slice A2 m.words.length c2]) m) : HA W (W.alloc (.cells #[.slice A1 m.bits.length c1, .slice A2 m.words.length c2] 25)) W.heap.size A1 c1 A2 c2 m :=
  ⟨heap_alloc_new _ _, h, (Below.refl _ _).alloc (Nat.le_refl _) _⟩
theorem HA.below (h : HA W w k A1 c1 A2 c2 m) (hb : Below w.heap.size w w') : HA W w' k A1 c1 A2 c2 m :=
  ⟨(hb.block k (blk_lt h.blk)).trans h.blk, h.read, h.bel.trans (hb.mono h.bel.size)⟩
theorem HA.out (h : HA W w k A1 c1 A2 c2 m) (ho : Out lo2 hi2 w w') (hl : k < lo2) (hw : W.heap.size ≤ lo2) : HA W w' k A1 c1 A2 c2 m :=
  ⟨(ho.block k (blk_lt h.blk) (.inl hl)).trans h.blk, h.read, h.bel.trans (ho.below hw h.bel.size)⟩
theorem HA.img (h : HA W w k A1 c1 A2 c2 m) : ImgR w w.heap.size (.agg #[.slice A1 m.bits.length c1, .slice A2 m.words.length c2]) m := h.read.below h.bel
theorem HA.cells (h : HA W w k A1 c1 A2 c2 m) : w.cell? ⟨k, 0, none⟩ = some (.slice A1 m.bits.length c1) ∧ w.cell? ⟨k, 1, none⟩ = some (.slice A2 m.words.length c2) := ⟨blk_cell h.blk 0, blk_cell h.blk 1⟩
theorem HA.lt (h : HA W w k A1 c1 A2 c2 m) : k < w.heap.size := blk_lt h.blk
end
theorem eqImage_same (v1 v2 : Value) (a : Img) (w : World) (h1 : ImgR w w.heap.size v1 a) (h2 : ImgR w w.heap.size v2 a) :
    Calls Try.prog 10 #[v1, v2] w fun e w' => e = .returned (.bool true) ∧ Below w.heap.size w w' :=
  (eqImage_any v1 v2 a a w h1 h2).mono fun _ _ ⟨he, hb⟩ => ⟨by rw [he, sameM_refl], hb⟩
theorem szBoolS_raw (A : Option Addr) (n c : Nat) (left : Int) (w : World) (hn : n ≤ 9223372036854775807) (h1 : 0 ≤ left ∧ left ≤ 1048576) :
    Calls Try.prog 12 #[.slice A n c, .int .i64 left] w fun e w' => e = .returned (.int .i64 (szL n left)) ∧ w = w' := by
  by_cases h0 : left - n < 0
  all_goals
    go_enter Try.func12, Try.ntmps12
    go_wp2
    go_ret
    exact ⟨ret_int (by unfold szL; omega), rfl⟩
theorem szIntS_raw (A : Option Addr) (n c : Nat) (left : Int) (w : World) (hn : n ≤ 9223372036854775807) (h1 : 0 ≤ left ∧ left ≤ 1048576) :
    Calls Try.prog 13 #[.slice A n c, .int .i64 left] w fun e w' => e = .returned (.int .i64 (szL n left)) ∧ w = w' := by
  by_cases h0 : left - n < 0
  all_goals
    go_enter Try.func13, Try.ntmps13
    go_wp2
    go_ret
    exact ⟨ret_int (by unfold szL; omega), rfl⟩

theorem szImage_in (A1 : Option Addr) (n1 c1 : Nat) (A2 : Option Addr) (n2 c2 : Nat) (left : Int) (w : World) (h1 : 0 ≤ left ∧ left ≤ 1048576) (hs : n1 + n2 ≤ left) :
    Calls Try.prog 4 #[.agg #[.slice A1 n1 c1, .slice A2 n2 c2], .int .i64 left] w fun e w' => e = .returned (.int .i64 (left - n1 - n2)) ∧ Below w.heap.size w w' := by
  obtain ⟨q, hq⟩ : ∃ q, q = left - n1 := ⟨_, rfl⟩
  have e1 : szL n1 left = q := by unfold szL; rw [if_neg (by omega)]; omega
  have e2 : szL n2 q = left - n1 - n2 := by unfold szL; rw [if_neg (by omega)]; omega
  have q0 : 0 ≤ q := by omega
  have q1 : q ≤ 1048576 := by omega
  have q2 : 0 ≤ left - n1 - n2 := by omega
  clear hq
  go_enter Try.func4, Try.ntmps4
  go_wp2_with fail
  refine (szBoolS_raw _ n1 _ left _ (by omega) (by omega)).mono ?_
  rw [e1]
  rintro e w1 ⟨rfl, rfl⟩
  go_wp2_with fail
  refine (szIntS_raw _ n2 _ q _ (by omega) (by omega)).mono ?_
  rw [e2]
  rintro e w1 ⟨rfl, rfl⟩
  go_wp2
  go_ret
  exact ⟨rfl, (Below.refl _ _).alloc (Nat.le_refl _) _⟩
theorem szImage_over (A1 : Option Addr) (n1 c1 : Nat) (A2 : Option Addr) (n2 c2 : Nat) (left : Int) (w : World) (h1 : 0 ≤ left ∧ left ≤ 1048576) (hn1 : n1 ≤ 9223372036854775807) (hn2 : n2 ≤ 9223372036854775807) (hs : left < n1 + n2) :
    Calls Try.prog 4 #[.agg #[.slice A1 n1 c1, .slice A2 n2 c2], .int .i64 left] w fun e w' => e = .returned (.int .i64 (-1)) ∧ Below w.heap.size w w' := by
  by_cases g : left < n1
  · have e1 : szL n1 left = -1 := by unfold szL; rw [if_pos (by omega)]
    go_enter Try.func4, Try.ntmps4
    go_wp2_with fail
    refine (szBoolS_raw _ n1 _ left _ (by omega) (by omega)).mono ?_
    rw [e1]
    rintro e w1 ⟨rfl, rfl⟩
    go_wp2
    go_ret
    exact ⟨rfl, (Below.refl _ _).alloc (Nat.le_refl _) _⟩
  · obtain ⟨q, hq⟩ : ∃ q, q = left - n1 := ⟨_, rfl⟩
    have e1 : szL n1 left = q := by unfold szL; rw [if_neg (by omega)]; omega
    have e2 : szL n2 q = -1 := by unfold szL; rw [if_pos (by omega)]
    have q0 : 0 ≤ q := by omega
    have q1 : q ≤ 1048576 := by omega
    clear hq
    go_enter Try.func4, Try.ntmps4
    go_wp2_with fail
    refine (szBoolS_raw _ n1 _ left _ (by omega) (by omega)).mono ?_
    rw [e1]
    rintro e w1 ⟨rfl, rfl⟩
    go_wp2_with fail
    refine (szIntS_raw _ n2 _ q _ (by omega) (by omega)).mono ?_
    rw [e2]
    rintro e w1 ⟨rfl, rfl⟩
    go_wp2
    go_ret
    exact ⟨rfl, (Below.refl _ _).alloc (Nat.le_refl _) _⟩
end Go.Proofs.Ytoagnajljdbobab
