/- The contract of a drawn expression: l20Logic. -/
import Derived.Test.YtoagnajljdbobabDoorR
import Derived.Test.YtoagnajljdbobabDoorIr
import Derived.Deep.AppendLies
namespace Go.Proofs.YtoagnajljdbobabDoor
open Go.RowKit
attribute [local go_sem ↓] Go.wp_at_zero Go.wp_at_succ

/-- An element that is drawn: small numbers. -/
def smN (x : Nd) : Prop := (-2000 ≤ x.op ∧ x.op ≤ 2000) ∧ (-2000 ≤ x.bit ∧ x.bit ≤ 2000)
theorem smN.fit {x : Nd} (h : smN x) : ndFit x := by unfold smN at h; unfold ndFit; omega
theorem own_litN {base : Nat} {W : World} (op bit : Int) (h : base ≤ W.heap.size) : OwnN (W.alloc (.cells #[.int .i64 op, .int .i64 bit] 49)) base (.slice (some ⟨W.heap.size, 0, none⟩) 1 1) [⟨op, bit⟩] := by
  have := World.ownsRow_lit (e := 49) (size := 2) W #[.int .i64 op, .int .i64 bit] 1 h (by simp [maxLen]) (by simp)
  unfold OwnN
  simpa [cellsN] using this
theorem sm_add {l : List Nd} {x : Nd} (h : ∀ y ∈ l, smN y) (hx : smN x) : ∀ y ∈ l ++ [x], smN y := by
  intro y hy
  rcases List.mem_append.1 hy with h' | h'
  · exact h y h'
  · obtain rfl := List.mem_singleton.1 h'; exact hx
def LogicPost (g P many : Nat) (w : World) (e : Ending) (w' : World) : Prop :=
  ∃ v l, e = .returned v ∧ OwnN w' w.heap.size v l ∧ (1 ≤ l.length ∧ l.length + 2 ≤ 4 * many) ∧ (∀ x ∈ l, smN x) ∧ Rdr w' g (P + 8 * many - 4) ∧ Fr w.heap.size g w w'
set_option maxHeartbeats 1000000 in
theorem logic1_any (g P : Nat) (n : Nat) (w : World) (hw : Rdr w g P) (hP : P + 100 ≤ 1000000) (hn : 1 ≤ n ∧ n ≤ 1000) :
    Calls Tryd.prog 30 #[.pointer (some ⟨g, 0, none⟩), .int .i64 n, .int .i64 1] w (LogicPost g P 1 w) := by
  have hgl := hw.lt
  go_enter Tryd.func30, Tryd.ntmps30
  go_wp2_with fail
  refine (pick_any g P n _ hw (by omega) (by omega)).mono ?_
  rintro e w1 ⟨r1, rfl, hr1, hR1, hF1⟩
  have hs1 := hF1.size
  clear hw
  have hO1 := own_litN (W := w1) (base := w.heap.size) 1 r1 hs1
  have hR1' := hR1.below ((Below.refl _ _).alloc (Nat.le_refl _) (.cells #[.int .i64 1, .int .i64 r1] 49))
  have hF1' := hF1.alloc hs1 (.cells #[.int .i64 1, .int .i64 r1] 49)
  go_wp2_with fail
  refine (odd_any g (P + 1) 9 _ hR1' (by omega) (by omega) (by omega)).mono ?_
  rintro e w2 ⟨b, rfl, hb, hR2, hF2⟩
  have hs2 := hF2.size
  have hO2 := hF2.own hO1 hgl
  replace hF2 := hF1'.trans (hF2.mono (by simp; omega))
  clear hO1 hR1 hR1' hF1 hF1' hb
  simp at hs2
  cases b
  · obtain ⟨G, hG⟩ : ∃ G, G = w1.heap.size := ⟨_, rfl⟩
    rw [← hG] at hO2 ⊢
    have hsm : ∀ x ∈ [(⟨1, r1⟩ : Nd)], smN x := by simp [smN]; omega
    have hRT := hR2
    have hFT := hF2
    have hOT := hO2
    clear hR2 hF2 hO2 hG
    go_wp2_with fail
    refine (pick_any g (P + 3) 3 _ (hRT.mono (by omega)) (by omega) (by omega)).mono ?_
    rintro e w5 ⟨r5, rfl, hr5, hR5, hF5⟩
    have hO5 := hF5.own hOT hgl
    replace hF5 := hFT.trans (hF5.mono hFT.size)
    have hs5 := hF5.size
    clear hRT hOT hFT
    by_cases h5 : r5 = 0
    · subst h5
      unfold OwnN at hO5
      have hO6 := World.ownsRow.alloc hO5 (.cells #[.int .i64 2, .int .i64 0] 49)
      go_wp2_with (at_builtin; refine wpl_append rfl _ _ 27 rfl elN (base := w.heap.size) rfl hO6 rfl (Rd.newN _ ⟨2, 0⟩ _) (one_n _) ?_ ?_ ?_ ?_)
      · simp
      · simp
      · simp; omega
      intro v3 w6 hown hg6 _
      obtain ⟨VB, vd, rfl, -, -⟩ := own_form hown
      have hF6 : Fr w.heap.size g w w6 := (hF5.alloc hs5 _).grown hg6 (by simp; omega) (fun j hj => .inl (hO6.lt j hj).1)
      have hR6 : Rdr w6 g (P + 4) := ((hR5.below ((Below.refl _ _).alloc (Nat.le_refl _) _)).grown hg6 (fun j hj => by have := (hO6.lt j hj).1; omega)).mono (by omega)
      have hO7 : OwnN w6 w.heap.size (.slice VB 2 vd) ([⟨1, r1⟩] ++ [⟨2, 0⟩]) := by unfold OwnN; simpa [cellsN] using hown
      clear hown hg6 hO6 hO5
      go_wp2
      go_ret
      exact ⟨_, _, rfl, hO7, by simp, sm_add hsm (by unfold smN; simp), hR6, hF6⟩
    · have e5 : (r5 == 0) = false := by simpa using h5
      go_wp2
      go_ret
      exact ⟨_, _, rfl, hO5, by simp, hsm, hR5.mono (by omega), hF5⟩
  · go_wp2_with fail
    refine (pick_any g (P + 2) 2 _ (hR2.mono (by omega)) (by omega) (by omega)).mono ?_
    rintro e w3 ⟨r3, rfl, hr3, hR3, hF3⟩
    have hs3 := hF3.size
    replace hF3 := hF2.trans (hF3.mono hF2.size)
    have hOT := own_litN (W := w3) (base := w.heap.size) (6 + r3) 0 hF3.size
    have hRT := hR3.below ((Below.refl _ _).alloc (Nat.le_refl _) (.cells #[.int .i64 (6 + r3), .int .i64 0] 49))
    have hFT := hF3.alloc hF3.size (.cells #[.int .i64 (6 + r3), .int .i64 0] 49)
    have hsm : ∀ x ∈ [(⟨6 + r3, 0⟩ : Nd)], smN x := by simp [smN]; omega
    clear hR2 hF2 hO2 hR3 hF3
    go_wp2_with fail
    refine (pick_any g (P + 3) 3 _ (hRT.mono (by omega)) (by omega) (by omega)).mono ?_
    rintro e w5 ⟨r5, rfl, hr5, hR5, hF5⟩
    have hO5 := hF5.own hOT hgl
    replace hF5 := hFT.trans (hF5.mono hFT.size)
    have hs5 := hF5.size
    clear hRT hOT hFT
    by_cases h5 : r5 = 0
    · subst h5
      unfold OwnN at hO5
      have hO6 := World.ownsRow.alloc hO5 (.cells #[.int .i64 2, .int .i64 0] 49)
      go_wp2_with (at_builtin; refine wpl_append rfl _ _ 27 rfl elN (base := w.heap.size) rfl hO6 rfl (Rd.newN _ ⟨2, 0⟩ _) (one_n _) ?_ ?_ ?_ ?_)
      · simp
      · simp
      · simp; omega
      intro v3 w6 hown hg6 _
      obtain ⟨VB, vd, rfl, -, -⟩ := own_form hown
      have hF6 : Fr w.heap.size g w w6 := (hF5.alloc hs5 _).grown hg6 (by simp; omega) (fun j hj => .inl (hO6.lt j hj).1)
      have hR6 : Rdr w6 g (P + 4) := ((hR5.below ((Below.refl _ _).alloc (Nat.le_refl _) _)).grown hg6 (fun j hj => by have := (hO6.lt j hj).1; omega)).mono (by omega)
      have hO7 : OwnN w6 w.heap.size (.slice VB 2 vd) ([⟨6 + r3, 0⟩] ++ [⟨2, 0⟩]) := by unfold OwnN; simpa [cellsN] using hown
      clear hown hg6 hO6 hO5
      go_wp2
      go_ret
      exact ⟨_, _, rfl, hO7, by simp, sm_add hsm (by unfold smN; simp), hR6, hF6⟩
    · have e5 : (r5 == 0) = false := by simpa using h5
      go_wp2
      go_ret
      exact ⟨_, _, rfl, hO5, by simp, hsm, hR5.mono (by omega), hF5⟩
theorem smN_app {l l2 : List Nd} (h : ∀ y ∈ l, smN y) (h2 : ∀ y ∈ l2, smN y) : ∀ y ∈ l ++ l2, smN y := by
  intro y hy
  rcases List.mem_append.1 hy with h' | h'
  · exact h y h'
  · exact h2 y h'
set_option maxHeartbeats 2000000 in
theorem logic_any (g : Nat) (n : Nat) (hn : 1 ≤ n ∧ n ≤ 1000) : ∀ (many : Nat) (z : Int) (P : Nat) (w : World), z = many → 1 ≤ many → many ≤ 100 → Rdr w g P → P + 8 * many + 100 ≤ 1000000 →
    Calls Tryd.prog 30 #[.pointer (some ⟨g, 0, none⟩), .int .i64 n, .int .i64 z] w (LogicPost g P many w) := by
  intro many
  induction many using Nat.strongRecOn with
  | _ many ih =>
  intro z P w hz hm hm2 hw hP
  by_cases h1 : many = 1
  · subst h1
    obtain rfl : z = 1 := by omega
    exact logic1_any g P n w hw (by omega) hn
  have hgl := hw.lt
  have IH := Lib.hid ih
  clear ih
  have i1 : ¬ z < 2 := by omega
  have i2 : z ≤ 100 := by omega
  have HZ := Lib.hid hz
  clear hz
  go_enter Tryd.func30, Tryd.ntmps30
  go_wp2_with fail
  refine (pick_any g P (z - 1) _ hw (by omega) (by omega)).mono ?_
  rintro e w1 ⟨r1, rfl, hr1, hR1, hF1⟩
  have hs1 := hF1.size
  clear hw
  go_wp2_with fail
  refine (IH.out (1 + r1).toNat (by have := HZ.out; omega) _ (P + 1) _ (by have := HZ.out; omega) (by omega) (by omega) hR1 (by have := HZ.out; omega)).mono ?_
  rintro e w2 ⟨v2, l2, rfl, hO2, hl2, hsm2, hR2, hF2⟩
  have hs2 := hF2.size
  replace hF2 := hF1.trans (hF2.mono hs1)
  go_wp2_with fail
  refine (IH.out (z - (1 + r1)).toNat (by have := HZ.out; omega) _ _ _ (by omega) (by omega) (by omega) hR2 (by have := HZ.out; omega)).mono ?_
  rintro e w3 ⟨v3, l3, rfl, hO3, hl3, hsm3, hR3, hF3⟩
  have hs3 := hF3.size
  replace hO2 := hF3.own hO2 (by omega)
  replace hF3 := hF2.trans (hF3.mono (by omega))
  replace hR3 := hR3.mono (Q := P + 8 * many - 7) (by have := HZ.out; omega)
  have hl4 : 2 ≤ (l2 ++ l3).length ∧ (l2 ++ l3).length + 4 ≤ 4 * many := by have := HZ.out; rw [List.length_append]; omega
  have hsm4 := smN_app hsm2 hsm3
  clear IH hR1 hR2 hF1 hF2 hsm2 hsm3
  obtain ⟨A2, c2, rfl, hc2, -⟩ := own_form hO2
  obtain ⟨A3, c3, rfl, hc3, hrd3⟩ := own_form hO3
  have hw3 : w.heap.size ≤ w3.heap.size := by omega
  have hO2b := mono_own hO2 (b' := w.heap.size) (by omega)
  have hb2 := fun j (hj : (Value.slice A2 l2.length c2).ownBlock = some j) => (hO2.lt j hj).1
  clear hO2 hO3
  go_wp2_with (at_builtin; refine wpl_append rfl _ _ 27 rfl elN (base := w.heap.size) rfl hO2b rfl hrd3 (one_n _) ?_ ?_ ?_ ?_)
  · omega
  · omega
  · omega
  intro v4 w4 hown hg4 _
  have hO4 : OwnN w4 w.heap.size v4 (l2 ++ l3) := by unfold OwnN; rw [cellsN_append, List.length_append]; exact hown
  have hF4 : Fr w.heap.size g w w4 := hF3.grown hg4 hw3 (fun j hj => .inl (by have := hb2 j hj; omega))
  have hR4 : Rdr w4 g (P + 8 * many - 7) := hR3.grown hg4 (fun j hj => by have := hb2 j hj; omega)
  obtain ⟨L, hL⟩ : ∃ L, L = l2 ++ l3 := ⟨_, rfl⟩
  rw [← hL] at hO4 hl4 hsm4
  clear hown hg4 hO2b hb2 hrd3 hF3 hR3 hL hl2 hl3 hc2 hc3 hs1 hs2 hs3 hw3 hr1
  obtain ⟨A4, c4, rfl, hc4, -⟩ := own_form hO4
  have hs4 := hF4.size
  obtain ⟨o, ho⟩ : ∃ o, o = Obj.cells #[.int .i64 3, .int .i64 3, .int .i64 4, .int .i64 4, .int .i64 5] 3 := ⟨_, rfl⟩
  go_wp2_with fail
  refine (pick_any g _ 5 _ (hR4.below ((Below.refl _ _).alloc (Nat.le_refl _) _)) (by omega) (by omega)).mono ?_
  rintro e w5 ⟨r5, rfl, hr5, hR5, hF5⟩
  obtain ⟨k0, k1, k2⟩ := hF5.kept w4.heap.size (by simp) (by have := hR4.lt; omega) (by simp)
  have hO5 := hF5.own (World.ownsRow.alloc hO4 _) hgl
  replace hF5 := (hF4.alloc hs4 _).trans (hF5.mono (by simp; omega))
  have hs5 := hF5.size
  unfold OwnN at hO4
  have hO5a := fun op : Int => World.ownsRow.alloc hO5 (.cells #[.int .i64 op, .int .i64 0] 49)
  have hF5a := fun op : Int => hF5.alloc hs5 (.cells #[.int .i64 op, .int .i64 0] 49)
  have hR5a := fun op : Int => hR5.below ((Below.refl _ _).alloc (Nat.le_refl _) (.cells #[.int .i64 op, .int .i64 0] 49))
  have HO5 := Lib.hid hO5a
  have HF5 := Lib.hid hF5a
  have HR5 := Lib.hid hR5a
  clear hO5 hF5 hR5 hO4 hF4 hR4 hO5a hF5a hR5a hs4 ho
  have h5 : r5 = 0 ∨ r5 = 1 ∨ r5 = 2 ∨ r5 = 3 ∨ r5 = 4 := by omega
  clear hr5
  rcases h5 with rfl | rfl | rfl | rfl | rfl
  all_goals
    go_wp2_with (at_builtin; refine wpl_append rfl _ _ 27 rfl elN (base := w.heap.size) rfl (HO5.out _) rfl (Rd.newN _ ⟨_, 0⟩ _) (one_n _) ?_ ?_ ?_ ?_)
    · omega
    · omega
    · simp; omega
    intro v6 w6 hown hg6 _
    obtain ⟨B6, c6, rfl, -, -⟩ := own_form hown
    have hF6 := (HF5.out _).grown hg6 (by simp; omega) (fun j hj => .inl ((HO5.out 0).lt j hj).1)
    have hR6 := (HR5.out _).grown hg6 (fun j hj => by have := ((HO5.out 0).lt j hj).1; omega)
    replace hR6 := hR6.mono (Q := P + 8 * many - 6) (by omega)
    obtain ⟨x, hx, hO6⟩ : ∃ x : Int, smN ⟨x, 0⟩ ∧ w6.ownsRow w.heap.size 49 2 (.slice B6 (L.length + 1) c6) (L.length + 1) (cellsN L ++ cellsN [⟨x, 0⟩]) := by
      first | exact ⟨3, by simp [smN], hown⟩ | exact ⟨4, by simp [smN], hown⟩ | exact ⟨5, by simp [smN], hown⟩
    clear hown hg6 k0 k1 k2
    have hs6 := hF6.size
    go_wp2_with fail
    refine (odd_any g _ 7 _ hR6 (by omega) (by omega) (by omega)).mono ?_
    rintro e w7 ⟨b, rfl, hb, hR7, hF7⟩
    have hO7 := hF7.own hO6 hgl
    replace hF7 := hF6.trans (hF7.mono hs6)
    have hs7 := hF7.size
    clear hO6 hF6 hR6 hb
    cases b
    · have hN : OwnN w7 w.heap.size (.slice B6 (L.length + 1) c6) (L ++ [⟨x, 0⟩]) := by unfold OwnN; rw [cellsN_append, List.length_append]; exact hO7
      have HN := Lib.hid hN
      clear hO7 hN
      go_wp2
      go_ret
      exact ⟨_, _, rfl, HN.out, by rw [List.length_append]; simp; omega, sm_add hsm4 hx, hR7.mono (by omega), hF7⟩
    · have hO7a := World.ownsRow.alloc hO7 (.cells #[.int .i64 2, .int .i64 0] 49)
      have HO7 := Lib.hid hO7a
      clear hO7 hO7a
      go_wp2_with (at_builtin; refine wpl_append rfl _ _ 27 rfl elN (base := w.heap.size) rfl HO7.out rfl (Rd.newN _ ⟨2, 0⟩ _) (one_n _) ?_ ?_ ?_ ?_)
      · omega
      · omega
      · simp; omega
      intro v8 w8 hown hg8 _
      obtain ⟨B8, c8, rfl, -, -⟩ := own_form hown
      have hF8 : Fr w.heap.size g w w8 := (hF7.alloc hs7 _).grown hg8 (by simp; omega) (fun j hj => .inl (HO7.out.lt j hj).1)
      have hR8 : Rdr w8 g (P + 8 * many - 4) := ((hR7.below ((Below.refl _ _).alloc (Nat.le_refl _) _)).grown hg8 (fun j hj => by have := (HO7.out.lt j hj).1; omega)).mono (by omega)
      have hN : OwnN w8 w.heap.size (.slice B8 (L.length + 1 + 1) c8) (L ++ [⟨x, 0⟩] ++ [⟨2, 0⟩]) := by unfold OwnN; rw [cellsN_append, cellsN_append, List.length_append, List.length_append, List.append_assoc (cellsN L)]; exact hown
      have HN := Lib.hid hN
      clear hown hg8 hN
      go_wp2
      go_ret
      exact ⟨_, _, rfl, HN.out, by rw [List.length_append, List.length_append]; simp; omega, sm_add (sm_add hsm4 hx) (by unfold smN; simp), hR8, hF8⟩
end Go.Proofs.YtoagnajljdbobabDoor
