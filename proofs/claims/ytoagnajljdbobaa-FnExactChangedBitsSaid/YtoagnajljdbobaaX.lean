/- The law of SetBit: its walk. -/
import Derived.Test.YtoagnajljdbobaaW
import Derived.Test.YtoagnajljdbobaaI
namespace Go.Proofs.Ytoagnajljdbobaa
open Go.RowKit
attribute [local go_sem ↓] Go.wp_at_zero Go.wp_at_succ

theorem small_setBit {m : Img} (n : Int) (b : Bool) {x y : Nat} (h : smallM m x y) : smallM (setBitM m n b) x y := by
  unfold setBitM
  split
  · refine ⟨?_, h.2.1, h.2.2⟩
    show (if _ then _ else _ : List Bool).length ≤ x
    split
    · simpa using h.1
    · exact h.1
  · exact ⟨by simp, by simp, by simp⟩
theorem setBit_len {m : Img} (n : Int) (b : Bool) (hok : imgOK m = true) : (setBitM m n b).bits.length = m.bits.length := by
  unfold setBitM
  rw [if_pos hok]
  show (if _ then _ else _ : List Bool).length = _
  split <;> simp
theorem setBit_words {m : Img} (n : Int) (b : Bool) (hok : imgOK m = true) : (setBitM m n b).words = m.words := by
  unfold setBitM; rw [if_pos hok]
theorem setBit_bad {m : Img} (n : Int) (b : Bool) (hok : imgOK m = false) : setBitM m n b = ⟨[], []⟩ := by
  unfold setBitM; rw [if_neg (by simp [hok])]
theorem setBit_at {m : Img} (n : Int) (b : Bool) (hok : imgOK m = true) {k : Nat} (hk : k < m.bits.length) (hk' : k < (setBitM m n b).bits.length) : (setBitM m n b).bits[k] = if (k : Int) = n then b else m.bits[k] := by
  have e : (setBitM m n b).bits = if 0 ≤ n ∧ n < m.bits.length then m.bits.set n.toNat b else m.bits := by unfold setBitM; rw [if_pos hok]
  simp only [e]
  by_cases h : 0 ≤ n ∧ n < m.bits.length
  · simp only [if_pos h, List.getElem_set]
    by_cases h2 : (k : Int) = n
    · rw [if_pos h2, if_pos (by omega)]
    · rw [if_neg h2, if_neg (by omega)]
  · simp only [if_neg h]
    exact (if_neg (by omega)).symm
theorem sameImage_same (v1 v2 : Value) (a : Img) (w : World) (h1 : ImgR w w.heap.size v1 a) (h2 : ImgR w w.heap.size v2 a) :
    Calls Try.prog 26 #[v1, v2] w fun e w' => e = .returned (.bool true) ∧ Below w.heap.size w w' :=
  (sameImage_any v1 v2 a a w h1 h2).mono fun _ _ ⟨he, hb⟩ => ⟨by rw [he, sameM_refl], hb⟩
theorem sameBools_same (v1 v2 : Value) (a : List Bool) (w : World) (h1 : BoolsR w w.heap.size v1 a) (h2 : BoolsR w w.heap.size v2 a) :
    Calls Try.prog 32 #[v1, v2] w fun e w' => e = .returned (.bool true) ∧ Below w.heap.size w w' :=
  (sameBools_any v1 v2 a a w h1 h2).mono fun _ _ ⟨he, hb⟩ => ⟨by rw [he]; simp [sameL], hb⟩
theorem sameInts_same (v1 v2 : Value) (a : List Int) (w : World) (h1 : IntsR w w.heap.size v1 a) (h2 : IntsR w w.heap.size v2 a) :
    Calls Try.prog 33 #[v1, v2] w fun e w' => e = .returned (.bool true) ∧ Below w.heap.size w w' :=
  (sameInts_any v1 v2 a a w h1 h2).mono fun _ _ ⟨he, hb⟩ => ⟨by rw [he]; simp [sameL], hb⟩
theorem below_drewN' {B : Nat} {a w : World} (h : Below B a w) (n : Nat) : Below B a (w.drewN n) := ⟨h.os, h.tape, h.output, h.size, h.block⟩
theorem Held.drewN {w : World} {k : Nat} {A1 A2 : Option Addr} {c1 c2 : Nat} {m : Img} (h : Held w k A1 c1 A2 c2 m) (n : Nat) : Held (w.drewN n) k A1 c1 A2 c2 m := h.below ⟨rfl, rfl, rfl, Nat.le_refl _, fun _ _ => rfl⟩
theorem Held.drew {w : World} {k : Nat} {A1 A2 : Option Addr} {c1 c2 : Nat} {m : Img} (h : Held w k A1 c1 A2 c2 m) : Held w.drew k A1 c1 A2 c2 m := h.below ⟨rfl, rfl, rfl, Nat.le_refl _, fun _ _ => rfl⟩
theorem Held.alloc {w : World} {k : Nat} {A1 A2 : Option Addr} {c1 c2 : Nat} {m : Img} (h : Held w k A1 c1 A2 c2 m) (o : Obj) : Held (w.alloc o) k A1 c1 A2 c2 m := h.below ((Below.refl _ _).alloc (Nat.le_refl _) _)
theorem Held.bits {w : World} {k : Nat} {A1 A2 : Option Addr} {c1 c2 : Nat} {m : Img} (h : Held w k A1 c1 A2 c2 m) : BoolsR w w.heap.size (.slice A1 m.bits.length c1) m.bits := by
  obtain ⟨v1, v2, e, h1, h2⟩ := h.read
  simp only [Value.agg.injEq, Array.mk.injEq, List.cons.injEq, and_true] at e
  rw [e.1]; exact h1
theorem Held.wds {w : World} {k : Nat} {A1 A2 : Option Addr} {c1 c2 : Nat} {m : Img} (h : Held w k A1 c1 A2 c2 m) : IntsR w w.heap.size (.slice A2 m.words.length c2) m.words := by
  obtain ⟨v1, v2, e, h1, h2⟩ := h.read
  simp only [Value.agg.injEq, Array.mk.injEq, List.cons.injEq, and_true] at e
  rw [e.2]; exact h2
theorem sameL_refl {α : Type} [DecidableEq α] (a : List α) : sameL a a = true := by simp [sameL]
theorem FnSetBit_long (a : Option Addr) (n c : Nat) (w : World) (h : 1048576 < n) (_hn : n ≤ 9223372036854775807) : Calls Try.prog 5 #[.slice a n c] w (LawPost w) := by
  go_enter Try.func5, Try.ntmps5
  go_wp2
  go_ret
  exact ⟨rfl, Below.refl _ _⟩
set_option maxHeartbeats 2000000 in
theorem FnSetBit_core (v : Value) (l : List Int) (w : World) (h : BytesR w w.heap.size v l) (hl : l.length ≤ 1048576) :
    Calls Try.prog 5 #[v] w (LawPost w) := by
  have HO := Lib.hid (drawSetBit_any v l w h)
  obtain ⟨A, c, rfl, -⟩ := h
  go_enter Try.func5, Try.ntmps5
  go_wp2_with fail
  refine HO.out.mono ?_
  rintro e w1 ⟨v, m, n, b, rfl, hO1, hS1, hb1, hn1, hn2⟩
  clear HO
  obtain ⟨A1, c1, A2, c2, rfl, -, -⟩ := hO1.form
  have hH := Held.new hO1 (hS1.up (by omega) (by omega))
  have B1 : Below w.heap.size w (w1.alloc (.cells #[.slice A1 m.bits.length c1, .slice A2 m.words.length c2] 26)) := hb1.alloc hb1.size _
  have hbl := hS1.1
  have hwl := hS1.2.1
  have hs1 := hb1.size
  clear hO1 hb1
  obtain ⟨p0, p1⟩ := hH.cells
  -- before
  obtain ⟨Ab, cb, eb, hRb, -⟩ := hH.bits
  injection eb with eb1 eb2 eb3
  subst eb1; subst eb3
  go_wp2_with (at_builtin; refine wpl_append (v := .slice (some ⟨w1.heap.size + 1, 0, none⟩) 0 0) (n := 0) (xs := []) (base := w1.heap.size + 1) rfl _ _ 23 rfl elB rfl ?c1 rfl (hRb.keep (fun _ hp => World.cell?_alloc_lt _ _ _ hp) (Nat.le_refl _)) (one_b _) ?c2 ?c3 ?c4 ?_)
  case c1 => exact own_lit0 (by simp) (Nat.le_refl _)
  case c2 => omega
  case c3 => omega
  case c4 => simp
  intro vb w2 hOb hgb _
  clear hRb
  have hB2 : Below (w1.alloc (.cells #[.slice A1 m.bits.length c1, .slice A2 m.words.length c2] 26)).heap.size _ w2 := ((Below.refl _ _).alloc (Nat.le_refl _) (.cells #[] 4)).grown hgb (by simp) (by intro k hk; simp [Value.ownBlock] at hk; simp; omega)
  have hH2 := hH.below hB2
  have B2 := B1.trans (hB2.mono (by simp; omega))
  have hOB : OwnB w2 (w1.heap.size + 1) vb m.bits := by unfold OwnB; simpa using hOb
  have hRB := hOB.read (by omega)
  obtain ⟨Ab, cb, rfl⟩ := hRB.form
  have hs2 := B2.size
  clear hOb hgb hB2 hH B1 hOB p0 p1
  obtain ⟨p0, p1⟩ := hH2.cells
  go_wp2_with fail
  refine (iSetBit_any _ m n b _ hH2.read).mono ?_
  rintro e w3 ⟨v3, rfl, hO3, hb3⟩
  have B3 := B2.trans (hb3.mono hs2)
  have hH3 := hH2.below hb3
  have hRB3 := hRB.below hb3
  obtain ⟨X1, x1, X2, x2, rfl, -, -⟩ := hO3.form
  have hSX := small_setBit n b hS1
  have hX := Held.new hO3 (hSX.up (by omega) (by omega))
  obtain ⟨o3, ho3⟩ : ∃ o, o = Obj.cells #[.slice X1 (setBitM m n b).bits.length x1, .slice X2 (setBitM m n b).words.length x2] 26 := ⟨_, rfl⟩
  have hH4 := hH3.alloc (.cells #[.slice X1 (setBitM m n b).bits.length x1, .slice X2 (setBitM m n b).words.length x2] 26)
  have hRB4 := hRB3.below ((Below.refl _ _).alloc (Nat.le_refl _) (.cells #[.slice X1 (setBitM m n b).bits.length x1, .slice X2 (setBitM m n b).words.length x2] 26))
  have B4 := B3.alloc B3.size (.cells #[.slice X1 (setBitM m n b).bits.length x1, .slice X2 (setBitM m n b).words.length x2] 26)
  clear ho3 o3 hO3 hb3 hH2 hRB B2 hRB3 hH3 B3 p0 p1 hs2
  obtain ⟨p0, p1⟩ := hH4.cells
  obtain ⟨q0, q1⟩ := hX.cells
  have s4 := B4.size
  have bd : ∀ W : World, Below W.heap.size W W.drew := fun W => (Below.refl _ _).drew
  go_wp2_with fail
  go_region_held3 (fun w' => w'.cell? ⟨w3.heap.size, 0, none⟩ = some (.slice X1 (setBitM m n b).bits.length x1) ∧ w'.cell? ⟨w3.heap.size, 1, none⟩ = some (.slice X2 (setBitM m n b).words.length x2) ∧ w'.cell? ⟨w1.heap.size, 0, none⟩ = some (.slice A1 m.bits.length c1) ∧ w'.cell? ⟨w1.heap.size, 1, none⟩ = some (.slice A2 m.words.length c2)) (first | exact ⟨q0, q1, p0, p1⟩ | go_keep)
    (first
      | (go_at_call 31; refine (sSetBit_any _ m n b _ hH4.drew.read).mono ?_; rintro e w5 ⟨v5, rfl, hO5, hb5⟩; obtain ⟨Y1, y1, Y2, y2, rfl, -, -⟩ := hO5.form; have hH5 := hH4.drew.below hb5; have hX5 := hX.drew.below hb5; have hRB5 := (hRB4.below (bd _)).below hb5; have B5 := B4.drew.trans (hb5.mono s4); clear p0 p1 q0 q1; obtain ⟨p0, p1⟩ := hH5.cells; obtain ⟨q0, q1⟩ := hX5.cells)
      | (go_at_call 26; refine (sameImage_same _ _ (setBitM m n b) _ hX5.read (hO5.read (hSX.up (by omega) (by omega)))).mono ?_; rintro e w6 ⟨rfl, hb6⟩; have hH6 := hH5.below hb6; have hX6 := hX5.below hb6; have hRB6 := hRB5.below hb6; have B6 := B5.trans (hb6.mono B5.size); clear p0 p1 q0 q1; obtain ⟨p0, p1⟩ := hH6.cells; obtain ⟨q0, q1⟩ := hX6.cells)
      | (go_at_call 32; refine (sameBools_same _ _ m.bits _ hH6.bits hRB6).mono ?_; rintro e w7 ⟨rfl, hb7⟩; have hH7 := hH6.below hb7; have hX7 := hX6.below hb7; have B7 := B6.trans (hb7.mono B6.size); clear p0 p1 q0 q1; obtain ⟨p0, p1⟩ := hH7.cells; obtain ⟨q0, q1⟩ := hX7.cells))
  clear hH4 hX hRB4 B4 hH5 hX5 hRB5 hO5 B5 hb5 hH6 hX6 hRB6 B6 hb6 hb7 s4
  obtain ⟨K1, hK1⟩ : ∃ K, K = w1.heap.size := ⟨_, rfl⟩
  go_wp2_with fail
  refine (sImageValid_any _ m _ hH7.read).mono ?_
  rintro e w8 ⟨rfl, hb8⟩
  have hH8 := hH7.below hb8
  have hX8 := hX7.below hb8
  have B8 := B7.trans (hb8.mono B7.size)
  clear hH7 hX7 B7 hb8 p0 p1 q0 q1
  obtain ⟨p0, p1⟩ := hH8.cells
  obtain ⟨q0, q1⟩ := hX8.cells
  have s8 := B8.size
  cases hok : imgOK m
  · have e1 : (setBitM m n b).bits.length = 0 := by rw [setBit_bad n b hok]; rfl
    have e2 : (setBitM m n b).words.length = 0 := by rw [setBit_bad n b hok]; rfl
    rw [e1] at q0
    rw [e2] at q1
    clear hH8 hX8
    go_wp2_with fail
    refine (alive_any _).mono ?_
    rintro e w9 ⟨rfl, hb9⟩
    go_wp2
    go_ret
    exact ⟨rfl, B8.trans (hb9.mono s8)⟩
  · have eL := setBit_len n b hok
    have eW := setBit_words n b hok
    have HX := Lib.hid hX8
    have HW := Lib.hid eW
    have HL := Lib.hid eL
    have HK := Lib.hid hok
    clear hX8 eW hok eL q0 q1
    go_wp2_with fail
    go_loopw [8] (fun i wr => ∃ k : Nat, k ≤ m.bits.length ∧ i = .int .i64 k ∧ Held wr w1.heap.size A1 c1 A2 c2 m ∧ Held wr w3.heap.size X1 x1 X2 x2 (setBitM m n b) ∧ Below w.heap.size w wr) (fun i _ => m.bits.length - (intOf i).toNat)
    case atStart => exact ⟨0, by omega, rfl, hH8, HX.out, B8⟩
    case round =>
      obtain ⟨k, hk, rfl, hHr, hXr, hBr⟩ := hrel
      clear hH8 HX B8 p0 p1 s8
      obtain ⟨p0, p1⟩ := hHr.cells
      obtain ⟨q0, q1⟩ := hXr.cells
      have eL := HL.out
      by_cases hlt : k < m.bits.length
      · obtain ⟨pa, rfl, ha⟩ := hHr.bit hlt
        obtain ⟨pb, rfl, hb⟩ := hXr.bit (j := k) (by omega)
        rw [setBit_at n b HK.out hlt (by omega)] at hb
        obtain ⟨x, hx⟩ : ∃ x, x = m.bits[k] := ⟨_, rfl⟩
        rw [← hx] at ha hb
        clear hx
        have i0 : (0 : Int) ≤ (k : Int) := by omega
        have i1 : (k : Int) < (m.bits.length : Int) := by omega
        have i2 : (k : Int) < ((setBitM m n b).bits.length : Int) := by omega
        have HH := Lib.hid hHr
        have HXr := Lib.hid hXr
        clear hHr hXr eL
        by_cases hkn : (k : Int) = n
        · rw [if_pos hkn] at hb
          have t1 : ((k : Int) != n) = false := by simpa using hkn
          have t2 : ((k : Int) == n) = true := by simpa using hkn
          have HN := Lib.hid hkn
          clear hkn
          go_wp2
          go_quiet (fail)
          go_wp2
          go_roundw
          case rel => exact ⟨k + 1, by omega, by go_num, HH.out.drewN _, HXr.out.drewN _, below_drewN' hBr _⟩
          case measure => simp [intOf]; omega
        · rw [if_neg hkn] at hb
          have t1 : ((k : Int) != n) = true := by simpa using hkn
          have t2 : ((k : Int) == n) = false := by simpa using hkn
          clear hkn
          go_wp2
          go_quiet (fail)
          go_wp2
          go_roundw
          case rel => exact ⟨k + 1, by omega, by go_num, HH.out.drewN _, HXr.out.drewN _, below_drewN' hBr _⟩
          case measure => simp [intOf]; omega
      · clear eL
        have eW := HW.out
        have hw1 := hXr.wds
        have hw2 := hHr.wds
        have hw1' : IntsR wr wr.heap.size (.slice X2 (setBitM m n b).words.length x2) m.words := by rw [← eW] at *; exact hw1
        clear hw1 eW
        go_wp2_with fail
        refine (sameInts_same _ _ m.words _ hw1' hw2).mono ?_
        rintro e w9 ⟨rfl, hb9⟩
        go_wp2
        go_ret
        exact ⟨rfl, hBr.trans (hb9.mono hBr.size)⟩
end Go.Proofs.Ytoagnajljdbobaa
