/- The law of EdgeTrace: its walk. -/
import Derived.Test.YthebkamggkfnlaaLC
import Derived.Test.YthebkamggkfnlaaLD
import Derived.Test.YthebkamggkfnlaaS
import Derived.Test.YthebkamggkfnlaaW
namespace Go.Proofs.Ythebkamggkfnlaa
open Go.RowKit
attribute [local go_sem ↓] Go.wp_at_zero Go.wp_at_succ

def bit (b : Bool) : Int := if b then 1 else 0
theorem edgesTo_get (f : Bool) (l : List Bool) (k : Nat) (h : k < l.length) : (edgesTo f l l.length)[k]'(by rw [edgesTo_len]; exact h) = riseB (befAt f l k) l[k] := by
  simp [edgesTo, edgeAt, List.getD, List.getElem?_eq_getElem h]
theorem bools_same (v1 v2 : Value) (a : List Bool) (w : World) (h1 : BoolsR w w.heap.size v1 a) (h2 : BoolsR w w.heap.size v2 a) :
    Calls Try.prog 25 #[v1, v2] w fun e w' => e = .returned (.bool true) ∧ Below w.heap.size w w' :=
  (sameBools_any v1 v2 a a w h1 h2).mono fun _ _ ⟨he, hb⟩ => ⟨by rw [he]; simp [sameL], hb⟩
theorem FnEdgeTrace_long (a : Option Addr) (n c : Nat) (w : World) (h : 1048576 < n) (_hn : n ≤ 9223372036854775807) : Calls Try.prog 6 #[.slice a n c] w (LawPost w) := by
  go_enter Try.func6, Try.ntmps6
  go_wp2
  go_ret
  exact ⟨rfl, Below.refl _ _⟩
set_option maxHeartbeats 2000000 in
theorem FnEdgeTrace_core (v : Value) (bl : List Int) (w : World) (h : BytesR w w.heap.size v bl) (hl : bl.length ≤ 1048576) :
    Calls Try.prog 6 #[v] w (LawPost w) := by
  have HO := Lib.hid (drawEdgeTrace_any v bl w h)
  obtain ⟨A0, c0, rfl, -⟩ := h
  go_enter Try.func6, Try.ntmps6
  go_wp2_with fail
  refine HO.out.mono ?_
  rintro e w1 ⟨f, A, c, l, rfl, hO, h201, hb1⟩
  have HR := Lib.hid (fun (W : World) (hb : Below w1.heap.size w1 W) => OwnB.read (own_below hO hb) (by omega))
  obtain ⟨E, hE⟩ : ∃ E, E = edgesL f l := ⟨_, rfl⟩
  have hE2 : E.length ≤ 200 := by rw [hE]; exact edgesL_le f l
  have HE := Lib.hid hE
  clear HO hO hE
  go_wp2_with fail
  refine (iEdgeTrace_any f _ l _ (HR.out _ (Below.refl _ _))).mono ?_
  rw [← HE.out]
  rintro e w2 ⟨v2, rfl, hO2, hb2⟩
  obtain ⟨A2, c2, rfl, -, -⟩ := own_form hO2
  have HR2 := Lib.hid (fun (W : World) (hb : Below w2.heap.size w2 W) => OwnB.read (own_below hO2 hb) (by omega))
  clear hO2
  go_wp2_with fail
  refine (sEdgeTrace_any f _ l _ (HR.out _ hb2)).mono ?_
  rw [← HE.out]
  rintro e w3 ⟨v3, rfl, hO3, hb3⟩
  have hr3 := OwnB.read hO3 (by omega)
  obtain ⟨A3, c3, rfl, -, -⟩ := own_form hO3
  clear hO3
  go_wp2_with fail
  refine (bools_same _ _ E _ (HR2.out _ hb3) hr3).mono ?_
  rintro e w4 ⟨rfl, hb4⟩
  have hb24 := hb3.trans (hb4.mono hb3.size)
  have hb14 := hb2.trans (hb24.mono hb2.size)
  have hB := hb1.trans (hb14.mono hb1.size)
  clear hb3 hb4 hr3 hb2
  by_cases h2 : 200 < l.length
  · obtain rfl : E = [] := by rw [HE.out]; unfold edgesL; rw [if_pos h2]
    go_wp2_with fail
    refine (alive_any _).mono ?_
    rintro e w5 ⟨rfl, hb5⟩
    go_wp2
    go_ret
    exact ⟨rfl, hB.trans (hb5.mono hB.size)⟩
  · obtain ⟨_, _, ez, rd, -⟩ := HR.out _ hb14
    injection ez with ez1 ez2 ez3
    subst ez1; subst ez3
    clear ez2
    obtain ⟨_, _, ez, rd2, -⟩ := HR2.out _ hb24
    injection ez with ez1 ez2 ez3
    subst ez1; subst ez3
    clear ez2
    have hEl : E.length = l.length := by rw [HE.out, edgesL_len, if_neg h2]
    have HG := Lib.hid (show ∀ (k : Nat) (hk : k < l.length) (hk2 : k < E.length), E[k] = riseB (befAt f l k) l[k] by
      intro k hk hk2
      have e1 : E = edgesTo f l l.length := by rw [HE.out]; unfold edgesL; rw [if_neg h2]
      subst e1
      exact edgesTo_get f l k hk)
    have HL := Lib.hid hEl
    have hq : ((E.length : Int) == (l.length : Int)) = true := by rw [beq_iff_eq]; omega
    clear hEl
    go_wp2_with fail
    go_loop [6, 7, 8, 9] (fun r s b i => ∃ (k : Nat) (x y : Int), k ≤ l.length ∧ i = .int .i64 k ∧ b = .bool (befAt f l k) ∧ r = .int .i64 x ∧ s = .int .i64 y ∧ (0 ≤ x ∧ x ≤ k) ∧ (0 ≤ y ∧ y ≤ k) ∧ x - y = bit (befAt f l k) - bit f) (fun _ _ _ i => l.length - (intOf i).toNat)
    case atStart => exact ⟨0, 0, 0, by omega, rfl, rfl, rfl, rfl, by omega, by omega, by show (0 : Int) = bit f - bit f; omega⟩
    case round =>
      obtain ⟨k, x, y, hk, rfl, rfl, rfl, rfl, hx, hy, hxy⟩ := hrel
      by_cases hlt : k < l.length
      · obtain ⟨p, rfl, hpb, hc⟩ := cell_bool rd hlt
        obtain ⟨p2, rfl, hpb2, hc2⟩ := cell_bool rd2 (k := k) (by have := HL.out; omega)
        rw [HG.out k hlt (by have := HL.out; omega)] at hc2
        have HN := Lib.hid (befAt_succ f l k hlt)
        have i1 : (k : Int) < (l.length : Int) := by omega
        have i2 : (k : Int) < (E.length : Int) := by have := HL.out; omega
        have hprev0 : ∀ m, k = m + 1 → w4.cell? (p2.add m) = some (.bool (riseB (befAt f l m) (befAt f l k))) := by
          rintro m rfl
          obtain ⟨p3, e3, _, hc3⟩ := cell_bool rd2 (k := m) (by have := HL.out; omega)
          injection e3 with e3
          subst e3
          rw [HG.out m (by omega) (by have := HL.out; omega)] at hc3
          rw [befAt_succ f l m (by omega)]
          exact hc3
        have hprev := Lib.hid hprev0
        clear hprev0
        have HXY := Lib.hid hxy
        obtain ⟨t, ht⟩ : ∃ t, t = l[k] := ⟨_, rfl⟩
        rw [← ht] at hc hc2 HN
        clear ht hxy rd rd2
        obtain ⟨b, hb⟩ : ∃ b, b = befAt f l k := ⟨_, rfl⟩
        rw [← hb] at hc2 HXY hprev ⊢
        clear hb
        cases b <;> cases t
        · have e1 : riseB false false = false := rfl
          rw [e1] at hc2
          go_wp2
          go_round
          case rel => exact ⟨k + 1, x, y, by omega, by go_num, by rw [HN.out], rfl, rfl, by omega, by omega, by rw [HN.out]; exact HXY.out⟩
          case measure => simp [intOf]; omega
        · have e1 : riseB false true = true := rfl
          rw [e1] at hc2
          have hrel' : (k : Int) = 0 ∨ 0 < (k : Int) := by omega
          rcases Nat.eq_zero_or_pos k with h0 | h0
          · have i3 : decide ((0 : Int) < (k : Int)) = false := by simp; omega
            have i3n : decide (0 < k) = false := by simp; omega
            have H0 := Lib.hid h0
            clear h0 hrel'
            go_wp2
            go_round
            case rel => exact ⟨k + 1, x + 1, y, by omega, by go_num, by rw [HN.out], by go_num, rfl, by omega, by omega, by rw [HN.out]; have := HXY.out; unfold bit at *; simp at *; omega⟩
            case measure => simp [intOf]; omega
          · obtain ⟨m, hm⟩ : ∃ m, k = m + 1 := ⟨k - 1, by omega⟩
            have g3 := hprev.out m hm
            have e2 : riseB (befAt f l m) false = false := rfl
            rw [e2] at g3
            have i3 : (0 : Int) < (k : Int) := by omega
            have i4 : ((k : Int) - 1).toNat = m := by omega
            have i5 : (k : Int) - 1 = (m : Int) := by omega
            have i6 : (m : Int) < (E.length : Int) := by omega
            have Hm := Lib.hid hm
            clear hm hrel'
            go_wp2
            go_round
            case rel => exact ⟨k + 1, x + 1, y, by omega, by go_num, by rw [HN.out], by go_num, rfl, by omega, by omega, by rw [HN.out]; have := HXY.out; unfold bit at *; simp at *; omega⟩
            case measure => simp [intOf]; omega
        · have e1 : riseB true false = false := rfl
          rw [e1] at hc2
          go_wp2
          go_round
          case rel => exact ⟨k + 1, x, y + 1, by omega, by go_num, by rw [HN.out], rfl, by go_num, by omega, by omega, by rw [HN.out]; have := HXY.out; unfold bit at *; simp at *; omega⟩
          case measure => simp [intOf]; omega
        · have e1 : riseB true true = false := rfl
          rw [e1] at hc2
          go_wp2
          go_round
          case rel => exact ⟨k + 1, x, y, by omega, by go_num, by rw [HN.out], rfl, rfl, by omega, by omega, by rw [HN.out]; exact HXY.out⟩
          case measure => simp [intOf]; omega
      · have hxy2 : x ≤ y + 1 ∧ y ≤ x + 1 := by unfold bit at hxy; revert hxy; cases befAt f l k <;> cases f <;> simp <;> omega
        have j1 := hxy2.1
        have j2 := hxy2.2
        clear hxy hxy2
        go_wp2
        go_ret
        exact ⟨rfl, hB⟩
end Go.Proofs.Ythebkamggkfnlaa
