/- The specification's evaluation over an image, negation, used bits. -/
import Derived.Test.YtoagnajljdbobaaSe
import Derived.Test.YtoagnajljdbobaaIu
import Derived.Test.YtoagnajljdbobaaE
namespace Go.Proofs.Ytoagnajljdbobaa
open Go.RowKit
attribute [local go_sem ↓] Go.wp_at_zero Go.wp_at_succ

set_option maxHeartbeats 1000000 in
theorem sUsedBits_any (v : Value) (l : List Nd) (w : World) (h : NodesR w w.heap.size v l) :
    Calls Try.prog 135 #[v] w (OwnIP (usedL l) w) := by
  obtain ⟨A, c, rfl, hr, hl, hf⟩ := h
  go_enter Try.func135, Try.ntmps135
  go_wp2
  go_loopw [3, 4] (fun v i wr => ∃ n : Nat, n ≤ 16 ∧ i = .int .i64 n ∧ OwnI wr w.heap.size v (numsTo (usedS l) n) ∧ Below w.heap.size w wr) (fun _ i _ => 16 - (intOf i).toNat)
  case atStart => exact ⟨0, by omega, rfl, own_lit0 rfl (by omega), (Below.refl _ _).alloc (Nat.le_refl _) _⟩
  case round =>
    obtain ⟨n, hn, rfl, hown, hbr⟩ := hrel
    have hsz := hbr.size
    by_cases hlt : n < 16
    · have hnl := numsTo_length (usedS l) n
      obtain ⟨SA, sc, rfl, -, -⟩ := own_form hown
      obtain ⟨q, hq⟩ : ∃ q, q = (numsTo (usedS l) n).length := ⟨_, rfl⟩
      have hown' : wr.ownsRow w.heap.size 3 1 (.slice SA q sc) q ((numsTo (usedS l) n).map (.int .i64)) := by rw [hq]; exact hown
      rw [← hq] at hnl ⊢
      have HO := Lib.hid hown
      have HQ := Lib.hid hq
      have hS := Lib.hid (numsTo_succ (usedS l) n)
      have hB := Lib.hid (usedS_bit l n hlt)
      clear hown hq
      obtain ⟨wo, rfl⟩ : ∃ wo : World, wo = wr := ⟨_, rfl⟩
      go_wp2
      go_loopw [3, 5] (fun v i wx => ∃ k : Nat, k ≤ l.length ∧ i = .int .i64 k ∧ v = .slice SA q sc ∧ (l.take k).any (isBit n) = false ∧ wx = wo) (fun _ i _ => l.length - (intOf i).toNat)
      case atStart => exact ⟨0, by omega, rfl, rfl, rfl, rfl⟩
      case round =>
        obtain ⟨k, hk, rfl, rfl, hany, rfl⟩ := hrel
        have HA := Lib.hid hany
        clear hany
        by_cases hkl : k < l.length
        · obtain ⟨p, rfl, hpb, hc1, hc2⟩ := hr.two hkl
          have hAny := take_snocN l k hkl
          obtain ⟨x, hx⟩ : ∃ x, x = l[k] := ⟨_, rfl⟩
          rw [← hx] at hc1 hc2 hAny
          have Hx := Lib.hid hx
          have HT := Lib.hid hAny
          clear hx hAny
          obtain ⟨op, bit⟩ := x
          have g1 := (hbr.cell (p := p.add (k * 2)) (by rw [add_block]; exact hpb)).trans hc1
          have g2 := (hbr.cell (p := ⟨(p.add (k * 2)).block, (p.add (k * 2)).off + 1, none⟩) (by show (p.add (k * 2)).block < _; rw [add_block]; exact hpb)).trans hc2
          clear hc1 hc2 hr hf
          by_cases h1 : op = 1
          · subst h1
            by_cases h2 : bit = n
            · subst h2
              have hhit : l.any (isBit n) = true := by
                rw [List.any_eq_true]
                exact ⟨l[k], List.getElem_mem hkl, by rw [← Hx.out]; unfold isBit; simp⟩
              have HH := Lib.hid hhit
              clear hhit
              go_wp2_with (at_builtin; refine wpl_append rfl _ _ 24 rfl elI rfl (hown'.alloc _) rfl (Rd.new1 _ _ _) ?_ ?_ ?_ ?_ ?_)
              · first | rfl | (intro u hu; simp at hu; subst hu; rfl)
              · omega
              · omega
              · first | omega | (simp; omega)
              intro v' w1 hown1 hg1 _
              have R : OwnI w1 w.heap.size v' (numsTo (usedS l) (n + 1)) := by
                unfold OwnI; rw [hS.out, hB.out, HH.out]
                have h := hown1
                rw [HQ.out] at h
                simpa using h
              have hb1 : Below w.heap.size w w1 := (hbr.alloc hsz _).grown hg1 (by simp; omega) (fun j hj => (hown'.lt j hj).1)
              clear hown1 hg1 hown' hbr
              go_wp2
              go_roundw
              case rel => exact ⟨n + 1, by omega, by go_num, R, hb1⟩
              case measure => simp [intOf]; omega
            · have e2 : (bit == (n : Int)) = false := by simpa using h2
              have hA2 : (l.take (k + 1)).any (isBit n) = false := by
                rw [HT.out, List.any_append, HA.out]; unfold isBit; simp [h2]
              have HA2 := Lib.hid hA2
              clear hA2 h2
              go_wp2
              go_roundw
              case rel => exact ⟨k + 1, by omega, by go_num, rfl, HA2.out, by first | rfl | trivial⟩
              case measure => simp [intOf]; omega
          · have e1 : (op == 1) = false := by simpa using h1
            have hA2 : (l.take (k + 1)).any (isBit n) = false := by
              rw [HT.out, List.any_append, HA.out]; unfold isBit; simp [h1]
            have HA2 := Lib.hid hA2
            clear hA2 h1
            go_wp2
            go_roundw
            case rel => exact ⟨k + 1, by omega, by go_num, rfl, HA2.out, by first | rfl | trivial⟩
            case measure => simp [intOf]; omega
        · have hA3 : l.any (isBit n) = false := by
            have := HA.out
            rwa [List.take_of_length_le (by omega)] at this
          have R : ∀ W, OwnI W w.heap.size (.slice SA (numsTo (usedS l) n).length sc) (numsTo (usedS l) n) → OwnI W w.heap.size (.slice SA q sc) (numsTo (usedS l) (n + 1)) := fun W h => by
            rw [hS.out, hB.out, hA3, HQ.out]
            simpa using h
          have HR := Lib.hid (R _ HO.out)
          clear R hA3 hown'
          go_wp2
          go_roundw
          case rel => exact ⟨n + 1, by omega, by go_num, HR.out, hbr⟩
          case measure => simp [intOf]; omega
    · go_wp2
      go_ret
      obtain rfl : n = 16 := by omega
      exact ⟨_, rfl, hown, hbr⟩
end Go.Proofs.Ytoagnajljdbobaa
