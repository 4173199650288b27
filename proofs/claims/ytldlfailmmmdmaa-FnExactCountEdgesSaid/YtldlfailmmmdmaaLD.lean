/- Contracts of the draws of chapter 4. -/
import Derived.Test.YtldlfailmmmdmaaP
namespace Go.Proofs.Ytldlfailmmmdmaa
open Go.RowKit
attribute [local go_sem ↓] Go.wp_at_zero Go.wp_at_succ

theorem BytesR.formD {w : World} {B : Nat} {v : Value} {l : List Int} (h : BytesR w B v l) : ∃ A n c, v = .slice A n c := by
  obtain ⟨A, c, rfl, -⟩ := h; exact ⟨A, _, c, rfl⟩
def DrawBB (w : World) (e : Ending) (w' : World) : Prop := ∃ a b : Bool, e = .returned (.tuple #[.bool a, .bool b]) ∧ Below w.heap.size w w'
def DrawB3 (w : World) (e : Ending) (w' : World) : Prop := ∃ a b c : Bool, e = .returned (.tuple #[.bool a, .bool b, .bool c]) ∧ Below w.heap.size w w'
def SigPost (g P : Nat) (w : World) (e : Ending) (w' : World) : Prop := ∃ v l, e = .returned v ∧ OwnB w' w.heap.size v l ∧ l.length ≤ 201 ∧ Rdr w' g (P + 405) ∧ Fr w.heap.size g w w'
theorem signal_any (g P : Nat) (w : World) (hw : Rdr w g P) (hP : P + 1000 ≤ 1000000) :
    Calls Try.prog 45 #[.pointer (some ⟨g, 0, none⟩), .int .i64 200] w (SigPost g P w) := by
  go_enter Try.func45, Try.ntmps45
  go_wp2_with fail
  refine (pick_any g P 30 _ hw (by omega) (by omega)).mono ?_
  rintro e w1 ⟨r1, rfl, hr1, hR1, hF1⟩
  clear hw
  go_wp2_with fail
  refine (odd_any g (P + 1) 20 _ hR1 (by omega) (by omega) (by omega)).mono ?_
  rintro e w2 ⟨b, rfl, hb, hR2, hF2⟩
  replace hF2 := hF1.trans (hF2.mono hF1.size)
  clear hR1 hF1 hb
  cases b
  · go_wp2_with fail
    refine (flags_any g (P + 1 + 1) r1 _ hR2 (by omega) (by omega) (by omega)).mono ?_
    rintro e w3 ⟨v, l, rfl, hO, hl, hR3, hF3⟩
    have HL := Lib.hid hl
    have hO' := mono_own hO hF2.size
    replace hF3 := hF2.trans (hF3.mono hF2.size)
    obtain ⟨A, c, rfl, -, -⟩ := own_form hO
    clear hl hO hF2 hR2
    go_wp2
    go_ret
    exact ⟨_, l, rfl, hO', by have := HL.out; omega, hR3.mono (by omega), hF3⟩
  · go_wp2_with fail
    refine (flags_any g (P + 1 + 1) 201 _ hR2 (by omega) (by omega) (by omega)).mono ?_
    rintro e w3 ⟨v, l, rfl, hO, hl, hR3, hF3⟩
    have HL := Lib.hid hl
    have hO' := mono_own hO hF2.size
    replace hF3 := hF2.trans (hF3.mono hF2.size)
    obtain ⟨A, c, rfl, -, -⟩ := own_form hO
    clear hl hO hF2 hR2
    go_wp2
    go_ret
    exact ⟨_, l, rfl, hO', by have := HL.out; omega, hR3.mono (by omega), hF3⟩
def DrawBS (w : World) (e : Ending) (w' : World) : Prop := ∃ a A c l, e = .returned (.tuple #[.bool a, .slice A l.length c]) ∧ OwnB w' w.heap.size (.slice A l.length c) l ∧ l.length ≤ 201 ∧ Below w.heap.size w w'
end Go.Proofs.Ytldlfailmmmdmaa
