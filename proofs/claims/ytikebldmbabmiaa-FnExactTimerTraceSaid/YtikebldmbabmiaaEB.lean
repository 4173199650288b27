/- Contracts of the exact laws' helpers: marks in lists. -/
import Derived.Test.YtikebldmbabmiaaEA
namespace Go.Proofs.Ytikebldmbabmiaa
open Go.RowKit
attribute [local go_sem ↓] Go.wp_at_zero Go.wp_at_succ

def markB (n k : Nat) : List Bool := (List.range n).map fun i => (((k + i : Nat) : Int) % 3 == 0)
def markI (n k : Nat) : List Int := (List.range n).map fun i => ((k + i : Nat) : Int)
theorem markB_len (n k : Nat) : (markB n k).length = n := by simp [markB]
theorem markI_len (n k : Nat) : (markI n k).length = n := by simp [markI]
theorem gb_trans {a b c : World} {r : Option Nat} (h : a.grownBy b r) (k : b.grownBy c r) : a.grownBy c r :=
  ⟨k.os.trans h.os, k.tape.trans h.tape, k.output.trans h.output, Nat.le_trans h.size k.size, fun i hi hn => (k.block i (Nat.lt_of_lt_of_le hi h.size) hn).trans (h.block i hi hn)⟩
theorem out_of_gb {lo hi : Nat} {a b : World} {r : Option Nat} (h : a.grownBy b r) (hr : ∀ k, r = some k → lo ≤ k ∧ k < hi) : Out lo hi a b :=
  ⟨h.os, h.tape, h.output, h.size, fun k hk ho => h.block k hk (fun e => by have := hr k e.symm; omega)⟩
theorem mark_step {α : Type} (f : Nat → α) (l : List α) (i : Nat) (h : i < l.length) : (((List.range i).map f) ++ l.drop i).set i (f i) = ((List.range (i + 1)).map f) ++ l.drop (i + 1) := by
  rw [List.set_append, if_neg (by simp)]
  have e : i - ((List.range i).map f).length = 0 := by simp
  rw [e, List.drop_eq_getElem_cons h, List.set_cons_zero, List.range_succ, List.map_append, List.append_assoc]
  rfl

set_option maxHeartbeats 400000 in
theorem markBoolS_any (v : Value) (l : List Bool) (k lo hi : Nat) (w : World) (h : OwnX w lo hi 4 1 v l.length (l.map (Value.bool))) (hk : k ≤ 1000000000000) (hl : l.length ≤ 17592186044416) :
    Calls Try.prog 32 #[v, .int .i64 k] w fun e w' => e = .returned (.int .i64 ((k + l.length : Nat) : Int)) ∧ OwnX w' lo hi 4 1 v l.length ((markB l.length k).map (Value.bool)) ∧ Out lo hi w w' ∧ w.grownBy w' v.ownBlock := by
  obtain ⟨A, c, rfl, _, _⟩ := own_form h.1
  have hi0 := h.2
  go_enter Try.func32, Try.ntmps32
  go_wp2
  go_loopw [1, 5] (fun t i wr => ∃ j : Nat, j ≤ l.length ∧ i = .int .i64 j ∧ t = .int .i64 ((k + j : Nat) : Int) ∧ wr.ownsRow lo 4 1 (.slice A l.length c) l.length (((List.range j).map (fun i => Value.bool (((k + i : Nat) : Int) % 3 == 0)) ++ (l.map (Value.bool)).drop j)) ∧ w.grownBy wr (Value.slice A l.length c).ownBlock) (fun _ i _ => l.length - (intOf i).toNat)
  case atStart => exact ⟨0, by omega, rfl, rfl, by simpa using h.1, World.grownBy.refl _ _⟩
  case round =>
    obtain ⟨j, hj, rfl, rfl, hown, ho⟩ := hrel
    by_cases hlt : j < l.length
    · obtain ⟨g, rfl, hg1, hg2⟩ := own_addr hown (by omega)
      have hgh := hi0 g rfl
      have hc := hown.cellAt j (by omega)
      have hz := hown.frozenAt j
      have hst := hown.stored j (Value.bool ((fun i => ((k + i : Nat) : Int) % 3 == 0) j))
      rw [mark_step (fun i => Value.bool (((k + i : Nat) : Int) % 3 == 0)) _ j (by simpa using hlt)] at hst
      obtain ⟨y, hy⟩ : ∃ y, ((List.range j).map (fun i => Value.bool (((k + i : Nat) : Int) % 3 == 0)) ++ (l.map (Value.bool)).drop j)[j]? = some y := ⟨_, List.getElem?_eq_getElem (by simp; omega)⟩
      rw [hy] at hc
      have H := Lib.hid hst
      have HO := Lib.hid ho
      have i1 : (j : Int) < (l.length : Int) := by omega
      clear hst hy hown h ho hi0
      go_wp2
      go_roundw
      case rel => exact ⟨j + 1, by omega, by go_num, by go_num, H.out.1, gb_trans HO.out H.out.2⟩
      case measure => simp [intOf]; omega
    · go_wp2
      go_ret
      obtain rfl : j = l.length := by omega
      refine ⟨by go_num, ⟨?_, hi0⟩, out_of_gb ho (fun k hk => ⟨(hown.lt k hk).1, hi0 k hk⟩), ho⟩
      have e : (List.map (Value.bool) l).drop l.length = [] := by rw [List.drop_eq_nil_of_le (by simp)]
      rw [e, List.append_nil] at hown
      unfold markB
      rw [List.map_map]
      exact hown

end Go.Proofs.Ytikebldmbabmiaa
