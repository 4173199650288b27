/- Contracts of the small functions of chapter 1: each returns what its plain function gives, and writes nothing that was there. -/
import Derived.Test.YtldlfailmmmdmaaRows
import Derived.Test.YtldlfailmmmdmaaMem
import Derived.WalkLawsBesides
namespace Go.Proofs.Ytldlfailmmmdmaa
open Go.RowKit

def inB (n lo hi : Int) : Bool := decide (lo ≤ n) && decide (n ≤ hi)
set_option maxHeartbeats 400000 in
theorem l1In_any (n lo hi : Int) (w : World) :
    Calls Try.prog 38 #[.int .i64 n, .int .i64 lo, .int .i64 hi] w fun e w' => e = .returned (.bool (inB n lo hi)) ∧ w = w' := by
  unfold inB
  by_cases h : lo ≤ n
  all_goals
    go_enter Try.func38, Try.ntmps38
    go_wp2
    go_ret
    exact ⟨ret_bool (by simp [h] <;> omega), rfl⟩
def wordsOK (l : List Int) : Bool := l.all fun x => inB x (-32768) 32767
theorem all_take_snoc {α : Type} (p : α → Bool) (l : List α) (k : Nat) (h : k < l.length) : (l.take (k + 1)).all p = ((l.take k).all p && p l[k]) := by
  rw [List.take_succ_eq_append_getElem h, List.all_append]; simp
theorem all_false_of {α : Type} (p : α → Bool) (l : List α) (k : Nat) (h : k < l.length) (hp : p l[k] = false) : l.all p = false := by
  rw [List.all_eq_false]; exact ⟨l[k], List.getElem_mem h, by simp [hp]⟩
def imgOK (m : Img) : Bool := decide (m.bits.length ≤ 16) && (decide (m.words.length ≤ 8) && wordsOK m.words)
end Go.Proofs.Ytldlfailmmmdmaa
