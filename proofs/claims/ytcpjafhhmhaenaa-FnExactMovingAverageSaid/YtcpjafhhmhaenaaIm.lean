/- The program's stack machine over row sets. The program's stack machine: its execution of expressions. The program's stack machine: a whole run; rows. -/
import Derived.Test.YtcpjafhhmhaenaaP
import Derived.Test.YtcpjafhhmhaenaaNm
import Derived.WalkSmall
import Derived.StillTailTactics
import Derived.Deep.QuietTactic
import Derived.BigQuiet
import Derived.IntWalk
import Derived.Test.YtcpjafhhmhaenaaB
namespace Go.Proofs.Ytcpjafhhmhaenaa
open Go.RowKit
attribute [local go_sem ↓] Go.wp_at_zero Go.wp_at_succ

/-- The sixteen columns and the stack's slice. -/
def mCells (c : Nat → Int) (v : Value) : List Value := ((List.range 16).map fun k => Value.int .u64 (c k)) ++ [v]
theorem mCells_len (c : Nat → Int) (v : Value) : (mCells c v).length = 17 := by simp [mCells]
theorem mCells_col (c : Nat → Int) (v : Value) (k : Nat) (h : k < 16) : (mCells c v)[k]? = some (.int .u64 (c k)) := by
  unfold mCells
  rw [List.getElem?_append_left (by simpa using h)]
  simp [h]
theorem mCells_top (c : Nat → Int) (v : Value) : (mCells c v)[16]? = some v := by
  unfold mCells
  rw [List.getElem?_append_right (by simp)]
  simp
theorem mCells_set (c : Nat → Int) (u v : Value) : (mCells c v).set 16 u = mCells c u := by
  unfold mCells
  rw [List.set_append_right _ _ (by simp)]
  simp
def stkV (st : List Int) : List Value := st.reverse.map (.int .u64)
section
variable {w w' : World} {g base : Nat} {c : Nat → Int} {v : Value} {st : List Int}
end
end Go.Proofs.Ytcpjafhhmhaenaa

namespace Go.Proofs.Ytcpjafhhmhaenaa
open Go.RowKit
attribute [local go_sem ↓] Go.wp_at_zero Go.wp_at_succ

/-- The algebra of the program's own operations. -/
def iAlg (c : Nat → Int) : Alg Int := ⟨fun k => c k.toNat, fun a => bits .xor .u64 18446744073709551615 a, fun b a => bits .and .u64 a b, fun b a => bits .or .u64 a b, fun b a => bits .xor .u64 a b, 18446744073709551615, 0⟩
theorem i_nd {n : Int} {x : Nd} {d : Nat} (h : ndOK n x d = true) : 0 ≤ need x.op ∧ need x.op ≤ (d : Int) := by
  unfold ndOK at h; simp at h; exact ⟨h.1.1, h.2⟩
theorem i_bit {n : Int} {x : Nd} {d : Nat} (h : ndOK n x d = true) (h1 : x.op = 1) : 0 ≤ x.bit ∧ x.bit < n := by
  unfold ndOK bitOK at h; simp [h1] at h; exact h.1.2
theorem i_cases {op : Int} (h : 0 ≤ need op) : op = 1 ∨ op = 2 ∨ op = 3 ∨ op = 4 ∨ op = 5 ∨ op = 6 ∨ op = 7 := by
  unfold need at h
  repeat' split at h
  all_goals omega
theorem i_one {α : Type} {st : List α} (h : 1 ≤ st.length) : ∃ a r, st = a :: r := by
  rcases st with _ | ⟨a, r⟩
  · simp at h
  · exact ⟨a, r, rfl⟩
theorem i_two {α : Type} {st : List α} (h : 2 ≤ st.length) : ∃ a b r, st = a :: b :: r := by
  rcases st with _ | ⟨a, _ | ⟨b, r⟩⟩
  · simp at h
  · simp at h
  · exact ⟨a, b, r, rfl⟩
end Go.Proofs.Ytcpjafhhmhaenaa

namespace Go.Proofs.Ytcpjafhhmhaenaa
open Go.RowKit
attribute [local go_sem ↓] Go.wp_at_zero Go.wp_at_succ

theorem ev_takeI {α : Type} (A : Alg α) (l : List Nd) (k : Nat) (h : k < l.length) : ev A (l.take (k + 1)) [] = evStep A (ev A (l.take k) []) l[k] := by
  rw [take_snocN l k h, ev_snoc]
theorem ev_headI {α : Type} (A : Alg α) {l : List Nd} {n : Int} (h : lvalid l n = true) (k : Nat) (hk : k < l.length) : ndOK n l[k] (ev A (l.take k) []).length = true ∧ (ev A (l.take k) []).length ≤ k := by
  obtain ⟨f, h1, h2⟩ := dep_prefix (lvalid_dep h) k
  have h3 := ev_len A n (l.take k) [] f h1
  rw [h3]
  refine ⟨h2 hk, ?_⟩
  have := depOf_le n (l.take k) 0 f h1
  simp at this; omega
def RunP (B : Nat) (r : Value) (w : World) (e : Ending) (w' : World) : Prop := e = .returned r ∧ Below B w w'
/-- The algebra of the program's operations goes along with the algebra of rows. -/
theorem iAlg_step (c : Nat → Int) (d : Int → Nat) (x : Nd) (st : List Nat) (hc : x.op = 1 → c x.bit.toNat = (d x.bit : Int) ∧ d x.bit < 18446744073709551616) (hs : ∀ v ∈ st, v < 18446744073709551616) :
    evStep (iAlg c) (st.map Int.ofNat) x = (evStep (rowAlg d) st x).map Int.ofNat := by
  have a0 : ∀ a : Nat, a < 18446744073709551616 → bits .xor .u64 18446744073709551615 (Int.ofNat a) = Int.ofNat (18446744073709551615 ^^^ a) := fun a ha => u64_xor_nat 18446744073709551615 a (by omega) ha
  have a1 : ∀ a b : Nat, a < 18446744073709551616 → b < 18446744073709551616 → bits .and .u64 (Int.ofNat a) (Int.ofNat b) = Int.ofNat (b &&& a) := fun a b ha hb => by rw [Nat.and_comm]; exact u64_and_nat a b ha hb
  have a2 : ∀ a b : Nat, a < 18446744073709551616 → b < 18446744073709551616 → bits .or .u64 (Int.ofNat a) (Int.ofNat b) = Int.ofNat (b ||| a) := fun a b ha hb => by rw [Nat.or_comm]; exact u64_or_nat a b ha hb
  have a3 : ∀ a b : Nat, a < 18446744073709551616 → b < 18446744073709551616 → bits .xor .u64 (Int.ofNat a) (Int.ofNat b) = Int.ofNat (b ^^^ a) := fun a b ha hb => by rw [Nat.xor_comm]; exact u64_xor_nat a b ha hb
  unfold evStep
  by_cases h1 : x.op = 1
  · simp only [h1, if_true, List.map_cons]
    congr 1
    exact (hc h1).1
  · simp only [h1, if_false]
    rcases st with _ | ⟨a, _ | ⟨b, r⟩⟩
    · simp only [List.map_nil]
      repeat' split
      all_goals rfl
    · have ha := hs a (by simp)
      simp only [List.map_cons, List.map_nil]
      repeat' split
      all_goals first | rfl | (show _ :: _ = Int.ofNat _ :: _; rw [show (iAlg c).no (Int.ofNat a) = _ from a0 a ha]; rfl)
    · have ha := hs a (by simp)
      have hb := hs b (by simp)
      simp only [List.map_cons]
      split
      · rw [show (iAlg c).no (Int.ofNat a) = _ from a0 a ha]; rfl
      split
      · rw [show (iAlg c).an (Int.ofNat b) (Int.ofNat a) = _ from a1 a b ha hb]; rfl
      split
      · rw [show (iAlg c).or_ (Int.ofNat b) (Int.ofNat a) = _ from a2 a b ha hb]; rfl
      split
      · rw [show (iAlg c).xo (Int.ofNat b) (Int.ofNat a) = _ from a3 a b ha hb]; rfl
      split <;> rfl
theorem iAlg_ev (c : Nat → Int) (d : Int → Nat) (l : List Nd) (st : List Nat) (hc : ∀ x ∈ l, x.op = 1 → c x.bit.toNat = (d x.bit : Int) ∧ d x.bit < 18446744073709551616) (hs : ∀ v ∈ st, v < 18446744073709551616) :
    ev (iAlg c) l (st.map Int.ofNat) = (ev (rowAlg d) l st).map Int.ofNat := by
  induction l generalizing st with
  | nil => rfl
  | cons x l ih =>
    show ev (iAlg c) l (evStep (iAlg c) (st.map Int.ofNat) x) = (ev (rowAlg d) l (evStep (rowAlg d) st x)).map Int.ofNat
    rw [iAlg_step c d x st (hc x (by simp)) hs]
    exact ih _ (fun y hy => hc y (by simp [hy])) (evStep_lt d x st (fun h => (hc x (by simp) h).2) hs)
theorem iAlg_val (c : Nat → Int) (d : Int → Nat) (l : List Nd) (hc : ∀ x ∈ l, x.op = 1 → c x.bit.toNat = (d x.bit : Int) ∧ d x.bit < 18446744073709551616) : val (iAlg c) l = ((val (rowAlg d) l : Nat) : Int) := by
  have h := iAlg_ev c d l [] hc (by simp)
  unfold val
  rw [show ev (iAlg c) l [] = _ from h]
  cases ev (rowAlg d) l [] <;> rfl
end Go.Proofs.Ytcpjafhhmhaenaa
