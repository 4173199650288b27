/- The program's stack machine: a whole run; rows. -/
import Derived.Test.YtldlfailmmmdmaaIn
import Derived.Test.YtldlfailmmmdmaaB
namespace Go.Proofs.Ytldlfailmmmdmaa
open Go.RowKit
attribute [local go_sem ↓] Go.wp_at_zero Go.wp_at_succ

theorem ev_takeI {α : Type} (A : Alg α) (l : List Nd) (k : Nat) (h : k < l.length) : ev A (l.take (k + 1)) [] = evStep A (ev A (l.take k) []) l[k] := by
  rw [take_snocN l k h, ev_snoc]
theorem ev_headI {α : Type} (A : Alg α) {l : List Nd} {n : Int} (h : lvalid l n = true) (k : Nat) (hk : k < l.length) : ndOK n l[k] (ev A (l.take k) []).length = true ∧ (ev A (l.take k) []).length ≤ k := by
  obtain ⟨f, h1, h2⟩ := dep_prefix (lvalid_dep h) k
  have h3 := ev_len A n (l.take k) [] f h1
  rw [h3]
  refine ⟨h2 hk, ?_⟩
  have := depOf_le n (l.take k) 0 f h1
  simp at this; omega
def RunP (B : Nat) (r : Value) (w : World) (e : Ending) (w' : World) : Prop := e = .returned r ∧ Below B w w'
/-- The algebra of the program's operations goes along with the algebra of rows. -/
theorem iAlg_step (c : Nat → Int) (d : Int → Nat) (x : Nd) (st : List Nat) (hc : x.op = 1 → c x.bit.toNat = (d x.bit : Int) ∧ d x.bit < 18446744073709551616) (hs : ∀ v ∈ st, v < 18446744073709551616) :
    evStep (iAlg c) (st.map Int.ofNat) x = (evStep (rowAlg d) st x).map Int.ofNat := by
  have a0 : ∀ a : Nat, a < 18446744073709551616 → bits .xor .u64 18446744073709551615 (Int.ofNat a) = Int.ofNat (18446744073709551615 ^^^ a) := fun a ha => u64_xor_nat 18446744073709551615 a (by omega) ha
  have a1 : ∀ a b : Nat, a < 18446744073709551616 → b < 18446744073709551616 → bits .and .u64 (Int.ofNat a) (Int.ofNat b) = Int.ofNat (b &&& a) := fun a b ha hb => by rw [Nat.and_comm]; exact u64_and_nat a b ha hb
  have a2 : ∀ a b : Nat, a < 18446744073709551616 → b < 18446744073709551616 → bits .or .u64 (Int.ofNat a) (Int.ofNat b) = Int.ofNat (b ||| a) := fun a b ha hb => by rw [Nat.or_comm]; exact u64_or_nat a b ha hb
  have a3 : ∀ a b : Nat, a < 18446744073709551616 → b < 18446744073709551616 → bits .xor .u64 (Int.ofNat a) (Int.ofNat b) = Int.ofNat (b ^^^ a) := fun a b ha hb => by rw [Nat.xor_comm]; exact u64_xor_nat a b ha hb
  unfold evStep
  by_cases h1 : x.op = 1
  · simp only [h1, if_true, List.map_cons]
    congr 1
    exact (hc h1).1
  · simp only [h1, if_false]
    rcases st with _ | ⟨a, _ | ⟨b, r⟩⟩
    · simp only [List.map_nil]
      repeat' split
      all_goals rfl
    · have ha := hs a (by simp)
      simp only [List.map_cons, List.map_nil]
      repeat' split
      all_goals first | rfl | (show _ :: _ = Int.ofNat _ :: _; rw [show (iAlg c).no (Int.ofNat a) = _ from a0 a ha]; rfl)
    · have ha := hs a (by simp)
      have hb := hs b (by simp)
      simp only [List.map_cons]
      split
      · rw [show (iAlg c).no (Int.ofNat a) = _ from a0 a ha]; rfl
      split
      · rw [show (iAlg c).an (Int.ofNat b) (Int.ofNat a) = _ from a1 a b ha hb]; rfl
      split
      · rw [show (iAlg c).or_ (Int.ofNat b) (Int.ofNat a) = _ from a2 a b ha hb]; rfl
      split
      · rw [show (iAlg c).xo (Int.ofNat b) (Int.ofNat a) = _ from a3 a b ha hb]; rfl
      split <;> rfl
theorem iAlg_ev (c : Nat → Int) (d : Int → Nat) (l : List Nd) (st : List Nat) (hc : ∀ x ∈ l, x.op = 1 → c x.bit.toNat = (d x.bit : Int) ∧ d x.bit < 18446744073709551616) (hs : ∀ v ∈ st, v < 18446744073709551616) :
    ev (iAlg c) l (st.map Int.ofNat) = (ev (rowAlg d) l st).map Int.ofNat := by
  induction l generalizing st with
  | nil => rfl
  | cons x l ih =>
    show ev (iAlg c) l (evStep (iAlg c) (st.map Int.ofNat) x) = (ev (rowAlg d) l (evStep (rowAlg d) st x)).map Int.ofNat
    rw [iAlg_step c d x st (hc x (by simp)) hs]
    exact ih _ (fun y hy => hc y (by simp [hy])) (evStep_lt d x st (fun h => (hc x (by simp) h).2) hs)
theorem iAlg_val (c : Nat → Int) (d : Int → Nat) (l : List Nd) (hc : ∀ x ∈ l, x.op = 1 → c x.bit.toNat = (d x.bit : Int) ∧ d x.bit < 18446744073709551616) : val (iAlg c) l = ((val (rowAlg d) l : Nat) : Int) := by
  have h := iAlg_ev c d l [] hc (by simp)
  unfold val
  rw [show ev (iAlg c) l [] = _ from h]
  cases ev (rowAlg d) l [] <;> rfl
end Go.Proofs.Ytldlfailmmmdmaa
