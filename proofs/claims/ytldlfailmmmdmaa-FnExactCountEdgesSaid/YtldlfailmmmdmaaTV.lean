/- Timers of the specification: new timers, steps, traces. -/
import Derived.Test.YtldlfailmmmdmaaTS
import Derived.StillTailTactics
namespace Go.Proofs.Ytldlfailmmmdmaa
open Go.RowKit
attribute [local go_sem ↓] Go.wp_at_zero Go.wp_at_succ

def tnew (k p : Int) : Tm := if tvalid ⟨k, p, 0, false, false⟩ then ⟨k, p, if k = 1 then 0 else p, false, false⟩ else tzero
def tstepF (t : Tm) (x : Bool) (dt : Int) : Tm := if tvalid t && inB dt 0 1000 then tstep t x dt else tzero
theorem tstep_kp (t : Tm) (x : Bool) (dt : Int) : (tstep t x dt).kind = t.kind ∧ (tstep t x dt).pre = t.pre ∧ (tstep t x dt).bef = x := by
  unfold tstep; repeat' split
  all_goals exact ⟨rfl, rfl, rfl⟩
theorem tstep_el (t : Tm) (x : Bool) (dt : Int) (hp : 0 ≤ t.pre) (hl : 0 ≤ t.el ∧ t.el ≤ t.pre) (hd : 0 ≤ dt) : (0 ≤ (tstep t x dt).el ∧ (tstep t x dt).el ≤ t.pre) ∧ ((tstep t x dt).el = 0 ∨ (tstep t x dt).el ≤ t.el + dt) := by
  unfold tstep tmore; repeat' split
  all_goals simp only; omega
theorem tvalid_make {t : Tm} (h1 : 1 ≤ t.kind ∧ t.kind ≤ 3) (h2 : 0 ≤ t.pre ∧ t.pre ≤ 10000) (h3 : 0 ≤ t.el ∧ t.el ≤ t.pre) : tvalid t = true := by
  unfold tvalid inB; simp; omega
theorem tstep_valid {t : Tm} (x : Bool) {dt : Int} (h : tvalid t = true) (hd : 0 ≤ dt) : tvalid (tstep t x dt) = true := by
  obtain ⟨h1, h2, h3⟩ := tvalid_parts h
  obtain ⟨k1, k2, -⟩ := tstep_kp t x dt
  have h4 := (tstep_el t x dt h2.1 h3 hd).1
  exact tvalid_make (by rw [k1]; exact h1) (by rw [k2]; exact h2) (by rw [k2]; exact h4)
def tAt (t : Tm) (l : List Bool) (dt : Int) : Nat → Tm
  | 0 => t
  | k + 1 => tstep (tAt t l dt k) (l.getD k false) dt
theorem tAt_valid {t : Tm} (l : List Bool) {dt : Int} (h : tvalid t = true) (hd : 0 ≤ dt) (k : Nat) : tvalid (tAt t l dt k) = true := by
  induction k with
  | zero => exact h
  | succ k ih => exact tstep_valid _ ih hd
theorem tAt_succ (t : Tm) (l : List Bool) (dt : Int) (k : Nat) (hk : k < l.length) : tAt t l dt (k + 1) = tstep (tAt t l dt k) l[k] dt := by
  show tstep _ (l.getD k false) dt = _; simp [List.getD, List.getElem?_eq_getElem hk]
def traceTo (t : Tm) (l : List Bool) (dt : Int) (k : Nat) : List Bool := (List.range k).map fun i => (tAt t l dt (i + 1)).out
theorem traceTo_len (t : Tm) (l : List Bool) (dt : Int) (k : Nat) : (traceTo t l dt k).length = k := by simp [traceTo]
theorem traceTo_succ (t : Tm) (l : List Bool) (dt : Int) (k : Nat) : traceTo t l dt (k + 1) = traceTo t l dt k ++ [(tAt t l dt (k + 1)).out] := by
  unfold traceTo; rw [List.range_succ, List.map_append]; rfl
def traceOK (t : Tm) (l : List Bool) (dt : Int) : Bool := tvalid t && (inB dt 0 1000 && decide (l.length ≤ 200))
def traceL (t : Tm) (l : List Bool) (dt : Int) : List Bool := if traceOK t l dt then traceTo t l dt l.length else []
theorem traceL_len (t : Tm) (l : List Bool) (dt : Int) : (traceL t l dt).length ≤ 200 := by
  unfold traceL; split
  · rename_i h; unfold traceOK at h; simp at h; rw [traceTo_len]; exact h.2.2
  · simp
end Go.Proofs.Ytldlfailmmmdmaa
