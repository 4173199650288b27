/- The program's stack machine: its execution of expressions. -/
import Derived.Test.YthebkamggkfnlaaIm
import Derived.Deep.QuietTactic
import Derived.BigQuiet
import Derived.IntWalk
namespace Go.Proofs.Ythebkamggkfnlaa
open Go.RowKit
attribute [local go_sem ↓] Go.wp_at_zero Go.wp_at_succ

/-- The algebra of the program's own operations. -/
def iAlg (c : Nat → Int) : Alg Int := ⟨fun k => c k.toNat, fun a => bits .xor .u64 18446744073709551615 a, fun b a => bits .and .u64 a b, fun b a => bits .or .u64 a b, fun b a => bits .xor .u64 a b, 18446744073709551615, 0⟩
theorem i_nd {n : Int} {x : Nd} {d : Nat} (h : ndOK n x d = true) : 0 ≤ need x.op ∧ need x.op ≤ (d : Int) := by
  unfold ndOK at h; simp at h; exact ⟨h.1.1, h.2⟩
theorem i_bit {n : Int} {x : Nd} {d : Nat} (h : ndOK n x d = true) (h1 : x.op = 1) : 0 ≤ x.bit ∧ x.bit < n := by
  unfold ndOK bitOK at h; simp [h1] at h; exact h.1.2
theorem i_cases {op : Int} (h : 0 ≤ need op) : op = 1 ∨ op = 2 ∨ op = 3 ∨ op = 4 ∨ op = 5 ∨ op = 6 ∨ op = 7 := by
  unfold need at h
  repeat' split at h
  all_goals omega
theorem i_one {α : Type} {st : List α} (h : 1 ≤ st.length) : ∃ a r, st = a :: r := by
  rcases st with _ | ⟨a, r⟩
  · simp at h
  · exact ⟨a, r, rfl⟩
theorem i_two {α : Type} {st : List α} (h : 2 ≤ st.length) : ∃ a b r, st = a :: b :: r := by
  rcases st with _ | ⟨a, _ | ⟨b, r⟩⟩
  · simp at h
  · simp at h
  · exact ⟨a, b, r, rfl⟩
set_option maxRecDepth 100000 in
set_option maxHeartbeats 2000000 in
theorem execute_any (g base B : Nat) (c : Nat → Int) (st : List Int) (op bit : Int) (n : Nat) (w : World) (h : Mach w g base c st) (hO : ndOK n ⟨op, bit⟩ st.length = true) (hn : n ≤ 16) (hB : B ≤ base) (hb : base ≤ w.heap.size) (hl : st.length ≤ 900) :
    Calls Try.prog 67 #[.pointer (some ⟨g, 0, none⟩), .agg #[.int .i64 op, .int .i64 bit]] w (MPost g base c (evStep (iAlg c) st ⟨op, bit⟩) B (.tuple #[]) w) := by
  have hN := i_nd hO
  have hBt := i_bit hO
  have h1 : ∀ o, Mach (w.alloc o) g base c st := fun o => h.alloc o
  have F1 : ∀ o, Fr B g w (w.alloc o) := fun o => (Fr.refl B g w).alloc (by omega) o
  have hgl := h.glt
  clear hO
  rcases i_cases hN.1 with rfl | rfl | rfl | rfl | rfl | rfl | rfl
  · obtain ⟨b0, b1⟩ := hBt rfl
    obtain ⟨j, rfl⟩ := Int.eq_ofNat_of_zero_le b0
    have hj : j < 16 := by simp at b1; omega
    have hc : w.cell? ⟨g, j, none⟩ = some (.int .u64 (c j)) := by obtain ⟨v, hv⟩ := h; exact hv.col j hj
    have i1 : (j : Int) < 16 := by omega
    have e1 : (w.alloc (.cells #[.int .i64 1, .int .i64 (j : Int)] 43)).cell? ⟨w.heap.size, 1, none⟩ = some (.int .i64 (j : Int)) := by rw [cell_of_row _ _ 1 _ _ _ (heap_alloc_new w _)]; rfl
    have e2 : (w.alloc (.cells #[.int .i64 1, .int .i64 (j : Int)] 43)).cell? ⟨g, j, none⟩ = some (.int .u64 (c j)) := by rw [World.cell?_alloc_lt w _ _ (by exact hgl)]; exact hc
    have HM := h1 (.cells #[.int .i64 1, .int .i64 (j : Int)] 43)
    have HF := F1 (.cells #[.int .i64 1, .int .i64 (j : Int)] 43)
    clear h1 F1 b1 b0 hN hBt h hc
    go_enter Try.func67, Try.ntmps67
    go_wp2_with fail
    generalize w.alloc (.cells #[.int .i64 1, .int .i64 (j : Int)] 43) = W at e1 e2 HM HF ⊢
    have hsW := HF.size
    go_still_tail 8, (by kernel_rfl)
    go_wp2_with fail
    refine (push_any g base B c st (c j) _ HM.drew hB (by show base ≤ W.heap.size; omega) (by omega)).mono ?_
    rintro e w2 ⟨rfl, hM2, hF2⟩
    go_wp2
    go_end0
    exact ⟨rfl, hM2, HF.drew.trans hF2⟩
  · obtain ⟨a, r, rfl⟩ := i_one (show 1 ≤ st.length by have := hN.2; unfold need at this; simp at this; omega)
    have HM := Lib.hid h1
    have HF := Lib.hid F1
    clear h1 F1 hN hBt h
    simp at hl
    go_enter Try.func67, Try.ntmps67
    go_wp2_with fail
    refine (pop_any g base B c r a _ (HM.out _) (by omega)).mono ?_
    rintro e w1 ⟨rfl, hM1, hF1⟩
    replace hF1 := (HF.out _).trans hF1
    have hs1 := hF1.size
    go_wp2_with fail
    refine (push_any g base B c r _ _ hM1 hB (by omega) (by omega)).mono ?_
    rintro e w2 ⟨rfl, hM2, hF2⟩
    go_wp2
    go_end0
    exact ⟨rfl, hM2, hF1.trans hF2⟩
  iterate 3
    · obtain ⟨a, b, r, rfl⟩ := i_two (show 2 ≤ st.length by have := hN.2; unfold need at this; simp at this; omega)
      have HM := Lib.hid h1
      have HF := Lib.hid F1
      clear h1 F1 hN hBt h
      simp at hl
      go_enter Try.func67, Try.ntmps67
      go_wp2_with fail
      refine (pop_any g base B c (b :: r) a _ (HM.out _) (by simp; omega)).mono ?_
      rintro e w1 ⟨rfl, hM1, hF1⟩
      replace hF1 := (HF.out _).trans hF1
      have hs1 := hF1.size
      go_wp2_with fail
      refine (pop_any g base B c r b _ hM1 (by omega)).mono ?_
      rintro e w2 ⟨rfl, hM2, hF2⟩
      replace hF2 := hF1.trans hF2
      have hs2 := hF2.size
      clear hM1 hF1 hs1
      go_wp2_with fail
      refine (push_any g base B c r _ _ hM2 hB (by omega) (by omega)).mono ?_
      rintro e w3 ⟨rfl, hM3, hF3⟩
      go_wp2
      go_end0
      exact ⟨rfl, hM3, hF2.trans hF3⟩
  iterate 2
    · have HM := Lib.hid h1
      have HF := Lib.hid F1
      clear h1 F1 hN hBt h
      go_enter Try.func67, Try.ntmps67
      go_wp2_with fail
      refine (push_any g base B c st _ _ (HM.out _) hB ?_ (by omega)).mono ?_
      · simp; omega
      rintro e w2 ⟨rfl, hM2, hF2⟩
      go_wp2
      go_end0
      exact ⟨rfl, hM2, (HF.out _).trans hF2⟩
end Go.Proofs.Ythebkamggkfnlaa
