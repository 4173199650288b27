/- Contracts of the exact laws' helpers: marks read again; images copied, marked, read. -/
import Derived.Test.YtcpjafhhmhaenaaEA
namespace Go.Proofs.Ytcpjafhhmhaenaa
open Go.RowKit
attribute [local go_sem ↓] Go.wp_at_zero Go.wp_at_succ

set_option maxHeartbeats 400000 in
theorem heldIntS_any (v : Value) (n k : Nat) (w : World) (h : IntsR w w.heap.size v (markI n k)) (hk : k ≤ 1000000000000) (hn : n ≤ 17592186044416) :
    Calls Try.prog 47 #[v, .int .i64 k] w fun e w' => e = .returned (.int .i64 ((k + n : Nat) : Int)) ∧ w = w' := by
  obtain ⟨A, c, e, hr, _⟩ := h
  rw [markI_len] at e hr
  subst e
  go_enter Try.func47, Try.ntmps47
  go_wp2
  go_loop [1, 5] (fun t i => ∃ j : Nat, j ≤ n ∧ i = .int .i64 j ∧ t = .int .i64 ((k + j : Nat) : Int)) (fun _ i => n - (intOf i).toNat)
  case atStart => exact ⟨0, by omega, rfl, rfl⟩
  case round =>
    obtain ⟨j, hj, rfl, rfl⟩ := hrel
    by_cases hlt : j < n
    · obtain ⟨p, u, rfl, hpb, hu, hc⟩ := hr.one hlt
      have hx : u = .int .i64 ((k + j : Nat) : Int) := by unfold markI at hu; rw [List.getElem?_map, List.getElem?_map, List.getElem?_range hlt] at hu; simpa using hu.symm
      subst hx
      have i1 : (j : Int) < (n : Int) := by omega
      clear hu hr
      go_wp2
      go_round
      case rel => exact ⟨j + 1, by omega, by go_num, by go_num⟩
      case measure => simp [intOf]; omega
    · go_wp2
      go_ret
      obtain rfl : j = n := by omega
      exact ⟨by go_num, rfl⟩

/-- An image of the call's own, in blocks of [lo, hi). -/
def OwnMX (w : World) (lo hi : Nat) (v : Value) (m : Img) : Prop := ∃ v1 v2, v = .agg #[v1, v2] ∧ OwnX w lo hi 4 1 v1 m.bits.length (m.bits.map .bool) ∧ OwnX w lo hi 3 1 v2 m.words.length (m.words.map (.int .i64))
theorem OwnMX.of {w : World} {lo : Nat} {v : Value} {m : Img} (h : OwnM w lo v m) : OwnMX w lo w.heap.size v m := by
  obtain ⟨v1, v2, rfl, h1, h2⟩ := h; exact ⟨v1, v2, rfl, OwnX.of h1, OwnX.of h2⟩
theorem OwnMX.out {w w' : World} {lo hi lo2 hi2 : Nat} {v : Value} {m : Img} (h : OwnMX w lo hi v m) (ho : Out lo2 hi2 w w') (hd : hi ≤ lo2 ∨ hi2 ≤ lo) : OwnMX w' lo hi v m := by
  obtain ⟨v1, v2, rfl, h1, h2⟩ := h; exact ⟨v1, v2, rfl, h1.out ho hd, h2.out ho hd⟩
theorem OwnMX.below {w w' : World} {lo hi : Nat} {v : Value} {m : Img} (h : OwnMX w lo hi v m) (hb : Below w.heap.size w w') : OwnMX w' lo hi v m := by
  obtain ⟨v1, v2, rfl, h1, h2⟩ := h; exact ⟨v1, v2, rfl, h1.below hb, h2.below hb⟩
theorem OwnMX.form {w : World} {lo hi : Nat} {v : Value} {m : Img} (h : OwnMX w lo hi v m) : ∃ A1 c1 A2 c2, v = .agg #[.slice A1 m.bits.length c1, .slice A2 m.words.length c2] ∧ OwnX w lo hi 4 1 (.slice A1 m.bits.length c1) m.bits.length (m.bits.map .bool) ∧ OwnX w lo hi 3 1 (.slice A2 m.words.length c2) m.words.length (m.words.map (.int .i64)) := by
  obtain ⟨v1, v2, rfl, h1, h2⟩ := h
  obtain ⟨A1, c1, rfl, -, -⟩ := own_form h1.1
  obtain ⟨A2, c2, rfl, -, -⟩ := own_form h2.1
  exact ⟨A1, c1, A2, c2, rfl, h1, h2⟩
/-- An image that is no larger than the exact laws let in. -/
def fineM (m : Img) : Prop := m.bits.length ≤ 1048576 ∧ m.words.length ≤ 1048576 ∧ ∀ x ∈ m.words, -9223372036854775808 ≤ x ∧ x ≤ 9223372036854775807
theorem OwnMX.read {w : World} {lo hi : Nat} {v : Value} {m : Img} (h : OwnMX w lo hi v m) (hs : fineM m) : ImgR w w.heap.size v m := by
  obtain ⟨v1, v2, rfl, h1, h2⟩ := h
  obtain ⟨a, b, c⟩ := hs
  exact ⟨v1, v2, rfl, OwnB.read h1.1 (by omega), OwnI.read h2.1 (by omega) c⟩
def markM (m : Img) (k : Nat) : Img := ⟨markB m.bits.length k, markI m.words.length (k + m.bits.length)⟩
theorem fine_mark {m : Img} (h : fineM m) (k : Nat) (hk : k ≤ 1000000) : fineM (markM m k) := by
  refine ⟨by simpa [markM, markB_len] using h.1, by simpa [markM, markI_len] using h.2.1, fun x hx => ?_⟩
  simp only [markM, markI, List.mem_map, List.mem_range] at hx
  obtain ⟨i, hi, rfl⟩ := hx
  have := h.1; have := h.2.1
  omega
/-- Writing one row of an image leaves the other, which has another element type. -/
theorem OwnX.beside {w w' : World} {lo hi e e2 sz sz2 n n2 : Nat} {v v2 : Value} {xs xs2 : List Value} (h : OwnX w lo hi e sz v n xs) (h2 : OwnX w lo hi e2 sz2 v2 n2 xs2) (he : e ≠ e2) (hs : w'.heap.size = w'.heap.size)
    (hg : ∀ k, k < w.heap.size → some k ≠ v2.ownBlock → w'.heap[k]? = w.heap[k]?) : OwnX w' lo hi e sz v n xs := by
  have _ := hs
  refine ⟨⟨h.1.1, ?_⟩, h.2⟩
  rcases h.1.2 with h' | ⟨g, cap, cur, rfl, h1, h3, h4⟩
  · exact .inl h'
  · refine .inr ⟨g, cap, cur, rfl, h1, (hg g (Array.getElem?_eq_some_iff.1 h3).1 ?_).trans h3, h4⟩
    rcases own_ne h.1 h2.1 he with h5 | h5
    · simp [Value.ownBlock] at h5
    · exact h5
end Go.Proofs.Ytcpjafhhmhaenaa
