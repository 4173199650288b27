/- The law of LogicValid: its walk. -/
import Derived.Test.YtbbaojmmjcdliaaDD
import Derived.Test.YtbbaojmmjcdliaaW
import Derived.Test.YtbbaojmmjcdliaaSl
namespace Go.Proofs.Ytbbaojmmjcdliaa
open Go.RowKit
attribute [local go_sem ↓] Go.wp_at_zero Go.wp_at_succ

theorem lv_and {l : List Nd} {n : Int} (h : lvalid l n = true) : lvalid (l ++ [⟨3, 0⟩]) n = false :=
  lvalid_false_of_dep (by rw [depOf_snoc _ _ _ _ _ (lvalid_dep h)]; simp [ndOK, need])
theorem lv_not {l : List Nd} {n : Int} (h : lvalid l n = true) : lvalid (l ++ [⟨2, 0⟩]) n = decide (l.length + 1 ≤ 24) := by
  have hd := (dep_not l ⟨2, 0⟩ rfl n).2 ⟨lvalid_dep h, rfl⟩
  unfold lvalid
  simp [hd]
theorem OwnS.rdB {w w' : World} {base g off cap : Nat} {l : List Nd} (h : OwnS w base (.slice (some ⟨g, off, none⟩) l.length cap) l) (hb : Below w.heap.size w w') :
    Rd w' w'.heap.size 2 (some ⟨g, off, none⟩) l.length (cellsN l) := by
  obtain ⟨g1, off1, cap1, hv1, -, -, hrd⟩ := (h.below hb).form
  injection hv1 with hA _ hc
  rw [hA]
  exact hrd
theorem len_snoc (l : List Nd) (x : Nd) : (l ++ [x]).length = l.length + 1 := by simp
theorem fit_snoc {l : List Nd} (h : ∀ y ∈ l, ndFit y) (x : Nd) (hx : ndFit x) : ∀ y ∈ l ++ [x], ndFit y := by
  intro y hy
  rcases List.mem_append.1 hy with h' | h'
  · exact h y h'
  · obtain rfl := List.mem_singleton.1 h'; exact hx
theorem FnLogicValid_long (a : Option Addr) (n c : Nat) (w : World) (h : 1048576 < n) (_hn : n ≤ 9223372036854775807) : Calls Try.prog 3 #[.slice a n c] w (LawPost w) := by
  go_enter Try.func3, Try.ntmps3
  go_wp2
  go_ret
  exact ⟨rfl, Below.refl _ _⟩
set_option maxHeartbeats 1000000 in
theorem FnLogicValid_core (v : Value) (bl : List Int) (w : World) (h : BytesR w w.heap.size v bl) (hl : bl.length ≤ 1048576) :
    Calls Try.prog 3 #[v] w (LawPost w) := by
  have HO := Lib.hid (drawLogicValid_any v bl w h)
  have h2 := h.form
  obtain ⟨A, c, rfl, -⟩ := h
  clear h2
  go_enter Try.func3, Try.ntmps3
  go_wp2_with fail
  refine HO.out.mono ?_
  rintro e w1 ⟨v, l, n, rfl, hO, hL, hsm, hn, hb1⟩
  clear HO
  obtain ⟨B, off, cap, rfl, ⟨hB1, hB2⟩, hcap, -⟩ := hO.form
  have HO := Lib.hid hO
  have HR := Lib.hid fun (w' : World) (hb : Below w1.heap.size w1 w') => (hO.below hb).read (by omega) hsm
  have HF := Lib.hid (show ∀ x ∈ l, ndFit x from fun x hx => (hsm x hx).fit)
  have HD := Lib.hid fun (w' : World) (hb : Below w1.heap.size w1 w') => hO.rdB hb
  clear hO hsm
  go_wp2_with fail
  refine (iLogicValid_any _ l n _ (HR.out _ (Below.refl _ _))).mono ?_
  rintro e w2 ⟨rfl, hb2⟩
  go_wp2_with fail
  refine (sLogicValid_any _ l n _ (HR.out _ hb2)).mono ?_
  rintro e w3 ⟨rfl, hb3⟩
  have hb3' := hb2.trans (hb3.mono hb2.size)
  have hb13 := hb1.trans (hb3'.mono hb1.size)
  clear hb2 hb3
  cases hv : lvalid l n
  · go_wp2_with fail
    refine (alive_any _).mono ?_
    rintro e w4 ⟨rfl, hb4⟩
    go_wp2
    go_ret
    exact ⟨rfl, hb13.trans (hb4.mono hb13.size)⟩
  · have ea := Lib.hid (lv_and hv)
    have en := Lib.hid (lv_not hv)
    have e1 := Lib.hid (lvalid_mono hv (show n ≤ n + 1 by omega))
    have hs13 := hb13.size
    have hz3 := hb3'.size
    go_wp2_with (at_builtin; refine wpl_append rfl _ _ 23 rfl elN (base := w3.heap.size) rfl (own_lit0 rfl (by omega)) rfl (HD.out _ (hb3'.alloc hb3'.size _)) (one_n l) ?_ ?_ ?_ ?_)
    · omega
    · omega
    · simp
    intro v4 w4 hown hg4 _
    have hb4 : Below w3.heap.size w3 w4 := ((Below.refl _ _).alloc (Nat.le_refl _) _).grown hg4 (by simp) (by simp [Value.ownBlock])
    have hz4 := hb4.size
    obtain ⟨A4, c4, rfl, -, -⟩ := own_form hown
    have hlt4 := hown.lt
    go_wp2_with (at_builtin; refine wpl_append rfl _ _ 23 rfl elN (base := w3.heap.size) rfl (World.ownsRow.alloc hown _) rfl (Rd.newN _ ⟨2, 0⟩ _) (one_n _) ?_ ?_ ?_ ?_)
    · omega
    · omega
    · simp; omega
    intro v5 w5 hown5 hg5 _
    have hb5 : Below w3.heap.size w3 w5 := (hb4.alloc (by omega) _).grown hg5 (by simp; omega) (fun j hj => (hlt4 j hj).1)
    have hz5 := hb5.size
    have hON : OwnN w5 w3.heap.size v5 (l ++ [⟨2, 0⟩]) := by unfold OwnN; rw [cellsN_append, List.length_append]; exact hown5
    obtain ⟨A5, c5, rfl, -, -⟩ := own_form hON
    rw [len_snoc] at hON
    clear hown hg4 hown5 hg5 hb4 hz4 hlt4
    go_wp2_with (at_builtin; refine wpl_append rfl _ _ 23 rfl elN (base := w5.heap.size) rfl (own_lit0 rfl (by omega)) rfl (HD.out _ ((hb3'.trans (hb5.mono hb3'.size)).alloc (by omega) _)) (one_n l) ?_ ?_ ?_ ?_)
    · omega
    · omega
    · simp
    intro v6 w6 hown hg6 _
    have hb6 : Below w5.heap.size w5 w6 := ((Below.refl _ _).alloc (Nat.le_refl _) _).grown hg6 (by simp) (by simp [Value.ownBlock])
    have hz6 := hb6.size
    obtain ⟨A6, c6, rfl, -, -⟩ := own_form hown
    have hlt6 := hown.lt
    go_wp2_with (at_builtin; refine wpl_append rfl _ _ 23 rfl elN (base := w5.heap.size) rfl (World.ownsRow.alloc hown _) rfl (Rd.newN _ ⟨3, 0⟩ _) (one_n _) ?_ ?_ ?_ ?_)
    · omega
    · omega
    · simp; omega
    intro v7 w7 hown7 hg7 _
    have hb7 : Below w5.heap.size w5 w7 := (hb6.alloc (by omega) _).grown hg7 (by simp; omega) (fun j hj => (hlt6 j hj).1)
    have hz7 := hb7.size
    have hOA : OwnN w7 w5.heap.size v7 (l ++ [⟨3, 0⟩]) := by unfold OwnN; rw [cellsN_append, List.length_append]; exact hown7
    obtain ⟨A7, c7, rfl, -, -⟩ := own_form hOA
    rw [len_snoc] at hOA
    clear hown hg6 hown7 hg7 hb6 hz6 hlt6
    have hON7 : OwnN _ w3.heap.size _ (l ++ [⟨2, 0⟩]) := own_below hON hb7
    have hb17 := hb13.trans ((hb5.trans (hb7.mono hz5)).mono hs13)
    have hr7 := HR.out _ (hb3'.trans ((hb5.trans (hb7.mono hz5)).mono hb3'.size))
    clear hON hb5 hb7 hb13 hb3'
    go_wp2_with fail
    refine (iLogicValid_any _ l (n + 1) _ hr7).mono ?_
    rintro e w8 ⟨rfl, hb8⟩
    have hON8 : OwnN _ w3.heap.size _ (l ++ [⟨2, 0⟩]) := own_below hON7 hb8
    have hOA8 : OwnN _ w5.heap.size _ (l ++ [⟨3, 0⟩]) := own_below hOA hb8
    have hb18 := hb17.trans (hb8.mono hb17.size)
    clear hON7 hOA hb8 hb17 hr7
    rw [e1.out]
    go_wp2_with fail
    refine (iLogicValid_any _ (l ++ [⟨3, 0⟩]) n _ (OwnN.read hOA8 (by rw [List.length_append]; simp; omega) (fit_snoc HF.out ⟨3, 0⟩ (by unfold ndFit; simp)))).mono ?_
    rintro e w9 ⟨rfl, hb9⟩
    have hON9 : OwnN _ w3.heap.size _ (l ++ [⟨2, 0⟩]) := own_below hON8 hb9
    have hb19 := hb18.trans (hb9.mono hb18.size)
    clear hON8 hOA8 hb9 hb18
    rw [ea.out]
    go_wp2_with fail
    refine (iLogicValid_any _ (l ++ [⟨2, 0⟩]) n _ (OwnN.read hON9 (by rw [List.length_append]; simp; omega) (fit_snoc HF.out ⟨2, 0⟩ (by unfold ndFit; simp)))).mono ?_
    rintro e w10 ⟨rfl, hb10⟩
    have hb20 := hb19.trans (hb10.mono hb19.size)
    clear hON9 hb10 hb19
    rw [en.out]
    have EQ : (decide (l.length + 1 ≤ 24) == decide ((l.length : Int) + 1 ≤ 24)) = true := by simp; omega
    go_wp2
    go_ret
    exact ⟨by simp; omega, hb20⟩
end Go.Proofs.Ytbbaojmmjcdliaa
