/- The law of LogicTable: its walk. -/
import Derived.Test.YtbbaojmmjcdliaaDoorWS
import Derived.Test.YtbbaojmmjcdliaaDoorSm
namespace Go.Proofs.YtbbaojmmjcdliaaDoor
open Go.RowKit
attribute [local go_sem ↓] Go.wp_at_zero Go.wp_at_succ

theorem fin_alive {w W : World} (hb : Below w.heap.size w W) : Calls Tryd.prog 17 #[] W fun e w' => e = .returned (.bool true) ∧ Below w.heap.size w w' :=
  (alive_any W).mono fun _ _ ⟨h1, h2⟩ => ⟨h1, hb.trans (h2.mono hb.size)⟩
theorem wpList_want {P : Program} {w : World} {ops : Array Oper} {rest : List Oper} {o : Oper} {a : Act} {Q : Exit → Act → World → Prop} (hg : Region.wanted o (yielded ops a.tmps) = true)
    (h : ∀ K : Act → World → Prop, (∀ a w, wpList P ops Q rest a w → K a w) → o.wp P a w K Q) : wpList P ops Q (o :: rest) a w :=
  wpList_step fun K hK => by rw [if_pos hg]; exact h K hK
/-- append, at an operation that is guarded. -/
theorem wplg_append {P : Program} {w : World} {ops : Array Oper} {rest : List Oper} {o : Oper} {a : Act} {Q : Exit → Act → World → Prop} (hg : Region.wanted o (yielded ops a.tmps) = true) (s x : Operand) (t : TypeId) (ho : o.op = .call { callee := .builtin .append, args := #[s, x], argTypes := #[t, t] })
    {e : TypeId} {z : Value} {sz by_ : Nat} (E : Elem P t e z sz by_) {base : Nat} {v : Value} {n : Nat} {xs : List Value} (hs : a.eval s = v) (hown : w.ownsRow base e sz v n xs)
    {B : Nat} {A : Option Addr} {m c : Nat} {news : List Value} (hx : a.eval x = .slice A m c) (hr : Rd w B sz A m news) (h1 : ∀ u ∈ news, u.oneCell' = true)
    (hsz : (n + m) * by_ ≤ 140737488355328) (hlen : n + m ≤ 140737488355328) (hbase : base ≤ w.heap.size)
    (h : ∀ v' w', w'.ownsRow base e sz v' (n + m) (xs ++ news) → w.grownBy w' v.ownBlock → (v'.ownBlock = v.ownBlock ∨ v'.ownBlock = some w.heap.size) → wpList P ops Q rest (a.put o.dst v') w') :
    wpList P ops Q (o :: rest) a w :=
  wpList_want hg fun _ hK => op_append s x t ho E hs hown hx hr h1 hsz hlen hbase fun v' w' h2 h3 h4 => hK _ _ (h v' w' h2 h3 h4)
theorem OwnB.rdA {w : World} {b n c : Nat} {A : Option Addr} {T : List Bool} (h : OwnB w b (.slice A n c) T) (hn : n = T.length) : Rd w w.heap.size 1 A n (T.map .bool) := by
  obtain ⟨A', c', e, -, hr⟩ := own_form h
  injection e with e1 e2 e3
  subst hn
  rw [e1]
  exact hr
theorem sameB_same (v1 v2 : Value) (a : List Bool) (w : World) (h1 : BoolsR w w.heap.size v1 a) (h2 : BoolsR w w.heap.size v2 a) :
    Calls Tryd.prog 21 #[v1, v2] w fun e w' => e = .returned (.bool true) ∧ Below w.heap.size w w' :=
  (sameBools_any v1 v2 a a w h1 h2).mono fun _ _ ⟨he, hb⟩ => ⟨by rw [he]; simp [sameL], hb⟩
theorem FnLogicTable_long (a : Option Addr) (n c : Nat) (w : World) (h : 1048576 < n) (_hn : n ≤ 9223372036854775807) : Calls Tryd.prog 4 #[.slice a n c] w (LawPost w) := by
  go_enter Tryd.func4, Tryd.ntmps4
  go_wp2
  go_ret
  exact ⟨rfl, Below.refl _ _⟩
set_option maxHeartbeats 2000000 in
theorem FnLogicTable_core (v : Value) (bl : List Int) (w : World) (h : BytesR w w.heap.size v bl) (hl : bl.length ≤ 1048576) (hT : Tab w) :
    Calls Tryd.prog 4 #[v] w (LawPost w) := by
  have HO := Lib.hid (drawLogicTable_any v bl w h)
  have HT := Lib.hid (fun (w' : World) (hb : Below w.heap.size w w') => hT.next hb)
  have h2 := h.form
  obtain ⟨A, c, rfl, -⟩ := h
  clear h2 hT
  go_enter Tryd.func4, Tryd.ntmps4
  go_wp2_with fail
  refine HO.out.mono ?_
  rintro e w1 ⟨v, l, n, rfl, hO, hL, hsm, hn, hb1⟩
  clear HO
  obtain ⟨B, off, cap, rfl, ⟨hB1, hB2⟩, hcap, -⟩ := hO.form
  have HR := Lib.hid fun (w' : World) (hb : Below w1.heap.size w1 w') => (hO.below hb).read (by omega) hsm
  clear hO hsm
  go_wp2_with fail
  refine (iLogicTable_any _ l n _ (HR.out _ (Below.refl _ _)) (HT.out _ hb1)).mono ?_
  rintro e w2 ⟨v2, rfl, hO2, hb2⟩
  have hz2 := hb2.size
  obtain ⟨A2, c2, rfl, -, -⟩ := own_form hO2
  go_wp2_with fail
  refine (sLogicTable_any _ l n _ (HR.out _ hb2)).mono ?_
  rintro e w3 ⟨v3, rfl, hO3, hb3⟩
  obtain ⟨A3, c3, rfl, -, -⟩ := own_form hO3
  replace hO2 := own_below hO2 hb3
  replace hb3 := hb2.trans (hb3.mono hz2)
  have hz3 := hb3.size
  have hT64 := tabF_le l n
  clear hb2
  go_wp2_with fail
  refine (sameB_same _ _ (tabF l n) _ (OwnB.read hO2 (by omega)) (OwnB.read hO3 (by omega))).mono ?_
  rintro e w4 ⟨rfl, hb4⟩
  replace hO2 := own_below hO2 hb4
  replace hb4 := hb3.trans (hb4.mono hz3)
  have hz4 := hb4.size
  have hb14 := hb1.trans (hb4.mono hb1.size)
  clear hO3 hb3
  cases ht : ttOK l n
  · have e0 : (tabF l n).length = 0 := by rw [tabF_no ht]; rfl
    rw [e0]
    go_wp2_with fail
    refine (fin_alive hb14).mono ?_
    rintro e w5 ⟨rfl, hb5⟩
    go_wp2
    go_ret
    exact ⟨rfl, hb5⟩
  · obtain ⟨h0, h6, hv⟩ := ttOK_parts ht
    obtain ⟨m, rfl⟩ := Int.eq_ofNat_of_zero_le h0
    have e0 : (tabF l m).length = 2 ^ m := tabF_len ht
    have hp := Nat.two_pow_pos m
    obtain ⟨T, hTe⟩ : ∃ T, T = tabF l m := ⟨_, rfl⟩
    have HS := Lib.hid fun h6' => tabF_succ ht h6'
    have HTe := Lib.hid hTe
    rw [← hTe] at hO2 e0 hT64 HS ⊢
    clear hTe
    have hb1z := hb1.size
    have HA2 := Lib.hid hO2
    obtain ⟨q, hq⟩ : ∃ q, q = T.length := ⟨_, rfl⟩
    have hq2 : q = 2 ^ m := by rw [hq, e0]
    have HQ := Lib.hid hq
    rw [← hq] at hT64 ⊢
    have h7 : m = 0 ∨ m = 1 ∨ m = 2 ∨ m = 3 ∨ m = 4 ∨ m = 5 ∨ m = 6 := by omega
    clear hO2 e0 hp ht hv hq
    by_cases hm6 : m = 6
    · subst hm6
      obtain rfl : q = 64 := by simpa using hq2
      clear hq2
      go_wp2
      go_ret
      exact ⟨rfl, hb14⟩
    · have e6 : ((m : Int) == 6) = false := by simp; omega
      have hTB := HT.out _ hb14
      have hN4 := HR.out _ hb4
      have HTB := Lib.hid hTB
      have HN4 := Lib.hid hN4
      have HS' := Lib.hid (HS.out (by omega))
      clear HS HT HR hTB hN4
      rcases h7 with rfl | rfl | rfl | rfl | rfl | rfl | rfl
      · obtain rfl : q = 1 := by simpa using hq2
        have lT : T.length = 1 := HQ.out.symm
        have eS : tabF l 1 = T ++ T := HS'.out
        have l5 : (T ++ T).length = 2 := by rw [List.length_append, lT]
        have HL5 := Lib.hid l5
        have HLT := Lib.hid lT
        have HES := Lib.hid eS
        clear hq2 lT eS l5
        go_wp2_with fail
        refine (iLogicTable_any _ l 1 _ HN4.out HTB.out).mono ?_
        rintro e w5 ⟨v5, rfl, hO5, hb5⟩
        rw [HES.out] at hO5
        obtain ⟨A5, c5, rfl, -, -⟩ := own_form hO5
        rw [HL5.out] at hO5 ⊢
        have hz5 := hb5.size
        have hO2 : OwnB w5 w1.heap.size (.slice A2 1 c2) T := by have := own_below HA2.out hb5; rw [HLT.out] at this; unfold OwnB; rw [HLT.out]; exact this
        have HR5 := Lib.hid fun (w' : World) (hb : Below w5.heap.size w5 w') => OwnB.rdA (own_below hO2 hb : OwnB w' w1.heap.size (.slice A2 1 c2) T) HLT.out.symm
        have hb15 := hb14.trans (hb5.mono hb14.size)
        clear hO2 hb5
        go_wp2_with (at_builtin; refine wplg_append (by simp [Region.wanted, yielded]) _ _ 23 rfl elB (base := w5.heap.size) rfl (own_lit0 rfl (by omega)) rfl (HR5.out _ ((Below.refl _ _).alloc (Nat.le_refl _) _)) (one_b T) ?_ ?_ ?_ ?_)
        · omega
        · omega
        · simp
        intro v6 w6 hown hg6 _
        have hb6 : Below w5.heap.size w5 w6 := ((Below.refl _ _).alloc (Nat.le_refl _) _).grown hg6 (by simp) (by simp [Value.ownBlock])
        have hz6 := hb6.size
        obtain ⟨A6, c6, rfl, -, -⟩ := own_form hown
        have hlt6 := hown.lt
        go_wp2_with (at_builtin; refine wplg_append (by simp [Region.wanted, yielded]) _ _ 23 rfl elB (base := w5.heap.size) rfl hown rfl (HR5.out _ hb6) (one_b T) ?_ ?_ ?_ ?_)
        · omega
        · omega
        · omega
        intro v7 w7 hown7 hg7 _
        have hb7 : Below w5.heap.size w5 w7 := hb6.grown hg7 hz6 (fun j hj => (hlt6 j hj).1)
        have hO7 : OwnB w7 w5.heap.size v7 (T ++ T) := by unfold OwnB; rw [HL5.out, List.map_append]; exact hown7
        have hb17 := hb15.trans (hb7.mono hb15.size)
        have hB5 := OwnB.read (own_below hO5 hb7 : OwnB w7 w4.heap.size (.slice A5 2 c5) (T ++ T)) (by have := HL5.out; omega)
        have hB7 := OwnB.read hO7 (by have := HL5.out; omega)
        obtain ⟨A7, c7, rfl, -, -⟩ := own_form hO7
        rw [HL5.out] at hB7
        clear hown hg6 hown7 hg7 hb6 hz6 hlt6 hO7 hO5 hb7 hb15
        rw [HL5.out]
        go_wp2_with fail
        refine (sameB_same _ _ (T ++ T) _ hB5 hB7).mono ?_
        rintro e w8 ⟨rfl, hb8⟩
        go_wp2
        go_ret
        exact ⟨rfl, hb17.trans (hb8.mono hb17.size)⟩
      · obtain rfl : q = 2 := by simpa using hq2
        have lT : T.length = 2 := HQ.out.symm
        have eS : tabF l 2 = T ++ T := HS'.out
        have l5 : (T ++ T).length = 4 := by rw [List.length_append, lT]
        have HL5 := Lib.hid l5
        have HLT := Lib.hid lT
        have HES := Lib.hid eS
        clear hq2 lT eS l5
        go_wp2_with fail
        refine (iLogicTable_any _ l 2 _ HN4.out HTB.out).mono ?_
        rintro e w5 ⟨v5, rfl, hO5, hb5⟩
        rw [HES.out] at hO5
        obtain ⟨A5, c5, rfl, -, -⟩ := own_form hO5
        rw [HL5.out] at hO5 ⊢
        have hz5 := hb5.size
        have hO2 : OwnB w5 w1.heap.size (.slice A2 2 c2) T := by have := own_below HA2.out hb5; rw [HLT.out] at this; unfold OwnB; rw [HLT.out]; exact this
        have HR5 := Lib.hid fun (w' : World) (hb : Below w5.heap.size w5 w') => OwnB.rdA (own_below hO2 hb : OwnB w' w1.heap.size (.slice A2 2 c2) T) HLT.out.symm
        have hb15 := hb14.trans (hb5.mono hb14.size)
        clear hO2 hb5
        go_wp2_with (at_builtin; refine wplg_append (by simp [Region.wanted, yielded]) _ _ 23 rfl elB (base := w5.heap.size) rfl (own_lit0 rfl (by omega)) rfl (HR5.out _ ((Below.refl _ _).alloc (Nat.le_refl _) _)) (one_b T) ?_ ?_ ?_ ?_)
        · omega
        · omega
        · simp
        intro v6 w6 hown hg6 _
        have hb6 : Below w5.heap.size w5 w6 := ((Below.refl _ _).alloc (Nat.le_refl _) _).grown hg6 (by simp) (by simp [Value.ownBlock])
        have hz6 := hb6.size
        obtain ⟨A6, c6, rfl, -, -⟩ := own_form hown
        have hlt6 := hown.lt
        go_wp2_with (at_builtin; refine wplg_append (by simp [Region.wanted, yielded]) _ _ 23 rfl elB (base := w5.heap.size) rfl hown rfl (HR5.out _ hb6) (one_b T) ?_ ?_ ?_ ?_)
        · omega
        · omega
        · omega
        intro v7 w7 hown7 hg7 _
        have hb7 : Below w5.heap.size w5 w7 := hb6.grown hg7 hz6 (fun j hj => (hlt6 j hj).1)
        have hO7 : OwnB w7 w5.heap.size v7 (T ++ T) := by unfold OwnB; rw [HL5.out, List.map_append]; exact hown7
        have hb17 := hb15.trans (hb7.mono hb15.size)
        have hB5 := OwnB.read (own_below hO5 hb7 : OwnB w7 w4.heap.size (.slice A5 4 c5) (T ++ T)) (by have := HL5.out; omega)
        have hB7 := OwnB.read hO7 (by have := HL5.out; omega)
        obtain ⟨A7, c7, rfl, -, -⟩ := own_form hO7
        rw [HL5.out] at hB7
        clear hown hg6 hown7 hg7 hb6 hz6 hlt6 hO7 hO5 hb7 hb15
        rw [HL5.out]
        go_wp2_with fail
        refine (sameB_same _ _ (T ++ T) _ hB5 hB7).mono ?_
        rintro e w8 ⟨rfl, hb8⟩
        go_wp2
        go_ret
        exact ⟨rfl, hb17.trans (hb8.mono hb17.size)⟩
      · obtain rfl : q = 4 := by simpa using hq2
        have lT : T.length = 4 := HQ.out.symm
        have eS : tabF l 3 = T ++ T := HS'.out
        have l5 : (T ++ T).length = 8 := by rw [List.length_append, lT]
        have HL5 := Lib.hid l5
        have HLT := Lib.hid lT
        have HES := Lib.hid eS
        clear hq2 lT eS l5
        go_wp2_with fail
        refine (iLogicTable_any _ l 3 _ HN4.out HTB.out).mono ?_
        rintro e w5 ⟨v5, rfl, hO5, hb5⟩
        rw [HES.out] at hO5
        obtain ⟨A5, c5, rfl, -, -⟩ := own_form hO5
        rw [HL5.out] at hO5 ⊢
        have hz5 := hb5.size
        have hO2 : OwnB w5 w1.heap.size (.slice A2 4 c2) T := by have := own_below HA2.out hb5; rw [HLT.out] at this; unfold OwnB; rw [HLT.out]; exact this
        have HR5 := Lib.hid fun (w' : World) (hb : Below w5.heap.size w5 w') => OwnB.rdA (own_below hO2 hb : OwnB w' w1.heap.size (.slice A2 4 c2) T) HLT.out.symm
        have hb15 := hb14.trans (hb5.mono hb14.size)
        clear hO2 hb5
        go_wp2_with (at_builtin; refine wplg_append (by simp [Region.wanted, yielded]) _ _ 23 rfl elB (base := w5.heap.size) rfl (own_lit0 rfl (by omega)) rfl (HR5.out _ ((Below.refl _ _).alloc (Nat.le_refl _) _)) (one_b T) ?_ ?_ ?_ ?_)
        · omega
        · omega
        · simp
        intro v6 w6 hown hg6 _
        have hb6 : Below w5.heap.size w5 w6 := ((Below.refl _ _).alloc (Nat.le_refl _) _).grown hg6 (by simp) (by simp [Value.ownBlock])
        have hz6 := hb6.size
        obtain ⟨A6, c6, rfl, -, -⟩ := own_form hown
        have hlt6 := hown.lt
        go_wp2_with (at_builtin; refine wplg_append (by simp [Region.wanted, yielded]) _ _ 23 rfl elB (base := w5.heap.size) rfl hown rfl (HR5.out _ hb6) (one_b T) ?_ ?_ ?_ ?_)
        · omega
        · omega
        · omega
        intro v7 w7 hown7 hg7 _
        have hb7 : Below w5.heap.size w5 w7 := hb6.grown hg7 hz6 (fun j hj => (hlt6 j hj).1)
        have hO7 : OwnB w7 w5.heap.size v7 (T ++ T) := by unfold OwnB; rw [HL5.out, List.map_append]; exact hown7
        have hb17 := hb15.trans (hb7.mono hb15.size)
        have hB5 := OwnB.read (own_below hO5 hb7 : OwnB w7 w4.heap.size (.slice A5 8 c5) (T ++ T)) (by have := HL5.out; omega)
        have hB7 := OwnB.read hO7 (by have := HL5.out; omega)
        obtain ⟨A7, c7, rfl, -, -⟩ := own_form hO7
        rw [HL5.out] at hB7
        clear hown hg6 hown7 hg7 hb6 hz6 hlt6 hO7 hO5 hb7 hb15
        rw [HL5.out]
        go_wp2_with fail
        refine (sameB_same _ _ (T ++ T) _ hB5 hB7).mono ?_
        rintro e w8 ⟨rfl, hb8⟩
        go_wp2
        go_ret
        exact ⟨rfl, hb17.trans (hb8.mono hb17.size)⟩
      · obtain rfl : q = 8 := by simpa using hq2
        have lT : T.length = 8 := HQ.out.symm
        have eS : tabF l 4 = T ++ T := HS'.out
        have l5 : (T ++ T).length = 16 := by rw [List.length_append, lT]
        have HL5 := Lib.hid l5
        have HLT := Lib.hid lT
        have HES := Lib.hid eS
        clear hq2 lT eS l5
        go_wp2_with fail
        refine (iLogicTable_any _ l 4 _ HN4.out HTB.out).mono ?_
        rintro e w5 ⟨v5, rfl, hO5, hb5⟩
        rw [HES.out] at hO5
        obtain ⟨A5, c5, rfl, -, -⟩ := own_form hO5
        rw [HL5.out] at hO5 ⊢
        have hz5 := hb5.size
        have hO2 : OwnB w5 w1.heap.size (.slice A2 8 c2) T := by have := own_below HA2.out hb5; rw [HLT.out] at this; unfold OwnB; rw [HLT.out]; exact this
        have HR5 := Lib.hid fun (w' : World) (hb : Below w5.heap.size w5 w') => OwnB.rdA (own_below hO2 hb : OwnB w' w1.heap.size (.slice A2 8 c2) T) HLT.out.symm
        have hb15 := hb14.trans (hb5.mono hb14.size)
        clear hO2 hb5
        go_wp2_with (at_builtin; refine wplg_append (by simp [Region.wanted, yielded]) _ _ 23 rfl elB (base := w5.heap.size) rfl (own_lit0 rfl (by omega)) rfl (HR5.out _ ((Below.refl _ _).alloc (Nat.le_refl _) _)) (one_b T) ?_ ?_ ?_ ?_)
        · omega
        · omega
        · simp
        intro v6 w6 hown hg6 _
        have hb6 : Below w5.heap.size w5 w6 := ((Below.refl _ _).alloc (Nat.le_refl _) _).grown hg6 (by simp) (by simp [Value.ownBlock])
        have hz6 := hb6.size
        obtain ⟨A6, c6, rfl, -, -⟩ := own_form hown
        have hlt6 := hown.lt
        go_wp2_with (at_builtin; refine wplg_append (by simp [Region.wanted, yielded]) _ _ 23 rfl elB (base := w5.heap.size) rfl hown rfl (HR5.out _ hb6) (one_b T) ?_ ?_ ?_ ?_)
        · omega
        · omega
        · omega
        intro v7 w7 hown7 hg7 _
        have hb7 : Below w5.heap.size w5 w7 := hb6.grown hg7 hz6 (fun j hj => (hlt6 j hj).1)
        have hO7 : OwnB w7 w5.heap.size v7 (T ++ T) := by unfold OwnB; rw [HL5.out, List.map_append]; exact hown7
        have hb17 := hb15.trans (hb7.mono hb15.size)
        have hB5 := OwnB.read (own_below hO5 hb7 : OwnB w7 w4.heap.size (.slice A5 16 c5) (T ++ T)) (by have := HL5.out; omega)
        have hB7 := OwnB.read hO7 (by have := HL5.out; omega)
        obtain ⟨A7, c7, rfl, -, -⟩ := own_form hO7
        rw [HL5.out] at hB7
        clear hown hg6 hown7 hg7 hb6 hz6 hlt6 hO7 hO5 hb7 hb15
        rw [HL5.out]
        go_wp2_with fail
        refine (sameB_same _ _ (T ++ T) _ hB5 hB7).mono ?_
        rintro e w8 ⟨rfl, hb8⟩
        go_wp2
        go_ret
        exact ⟨rfl, hb17.trans (hb8.mono hb17.size)⟩
      · obtain rfl : q = 16 := by simpa using hq2
        have lT : T.length = 16 := HQ.out.symm
        have eS : tabF l 5 = T ++ T := HS'.out
        have l5 : (T ++ T).length = 32 := by rw [List.length_append, lT]
        have HL5 := Lib.hid l5
        have HLT := Lib.hid lT
        have HES := Lib.hid eS
        clear hq2 lT eS l5
        go_wp2_with fail
        refine (iLogicTable_any _ l 5 _ HN4.out HTB.out).mono ?_
        rintro e w5 ⟨v5, rfl, hO5, hb5⟩
        rw [HES.out] at hO5
        obtain ⟨A5, c5, rfl, -, -⟩ := own_form hO5
        rw [HL5.out] at hO5 ⊢
        have hz5 := hb5.size
        have hO2 : OwnB w5 w1.heap.size (.slice A2 16 c2) T := by have := own_below HA2.out hb5; rw [HLT.out] at this; unfold OwnB; rw [HLT.out]; exact this
        have HR5 := Lib.hid fun (w' : World) (hb : Below w5.heap.size w5 w') => OwnB.rdA (own_below hO2 hb : OwnB w' w1.heap.size (.slice A2 16 c2) T) HLT.out.symm
        have hb15 := hb14.trans (hb5.mono hb14.size)
        clear hO2 hb5
        go_wp2_with (at_builtin; refine wplg_append (by simp [Region.wanted, yielded]) _ _ 23 rfl elB (base := w5.heap.size) rfl (own_lit0 rfl (by omega)) rfl (HR5.out _ ((Below.refl _ _).alloc (Nat.le_refl _) _)) (one_b T) ?_ ?_ ?_ ?_)
        · omega
        · omega
        · simp
        intro v6 w6 hown hg6 _
        have hb6 : Below w5.heap.size w5 w6 := ((Below.refl _ _).alloc (Nat.le_refl _) _).grown hg6 (by simp) (by simp [Value.ownBlock])
        have hz6 := hb6.size
        obtain ⟨A6, c6, rfl, -, -⟩ := own_form hown
        have hlt6 := hown.lt
        go_wp2_with (at_builtin; refine wplg_append (by simp [Region.wanted, yielded]) _ _ 23 rfl elB (base := w5.heap.size) rfl hown rfl (HR5.out _ hb6) (one_b T) ?_ ?_ ?_ ?_)
        · omega
        · omega
        · omega
        intro v7 w7 hown7 hg7 _
        have hb7 : Below w5.heap.size w5 w7 := hb6.grown hg7 hz6 (fun j hj => (hlt6 j hj).1)
        have hO7 : OwnB w7 w5.heap.size v7 (T ++ T) := by unfold OwnB; rw [HL5.out, List.map_append]; exact hown7
        have hb17 := hb15.trans (hb7.mono hb15.size)
        have hB5 := OwnB.read (own_below hO5 hb7 : OwnB w7 w4.heap.size (.slice A5 32 c5) (T ++ T)) (by have := HL5.out; omega)
        have hB7 := OwnB.read hO7 (by have := HL5.out; omega)
        obtain ⟨A7, c7, rfl, -, -⟩ := own_form hO7
        rw [HL5.out] at hB7
        clear hown hg6 hown7 hg7 hb6 hz6 hlt6 hO7 hO5 hb7 hb15
        rw [HL5.out]
        go_wp2_with fail
        refine (sameB_same _ _ (T ++ T) _ hB5 hB7).mono ?_
        rintro e w8 ⟨rfl, hb8⟩
        go_wp2
        go_ret
        exact ⟨rfl, hb17.trans (hb8.mono hb17.size)⟩
      · obtain rfl : q = 32 := by simpa using hq2
        have lT : T.length = 32 := HQ.out.symm
        have eS : tabF l 6 = T ++ T := HS'.out
        have l5 : (T ++ T).length = 64 := by rw [List.length_append, lT]
        have HL5 := Lib.hid l5
        have HLT := Lib.hid lT
        have HES := Lib.hid eS
        clear hq2 lT eS l5
        go_wp2_with fail
        refine (iLogicTable_any _ l 6 _ HN4.out HTB.out).mono ?_
        rintro e w5 ⟨v5, rfl, hO5, hb5⟩
        rw [HES.out] at hO5
        obtain ⟨A5, c5, rfl, -, -⟩ := own_form hO5
        rw [HL5.out] at hO5 ⊢
        have hz5 := hb5.size
        have hO2 : OwnB w5 w1.heap.size (.slice A2 32 c2) T := by have := own_below HA2.out hb5; rw [HLT.out] at this; unfold OwnB; rw [HLT.out]; exact this
        have HR5 := Lib.hid fun (w' : World) (hb : Below w5.heap.size w5 w') => OwnB.rdA (own_below hO2 hb : OwnB w' w1.heap.size (.slice A2 32 c2) T) HLT.out.symm
        have hb15 := hb14.trans (hb5.mono hb14.size)
        clear hO2 hb5
        go_wp2_with (at_builtin; refine wplg_append (by simp [Region.wanted, yielded]) _ _ 23 rfl elB (base := w5.heap.size) rfl (own_lit0 rfl (by omega)) rfl (HR5.out _ ((Below.refl _ _).alloc (Nat.le_refl _) _)) (one_b T) ?_ ?_ ?_ ?_)
        · omega
        · omega
        · simp
        intro v6 w6 hown hg6 _
        have hb6 : Below w5.heap.size w5 w6 := ((Below.refl _ _).alloc (Nat.le_refl _) _).grown hg6 (by simp) (by simp [Value.ownBlock])
        have hz6 := hb6.size
        obtain ⟨A6, c6, rfl, -, -⟩ := own_form hown
        have hlt6 := hown.lt
        go_wp2_with (at_builtin; refine wplg_append (by simp [Region.wanted, yielded]) _ _ 23 rfl elB (base := w5.heap.size) rfl hown rfl (HR5.out _ hb6) (one_b T) ?_ ?_ ?_ ?_)
        · omega
        · omega
        · omega
        intro v7 w7 hown7 hg7 _
        have hb7 : Below w5.heap.size w5 w7 := hb6.grown hg7 hz6 (fun j hj => (hlt6 j hj).1)
        have hO7 : OwnB w7 w5.heap.size v7 (T ++ T) := by unfold OwnB; rw [HL5.out, List.map_append]; exact hown7
        have hb17 := hb15.trans (hb7.mono hb15.size)
        have hB5 := OwnB.read (own_below hO5 hb7 : OwnB w7 w4.heap.size (.slice A5 64 c5) (T ++ T)) (by have := HL5.out; omega)
        have hB7 := OwnB.read hO7 (by have := HL5.out; omega)
        obtain ⟨A7, c7, rfl, -, -⟩ := own_form hO7
        rw [HL5.out] at hB7
        clear hown hg6 hown7 hg7 hb6 hz6 hlt6 hO7 hO5 hb7 hb15
        rw [HL5.out]
        go_wp2_with fail
        refine (sameB_same _ _ (T ++ T) _ hB5 hB7).mono ?_
        rintro e w8 ⟨rfl, hb8⟩
        go_wp2
        go_ret
        exact ⟨rfl, hb17.trans (hb8.mono hb17.size)⟩
      · exact absurd rfl hm6
end Go.Proofs.YtbbaojmmjcdliaaDoor
