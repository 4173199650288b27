/- The law of SetWord: its walk. -/
import Derived.Test.YtoagnajljdbobaaX
namespace Go.Proofs.Ytoagnajljdbobaa
open Go.RowKit
attribute [local go_sem ↓] Go.wp_at_zero Go.wp_at_succ

theorem clipW_in (x : Int) : -32768 ≤ clipW x ∧ clipW x ≤ 32767 := by unfold clipW; omega
theorem small_setWord {m : Img} (n x : Int) {a b : Nat} (h : smallM m a b) : smallM (setWordM m n x) a b := by
  unfold setWordM
  split
  · refine ⟨h.1, ?_, ?_⟩
    · show (setW m.words n x).length ≤ b
      unfold setW
      split
      · simpa using h.2.1
      · exact h.2.1
    · show ∀ y ∈ setW m.words n x, _
      unfold setW
      split
      · intro y hy
        rcases List.mem_or_eq_of_mem_set hy with h' | rfl
        · exact h.2.2 y h'
        · have := clipW_in x; omega
      · exact h.2.2
  · exact ⟨by simp, by simp, by simp⟩
theorem setWord_len {m : Img} (n x : Int) (hok : imgOK m = true) : (setWordM m n x).words.length = m.words.length := by
  unfold setWordM
  rw [if_pos hok]
  show (setW m.words n x).length = _
  unfold setW
  split <;> simp
theorem setWord_bits {m : Img} (n x : Int) (hok : imgOK m = true) : (setWordM m n x).bits = m.bits := by
  unfold setWordM; rw [if_pos hok]
theorem setWord_bad {m : Img} (n x : Int) (hok : imgOK m = false) : setWordM m n x = ⟨[], []⟩ := by
  unfold setWordM; rw [if_neg (by simp [hok])]
theorem setWord_at {m : Img} (n x : Int) (hok : imgOK m = true) {k : Nat} (hk : k < m.words.length) (hk' : k < (setWordM m n x).words.length) : (setWordM m n x).words[k] = if (k : Int) = n then clipW x else m.words[k] := by
  have e : (setWordM m n x).words = if 0 ≤ n ∧ n < m.words.length then m.words.set n.toNat (clipW x) else m.words := by unfold setWordM; rw [if_pos hok]; rfl
  simp only [e]
  by_cases h : 0 ≤ n ∧ n < m.words.length
  · simp only [if_pos h, List.getElem_set]
    by_cases h2 : (k : Int) = n
    · rw [if_pos h2, if_pos (by omega)]
    · rw [if_neg h2, if_neg (by omega)]
  · simp only [if_neg h]
    exact (if_neg (by omega)).symm
theorem setWord_ok {m : Img} (n x : Int) (hok : imgOK m = true) : imgOK (setWordM m n x) = true := by
  have h1 := setWord_len n x hok
  have h2 := setWord_bits n x hok
  obtain ⟨a, b⟩ := imgOK_len hok
  have hw : wordsOK m.words = true := by simp [imgOK] at hok; exact hok.2.2
  have hw2 : wordsOK (setWordM m n x).words = true := by
    unfold setWordM
    rw [if_pos hok]
    show wordsOK (setW m.words n x) = true
    unfold setW
    split
    · unfold wordsOK at hw ⊢
      rw [List.all_eq_true] at hw ⊢
      intro y hy
      rcases List.mem_or_eq_of_mem_set hy with h' | rfl
      · exact hw y h'
      · exact inB_true (clipW_in x)
    · exact hw
  unfold imgOK
  rw [h1, h2, hw2]
  simp; omega
theorem setWord_get {m : Img} (n x : Int) (hok : imgOK m = true) (h : 0 ≤ n ∧ n < m.words.length) : getW (setWordM m n x).words n = clipW x := by
  have hl := setWord_len n x hok
  obtain ⟨k, rfl⟩ := Int.eq_ofNat_of_zero_le h.1
  rw [getW_in (by omega), setWord_at _ x hok (by omega) (by omega), if_pos rfl]
theorem FnSetWord_long (a : Option Addr) (n c : Nat) (w : World) (h : 1048576 < n) (_hn : n ≤ 9223372036854775807) : Calls Try.prog 6 #[.slice a n c] w (LawPost w) := by
  go_enter Try.func6, Try.ntmps6
  go_wp2
  go_ret
  exact ⟨rfl, Below.refl _ _⟩
set_option maxHeartbeats 2000000 in
theorem FnSetWord_core (v : Value) (l : List Int) (w : World) (h : BytesR w w.heap.size v l) (hl : l.length ≤ 1048576) :
    Calls Try.prog 6 #[v] w (LawPost w) := by
  have HO := Lib.hid (drawSetWord_any v l w h)
  obtain ⟨A, c, rfl, -⟩ := h
  go_enter Try.func6, Try.ntmps6
  go_wp2_with fail
  refine HO.out.mono ?_
  rintro e w1 ⟨v, m, n, x0, rfl, hO1, hS1, hb1, hn1, hn2⟩
  clear HO
  obtain ⟨A1, c1, A2, c2, rfl, -, -⟩ := hO1.form
  have hH := Held.new hO1 (hS1.up (by omega) (by omega))
  have B1 : Below w.heap.size w (w1.alloc (.cells #[.slice A1 m.bits.length c1, .slice A2 m.words.length c2] 26)) := hb1.alloc hb1.size _
  have hbl := hS1.1
  have hwl := hS1.2.1
  have hs1 := hb1.size
  clear hO1 hb1
  obtain ⟨p0, p1⟩ := hH.cells
  go_wp2_with fail
  refine (iSetWord_any _ m n x0 _ hH.read).mono ?_
  rintro e w3 ⟨v3, rfl, hO3, hb3⟩
  have B3 := B1.trans (hb3.mono B1.size)
  have hH3 := hH.below hb3
  obtain ⟨X1, x1, X2, x2, rfl, -, -⟩ := hO3.form
  have hSX := small_setWord n x0 hS1
  have hX := Held.new hO3 (hSX.up (by omega) (by omega))
  obtain ⟨o3, ho3⟩ : ∃ o, o = Obj.cells #[.slice X1 (setWordM m n x0).bits.length x1, .slice X2 (setWordM m n x0).words.length x2] 26 := ⟨_, rfl⟩
  have hH4 := hH3.alloc (.cells #[.slice X1 (setWordM m n x0).bits.length x1, .slice X2 (setWordM m n x0).words.length x2] 26)
  have B4 := B3.alloc B3.size (.cells #[.slice X1 (setWordM m n x0).bits.length x1, .slice X2 (setWordM m n x0).words.length x2] 26)
  clear ho3 o3 hO3 hb3 hH hH3 B1 B3 p0 p1
  obtain ⟨p0, p1⟩ := hH4.cells
  obtain ⟨q0, q1⟩ := hX.cells
  have s4 := B4.size
  have bd : ∀ W : World, Below W.heap.size W W.drew := fun W => (Below.refl _ _).drew
  go_wp2_with fail
  go_region_held3 (fun w' => w'.cell? ⟨w3.heap.size, 0, none⟩ = some (.slice X1 (setWordM m n x0).bits.length x1) ∧ w'.cell? ⟨w3.heap.size, 1, none⟩ = some (.slice X2 (setWordM m n x0).words.length x2) ∧ w'.cell? ⟨w1.heap.size, 0, none⟩ = some (.slice A1 m.bits.length c1) ∧ w'.cell? ⟨w1.heap.size, 1, none⟩ = some (.slice A2 m.words.length c2)) (first | exact ⟨q0, q1, p0, p1⟩ | go_keep)
    (first
      | (go_at_call 36; refine (sSetWord_any _ m n x0 _ hH4.drew.read).mono ?_; rintro e w5 ⟨v5, rfl, hO5, hb5⟩; obtain ⟨Y1, y1, Y2, y2, rfl, -, -⟩ := hO5.form; have hH5 := hH4.drew.below hb5; have hX5 := hX.drew.below hb5; have B5 := B4.drew.trans (hb5.mono s4); clear p0 p1 q0 q1; obtain ⟨p0, p1⟩ := hH5.cells; obtain ⟨q0, q1⟩ := hX5.cells)
      | (go_at_call 26; refine (sameImage_same _ _ (setWordM m n x0) _ hX5.read (hO5.read (hSX.up (by omega) (by omega)))).mono ?_; rintro e w6 ⟨rfl, hb6⟩; have hH6 := hH5.below hb6; have hX6 := hX5.below hb6; have B6 := B5.trans (hb6.mono B5.size); clear p0 p1 q0 q1; obtain ⟨p0, p1⟩ := hH6.cells; obtain ⟨q0, q1⟩ := hX6.cells))
  clear hH4 hX B4 hH5 hX5 hO5 B5 hb5 hb6 s4
  obtain ⟨K1, hK1⟩ : ∃ K, K = w1.heap.size := ⟨_, rfl⟩
  go_wp2_with fail
  refine (sImageValid_any _ m _ hH6.read).mono ?_
  rintro e w8 ⟨rfl, hb8⟩
  have hH8 := hH6.below hb8
  have hX8 := hX6.below hb8
  have B8 := B6.trans (hb8.mono B6.size)
  clear hH6 hX6 B6 hb8 p0 p1 q0 q1
  obtain ⟨p0, p1⟩ := hH8.cells
  obtain ⟨q0, q1⟩ := hX8.cells
  have s8 := B8.size
  cases hok : imgOK m
  · have e1 : (setWordM m n x0).bits.length = 0 := by rw [setWord_bad n x0 hok]; rfl
    have e2 : (setWordM m n x0).words.length = 0 := by rw [setWord_bad n x0 hok]; rfl
    rw [e1] at q0
    rw [e2] at q1
    clear hH8 hX8
    go_wp2_with fail
    refine (alive_any _).mono ?_
    rintro e w9 ⟨rfl, hb9⟩
    go_wp2
    go_ret
    exact ⟨rfl, B8.trans (hb9.mono s8)⟩
  · have eL := setWord_len n x0 hok
    have eW := setWord_bits n x0 hok
    have HX := Lib.hid hX8
    have HW := Lib.hid eW
    have HL := Lib.hid eL
    have HK := Lib.hid hok
    clear hX8 eW hok eL q0 q1
    go_wp2_with fail
    go_loopw [7] (fun i wr => ∃ k : Nat, k ≤ m.words.length ∧ i = .int .i64 k ∧ Held wr w1.heap.size A1 c1 A2 c2 m ∧ Held wr w3.heap.size X1 x1 X2 x2 (setWordM m n x0) ∧ Below w.heap.size w wr) (fun i _ => m.words.length - (intOf i).toNat)
    case atStart => exact ⟨0, by omega, rfl, hH8, HX.out, B8⟩
    case round =>
      obtain ⟨k, hk, rfl, hHr, hXr, hBr⟩ := hrel
      clear hH8 HX B8 p0 p1 s8
      obtain ⟨p0, p1⟩ := hHr.cells
      obtain ⟨q0, q1⟩ := hXr.cells
      have eL := HL.out
      by_cases hlt : k < m.words.length
      · obtain ⟨pa, rfl, ha⟩ := hHr.word hlt
        obtain ⟨pb, rfl, hb⟩ := hXr.word (j := k) (by omega)
        rw [setWord_at n x0 HK.out hlt (by omega)] at hb
        obtain ⟨x, hx⟩ : ∃ x, x = m.words[k] := ⟨_, rfl⟩
        rw [← hx] at ha hb
        clear hx
        have i0 : (0 : Int) ≤ (k : Int) := by omega
        have i1 : (k : Int) < (m.words.length : Int) := by omega
        have i2 : (k : Int) < ((setWordM m n x0).words.length : Int) := by omega
        have HH := Lib.hid hHr
        have HXr := Lib.hid hXr
        clear hHr hXr eL
        by_cases hkn : (k : Int) = n
        · rw [if_pos hkn] at hb
          have t1 : ((k : Int) != n) = false := by simpa using hkn
          have HN := Lib.hid hkn
          clear hkn
          go_wp2
          go_quiet (fail)
          go_wp2
          go_roundw
          case rel => exact ⟨k + 1, by omega, by go_num, HH.out.drewN _, HXr.out.drewN _, below_drewN' hBr _⟩
          case measure => simp [intOf]; omega
        · rw [if_neg hkn] at hb
          have t1 : ((k : Int) != n) = true := by simpa using hkn
          clear hkn
          go_wp2
          go_quiet (fail)
          go_wp2
          go_roundw
          case rel => exact ⟨k + 1, by omega, by go_num, HH.out.drewN _, HXr.out.drewN _, below_drewN' hBr _⟩
          case measure => simp [intOf]; omega
      · have hok2 := setWord_ok n x0 HK.out
        have HL2 := Lib.hid eL
        clear eL
        go_wp2_with fail
        refine (iImageValid_any _ (setWordM m n x0) _ hXr.read).mono ?_
        rintro e w9 ⟨rfl, hb9⟩
        have hH9 := hHr.below hb9
        have hX9 := hXr.below hb9
        have B9 := hBr.trans (hb9.mono hBr.size)
        clear hHr hXr hBr hb9 p0 p1 q0 q1
        obtain ⟨p0, p1⟩ := hH9.cells
        obtain ⟨q0, q1⟩ := hX9.cells
        have hw1 := hX9.bits
        have hw2 := hH9.bits
        have eW := HW.out
        have hw1' : BoolsR w9 w9.heap.size (.slice X1 (setWordM m n x0).bits.length x1) m.bits := by rw [← eW] at *; exact hw1
        clear hw1 eW
        go_wp2_with fail
        refine (sameBools_same _ _ m.bits _ hw1' hw2).mono ?_
        rintro e w10 ⟨rfl, hb10⟩
        have hX10 := hX9.below hb10
        have hH10 := hH9.below hb10
        have B10 := B9.trans (hb10.mono B9.size)
        clear hH9 hX9 B9 hb10 p0 p1 q0 q1 hw1' hw2
        obtain ⟨p0, p1⟩ := hH10.cells
        obtain ⟨q0, q1⟩ := hX10.cells
        by_cases h0 : n < 0
        · go_wp2
          go_ret
          exact ⟨rfl, B10⟩
        · by_cases h1 : (m.words.length : Int) ≤ n
          · go_wp2
            go_ret
            exact ⟨rfl, B10⟩
          · have hgw := setWord_get n x0 HK.out (by omega)
            go_wp2_with fail
            refine (iGetWord_any _ (setWordM m n x0) n _ hX10.read (by omega)).mono ?_
            rintro e w11 ⟨rfl, hb11⟩
            have B11 := B10.trans (hb11.mono B10.size)
            have HC := Lib.hid hgw
            by_cases g1 : x0 < -32768
            · have hc : getW (setWordM m n x0).words n = -32768 := by rw [hgw]; unfold clipW; omega
              clear hgw
              go_wp2
              all_goals
                go_ret
                exact ⟨ret_bool (by simp <;> omega), B11⟩
            · by_cases g2 : 32767 < x0
              · have hc : getW (setWordM m n x0).words n = 32767 := by rw [hgw]; unfold clipW; omega
                clear hgw
                go_wp2
                all_goals
                  go_ret
                  exact ⟨ret_bool (by simp <;> omega), B11⟩
              · have hc : getW (setWordM m n x0).words n = x0 := by rw [hgw]; unfold clipW; omega
                clear hgw
                go_wp2
                all_goals
                  go_ret
                  exact ⟨ret_bool (by simp <;> omega), B11⟩
end Go.Proofs.Ytoagnajljdbobaa
