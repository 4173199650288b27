/- The specification's functions on lists of words of chapter 7. -/
import Derived.Test.YtcpjafhhmhaenaaAW
import Derived.Test.YtcpjafhhmhaenaaE
import Derived.Test.YtcpjafhhmhaenaaIu
import Derived.StillTailTactics
import Derived.BigQuiet
namespace Go.Proofs.Ytcpjafhhmhaenaa
open Go.RowKit
attribute [local go_sem ↓] Go.wp_at_zero Go.wp_at_succ

theorem cell_int7 {w : World} {B : Nat} {A : Option Addr} {l : List Int} (h : Rd w B 1 A l.length (l.map (.int .i64))) {k : Nat} (hk : k < l.length) : ∃ p, A = some p ∧ p.block < B ∧ w.cell? (p.add k) = some (.int .i64 l[k]) := by
  obtain ⟨p, rfl, hp, hc⟩ := h.2 (by omega)
  refine ⟨p, rfl, hp, ?_⟩
  exact hc k _ (by simp [List.getElem?_map, List.getElem?_eq_getElem hk])
def avgTo (l : List Int) (win : Nat) (k : Nat) : List Int := (List.range k).map (avgAt l win)
theorem avgTo_succ (l : List Int) (win k : Nat) : avgTo l win (k + 1) = avgTo l win k ++ [avgAt l win k] := by
  unfold avgTo; rw [List.range_succ, List.map_append]; rfl
theorem avgL_len (l : List Int) (win : Int) : (avgL l win).length ≤ 200 := by
  unfold avgL; split
  · rename_i h; unfold avgOK at h; simp at h; simp; exact h.1
  · simp
theorem avgAt_word {l : List Int} {win k : Nat} (hw : 0 < win) (h : ∀ j, j ≤ k → inW (l.getD j 0) = true) : -32768 ≤ avgAt l win k ∧ avgAt l win k ≤ 32767 :=
  avg_bd hw fun j hj => inW_bd (h (k - j) (by omega))
theorem avgL_word {l : List Int} {win : Int} : ∀ x ∈ avgL l win, -32768 ≤ x ∧ x ≤ 32767 := by
  unfold avgL; split
  · rename_i h
    unfold avgOK at h; simp at h
    obtain ⟨h1, h2, h3⟩ := h
    have := inB_bd h2
    intro x hx
    simp at hx
    obtain ⟨k, hk, rfl⟩ := hx
    refine avgAt_word (by omega) fun j hj => ?_
    rw [List.getD_eq_getElem?_getD, List.getElem?_eq_getElem (by omega)]
    exact h3 _ (List.getElem_mem _)
  · intro x hx; cases hx
theorem allW_take {l : List Int} {k : Nat} (h : ∀ j, j < k → inW (l.getD j 0) = true) (hk : k < l.length) (hx : inW l[k] = true) : ∀ j, j < k + 1 → inW (l.getD j 0) = true := by
  intro j hj
  by_cases e : j = k
  · subst e; rw [List.getD_eq_getElem?_getD, List.getElem?_eq_getElem hk]; exact hx
  · exact h j (by omega)
theorem allW_all {l : List Int} (h : ∀ j, j < l.length → inW (l.getD j 0) = true) : l.all inW = true := by
  rw [List.all_eq_true]
  intro x hx
  obtain ⟨j, hj, rfl⟩ := List.getElem_of_mem hx
  have := h j hj
  rw [List.getD_eq_getElem?_getD, List.getElem?_eq_getElem hj] at this; exact this
theorem allW_no {l : List Int} {k : Nat} (hk : k < l.length) (hx : inW l[k] = false) : l.all inW = false := by
  rw [List.all_eq_false]
  exact ⟨l[k], List.getElem_mem _, by rw [hx]; simp⟩
set_option maxHeartbeats 4000000 in
theorem sMovingAverage_any (v : Value) (l : List Int) (win : Int) (w : World) (h : IntsR w w.heap.size v l) :
    Calls Try.prog 39 #[v, .int .i64 win] w (OwnIP (avgL l win) w) := by
  obtain ⟨A, c, rfl, hr, hl, hbd⟩ := h
  have hO0 := own_lit0 (W := w) (e := 3) (sz := 1) (base := w.heap.size) rfl (Nat.le_refl _)
  have hb0 : Below w.heap.size w (w.alloc (.cells #[] 3)) := (Below.refl _ _).alloc (Nat.le_refl _) _
  obtain ⟨D, hD⟩ : ∃ D, D = avgL l win := ⟨_, rfl⟩
  rw [← hD]
  by_cases h2 : 200 < l.length
  · have HD := Lib.hid (show D = [] by rw [hD]; unfold avgL avgOK; rw [decide_eq_false (by omega)]; rfl)
    clear hD
    go_enter Try.func39, Try.ntmps39
    go_wp2
    go_ret
    refine ⟨_, rfl, ?_, hb0⟩
    rw [HD.out]; exact hO0
  cases hi : inB win 1 50
  · have HD := Lib.hid (show D = [] by rw [hD]; unfold avgL avgOK; rw [hi]; simp)
    clear hD
    go_enter Try.func39, Try.ntmps39
    go_wp2_with fail
    refine (l1In_any _ _ _ _).mono ?_
    rw [hi]
    rintro e w2 ⟨rfl, rfl⟩
    go_wp2
    go_ret
    refine ⟨_, rfl, ?_, hb0⟩
    rw [HD.out]; exact hO0
  have hw := inB_bd hi
  obtain ⟨wn, rfl⟩ := Int.eq_ofNat_of_zero_le (show 0 ≤ win by omega)
  have hno := Lib.hid (fun (k : Nat) (hk : k < l.length) (hx : inW l[k] = false) => show D = [] by rw [hD]; unfold avgL avgOK; rw [allW_no hk hx]; simp)
  have hyes := Lib.hid (fun (hx : ∀ j, j < l.length → inW (l.getD j 0) = true) => show D = avgTo l wn l.length by rw [hD]; unfold avgL avgOK; rw [hi, allW_all hx, decide_eq_true (by omega)]; rfl)
  clear hD hbd
  go_enter Try.func39, Try.ntmps39
  go_wp2_with fail
  refine (l1In_any _ _ _ _).mono ?_
  rw [hi]
  rintro e w2 ⟨rfl, rfl⟩
  clear hi
  go_wp2_with fail
  go_loopw [5, 6] (fun v i wr => ∃ (k : Nat) (E : List Int), k ≤ l.length ∧ i = .int .i64 k ∧ E.length = k ∧ E = avgTo l wn k ∧ (∀ j, j < k → inW (l.getD j 0) = true) ∧ OwnI wr w.heap.size v E ∧ Below w.heap.size w wr) (fun _ i _ => l.length - (intOf i).toNat)
  case atStart => exact ⟨0, [], by omega, rfl, rfl, rfl, fun j hj => absurd hj (by omega), hO0, hb0⟩
  case round =>
    obtain ⟨k, E, hk, rfl, hEl, hE, hW, hO, hbr⟩ := hrel
    have HEl := Lib.hid hEl
    have HEE := Lib.hid hE
    have HWW := Lib.hid hW
    have hsz := hbr.size
    clear hO0 hb0 hEl hE hW
    obtain ⟨A1, c1, rfl, -, -⟩ := own_form hO
    by_cases hlt : k < l.length
    · obtain ⟨p, rfl, hpb, hc⟩ := cell_int7 hr hlt
      have g1 := (hbr.cell (p := p.add k) (by rw [add_block]; exact hpb)).trans hc
      have i1 : (k : Int) < (l.length : Int) := by omega
      clear hc
      go_wp2_with fail
      refine (l7Word_any l[k] _).mono ?_
      rintro e w3 ⟨rfl, rfl⟩
      cases hx : inW l[k]
      · have hD := hno.out k hlt hx
        go_wp2
        go_ret
        refine ⟨_, rfl, ?_, hbr.alloc hsz _⟩
        rw [hD]
        exact mono_own (own_lit0 rfl (Nat.le_refl _)) hsz
      · have HW1 := Lib.hid (allW_take HWW.out hlt hx)
        have HG := Lib.hid (fun (j : Nat) (hj : j ≤ k) => show wr.cell? (p.add (k - j)) = some (.int .i64 (l.getD (k - j) 0)) by
          obtain ⟨p', hp', hpb', hc'⟩ := cell_int7 hr (show k - j < l.length by omega)
          cases hp'
          rw [List.getD_eq_getElem?_getD, List.getElem?_eq_getElem (show k - j < l.length by omega)]
          exact (hbr.cell (p := p.add (k - j)) (by rw [add_block]; exact hpb')).trans hc')
        have HB := Lib.hid (fun (m : Nat) (hm : m ≤ k + 1) => winSum_bd (l := l) (k := k) (lo := -32768) (hi := 32767) m fun j hj => inW_bd (HW1.out (k - j) (by omega)))
        obtain ⟨many, hmany, hm1, hm2⟩ : ∃ many : Nat, ((k : Int) + 1 < wn ∧ many = k + 1 ∨ ¬ (k : Int) + 1 < wn ∧ many = wn) ∧ many = min wn (k + 1) ∧ (1 ≤ many ∧ many ≤ 50) := by
          by_cases hq : (k : Int) + 1 < wn
          · exact ⟨k + 1, .inl ⟨hq, rfl⟩, by omega, by omega⟩
          · exact ⟨wn, .inr ⟨hq, rfl⟩, by omega, by omega⟩
        have hAt := Lib.hid (show avgAt l wn k = winSum l k many / (many : Int) by unfold avgAt; rw [← hm1])
        have hmk : many ≤ k + 1 := by omega
        clear hx hm1
        rcases hmany with ⟨q, rfl⟩ | ⟨q, rfl⟩
        · go_wp2_with fail
          go_loopw [7, 9] (fun s j wx => ∃ m : Nat, wx = wr ∧ m ≤ (k + 1) ∧ j = .int .i64 m ∧ s = .int .i64 (winSum l k m)) (fun _ j _ => (k + 1) - (intOf j).toNat)
          case atStart => exact ⟨0, rfl, by omega, rfl, rfl⟩
          case round =>
            obtain ⟨m, rfl, hm, rfl, rfl⟩ := hrel
            have hs := HB.out m (by omega)
            by_cases hmm : m < (k + 1)
            · have hcell := HG.out m (by omega)
              have hy := inW_bd (HW1.out (k - m) (by omega))
              have hsu := Lib.hid (show winSum l k (m + 1) = winSum l k m + l.getD (k - m) 0 from rfl)
              obtain ⟨y, hye⟩ : ∃ y, y = l.getD (k - m) 0 := ⟨_, rfl⟩
              obtain ⟨S, hSe⟩ : ∃ S, S = winSum l k m := ⟨_, rfl⟩
              rw [← hye] at hcell hy hsu
              rw [← hSe] at hs hsu ⊢
              clear hye hSe
              have hm50 : m ≤ 50 := by omega
              go_wp2
              go_roundw
              case rel => exact ⟨m + 1, by first | rfl | trivial, by omega, by go_num, by rw [hsu.out]⟩
              case measure => simp [intOf]; omega
            · obtain rfl : (k + 1) = m := by omega
              obtain ⟨S, hSe⟩ : ∃ S, S = winSum l k (k + 1) := ⟨_, rfl⟩
              rw [← hSe] at hs hAt ⊢
              clear hSe
              go_wp2_with fail
              refine (l7Floor_any S _ _ (by omega) (by omega)).mono ?_
              rintro e w4 ⟨rfl, rfl⟩
              go_wp2_with (at_builtin; refine wpl_append rfl _ _ 39 rfl elI rfl (World.ownsRow.alloc hO _) rfl (Rd.new1 _ _ _) ?c1 ?c2 ?c3 ?c4 ?_)
              case c1 => first | rfl | (simp; rfl)
              case c2 => have := HEl.out; omega
              case c3 => have := HEl.out; omega
              case c4 => first | omega | (simp; omega)
              intro v' w5 hO5 hg5 _
              have R : OwnI w5 w.heap.size v' (E ++ [avgAt l wn k]) := by unfold OwnI; rw [hAt.out]; simpa using hO5
              have hb5 : Below w.heap.size w w5 := (hbr.alloc hsz _).grown hg5 (by simp; omega) (fun j hj => (hO.lt j hj).1)
              clear hO5 hg5 hO hbr g1
              go_wp2
              go_roundw
              case rel => exact ⟨k + 1, _, by omega, by go_num, by simp [HEl.out], by rw [HEE.out, avgTo_succ], HW1.out, R, hb5⟩
              case measure => simp [intOf]; omega
        · go_wp2_with fail
          go_loopw [7, 9] (fun s j wx => ∃ m : Nat, wx = wr ∧ m ≤ many ∧ j = .int .i64 m ∧ s = .int .i64 (winSum l k m)) (fun _ j _ => many - (intOf j).toNat)
          case atStart => exact ⟨0, rfl, by omega, rfl, rfl⟩
          case round =>
            obtain ⟨m, rfl, hm, rfl, rfl⟩ := hrel
            have hs := HB.out m (by omega)
            by_cases hmm : m < many
            · have hcell := HG.out m (by omega)
              have hy := inW_bd (HW1.out (k - m) (by omega))
              have hsu := Lib.hid (show winSum l k (m + 1) = winSum l k m + l.getD (k - m) 0 from rfl)
              obtain ⟨y, hye⟩ : ∃ y, y = l.getD (k - m) 0 := ⟨_, rfl⟩
              obtain ⟨S, hSe⟩ : ∃ S, S = winSum l k m := ⟨_, rfl⟩
              rw [← hye] at hcell hy hsu
              rw [← hSe] at hs hsu ⊢
              clear hye hSe
              have hm50 : m ≤ 50 := by omega
              go_wp2
              go_roundw
              case rel => exact ⟨m + 1, by first | rfl | trivial, by omega, by go_num, by rw [hsu.out]⟩
              case measure => simp [intOf]; omega
            · obtain rfl : many = m := by omega
              obtain ⟨S, hSe⟩ : ∃ S, S = winSum l k many := ⟨_, rfl⟩
              rw [← hSe] at hs hAt ⊢
              clear hSe
              go_wp2_with fail
              refine (l7Floor_any S _ _ (by omega) (by omega)).mono ?_
              rintro e w4 ⟨rfl, rfl⟩
              go_wp2_with (at_builtin; refine wpl_append rfl _ _ 39 rfl elI rfl (World.ownsRow.alloc hO _) rfl (Rd.new1 _ _ _) ?c1 ?c2 ?c3 ?c4 ?_)
              case c1 => first | rfl | (simp; rfl)
              case c2 => have := HEl.out; omega
              case c3 => have := HEl.out; omega
              case c4 => first | omega | (simp; omega)
              intro v' w5 hO5 hg5 _
              have R : OwnI w5 w.heap.size v' (E ++ [avgAt l many k]) := by unfold OwnI; rw [hAt.out]; simpa using hO5
              have hb5 : Below w.heap.size w w5 := (hbr.alloc hsz _).grown hg5 (by simp; omega) (fun j hj => (hO.lt j hj).1)
              clear hO5 hg5 hO hbr g1
              go_wp2
              go_roundw
              case rel => exact ⟨k + 1, _, by omega, by go_num, by simp [HEl.out], by rw [HEE.out, avgTo_succ], HW1.out, R, hb5⟩
              case measure => simp [intOf]; omega
    · go_wp2
      go_ret
      obtain rfl : k = l.length := by omega
      refine ⟨_, rfl, ?_, hbr⟩
      rw [hyes.out HWW.out, ← HEE.out]
      exact hO
def MedPost (l : List Int) (w : World) (e : Ending) (w' : World) : Prop := ∃ n, e = .returned (.int .i64 n) ∧ MedOf l n ∧ Below w.heap.size w w'
def ltC (l : List Int) (x : Int) (j : Nat) : Nat := (l.take j).countP fun y => decide (y < x)
def eqC (l : List Int) (x : Int) (j : Nat) : Nat := (l.take j).countP fun y => decide (y = x)
theorem ltC_le (l : List Int) (x : Int) (j : Nat) : ltC l x j ≤ l.length := Nat.le_trans List.countP_le_length (by simp; omega)
theorem eqC_le (l : List Int) (x : Int) (j : Nat) : eqC l x j ≤ l.length := Nat.le_trans List.countP_le_length (by simp; omega)
theorem ltC_yes {l : List Int} {x : Int} {j : Nat} (hj : j < l.length) (h : l[j] < x) : ltC l x (j + 1) = ltC l x j + 1 := by
  unfold ltC; rw [List.take_succ_eq_append_getElem hj, List.countP_append]; simp [h]
theorem ltC_no {l : List Int} {x : Int} {j : Nat} (hj : j < l.length) (h : ¬ l[j] < x) : ltC l x (j + 1) = ltC l x j := by
  unfold ltC; rw [List.take_succ_eq_append_getElem hj, List.countP_append]; simp; omega
theorem eqC_yes {l : List Int} {x : Int} {j : Nat} (hj : j < l.length) (h : l[j] = x) : eqC l x (j + 1) = eqC l x j + 1 := by
  unfold eqC; rw [List.take_succ_eq_append_getElem hj, List.countP_append]; simp [h]
theorem eqC_no {l : List Int} {x : Int} {j : Nat} (hj : j < l.length) (h : ¬ l[j] = x) : eqC l x (j + 1) = eqC l x j := by
  unfold eqC; rw [List.take_succ_eq_append_getElem hj, List.countP_append]; simp [h]
theorem leC_split (l : List Int) (x : Int) : l.countP (fun y => decide (y ≤ x)) = l.countP (fun y => decide (y < x)) + l.countP (fun y => decide (y = x)) := by
  induction l with
  | nil => rfl
  | cons a l ih =>
    simp only [List.countP_cons, ih]
    rcases Int.lt_trichotomy a x with h | h | h
    · simp [h, Int.le_of_lt h, show ¬ a = x by omega]; omega
    · simp [h]; omega
    · simp [show ¬ a ≤ x by omega, show ¬ a < x by omega, show ¬ a = x by omega]
theorem isMed_iff {l : List Int} {x : Int} (hx : x ∈ l) : IsMed l x ↔ ltC l x l.length ≤ l.length / 2 ∧ l.length / 2 < ltC l x l.length + eqC l x l.length := by
  unfold IsMed ltC eqC; rw [List.take_length, leC_split]
  exact ⟨fun h => h.2, fun h => ⟨hx, h⟩⟩
theorem below_drZ {B : Nat} {a w : World} (h : Below B a w) (n : Nat) : Below B a (w.drewN n) := ⟨h.os, h.tape, h.output, h.size, h.block⟩
theorem isMed_some {l : List Int} (h : medOK l = true) (hn : ∀ j (hj : j < l.length), ¬ IsMed l l[j]) : False := by
  obtain ⟨v, hv⟩ := med_exists h
  obtain ⟨j, hj, rfl⟩ := List.getElem_of_mem hv.1
  exact hn j hj hv
set_option maxHeartbeats 8000000 in
theorem sMedianOf_any (v : Value) (l : List Int) (w : World) (h : IntsR w w.heap.size v l) :
    Calls Try.prog 42 #[v] w (MedPost l w) := by
  obtain ⟨A, c, rfl, hr, hl, hbd⟩ := h
  have hmod : ((l.length : Int)).tmod 2 = ((l.length % 2 : Nat) : Int) := by rw [Int.tmod_eq_emod_of_nonneg (by omega)]; omega
  have hdiv : ((l.length : Int)).tdiv 2 = ((l.length / 2 : Nat) : Int) := by rw [Int.tdiv_eq_ediv_of_nonneg (by omega)]; omega
  by_cases hev : l.length % 2 = 0
  · have hm := Lib.hid (show MedOf l 0 by unfold MedOf medOK; rw [decide_eq_false (by omega)]; simp)
    rw [hev] at hmod
    go_enter Try.func42, Try.ntmps42
    go_wp2
    go_ret
    exact ⟨0, rfl, hm.out, Below.refl _ _⟩
  have hod : l.length % 2 = 1 := by omega
  rw [hod] at hmod
  by_cases h15 : 15 < l.length
  · have hm := Lib.hid (show MedOf l 0 by unfold MedOf medOK; rw [decide_eq_false (show ¬ l.length ≤ 15 by omega)]; simp)
    go_enter Try.func42, Try.ntmps42
    go_wp2
    go_ret
    exact ⟨0, rfl, hm.out, Below.refl _ _⟩
  have hno := Lib.hid (fun (k : Nat) (hk : k < l.length) (hx : inW l[k] = false) => show MedOf l 0 by unfold MedOf medOK; rw [allW_no hk hx]; simp)
  have hyes := Lib.hid (fun (hx : ∀ j, j < l.length → inW (l.getD j 0) = true) => show medOK l = true by unfold medOK; rw [allW_all hx, decide_eq_true hod, decide_eq_true (show l.length ≤ 15 by omega)]; rfl)
  have hl15 : l.length ≤ 15 := by omega
  clear hbd hl h15 hev
  go_enter Try.func42, Try.ntmps42
  go_wp2
  go_loopw [3] (fun i wr => ∃ k : Nat, w = wr ∧ k ≤ l.length ∧ i = .int .i64 k ∧ (∀ j, j < k → inW (l.getD j 0) = true)) (fun i _ => l.length - (intOf i).toNat)
  case atStart => exact ⟨0, rfl, by omega, rfl, fun j hj => absurd hj (by omega)⟩
  case round =>
    obtain ⟨k, rfl, hk, rfl, hW⟩ := hrel
    have HWW := Lib.hid hW
    clear hW
    by_cases hlt : k < l.length
    · obtain ⟨p, rfl, hpb, hc⟩ := cell_int7 hr hlt
      have i1 : (k : Int) < (l.length : Int) := by omega
      go_wp2_with fail
      refine (l7Word_any l[k] _).mono ?_
      rintro e w3 ⟨rfl, rfl⟩
      cases hx : inW l[k]
      · have hD := Lib.hid (hno.out k hlt hx)
        go_wp2
        go_ret
        exact ⟨0, rfl, hD.out, Below.refl _ _⟩
      · have HW1 := Lib.hid (allW_take HWW.out hlt hx)
        clear hx
        go_wp2
        go_roundw
        case rel => exact ⟨k + 1, by first | rfl | trivial, by omega, by go_num, HW1.out⟩
        case measure => simp [intOf]; omega
    · obtain rfl : l.length = k := by omega
      have hok := Lib.hid (hyes.out HWW.out)
      clear hno hyes HWW hk hlt
      go_wp2
      go_loopw [4] (fun i wx => ∃ k : Nat, k ≤ l.length ∧ i = .int .i64 k ∧ (∀ j (hj : j < l.length), j < k → ¬ IsMed l l[j]) ∧ Below w.heap.size w wx) (fun i _ => l.length - (intOf i).toNat)
      case atStart => exact ⟨0, by omega, rfl, fun j _ hj => absurd hj (by omega), Below.refl _ _⟩
      case round =>
        obtain ⟨k, hk, rfl, hN, hbr⟩ := hrel
        have HN := Lib.hid hN
        clear hN
        by_cases hlt : k < l.length
        · have i1 : (k : Int) < (l.length : Int) := by omega
          have hmem : l[k] ∈ l := List.getElem_mem _
          have HM := Lib.hid (isMed_iff hmem)
          have HLt := Lib.hid (fun j => ltC_le l l[k] j)
          have HEq := Lib.hid (fun j => eqC_le l l[k] j)
          have HC := Lib.hid (fun (j : Nat) (hj : j < l.length) => cell_int7 hr hj)
          have HS1 := Lib.hid (fun (j : Nat) (hj : j < l.length) (h : l[j] < l[k]) => ltC_yes hj h)
          have HS2 := Lib.hid (fun (j : Nat) (hj : j < l.length) (h : ¬ l[j] < l[k]) => ltC_no hj h)
          have HS3 := Lib.hid (fun (j : Nat) (hj : j < l.length) (h : l[j] = l[k]) => eqC_yes hj h)
          have HS4 := Lib.hid (fun (j : Nat) (hj : j < l.length) (h : ¬ l[j] = l[k]) => eqC_no hj h)
          clear hmem
          go_wp2
          go_loopw [5, 6, 7] (fun a b j wx => ∃ m : Nat, m ≤ l.length ∧ j = .int .i64 m ∧ a = .int .i64 (ltC l l[k] m) ∧ b = .int .i64 (eqC l l[k] m) ∧ Below w.heap.size w wx) (fun _ _ j _ => l.length - (intOf j).toNat)
          case atStart => exact ⟨0, by omega, rfl, rfl, rfl, hbr⟩
          case round =>
            obtain ⟨m, hm, rfl, rfl, rfl, hbx⟩ := hrel
            clear hbr
            by_cases hmm : m < l.length
            · have i2 : (m : Int) < (l.length : Int) := by omega
              obtain ⟨p, rfl, hpb, hc⟩ := HC.out k hlt
              obtain ⟨p', hp', -, hc'⟩ := HC.out m hmm
              cases hp'
              have hc1 := (hbx.cell (p := p.add k) (by rw [add_block]; exact hpb)).trans hc
              have hc2 := (hbx.cell (p := p.add m) (by rw [add_block]; exact hpb)).trans hc'
              have hL1 := HLt.out m
              have hE1 := HEq.out m
              clear hc hc'
              rcases Int.lt_trichotomy l[m] l[k] with h | h | h
              · have E1 := Lib.hid (HS1.out m hmm h)
                have E2 := Lib.hid (HS4.out m hmm (by omega))
                obtain ⟨y, hy⟩ : ∃ y, y = l[m] := ⟨_, rfl⟩
                obtain ⟨x, hx⟩ : ∃ x, x = l[k] := ⟨_, rfl⟩
                rw [← hx] at h hc1 hL1 hE1 E1 E2 ⊢
                rw [← hy] at h hc2
                have HX := Lib.hid hx
                clear hy hx
                have d1 : decide (y < x) = true := by simpa using h
                have d2 : (y == x) = false := by rw [beq_eq_false_iff_ne]; omega
                go_wp2_with fail
                go_quiet (fail)
                go_wp2_with fail
                go_quiet (fail)
                go_wp2
                go_roundw
                case rel => exact ⟨m + 1, by omega, by go_num, by first | (rw [E1.out]; done) | (rw [E1.out]; go_num), by first | (rw [E2.out]; done) | (rw [E2.out]; go_num), below_drZ hbx _⟩
                case measure => simp [intOf]; omega
              · have E1 := Lib.hid (HS2.out m hmm (by omega))
                have E2 := Lib.hid (HS3.out m hmm h)
                obtain ⟨y, hy⟩ : ∃ y, y = l[m] := ⟨_, rfl⟩
                obtain ⟨x, hx⟩ : ∃ x, x = l[k] := ⟨_, rfl⟩
                rw [← hx] at h hc1 hL1 hE1 E1 E2 ⊢
                rw [← hy] at h hc2
                have HX := Lib.hid hx
                clear hy hx
                subst h
                have d1 : decide (y < y) = false := by simp
                have d2 : (y == y) = true := by simp
                go_wp2_with fail
                go_quiet (fail)
                go_wp2_with fail
                go_quiet (fail)
                go_wp2
                go_roundw
                case rel => exact ⟨m + 1, by omega, by go_num, by first | (rw [E1.out]; done) | (rw [E1.out]; go_num), by first | (rw [E2.out]; done) | (rw [E2.out]; go_num), below_drZ hbx _⟩
                case measure => simp [intOf]; omega
              · have E1 := Lib.hid (HS2.out m hmm (by omega))
                have E2 := Lib.hid (HS4.out m hmm (by omega))
                obtain ⟨y, hy⟩ : ∃ y, y = l[m] := ⟨_, rfl⟩
                obtain ⟨x, hx⟩ : ∃ x, x = l[k] := ⟨_, rfl⟩
                rw [← hx] at h hc1 hL1 hE1 E1 E2 ⊢
                rw [← hy] at h hc2
                have HX := Lib.hid hx
                clear hy hx
                have d1 : decide (y < x) = false := by simp; omega
                have d2 : (y == x) = false := by rw [beq_eq_false_iff_ne]; omega
                go_wp2_with fail
                go_quiet (fail)
                go_wp2_with fail
                go_quiet (fail)
                go_wp2
                go_roundw
                case rel => exact ⟨m + 1, by omega, by go_num, by first | (rw [E1.out]; done) | (rw [E1.out]; go_num), by first | (rw [E2.out]; done) | (rw [E2.out]; go_num), below_drZ hbx _⟩
                case measure => simp [intOf]; omega
            · obtain rfl : l.length = m := by omega
              have hL1 := HLt.out l.length
              have hE1 := HEq.out l.length
              have HN2 := Lib.hid (fun (hq : ¬ IsMed l l[k]) (j : Nat) (hj : j < l.length) (hjk : j < k + 1) => show ¬ IsMed l l[j] by
                by_cases e : j = k
                · subst e; exact hq
                · exact HN.out j hj (by omega))
              obtain ⟨p, rfl, hpb, hc⟩ := HC.out k hlt
              have hc1 := (hbx.cell (p := p.add k) (by rw [add_block]; exact hpb)).trans hc
              clear hc
              obtain ⟨a, ha⟩ : ∃ a, a = ltC l l[k] l.length := ⟨_, rfl⟩
              obtain ⟨b, hb⟩ : ∃ b, b = eqC l l[k] l.length := ⟨_, rfl⟩
              rw [← ha, ← hb] at HM
              rw [← ha] at hL1 ⊢
              rw [← hb] at hE1 ⊢
              clear ha hb HS1 HS2 HS3 HS4 HLt HEq HC hm hmm
              by_cases q1 : a ≤ l.length / 2
              · by_cases q2 : l.length / 2 < a + b
                · have hmed := Lib.hid (show MedOf l l[k] by unfold MedOf; rw [if_pos hok.out]; exact HM.out.2 ⟨q1, q2⟩)
                  go_wp2
                  go_ret
                  exact ⟨_, rfl, hmed.out, hbx⟩
                · have hq := Lib.hid (HN2.out fun h => q2 (HM.out.1 h).2)
                  go_wp2
                  go_roundw
                  case rel => exact ⟨k + 1, by omega, by go_num, hq.out, hbx⟩
                  case measure => simp [intOf]; omega
              · have hq := Lib.hid (HN2.out fun h => q1 (HM.out.1 h).1)
                go_wp2
                go_roundw
                case rel => exact ⟨k + 1, by omega, by go_num, hq.out, hbx⟩
                case measure => simp [intOf]; omega
        · obtain rfl : l.length = k := by omega
          exact (isMed_some hok.out fun j hj => HN.out j hj hj).elim
end Go.Proofs.Ytcpjafhhmhaenaa
