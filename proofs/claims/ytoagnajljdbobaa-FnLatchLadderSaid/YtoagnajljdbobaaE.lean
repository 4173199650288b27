/- Contracts of chapter 1: bits and words read, images valid and made, by the program and by the specification. A copy of an image, by the specification. -/
import Derived.Test.YtoagnajljdbobaaD
namespace Go.Proofs.Ytoagnajljdbobaa
open Go.RowKit
attribute [local go_sem ↓] Go.wp_at_zero Go.wp_at_succ

theorem getB_out {l : List Bool} {n : Int} (h : ¬ (0 ≤ n ∧ n < l.length)) : getB l n = false := by unfold getB; rw [if_neg h]
theorem getB_in {l : List Bool} {k : Nat} (h : k < l.length) : getB l k = l[k] := by unfold getB; rw [if_pos (by omega)]; simp [h]
theorem getW_out {l : List Int} {n : Int} (h : ¬ (0 ≤ n ∧ n < l.length)) : getW l n = 0 := by unfold getW; rw [if_neg h]
theorem getW_in {l : List Int} {k : Nat} (h : k < l.length) : getW l k = l[k] := by unfold getW; rw [if_pos (by omega)]; simp [h]
theorem inB_true {n lo hi : Int} (h : lo ≤ n ∧ n ≤ hi) : inB n lo hi = true := by unfold inB; simp; omega
theorem inB_false {n lo hi : Int} (h : ¬ (lo ≤ n ∧ n ≤ hi)) : inB n lo hi = false := by
  unfold inB
  by_cases h1 : lo ≤ n
  · simp [h1]; omega
  · simp [h1]
theorem l1In_in (n lo hi : Int) (w : World) (h : lo ≤ n ∧ n ≤ hi) : Calls Try.prog 81 #[.int .i64 n, .int .i64 lo, .int .i64 hi] w fun e w' => e = .returned (.bool true) ∧ w = w' :=
  (l1In_any n lo hi w).mono fun _ _ ⟨he, hw⟩ => ⟨by rw [he, inB_true h], hw⟩
theorem l1In_out (n lo hi : Int) (w : World) (h : ¬ (lo ≤ n ∧ n ≤ hi)) : Calls Try.prog 81 #[.int .i64 n, .int .i64 lo, .int .i64 hi] w fun e w' => e = .returned (.bool false) ∧ w = w' :=
  (l1In_any n lo hi w).mono fun _ _ ⟨he, hw⟩ => ⟨by rw [he, inB_false h], hw⟩

set_option maxHeartbeats 400000 in
theorem iGetBit_any (v : Value) (m : Img) (n : Int) (w : World) (h : ImgR w w.heap.size v m) (_hn : -9223372036854775808 ≤ n ∧ n ≤ 9223372036854775807) :
    Calls Try.prog 28 #[v, .int .i64 n] w fun e w' => e = .returned (.bool (getB m.bits n)) ∧ Below w.heap.size w w' := by
  obtain ⟨v1, v2, rfl, h1, h2⟩ := h
  obtain ⟨A', c', e'⟩ := h2.form
  subst e'
  clear h2
  obtain ⟨A, c, rfl, hr, hl⟩ := h1
  by_cases h0 : 0 ≤ n
  · by_cases h1' : n < m.bits.length
    · obtain ⟨k, rfl⟩ := Int.eq_ofNat_of_zero_le h0
      replace h1' : k < m.bits.length := by omega
      obtain ⟨p, u, rfl, hpb, hu, hc⟩ := hr.one h1'
      have hx : u = .bool m.bits[k] := by rw [List.getElem?_map, List.getElem?_eq_getElem h1'] at hu; simpa using hu.symm
      subst hx
      clear hu
      have hne : p.block ≠ w.heap.size := by omega
      have g1 : ∀ o, (w.alloc o).cell? (p.add k) = some (.bool m.bits[k]) := fun o => (World.cell?_alloc_lt w o _ (by rw [add_block]; exact hpb)).trans hc
      clear hc hr
      have i1 : (k : Int) < (m.bits.length : Int) := by omega
      go_enter Try.func28, Try.ntmps28
      go_wp2
      go_ret
      exact ⟨ret_bool (getB_in h1').symm, (Below.refl _ _).alloc (Nat.le_refl _) _⟩
    · 
      go_enter Try.func28, Try.ntmps28
      go_wp2
      go_ret
      exact ⟨ret_bool (getB_out (by omega)).symm, (Below.refl _ _).alloc (Nat.le_refl _) _⟩
  · 
    go_enter Try.func28, Try.ntmps28
    go_wp2
    go_ret
    exact ⟨ret_bool (getB_out (by omega)).symm, (Below.refl _ _).alloc (Nat.le_refl _) _⟩

set_option maxHeartbeats 400000 in
theorem iGetWord_any (v : Value) (m : Img) (n : Int) (w : World) (h : ImgR w w.heap.size v m) (_hn : -9223372036854775808 ≤ n ∧ n ≤ 9223372036854775807) :
    Calls Try.prog 37 #[v, .int .i64 n] w fun e w' => e = .returned (.int .i64 (getW m.words n)) ∧ Below w.heap.size w w' := by
  obtain ⟨v1, v2, rfl, h1, h2⟩ := h
  obtain ⟨A', c', e'⟩ := h1.form
  subst e'
  clear h1
  obtain ⟨A, c, rfl, hr, hl, hbd⟩ := h2
  by_cases h0 : 0 ≤ n
  · by_cases h1' : n < m.words.length
    · obtain ⟨k, rfl⟩ := Int.eq_ofNat_of_zero_le h0
      replace h1' : k < m.words.length := by omega
      obtain ⟨p, u, rfl, hpb, hu, hc⟩ := hr.one h1'
      have hx : u = .int .i64 m.words[k] := by rw [List.getElem?_map, List.getElem?_eq_getElem h1'] at hu; simpa using hu.symm
      subst hx
      clear hu
      have hne : p.block ≠ w.heap.size := by omega
      have g1 : ∀ o, (w.alloc o).cell? (p.add k) = some (.int .i64 m.words[k]) := fun o => (World.cell?_alloc_lt w o _ (by rw [add_block]; exact hpb)).trans hc
      clear hc hr
      have i1 : (k : Int) < (m.words.length : Int) := by omega
      go_enter Try.func37, Try.ntmps37
      go_wp2
      go_ret
      exact ⟨ret_int (getW_in h1').symm, (Below.refl _ _).alloc (Nat.le_refl _) _⟩
    · 
      go_enter Try.func37, Try.ntmps37
      go_wp2
      go_ret
      exact ⟨ret_int (getW_out (by omega)).symm, (Below.refl _ _).alloc (Nat.le_refl _) _⟩
  · 
    go_enter Try.func37, Try.ntmps37
    go_wp2
    go_ret
    exact ⟨ret_int (getW_out (by omega)).symm, (Below.refl _ _).alloc (Nat.le_refl _) _⟩

theorem l1Clip_any (x : Int) (w : World) : Calls Try.prog 90 #[.int .i64 x, .int .i64 (-32768), .int .i64 32767] w fun e w' => e = .returned (.int .i64 (clipW x)) ∧ w = w' := by
  go_enter Try.func90, Try.ntmps90
  go_wp2
  all_goals
    go_ret
    exact ⟨ret_int (by unfold clipW; omega), rfl⟩
theorem imgOK_words {m : Img} (h : wordsOK m.words = false) : false = imgOK m := by unfold imgOK; rw [h]; simp
set_option maxHeartbeats 400000 in
theorem sImageValid_any (v : Value) (m : Img) (w : World) (h : ImgR w w.heap.size v m) :
    Calls Try.prog 22 #[v] w fun e w' => e = .returned (.bool (imgOK m)) ∧ Below w.heap.size w w' := by
  obtain ⟨v1, v2, rfl, h1, h2⟩ := h
  obtain ⟨A', c', e'⟩ := h1.form
  subst e'
  clear h1
  obtain ⟨A, c, rfl, hr, hl, hbd⟩ := h2
  have B0 : ∀ o, Below w.heap.size w (w.alloc o) := fun o => (Below.refl _ _).alloc (Nat.le_refl _) _
  go_enter Try.func22, Try.ntmps22
  go_wp2
  go_loop [3] (fun i => ∃ k : Nat, k ≤ m.words.length ∧ i = .int .i64 k ∧ (m.words.take k).all (fun x => inB x (-32768) 32767) = true) (fun i => m.words.length - (intOf i).toNat)
  case atStart => exact ⟨0, by omega, rfl, by simp⟩
  case round =>
    obtain ⟨k, hk, rfl, hall⟩ := hrel
    have H := Lib.hid hall
    clear hall
    by_cases hlt : k < m.words.length
    · obtain ⟨p, u, rfl, hpb, hu, hc⟩ := hr.one hlt
      have hx : u = .int .i64 m.words[k] := by rw [List.getElem?_map, List.getElem?_eq_getElem hlt] at hu; simpa using hu.symm
      subst hx
      clear hu
      have g1 : ∀ o, (w.alloc o).cell? (p.add k) = some (.int .i64 m.words[k]) := fun o => (World.cell?_alloc_lt w o _ (by rw [add_block]; exact hpb)).trans hc
      clear hc hr
      have hbk := hbd m.words[k] (List.getElem_mem hlt)
      have i1 : (k : Int) < (m.words.length : Int) := by omega
      by_cases hin : inB m.words[k] (-32768) 32767 = true
      · go_wp2_with (go_at_call 81; refine (l1In_any _ _ _ _).mono ?_; rintro e w' ⟨rfl, rfl⟩)
        go_round
        case rel => exact ⟨k + 1, by omega, by go_num, by rw [all_take_snoc _ _ _ hlt, H.out, hin]; rfl⟩
        case measure => simp [intOf]; omega
      · have hin' : inB m.words[k] (-32768) 32767 = false := by simpa using hin
        clear hin
        go_wp2_with (go_at_call 81; refine (l1In_any _ _ _ _).mono ?_; rintro e w' ⟨rfl, rfl⟩)
        go_ret
        exact ⟨ret_bool (imgOK_words (all_false_of _ _ k hlt hin')), B0 _⟩
    · have hw : wordsOK m.words = true := by have := H.out; rw [List.take_of_length_le (by omega)] at this; exact this
      by_cases h16 : m.bits.length ≤ 16
      all_goals
        have H16 := Lib.hid h16
        go_wp2
        go_ret
        exact ⟨ret_bool (by unfold imgOK; rw [hw]; have := H16.out; simp [this] <;> omega), B0 _⟩
end Go.Proofs.Ytoagnajljdbobaa

namespace Go.Proofs.Ytoagnajljdbobaa
open Go.RowKit
attribute [local go_sem ↓] Go.wp_at_zero Go.wp_at_succ
theorem own_lit0 {base : Nat} {W : World} {e sz g : Nat} (hg : W.heap.size = g) (h : base ≤ g) : (W.alloc (.cells #[] e)).ownsRow base e sz (.slice (some ⟨g, 0, none⟩) 0 0) 0 [] := by
  subst hg; exact World.ownsRow_lit W #[] 0 h (by simp [maxLen]) (by simp)
theorem Rd.mono {w w' : World} {B sz n : Nat} {A : Option Addr} {xs : List Value} (h : Rd w B sz A n xs) (hb : Below B w w') : Rd w' B sz A n xs := h.keep (fun _ hp => hb.cell hp) (Nat.le_refl _)
theorem below_al {B : Nat} {a w : World} (hB : B ≤ w.heap.size) (h : Below B a w) (o : Obj) : Below B a (w.alloc o) := h.alloc hB o
/-- Behind a law on an owned row: what a block of another number holds. -/
theorem grown_kept {w w' : World} {row : Option Nat} (hg : w.grownBy w' row) (n : Nat) (hn : n < w.heap.size) (hne : row ≠ some n) :
    (∀ o, w'.cell? ⟨n, o, none⟩ = w.cell? ⟨n, o, none⟩) ∧ (∀ o, w'.frozen? ⟨n, o, none⟩ = w.frozen? ⟨n, o, none⟩) ∧ n < w'.heap.size :=
  ⟨fun _ => World.cell?_of_block (w := w) (hg.block n hn (Ne.symm hne)), fun _ => World.frozen?_of_block (w := w) (hg.block n hn (Ne.symm hne)), Nat.lt_of_lt_of_le hn hg.size⟩
set_option maxHeartbeats 1000000 in
theorem l1Copy_any (v : Value) (m : Img) (w : World) (h : ImgR w w.heap.size v m) :
    Calls Try.prog 87 #[v] w fun e w' => ∃ v', e = .returned v' ∧ OwnM w' w.heap.size v' m ∧ Below w.heap.size w w' := by
  obtain ⟨v1, v2, rfl, ⟨A, c, rfl, hr, hl⟩, ⟨A2, c2, rfl, hr2, hl2, hb2⟩⟩ := h
  go_enter Try.func87, Try.ntmps87
  go_wp2_with fail
  go_region_held3 (fun w' => w'.cell? ⟨w.heap.size, 0, none⟩ = some (.slice A m.bits.length c) ∧ w'.cell? ⟨w.heap.size, 1, none⟩ = some (.slice A2 m.words.length c2)) (first | go_keep)
    (first
      | (refine step_append (v := .slice (some ⟨w.heap.size + 1 + 1, 0, none⟩) 0 0) (n := 0) (xs := []) (base := w.heap.size + 1 + 1) (A := A) (m := m.bits.length) (c := c) (news := m.bits.map .bool) (B := w.heap.size) (by rfl) _ _ 23 (by rfl) elB (by rfl) ?_ (by rfl) ?_ (one_b _) ?_ ?_ ?_ ?_; (first | (refine (own_lit0 ?_ ?_).drew; (simp); omega) | (refine ((own_lit0 ?_ ?_).alloc _).drew; (simp); omega)); refine hr.mono ?_; (repeat (first | exact Below.refl _ _ | assumption | (with_reducible refine Below.drew ?_) | ((with_reducible refine below_al ?_ ?_ _); (first | omega | (simp <;> omega))))); omega; omega; (first | omega | (simp <;> omega)); intro u1 w1 hown1 hg1 hx1; have B1 := (show Below w.heap.size w _ from by (repeat (first | exact Below.refl _ _ | assumption | (with_reducible refine Below.drew ?_) | ((with_reducible refine below_al ?_ ?_ _); (first | omega | (simp <;> omega)))))).grown hg1 (by first | omega | (simp <;> omega)) (by intro k hk; simp [Value.ownBlock] at hk; omega); obtain ⟨j0, j1, j2⟩ := grown_kept hg1 w.heap.size (by first | omega | (simp <;> omega)) (by simp [Value.ownBlock] <;> omega); obtain ⟨j3, j4, j5⟩ := grown_kept hg1 (w.heap.size + 1) (by first | omega | (simp <;> omega)) (by simp [Value.ownBlock] <;> omega); have s1 := hg1.size; simp at s1; obtain ⟨A1, c1, rfl, -, -⟩ := own_form hown1)
      | (refine step_append (v := .slice (some ⟨w.heap.size + 1 + 1 + 1, 0, none⟩) 0 0) (n := 0) (xs := []) (base := w.heap.size + 1 + 1) (A := A) (m := m.bits.length) (c := c) (news := m.bits.map .bool) (B := w.heap.size) (by rfl) _ _ 23 (by rfl) elB (by rfl) ?_ (by rfl) ?_ (one_b _) ?_ ?_ ?_ ?_; (first | (refine (own_lit0 ?_ ?_).drew; (simp); omega) | (refine ((own_lit0 ?_ ?_).alloc _).drew; (simp); omega)); refine hr.mono ?_; (repeat (first | exact Below.refl _ _ | assumption | (with_reducible refine Below.drew ?_) | ((with_reducible refine below_al ?_ ?_ _); (first | omega | (simp <;> omega))))); omega; omega; (first | omega | (simp <;> omega)); intro u1 w1 hown1 hg1 hx1; have B1 := (show Below w.heap.size w _ from by (repeat (first | exact Below.refl _ _ | assumption | (with_reducible refine Below.drew ?_) | ((with_reducible refine below_al ?_ ?_ _); (first | omega | (simp <;> omega)))))).grown hg1 (by first | omega | (simp <;> omega)) (by intro k hk; simp [Value.ownBlock] at hk; omega); obtain ⟨j0, j1, j2⟩ := grown_kept hg1 w.heap.size (by first | omega | (simp <;> omega)) (by simp [Value.ownBlock] <;> omega); obtain ⟨j3, j4, j5⟩ := grown_kept hg1 (w.heap.size + 1) (by first | omega | (simp <;> omega)) (by simp [Value.ownBlock] <;> omega); have s1 := hg1.size; simp at s1; obtain ⟨A1, c1, rfl, -, -⟩ := own_form hown1)
      | (have hp := own_lit0 (W := w1) (base := w.heap.size + 1 + 1) (e := 3) (sz := 1) rfl (by omega); have hq := hown1.alloc (.cells #[] 3); refine step_append (v := .slice (some ⟨w1.heap.size, 0, none⟩) 0 0) (n := 0) (xs := []) (base := w.heap.size + 1 + 1) (A := A2) (m := m.words.length) (c := c2) (news := m.words.map (.int .i64)) (B := w.heap.size) (by rfl) _ _ 24 (by rfl) elI (by rfl) hp (by rfl) ?_ (one_i _) ?_ ?_ ?_ ?_; refine hr2.mono ?_; (repeat (first | exact Below.refl _ _ | assumption | (with_reducible refine Below.drew ?_) | ((with_reducible refine below_al ?_ ?_ _); (first | omega | (simp <;> omega))))); omega; omega; (first | omega | (simp <;> omega)); intro u2 w2 hown2 hg2 hx2; have F1 := hq.kept hg2 (own_ne hq hp (by decide)); have B2 := (show Below w.heap.size w _ from by (repeat (first | exact Below.refl _ _ | assumption | (with_reducible refine Below.drew ?_) | ((with_reducible refine below_al ?_ ?_ _); (first | omega | (simp <;> omega)))))).grown hg2 (by first | omega | (simp <;> omega)) (by intro k hk; simp [Value.ownBlock] at hk; omega); obtain ⟨k0, k1, k2⟩ := grown_kept hg2 w.heap.size (by first | omega | (simp <;> omega)) (by simp [Value.ownBlock] <;> omega); obtain ⟨k3, k4, k5⟩ := grown_kept hg2 (w.heap.size + 1) (by first | omega | (simp <;> omega)) (by simp [Value.ownBlock] <;> omega); obtain ⟨A3, c3, rfl, -, -⟩ := own_form hown2)
      | (have hp := World.ownsRow.kept (v := .slice (some ⟨w.heap.size + 1 + 1 + 1, 0, none⟩) 0 0) (World.ownsRow.drew (own_lit0 (base := w.heap.size + 1 + 1) (e := 3) (sz := 1) (by simp) (by omega))) hg1 (.inr (by simp [Value.ownBlock])); have hq := hown1; refine step_append (v := .slice (some ⟨w.heap.size + 1 + 1 + 1, 0, none⟩) 0 0) (n := 0) (xs := []) (base := w.heap.size + 1 + 1) (A := A2) (m := m.words.length) (c := c2) (news := m.words.map (.int .i64)) (B := w.heap.size) (by rfl) _ _ 24 (by rfl) elI (by rfl) hp (by rfl) ?_ (one_i _) ?_ ?_ ?_ ?_; refine hr2.mono ?_; (repeat (first | exact Below.refl _ _ | assumption | (with_reducible refine Below.drew ?_) | ((with_reducible refine below_al ?_ ?_ _); (first | omega | (simp <;> omega))))); omega; omega; (first | omega | (simp <;> omega)); intro u2 w2 hown2 hg2 hx2; have F1 := hq.kept hg2 (own_ne hq hp (by decide)); have B2 := (show Below w.heap.size w _ from by (repeat (first | exact Below.refl _ _ | assumption | (with_reducible refine Below.drew ?_) | ((with_reducible refine below_al ?_ ?_ _); (first | omega | (simp <;> omega)))))).grown hg2 (by first | omega | (simp <;> omega)) (by intro k hk; simp [Value.ownBlock] at hk; omega); obtain ⟨k0, k1, k2⟩ := grown_kept hg2 w.heap.size (by first | omega | (simp <;> omega)) (by simp [Value.ownBlock] <;> omega); obtain ⟨k3, k4, k5⟩ := grown_kept hg2 (w.heap.size + 1) (by first | omega | (simp <;> omega)) (by simp [Value.ownBlock] <;> omega); obtain ⟨A3, c3, rfl, -, -⟩ := own_form hown2)
      | (have hp := World.ownsRow.kept (v := .slice (some ⟨w.heap.size + 1 + 1, 0, none⟩) 0 0) (World.ownsRow.drew (World.ownsRow.alloc (own_lit0 (base := w.heap.size + 1 + 1) (e := 3) (sz := 1) (by simp) (by omega)) _)) hg1 (.inr (by simp [Value.ownBlock])); have hq := hown1; refine step_append (v := .slice (some ⟨w.heap.size + 1 + 1, 0, none⟩) 0 0) (n := 0) (xs := []) (base := w.heap.size + 1 + 1) (A := A2) (m := m.words.length) (c := c2) (news := m.words.map (.int .i64)) (B := w.heap.size) (by rfl) _ _ 24 (by rfl) elI (by rfl) hp (by rfl) ?_ (one_i _) ?_ ?_ ?_ ?_; refine hr2.mono ?_; (repeat (first | exact Below.refl _ _ | assumption | (with_reducible refine Below.drew ?_) | ((with_reducible refine below_al ?_ ?_ _); (first | omega | (simp <;> omega))))); omega; omega; (first | omega | (simp <;> omega)); intro u2 w2 hown2 hg2 hx2; have F1 := hq.kept hg2 (own_ne hq hp (by decide)); have B2 := (show Below w.heap.size w _ from by (repeat (first | exact Below.refl _ _ | assumption | (with_reducible refine Below.drew ?_) | ((with_reducible refine below_al ?_ ?_ _); (first | omega | (simp <;> omega)))))).grown hg2 (by first | omega | (simp <;> omega)) (by intro k hk; simp [Value.ownBlock] at hk; omega); obtain ⟨k0, k1, k2⟩ := grown_kept hg2 w.heap.size (by first | omega | (simp <;> omega)) (by simp [Value.ownBlock] <;> omega); obtain ⟨k3, k4, k5⟩ := grown_kept hg2 (w.heap.size + 1) (by first | omega | (simp <;> omega)) (by simp [Value.ownBlock] <;> omega); obtain ⟨A3, c3, rfl, -, -⟩ := own_form hown2))
  all_goals
    go_wp2
    refine bodyPost_ret (v := .agg #[.slice A1 (0 + m.bits.length) c1, .slice A3 (0 + m.words.length) c3]) (by simp [results, Try.results87, go_sem, *]) rfl ⟨_, rfl, ⟨_, _, rfl, ?_, ?_⟩, ?_⟩
    · exact mono_own (ownsRow_setCell_below (a := ⟨w.heap.size + 1, 1, none⟩) (ownsRow_setCell_below (a := ⟨w.heap.size + 1, 0, none⟩) (by simpa using F1) (by simp) _) (by simp) _) (by omega)
    · exact mono_own (ownsRow_setCell_below (a := ⟨w.heap.size + 1, 1, none⟩) (ownsRow_setCell_below (a := ⟨w.heap.size + 1, 0, none⟩) (by simpa using hown2) (by simp) _) (by simp) _) (by omega)
    · exact (B2.setCell (by simp) _).setCell (by simp) _
end Go.Proofs.Ytoagnajljdbobaa
