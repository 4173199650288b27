/- The draws of numbers of chapter 7. -/
import Derived.Test.YtcpjafhhmhaenaaTP
import Derived.Test.YtcpjafhhmhaenaaLD
import Derived.Test.YtcpjafhhmhaenaaP
namespace Go.Proofs.Ytcpjafhhmhaenaa
open Go.RowKit
attribute [local go_sem ↓] Go.wp_at_zero Go.wp_at_succ

def smI (x : Int) : Prop := -40000 ≤ x ∧ x ≤ 40000
def DrawN2 (w : World) (e : Ending) (w' : World) : Prop := ∃ a b : Int, e = .returned (.tuple #[.int .i64 a, .int .i64 b]) ∧ smI a ∧ smI b ∧ Below w.heap.size w w'
def DrawN3 (w : World) (e : Ending) (w' : World) : Prop := ∃ a b c : Int, e = .returned (.tuple #[.int .i64 a, .int .i64 b, .int .i64 c]) ∧ smI a ∧ smI b ∧ smI c ∧ Below w.heap.size w w'
def DrawN5 (w : World) (e : Ending) (w' : World) : Prop := ∃ a b c d f : Int, e = .returned (.tuple #[.int .i64 a, .int .i64 b, .int .i64 c, .int .i64 d, .int .i64 f]) ∧ smI a ∧ smI b ∧ smI c ∧ smI d ∧ smI f ∧ Below w.heap.size w w'
def DrawHy (w : World) (e : Ending) (w' : World) : Prop := ∃ (s : Bool) (a b c : Int), e = .returned (.tuple #[.bool s, .int .i64 a, .int .i64 b, .int .i64 c]) ∧ smI a ∧ smI b ∧ smI c ∧ Below w.heap.size w w'
set_option maxRecDepth 100000 in
set_option maxHeartbeats 2000000 in
theorem drawDrawAddSaturated_any (v : Value) (l : List Int) (w : World) (h : BytesR w w.heap.size v l) :
    Calls Try.prog 18 #[v] w (DrawN2 w) := by
  have HO := Lib.hid (l20Open_any v l w h)
  obtain ⟨A, n0, c, rfl⟩ := h.formD
  clear h
  go_enter Try.func18, Try.ntmps18
  go_wp2_with fail
  refine HO.out.mono ?_
  rintro e w1 ⟨rfl, hR1, hb1⟩
  have hF1 : Fr w.heap.size w.heap.size w w1 := Fr.of_below _ hb1
  clear HO hb1
  go_wp2_with fail
  refine (word_any _ (0) 12 _ hR1 (by omega) (by omega) (by omega)).mono ?_
  rintro e w2 ⟨a, rfl, a1, a2, hR2, hF2⟩
  replace hF2 := hF1.trans (hF2.mono hF1.size)
  clear hR1 hF1
  go_wp2_with fail
  refine (word_any _ (0 + 7) 12 _ hR2 (by omega) (by omega) (by omega)).mono ?_
  rintro e w3 ⟨b, rfl, b1, b2, hR3, hF3⟩
  replace hF3 := hF2.trans (hF3.mono hF2.size)
  clear hR2 hF2
  go_wp2
  exact bodyPost_ret (v := .tuple #[.int .i64 a, .int .i64 b]) (by simp [results, Try.results18, go_sem, *]) rfl ⟨a, b, rfl, (by unfold smI; omega), (by unfold smI; omega), hF3.below (Nat.le_refl _)⟩
set_option maxRecDepth 100000 in
set_option maxHeartbeats 2000000 in
theorem drawDrawScaleWord_any (v : Value) (l : List Int) (w : World) (h : BytesR w w.heap.size v l) :
    Calls Try.prog 23 #[v] w (DrawN5 w) := by
  have HO := Lib.hid (l20Open_any v l w h)
  obtain ⟨A, n0, c, rfl⟩ := h.formD
  clear h
  go_enter Try.func23, Try.ntmps23
  go_wp2_with fail
  refine HO.out.mono ?_
  rintro e w1 ⟨rfl, hR1, hb1⟩
  have hF1 : Fr w.heap.size w.heap.size w w1 := Fr.of_below _ hb1
  clear HO hb1
  go_wp2_with fail
  refine (word_any _ (0) 14 _ hR1 (by omega) (by omega) (by omega)).mono ?_
  rintro e w2 ⟨a, rfl, a1, a2, hR2, hF2⟩
  replace hF2 := hF1.trans (hF2.mono hF1.size)
  clear hR1 hF1
  go_wp2_with fail
  refine (word_any _ (0 + 7) 0 _ hR2 (by omega) (by omega) (by omega)).mono ?_
  rintro e w3 ⟨lo, rfl, lo1, lo2, hR3, hF3⟩
  replace hF3 := hF2.trans (hF3.mono hF2.size)
  clear hR2 hF2
  go_wp2_with fail
  refine (word_any _ (0 + 7 + 7) 0 _ hR3 (by omega) (by omega) (by omega)).mono ?_
  rintro e w4 ⟨hi, rfl, hi1, hi2, hR4, hF4⟩
  replace hF4 := hF3.trans (hF4.mono hF3.size)
  clear hR3 hF3
  by_cases hgt : hi < lo
  · go_wp2_with fail
    refine (pick_any _ (0 + 7 + 7 + 7) 6 _ hR4 (by omega) (by omega)).mono ?_
    rintro e w5 ⟨r, rfl, hr, hR5, hF5⟩
    replace hF5 := hF4.trans (hF5.mono hF4.size)
    clear hR4 hF4
    by_cases hr0 : 0 < r
    · go_wp2_with fail
      refine (pick_any _ (0 + 7 + 7 + 7 + 1) 300 _ hR5 (by omega) (by omega)).mono ?_
      rintro e w6 ⟨z, rfl, hz, hR6, hF6⟩
      replace hF6 := hF5.trans (hF6.mono hF5.size)
      clear hR5 hF5
      by_cases hmin : lo + 1 + z < 32767
      · go_wp2_with fail
        refine (word_any _ (0 + 7 + 7 + 7 + 1 + 1) 14 _ hR6 (by omega) (by omega) (by omega)).mono ?_
        rintro e w7 ⟨x, rfl, x1, x2, hR7, hF7⟩
        replace hF7 := hF6.trans (hF7.mono hF6.size)
        clear hR6 hF6
        go_wp2_with fail
        refine (word_any _ (0 + 7 + 7 + 7 + 1 + 1 + 7) 14 _ hR7 (by omega) (by omega) (by omega)).mono ?_
        rintro e w8 ⟨y, rfl, y1, y2, hR8, hF8⟩
        replace hF8 := hF7.trans (hF8.mono hF7.size)
        clear hR7 hF7
        go_wp2
        exact bodyPost_ret (v := .tuple #[.int .i64 a, .int .i64 lo, .int .i64 (lo + 1 + z), .int .i64 x, .int .i64 y]) (by simp [results, Try.results23, go_sem, *]) rfl ⟨a, lo, _, x, y, rfl, (by unfold smI; omega), (by unfold smI; omega), (by unfold smI; omega), (by unfold smI; omega), (by unfold smI; omega), hF8.below (Nat.le_refl _)⟩
      · go_wp2_with fail
        refine (word_any _ (0 + 7 + 7 + 7 + 1 + 1) 14 _ hR6 (by omega) (by omega) (by omega)).mono ?_
        rintro e w7 ⟨x, rfl, x1, x2, hR7, hF7⟩
        replace hF7 := hF6.trans (hF7.mono hF6.size)
        clear hR6 hF6
        go_wp2_with fail
        refine (word_any _ (0 + 7 + 7 + 7 + 1 + 1 + 7) 14 _ hR7 (by omega) (by omega) (by omega)).mono ?_
        rintro e w8 ⟨y, rfl, y1, y2, hR8, hF8⟩
        replace hF8 := hF7.trans (hF8.mono hF7.size)
        clear hR7 hF7
        go_wp2
        exact bodyPost_ret (v := .tuple #[.int .i64 a, .int .i64 lo, .int .i64 (32767), .int .i64 x, .int .i64 y]) (by simp [results, Try.results23, go_sem, *]) rfl ⟨a, lo, _, x, y, rfl, (by unfold smI; omega), (by unfold smI; omega), (by unfold smI; omega), (by unfold smI; omega), (by unfold smI; omega), hF8.below (Nat.le_refl _)⟩
    · go_wp2_with fail
      refine (word_any _ (0 + 7 + 7 + 7 + 1) 14 _ hR5 (by omega) (by omega) (by omega)).mono ?_
      rintro e w6 ⟨x, rfl, x1, x2, hR6, hF6⟩
      replace hF6 := hF5.trans (hF6.mono hF5.size)
      clear hR5 hF5
      go_wp2_with fail
      refine (word_any _ (0 + 7 + 7 + 7 + 1 + 7) 14 _ hR6 (by omega) (by omega) (by omega)).mono ?_
      rintro e w7 ⟨y, rfl, y1, y2, hR7, hF7⟩
      replace hF7 := hF6.trans (hF7.mono hF6.size)
      clear hR6 hF6
      go_wp2
      exact bodyPost_ret (v := .tuple #[.int .i64 a, .int .i64 lo, .int .i64 (hi), .int .i64 x, .int .i64 y]) (by simp [results, Try.results23, go_sem, *]) rfl ⟨a, lo, _, x, y, rfl, (by unfold smI; omega), (by unfold smI; omega), (by unfold smI; omega), (by unfold smI; omega), (by unfold smI; omega), hF7.below (Nat.le_refl _)⟩
  · go_wp2_with fail
    refine (word_any _ (0 + 7 + 7 + 7) 14 _ hR4 (by omega) (by omega) (by omega)).mono ?_
    rintro e w5 ⟨x, rfl, x1, x2, hR5, hF5⟩
    replace hF5 := hF4.trans (hF5.mono hF4.size)
    clear hR4 hF4
    go_wp2_with fail
    refine (word_any _ (0 + 7 + 7 + 7 + 7) 14 _ hR5 (by omega) (by omega) (by omega)).mono ?_
    rintro e w6 ⟨y, rfl, y1, y2, hR6, hF6⟩
    replace hF6 := hF5.trans (hF6.mono hF5.size)
    clear hR5 hF5
    go_wp2
    exact bodyPost_ret (v := .tuple #[.int .i64 a, .int .i64 lo, .int .i64 (hi), .int .i64 x, .int .i64 y]) (by simp [results, Try.results23, go_sem, *]) rfl ⟨a, lo, _, x, y, rfl, (by unfold smI; omega), (by unfold smI; omega), (by unfold smI; omega), (by unfold smI; omega), (by unfold smI; omega), hF6.below (Nat.le_refl _)⟩
set_option maxRecDepth 100000 in
set_option maxHeartbeats 2000000 in
theorem drawDrawHysteresis_any (v : Value) (l : List Int) (w : World) (h : BytesR w w.heap.size v l) :
    Calls Try.prog 26 #[v] w (DrawHy w) := by
  have HO := Lib.hid (l20Open_any v l w h)
  obtain ⟨A, n0, c, rfl⟩ := h.formD
  clear h
  go_enter Try.func26, Try.ntmps26
  go_wp2_with fail
  refine HO.out.mono ?_
  rintro e w1 ⟨rfl, hR1, hb1⟩
  have hF1 : Fr w.heap.size w.heap.size w w1 := Fr.of_below _ hb1
  clear HO hb1
  go_wp2_with fail
  refine (pick_any _ (0) 2 _ hR1 (by omega) (by omega)).mono ?_
  rintro e w2 ⟨r, rfl, hr, hR2, hF2⟩
  replace hF2 := hF1.trans (hF2.mono hF1.size)
  clear hR1 hF1
  go_wp2_with fail
  refine (pick_any _ (0 + 1) 9 _ hR2 (by omega) (by omega)).mono ?_
  rintro e w3 ⟨lo, rfl, hlo, hR3, hF3⟩
  replace hF3 := hF2.trans (hF3.mono hF2.size)
  clear hR2 hF2
  go_wp2_with fail
  refine (pick_any _ (0 + 1 + 1) 20 _ hR3 (by omega) (by omega)).mono ?_
  rintro e w4 ⟨x, rfl, hx, hR4, hF4⟩
  replace hF4 := hF3.trans (hF4.mono hF3.size)
  clear hR3 hF3
  go_wp2_with fail
  refine (pick_any _ (0 + 1 + 1 + 1) 9 _ hR4 (by omega) (by omega)).mono ?_
  rintro e w5 ⟨y, rfl, hy, hR5, hF5⟩
  replace hF5 := hF4.trans (hF5.mono hF4.size)
  clear hR4 hF4
  go_wp2
  exact bodyPost_ret (v := .tuple #[.bool (r == 0), .int .i64 (x - 3), .int .i64 lo, .int .i64 (lo + y - 1)]) (by simp [results, Try.results26, go_sem, *]) rfl ⟨_, _, _, _, rfl, (by unfold smI; omega), (by unfold smI; omega), (by unfold smI; omega), hF5.below (Nat.le_refl _)⟩
def tyRa4 (g : Nat) (a b : Int) : Nat → RT
  | 0 => .val (isP (.int .i64 a))
  | 1 => .val (isP (.int .i64 b))
  | 2 => .val (isP (.pointer (some ⟨g, 0, none⟩)))
  | 3 => .val (intP 0 19)
  | 4 => .val (isP (.pointer (some ⟨g, 0, none⟩)))
  | 5 => .val (intP 0 255)
  | 6 => .val (intP 0 32640)
  | 7 => .row 4 (intP (-1) 32640)
  | 8 => .val (isP (.pointer (some ⟨g, 0, none⟩)))
  | 9 => .val (intP 0 3)
  | 10 => .cell (intP (-1) 32640)
  | 11 => .val (intP (-1) 32640)
  | 12 => .val (isP (.int .i64 a))
  | 13 => .val (isP (.int .i64 b))
  | _ => .val (intP (-1) 32640)
def wtRa4 : Nat → Nat
  | 3 => 1
  | 5 => 1
  | 9 => 1
  | _ => 0
def tyDe3 (g : Nat) (a : Int) : Nat → RT
  | 0 => .val (isP (.int .i64 a))
  | 1 => .val (isP (.pointer (some ⟨g, 0, none⟩)))
  | 2 => .val (intP 0 11)
  | 3 => .val (isP (.pointer (some ⟨g, 0, none⟩)))
  | 4 => .val (intP 0 255)
  | 5 => .val (intP 0 32640)
  | 6 => .row 3 (intP (-1) 32640)
  | 7 => .val (isP (.pointer (some ⟨g, 0, none⟩)))
  | 8 => .val (intP 0 2)
  | 9 => .cell (intP (-1) 32640)
  | 10 => .val (intP (-1) 32640)
  | 11 => .val (isP (.int .i64 a))
  | _ => .val (intP (-1) 32640)
def wtDe3 : Nat → Nat
  | 2 => 1
  | 4 => 1
  | 8 => 1
  | _ => 0
set_option maxRecDepth 100000 in
set_option maxHeartbeats 2000000 in
theorem drawDrawRampStep_any (v : Value) (l : List Int) (w : World) (h : BytesR w w.heap.size v l) :
    Calls Try.prog 29 #[v] w (DrawN3 w) := by
  have HO := Lib.hid (l20Open_any v l w h)
  obtain ⟨A, n0, c, rfl⟩ := h.formD
  clear h
  go_enter Try.func29, Try.ntmps29
  go_wp2_with fail
  refine HO.out.mono ?_
  rintro e w1 ⟨rfl, hR1, hb1⟩
  have hF1 : Fr w.heap.size w.heap.size w w1 := Fr.of_below _ hb1
  clear HO hb1
  go_wp2_with fail
  refine (word_any _ (0) 12 _ hR1 (by omega) (by omega) (by omega)).mono ?_
  rintro e w2 ⟨a, rfl, a1, a2, hR2, hF2⟩
  replace hF2 := hF1.trans (hF2.mono hF1.size)
  clear hR1 hF1
  go_wp2_with fail
  refine (word_any _ (0 + 7) 12 _ hR2 (by omega) (by omega) (by omega)).mono ?_
  rintro e w3 ⟨b, rfl, b1, b2, hR3, hF3⟩
  replace hF3 := hF2.trans (hF3.mono hF2.size)
  clear hR2 hF2
  have hg3 := hR3.lt
  go_upto_region 4 with fail
  refine region_typed (S := SG w.heap.size w3.heap.size (tyRa4 w.heap.size a b)) (Le := LeG w.heap.size) (M := MG w.heap.size (0 + 7 + 7) w3) (wt := wtRa4) [14, 15, 16, 17, 18, 19, 20, 21, 22, 23, 24, 25, 2, 3, 4] (by kernel_rfl) (by kernel_rfl) (regOK_of (by kernel_rfl)) SG_le (all_ops ?_) ?_ ?_
  · refine allFrom_cons ?_ (allFrom_cons ?_ (allFrom_cons ?_ (allFrom_cons ?_ (allFrom_cons ?_ (allFrom_cons ?_ (allFrom_cons ?_ (allFrom_cons ?_ (allFrom_cons ?_ (allFrom_cons ?_ (allFrom_cons ?_ (allFrom_cons ?_ (allFrom_cons ?_ (allFrom_cons ?_ (allFrom_cons ?_ allFrom_nil))))))))))))))
    · exact ok_move rfl (.inl rfl) (knows_old (by kernel_rfl) rfl rfl)
    · exact ok_move rfl (.inl rfl) (knows_old (by kernel_rfl) rfl rfl)
    · exact ok_move rfl (.inl rfl) (knows_old (by kernel_rfl) rfl rfl)
    · exact ok_pick (lo := 20) (hi := 20) rfl rfl (knows_dep 2 (by kernel_rfl) (by kernel_rfl)) (kint 20 (by omega)) (by omega) (by omega) (by show _ + 3 ≤ _; omega) rfl
    · exact ok_move rfl (.inl rfl) (knows_old (by kernel_rfl) rfl rfl)
    · exact ok_pick (lo := 256) (hi := 256) rfl rfl (knows_dep 4 (by kernel_rfl) (by kernel_rfl)) (kint 256 (by omega)) (by omega) (by omega) (by show _ + 3 ≤ _; omega) rfl
    · exact ok_mul (l1 := 0) (h1 := 255) (l2 := 128) (h2 := 128) (lo := 0) (hi := 32640) rfl rfl (knows_dep 5 (by kernel_rfl) (by kernel_rfl)) (kint 128 (by omega)) (by intro m n _ _ _ _; obtain rfl : n = 128 := (by omega); omega) (by omega) rfl
    · exact ok_row (p := intP (-1) 32640) (xs := [.tmp 17, .tmp 20, .const (.int .i64 (-1)), .const (.int .i64 0)]) rfl rfl hg3 Try.underlying39 (by kernel_rfl) (by kernel_rfl) rfl rfl (by omega) (by omega) (kall_cons (Knows.mono (p := intP 0 19) (knows_dep 3 (by kernel_rfl) (by kernel_rfl)) (intP_mono (by omega) (by omega))) (kall_cons (Knows.mono (p := intP 0 32640) (knows_dep 6 (by kernel_rfl) (by kernel_rfl)) (intP_mono (by omega) (by omega))) (kall_cons (kint (-1) (by omega)) (kall_cons (kint 0 (by omega)) kall_nil)))) intP_one rfl
    · exact ok_move rfl (.inl rfl) (knows_old (by kernel_rfl) rfl rfl)
    · exact ok_pick (lo := 4) (hi := 4) rfl rfl (knows_dep 8 (by kernel_rfl) (by kernel_rfl)) (kint 4 (by omega)) (by omega) (by omega) (by show _ + 3 ≤ _; omega) rfl
    · exact ok_index (n := 4) (p := intP (-1) 32640) (lo := 0) (hi := 3) rfl rfl Try.underlying39 (by kernel_rfl) (knows_dep 7 (by kernel_rfl) (by kernel_rfl)) (knows_dep 9 (by kernel_rfl) (by kernel_rfl)) (by omega) rfl
    · exact ok_load rfl rfl ld_int (knows_dep 10 (by kernel_rfl) (by kernel_rfl)) rfl
    · exact ok_move rfl (.inr rfl) (knows_dep 0 (by kernel_rfl) (by kernel_rfl))
    · exact ok_move rfl (.inr rfl) (knows_dep 1 (by kernel_rfl) (by kernel_rfl))
    · exact ok_move rfl (.inr rfl) (knows_dep 11 (by kernel_rfl) (by kernel_rfl))
  · exact ⟨hR3.drew, (Fr.refl _ _ _).drew⟩
  intro f wN hS hM
  have s2 := hS 12 2 (by kernel_rfl)
  have s3 := hS 13 3 (by kernel_rfl)
  have s4 := hS 14 4 (by kernel_rfl)
  obtain ⟨hRN, hFN⟩ := hM
  replace hRN : Rdr wN w.heap.size ((0 + 7 + 7) + 3) := hRN
  clear hS
  simp only [fillD, List.foldl_cons, List.foldl_nil, List.setIfInBounds_toArray, List.set_cons_zero, List.set_cons_succ]
  generalize f 2 = f2 at s2 ⊢
  generalize f 3 = f3 at s3 ⊢
  generalize f 4 = f4 at s4 ⊢
  obtain rfl : f2 = .int .i64 a := s2
  obtain rfl : f3 = .int .i64 b := s3
  obtain ⟨r, rfl, r1, r2⟩ : intP (-1) 32640 f4 := s4
  go_wp2
  exact bodyPost_ret (v := .tuple #[.int .i64 a, .int .i64 b, .int .i64 r]) (by simp [results, Try.results29, go_sem, *]) rfl ⟨a, b, r, rfl, (by unfold smI; omega), (by unfold smI; omega), (by unfold smI; omega), (hF3.trans (hFN.mono hF3.size)).below (Nat.le_refl _)⟩
set_option maxRecDepth 100000 in
set_option maxHeartbeats 2000000 in
theorem drawDrawDeadBand_any (v : Value) (l : List Int) (w : World) (h : BytesR w w.heap.size v l) :
    Calls Try.prog 33 #[v] w (DrawN2 w) := by
  have HO := Lib.hid (l20Open_any v l w h)
  obtain ⟨A, n0, c, rfl⟩ := h.formD
  clear h
  go_enter Try.func33, Try.ntmps33
  go_wp2_with fail
  refine HO.out.mono ?_
  rintro e w1 ⟨rfl, hR1, hb1⟩
  have hF1 : Fr w.heap.size w.heap.size w w1 := Fr.of_below _ hb1
  clear HO hb1
  go_wp2_with fail
  refine (word_any _ (0) 12 _ hR1 (by omega) (by omega) (by omega)).mono ?_
  rintro e w2 ⟨a, rfl, a1, a2, hR2, hF2⟩
  replace hF2 := hF1.trans (hF2.mono hF1.size)
  clear hR1 hF1
  have hg2 := hR2.lt
  go_upto_region 3 with fail
  refine region_typed (S := SG w.heap.size w2.heap.size (tyDe3 w.heap.size a)) (Le := LeG w.heap.size) (M := MG w.heap.size (0 + 7) w2) (wt := wtDe3) [10, 11, 12, 13, 14, 15, 16, 17, 18, 19, 20, 2, 3] (by kernel_rfl) (by kernel_rfl) (regOK_of (by kernel_rfl)) SG_le (all_ops ?_) ?_ ?_
  · refine allFrom_cons ?_ (allFrom_cons ?_ (allFrom_cons ?_ (allFrom_cons ?_ (allFrom_cons ?_ (allFrom_cons ?_ (allFrom_cons ?_ (allFrom_cons ?_ (allFrom_cons ?_ (allFrom_cons ?_ (allFrom_cons ?_ (allFrom_cons ?_ (allFrom_cons ?_ allFrom_nil))))))))))))
    · exact ok_move rfl (.inl rfl) (knows_old (by kernel_rfl) rfl rfl)
    · exact ok_move rfl (.inl rfl) (knows_old (by kernel_rfl) rfl rfl)
    · exact ok_pick (lo := 12) (hi := 12) rfl rfl (knows_dep 1 (by kernel_rfl) (by kernel_rfl)) (kint 12 (by omega)) (by omega) (by omega) (by show _ + 3 ≤ _; omega) rfl
    · exact ok_move rfl (.inl rfl) (knows_old (by kernel_rfl) rfl rfl)
    · exact ok_pick (lo := 256) (hi := 256) rfl rfl (knows_dep 3 (by kernel_rfl) (by kernel_rfl)) (kint 256 (by omega)) (by omega) (by omega) (by show _ + 3 ≤ _; omega) rfl
    · exact ok_mul (l1 := 0) (h1 := 255) (l2 := 128) (h2 := 128) (lo := 0) (hi := 32640) rfl rfl (knows_dep 4 (by kernel_rfl) (by kernel_rfl)) (kint 128 (by omega)) (by intro m n _ _ _ _; obtain rfl : n = 128 := (by omega); omega) (by omega) rfl
    · exact ok_row (p := intP (-1) 32640) (xs := [.tmp 12, .tmp 15, .const (.int .i64 (-1))]) rfl rfl hg2 Try.underlying39 (by kernel_rfl) (by kernel_rfl) rfl rfl (by omega) (by omega) (kall_cons (Knows.mono (p := intP 0 11) (knows_dep 2 (by kernel_rfl) (by kernel_rfl)) (intP_mono (by omega) (by omega))) (kall_cons (Knows.mono (p := intP 0 32640) (knows_dep 5 (by kernel_rfl) (by kernel_rfl)) (intP_mono (by omega) (by omega))) (kall_cons (kint (-1) (by omega)) kall_nil))) intP_one rfl
    · exact ok_move rfl (.inl rfl) (knows_old (by kernel_rfl) rfl rfl)
    · exact ok_pick (lo := 3) (hi := 3) rfl rfl (knows_dep 7 (by kernel_rfl) (by kernel_rfl)) (kint 3 (by omega)) (by omega) (by omega) (by show _ + 3 ≤ _; omega) rfl
    · exact ok_index (n := 3) (p := intP (-1) 32640) (lo := 0) (hi := 2) rfl rfl Try.underlying39 (by kernel_rfl) (knows_dep 6 (by kernel_rfl) (by kernel_rfl)) (knows_dep 8 (by kernel_rfl) (by kernel_rfl)) (by omega) rfl
    · exact ok_load rfl rfl ld_int (knows_dep 9 (by kernel_rfl) (by kernel_rfl)) rfl
    · exact ok_move rfl (.inr rfl) (knows_dep 0 (by kernel_rfl) (by kernel_rfl))
    · exact ok_move rfl (.inr rfl) (knows_dep 10 (by kernel_rfl) (by kernel_rfl))
  · exact ⟨hR2.drew, (Fr.refl _ _ _).drew⟩
  intro f wN hS hM
  have s2 := hS 11 2 (by kernel_rfl)
  have s3 := hS 12 3 (by kernel_rfl)
  obtain ⟨hRN, hFN⟩ := hM
  replace hRN : Rdr wN w.heap.size ((0 + 7) + 3) := hRN
  clear hS
  simp only [fillD, List.foldl_cons, List.foldl_nil, List.setIfInBounds_toArray, List.set_cons_zero, List.set_cons_succ]
  generalize f 2 = f2 at s2 ⊢
  generalize f 3 = f3 at s3 ⊢
  obtain rfl : f2 = .int .i64 a := s2
  obtain ⟨r, rfl, r1, r2⟩ : intP (-1) 32640 f3 := s3
  go_wp2
  exact bodyPost_ret (v := .tuple #[.int .i64 a, .int .i64 r]) (by simp [results, Try.results33, go_sem, *]) rfl ⟨a, r, rfl, (by unfold smI; omega), (by unfold smI; omega), (hF2.trans (hFN.mono hF2.size)).below (Nat.le_refl _)⟩
end Go.Proofs.Ytcpjafhhmhaenaa
