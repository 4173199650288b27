/- The draws of lists of words of chapter 7. -/
import Derived.Test.YtcpjafhhmhaenaaAX
namespace Go.Proofs.Ytcpjafhhmhaenaa
open Go.RowKit
attribute [local go_sem ↓] Go.wp_at_zero Go.wp_at_succ

def smL (l : List Int) : Prop := ∀ x ∈ l, smI x
theorem smL.read {l : List Int} (h : smL l) : ∀ x ∈ l, -9223372036854775808 ≤ x ∧ x ≤ 9223372036854775807 := fun x hx => by have := h x hx; unfold smI at this; omega
theorem smL.push {l : List Int} {x : Int} (h : smL l) (hx : smI x) : smL (l ++ [x]) := by
  intro y hy
  rcases List.mem_append.1 hy with h' | h'
  · exact h y h'
  · obtain rfl := List.mem_singleton.1 h'; exact hx
theorem smL.set {l : List Int} {x : Int} (h : smL l) (hx : smI x) (k : Nat) : smL (l.set k x) := by
  intro y hy
  rcases List.mem_or_eq_of_mem_set hy with h' | h'
  · exact h y h'
  · subst h'; exact hx
def WordsPost (g P m : Nat) (w : World) (e : Ending) (w' : World) : Prop := ∃ v l, e = .returned v ∧ OwnI w' w.heap.size v l ∧ l.length ≤ m ∧ smL l ∧ Rdr w' g (P + 7 * m + 20) ∧ Fr w.heap.size g w w'
set_option maxHeartbeats 2000000 in
theorem words_any (g P m : Nat) (n : Int) (w : World) (hw : Rdr w g P) (hP : P + 7 * m + 20 ≤ 1000000) (hm : m ≤ 1000) (hn : 0 ≤ n ∧ n ≤ 1000) :
    Calls Try.prog 63 #[.pointer (some ⟨g, 0, none⟩), .int .i64 m, .int .i64 n] w (WordsPost g P m w) := by
  have hgl := hw.lt
  go_enter Try.func63, Try.ntmps63
  go_wp2_with fail
  refine (pick_any g P (m + 1) _ (hw.below ((Below.refl _ _).alloc (Nat.le_refl _) _)) (by omega) (by omega)).mono ?_
  rintro e w1 ⟨r, rfl, hr, hR, hF⟩
  have hF1 : Fr w.heap.size g w w1 := ((Fr.refl _ _ _).alloc (Nat.le_refl _) _).trans (hF.mono (by simp))
  have hO1 : w1.ownsRow w.heap.size 3 1 (.slice (some ⟨w.heap.size, 0, none⟩) 0 0) 0 [] := hF.own (own_lit0 rfl (Nat.le_refl _)) hgl
  clear hF hw
  obtain ⟨q, rfl⟩ := Int.eq_ofNat_of_zero_le hr.1
  have hq : q ≤ m := by omega
  clear hr
  go_wp2_with fail
  go_loopw [7, 8] (fun v i wr => ∃ (k : Nat) (l : List Int), i = .int .i64 k ∧ k + l.length = q ∧ OwnI wr w.heap.size v l ∧ smL l ∧ Rdr wr g (P + 1 + 7 * l.length) ∧ Fr w.heap.size g w wr) (fun _ i _ => (intOf i).toNat)
  case atStart => exact ⟨q, [], rfl, by simp, hO1, (by intro x hx; cases hx), hR, hF1⟩
  case round =>
    obtain ⟨k, l, rfl, hkl, hO, hsm, hRr, hFr⟩ := hrel
    have Hkl := Lib.hid hkl
    have Hsm := Lib.hid hsm
    clear hO1 hR hF1 hsm
    have hsz := hFr.size
    by_cases hk0 : 0 < k
    · have i1 : (0 : Int) < (k : Int) := by omega
      have Hk0 := Lib.hid hk0
      have i4 : (k : Int) ≤ 1000 := by omega
      go_wp2_with fail
      refine (word_any g (P + 1 + 7 * l.length) 0 _ hRr (by omega) (by omega) (by omega)).mono ?_
      rintro e w2 ⟨x, rfl, x1, x2, hR2, hF2⟩
      have hO2 := hF2.own hO hgl
      have hFr2 := hFr.trans (hF2.mono hsz)
      have hs2 := hFr2.size
      clear hFr hF2 hRr hO hkl
      go_wp2_with (at_builtin; refine wpl_append rfl _ _ 39 rfl elI rfl (World.ownsRow.alloc hO2 _) rfl (Rd.new1 _ _ _) ?c1 ?c2 ?c3 ?c4 ?_)
      case c1 => first | rfl | (simp; rfl)
      case c2 => have := Hkl.out; omega
      case c3 => have := Hkl.out; omega
      case c4 => first | omega | (simp; omega)
      intro v' w3 hO3 hg3 _
      have R : OwnI w3 w.heap.size v' (l ++ [x]) := by unfold OwnI; simpa using hO3
      have hF3 : Fr w.heap.size g w w3 := (hFr2.alloc (by omega) _).grown hg3 (by simp; omega) (fun j hj => .inl (hO2.lt j hj).1)
      have hR3 : Rdr w3 g (P + 1 + 7 * (l ++ [x]).length) := ((hR2.below ((Below.refl _ _).alloc (Nat.le_refl _) _)).keep ((Below.refl (g + 1) _).grown hg3 (by simp; omega) (fun j hj => by have := (hO2.lt j hj).1; omega))).mono (by simp; omega)
      clear hO3 hg3 hO2 hFr2 hR2
      go_wp2
      go_roundw
      case rel => exact ⟨k - 1, l ++ [x], by have := Hk0.out; go_num, by have := Hkl.out; have := Hk0.out; simp; omega, R, Hsm.out.push ⟨x1, x2⟩, hR3, hF3⟩
      case measure => have := Hk0.out; simp [intOf]; omega
    · obtain rfl : k = 0 := by omega
      have hll : l.length = q := by omega
      clear hkl Hkl
      have Hll := Lib.hid hll
      clear hll
      by_cases hl0 : 0 < l.length
      · have i2 : (0 : Int) < (l.length : Int) := by omega
        obtain ⟨A, c, rfl, -, -⟩ := own_form hO
        go_wp2_with fail
        refine (odd_any g _ n _ hRr (by have := Hll.out; omega) (by omega) (by omega)).mono ?_
        rintro e w2 ⟨b, rfl, -, hR2, hF2⟩
        have hO2 := hF2.own hO hgl
        have hFr2 := hFr.trans (hF2.mono hsz)
        clear hFr hF2 hRr hO
        cases b
        · go_wp2
          go_ret
          exact ⟨_, l, rfl, hO2, by have := Hll.out; omega, Hsm.out, hR2.mono (by have := Hll.out; omega), hFr2⟩
        · go_wp2_with fail
          refine (pick_any g _ l.length _ hR2 (by have := Hll.out; omega) (by have := Hll.out; omega)).mono ?_
          rintro e w3 ⟨r3, rfl, hr3, hR3, hF3⟩
          have hO3 := hF3.own hO2 hgl
          have hFr3 := hFr2.trans (hF3.mono hFr2.size)
          obtain ⟨j, rfl⟩ := Int.eq_ofNat_of_zero_le hr3.1
          have hj : j < l.length := by omega
          clear hFr2 hF3 hR2 hO2 hr3
          go_wp2_with fail
          refine (word_any g _ 1 _ hR3 (by have := Hll.out; omega) (by omega) (by omega)).mono ?_
          rintro e w4 ⟨x, rfl, x1, x2, hR4, hF4⟩
          have hO4 := hF4.own hO3 hgl
          have hFr4 := hFr3.trans (hF4.mono hFr3.size)
          clear hFr3 hF4 hR3 hO3
          obtain ⟨G, rfl, g1, g2⟩ := own_addr hO4 hl0
          have hst := hO4.stored j (Value.int .i64 x)
          rw [← List.map_set] at hst
          have hc' := hO4.cellAt j (by omega)
          have hz := hO4.frozenAt j
          rw [List.getElem?_map, List.getElem?_eq_getElem hj] at hc'
          have H := Lib.hid hst
          have i3 : (j : Int) < (l.length : Int) := by omega
          clear hst
          go_wp2
          go_ret
          refine ⟨_, l.set j x, rfl, ?_, by rw [List.length_set]; have := Hll.out; omega, Hsm.out.set ⟨x1, x2⟩ j, (hR4.setCell (by simp; omega) _).mono (by have := Hll.out; omega), hFr4.setCell (.inl (by simp; omega)) _⟩
          unfold OwnI
          rw [List.length_set]
          exact H.out.1
      · obtain rfl : l = [] := List.eq_nil_of_length_eq_zero (by omega)
        obtain ⟨A, c, rfl, -, -⟩ := own_form hO
        go_wp2
        go_ret
        exact ⟨_, [], rfl, hO, by simp, Hsm.out, hRr.mono (by simp; omega), hFr⟩
def DrawVI (w : World) (e : Ending) (w' : World) : Prop := ∃ A c l x, e = .returned (.tuple #[.slice A l.length c, .int .i64 x]) ∧ OwnI w' w.heap.size (.slice A l.length c) l ∧ l.length ≤ 14 ∧ smL l ∧ (0 ≤ x ∧ x ≤ 51) ∧ Below w.heap.size w w'
def DrawV (w : World) (e : Ending) (w' : World) : Prop := ∃ v l, e = .returned v ∧ OwnI w' w.heap.size v l ∧ l.length ≤ 10 ∧ smL l ∧ Below w.heap.size w w'
def tyMa3 (g : Nat) (A : Option Addr) (n c : Nat) : Nat → RT
  | 0 => .val (isP (.slice A n c))
  | 1 => .row 6 (intP 0 51)
  | 2 => .row 9 (intP 0 5)
  | 3 => .val (isP (.pointer (some ⟨g, 0, none⟩)))
  | 4 => .val (intP 0 8)
  | 5 => .cell (intP 0 5)
  | 6 => .val (intP 0 5)
  | 7 => .cell (intP 0 51)
  | 8 => .val (intP 0 51)
  | 9 => .val (isP (.slice A n c))
  | _ => .val (intP 0 51)
def wtMa3 : Nat → Nat
  | 4 => 1
  | _ => 0
set_option maxRecDepth 100000 in
set_option maxHeartbeats 2000000 in
theorem drawDrawMovingAverage_any (v : Value) (l : List Int) (w : World) (h : BytesR w w.heap.size v l) :
    Calls Try.prog 36 #[v] w (DrawVI w) := by
  have HO := Lib.hid (l20Open_any v l w h)
  obtain ⟨A, n0, c, rfl⟩ := h.formD
  clear h
  go_enter Try.func36, Try.ntmps36
  go_wp2_with fail
  refine HO.out.mono ?_
  rintro e w1 ⟨rfl, hR1, hb1⟩
  have hF1 : Fr w.heap.size w.heap.size w w1 := Fr.of_below _ hb1
  clear HO hb1
  go_wp2_with fail
  refine (words_any _ 0 14 12 _ hR1 (by omega) (by omega) (by omega)).mono ?_
  rintro e w2 ⟨v, l, rfl, hO, hl, hsm, hR2, hF2⟩
  have hO' := mono_own hO (show w.heap.size + 1 ≤ w1.heap.size from hR1.lt)
  replace hF2 := hF1.trans (hF2.mono hF1.size)
  obtain ⟨A, c, rfl, -, -⟩ := own_form hO
  have Hl := Lib.hid hl
  have Hsm := Lib.hid hsm
  clear hO hR1 hF1 hl hsm
  have hg2 := hR2.lt
  go_upto_region 3 with fail
  refine region_typed (S := SG w.heap.size w2.heap.size (tyMa3 w.heap.size A l.length c)) (Le := LeG w.heap.size) (M := MG w.heap.size (0 + 7 * 14 + 20) w2) (wt := wtMa3) [10, 11, 12, 13, 14, 15, 16, 17, 18, 2, 3] (by kernel_rfl) (by kernel_rfl) (regOK_of (by kernel_rfl)) SG_le (all_ops ?_) ?_ ?_
  · refine allFrom_cons ?_ (allFrom_cons ?_ (allFrom_cons ?_ (allFrom_cons ?_ (allFrom_cons ?_ (allFrom_cons ?_ (allFrom_cons ?_ (allFrom_cons ?_ (allFrom_cons ?_ (allFrom_cons ?_ (allFrom_cons ?_ allFrom_nil))))))))))
    · exact ok_move rfl (.inl rfl) (knows_old (by kernel_rfl) rfl rfl)
    · exact ok_row (p := intP 0 51) (xs := [.const (.int .i64 1), .const (.int .i64 2), .const (.int .i64 3), .const (.int .i64 7), .const (.int .i64 0), .const (.int .i64 51)]) rfl rfl hg2 Try.underlying39 (by kernel_rfl) (by kernel_rfl) rfl rfl (by omega) (by omega) (kall_cons (kint 1 (by omega)) (kall_cons (kint 2 (by omega)) (kall_cons (kint 3 (by omega)) (kall_cons (kint 7 (by omega)) (kall_cons (kint 0 (by omega)) (kall_cons (kint 51 (by omega)) kall_nil)))))) intP_one rfl
    · exact ok_row (p := intP 0 5) (xs := [.const (.int .i64 0), .const (.int .i64 1), .const (.int .i64 2), .const (.int .i64 3), .const (.int .i64 1), .const (.int .i64 2), .const (.int .i64 3), .const (.int .i64 4), .const (.int .i64 5)]) rfl rfl hg2 Try.underlying39 (by kernel_rfl) (by kernel_rfl) rfl rfl (by omega) (by omega) (kall_cons (kint 0 (by omega)) (kall_cons (kint 1 (by omega)) (kall_cons (kint 2 (by omega)) (kall_cons (kint 3 (by omega)) (kall_cons (kint 1 (by omega)) (kall_cons (kint 2 (by omega)) (kall_cons (kint 3 (by omega)) (kall_cons (kint 4 (by omega)) (kall_cons (kint 5 (by omega)) kall_nil))))))))) intP_one rfl
    · exact ok_move rfl (.inl rfl) (knows_old (by kernel_rfl) rfl rfl)
    · exact ok_pick (lo := 9) (hi := 9) rfl rfl (knows_dep 3 (by kernel_rfl) (by kernel_rfl)) (kint 9 (by omega)) (by omega) (by omega) (by show _ + 1 ≤ _; omega) rfl
    · exact ok_index (n := 9) (p := intP 0 5) (lo := 0) (hi := 8) rfl rfl Try.underlying39 (by kernel_rfl) (knows_dep 2 (by kernel_rfl) (by kernel_rfl)) (knows_dep 4 (by kernel_rfl) (by kernel_rfl)) (by omega) rfl
    · exact ok_load rfl rfl ld_int (knows_dep 5 (by kernel_rfl) (by kernel_rfl)) rfl
    · exact ok_index (n := 6) (p := intP 0 51) (lo := 0) (hi := 5) rfl rfl Try.underlying39 (by kernel_rfl) (knows_dep 1 (by kernel_rfl) (by kernel_rfl)) (knows_dep 6 (by kernel_rfl) (by kernel_rfl)) (by omega) rfl
    · exact ok_load rfl rfl ld_int (knows_dep 7 (by kernel_rfl) (by kernel_rfl)) rfl
    · exact ok_move rfl (.inr rfl) (knows_dep 0 (by kernel_rfl) (by kernel_rfl))
    · exact ok_move rfl (.inr rfl) (knows_dep 8 (by kernel_rfl) (by kernel_rfl))
  · exact ⟨hR2.drew, (Fr.refl _ _ _).drew⟩
  intro f wN hS hM
  have s2 := hS 9 2 (by kernel_rfl)
  have s3 := hS 10 3 (by kernel_rfl)
  obtain ⟨hRN, hFN⟩ := hM
  replace hRN : Rdr wN w.heap.size ((0 + 7 * 14 + 20) + 1) := hRN
  clear hS
  simp only [fillD, List.foldl_cons, List.foldl_nil, List.setIfInBounds_toArray, List.set_cons_zero, List.set_cons_succ]
  generalize f 2 = f2 at s2 ⊢
  generalize f 3 = f3 at s3 ⊢
  obtain rfl : f2 = .slice A l.length c := s2
  obtain ⟨x, rfl, x1, x2⟩ : intP 0 51 f3 := s3
  have hO2 : OwnI wN w.heap.size (.slice A l.length c) l := (show w2.ownsRow (w.heap.size + 1) _ _ _ _ _ → wN.ownsRow w.heap.size _ _ _ _ _ from fun h => mono_own (hFN.own h (by omega)) (by omega)) hO'
  go_wp2
  exact bodyPost_ret (v := .tuple #[.slice A l.length c, .int .i64 x]) (by simp [results, Try.results36, go_sem, *]) rfl ⟨A, c, l, x, rfl, hO2, Hl.out, Hsm.out, ⟨x1, x2⟩, (hF2.trans (hFN.mono hF2.size)).below (Nat.le_refl _)⟩
set_option maxRecDepth 100000 in
set_option maxHeartbeats 2000000 in
theorem drawDrawMedianOf_any (v : Value) (l : List Int) (w : World) (h : BytesR w w.heap.size v l) :
    Calls Try.prog 40 #[v] w (DrawV w) := by
  have HO := Lib.hid (l20Open_any v l w h)
  obtain ⟨A, n0, c, rfl⟩ := h.formD
  clear h
  go_enter Try.func40, Try.ntmps40
  go_wp2_with fail
  refine HO.out.mono ?_
  rintro e w1 ⟨rfl, hR1, hb1⟩
  have hF1 : Fr w.heap.size w.heap.size w w1 := Fr.of_below _ hb1
  clear HO hb1
  go_wp2_with fail
  refine (words_any _ 0 9 12 _ hR1 (by omega) (by omega) (by omega)).mono ?_
  rintro e w2 ⟨v, l, rfl, hO, hl, hsm, hR2, hF2⟩
  have hO' := mono_own hO (show w.heap.size + 1 ≤ w1.heap.size from hR1.lt)
  replace hF2 := hF1.trans (hF2.mono hF1.size)
  obtain ⟨A, c, rfl, -, -⟩ := own_form hO
  have Hl := Lib.hid hl
  have Hsm := Lib.hid hsm
  clear hO hR1 hF1 hsm
  have hg2 := hR2.lt
  have hmod : ((l.length : Int)).tmod 2 = ((l.length % 2 : Nat) : Int) := by rw [Int.tmod_eq_emod_of_nonneg (by omega)]; omega
  by_cases hev : l.length % 2 = 0
  · rw [hev] at hmod
    go_wp2_with fail
    refine (pick_any _ _ 5 _ hR2 (by omega) (by omega)).mono ?_
    rintro e w3 ⟨r3, rfl, hr3, hR3, hF3⟩
    have hO3 := hF3.own hO' (by omega)
    replace hF3 := hF2.trans (hF3.mono hF2.size)
    clear hR2 hF2 hO'
    by_cases hr0 : 0 < r3
    · go_wp2_with fail
      refine (pick_any _ _ 9 _ hR3 (by omega) (by omega)).mono ?_
      rintro e w4 ⟨x, rfl, hx, hR4, hF4⟩
      have hO4 := hF4.own hO3 (by omega)
      replace hF4 := hF3.trans (hF4.mono hF3.size)
      have hs4 := hF4.size
      have hg4 := hR4.lt
      clear hR3 hF3 hO3
      go_wp2_with (at_builtin; refine wpl_append rfl _ _ 39 rfl elI rfl (World.ownsRow.alloc hO4 _) rfl (Rd.new1 _ _ _) ?c1 ?c2 ?c3 ?c4 ?_)
      case c1 => first | rfl | (simp; rfl)
      case c2 => have := Hl.out; omega
      case c3 => have := Hl.out; omega
      case c4 => first | omega | (simp; omega)
      intro v' w5 hO5 hg5 _
      have R : OwnI w5 w.heap.size v' (l ++ [x]) := by unfold OwnI; exact mono_own (by simpa using hO5) (by omega)
      have hF5 : Fr w.heap.size w.heap.size w w5 := (hF4.alloc (by omega) _).grown hg5 (by simp; omega) (fun j hj => .inl (by have := (hO4.lt j hj).1; omega))
      clear hO5 hg5 hO4 hF4
      go_wp2
      go_ret
      exact ⟨_, l ++ [x], rfl, R, by have := Hl.out; simp; omega, Hsm.out.push (by unfold smI; omega), hF5.below (Nat.le_refl _)⟩
    · go_wp2
      go_ret
      exact ⟨_, l, rfl, mono_own hO3 (by omega), by have := Hl.out; omega, Hsm.out, hF3.below (Nat.le_refl _)⟩
  · have hmod2 : ((l.length : Int)).tmod 2 = 1 := by rw [hmod]; omega
    clear hmod
    go_wp2
    go_ret
    exact ⟨_, l, rfl, mono_own hO' (by omega), by have := Hl.out; omega, Hsm.out, hF2.below (Nat.le_refl _)⟩
end Go.Proofs.Ytcpjafhhmhaenaa
