/- Contracts of the drawn counters. -/
import Derived.Test.YtldlfailmmmdmaaCS
namespace Go.Proofs.Ytldlfailmmmdmaa
open Go.RowKit
attribute [local go_sem ↓] Go.wp_at_zero Go.wp_at_succ

/-- A counter that is being drawn: it lies in block q, the result's box in the block at which the call began. -/
structure CnAt (w0 w : World) (g q P : Nat) (p v : Int) (b o : Bool) : Prop where
  rd : Rdr w g P
  fr : Fr w0.heap.size g w0 w
  res : w.heap[w0.heap.size]? = some (.cells #[.int .i64 0, .int .i64 0, .bool false, .bool false] 24 (0, 0))
  blk : w.heap[q]? = some (.cells #[.int .i64 p, .int .i64 v, .bool b, .bool o] 24 (0, 0))
  lt : w0.heap.size < q
  glt : g < w0.heap.size
theorem CnAt.ne {w0 w : World} {g q P : Nat} {p v : Int} {b o : Bool} (h : CnAt w0 w g q P p v b o) : q ≠ g := by have := h.lt; have := h.glt; omega
theorem CnAt.ne2 {w0 w : World} {g q P : Nat} {p v : Int} {b o : Bool} (h : CnAt w0 w g q P p v b o) : q ≠ w0.heap.size ∧ w0.heap.size ≠ q := by have := h.lt; omega
theorem CnAt.to {w' : World} {P' : Nat} {w0 w : World} {g q P : Nat} {p v : Int} {b o : Bool} (h : CnAt w0 w g q P p v b o) (hf : Fr w.heap.size g w w') (hr : Rdr w' g P') : CnAt w0 w' g q P' p v b o :=
  ⟨hr, h.fr.trans (hf.mono h.fr.size), (hf.block _ (blk_lt h.res) (by have := h.glt; omega)).trans h.res, (hf.block _ (blk_lt h.blk) h.ne).trans h.blk, h.lt, h.glt⟩
theorem CnAt.put {p' v' : Int} {w0 w : World} {g q P : Nat} {p v : Int} {b o : Bool} (h : CnAt w0 w g q P p v b o) (c : Nat) (u : Value) (hc : (#[.int .i64 p, .int .i64 v, .bool b, .bool o] : Array Value).setIfInBounds c u = #[.int .i64 p', .int .i64 v', .bool b, .bool o]) :
    CnAt w0 (w.setCell ⟨q, c, none⟩ u) g q P p' v' b o :=
  ⟨h.rd.setCell (by have := h.lt; have := h.glt; show g < q; omega) _, h.fr.setCell (.inl (by have := h.lt; show w0.heap.size ≤ q; omega)) _, (Below.heap_setCell _ _ _ _ (by have := h.lt; show w0.heap.size ≠ q; omega)).trans h.res,
    by rw [← hc]; exact heap_setCell_same w q c _ _ u h.blk, h.lt, h.glt⟩
theorem CnAt.set0 {w0 w : World} {g q P : Nat} {p v : Int} {b o : Bool} (h : CnAt w0 w g q P p v b o) (x : Int) : CnAt w0 (w.setCell ⟨q, 0, none⟩ (.int .i64 x)) g q P x v b o := h.put 0 _ rfl
theorem CnAt.set1 {w0 w : World} {g q P : Nat} {p v : Int} {b o : Bool} (h : CnAt w0 w g q P p v b o) (x : Int) : CnAt w0 (w.setCell ⟨q, 1, none⟩ (.int .i64 x)) g q P p x b o := h.put 1 _ rfl
theorem CnAt.new {w0 W w1 : World} {g q P P' : Nat} {p v : Int} {b o : Bool} (hg : g < w0.heap.size) (hs : W.heap.size = w0.heap.size + 1) (hF : Fr w0.heap.size g w0 W) (hB : W.heap[w0.heap.size]? = some (.cells #[.int .i64 0, .int .i64 0, .bool false, .bool false] 24 (0, 0)))
    (hR1 : Rdr w1 g P') (hF1 : Fr W.heap.size g W w1) (hq : W.heap.size ≤ q) (hb : w1.heap[q]? = some (.cells #[.int .i64 0, .int .i64 0, .bool false, .bool false] 24 (0, 0))) (v0 v1 v2 v3 : Value) (e0 : v0 = .int .i64 p := by rfl) (e1 : v1 = .int .i64 v := by rfl) (e2 : v2 = .bool b := by rfl) (e3 : v3 = .bool o := by rfl) (hP : P' = P := by rfl) :
    CnAt w0 (w1.setRow q #[v0, v1, v2, v3]) g q P p v b o := by
  subst e0 e1 e2 e3 hP
  exact ⟨hR1.setRow (by omega) _, (hF.trans (hF1.mono (by omega))).setRow (by omega) _, (setRow_other _ _ _ _ (by omega)).trans ((hF1.block _ (by omega) (by omega)).trans hB), setRow_heap _ _ _ _ _ _ hb, by omega, hg⟩
def tyCn1 (g : Nat) : Nat → RT
  | 0 => .val (isP (.pointer (some ⟨g, 0, none⟩)))
  | 1 => .val (intP 0 8)
  | 2 => .val (isP (.pointer (some ⟨g, 0, none⟩)))
  | 3 => .val (intP 0 8)
  | 4 => .row 3 (intP 0 9999)
  | 5 => .val (isP (.pointer (some ⟨g, 0, none⟩)))
  | 6 => .val (intP 0 2)
  | 7 => .cell (intP 0 9999)
  | 8 => .val (intP 0 9999)
  | 9 => .val (isP (.pointer (some ⟨g, 0, none⟩)))
  | 10 => .val (intP 0 1)
  | 11 => .val boolP
  | 12 => .val (isP (.pointer (some ⟨g, 0, none⟩)))
  | 13 => .val (intP 0 1)
  | 14 => .val boolP
  | 15 => .val (fun v => ∃ (x0 : Int) (x1 : Int) (x2 : Bool) (x3 : Bool), v = .agg #[.int .i64 x0, .int .i64 x1, .bool x2, .bool x3] ∧ (0 ≤ x0 ∧ x0 ≤ 8) ∧ (0 ≤ x1 ∧ x1 ≤ 9999))
  | _ => .box #[.int .i64 0, .int .i64 0, .bool false, .bool false] 24
def wtCn1 : Nat → Nat
  | 1 => 1
  | 3 => 1
  | 6 => 1
  | 10 => 1
  | 13 => 1
  | _ => 0
def tyCn6 (g q : Nat) : Nat → RT
  | 0 => .row 2 (intP (-1) 10000)
  | 1 => .val (isP (.pointer (some ⟨g, 0, none⟩)))
  | 2 => .val (intP 0 1)
  | 3 => .cell (intP (-1) 10000)
  | 4 => .val (intP (-1) 10000)
  | _ => .val (isP (.pointer (some ⟨q, 1, none⟩)))
def wtCn6 : Nat → Nat
  | 2 => 1
  | _ => 0
def tyCn4 (g q : Nat) : Nat → RT
  | 0 => .row 2 (intP (-1) 10000)
  | 1 => .val (isP (.pointer (some ⟨g, 0, none⟩)))
  | 2 => .val (intP 0 1)
  | 3 => .cell (intP (-1) 10000)
  | 4 => .val (intP (-1) 10000)
  | _ => .val (isP (.pointer (some ⟨q, 0, none⟩)))
def wtCn4 : Nat → Nat
  | 2 => 1
  | _ => 0
def CntPost (g P : Nat) (w : World) (e : Ending) (w' : World) : Prop := ∃ (p v : Int) (b o : Bool), e = .returned (.agg #[.int .i64 p, .int .i64 v, .bool b, .bool o]) ∧ (-1 ≤ p ∧ p ≤ 10000) ∧ (-1 ≤ v ∧ v ≤ 10000) ∧ Rdr w' g (P + 20) ∧ Fr w.heap.size g w w'
set_option maxRecDepth 100000 in
set_option maxHeartbeats 4000000 in
theorem counter_any (g P : Nat) (n : Int) (w : World) (hw : Rdr w g P) (hP : P + 100 ≤ 1000000) (hn : 0 ≤ n ∧ n ≤ 1000) :
    Calls Try.prog 35 #[.pointer (some ⟨g, 0, none⟩), .int .i64 n] w (CntPost g P w) := by
  have hgl := hw.lt
  have hR := hw.below ((Below.refl _ _).alloc (Nat.le_refl _) (.cells #[.int .i64 0, .int .i64 0, .bool false, .bool false] 24))
  have hF := (Fr.refl w.heap.size g w).alloc (Nat.le_refl _) (.cells #[.int .i64 0, .int .i64 0, .bool false, .bool false] 24)
  have hB := heap_alloc_new w (.cells #[.int .i64 0, .int .i64 0, .bool false, .bool false] 24)
  have hWs : (w.alloc (.cells #[.int .i64 0, .int .i64 0, .bool false, .bool false] 24)).heap.size = w.heap.size + 1 := by simp
  go_enter Try.func35, Try.ntmps35
  go_upto_region 1 with fail
  generalize w.alloc (.cells #[.int .i64 0, .int .i64 0, .bool false, .bool false] 24) = W at hR hF hB hWs ⊢
  have hg := hR.lt
  refine region_typed_last (m := 17) (S := SG g W.heap.size (tyCn1 g)) (Le := LeG g) (M := MG g P W) (wt := wtCn1) [6, 7, 8, 9, 10, 11, 12, 13, 14, 15, 16, 17, 18, 19, 20, 21, 5] (by kernel_rfl) (by kernel_rfl) (regOK_of (by kernel_rfl)) SG_le rfl rfl rfl rfl (by kernel_rfl) (all_ops_lt ?_) ?_ ?_
  · refine allFrom_cons ?_ (allFrom_cons ?_ (allFrom_cons ?_ (allFrom_cons ?_ (allFrom_cons ?_ (allFrom_cons ?_ (allFrom_cons ?_ (allFrom_cons ?_ (allFrom_cons ?_ (allFrom_cons ?_ (allFrom_cons ?_ (allFrom_cons ?_ (allFrom_cons ?_ (allFrom_cons ?_ (allFrom_cons ?_ (allFrom_cons ?_ (allFrom_cons ?_ (allFrom_cons ?_ allFrom_nil)))))))))))))))))
    · intro _
      exact ok_move rfl (.inl rfl) (knows_old (by kernel_rfl) rfl rfl)
    · intro _
      exact ok_pick (lo := 9) (hi := 9) rfl rfl (knows_dep 0 (by kernel_rfl) (by kernel_rfl)) (kint 9 (by omega)) (by omega) (by omega) (by show _ + 5 ≤ _; omega) rfl
    · intro _
      exact ok_move rfl (.inl rfl) (knows_old (by kernel_rfl) rfl rfl)
    · intro _
      exact ok_pick (lo := 9) (hi := 9) rfl rfl (knows_dep 2 (by kernel_rfl) (by kernel_rfl)) (kint 9 (by omega)) (by omega) (by omega) (by show _ + 5 ≤ _; omega) rfl
    · intro _
      exact ok_row (p := intP 0 9999) (xs := [.tmp 9, .const (.int .i64 9999), .const (.int .i64 0)]) rfl rfl hg Try.underlying51 (by kernel_rfl) (by kernel_rfl) rfl rfl (by omega) (by omega) (kall_cons (Knows.mono (p := intP 0 8) (knows_dep 3 (by kernel_rfl) (by kernel_rfl)) (intP_mono (by omega) (by omega))) (kall_cons (kint 9999 (by omega)) (kall_cons (kint 0 (by omega)) kall_nil))) intP_one rfl
    · intro _
      exact ok_move rfl (.inl rfl) (knows_old (by kernel_rfl) rfl rfl)
    · intro _
      exact ok_pick (lo := 3) (hi := 3) rfl rfl (knows_dep 5 (by kernel_rfl) (by kernel_rfl)) (kint 3 (by omega)) (by omega) (by omega) (by show _ + 5 ≤ _; omega) rfl
    · intro _
      exact ok_index (n := 3) (p := intP 0 9999) (lo := 0) (hi := 2) rfl rfl Try.underlying51 (by kernel_rfl) (knows_dep 4 (by kernel_rfl) (by kernel_rfl)) (knows_dep 6 (by kernel_rfl) (by kernel_rfl)) (by omega) rfl
    · intro _
      exact ok_load rfl rfl ld_int (knows_dep 7 (by kernel_rfl) (by kernel_rfl)) rfl
    · intro _
      exact ok_move rfl (.inl rfl) (knows_old (by kernel_rfl) rfl rfl)
    · intro _
      exact ok_pick (lo := 2) (hi := 2) rfl rfl (knows_dep 9 (by kernel_rfl) (by kernel_rfl)) (kint 2 (by omega)) (by omega) (by omega) (by show _ + 5 ≤ _; omega) rfl
    · intro _
      exact ok_eql (l1 := 0) (h1 := 1) (l2 := 0) (h2 := 0) rfl rfl (knows_dep 10 (by kernel_rfl) (by kernel_rfl)) (kint 0 (by omega)) rfl
    · intro _
      exact ok_move rfl (.inl rfl) (knows_old (by kernel_rfl) rfl rfl)
    · intro _
      exact ok_pick (lo := 2) (hi := 2) rfl rfl (knows_dep 12 (by kernel_rfl) (by kernel_rfl)) (kint 2 (by omega)) (by omega) (by omega) (by show _ + 5 ≤ _; omega) rfl
    · intro _
      exact ok_eql (l1 := 0) (h1 := 1) (l2 := 0) (h2 := 0) rfl rfl (knows_dep 13 (by kernel_rfl) (by kernel_rfl)) (kint 0 (by omega)) rfl
    · intro _
      exact ok_build rfl rfl fun a w k1 k2 => by
        obtain ⟨z0, e0, z0l, z0h⟩ := knows_dep (d := 7) 1 (by kernel_rfl) (by kernel_rfl) a w k1 k2
        obtain ⟨z1, e1, z1l, z1h⟩ := knows_dep (d := 14) 8 (by kernel_rfl) (by kernel_rfl) a w k1 k2
        obtain ⟨z2, e2⟩ := knows_dep (d := 17) 11 (by kernel_rfl) (by kernel_rfl) a w k1 k2
        obtain ⟨z3, e3⟩ := knows_dep (d := 20) 14 (by kernel_rfl) (by kernel_rfl) a w k1 k2
        refine ⟨#[.int .i64 z0, .int .i64 z1, .bool z2, .bool z3], ?_, ⟨z0, z1, z2, z3, rfl, ⟨z0l, z0h⟩, ⟨z1l, z1h⟩⟩⟩
        simp only [List.map_toArray, List.map_cons, List.map_nil, e0, e1, e2, e3]
        kernel_rfl
    · intro _
      exact ok_alloc rfl rfl hg (fun w => by simp [go_sem]) rfl
    · intro h
      exact absurd h (by omega)
  · exact ⟨hR.drew, (Fr.refl _ _ _).drew⟩
  intro f w1 hS hM
  have s5 := hS 16 5 (by kernel_rfl)
  have s21 := hS 15 21 (by kernel_rfl)
  obtain ⟨hR1, hF1⟩ := hM
  clear hS hR
  simp only [fillD, List.foldl_cons, List.foldl_nil, List.setIfInBounds_toArray, List.set_cons_zero, List.set_cons_succ]
  generalize f 5 = f5 at s5 ⊢
  generalize f 21 = f21 at s21 ⊢
  obtain ⟨q, rfl, q1, q2, q3⟩ := s5
  obtain ⟨p, v, b, o, rfl, pb, vb⟩ := s21
  refine ⟨?_⟩
  simp only [List.getElem_toArray, List.getElem_cons_succ, List.getElem_cons_zero]
  refine last_store_row (q := q) rfl rfl rfl rfl q3 (by kernel_rfl) rfl (by simp [Value.oneCell']) ?_
  have hT : CnAt w (w1.setRow q #[.int .i64 p, .int .i64 v, .bool b, .bool o]) g q (P + 5) p v b o :=
    CnAt.new hgl hWs hF hB hR1 hF1 q2 q3 (.int .i64 p) (.int .i64 v) (.bool b) (.bool o)
  clear hR1 hF1 hF hB hWs q1 q2 q3 hg
  generalize w1.setRow q #[.int .i64 p, .int .i64 v, .bool b, .bool o] = w2 at hT ⊢
  go_wp2_with fail
  refine (odd_any g (P + 5) n _ hT.rd (by omega) (by omega) (by omega)).mono ?_
  rintro e w4 ⟨bb, rfl, -, hR4, hF4⟩
  have hT4 := hT.to hF4 hR4
  clear hT hR4 hF4
  have hT := hT4
  clear hT4
  cases bb
  · obtain ⟨c0, c1, c2, c3, -⟩ := blk4 hT.blk
    obtain ⟨d0, d1, d2, d3, e0, e1, e2, e3⟩ := blk4 hT.res
    have hne := hT.ne2
    have hRf := hT.rd
    have hFf := hT.fr
    go_wp2
    exact bodyPost_ret (v := .agg #[.int .i64 p, .int .i64 v, .bool b, .bool o]) (by simp [results, Try.results35, go_sem, *]) rfl ⟨_, _, b, o, rfl, by omega, by omega, ((((hRf.setCell hgl _).setCell hgl _).setCell hgl _).setCell hgl _).mono (by omega), (((hFf.setCell (.inl (Nat.le_refl _)) _).setCell (.inl (Nat.le_refl _)) _).setCell (.inl (Nat.le_refl _)) _).setCell (.inl (Nat.le_refl _)) _⟩
  · go_wp2_with fail
    refine (pick_any g (P + 5 + 1) 2 _ hT.rd (by omega) (by omega)).mono ?_
    rintro e w5 ⟨r, rfl, hr, hR5, hF5⟩
    have hT5 := hT.to hF5 hR5
    clear hT hR5 hF5
    have hT := hT5
    clear hT5
    have hr3 : r = 0 ∨ r = 1 := by omega
    clear hr
    rcases hr3 with rfl | rfl
    · have hg := hT.rd.lt
      go_upto_region 6 with fail
      refine region_typed_last_f (m := 6) (S := SG g w5.heap.size (tyCn6 g q)) (Le := LeG g) (M := MG g (P + 7) w5) (wt := wtCn6) [35, 36, 37, 38, 39, 40] (by kernel_rfl) (regOK_of (by kernel_rfl)) SG_le rfl rfl rfl rfl (all_ops_lt ?_) ?_ ?_
      · refine allFrom_cons ?_ (allFrom_cons ?_ (allFrom_cons ?_ (allFrom_cons ?_ (allFrom_cons ?_ (allFrom_cons ?_ (allFrom_cons ?_ allFrom_nil))))))
        · intro _
          exact ok_row (p := intP (-1) 10000) (xs := [.const (.int .i64 (-1)), .const (.int .i64 10000)]) rfl rfl hg Try.underlying51 (by kernel_rfl) (by kernel_rfl) rfl rfl (by omega) (by omega) (kall_cons (kint (-1) (by omega)) (kall_cons (kint 10000 (by omega)) kall_nil)) intP_one rfl
        · intro _
          exact ok_move rfl (.inl rfl) (knows_old (by kernel_rfl) rfl rfl)
        · intro _
          exact ok_pick (lo := 2) (hi := 2) rfl rfl (knows_dep 1 (by kernel_rfl) (by kernel_rfl)) (kint 2 (by omega)) (by omega) (by omega) (by show _ + 1 ≤ _; omega) rfl
        · intro _
          exact ok_index (n := 2) (p := intP (-1) 10000) (lo := 0) (hi := 1) rfl rfl Try.underlying51 (by kernel_rfl) (knows_dep 0 (by kernel_rfl) (by kernel_rfl)) (knows_dep 2 (by kernel_rfl) (by kernel_rfl)) (by omega) rfl
        · intro _
          exact ok_load rfl rfl ld_int (knows_dep 3 (by kernel_rfl) (by kernel_rfl)) rfl
        · intro _
          exact ok_field (k := q) (c := 1) rfl rfl (fun w => by simp [go_sem]) (knows_old (by kernel_rfl) rfl rfl) rfl
        · intro h
          exact absurd h (by omega)
      · exact ⟨hT.rd, Fr.refl _ _ _⟩
      intro f w1 hS hM
      have sa := hS 5 40 (by kernel_rfl)
      have sv := hS 4 39 (by kernel_rfl)
      obtain ⟨hR1, hF1⟩ := hM
      replace hR1 : Rdr w1 g ((P + 7) + 1) := hR1
      clear hS
      simp only [fillD, List.foldl_cons, List.foldl_nil, List.setIfInBounds_toArray, List.set_cons_zero, List.set_cons_succ]
      generalize f 40 = fa at sa ⊢
      generalize f 39 = fv at sv ⊢
      obtain rfl : fa = .pointer (some ⟨q, 1, none⟩) := sa
      obtain ⟨x, rfl, xb⟩ : intP (-1) 10000 fv := sv
      have hT1 := hT.to hF1 hR1
      clear hR1 hF1 hT
      refine ⟨?_⟩
      simp only [List.getElem_toArray, List.getElem_cons_succ, List.getElem_cons_zero]
      refine last_store_cell (q := q) (c := 1) (u := .int .i64 x) rfl rfl rfl rfl (st_int _ _ _ _ x (blk_cell hT1.blk 1) (blk_frozen hT1.blk 1)) ?_
      have hT := hT1.set1 x
      clear hT1
      generalize w1.setCell ⟨q, 1, none⟩ (.int .i64 x) = w6 at hT ⊢
      obtain ⟨c0, c1, c2, c3, -⟩ := blk4 hT.blk
      obtain ⟨d0, d1, d2, d3, e0, e1, e2, e3⟩ := blk4 hT.res
      have hne := hT.ne2
      have hRf := hT.rd
      have hFf := hT.fr
      go_wp2
      exact bodyPost_ret (v := .agg #[.int .i64 p, .int .i64 x, .bool b, .bool o]) (by simp [results, Try.results35, go_sem, *]) rfl ⟨_, _, b, o, rfl, by omega, by omega, ((((hRf.setCell hgl _).setCell hgl _).setCell hgl _).setCell hgl _).mono (by omega), (((hFf.setCell (.inl (Nat.le_refl _)) _).setCell (.inl (Nat.le_refl _)) _).setCell (.inl (Nat.le_refl _)) _).setCell (.inl (Nat.le_refl _)) _⟩
    · have hg := hT.rd.lt
      go_upto_region 4 with fail
      refine region_typed_last_f (m := 6) (S := SG g w5.heap.size (tyCn4 g q)) (Le := LeG g) (M := MG g (P + 7) w5) (wt := wtCn4) [27, 28, 29, 30, 31, 32] (by kernel_rfl) (regOK_of (by kernel_rfl)) SG_le rfl rfl rfl rfl (all_ops_lt ?_) ?_ ?_
      · refine allFrom_cons ?_ (allFrom_cons ?_ (allFrom_cons ?_ (allFrom_cons ?_ (allFrom_cons ?_ (allFrom_cons ?_ (allFrom_cons ?_ allFrom_nil))))))
        · intro _
          exact ok_row (p := intP (-1) 10000) (xs := [.const (.int .i64 (-1)), .const (.int .i64 10000)]) rfl rfl hg Try.underlying51 (by kernel_rfl) (by kernel_rfl) rfl rfl (by omega) (by omega) (kall_cons (kint (-1) (by omega)) (kall_cons (kint 10000 (by omega)) kall_nil)) intP_one rfl
        · intro _
          exact ok_move rfl (.inl rfl) (knows_old (by kernel_rfl) rfl rfl)
        · intro _
          exact ok_pick (lo := 2) (hi := 2) rfl rfl (knows_dep 1 (by kernel_rfl) (by kernel_rfl)) (kint 2 (by omega)) (by omega) (by omega) (by show _ + 1 ≤ _; omega) rfl
        · intro _
          exact ok_index (n := 2) (p := intP (-1) 10000) (lo := 0) (hi := 1) rfl rfl Try.underlying51 (by kernel_rfl) (knows_dep 0 (by kernel_rfl) (by kernel_rfl)) (knows_dep 2 (by kernel_rfl) (by kernel_rfl)) (by omega) rfl
        · intro _
          exact ok_load rfl rfl ld_int (knows_dep 3 (by kernel_rfl) (by kernel_rfl)) rfl
        · intro _
          exact ok_field (k := q) (c := 0) rfl rfl (fun w => by simp [go_sem]) (knows_old (by kernel_rfl) rfl rfl) rfl
        · intro h
          exact absurd h (by omega)
      · exact ⟨hT.rd, Fr.refl _ _ _⟩
      intro f w1 hS hM
      have sa := hS 5 32 (by kernel_rfl)
      have sv := hS 4 31 (by kernel_rfl)
      obtain ⟨hR1, hF1⟩ := hM
      replace hR1 : Rdr w1 g ((P + 7) + 1) := hR1
      clear hS
      simp only [fillD, List.foldl_cons, List.foldl_nil, List.setIfInBounds_toArray, List.set_cons_zero, List.set_cons_succ]
      generalize f 32 = fa at sa ⊢
      generalize f 31 = fv at sv ⊢
      obtain rfl : fa = .pointer (some ⟨q, 0, none⟩) := sa
      obtain ⟨x, rfl, xb⟩ : intP (-1) 10000 fv := sv
      have hT1 := hT.to hF1 hR1
      clear hR1 hF1 hT
      refine ⟨?_⟩
      simp only [List.getElem_toArray, List.getElem_cons_succ, List.getElem_cons_zero]
      refine last_store_cell (q := q) (c := 0) (u := .int .i64 x) rfl rfl rfl rfl (st_int _ _ _ _ x (blk_cell hT1.blk 0) (blk_frozen hT1.blk 0)) ?_
      have hT := hT1.set0 x
      clear hT1
      generalize w1.setCell ⟨q, 0, none⟩ (.int .i64 x) = w6 at hT ⊢
      obtain ⟨c0, c1, c2, c3, -⟩ := blk4 hT.blk
      obtain ⟨d0, d1, d2, d3, e0, e1, e2, e3⟩ := blk4 hT.res
      have hne := hT.ne2
      have hRf := hT.rd
      have hFf := hT.fr
      go_wp2
      exact bodyPost_ret (v := .agg #[.int .i64 x, .int .i64 v, .bool b, .bool o]) (by simp [results, Try.results35, go_sem, *]) rfl ⟨_, _, b, o, rfl, by omega, by omega, ((((hRf.setCell hgl _).setCell hgl _).setCell hgl _).setCell hgl _).mono (by omega), (((hFf.setCell (.inl (Nat.le_refl _)) _).setCell (.inl (Nat.le_refl _)) _).setCell (.inl (Nat.le_refl _)) _).setCell (.inl (Nat.le_refl _)) _⟩
end Go.Proofs.Ytldlfailmmmdmaa
