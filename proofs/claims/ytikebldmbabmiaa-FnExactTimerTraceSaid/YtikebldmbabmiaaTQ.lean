/- Contracts of the drawn timers. -/
import Derived.Test.YtikebldmbabmiaaTP
import Derived.Test.YtikebldmbabmiaaLD
namespace Go.Proofs.Ytikebldmbabmiaa
open Go.RowKit
attribute [local go_sem ↓] Go.wp_at_zero Go.wp_at_succ

theorem Fr.setRow {B g : Nat} {a w : World} (h : Fr B g a w) {q : Nat} (hq : B ≤ q) (cs : Array Value) : Fr B g a (w.setRow q cs) :=
  h.trans ⟨rfl, rfl, rfl, by simp [World.setRow], fun k hk _ => setRow_other w q k cs (by omega)⟩
theorem Rdr.setRow {w : World} {g P : Nat} (h : Rdr w g P) {q : Nat} (hq : g < q) (cs : Array Value) : Rdr (w.setRow q cs) g P :=
  h.keep ⟨rfl, rfl, rfl, by simp [World.setRow], fun k hk => setRow_other w q k cs (by omega)⟩
theorem blk5 {w : World} {k t : Nat} {x0 x1 x2 x3 x4 : Value} (h : w.heap[k]? = some (.cells #[x0, x1, x2, x3, x4] t (0, 0))) :
    w.cell? ⟨k, 0, none⟩ = some x0 ∧ w.cell? ⟨k, 1, none⟩ = some x1 ∧ w.cell? ⟨k, 2, none⟩ = some x2 ∧ w.cell? ⟨k, 3, none⟩ = some x3 ∧ w.cell? ⟨k, 4, none⟩ = some x4 ∧
    w.frozen? ⟨k, 0, none⟩ = false ∧ w.frozen? ⟨k, 1, none⟩ = false ∧ w.frozen? ⟨k, 2, none⟩ = false ∧ w.frozen? ⟨k, 3, none⟩ = false ∧ w.frozen? ⟨k, 4, none⟩ = false :=
  ⟨blk_cell h 0, blk_cell h 1, blk_cell h 2, blk_cell h 3, blk_cell h 4, blk_frozen h 0, blk_frozen h 1, blk_frozen h 2, blk_frozen h 3, blk_frozen h 4⟩
/-- A timer that is being drawn: it lies in block q, the result's box in the block at which the call began. -/
structure TmAt (w0 w : World) (g q P : Nat) (k p l : Int) (b o : Bool) : Prop where
  rd : Rdr w g P
  fr : Fr w0.heap.size g w0 w
  res : w.heap[w0.heap.size]? = some (.cells #[.int .i64 0, .int .i64 0, .int .i64 0, .bool false, .bool false] 24 (0, 0))
  blk : w.heap[q]? = some (.cells #[.int .i64 k, .int .i64 p, .int .i64 l, .bool b, .bool o] 24 (0, 0))
  lt : w0.heap.size < q
  glt : g < w0.heap.size
theorem TmAt.ne {w0 w : World} {g q P : Nat} {k p l : Int} {b o : Bool} (h : TmAt w0 w g q P k p l b o) : q ≠ g := by have := h.lt; have := h.glt; omega
theorem TmAt.ne2 {w0 w : World} {g q P : Nat} {k p l : Int} {b o : Bool} (h : TmAt w0 w g q P k p l b o) : q ≠ w0.heap.size ∧ w0.heap.size ≠ q := by have := h.lt; omega
theorem TmAt.to {w0 w w' : World} {g q P P' : Nat} {k p l : Int} {b o : Bool} (h : TmAt w0 w g q P k p l b o) (hf : Fr w.heap.size g w w') (hr : Rdr w' g P') : TmAt w0 w' g q P' k p l b o :=
  ⟨hr, h.fr.trans (hf.mono h.fr.size), (hf.block _ (blk_lt h.res) (by have := h.glt; omega)).trans h.res, (hf.block _ (blk_lt h.blk) h.ne).trans h.blk, h.lt, h.glt⟩
theorem TmAt.next {w0 w w' : World} {g q P P' : Nat} {k p l : Int} {b o : Bool} (h : TmAt w0 w g q P k p l b o) (hf : Fr w.heap.size g w w') (hr : Rdr w' g P') : TmAt w0 w' g q P' k p l b o := h.to hf hr
theorem TmAt.put {w0 w : World} {g q P : Nat} {k p l k' p' l' : Int} {b o : Bool} (h : TmAt w0 w g q P k p l b o) (c : Nat) (u : Value) (hc : (#[.int .i64 k, .int .i64 p, .int .i64 l, .bool b, .bool o] : Array Value).setIfInBounds c u = #[.int .i64 k', .int .i64 p', .int .i64 l', .bool b, .bool o]) :
    TmAt w0 (w.setCell ⟨q, c, none⟩ u) g q P k' p' l' b o :=
  ⟨h.rd.setCell (by have := h.lt; have := h.glt; show g < q; omega) _, h.fr.setCell (.inl (by have := h.lt; show w0.heap.size ≤ q; omega)) _, (Below.heap_setCell _ _ _ _ (by have := h.lt; show w0.heap.size ≠ q; omega)).trans h.res,
    by rw [← hc]; exact heap_setCell_same w q c _ _ u h.blk, h.lt, h.glt⟩
theorem TmAt.set0 {w0 w : World} {g q P : Nat} {k p l : Int} {b o : Bool} (h : TmAt w0 w g q P k p l b o) (x : Int) : TmAt w0 (w.setCell ⟨q, 0, none⟩ (.int .i64 x)) g q P x p l b o := h.put 0 _ rfl
theorem TmAt.set1 {w0 w : World} {g q P : Nat} {k p l : Int} {b o : Bool} (h : TmAt w0 w g q P k p l b o) (x : Int) : TmAt w0 (w.setCell ⟨q, 1, none⟩ (.int .i64 x)) g q P k x l b o := h.put 1 _ rfl
theorem TmAt.set2 {w0 w : World} {g q P : Nat} {k p l : Int} {b o : Bool} (h : TmAt w0 w g q P k p l b o) (x : Int) : TmAt w0 (w.setCell ⟨q, 2, none⟩ (.int .i64 x)) g q P k p x b o := h.put 2 _ rfl
theorem TmAt.new {w0 W w1 : World} {g q P P' : Nat} {k p : Int} {b o : Bool} (hg : g < w0.heap.size) (hs : W.heap.size = w0.heap.size + 1) (hF : Fr w0.heap.size g w0 W) (hB : W.heap[w0.heap.size]? = some (.cells #[.int .i64 0, .int .i64 0, .int .i64 0, .bool false, .bool false] 24 (0, 0)))
    (hR1 : Rdr w1 g P') (hF1 : Fr W.heap.size g W w1) (hq : W.heap.size ≤ q) (hb : w1.heap[q]? = some (.cells #[.int .i64 0, .int .i64 0, .int .i64 0, .bool false, .bool false] 24 (0, 0))) (v0 v1 v2 v3 v4 : Value) (e0 : v0 = .int .i64 k := by rfl) (e1 : v1 = .int .i64 p := by rfl) (e2 : v2 = .int .i64 0 := by rfl) (e3 : v3 = .bool b := by rfl) (e4 : v4 = .bool o := by rfl) (hP : P' = P := by rfl) :
    TmAt w0 (w1.setRow q #[v0, v1, v2, v3, v4]) g q P k p 0 b o := by
  subst e0 e1 e2 e3 e4 hP
  exact ⟨hR1.setRow (by omega) _, (hF.trans (hF1.mono (by omega))).setRow (by omega) _, (setRow_other _ _ _ _ (by omega)).trans ((hF1.block _ (by omega) (by omega)).trans hB), setRow_heap _ _ _ _ _ _ hb, by omega, hg⟩
def tyTm1 (g : Nat) : Nat → RT
  | 0 => .val (isP (.pointer (some ⟨g, 0, none⟩)))
  | 1 => .val (intP 0 2)
  | 2 => .val (intP 1 3)
  | 3 => .val (isP (.pointer (some ⟨g, 0, none⟩)))
  | 4 => .val (intP 0 199)
  | 5 => .row 5 (intP 0 10000)
  | 6 => .val (isP (.pointer (some ⟨g, 0, none⟩)))
  | 7 => .val (intP 0 4)
  | 8 => .cell (intP 0 10000)
  | 9 => .val (intP 0 10000)
  | 10 => .val (isP (.pointer (some ⟨g, 0, none⟩)))
  | 11 => .val (intP 0 1)
  | 12 => .val boolP
  | 13 => .val (isP (.pointer (some ⟨g, 0, none⟩)))
  | 14 => .val (intP 0 1)
  | 15 => .val boolP
  | 16 => .val (fun v => ∃ (x0 : Int) (x1 : Int) (x3 : Bool) (x4 : Bool), v = .agg #[.int .i64 x0, .int .i64 x1, .int .i64 0, .bool x3, .bool x4] ∧ (1 ≤ x0 ∧ x0 ≤ 3) ∧ (0 ≤ x1 ∧ x1 ≤ 10000))
  | _ => .box #[.int .i64 0, .int .i64 0, .int .i64 0, .bool false, .bool false] 24
def wtTm1 : Nat → Nat
  | 1 => 1
  | 4 => 1
  | 7 => 1
  | 11 => 1
  | 14 => 1
  | _ => 0
def tyTm2 (g q : Nat) : Nat → RT
  | 0 => .val (isP (.pointer (some ⟨q, 1, none⟩)))
  | 1 => .val (intP 0 10000)
  | 2 => .val (isP (.pointer (some ⟨g, 0, none⟩)))
  | 3 => .val (isP (.pointer (some ⟨q, 1, none⟩)))
  | 4 => .val (intP 0 10000)
  | 5 => .val (intP 1 10001)
  | 6 => .val (intP 0 10000)
  | 7 => .row 3 (intP 0 10000)
  | 8 => .val (isP (.pointer (some ⟨g, 0, none⟩)))
  | 9 => .val (intP 0 2)
  | 10 => .cell (intP 0 10000)
  | 11 => .val (intP 0 10000)
  | _ => .val (isP (.pointer (some ⟨q, 2, none⟩)))
def wtTm2 : Nat → Nat
  | 6 => 1
  | 9 => 1
  | _ => 0
def tyTm7 (g q : Nat) : Nat → RT
  | 0 => .row 2 (intP 0 4)
  | 1 => .val (isP (.pointer (some ⟨g, 0, none⟩)))
  | 2 => .val (intP 0 1)
  | 3 => .cell (intP 0 4)
  | 4 => .val (intP 0 4)
  | _ => .val (isP (.pointer (some ⟨q, 0, none⟩)))
def wtTm7 : Nat → Nat
  | 2 => 1
  | _ => 0
def tyTm9 (g q : Nat) : Nat → RT
  | 0 => .row 2 (intP (-1) 10001)
  | 1 => .val (isP (.pointer (some ⟨g, 0, none⟩)))
  | 2 => .val (intP 0 1)
  | 3 => .cell (intP (-1) 10001)
  | 4 => .val (intP (-1) 10001)
  | _ => .val (isP (.pointer (some ⟨q, 1, none⟩)))
def wtTm9 : Nat → Nat
  | 2 => 1
  | _ => 0
def tyTm5 (g q : Nat) : Nat → RT
  | 0 => .val (isP (.pointer (some ⟨q, 1, none⟩)))
  | 1 => .val (intP 0 10000)
  | 2 => .val (intP 1 10001)
  | 3 => .row 2 (intP (-1) 10001)
  | 4 => .val (isP (.pointer (some ⟨g, 0, none⟩)))
  | 5 => .val (intP 0 1)
  | 6 => .cell (intP (-1) 10001)
  | 7 => .val (intP (-1) 10001)
  | _ => .val (isP (.pointer (some ⟨q, 2, none⟩)))
def wtTm5 : Nat → Nat
  | 5 => 1
  | _ => 0

def TimPost (g P : Nat) (w : World) (e : Ending) (w' : World) : Prop := ∃ (k p l : Int) (b o : Bool), e = .returned (.agg #[.int .i64 k, .int .i64 p, .int .i64 l, .bool b, .bool o]) ∧ (0 ≤ k ∧ k ≤ 4) ∧ (-1 ≤ p ∧ p ≤ 10001) ∧ (-1 ≤ l ∧ l ≤ 10001) ∧ Rdr w' g (P + 20) ∧ Fr w.heap.size g w w'
set_option maxRecDepth 100000 in
set_option maxHeartbeats 4000000 in
theorem timer_any (g P : Nat) (n : Int) (w : World) (hw : Rdr w g P) (hP : P + 100 ≤ 1000000) (hn : 0 ≤ n ∧ n ≤ 1000) :
    Calls Try.prog 34 #[.pointer (some ⟨g, 0, none⟩), .int .i64 n] w (TimPost g P w) := by
  have hgl := hw.lt
  have hR := hw.below ((Below.refl _ _).alloc (Nat.le_refl _) (.cells #[.int .i64 0, .int .i64 0, .int .i64 0, .bool false, .bool false] 24))
  have hF := (Fr.refl w.heap.size g w).alloc (Nat.le_refl _) (.cells #[.int .i64 0, .int .i64 0, .int .i64 0, .bool false, .bool false] 24)
  have hB := heap_alloc_new w (.cells #[.int .i64 0, .int .i64 0, .int .i64 0, .bool false, .bool false] 24)
  have hWs : (w.alloc (.cells #[.int .i64 0, .int .i64 0, .int .i64 0, .bool false, .bool false] 24)).heap.size = w.heap.size + 1 := by simp
  go_enter Try.func34, Try.ntmps34
  go_upto_region 1 with fail
  generalize w.alloc (.cells #[.int .i64 0, .int .i64 0, .int .i64 0, .bool false, .bool false] 24) = W at hR hF hB hWs ⊢
  have hg := hR.lt
  refine region_typed_last (m := 18) (S := SG g W.heap.size (tyTm1 g)) (Le := LeG g) (M := MG g P W) (wt := wtTm1) [6, 7, 8, 9, 10, 11, 12, 13, 14, 15, 16, 17, 18, 19, 20, 21, 22, 5] (by kernel_rfl) (by kernel_rfl) (regOK_of (by kernel_rfl)) SG_le rfl rfl rfl rfl (by kernel_rfl) (all_ops_lt ?_) ?_ ?_
  · refine allFrom_cons ?_ (allFrom_cons ?_ (allFrom_cons ?_ (allFrom_cons ?_ (allFrom_cons ?_ (allFrom_cons ?_ (allFrom_cons ?_ (allFrom_cons ?_ (allFrom_cons ?_ (allFrom_cons ?_ (allFrom_cons ?_ (allFrom_cons ?_ (allFrom_cons ?_ (allFrom_cons ?_ (allFrom_cons ?_ (allFrom_cons ?_ (allFrom_cons ?_ (allFrom_cons ?_ (allFrom_cons ?_ allFrom_nil))))))))))))))))))
    · intro _
      exact ok_move rfl (.inl rfl) (knows_old (by kernel_rfl) rfl rfl)
    · intro _
      exact ok_pick (lo := 3) (hi := 3) rfl rfl (knows_dep 0 (by kernel_rfl) (by kernel_rfl)) (kint 3 (by omega)) (by omega) (by omega) (by show _ + 5 ≤ _; omega) rfl
    · intro _
      exact ok_add (l1 := 1) (h1 := 1) (l2 := 0) (h2 := 2) rfl rfl (kint 1 (by omega)) (knows_dep 1 (by kernel_rfl) (by kernel_rfl)) (by omega) rfl
    · intro _
      exact ok_move rfl (.inl rfl) (knows_old (by kernel_rfl) rfl rfl)
    · intro _
      exact ok_pick (lo := 200) (hi := 200) rfl rfl (knows_dep 3 (by kernel_rfl) (by kernel_rfl)) (kint 200 (by omega)) (by omega) (by omega) (by show _ + 5 ≤ _; omega) rfl
    · intro _
      exact ok_row (p := intP 0 10000) (xs := [.const (.int .i64 0), .const (.int .i64 10), .const (.int .i64 25), .tmp 10, .const (.int .i64 10000)]) rfl rfl hg Try.underlying59 (by kernel_rfl) (by kernel_rfl) rfl rfl (by omega) (by omega) (kall_cons (kint 0 (by omega)) (kall_cons (kint 10 (by omega)) (kall_cons (kint 25 (by omega)) (kall_cons (Knows.mono (p := intP 0 199) (knows_dep 4 (by kernel_rfl) (by kernel_rfl)) (intP_mono (by omega) (by omega))) (kall_cons (kint 10000 (by omega)) kall_nil))))) intP_one rfl
    · intro _
      exact ok_move rfl (.inl rfl) (knows_old (by kernel_rfl) rfl rfl)
    · intro _
      exact ok_pick (lo := 5) (hi := 5) rfl rfl (knows_dep 6 (by kernel_rfl) (by kernel_rfl)) (kint 5 (by omega)) (by omega) (by omega) (by show _ + 5 ≤ _; omega) rfl
    · intro _
      exact ok_index (n := 5) (p := intP 0 10000) (lo := 0) (hi := 4) rfl rfl Try.underlying59 (by kernel_rfl) (knows_dep 5 (by kernel_rfl) (by kernel_rfl)) (knows_dep 7 (by kernel_rfl) (by kernel_rfl)) (by omega) rfl
    · intro _
      exact ok_load rfl rfl ld_int (knows_dep 8 (by kernel_rfl) (by kernel_rfl)) rfl
    · intro _
      exact ok_move rfl (.inl rfl) (knows_old (by kernel_rfl) rfl rfl)
    · intro _
      exact ok_pick (lo := 2) (hi := 2) rfl rfl (knows_dep 10 (by kernel_rfl) (by kernel_rfl)) (kint 2 (by omega)) (by omega) (by omega) (by show _ + 5 ≤ _; omega) rfl
    · intro _
      exact ok_eql (l1 := 0) (h1 := 1) (l2 := 0) (h2 := 0) rfl rfl (knows_dep 11 (by kernel_rfl) (by kernel_rfl)) (kint 0 (by omega)) rfl
    · intro _
      exact ok_move rfl (.inl rfl) (knows_old (by kernel_rfl) rfl rfl)
    · intro _
      exact ok_pick (lo := 2) (hi := 2) rfl rfl (knows_dep 13 (by kernel_rfl) (by kernel_rfl)) (kint 2 (by omega)) (by omega) (by omega) (by show _ + 5 ≤ _; omega) rfl
    · intro _
      exact ok_eql (l1 := 0) (h1 := 1) (l2 := 0) (h2 := 0) rfl rfl (knows_dep 14 (by kernel_rfl) (by kernel_rfl)) (kint 0 (by omega)) rfl
    · intro _
      exact ok_build rfl rfl fun a w k1 k2 => by
        obtain ⟨z0, e0, z0l, z0h⟩ := knows_dep (d := 8) 2 (by kernel_rfl) (by kernel_rfl) a w k1 k2
        obtain ⟨z1, e1, z1l, z1h⟩ := knows_dep (d := 15) 9 (by kernel_rfl) (by kernel_rfl) a w k1 k2
        obtain ⟨z3, e3⟩ := knows_dep (d := 18) 12 (by kernel_rfl) (by kernel_rfl) a w k1 k2
        obtain ⟨z4, e4⟩ := knows_dep (d := 21) 15 (by kernel_rfl) (by kernel_rfl) a w k1 k2
        refine ⟨#[.int .i64 z0, .int .i64 z1, .int .i64 0, .bool z3, .bool z4], ?_, ⟨z0, z1, z3, z4, rfl, ⟨z0l, z0h⟩, ⟨z1l, z1h⟩⟩⟩
        simp only [List.map_toArray, List.map_cons, List.map_nil, e0, e1, e3, e4]
        kernel_rfl
    · intro _
      exact ok_alloc rfl rfl hg (fun w => by simp [go_sem]) rfl
    · intro h
      exact absurd h (by omega)
  · exact ⟨hR.drew, (Fr.refl _ _ _).drew⟩
  intro f w1 hS hM
  have s5 := hS 17 5 (by kernel_rfl)
  have s22 := hS 16 22 (by kernel_rfl)
  obtain ⟨hR1, hF1⟩ := hM
  clear hS hR
  simp only [fillD, List.foldl_cons, List.foldl_nil, List.setIfInBounds_toArray, List.set_cons_zero, List.set_cons_succ]
  generalize f 5 = f5 at s5 ⊢
  generalize f 22 = f22 at s22 ⊢
  obtain ⟨q, rfl, q1, q2, q3⟩ := s5
  obtain ⟨k, p, b, o, rfl, kb, pb⟩ := s22
  refine ⟨?_⟩
  simp only [List.getElem_toArray, List.getElem_cons_succ, List.getElem_cons_zero]
  refine last_store_row (q := q) rfl rfl rfl rfl q3 (by kernel_rfl) rfl (by simp [Value.oneCell']) ?_
  have hT : TmAt w (w1.setRow q #[.int .i64 k, .int .i64 p, .int .i64 0, .bool b, .bool o]) g q (P + 5) k p 0 b o :=
    TmAt.new hgl hWs hF hB hR1 hF1 q2 q3 (.int .i64 k) (.int .i64 p) (.int .i64 0) (.bool b) (.bool o)
  clear hR1 hF1 hF hB hWs q1 q2 q3 hg
  generalize w1.setRow q #[.int .i64 k, .int .i64 p, .int .i64 0, .bool b, .bool o] = w2 at hT ⊢
  have hg := hT.rd.lt
  have pc := blk_cell hT.blk 1
  go_upto_region 2 with fail
  refine region_typed_last (m := 13) (S := SG g w2.heap.size (tyTm2 g q)) (Le := LeG g) (M := MG g (P + 5) w2) (wt := wtTm2) [23, 24, 25, 26, 27, 28, 29, 30, 31, 32, 33, 34, 35] (by kernel_rfl) (by kernel_rfl) (regOK_of (by kernel_rfl)) SG_le rfl rfl rfl rfl (by kernel_rfl) (all_ops_lt ?_) ?_ ?_
  · refine allFrom_cons ?_ (allFrom_cons ?_ (allFrom_cons ?_ (allFrom_cons ?_ (allFrom_cons ?_ (allFrom_cons ?_ (allFrom_cons ?_ (allFrom_cons ?_ (allFrom_cons ?_ (allFrom_cons ?_ (allFrom_cons ?_ (allFrom_cons ?_ (allFrom_cons ?_ (allFrom_cons ?_ allFrom_nil)))))))))))))
    · intro _
      exact ok_field (k := q) (c := 1) rfl rfl (fun w => by simp [go_sem]) (knows_old (by kernel_rfl) rfl rfl) rfl
    · intro _
      exact ok_load_old (u := .int .i64 p) rfl rfl ld_int (knows_dep 0 (by kernel_rfl) (by kernel_rfl)) pc (blk_lt hT.blk) hT.ne rfl ⟨_, rfl, by omega, by omega⟩
    · intro _
      exact ok_move rfl (.inl rfl) (knows_old (by kernel_rfl) rfl rfl)
    · intro _
      exact ok_field (k := q) (c := 1) rfl rfl (fun w => by simp [go_sem]) (knows_old (by kernel_rfl) rfl rfl) rfl
    · intro _
      exact ok_load_old (u := .int .i64 p) rfl rfl ld_int (knows_dep 3 (by kernel_rfl) (by kernel_rfl)) pc (blk_lt hT.blk) hT.ne rfl ⟨_, rfl, by omega, by omega⟩
    · intro _
      exact ok_add (l1 := 0) (h1 := 10000) (l2 := 1) (h2 := 1) rfl rfl (knows_dep 4 (by kernel_rfl) (by kernel_rfl)) (kint 1 (by omega)) (by omega) rfl
    · intro _
      exact ok_pick (lo := 1) (hi := 10001) rfl rfl (knows_dep 2 (by kernel_rfl) (by kernel_rfl)) (knows_dep 5 (by kernel_rfl) (by kernel_rfl)) (by omega) (by omega) (by show _ + 2 ≤ _; omega) rfl
    · intro _
      exact ok_row (p := intP 0 10000) (xs := [.const (.int .i64 0), .tmp 24, .tmp 29]) rfl rfl hg Try.underlying59 (by kernel_rfl) (by kernel_rfl) rfl rfl (by omega) (by omega) (kall_cons (kint 0 (by omega)) (kall_cons (knows_dep 1 (by kernel_rfl) (by kernel_rfl)) (kall_cons (knows_dep 6 (by kernel_rfl) (by kernel_rfl)) kall_nil))) intP_one rfl
    · intro _
      exact ok_move rfl (.inl rfl) (knows_old (by kernel_rfl) rfl rfl)
    · intro _
      exact ok_pick (lo := 3) (hi := 3) rfl rfl (knows_dep 8 (by kernel_rfl) (by kernel_rfl)) (kint 3 (by omega)) (by omega) (by omega) (by show _ + 2 ≤ _; omega) rfl
    · intro _
      exact ok_index (n := 3) (p := intP 0 10000) (lo := 0) (hi := 2) rfl rfl Try.underlying59 (by kernel_rfl) (knows_dep 7 (by kernel_rfl) (by kernel_rfl)) (knows_dep 9 (by kernel_rfl) (by kernel_rfl)) (by omega) rfl
    · intro _
      exact ok_load rfl rfl ld_int (knows_dep 10 (by kernel_rfl) (by kernel_rfl)) rfl
    · intro _
      exact ok_field (k := q) (c := 2) rfl rfl (fun w => by simp [go_sem]) (knows_old (by kernel_rfl) rfl rfl) rfl
    · intro h
      exact absurd h (by omega)
  · exact ⟨hT.rd.drew, (Fr.refl _ _ _).drew⟩
  intro f w1 hS hM
  have sa := hS 12 35 (by kernel_rfl)
  have sv := hS 11 34 (by kernel_rfl)
  obtain ⟨hR1, hF1⟩ := hM
  replace hR1 : Rdr w1 g ((P + 5) + 2) := hR1
  clear hS pc
  simp only [fillD, List.foldl_cons, List.foldl_nil, List.setIfInBounds_toArray, List.set_cons_zero, List.set_cons_succ]
  generalize f 35 = fa at sa ⊢
  generalize f 34 = fv at sv ⊢
  obtain rfl : fa = .pointer (some ⟨q, 2, none⟩) := sa
  obtain ⟨x, rfl, xb⟩ : intP 0 10000 fv := sv
  have hT1 := hT.next hF1 hR1
  clear hR1 hF1 hT
  refine ⟨?_⟩
  simp only [List.getElem_toArray, List.getElem_cons_succ, List.getElem_cons_zero]
  refine last_store_cell (q := q) (c := 2) (u := .int .i64 x) rfl rfl rfl rfl (st_int _ _ _ _ x (blk_cell hT1.blk 2) (blk_frozen hT1.blk 2)) ?_
  have hT := hT1.set2 x
  clear hT1
  generalize w1.setCell ⟨q, 2, none⟩ (.int .i64 x) = w3 at hT ⊢
  clear hg
  go_wp2_with fail
  refine (odd_any g (P + 5 + 2) n _ hT.rd (by omega) (by omega) (by omega)).mono ?_
  rintro e w4 ⟨bb, rfl, -, hR4, hF4⟩
  have hT4 := hT.to hF4 hR4
  clear hT hR4 hF4
  have hT := hT4
  clear hT4
  cases bb
  · obtain ⟨c0, c1, c2, c3, c4, -⟩ := blk5 hT.blk
    obtain ⟨d0, d1, d2, d3, d4, e0, e1, e2, e3, e4⟩ := blk5 hT.res
    have hne := hT.ne2
    have hRf := hT.rd
    have hFf := hT.fr
    go_wp2
    exact bodyPost_ret (v := .agg #[.int .i64 k, .int .i64 p, .int .i64 x, .bool b, .bool o]) (by simp [results, Try.results34, go_sem, *]) rfl ⟨_, _, _, b, o, rfl, by omega, by omega, by omega, (((((hRf.setCell hgl _).setCell hgl _).setCell hgl _).setCell hgl _).setCell hgl _).mono (by omega), ((((hFf.setCell (.inl (Nat.le_refl _)) _).setCell (.inl (Nat.le_refl _)) _).setCell (.inl (Nat.le_refl _)) _).setCell (.inl (Nat.le_refl _)) _).setCell (.inl (Nat.le_refl _)) _⟩
  · go_wp2_with fail
    refine (pick_any g (P + 5 + 2 + 1) 3 _ hT.rd (by omega) (by omega)).mono ?_
    rintro e w5 ⟨r, rfl, hr, hR5, hF5⟩
    have hT5 := hT.to hF5 hR5
    clear hT hR5 hF5
    have hT := hT5
    clear hT5
    have hr3 : r = 0 ∨ r = 1 ∨ r = 2 := by omega
    obtain ⟨l, hl⟩ : ∃ l, l = x := ⟨_, rfl⟩
    rw [← hl] at hT xb
    clear hr hl
    rcases hr3 with rfl | rfl | rfl
    · have hg := hT.rd.lt
      go_upto_region 7 with fail
      refine region_typed_last_f (m := 6) (S := SG g w5.heap.size (tyTm7 g q)) (Le := LeG g) (M := MG g (P + 9) w5) (wt := wtTm7) [52, 53, 54, 55, 56, 57] (by kernel_rfl) (regOK_of (by kernel_rfl)) SG_le rfl rfl rfl rfl (all_ops_lt ?_) ?_ ?_
      · refine allFrom_cons ?_ (allFrom_cons ?_ (allFrom_cons ?_ (allFrom_cons ?_ (allFrom_cons ?_ (allFrom_cons ?_ (allFrom_cons ?_ allFrom_nil))))))
        · intro _
          exact ok_row (p := intP 0 4) (xs := [.const (.int .i64 0), .const (.int .i64 4)]) rfl rfl hg Try.underlying59 (by kernel_rfl) (by kernel_rfl) rfl rfl (by omega) (by omega) (kall_cons (kint 0 (by omega)) (kall_cons (kint 4 (by omega)) kall_nil)) intP_one rfl
        · intro _
          exact ok_move rfl (.inl rfl) (knows_old (by kernel_rfl) rfl rfl)
        · intro _
          exact ok_pick (lo := 2) (hi := 2) rfl rfl (knows_dep 1 (by kernel_rfl) (by kernel_rfl)) (kint 2 (by omega)) (by omega) (by omega) (by show _ + 1 ≤ _; omega) rfl
        · intro _
          exact ok_index (n := 2) (p := intP 0 4) (lo := 0) (hi := 1) rfl rfl Try.underlying59 (by kernel_rfl) (knows_dep 0 (by kernel_rfl) (by kernel_rfl)) (knows_dep 2 (by kernel_rfl) (by kernel_rfl)) (by omega) rfl
        · intro _
          exact ok_load rfl rfl ld_int (knows_dep 3 (by kernel_rfl) (by kernel_rfl)) rfl
        · intro _
          exact ok_field (k := q) (c := 0) rfl rfl (fun w => by simp [go_sem]) (knows_old (by kernel_rfl) rfl rfl) rfl
        · intro h
          exact absurd h (by omega)
      · exact ⟨hT.rd, Fr.refl _ _ _⟩
      intro f w1 hS hM
      have sa := hS 5 57 (by kernel_rfl)
      have sv := hS 4 56 (by kernel_rfl)
      obtain ⟨hR1, hF1⟩ := hM
      replace hR1 : Rdr w1 g ((P + 9) + 1) := hR1
      clear hS
      simp only [fillD, List.foldl_cons, List.foldl_nil, List.setIfInBounds_toArray, List.set_cons_zero, List.set_cons_succ]
      generalize f 57 = fa at sa ⊢
      generalize f 56 = fv at sv ⊢
      obtain rfl : fa = .pointer (some ⟨q, 0, none⟩) := sa
      obtain ⟨x, rfl, xb⟩ : intP 0 4 fv := sv
      have hT1 := hT.next hF1 hR1
      clear hR1 hF1 hT
      refine ⟨?_⟩
      simp only [List.getElem_toArray, List.getElem_cons_succ, List.getElem_cons_zero]
      refine last_store_cell (q := q) (c := 0) (u := .int .i64 x) rfl rfl rfl rfl (st_int _ _ _ _ x (blk_cell hT1.blk 0) (blk_frozen hT1.blk 0)) ?_
      have hT := hT1.set0 x
      clear hT1
      generalize w1.setCell ⟨q, 0, none⟩ (.int .i64 x) = w6 at hT ⊢
      obtain ⟨c0, c1, c2, c3, c4, -⟩ := blk5 hT.blk
      obtain ⟨d0, d1, d2, d3, d4, e0, e1, e2, e3, e4⟩ := blk5 hT.res
      have hne := hT.ne2
      have hRf := hT.rd
      have hFf := hT.fr
      go_wp2
      exact bodyPost_ret (v := .agg #[.int .i64 x, .int .i64 p, .int .i64 l, .bool b, .bool o]) (by simp [results, Try.results34, go_sem, *]) rfl ⟨_, _, _, b, o, rfl, by omega, by omega, by omega, (((((hRf.setCell hgl _).setCell hgl _).setCell hgl _).setCell hgl _).setCell hgl _).mono (by omega), ((((hFf.setCell (.inl (Nat.le_refl _)) _).setCell (.inl (Nat.le_refl _)) _).setCell (.inl (Nat.le_refl _)) _).setCell (.inl (Nat.le_refl _)) _).setCell (.inl (Nat.le_refl _)) _⟩
    · have hg := hT.rd.lt
      go_upto_region 9 with fail
      refine region_typed_last_f (m := 6) (S := SG g w5.heap.size (tyTm9 g q)) (Le := LeG g) (M := MG g (P + 9) w5) (wt := wtTm9) [60, 61, 62, 63, 64, 65] (by kernel_rfl) (regOK_of (by kernel_rfl)) SG_le rfl rfl rfl rfl (all_ops_lt ?_) ?_ ?_
      · refine allFrom_cons ?_ (allFrom_cons ?_ (allFrom_cons ?_ (allFrom_cons ?_ (allFrom_cons ?_ (allFrom_cons ?_ (allFrom_cons ?_ allFrom_nil))))))
        · intro _
          exact ok_row (p := intP (-1) 10001) (xs := [.const (.int .i64 (-1)), .const (.int .i64 10001)]) rfl rfl hg Try.underlying59 (by kernel_rfl) (by kernel_rfl) rfl rfl (by omega) (by omega) (kall_cons (kint (-1) (by omega)) (kall_cons (kint 10001 (by omega)) kall_nil)) intP_one rfl
        · intro _
          exact ok_move rfl (.inl rfl) (knows_old (by kernel_rfl) rfl rfl)
        · intro _
          exact ok_pick (lo := 2) (hi := 2) rfl rfl (knows_dep 1 (by kernel_rfl) (by kernel_rfl)) (kint 2 (by omega)) (by omega) (by omega) (by show _ + 1 ≤ _; omega) rfl
        · intro _
          exact ok_index (n := 2) (p := intP (-1) 10001) (lo := 0) (hi := 1) rfl rfl Try.underlying59 (by kernel_rfl) (knows_dep 0 (by kernel_rfl) (by kernel_rfl)) (knows_dep 2 (by kernel_rfl) (by kernel_rfl)) (by omega) rfl
        · intro _
          exact ok_load rfl rfl ld_int (knows_dep 3 (by kernel_rfl) (by kernel_rfl)) rfl
        · intro _
          exact ok_field (k := q) (c := 1) rfl rfl (fun w => by simp [go_sem]) (knows_old (by kernel_rfl) rfl rfl) rfl
        · intro h
          exact absurd h (by omega)
      · exact ⟨hT.rd, Fr.refl _ _ _⟩
      intro f w1 hS hM
      have sa := hS 5 65 (by kernel_rfl)
      have sv := hS 4 64 (by kernel_rfl)
      obtain ⟨hR1, hF1⟩ := hM
      replace hR1 : Rdr w1 g ((P + 9) + 1) := hR1
      clear hS
      simp only [fillD, List.foldl_cons, List.foldl_nil, List.setIfInBounds_toArray, List.set_cons_zero, List.set_cons_succ]
      generalize f 65 = fa at sa ⊢
      generalize f 64 = fv at sv ⊢
      obtain rfl : fa = .pointer (some ⟨q, 1, none⟩) := sa
      obtain ⟨x, rfl, xb⟩ : intP (-1) 10001 fv := sv
      have hT1 := hT.next hF1 hR1
      clear hR1 hF1 hT
      refine ⟨?_⟩
      simp only [List.getElem_toArray, List.getElem_cons_succ, List.getElem_cons_zero]
      refine last_store_cell (q := q) (c := 1) (u := .int .i64 x) rfl rfl rfl rfl (st_int _ _ _ _ x (blk_cell hT1.blk 1) (blk_frozen hT1.blk 1)) ?_
      have hT := hT1.set1 x
      clear hT1
      generalize w1.setCell ⟨q, 1, none⟩ (.int .i64 x) = w6 at hT ⊢
      obtain ⟨c0, c1, c2, c3, c4, -⟩ := blk5 hT.blk
      obtain ⟨d0, d1, d2, d3, d4, e0, e1, e2, e3, e4⟩ := blk5 hT.res
      have hne := hT.ne2
      have hRf := hT.rd
      have hFf := hT.fr
      go_wp2
      exact bodyPost_ret (v := .agg #[.int .i64 k, .int .i64 x, .int .i64 l, .bool b, .bool o]) (by simp [results, Try.results34, go_sem, *]) rfl ⟨_, _, _, b, o, rfl, by omega, by omega, by omega, (((((hRf.setCell hgl _).setCell hgl _).setCell hgl _).setCell hgl _).setCell hgl _).mono (by omega), ((((hFf.setCell (.inl (Nat.le_refl _)) _).setCell (.inl (Nat.le_refl _)) _).setCell (.inl (Nat.le_refl _)) _).setCell (.inl (Nat.le_refl _)) _).setCell (.inl (Nat.le_refl _)) _⟩
    · have hg := hT.rd.lt
      have pc := blk_cell hT.blk 1
      go_upto_region 5 with fail
      refine region_typed_last (m := 9) (S := SG g w5.heap.size (tyTm5 g q)) (Le := LeG g) (M := MG g (P + 9) w5) (wt := wtTm5) [41, 42, 43, 44, 45, 46, 47, 48, 49] (by kernel_rfl) (by kernel_rfl) (regOK_of (by kernel_rfl)) SG_le rfl rfl rfl rfl (by kernel_rfl) (all_ops_lt ?_) ?_ ?_
      · refine allFrom_cons ?_ (allFrom_cons ?_ (allFrom_cons ?_ (allFrom_cons ?_ (allFrom_cons ?_ (allFrom_cons ?_ (allFrom_cons ?_ (allFrom_cons ?_ (allFrom_cons ?_ (allFrom_cons ?_ allFrom_nil)))))))))
        · intro _
          exact ok_field (k := q) (c := 1) rfl rfl (fun w => by simp [go_sem]) (knows_old (by kernel_rfl) rfl rfl) rfl
        · intro _
          exact ok_load_old (u := .int .i64 p) rfl rfl ld_int (knows_dep 0 (by kernel_rfl) (by kernel_rfl)) pc (blk_lt hT.blk) hT.ne rfl ⟨_, rfl, by omega, by omega⟩
        · intro _
          exact ok_add (l1 := 0) (h1 := 10000) (l2 := 1) (h2 := 1) rfl rfl (knows_dep 1 (by kernel_rfl) (by kernel_rfl)) (kint 1 (by omega)) (by omega) rfl
        · intro _
          exact ok_row (p := intP (-1) 10001) (xs := [.const (.int .i64 (-1)), .tmp 43]) rfl rfl hg Try.underlying59 (by kernel_rfl) (by kernel_rfl) rfl rfl (by omega) (by omega) (kall_cons (kint (-1) (by omega)) (kall_cons (Knows.mono (p := intP 1 10001) (knows_dep 2 (by kernel_rfl) (by kernel_rfl)) (intP_mono (by omega) (by omega))) kall_nil)) intP_one rfl
        · intro _
          exact ok_move rfl (.inl rfl) (knows_old (by kernel_rfl) rfl rfl)
        · intro _
          exact ok_pick (lo := 2) (hi := 2) rfl rfl (knows_dep 4 (by kernel_rfl) (by kernel_rfl)) (kint 2 (by omega)) (by omega) (by omega) (by show _ + 1 ≤ _; omega) rfl
        · intro _
          exact ok_index (n := 2) (p := intP (-1) 10001) (lo := 0) (hi := 1) rfl rfl Try.underlying59 (by kernel_rfl) (knows_dep 3 (by kernel_rfl) (by kernel_rfl)) (knows_dep 5 (by kernel_rfl) (by kernel_rfl)) (by omega) rfl
        · intro _
          exact ok_load rfl rfl ld_int (knows_dep 6 (by kernel_rfl) (by kernel_rfl)) rfl
        · intro _
          exact ok_field (k := q) (c := 2) rfl rfl (fun w => by simp [go_sem]) (knows_old (by kernel_rfl) rfl rfl) rfl
        · intro h
          exact absurd h (by omega)
      · exact ⟨hT.rd.drew, (Fr.refl _ _ _).drew⟩
      intro f w1 hS hM
      have sa := hS 8 49 (by kernel_rfl)
      have sv := hS 7 48 (by kernel_rfl)
      obtain ⟨hR1, hF1⟩ := hM
      replace hR1 : Rdr w1 g ((P + 9) + 1) := hR1
      clear hS pc
      simp only [fillD, List.foldl_cons, List.foldl_nil, List.setIfInBounds_toArray, List.set_cons_zero, List.set_cons_succ]
      generalize f 49 = fa at sa ⊢
      generalize f 48 = fv at sv ⊢
      obtain rfl : fa = .pointer (some ⟨q, 2, none⟩) := sa
      obtain ⟨x, rfl, xb⟩ : intP (-1) 10001 fv := sv
      have hT1 := hT.next hF1 hR1
      clear hR1 hF1 hT
      refine ⟨?_⟩
      simp only [List.getElem_toArray, List.getElem_cons_succ, List.getElem_cons_zero]
      refine last_store_cell (q := q) (c := 2) (u := .int .i64 x) rfl rfl rfl rfl (st_int _ _ _ _ x (blk_cell hT1.blk 2) (blk_frozen hT1.blk 2)) ?_
      have hT := hT1.set2 x
      clear hT1
      generalize w1.setCell ⟨q, 2, none⟩ (.int .i64 x) = w6 at hT ⊢
      obtain ⟨c0, c1, c2, c3, c4, -⟩ := blk5 hT.blk
      obtain ⟨d0, d1, d2, d3, d4, e0, e1, e2, e3, e4⟩ := blk5 hT.res
      have hne := hT.ne2
      have hRf := hT.rd
      have hFf := hT.fr
      go_wp2
      exact bodyPost_ret (v := .agg #[.int .i64 k, .int .i64 p, .int .i64 x, .bool b, .bool o]) (by simp [results, Try.results34, go_sem, *]) rfl ⟨_, _, _, b, o, rfl, by omega, by omega, by omega, (((((hRf.setCell hgl _).setCell hgl _).setCell hgl _).setCell hgl _).setCell hgl _).mono (by omega), ((((hFf.setCell (.inl (Nat.le_refl _)) _).setCell (.inl (Nat.le_refl _)) _).setCell (.inl (Nat.le_refl _)) _).setCell (.inl (Nat.le_refl _)) _).setCell (.inl (Nat.le_refl _)) _⟩
def tyDt2 (g : Nat) : Nat → RT
  | 0 => .row 2 (intP (-1) 1001)
  | 1 => .val (isP (.pointer (some ⟨g, 0, none⟩)))
  | 2 => .val (intP 0 1)
  | 3 => .cell (intP (-1) 1001)
  | 4 => .val (intP (-1) 1001)
  | _ => .val (intP (-1) 1001)
def wtDt2 : Nat → Nat
  | 2 => 1
  | _ => 0
def tyDt3 (g : Nat) : Nat → RT
  | 0 => .val (isP (.pointer (some ⟨g, 0, none⟩)))
  | 1 => .val (intP 0 99)
  | 2 => .row 5 (intP 0 1000)
  | 3 => .val (isP (.pointer (some ⟨g, 0, none⟩)))
  | 4 => .val (intP 0 4)
  | 5 => .cell (intP 0 1000)
  | 6 => .val (intP 0 1000)
  | _ => .val (intP 0 1000)
def wtDt3 : Nat → Nat
  | 1 => 1
  | 4 => 1
  | _ => 0
def DtPost (g P : Nat) (w : World) (e : Ending) (w' : World) : Prop := ∃ d : Int, e = .returned (.int .i64 d) ∧ (-1 ≤ d ∧ d ≤ 1001) ∧ Rdr w' g (P + 5) ∧ Fr w.heap.size g w w'
set_option maxRecDepth 100000 in
set_option maxHeartbeats 1000000 in
theorem dt_any (g P : Nat) (n : Int) (w : World) (hw : Rdr w g P) (hP : P + 100 ≤ 1000000) (hn : 0 ≤ n ∧ n ≤ 1000) :
    Calls Try.prog 42 #[.pointer (some ⟨g, 0, none⟩), .int .i64 n] w (DtPost g P w) := by
  go_enter Try.func42, Try.ntmps42
  go_wp2_with fail
  refine (odd_any g P n _ hw (by omega) (by omega) (by omega)).mono ?_
  rintro e w1 ⟨bb, rfl, -, hR1, hF1⟩
  have hg1 := hR1.lt
  cases bb
  · go_upto_region 3 with fail
    refine region_typed_f (S := SG g w1.heap.size (tyDt3 g)) (Le := LeG g) (M := MG g (P + 1) w1) (wt := wtDt3) [13, 14, 15, 16, 17, 18, 19, 4] (by kernel_rfl) (regOK_of (by kernel_rfl)) SG_le (all_ops ?_) ?_ ?_
    · refine allFrom_cons ?_ (allFrom_cons ?_ (allFrom_cons ?_ (allFrom_cons ?_ (allFrom_cons ?_ (allFrom_cons ?_ (allFrom_cons ?_ (allFrom_cons ?_ allFrom_nil)))))))
      · exact ok_move rfl (.inl rfl) (knows_old (by kernel_rfl) rfl rfl)
      · exact ok_pick (lo := 100) (hi := 100) rfl rfl (knows_dep 0 (by kernel_rfl) (by kernel_rfl)) (kint 100 (by omega)) (by omega) (by omega) (by show _ + 2 ≤ _; omega) rfl
      · exact ok_row (p := intP 0 1000) (xs := [.const (.int .i64 0), .const (.int .i64 5), .const (.int .i64 10), .tmp 14, .const (.int .i64 1000)]) rfl rfl hg1 Try.underlying59 (by kernel_rfl) (by kernel_rfl) rfl rfl (by omega) (by omega) (kall_cons (kint 0 (by omega)) (kall_cons (kint 5 (by omega)) (kall_cons (kint 10 (by omega)) (kall_cons (Knows.mono (p := intP 0 99) (knows_dep 1 (by kernel_rfl) (by kernel_rfl)) (intP_mono (by omega) (by omega))) (kall_cons (kint 1000 (by omega)) kall_nil))))) intP_one rfl
      · exact ok_move rfl (.inl rfl) (knows_old (by kernel_rfl) rfl rfl)
      · exact ok_pick (lo := 5) (hi := 5) rfl rfl (knows_dep 3 (by kernel_rfl) (by kernel_rfl)) (kint 5 (by omega)) (by omega) (by omega) (by show _ + 2 ≤ _; omega) rfl
      · exact ok_index (n := 5) (p := intP 0 1000) (lo := 0) (hi := 4) rfl rfl Try.underlying59 (by kernel_rfl) (knows_dep 2 (by kernel_rfl) (by kernel_rfl)) (knows_dep 4 (by kernel_rfl) (by kernel_rfl)) (by omega) rfl
      · exact ok_load rfl rfl ld_int (knows_dep 5 (by kernel_rfl) (by kernel_rfl)) rfl
      · exact ok_move rfl (.inr rfl) (knows_dep 6 (by kernel_rfl) (by kernel_rfl))
    · exact ⟨hR1, Fr.refl _ _ _⟩
    intro f wN hS hM
    have s4 := hS 7 4 (by kernel_rfl)
    obtain ⟨hRN, hFN⟩ := hM
    replace hRN : Rdr wN g ((P + 1) + 2) := hRN
    clear hS
    simp only [fillD, List.foldl_cons, List.foldl_nil, List.setIfInBounds_toArray, List.set_cons_zero, List.set_cons_succ]
    generalize f 4 = f4 at s4 ⊢
    obtain ⟨d, rfl, d1, d2⟩ : intP 0 1000 f4 := s4
    go_wp2
    go_ret
    exact ⟨d, rfl, by omega, hRN.mono (by omega), hF1.trans (hFN.mono hF1.size)⟩
  · go_upto_region 2 with fail
    refine region_typed_f (S := SG g w1.heap.size (tyDt2 g)) (Le := LeG g) (M := MG g (P + 1) w1) (wt := wtDt2) [8, 9, 10, 11, 12, 4] (by kernel_rfl) (regOK_of (by kernel_rfl)) SG_le (all_ops ?_) ?_ ?_
    · refine allFrom_cons ?_ (allFrom_cons ?_ (allFrom_cons ?_ (allFrom_cons ?_ (allFrom_cons ?_ (allFrom_cons ?_ allFrom_nil)))))
      · exact ok_row (p := intP (-1) 1001) (xs := [.const (.int .i64 (-1)), .const (.int .i64 1001)]) rfl rfl hg1 Try.underlying59 (by kernel_rfl) (by kernel_rfl) rfl rfl (by omega) (by omega) (kall_cons (kint (-1) (by omega)) (kall_cons (kint 1001 (by omega)) kall_nil)) intP_one rfl
      · exact ok_move rfl (.inl rfl) (knows_old (by kernel_rfl) rfl rfl)
      · exact ok_pick (lo := 2) (hi := 2) rfl rfl (knows_dep 1 (by kernel_rfl) (by kernel_rfl)) (kint 2 (by omega)) (by omega) (by omega) (by show _ + 1 ≤ _; omega) rfl
      · exact ok_index (n := 2) (p := intP (-1) 1001) (lo := 0) (hi := 1) rfl rfl Try.underlying59 (by kernel_rfl) (knows_dep 0 (by kernel_rfl) (by kernel_rfl)) (knows_dep 2 (by kernel_rfl) (by kernel_rfl)) (by omega) rfl
      · exact ok_load rfl rfl ld_int (knows_dep 3 (by kernel_rfl) (by kernel_rfl)) rfl
      · exact ok_move rfl (.inr rfl) (knows_dep 4 (by kernel_rfl) (by kernel_rfl))
    · exact ⟨hR1, Fr.refl _ _ _⟩
    intro f wN hS hM
    have s4 := hS 5 4 (by kernel_rfl)
    obtain ⟨hRN, hFN⟩ := hM
    replace hRN : Rdr wN g ((P + 1) + 1) := hRN
    clear hS
    simp only [fillD, List.foldl_cons, List.foldl_nil, List.setIfInBounds_toArray, List.set_cons_zero, List.set_cons_succ]
    generalize f 4 = f4 at s4 ⊢
    obtain ⟨d, rfl, d1, d2⟩ : intP (-1) 1001 f4 := s4
    go_wp2
    go_ret
    exact ⟨d, rfl, by omega, hRN.mono (by omega), hF1.trans (hFN.mono hF1.size)⟩
def tyNt (g : Nat) : Nat → RT
  | 0 => .val (isP (.pointer (some ⟨g, 0, none⟩)))
  | 1 => .val (intP 0 4)
  | 2 => .val (isP (.pointer (some ⟨g, 0, none⟩)))
  | 3 => .val (intP 0 99)
  | 4 => .row 4 (intP (-1) 10001)
  | 5 => .row 6 (intP 0 3)
  | 6 => .val (isP (.pointer (some ⟨g, 0, none⟩)))
  | 7 => .val (intP 0 5)
  | 8 => .cell (intP 0 3)
  | 9 => .val (intP 0 3)
  | 10 => .cell (intP (-1) 10001)
  | 11 => .val (intP (-1) 10001)
  | 12 => .val (intP 0 4)
  | _ => .val (intP (-1) 10001)
def wtNt : Nat → Nat
  | 1 => 1
  | 3 => 1
  | 7 => 1
  | _ => 0
def DrawII (w : World) (e : Ending) (w' : World) : Prop := ∃ k p : Int, e = .returned (.tuple #[.int .i64 k, .int .i64 p]) ∧ (0 ≤ k ∧ k ≤ 4) ∧ (-1 ≤ p ∧ p ≤ 10001) ∧ Below w.heap.size w w'
set_option maxRecDepth 100000 in
set_option maxHeartbeats 1000000 in
theorem drawNewTimer_any (v : Value) (l : List Int) (w : World) (h : BytesR w w.heap.size v l) :
    Calls Try.prog 18 #[v] w (DrawII w) := by
  have HO := Lib.hid (l20Open_any v l w h)
  obtain ⟨A, n0, c, rfl⟩ := h.formD
  clear h
  go_enter Try.func18, Try.ntmps18
  go_wp2_with fail
  refine HO.out.mono ?_
  rintro e w1 ⟨rfl, hR1, hb1⟩
  have hF1 : Fr w.heap.size w.heap.size w w1 := Fr.of_below _ hb1
  have hg1 := hR1.lt
  clear HO hb1
  go_upto_region 2 with fail
  refine region_typed (S := SG w.heap.size w1.heap.size (tyNt w.heap.size)) (Le := LeG w.heap.size) (M := MG w.heap.size 0 w1) (wt := wtNt) [7, 8, 9, 10, 11, 12, 13, 14, 15, 16, 17, 18, 2, 3] (by kernel_rfl) (by kernel_rfl) (regOK_of (by kernel_rfl)) SG_le (all_ops ?_) ?_ ?_
  · refine allFrom_cons ?_ (allFrom_cons ?_ (allFrom_cons ?_ (allFrom_cons ?_ (allFrom_cons ?_ (allFrom_cons ?_ (allFrom_cons ?_ (allFrom_cons ?_ (allFrom_cons ?_ (allFrom_cons ?_ (allFrom_cons ?_ (allFrom_cons ?_ (allFrom_cons ?_ (allFrom_cons ?_ allFrom_nil)))))))))))))
    · exact ok_move rfl (.inl rfl) (knows_old (by kernel_rfl) rfl rfl)
    · exact ok_pick (lo := 5) (hi := 5) rfl rfl (knows_dep 0 (by kernel_rfl) (by kernel_rfl)) (kint 5 (by omega)) (by omega) (by omega) (by show _ + 3 ≤ _; omega) rfl
    · exact ok_move rfl (.inl rfl) (knows_old (by kernel_rfl) rfl rfl)
    · exact ok_pick (lo := 100) (hi := 100) rfl rfl (knows_dep 2 (by kernel_rfl) (by kernel_rfl)) (kint 100 (by omega)) (by omega) (by omega) (by show _ + 3 ≤ _; omega) rfl
    · exact ok_row (p := intP (-1) 10001) (xs := [.tmp 10, .const (.int .i64 10000), .const (.int .i64 10001), .const (.int .i64 (-1))]) rfl rfl hg1 Try.underlying59 (by kernel_rfl) (by kernel_rfl) rfl rfl (by omega) (by omega) (kall_cons (Knows.mono (p := intP 0 99) (knows_dep 3 (by kernel_rfl) (by kernel_rfl)) (intP_mono (by omega) (by omega))) (kall_cons (kint 10000 (by omega)) (kall_cons (kint 10001 (by omega)) (kall_cons (kint (-1) (by omega)) kall_nil)))) intP_one rfl
    · exact ok_row (p := intP 0 3) (xs := [.const (.int .i64 0), .const (.int .i64 0), .const (.int .i64 0), .const (.int .i64 1), .const (.int .i64 2), .const (.int .i64 3)]) rfl rfl hg1 Try.underlying59 (by kernel_rfl) (by kernel_rfl) rfl rfl (by omega) (by omega) (kall_cons (kint 0 (by omega)) (kall_cons (kint 0 (by omega)) (kall_cons (kint 0 (by omega)) (kall_cons (kint 1 (by omega)) (kall_cons (kint 2 (by omega)) (kall_cons (kint 3 (by omega)) kall_nil)))))) intP_one rfl
    · exact ok_move rfl (.inl rfl) (knows_old (by kernel_rfl) rfl rfl)
    · exact ok_pick (lo := 6) (hi := 6) rfl rfl (knows_dep 6 (by kernel_rfl) (by kernel_rfl)) (kint 6 (by omega)) (by omega) (by omega) (by show _ + 3 ≤ _; omega) rfl
    · exact ok_index (n := 6) (p := intP 0 3) (lo := 0) (hi := 5) rfl rfl Try.underlying59 (by kernel_rfl) (knows_dep 5 (by kernel_rfl) (by kernel_rfl)) (knows_dep 7 (by kernel_rfl) (by kernel_rfl)) (by omega) rfl
    · exact ok_load rfl rfl ld_int (knows_dep 8 (by kernel_rfl) (by kernel_rfl)) rfl
    · exact ok_index (n := 4) (p := intP (-1) 10001) (lo := 0) (hi := 3) rfl rfl Try.underlying59 (by kernel_rfl) (knows_dep 4 (by kernel_rfl) (by kernel_rfl)) (knows_dep 9 (by kernel_rfl) (by kernel_rfl)) (by omega) rfl
    · exact ok_load rfl rfl ld_int (knows_dep 10 (by kernel_rfl) (by kernel_rfl)) rfl
    · exact ok_move rfl (.inr rfl) (knows_dep 1 (by kernel_rfl) (by kernel_rfl))
    · exact ok_move rfl (.inr rfl) (knows_dep 11 (by kernel_rfl) (by kernel_rfl))
  · exact ⟨hR1.drew, (Fr.refl _ _ _).drew⟩
  intro f wN hS hM
  have s2 := hS 12 2 (by kernel_rfl)
  have s3 := hS 13 3 (by kernel_rfl)
  obtain ⟨hRN, hFN⟩ := hM
  replace hRN : Rdr wN w.heap.size (0 + 3) := hRN
  clear hS
  simp only [fillD, List.foldl_cons, List.foldl_nil, List.setIfInBounds_toArray, List.set_cons_zero, List.set_cons_succ]
  generalize f 2 = f2 at s2 ⊢
  generalize f 3 = f3 at s3 ⊢
  obtain ⟨k, rfl, k1, k2⟩ : intP 0 4 f2 := s2
  obtain ⟨p, rfl, p1, p2⟩ : intP (-1) 10001 f3 := s3
  go_wp2
  exact bodyPost_ret (v := .tuple #[.int .i64 k, .int .i64 p]) (by simp [results, Try.results18, go_sem, *]) rfl ⟨k, p, rfl, by omega, by omega, (hF1.trans (hFN.mono hF1.size)).below (Nat.le_refl _)⟩
end Go.Proofs.Ytikebldmbabmiaa
