/- Counters of the program: a counter at work embeds the detector of the edges that it counts. -/
import Derived.Test.YtldlfailmmmdmaaCX
import Derived.Test.YtldlfailmmmdmaaLA
import Derived.Deep.Cut
import Derived.Deep.CutRange
import Derived.BigQuiet
namespace Go.Proofs.Ytldlfailmmmdmaa
open Go.RowKit
attribute [local go_sem ↓] Go.wp_at_zero Go.wp_at_succ

theorem blk_up {w w' : World} {k ty : Nat} {cs : Array Value} (h : w.heap[k]? = some (.cells cs ty (0, 0))) (hb : Below w.heap.size w w') : w'.heap[k]? = some (.cells cs ty (0, 0)) := (hb.block _ (blk_lt h)).trans h

theorem iCountValid_any (p : Int) (w : World) :
    Calls Try.prog 37 #[.int .i64 p] w fun e w' => e = .returned (.bool (inB p 0 9999)) ∧ w = w' := by
  unfold inB
  by_cases h : 0 ≤ p
  all_goals
    go_enter Try.func37, Try.ntmps37
    go_wp2
    go_ret
    exact ⟨ret_bool (by simp [h] <;> omega), rfl⟩
def dirC (cu cd u d : Bool) : Int := if riseB cu u && !riseB cd d then 1 else if riseB cd d && !riseB cu u then -1 else 0
def ecV (c : Cn) : Value := .agg #[.bool c.up, .bool c.dn, .int .i64 c.pre, .int .i64 c.val]
def ecC (c : Cn) : Array Value := #[.bool c.up, .bool c.dn, .int .i64 c.pre, .int .i64 c.val]
def ec0 : Array Value := #[.bool false, .bool false, .int .i64 0, .int .i64 0]
def EcPost (c : Cn) (w : World) (e : Ending) (w' : World) : Prop := e = .returned (ecV c) ∧ Below w.heap.size w w'

set_option maxHeartbeats 1000000 in
theorem below_drC {B : Nat} {a w : World} (h : Below B a w) (n : Nat) : Below B a (w.drewN n) := ⟨h.os, h.tape, h.output, h.size, h.block⟩
set_option maxHeartbeats 1000000 in
theorem direction_any (cu cd u d : Bool) (w : World) :
    Calls Try.prog 49 #[.agg #[.bool cu, .bool cd], .bool u, .bool d] w fun e w' => e = .returned (.int .i64 (dirC cu cd u d)) ∧ Below w.heap.size w w' := by
  have hB := (Below.refl w.heap.size w).alloc (Nat.le_refl _) (.cells #[.bool cu, .bool cd] 56)
  have HU := Lib.hid (fun W : World => (iRisingEdge_any cu u W).mono fun _ _ h => And.intro h.1 h.2.symm)
  have HD := Lib.hid (fun W : World => (iRisingEdge_any cd d W).mono fun _ _ h => And.intro h.1 h.2.symm)
  unfold dirC
  cases h1 : riseB cu u <;> cases h2 : riseB cd d
  all_goals
    rw [h1] at HU
    rw [h2] at HD
    simp only [Bool.not_false, Bool.not_true, Bool.and_self, Bool.and_false, Bool.and_true, Bool.false_eq_true, if_false, if_true]
    go_enter Try.func49, Try.ntmps49
    go_wp2_with fail
    go_quiet (first | (with_reducible refine Calls.quiet_of_same (HU.out _)) | (with_reducible refine Calls.quiet_of_same (HD.out _)))
    go_wp2
    go_ret
    exact ⟨rfl, below_drC hB _⟩

set_option maxHeartbeats 1000000 in
theorem edgeCounterOf_any (c : Cn) (w : World) : Calls Try.prog 41 #[cnV c] w (EcPost c w) := by
  have hB := ((Below.refl w.heap.size w).alloc (Nat.le_refl _) (.cells #[.int .i64 c.pre, .int .i64 c.val, .bool c.up, .bool c.dn] 24)).alloc (by simp) (.cells (ecC c) 58)
  unfold cnV
  obtain ⟨p, v, cu, cd⟩ := c
  simp only [ecC] at hB ⊢
  go_enter Try.func41, Try.ntmps41
  go_wp2
  refine bodyPost_ret (v := ecV ⟨p, v, cu, cd⟩) ?_ rfl ⟨rfl, hB⟩
  simp [results, Try.results41, go_sem, ecV, *]

set_option maxHeartbeats 1000000 in
theorem counterOf_any (c : Cn) (w : World) : Calls Try.prog 43 #[ecV c] w (CnPost c w) := by
  have hB := ((Below.refl w.heap.size w).alloc (Nat.le_refl _) (.cells (ecC c) 58)).alloc (by simp) (.cells #[.int .i64 c.pre, .int .i64 c.val, .bool c.up, .bool c.dn] 24)
  unfold ecV
  obtain ⟨p, v, cu, cd⟩ := c
  simp only [ecC] at hB ⊢
  go_enter Try.func43, Try.ntmps43
  go_wp2
  refine bodyPost_ret (v := cnV ⟨p, v, cu, cd⟩) ?_ rfl ⟨rfl, hB⟩
  simp [results, Try.results43, go_sem, cnV, *]

set_option maxHeartbeats 4000000 in
theorem dir_val {p v : Int} (h : 0 ≤ v ∧ v ≤ 9999) (cu cd u d : Bool) :
    (if 9999 < if IntKind.i64.wrap (v + dirC cu cd u d) < 0 then (0 : Int) else IntKind.i64.wrap (v + dirC cu cd u d) then (9999 : Int) else if IntKind.i64.wrap (v + dirC cu cd u d) < 0 then 0 else IntKind.i64.wrap (v + dirC cu cd u d)) = (cstep ⟨p, v, cu, cd⟩ u d false false).val := by
  have hd : dirC cu cd u d = 1 ∨ dirC cu cd u d = -1 ∨ dirC cu cd u d = 0 := by
    unfold dirC
    split
    · exact .inl rfl
    · split
      · exact .inr (.inl rfl)
      · exact .inr (.inr rfl)
  have hw : IntKind.i64.wrap (v + dirC cu cd u d) = v + dirC cu cd u d := by rw [IntKind.wrap_i64]; omega
  rw [hw]
  clear hw hd
  show _ = cval ⟨p, v, cu, cd⟩ u d false false
  unfold cval dirC riseB
  cases cu <;> cases cd <;> cases u <;> cases d <;> simp <;> omega
set_option maxHeartbeats 4000000 in
theorem ecStep_any (c : Cn) (u d r l : Bool) (w : World) (hv : cvalid c = true) :
    Calls Try.prog 42 #[ecV c, .bool u, .bool d, .bool r, .bool l] w (EcPost (cstep c u d r l) w) := by
  obtain ⟨hp, hl⟩ := cvalid_parts hv
  have hb1 := blk_alloc (heap_alloc_new w (.cells (ecC c) 58)) (.cells ec0 58)
  have hb2 := heap_alloc_new (w.alloc (.cells (ecC c) 58)) (.cells ec0 58)
  rw [World.size_alloc] at hb2
  have hB : ∀ x y : Obj, Below w.heap.size w ((w.alloc x).alloc y) := fun x y => ((Below.refl w.heap.size w).alloc (Nat.le_refl _) x).alloc (by simp) y
  have HDir := Lib.hid (fun W : World => direction_any c.up c.dn u d W)
  obtain ⟨R, hR⟩ : ∃ R, R = cstep c u d r l := ⟨_, rfl⟩
  rw [← hR]
  obtain ⟨p, v, cu, cd⟩ := c
  unfold ecV
  simp only [ecC, ec0] at hp hl hb1 hb2 HDir ⊢
  clear hv
  cases r
  · cases l
    · go_enter Try.func42, Try.ntmps42
      have HVal := Lib.hid (show (if 9999 < if IntKind.i64.wrap (v + dirC cu cd u d) < 0 then (0 : Int) else IntKind.i64.wrap (v + dirC cu cd u d) then (9999 : Int) else if IntKind.i64.wrap (v + dirC cu cd u d) < 0 then 0 else IntKind.i64.wrap (v + dirC cu cd u d)) = R.val by
        rw [hR]; exact dir_val hl cu cd u d)
      have HR := Lib.hid (show R = ⟨p, R.val, u, d⟩ by rw [hR]; rfl)
      clear hR
      have hB0 := (hB (.cells #[.bool cu, .bool cd, .int .i64 p, .int .i64 v] 58) (.cells #[.bool false, .bool false, .int .i64 0, .int .i64 0] 58)).drew
      go_upto_region 1 with fail
      go_region_with (first | (refine (HDir.out _).mono ?_; rintro e w1 ⟨rfl, hb⟩; have c0 := (hb.block _ (blk_lt hb1)).trans hb1; have c1 := (hb.block _ (blk_lt hb2)).trans hb2; obtain ⟨f0, f1, f2, f3, e0, e1, e2, e3⟩ := blk4 c0; have hB1 := hB0.trans (hb.mono hB0.size)))
      all_goals
        rw [HVal.out]
        have g0 := heap_setCell_same w1 w.heap.size 3 _ _ (.int .i64 R.val) c0
        have g1 := (Below.heap_setCell w1 ⟨w.heap.size, 3, none⟩ (.int .i64 R.val) (w.heap.size + 1) (by simp)).trans c1
        have hB2 : Below w.heap.size w (w1.setCell ⟨w.heap.size, 3, none⟩ (.int .i64 R.val)) := hB1.setCell (Nat.le_refl _) _
        clear HVal HDir hb1 hb2 hb hB0 hB1 c0 c1 f0 f1 f2 f3 e0 e1 e2 e3
        generalize (w1.setCell ⟨w.heap.size, 3, none⟩ (.int .i64 R.val)) = wx at g0 g1 hB2 ⊢
        obtain ⟨f0, f1, f2, f3, e0, e1, e2, e3⟩ := blk4 g0
        obtain ⟨d0, d1, d2, d3, b0, b1, b2, b3⟩ := blk4 g1
        clear g0 g1
        go_wp2
        all_goals
          refine bodyPost_ret (v := ecV R) ?_ rfl ⟨rfl, ((((((hB2.setCell (Nat.le_refl _) _).setCell (Nat.le_refl _) _).setCell (by simp) _).setCell (by simp) _).setCell (by simp) _).setCell (by simp) _)⟩
          rw [HR.out]
          simp [results, Try.results42, go_sem, ecV, *]
    · have HR := Lib.hid (show R = ⟨p, p, u, d⟩ by rw [hR]; unfold cstep cval; rfl)
      clear hR
      go_enter Try.func42, Try.ntmps42
      go_wp2
      refine bodyPost_ret (v := ecV R) ?_ rfl ⟨rfl, hB _ _⟩
      rw [HR.out]
      simp [results, Try.results42, go_sem, ecV, *]
  · have HR := Lib.hid (show R = ⟨p, 0, u, d⟩ by rw [hR]; unfold cstep cval; rfl)
    clear hR
    go_enter Try.func42, Try.ntmps42
    go_wp2
    refine bodyPost_ret (v := ecV R) ?_ rfl ⟨rfl, hB _ _⟩
    rw [HR.out]
    simp [results, Try.results42, go_sem, ecV, *]

set_option maxHeartbeats 1000000 in
theorem iCounterValid_any (c : Cn) (w : World) : Calls Try.prog 14 #[cnV c] w fun e w' => e = .returned (.bool (cvalid c)) ∧ Below w.heap.size w w' := by
  unfold cvalid cnV
  obtain ⟨p, v, u, d⟩ := c
  simp only
  cases h1 : inB p 0 9999
  · go_enter Try.func14, Try.ntmps14
    go_wp2_with fail
    refine (iCountValid_any _ _).mono ?_
    rw [h1]
    rintro e w1 ⟨rfl, rfl⟩
    go_wp2
    go_ret
    exact ⟨rfl, (Below.refl _ _).alloc (Nat.le_refl _) _⟩
  · go_enter Try.func14, Try.ntmps14
    go_wp2_with fail
    refine (iCountValid_any _ _).mono ?_
    rw [h1]
    rintro e w1 ⟨rfl, rfl⟩
    go_wp2_with fail
    refine (iCountValid_any _ _).mono ?_
    rintro e w1 ⟨rfl, rfl⟩
    go_wp2
    go_ret
    exact ⟨ret_bool (by simp), (Below.refl _ _).alloc (Nat.le_refl _) _⟩
set_option maxHeartbeats 1000000 in
theorem iCounterStep_any (c : Cn) (u d r l : Bool) (w : World) (hf : fitC c) :
    Calls Try.prog 18 #[cnV c, .bool u, .bool d, .bool r, .bool l] w (CnPost (cstepF c u d r l) w) := by
  obtain ⟨R, hR⟩ : ∃ R, R = cstepF c u d r l := ⟨_, rfl⟩
  rw [← hR]
  have hb1 := blk_alloc (boxC w c) (.cells #[.int .i64 0, .int .i64 0, .bool false, .bool false] 24)
  have hb2 := heap_alloc_new (w.alloc (.cells #[.int .i64 c.pre, .int .i64 c.val, .bool c.up, .bool c.dn] 24)) (.cells #[.int .i64 0, .int .i64 0, .bool false, .bool false] 24)
  rw [World.size_alloc] at hb2
  have hB := ((Below.refl w.heap.size w).alloc (Nat.le_refl _) (.cells #[.int .i64 c.pre, .int .i64 c.val, .bool c.up, .bool c.dn] 24)).alloc (by simp) (.cells #[.int .i64 0, .int .i64 0, .bool false, .bool false] 24)
  have HV := Lib.hid (fun W : World => iCounterValid_any c W)
  have HO := Lib.hid (fun W : World => edgeCounterOf_any c W)
  have HS := Lib.hid (fun (W : World) (h1 : cvalid c = true) => ecStep_any c u d r l W h1)
  have HC := Lib.hid (fun W : World => counterOf_any (cstep c u d r l) W)
  unfold cnV at HV HO ⊢
  unfold CnPost at HC
  unfold EcPost at HO HS
  cases hv : cvalid c
  · have HR := Lib.hid (show R = czero by rw [hR]; unfold cstepF; rw [hv]; rfl)
    clear hR
    obtain ⟨p, v, cu, cd⟩ := c
    simp only at HV HO HS hb1 hb2 hB hv ⊢
    go_enter Try.func18, Try.ntmps18
    go_wp2_with fail
    refine (HV.out _).mono ?_
    rw [hv]
    rintro e w1 ⟨rfl, hb⟩
    have c1 := (hb.block _ (blk_lt hb2)).trans hb2
    obtain ⟨d0, d1, d2, d3, e0, e1, e2, e3⟩ := blk4 c1
    have hB1 := hB.trans (hb.mono hB.size)
    clear hb1 hb2 hb hB c1
    go_wp2
    refine bodyPost_ret (v := cnV R) ?_ rfl ⟨rfl, (((hB1.setCell (by simp) _).setCell (by simp) _).setCell (by simp) _).setCell (by simp) _⟩
    rw [HR.out]
    simp [results, Try.results18, go_sem, cnV, czero, *]
  · have HR := Lib.hid (show R = cstep c u d r l by rw [hR]; unfold cstepF; rw [hv]; rfl)
    have HS2 := Lib.hid (fun W => HS.out W hv)
    rw [← HR.out] at HS2 HC
    clear hR HS
    obtain ⟨p, v, cu, cd⟩ := c
    simp only at HV HO HS2 hb1 hb2 hB hv ⊢
    go_enter Try.func18, Try.ntmps18
    go_wp2_with fail
    refine (HV.out _).mono ?_
    rw [hv]
    rintro e w1 ⟨rfl, hb⟩
    have c0 := (hb.block _ (blk_lt hb1)).trans hb1
    have c1 := (hb.block _ (blk_lt hb2)).trans hb2
    obtain ⟨f0, f1, f2, f3, -⟩ := blk4 c0
    have hB1 := hB.trans (hb.mono hB.size)
    clear hb1 hb2 hb hB c0
    go_wp2_with fail
    refine (HO.out _).mono ?_
    rintro e w2 ⟨rfl, hb⟩
    have c2 := (hb.block _ (blk_lt c1)).trans c1
    have hB2 := hB1.trans (hb.mono hB1.size)
    clear hb hB1 c1 f0 f1 f2 f3
    go_wp2_with fail
    refine (HS2.out _).mono ?_
    rintro e w3 ⟨rfl, hb⟩
    have c3 := (hb.block _ (blk_lt c2)).trans c2
    have hB3 := hB2.trans (hb.mono hB2.size)
    clear hb hB2 c2
    go_wp2_with fail
    refine (HC.out _).mono ?_
    rintro e w4 ⟨rfl, hb⟩
    have c4 := (hb.block _ (blk_lt c3)).trans c3
    obtain ⟨d0, d1, d2, d3, e0, e1, e2, e3⟩ := blk4 c4
    have hB4 := hB3.trans (hb.mono hB3.size)
    clear hb hB3 c3 c4
    obtain ⟨rp, rv, ru, rd⟩ := R
    unfold cnV
    simp only
    go_wp2
    refine bodyPost_ret (v := cnV ⟨rp, rv, ru, rd⟩) ?_ rfl ⟨rfl, (((hB4.setCell (by simp) _).setCell (by simp) _).setCell (by simp) _).setCell (by simp) _⟩
    simp [results, Try.results18, go_sem, cnV, *]
set_option maxHeartbeats 1000000 in
theorem iCounterReached_any (c : Cn) (w : World) : Calls Try.prog 22 #[cnV c] w fun e w' => e = .returned (.bool (cvalid c && decide (c.pre ≤ c.val))) ∧ Below w.heap.size w w' := by
  have hb1 := boxC w c
  have hB := (Below.refl w.heap.size w).alloc (Nat.le_refl _) (.cells #[.int .i64 c.pre, .int .i64 c.val, .bool c.up, .bool c.dn] 24)
  have HV := Lib.hid (fun W : World => iCounterValid_any c W)
  unfold cnV at HV ⊢
  cases hv : cvalid c
  · go_enter Try.func22, Try.ntmps22
    go_wp2_with fail
    refine (HV.out _).mono ?_
    rw [hv]
    rintro e w1 ⟨rfl, hb⟩
    go_wp2
    go_ret
    exact ⟨rfl, hB.trans (hb.mono hB.size)⟩
  · go_enter Try.func22, Try.ntmps22
    go_wp2_with fail
    refine (HV.out _).mono ?_
    rw [hv]
    rintro e w1 ⟨rfl, hb⟩
    have c0 := (hb.block _ (blk_lt hb1)).trans hb1
    obtain ⟨f0, f1, f2, f3, -⟩ := blk4 c0
    go_wp2
    go_ret
    exact ⟨ret_bool (by simp), hB.trans (hb.mono hB.size)⟩
set_option maxHeartbeats 1000000 in
theorem iCounterEmpty_any (c : Cn) (w : World) : Calls Try.prog 25 #[cnV c] w fun e w' => e = .returned (.bool (cvalid c && decide (c.val = 0))) ∧ Below w.heap.size w w' := by
  have hb1 := boxC w c
  have hB := (Below.refl w.heap.size w).alloc (Nat.le_refl _) (.cells #[.int .i64 c.pre, .int .i64 c.val, .bool c.up, .bool c.dn] 24)
  have HV := Lib.hid (fun W : World => iCounterValid_any c W)
  unfold cnV at HV ⊢
  cases hv : cvalid c
  · go_enter Try.func25, Try.ntmps25
    go_wp2_with fail
    refine (HV.out _).mono ?_
    rw [hv]
    rintro e w1 ⟨rfl, hb⟩
    go_wp2
    go_ret
    exact ⟨rfl, hB.trans (hb.mono hB.size)⟩
  · go_enter Try.func25, Try.ntmps25
    go_wp2_with fail
    refine (HV.out _).mono ?_
    rw [hv]
    rintro e w1 ⟨rfl, hb⟩
    have c0 := (hb.block _ (blk_lt hb1)).trans hb1
    obtain ⟨f0, f1, f2, f3, -⟩ := blk4 c0
    go_wp2
    go_ret
    exact ⟨ret_bool (by simp [Bool.beq_eq_decide_eq]), hB.trans (hb.mono hB.size)⟩
theorem blkE {w : World} {k ty : Nat} {t : Cn} (h : w.heap[k]? = some (.cells (ecC t) ty (0, 0))) :
    w.cell? ⟨k, 0, none⟩ = some (.bool t.up) ∧ w.cell? ⟨k, 1, none⟩ = some (.bool t.dn) ∧ w.cell? ⟨k, 2, none⟩ = some (.int .i64 t.pre) ∧ w.cell? ⟨k, 3, none⟩ = some (.int .i64 t.val) ∧
    w.frozen? ⟨k, 0, none⟩ = false ∧ w.frozen? ⟨k, 1, none⟩ = false ∧ w.frozen? ⟨k, 2, none⟩ = false ∧ w.frozen? ⟨k, 3, none⟩ = false := blk4 h
theorem ec_set {w : World} {k ty : Nat} {t u : Cn} (h : w.heap[k]? = some (.cells (ecC t) ty (0, 0))) :
    ((((w.setCell ⟨k, 0, none⟩ (.bool u.up)).setCell ⟨k, 1, none⟩ (.bool u.dn)).setCell ⟨k, 2, none⟩ (.int .i64 u.pre)).setCell ⟨k, 3, none⟩ (.int .i64 u.val)).heap[k]? = some (.cells (ecC u) ty (0, 0)) :=
  heap_setCell_same _ k 3 _ _ _ (heap_setCell_same _ k 2 _ _ _ (heap_setCell_same _ k 1 _ _ _ (heap_setCell_same w k 0 _ _ _ h)))
theorem ec_other {w : World} {k j : Nat} {o : Obj} {u : Cn} (h : w.heap[j]? = some o) (hn : j ≠ k) :
    ((((w.setCell ⟨k, 0, none⟩ (.bool u.up)).setCell ⟨k, 1, none⟩ (.bool u.dn)).setCell ⟨k, 2, none⟩ (.int .i64 u.pre)).setCell ⟨k, 3, none⟩ (.int .i64 u.val)).heap[j]? = some o :=
  (Below.heap_setCell _ _ _ _ hn).trans ((Below.heap_setCell _ _ _ _ hn).trans ((Below.heap_setCell _ _ _ _ hn).trans ((Below.heap_setCell _ _ _ _ hn).trans h)))
theorem ec_below {w0 w : World} {B k : Nat} {u : Cn} (h : Below B w0 w) (hk : B ≤ k) :
    Below B w0 ((((w.setCell ⟨k, 0, none⟩ (.bool u.up)).setCell ⟨k, 1, none⟩ (.bool u.dn)).setCell ⟨k, 2, none⟩ (.int .i64 u.pre)).setCell ⟨k, 3, none⟩ (.int .i64 u.val)) :=
  (((h.setCell hk _).setCell hk _).setCell hk _).setCell hk _
set_option maxHeartbeats 2000000 in
theorem iCountEdges_any (c : Cn) (v : Value) (l : List Bool) (w : World) (_hf : fitC c) (h : BoolsR w w.heap.size v l) :
    Calls Try.prog 28 #[cnV c, v] w (CnPost (edgesC c l) w) := by
  obtain ⟨A, cc, rfl, hr, hl⟩ := h
  have hb1 := blk_alloc (boxC w c) (.cells #[.int .i64 0, .int .i64 0, .bool false, .bool false] 24)
  have hb2 := heap_alloc_new (w.alloc (.cells #[.int .i64 c.pre, .int .i64 c.val, .bool c.up, .bool c.dn] 24)) (.cells #[.int .i64 0, .int .i64 0, .bool false, .bool false] 24)
  rw [World.size_alloc] at hb2
  have hB := ((Below.refl w.heap.size w).alloc (Nat.le_refl _) (.cells #[.int .i64 c.pre, .int .i64 c.val, .bool c.up, .bool c.dn] 24)).alloc (by simp) (.cells #[.int .i64 0, .int .i64 0, .bool false, .bool false] 24)
  have HV := Lib.hid (fun W : World => iCounterValid_any c W)
  have HO := Lib.hid (fun W : World => edgeCounterOf_any c W)
  have HS := Lib.hid (fun (W : World) (C : Cn) (x : Bool) (h1 : cvalid C = true) => ecStep_any C x false false false W h1)
  have HC := Lib.hid (fun W : World => counterOf_any (cAt c l l.length) W)
  obtain ⟨D, hD⟩ : ∃ D, D = edgesC c l := ⟨_, rfl⟩
  rw [← hD]
  unfold cnV at HV HO ⊢
  unfold EcPost at HO HS
  unfold CnPost at HC
  by_cases h2 : 200 < l.length
  · have HD := Lib.hid (show D = czero by rw [hD]; unfold edgesC; rw [if_neg (fun h => by omega)])
    clear hD
    obtain ⟨d0, d1, d2, d3, e0, e1, e2, e3⟩ := blk4 hb2
    have i2 : (200 : Int) < (l.length : Int) := by omega
    clear hb1 hb2
    go_enter Try.func28, Try.ntmps28
    go_wp2
    refine bodyPost_ret (v := cnV D) ?_ rfl ⟨rfl, hB⟩
    rw [HD.out]
    simp [results, Try.results28, go_sem, cnV, czero, *]
  have i2 : ¬ (200 : Int) < (l.length : Int) := by omega
  have i2' : (l.length : Int) ≤ 200 := by omega
  cases hv : cvalid c
  · have HD := Lib.hid (show D = czero by rw [hD]; unfold edgesC; rw [if_neg (fun h => by rw [hv] at h; exact Bool.noConfusion h.1)])
    clear hD
    go_enter Try.func28, Try.ntmps28
    go_wp2_with fail
    refine (HV.out _).mono ?_
    rw [hv]
    rintro e w1 ⟨rfl, hb⟩
    have c1 := (hb.block _ (blk_lt hb2)).trans hb2
    obtain ⟨d0, d1, d2, d3, e0, e1, e2, e3⟩ := blk4 c1
    have hB1 := hB.trans (hb.mono hB.size)
    clear hb1 hb2 hb hB c1
    go_wp2
    refine bodyPost_ret (v := cnV D) ?_ rfl ⟨rfl, (((hB1.setCell (by simp) _).setCell (by simp) _).setCell (by simp) _).setCell (by simp) _⟩
    rw [HD.out]
    simp [results, Try.results28, go_sem, cnV, czero, *]
  have HD := Lib.hid (show D = cAt c l l.length by rw [hD]; unfold edgesC; rw [if_pos ⟨hv, by omega⟩])
  have HT := Lib.hid (fun k => cAt_valid l hv k)
  rw [← HD.out] at HC
  clear hD
  go_enter Try.func28, Try.ntmps28
  go_wp2_with fail
  refine (HV.out _).mono ?_
  rw [hv]
  rintro e w1 ⟨rfl, hb⟩
  have hbx := (hb.block _ (blk_lt hb1)).trans hb1
  have hres := (hb.block _ (blk_lt hb2)).trans hb2
  have hB1 := hB.trans (hb.mono hB.size)
  clear hB hb hb1 hb2 hv
  obtain ⟨f0, f1, f2, f3, -⟩ := blk4 hbx
  go_wp2_with fail
  refine (HO.out _).mono ?_
  rintro e w2 ⟨rfl, hb⟩
  have hres2 := (hb.block _ (blk_lt hres)).trans hres
  have hB2 := hB1.trans (hb.mono hB1.size)
  clear hb hB1 hres hbx f0 f1 f2 f3
  have hlt2 := blk_lt hres2
  have hnew := heap_alloc_new w2 (.cells (ecC c) 58)
  have hres3 := blk_alloc hres2 (.cells (ecC c) 58)
  have hB3 := hB2.alloc (by omega) (.cells (ecC c) 58)
  unfold ecV
  go_upto_region 4 with fail
  have hlt3 : w.heap.size + 1 < (w2.alloc (.cells (ecC c) 58)).heap.size := by rw [World.size_alloc]; omega
  obtain ⟨g, hg⟩ : ∃ g, g = w2.heap.size := ⟨_, rfl⟩
  rw [← hg] at hnew hlt2 ⊢
  clear hg hB2 hres2
  unfold ecC at hnew hres3 hB3 hlt3
  generalize w2.alloc (.cells #[.bool c.up, .bool c.dn, .int .i64 c.pre, .int .i64 c.val] 58) = w3 at hnew hres3 hB3 hlt3 ⊢
  go_wp2_with fail
  go_loopw [21] (fun iv wr => ∃ k : Nat, k ≤ l.length ∧ iv = .int .i64 k ∧ wr.heap[g]? = some (.cells (ecC (cAt c l k)) 58 (0, 0)) ∧ wr.heap[w.heap.size + 1]? = some (.cells #[.int .i64 0, .int .i64 0, .bool false, .bool false] 24 (0, 0)) ∧ Below w.heap.size w wr) (fun iv _ => l.length - (intOf iv).toNat)
  case atStart => exact ⟨0, by omega, rfl, hnew, hres3, hB3⟩
  case round =>
    clear hB3 hnew hres3 hlt3
    obtain ⟨k, hk, rfl, hbk, hrs, hbr⟩ := hrel
    by_cases hlt : k < l.length
    · obtain ⟨p, rfl, hpb, hc⟩ := cell_bool hr hlt
      have g1 := (hbr.cell (p := p.add k) (by rw [add_block]; exact hpb)).trans hc
      have HTv := Lib.hid (HT.out k)
      have HSu := Lib.hid (cAt_succ c l k hlt)
      obtain ⟨T, hT⟩ : ∃ T, T = cAt c l k := ⟨_, rfl⟩
      rw [← hT] at hbk HTv HSu
      clear hT hc
      obtain ⟨c0, c1, c2, c3, z0, z1, z2, z3⟩ := blkE hbk
      have i1 : (k : Int) < (l.length : Int) := by omega
      have HS1 := Lib.hid (fun W => HS.out W T l[k] HTv.out)
      rw [← HSu.out] at HS1
      obtain ⟨T2, hT2⟩ : ∃ T2, T2 = cAt c l (k + 1) := ⟨_, rfl⟩
      rw [← hT2] at HS1
      have HT2 := Lib.hid hT2
      clear hT2 HSu HTv
      unfold ecV at HS1
      go_wp2_with fail
      refine (HS1.out _).mono ?_
      rintro e w4 ⟨rfl, hb⟩
      have hbk4 := (hb.block _ (blk_lt hbk)).trans hbk
      have hrs4 := (hb.block _ (blk_lt hrs)).trans hrs
      have hbr4 : Below w.heap.size w w4 := hbr.trans (hb.mono hbr.size)
      clear hbk hrs hbr hb c0 c1 c2 c3 z0 z1 z2 z3 g1
      obtain ⟨c0, c1, c2, c3, z0, z1, z2, z3⟩ := blkE hbk4
      have HX := Lib.hid (ec_set (u := T2) hbk4)
      have HR := Lib.hid (ec_other (u := T2) (j := w.heap.size + 1) (k := g) hrs4 (by omega))
      have HB := Lib.hid (ec_below (u := T2) hbr4 (k := g) (by omega))
      clear hbk4 hrs4 hbr4
      go_wp2
      go_roundw
      case rel => exact ⟨k + 1, by omega, by go_num, by rw [← HT2.out]; exact HX.out, HR.out, HB.out⟩
      case measure => simp [intOf]; omega
    · obtain rfl : k = l.length := by omega
      rw [← HD.out] at hbk
      obtain ⟨f0, f1, f2, f3, -⟩ := blkE hbk
      unfold ecV at HC
      go_wp2_with fail
      refine (HC.out _).mono ?_
      rintro e w4 ⟨rfl, hb⟩
      have hrs4 := (hb.block _ (blk_lt hrs)).trans hrs
      have hbr4 : Below w.heap.size w w4 := hbr.trans (hb.mono hbr.size)
      clear hbk hrs hbr hb f0 f1 f2 f3
      obtain ⟨d0, d1, d2, d3, e0, e1, e2, e3⟩ := blk4 hrs4
      obtain ⟨dp, dv, du, dd⟩ := D
      unfold cnV
      simp only
      go_wp2
      refine bodyPost_ret (v := cnV ⟨dp, dv, du, dd⟩) ?_ rfl ⟨rfl, (((hbr4.setCell (by simp) _).setCell (by simp) _).setCell (by simp) _).setCell (by simp) _⟩
      simp [results, Try.results28, go_sem, cnV, *]

end Go.Proofs.Ytldlfailmmmdmaa
