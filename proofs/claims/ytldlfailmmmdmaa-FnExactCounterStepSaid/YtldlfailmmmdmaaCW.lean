/- Counters of the specification: counting edges. -/
import Derived.Test.YtldlfailmmmdmaaCX
import Derived.Deep.Cut
import Derived.StillTailTactics
namespace Go.Proofs.Ytldlfailmmmdmaa
open Go.RowKit
attribute [local go_sem ↓] Go.wp_at_zero Go.wp_at_succ

def cAt (c : Cn) (l : List Bool) : Nat → Cn
  | 0 => c
  | k + 1 => cstep (cAt c l k) (l.getD k false) false false false
theorem cAt_valid {c : Cn} (l : List Bool) (h : cvalid c = true) (k : Nat) : cvalid (cAt c l k) = true := by
  induction k with
  | zero => exact h
  | succ k ih => exact cstep_valid _ _ _ _ ih
theorem cAt_succ (c : Cn) (l : List Bool) (k : Nat) (hk : k < l.length) : cAt c l (k + 1) = cstep (cAt c l k) l[k] false false false := by
  show cstep _ (l.getD k false) _ _ _ = _; simp [List.getD, List.getElem?_eq_getElem hk]
def edgesC (c : Cn) (l : List Bool) : Cn := if cvalid c = true ∧ l.length ≤ 200 then cAt c l l.length else czero
def cnC (c : Cn) : Array Value := #[.int .i64 c.pre, .int .i64 c.val, .bool c.up, .bool c.dn]
theorem four_set {w : World} {k ty : Nat} {t u : Cn} (h : w.heap[k]? = some (.cells (cnC t) ty (0, 0))) :
    ((((w.setCell ⟨k, 0, none⟩ (.int .i64 u.pre)).setCell ⟨k, 1, none⟩ (.int .i64 u.val)).setCell ⟨k, 2, none⟩ (.bool u.up)).setCell ⟨k, 3, none⟩ (.bool u.dn)).heap[k]? = some (.cells (cnC u) ty (0, 0)) :=
  heap_setCell_same _ k 3 _ _ _ (heap_setCell_same _ k 2 _ _ _ (heap_setCell_same _ k 1 _ _ _ (heap_setCell_same w k 0 _ _ _ h)))
theorem four_other {w : World} {k j : Nat} {o : Obj} {u : Cn} (h : w.heap[j]? = some o) (hn : j ≠ k) :
    ((((w.setCell ⟨k, 0, none⟩ (.int .i64 u.pre)).setCell ⟨k, 1, none⟩ (.int .i64 u.val)).setCell ⟨k, 2, none⟩ (.bool u.up)).setCell ⟨k, 3, none⟩ (.bool u.dn)).heap[j]? = some o :=
  (Below.heap_setCell _ _ _ _ hn).trans ((Below.heap_setCell _ _ _ _ hn).trans ((Below.heap_setCell _ _ _ _ hn).trans ((Below.heap_setCell _ _ _ _ hn).trans h)))
theorem four_below {w0 w : World} {B k : Nat} {u : Cn} (h : Below B w0 w) (hk : B ≤ k) :
    Below B w0 ((((w.setCell ⟨k, 0, none⟩ (.int .i64 u.pre)).setCell ⟨k, 1, none⟩ (.int .i64 u.val)).setCell ⟨k, 2, none⟩ (.bool u.up)).setCell ⟨k, 3, none⟩ (.bool u.dn)) :=
  (((h.setCell hk _).setCell hk _).setCell hk _).setCell hk _
theorem blkC {w : World} {k ty : Nat} {t : Cn} (h : w.heap[k]? = some (.cells (cnC t) ty (0, 0))) :
    w.cell? ⟨k, 0, none⟩ = some (.int .i64 t.pre) ∧ w.cell? ⟨k, 1, none⟩ = some (.int .i64 t.val) ∧ w.cell? ⟨k, 2, none⟩ = some (.bool t.up) ∧ w.cell? ⟨k, 3, none⟩ = some (.bool t.dn) ∧
    w.frozen? ⟨k, 0, none⟩ = false ∧ w.frozen? ⟨k, 1, none⟩ = false ∧ w.frozen? ⟨k, 2, none⟩ = false ∧ w.frozen? ⟨k, 3, none⟩ = false := blk4 h
set_option maxHeartbeats 2000000 in
theorem sCountEdges_any (c : Cn) (v : Value) (l : List Bool) (w : World) (_hf : fitC c) (h : BoolsR w w.heap.size v l) :
    Calls Try.prog 29 #[cnV c, v] w (CnPost (edgesC c l) w) := by
  obtain ⟨A, cc, rfl, hr, hl⟩ := h
  have hb1 := blk_alloc (boxC w c) (.cells #[.int .i64 0, .int .i64 0, .bool false, .bool false] 24)
  have hb2 := heap_alloc_new (w.alloc (.cells #[.int .i64 c.pre, .int .i64 c.val, .bool c.up, .bool c.dn] 24)) (.cells #[.int .i64 0, .int .i64 0, .bool false, .bool false] 24)
  rw [World.size_alloc] at hb2
  have hB := ((Below.refl w.heap.size w).alloc (Nat.le_refl _) (.cells #[.int .i64 c.pre, .int .i64 c.val, .bool c.up, .bool c.dn] 24)).alloc (by simp) (.cells #[.int .i64 0, .int .i64 0, .bool false, .bool false] 24)
  have HV := Lib.hid (fun W : World => sCounterValid_any c W)
  have HS := Lib.hid (fun (W : World) (C : Cn) (x : Bool) (h1 : cvalid C = true) => l6Step_any C x false false false W h1)
  obtain ⟨D, hD⟩ : ∃ D, D = edgesC c l := ⟨_, rfl⟩
  rw [← hD]
  unfold cnV at HV HS ⊢
  by_cases hok : cvalid c = true ∧ l.length ≤ 200
  case neg =>
    have HD := Lib.hid (show D = czero by rw [hD]; unfold edgesC; rw [if_neg hok])
    clear hD
    cases hv : cvalid c
    · go_enter Try.func29, Try.ntmps29
      go_wp2_with fail
      refine (HV.out _).mono ?_
      rw [hv]
      rintro e w1 ⟨rfl, hb⟩
      have c1 := (hb.block _ (blk_lt hb2)).trans hb2
      obtain ⟨d0, d1, d2, d3, e0, e1, e2, e3⟩ := blk4 c1
      have hB1 := hB.trans (hb.mono hB.size)
      clear hb1 hb2 hb hB c1
      go_wp2
      refine bodyPost_ret (v := cnV D) ?_ rfl ⟨rfl, (((hB1.setCell (by simp) _).setCell (by simp) _).setCell (by simp) _).setCell (by simp) _⟩
      rw [HD.out]
      simp [results, Try.results29, go_sem, cnV, czero, *]
    · have h2 : 200 < l.length := by
        rcases Nat.lt_or_ge 200 l.length with h | h
        · exact h
        · exact absurd ⟨hv, h⟩ hok
      clear hok
      go_enter Try.func29, Try.ntmps29
      go_wp2_with fail
      refine (HV.out _).mono ?_
      rw [hv]
      rintro e w1 ⟨rfl, hb⟩
      have c1 := (hb.block _ (blk_lt hb2)).trans hb2
      obtain ⟨d0, d1, d2, d3, e0, e1, e2, e3⟩ := blk4 c1
      have hB1 := hB.trans (hb.mono hB.size)
      clear hb1 hb2 hb hB c1
      go_wp2
      refine bodyPost_ret (v := cnV D) ?_ rfl ⟨rfl, (((hB1.setCell (by simp) _).setCell (by simp) _).setCell (by simp) _).setCell (by simp) _⟩
      rw [HD.out]
      simp [results, Try.results29, go_sem, cnV, czero, *]
  case pos =>
  obtain ⟨hv, h2⟩ := hok
  have HD := Lib.hid (show D = cAt c l l.length by rw [hD]; unfold edgesC; rw [if_pos ⟨hv, h2⟩])
  have HT := Lib.hid (fun k => cAt_valid l hv k)
  clear hD
  go_enter Try.func29, Try.ntmps29
  go_wp2_with fail
  refine (HV.out _).mono ?_
  rw [hv]
  rintro e w1 ⟨rfl, hb⟩
  have hblk : w1.heap[w.heap.size]? = some (.cells (cnC c) 24 (0, 0)) := (hb.block _ (blk_lt hb1)).trans hb1
  have hres : w1.heap[w.heap.size + 1]? = some (.cells #[.int .i64 0, .int .i64 0, .bool false, .bool false] 24 (0, 0)) := (hb.block _ (blk_lt hb2)).trans hb2
  have hB1 := hB.trans (hb.mono hB.size)
  clear hB hb hb1 hb2 hv
  go_wp2_with fail
  go_loopw [5] (fun iv wr => ∃ k : Nat, k ≤ l.length ∧ iv = .int .i64 k ∧ wr.heap[w.heap.size]? = some (.cells (cnC (cAt c l k)) 24 (0, 0)) ∧ wr.heap[w.heap.size + 1]? = some (.cells #[.int .i64 0, .int .i64 0, .bool false, .bool false] 24 (0, 0)) ∧ Below w.heap.size w wr) (fun iv _ => l.length - (intOf iv).toNat)
  case atStart => exact ⟨0, by omega, rfl, hblk, hres, hB1⟩
  case round =>
    clear hB1 hblk hres
    obtain ⟨k, hk, rfl, hbk, hrs, hbr⟩ := hrel
    by_cases hlt : k < l.length
    · obtain ⟨p, rfl, hpb, hc⟩ := cell_bool hr hlt
      have g1 := (hbr.cell (p := p.add k) (by rw [add_block]; exact hpb)).trans hc
      have HTv := Lib.hid (HT.out k)
      have HSu := Lib.hid (cAt_succ c l k hlt)
      obtain ⟨T, hT⟩ : ∃ T, T = cAt c l k := ⟨_, rfl⟩
      rw [← hT] at hbk HTv HSu
      clear hT hc
      obtain ⟨c0, c1', c2, c3, z0, z1, z2, z3⟩ := blkC hbk
      have i1 : (k : Int) < (l.length : Int) := by omega
      go_wp2_with fail
      go_still_tail 5, (by kernel_rfl)
      go_wp2_with fail
      have hbkd : wr.drew.heap[w.heap.size]? = some (.cells (cnC T) 24 (0, 0)) := hbk
      have hrsd : wr.drew.heap[w.heap.size + 1]? = some (.cells #[.int .i64 0, .int .i64 0, .bool false, .bool false] 24 (0, 0)) := hrs
      have hbd : Below w.heap.size w wr.drew := hbr.drew
      clear c0 c1' c2 c3 z0 z1 z2 z3 hbk hrs hbr g1
      generalize wr.drew = wd at hbkd hrsd hbd ⊢
      refine (HS.out _ T l[k] HTv.out).mono ?_
      rw [← HSu.out]
      obtain ⟨T2, hT2⟩ : ∃ T2, T2 = cAt c l (k + 1) := ⟨_, rfl⟩
      rw [← hT2]
      have HT2 := Lib.hid hT2
      clear hT2
      rintro e w3 ⟨rfl, hb3⟩
      have hbk3 := (hb3.block _ (blk_lt hbkd)).trans hbkd
      have hrs3 := (hb3.block _ (blk_lt hrsd)).trans hrsd
      have hbr3 : Below w.heap.size w w3 := hbd.trans (hb3.mono hbd.size)
      clear hbkd hrsd hbd hb3
      obtain ⟨c0, c1', c2, c3, z0, z1, z2, z3⟩ := blkC hbk3
      have HX := Lib.hid (four_set (u := T2) hbk3)
      have HR := Lib.hid (four_other (u := T2) (j := w.heap.size + 1) (k := w.heap.size) hrs3 (by omega))
      have HB := Lib.hid (four_below (u := T2) hbr3 (Nat.le_refl w.heap.size))
      have hs3 := hbr3.size
      unfold cnV
      clear hbk3 hrs3 hbr3
      go_wp2
      go_roundw
      case rel => exact ⟨k + 1, by omega, by go_num, by rw [← HT2.out]; exact HX.out, HR.out, HB.out⟩
      case measure => simp [intOf]; omega
    · obtain rfl : k = l.length := by omega
      rw [← HD.out] at hbk
      obtain ⟨f0, f1, f2, f3, -⟩ := blkC hbk
      obtain ⟨d0, d1, d2, d3, e0, e1, e2, e3⟩ := blk4 hrs
      obtain ⟨dp, dv, du, dd⟩ := D
      go_wp2
      refine bodyPost_ret (v := cnV ⟨dp, dv, du, dd⟩) ?_ rfl ⟨rfl, (((hbr.setCell (by simp) _).setCell (by simp) _).setCell (by simp) _).setCell (by simp) _⟩
      simp [results, Try.results29, go_sem, cnV, *]
end Go.Proofs.Ytldlfailmmmdmaa
