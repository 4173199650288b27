/- Timers of the specification: traces; the exact laws' helpers. -/
import Derived.Test.YtikebldmbabmiaaTV
import Derived.Deep.Cut
namespace Go.Proofs.Ytikebldmbabmiaa
open Go.RowKit
attribute [local go_sem ↓] Go.wp_at_zero Go.wp_at_succ

def tmC (t : Tm) : Array Value := #[.int .i64 t.kind, .int .i64 t.pre, .int .i64 t.el, .bool t.bef, .bool t.out]
theorem five_set {w : World} {k ty : Nat} {t u : Tm} (h : w.heap[k]? = some (.cells (tmC t) ty (0, 0))) :
    (((((w.setCell ⟨k, 0, none⟩ (.int .i64 u.kind)).setCell ⟨k, 1, none⟩ (.int .i64 u.pre)).setCell ⟨k, 2, none⟩ (.int .i64 u.el)).setCell ⟨k, 3, none⟩ (.bool u.bef)).setCell ⟨k, 4, none⟩ (.bool u.out)).heap[k]? = some (.cells (tmC u) ty (0, 0)) :=
  heap_setCell_same _ k 4 _ _ _ (heap_setCell_same _ k 3 _ _ _ (heap_setCell_same _ k 2 _ _ _ (heap_setCell_same _ k 1 _ _ _ (heap_setCell_same w k 0 _ _ _ h))))
theorem five_own {w : World} {k ty b e s n : Nat} {v : Value} {xs : List Value} {t u : Tm} (h : w.ownsRow b e s v n xs) (hk : w.heap[k]? = some (.cells (tmC t) ty (0, 0))) (ht : e ≠ ty) :
    (((((w.setCell ⟨k, 0, none⟩ (.int .i64 u.kind)).setCell ⟨k, 1, none⟩ (.int .i64 u.pre)).setCell ⟨k, 2, none⟩ (.int .i64 u.el)).setCell ⟨k, 3, none⟩ (.bool u.bef)).setCell ⟨k, 4, none⟩ (.bool u.out)).ownsRow b e s v n xs := by
  have h1 := heap_setCell_same w k 0 _ _ (.int .i64 u.kind) hk
  have h2 := heap_setCell_same _ k 1 _ _ (.int .i64 u.pre) h1
  have h3 := heap_setCell_same _ k 2 _ _ (.int .i64 u.el) h2
  have h4 := heap_setCell_same _ k 3 _ _ (.bool u.bef) h3
  exact own_setCell (p := ⟨k, 4, none⟩) (own_setCell (p := ⟨k, 3, none⟩) (own_setCell (p := ⟨k, 2, none⟩) (own_setCell (p := ⟨k, 1, none⟩) (own_setCell (p := ⟨k, 0, none⟩) h hk ht _) h1 ht _) h2 ht _) h3 ht _) h4 ht _
theorem five_below {w0 w : World} {B k : Nat} {u : Tm} (h : Below B w0 w) (hk : B ≤ k) :
    Below B w0 (((((w.setCell ⟨k, 0, none⟩ (.int .i64 u.kind)).setCell ⟨k, 1, none⟩ (.int .i64 u.pre)).setCell ⟨k, 2, none⟩ (.int .i64 u.el)).setCell ⟨k, 3, none⟩ (.bool u.bef)).setCell ⟨k, 4, none⟩ (.bool u.out)) :=
  ((((h.setCell hk _).setCell hk _).setCell hk _).setCell hk _).setCell hk _
theorem blkT {w : World} {k ty : Nat} {t : Tm} (h : w.heap[k]? = some (.cells (tmC t) ty (0, 0))) :
    w.cell? ⟨k, 0, none⟩ = some (.int .i64 t.kind) ∧ w.cell? ⟨k, 1, none⟩ = some (.int .i64 t.pre) ∧ w.cell? ⟨k, 2, none⟩ = some (.int .i64 t.el) ∧ w.cell? ⟨k, 3, none⟩ = some (.bool t.bef) ∧ w.cell? ⟨k, 4, none⟩ = some (.bool t.out) ∧
    w.frozen? ⟨k, 0, none⟩ = false ∧ w.frozen? ⟨k, 1, none⟩ = false ∧ w.frozen? ⟨k, 2, none⟩ = false ∧ w.frozen? ⟨k, 3, none⟩ = false ∧ w.frozen? ⟨k, 4, none⟩ = false := blk5 h
set_option maxHeartbeats 2000000 in
theorem sTimerTrace_any (t : Tm) (v : Value) (l : List Bool) (dt : Int) (w : World) (_hf : fitT t) (h : BoolsR w w.heap.size v l) (_hd : -9223372036854775808 ≤ dt ∧ dt ≤ 9223372036854775807) :
    Calls Try.prog 27 #[tmV t, v, .int .i64 dt] w (OwnBP (traceL t l dt) w) := by
  obtain ⟨A, c, rfl, hr, hl⟩ := h
  have hb1 := blk_alloc (boxT w t) (.cells #[] 4)
  have hO0 := own_lit0 (W := w.alloc (.cells #[.int .i64 t.kind, .int .i64 t.pre, .int .i64 t.el, .bool t.bef, .bool t.out] 24)) (e := 4) (sz := 1) (base := w.heap.size + 1) (g := w.heap.size + 1) (by simp) (Nat.le_refl _)
  have hB := ((Below.refl w.heap.size w).alloc (Nat.le_refl _) (.cells #[.int .i64 t.kind, .int .i64 t.pre, .int .i64 t.el, .bool t.bef, .bool t.out] 24)).alloc (by simp) (.cells #[] 4)
  have HV := Lib.hid (fun W : World => sTimerValid_any t W)
  have HS := Lib.hid (fun (W : World) (T : Tm) (x : Bool) (h1 : tvalid T = true) (h2 : 0 ≤ dt ∧ dt ≤ 1000) => l5Step_any T x dt W h1 h2)
  obtain ⟨D, hD⟩ : ∃ D, D = traceL t l dt := ⟨_, rfl⟩
  rw [← hD]
  unfold tmV at HV HS ⊢
  cases hv : tvalid t
  · have HD := Lib.hid (show D = [] by rw [hD]; unfold traceL traceOK; rw [hv]; rfl)
    clear hD
    go_enter Try.func27, Try.ntmps27
    go_wp2_with fail
    refine (HV.out _).mono ?_
    rw [hv]
    rintro e w1 ⟨rfl, hb⟩
    have hO1 := own_below hO0 hb
    have hB1 := hB.trans (hb.mono hB.size)
    clear hO0 hB hb hb1
    go_wp2
    go_ret
    exact ⟨_, rfl, by rw [HD.out]; exact mono_own hO1 (by omega), hB1⟩
  cases hi : inB dt 0 1000
  · have HD := Lib.hid (show D = [] by rw [hD]; unfold traceL traceOK; rw [hv, hi]; rfl)
    clear hD
    go_enter Try.func27, Try.ntmps27
    go_wp2_with fail
    refine (HV.out _).mono ?_
    rw [hv]
    rintro e w1 ⟨rfl, hb⟩
    have hO1 := own_below hO0 hb
    have hB1 := hB.trans (hb.mono hB.size)
    clear hO0 hB hb hb1
    go_wp2_with fail
    refine (l1In_any _ _ _ _).mono ?_
    rw [hi]
    rintro e w2 ⟨rfl, rfl⟩
    go_wp2
    go_ret
    exact ⟨_, rfl, by rw [HD.out]; exact mono_own hO1 (by omega), hB1⟩
  by_cases h2 : 200 < l.length
  · have HD := Lib.hid (show D = [] by rw [hD]; unfold traceL traceOK; rw [hv, hi, decide_eq_false (by omega)]; rfl)
    clear hD
    go_enter Try.func27, Try.ntmps27
    go_wp2_with fail
    refine (HV.out _).mono ?_
    rw [hv]
    rintro e w1 ⟨rfl, hb⟩
    have hO1 := own_below hO0 hb
    have hB1 := hB.trans (hb.mono hB.size)
    clear hO0 hB hb hb1
    go_wp2_with fail
    refine (l1In_any _ _ _ _).mono ?_
    rw [hi]
    rintro e w2 ⟨rfl, rfl⟩
    go_wp2
    go_ret
    exact ⟨_, rfl, by rw [HD.out]; exact mono_own hO1 (by omega), hB1⟩
  have HD := Lib.hid (show D = traceTo t l dt l.length by rw [hD]; unfold traceL traceOK; rw [hv, hi, decide_eq_true (by omega)]; rfl)
  have hi2 : 0 ≤ dt ∧ dt ≤ 1000 := by unfold inB at hi; simp at hi; exact hi
  have HT := Lib.hid (fun k => tAt_valid l hv hi2.1 k)
  clear hD
  go_enter Try.func27, Try.ntmps27
  go_wp2_with fail
  refine (HV.out _).mono ?_
  rw [hv]
  rintro e w1 ⟨rfl, hb⟩
  have hO1 := own_below hO0 hb
  have hB1 := hB.trans (hb.mono hB.size)
  have hblk : w1.heap[w.heap.size]? = some (.cells (tmC t) 24 (0, 0)) := (hb.block _ (blk_lt hb1)).trans hb1
  clear hO0 hB hb hb1 hv
  go_wp2_with fail
  refine (l1In_any _ _ _ _).mono ?_
  rw [hi]
  rintro e w2 ⟨rfl, rfl⟩
  clear hi
  go_wp2_with fail
  go_loopw [7, 8] (fun v i wr => ∃ (k : Nat) (E : List Bool), k ≤ l.length ∧ i = .int .i64 k ∧ wr.heap[w.heap.size]? = some (.cells (tmC (tAt t l dt k)) 24 (0, 0)) ∧ E.length = k ∧ E = traceTo t l dt k ∧ OwnB wr (w.heap.size + 1) v E ∧ Below w.heap.size w wr) (fun _ i _ => l.length - (intOf i).toNat)
  case atStart => exact ⟨0, [], by omega, rfl, hblk, rfl, rfl, hO1, hB1⟩
  case round =>
    obtain ⟨k, E, hk, rfl, hbk, hEl, hE, hO, hbr⟩ := hrel
    have HEl := Lib.hid hEl
    have HEE := Lib.hid hE
    have hsz := hbr.size
    clear hO1 hB1 hblk hEl hE
    obtain ⟨A1, c1, rfl, -, -⟩ := own_form hO
    by_cases hlt : k < l.length
    · obtain ⟨p, rfl, hpb, hc⟩ := cell_bool hr hlt
      have g1 := (hbr.cell (p := p.add k) (by rw [add_block]; exact hpb)).trans hc
      have HTv := Lib.hid (HT.out k)
      have HSu := Lib.hid (tAt_succ t l dt k hlt)
      have HTr := Lib.hid (traceTo_succ t l dt k)
      obtain ⟨T, hT⟩ : ∃ T, T = tAt t l dt k := ⟨_, rfl⟩
      rw [← hT] at hbk HTv HSu
      clear hT
      obtain ⟨c0, c1', c2, c3, c4, z0, z1, z2, z3, z4⟩ := blkT hbk
      have i1 : (k : Int) < (l.length : Int) := by omega
      clear hc
      go_wp2_with fail
      go_still_tail 6, (by kernel_rfl)
      go_wp2_with fail
      have hbkd : wr.drew.heap[w.heap.size]? = some (.cells (tmC T) 24 (0, 0)) := hbk
      have hOd : OwnB wr.drew (w.heap.size + 1) (.slice A1 E.length c1) E := World.ownsRow.drew hO
      have hbd : Below w.heap.size w wr.drew := hbr.drew
      clear c0 c1' c2 c3 c4 z0 z1 z2 z3 z4 hbk hO hbr g1 hsz
      generalize wr.drew = wd at hbkd hOd hbd ⊢
      have hltd := blk_lt hbkd
      refine (HS.out _ T l[k] HTv.out hi2).mono ?_
      rw [← HSu.out]
      obtain ⟨T2, hT2⟩ : ∃ T2, T2 = tAt t l dt (k + 1) := ⟨_, rfl⟩
      rw [← hT2] at HTr ⊢
      have HT2 := Lib.hid hT2
      clear hT2
      rintro e w3 ⟨rfl, hb3⟩
      have hbk3 := (hb3.block _ hltd).trans hbkd
      have hO3 := own_below hOd hb3
      have hbr3 : Below w.heap.size w w3 := hbd.trans (hb3.mono hbd.size)
      clear hbkd hOd hbd hb3 hltd
      obtain ⟨c0, c1', c2, c3, c4, z0, z1, z2, z3, z4⟩ := blkT hbk3
      have hbk4 := five_set (u := T2) hbk3
      have hO4 := five_own (u := T2) hO3 hbk3 (by decide)
      have hbr4 := five_below (u := T2) hbr3 (Nat.le_refl w.heap.size)
      have hs3 := hbr3.size
      have hlt3 := blk_lt hbk3
      unfold tmV
      have HX := Lib.hid hbk4
      have HB := Lib.hid hbr4
      have HO := Lib.hid hO4
      clear hbk3 hO3 hbr3 hbk4 hO4 hbr4
      go_upto_region 8 with fail
      generalize (((((w3.setCell ⟨w.heap.size, 0, none⟩ (.int .i64 T2.kind)).setCell ⟨w.heap.size, 1, none⟩ (.int .i64 T2.pre)).setCell ⟨w.heap.size, 2, none⟩ (.int .i64 T2.el)).setCell ⟨w.heap.size, 3, none⟩ (.bool T2.bef)).setCell ⟨w.heap.size, 4, none⟩ (.bool T2.out)) = w4 at HX HB HO ⊢
      clear c0 c1' c2 c3 c4 z0 z1 z2 z3 z4 hs3 hlt3
      obtain ⟨-, -, -, -, c4, -⟩ := blkT HX.out
      have hs4 := HB.out.size
      go_wp2_with (at_builtin; refine wpl_append rfl _ _ 35 rfl elB rfl (World.ownsRow.alloc HO.out _) rfl (Rd.new1 _ _ _) ?c1 ?c2 ?c3 ?c4 ?_)
      case c1 => first | rfl | (simp; rfl)
      case c2 => have := HEl.out; omega
      case c3 => have := HEl.out; omega
      case c4 => first | omega | (simp; omega)
      intro v' w5 hO5 hg5 _
      have R : OwnB w5 (w.heap.size + 1) v' (E ++ [T2.out]) := by unfold OwnB; simpa using hO5
      have hb5 : Below w.heap.size w w5 := (HB.out.alloc HB.out.size _).grown hg5 (by simp; omega) (fun j hj => by have := (HO.out.lt j hj).1; omega)
      have hbk5 := (hg5.block w.heap.size (by simp; omega) (fun e => by have := (HO.out.lt w.heap.size e.symm).1; omega)).trans (blk_alloc HX.out _)
      clear hO5 hg5 HX HB HO c4
      go_wp2
      go_roundw
      case rel => exact ⟨k + 1, _, by omega, by go_num, by rw [← HT2.out]; exact hbk5, by simp [HEl.out], by rw [HTr.out, HEE.out], R, hb5⟩
      case measure => simp [intOf]; omega
    · go_wp2
      go_ret
      obtain rfl : k = l.length := by omega
      refine ⟨_, rfl, ?_, hbr⟩
      rw [HD.out, ← HEE.out]
      exact mono_own hO (by omega)
end Go.Proofs.Ytikebldmbabmiaa
