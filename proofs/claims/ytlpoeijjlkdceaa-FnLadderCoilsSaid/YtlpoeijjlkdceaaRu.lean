/- Ladders: the specification's lists of coils. -/
import Derived.Test.YtlpoeijjlkdceaaRs
import Derived.Test.YtlpoeijjlkdceaaIu
namespace Go.Proofs.Ytlpoeijjlkdceaa
open Go.RowKit
attribute [local go_sem ↓] Go.wp_at_zero Go.wp_at_succ

theorem any_take_succ {α : Type} (f : α → Bool) (l : List α) (k : Nat) (h : k < l.length) : (l.take (k + 1)).any f = ((l.take k).any f || f l[k]) := by
  rw [List.take_succ_eq_append_getElem h, List.any_append]; simp
theorem any_of_get {α : Type} {f : α → Bool} {l : List α} {k : Nat} (h : k < l.length) (hf : f l[k] = true) : l.any f = true := List.any_eq_true.2 ⟨l[k], List.getElem_mem h, hf⟩
theorem coilsTo_lads (ps : List (Value × Rg)) (n : Nat) : coilsTo (lads ps) (n + 1) = if ps.any fun p => decide (p.2.coil = (n : Int)) then coilsTo (lads ps) n ++ [(n : Int)] else coilsTo (lads ps) n := by
  rw [coilsTo_succ]; unfold lads; rw [List.any_map]; rfl
set_option maxHeartbeats 2000000 in
theorem sLadderCoils_any (v : Value) (ps : List (Value × Rg)) (w : World) (h : LadR w w.heap.size v ps) :
    Calls Try.prog 37 #[v] w (OwnIP (coilsL (lads ps)) w) := by
  obtain ⟨A, c, rfl, hr, hl, h3⟩ := h
  have H3 := Lib.hid h3
  clear h3
  go_enter Try.func37, Try.ntmps37
  go_wp2
  go_loopw [3, 4] (fun v i wr => ∃ n : Nat, n ≤ 16 ∧ i = .int .i64 n ∧ OwnI wr w.heap.size v (coilsTo (lads ps) n) ∧ Below w.heap.size w wr) (fun _ i _ => 16 - (intOf i).toNat)
  case atStart => exact ⟨0, by omega, rfl, own_lit0 rfl (by omega), (Below.refl _ _).alloc (Nat.le_refl _) _⟩
  case round =>
    obtain ⟨n, hn, rfl, hown, hbr⟩ := hrel
    have hsz := hbr.size
    by_cases hlt : n < 16
    · have hnl := coilsTo_length (lads ps) n
      obtain ⟨SA, sc, rfl, -, -⟩ := own_form hown
      obtain ⟨q, hq⟩ : ∃ q, q = (coilsTo (lads ps) n).length := ⟨_, rfl⟩
      have hown' : wr.ownsRow w.heap.size 3 1 (.slice SA q sc) q ((coilsTo (lads ps) n).map (.int .i64)) := by rw [hq]; exact hown
      rw [← hq] at hnl ⊢
      have HO := Lib.hid hown
      have HQ := Lib.hid hq
      have hS := Lib.hid (coilsTo_lads ps n)
      clear hown hq
      obtain ⟨wo, rfl⟩ : ∃ wo : World, wo = wr := ⟨_, rfl⟩
      go_wp2
      go_loopw [3, 5] (fun v i wx => ∃ k : Nat, k ≤ ps.length ∧ i = .int .i64 k ∧ v = .slice SA q sc ∧ (ps.take k).any (fun p => decide (p.2.coil = (n : Int))) = false ∧ wx = wo) (fun _ i _ => ps.length - (intOf i).toNat)
      case atStart => exact ⟨0, by omega, rfl, rfl, rfl, rfl⟩
      case round =>
        obtain ⟨k, hk, rfl, rfl, hany, rfl⟩ := hrel
        by_cases hkl : k < ps.length
        · obtain ⟨p, rfl, hpb, c0, c1, c2⟩ := hr.three hkl
          have HT := Lib.hid (any_take_succ (fun p : Value × Rg => decide (p.2.coil = (n : Int))) ps k hkl)
          have HH := Lib.hid (fun hf => any_of_get (f := fun p : Value × Rg => decide (p.2.coil = (n : Int))) hkl hf)
          rw [hany] at HT
          generalize ps[k] = x at c0 c1 c2 HT HH
          obtain ⟨u, lg, co, ki⟩ := x
          simp only at c0 c1 c2 HT HH
          have g1 := (hbr.cell (p := ⟨(p.add (k * 3)).block, (p.add (k * 3)).off + 1, none⟩) (by show (p.add (k * 3)).block < _; rw [add_block]; exact hpb)).trans c1
          have i1 : (k : Int) < (ps.length : Int) := by omega
          clear c0 c1 c2 hr hany
          by_cases h2 : co = n
          · subst h2
            have HH2 := Lib.hid (HH.out (by simp))
            go_wp2_with (at_builtin; refine wpl_append rfl _ _ 36 rfl elI rfl (hown'.alloc _) rfl (Rd.new1 _ _ _) ?_ ?_ ?_ ?_ ?_)
            · first | rfl | (intro u hu; simp at hu; subst hu; rfl)
            · omega
            · omega
            · first | omega | (simp; omega)
            intro v' w1 hown1 hg1 _
            have R : OwnI w1 w.heap.size v' (coilsTo (lads ps) (n + 1)) := by
              unfold OwnI; rw [hS.out, HH2.out]
              have h := hown1
              rw [HQ.out] at h
              simpa using h
            have hb1 : Below w.heap.size w w1 := (hbr.alloc hsz _).grown hg1 (by simp; omega) (fun j hj => (hown'.lt j hj).1)
            clear hown1 hg1 hown' hbr
            go_wp2
            go_roundw
            case rel => exact ⟨n + 1, by omega, by go_num, R, hb1⟩
            case measure => simp [intOf]; omega
          · have e2 : (co == (n : Int)) = false := by simpa using h2
            have HA2 := Lib.hid (show (ps.take (k + 1)).any (fun p => decide (p.2.coil = (n : Int))) = false by rw [HT.out]; simp [h2])
            clear h2
            go_wp2
            go_roundw
            case rel => exact ⟨k + 1, by omega, by go_num, rfl, HA2.out, by first | rfl | trivial⟩
            case measure => simp [intOf]; omega
        · have hA3 : ps.any (fun p => decide (p.2.coil = (n : Int))) = false := by rwa [List.take_of_length_le (by omega)] at hany
          have R : ∀ W, OwnI W w.heap.size (.slice SA (coilsTo (lads ps) n).length sc) (coilsTo (lads ps) n) → OwnI W w.heap.size (.slice SA q sc) (coilsTo (lads ps) (n + 1)) := fun W h => by
            rw [hS.out, hA3, HQ.out]
            simpa using h
          have HR := Lib.hid (R _ HO.out)
          clear R hA3 hown' hany
          go_wp2
          go_roundw
          case rel => exact ⟨n + 1, by omega, by go_num, HR.out, hbr⟩
          case measure => simp [intOf]; omega
    · go_wp2
      go_ret
      obtain rfl : n = 16 := by omega
      exact ⟨_, rfl, hown, hbr⟩
theorem countP_take_succ {α : Type} (f : α → Bool) (l : List α) (k : Nat) (h : k < l.length) : (l.take (k + 1)).countP f = (l.take k).countP f + if f l[k] = true then 1 else 0 := by
  rw [List.take_succ_eq_append_getElem h, List.countP_append, List.countP_singleton]
theorem doubleTo_lads (ps : List (Value × Rg)) (n : Nat) : doubleTo (lads ps) (n + 1) = if 1 < ps.countP fun p => decide (p.2.coil = (n : Int)) && decide (p.2.kind = 1) then doubleTo (lads ps) n ++ [(n : Int)] else doubleTo (lads ps) n := by
  rw [doubleTo_succ]; unfold manyC lads; rw [List.countP_map]; simp only [decide_eq_true_eq]; rfl
set_option maxHeartbeats 2000000 in
theorem sDoubleCoils_any (v : Value) (ps : List (Value × Rg)) (w : World) (h : LadR w w.heap.size v ps) :
    Calls Try.prog 45 #[v] w (OwnIP (doubleL (lads ps)) w) := by
  obtain ⟨A, c, rfl, hr, hl, h3⟩ := h
  have H3 := Lib.hid h3
  clear h3
  go_enter Try.func45, Try.ntmps45
  go_wp2
  go_loopw [3, 4] (fun v i wr => ∃ n : Nat, n ≤ 16 ∧ i = .int .i64 n ∧ OwnI wr w.heap.size v (doubleTo (lads ps) n) ∧ Below w.heap.size w wr) (fun _ i _ => 16 - (intOf i).toNat)
  case atStart => exact ⟨0, by omega, rfl, own_lit0 rfl (by omega), (Below.refl _ _).alloc (Nat.le_refl _) _⟩
  case round =>
    obtain ⟨n, hn, rfl, hown, hbr⟩ := hrel
    have hsz := hbr.size
    by_cases hlt : n < 16
    · have hnl := doubleTo_length (lads ps) n
      obtain ⟨SA, sc, rfl, -, -⟩ := own_form hown
      obtain ⟨q, hq⟩ : ∃ q, q = (doubleTo (lads ps) n).length := ⟨_, rfl⟩
      have hown' : wr.ownsRow w.heap.size 3 1 (.slice SA q sc) q ((doubleTo (lads ps) n).map (.int .i64)) := by rw [hq]; exact hown
      rw [← hq] at hnl ⊢
      have HO := Lib.hid hown
      have HQ := Lib.hid hq
      have hS := Lib.hid (doubleTo_lads ps n)
      clear hown hq
      obtain ⟨wo, rfl⟩ : ∃ wo : World, wo = wr := ⟨_, rfl⟩
      go_wp2_with fail
      go_loopw [5, 6] (fun m i wx => ∃ k : Nat, k ≤ ps.length ∧ i = .int .i64 k ∧ m = .int .i64 ((ps.take k).countP (fun p => decide (p.2.coil = (n : Int)) && decide (p.2.kind = 1)) : Nat) ∧ wx = wo) (fun _ i _ => ps.length - (intOf i).toNat)
      case atStart => exact ⟨0, by omega, rfl, rfl, rfl⟩
      case round =>
        obtain ⟨k, hk, rfl, rfl, rfl⟩ := hrel
        by_cases hkl : k < ps.length
        · obtain ⟨p, rfl, hpb, c0, c1, c2⟩ := hr.three hkl
          have HT := Lib.hid (countP_take_succ (fun p : Value × Rg => decide (p.2.coil = (n : Int)) && decide (p.2.kind = 1)) ps k hkl)
          have hle : (ps.take k).countP (fun p => decide (p.2.coil = (n : Int)) && decide (p.2.kind = 1)) ≤ k := Nat.le_trans List.countP_le_length (by simp; omega)
          generalize (ps.take k).countP (fun p => decide (p.2.coil = (n : Int)) && decide (p.2.kind = 1)) = m at *
          generalize ps[k] = x at c0 c1 c2 HT
          obtain ⟨u, lg, co, ki⟩ := x
          simp only at c0 c1 c2 HT
          have g1 := (hbr.cell (p := ⟨(p.add (k * 3)).block, (p.add (k * 3)).off + 1, none⟩) (by show (p.add (k * 3)).block < _; rw [add_block]; exact hpb)).trans c1
          have g2 := (hbr.cell (p := ⟨(p.add (k * 3)).block, (p.add (k * 3)).off + 2, none⟩) (by show (p.add (k * 3)).block < _; rw [add_block]; exact hpb)).trans c2
          have i1 : (k : Int) < (ps.length : Int) := by omega
          clear c0 c1 c2 hr
          by_cases h2 : co = n
          · subst h2
            by_cases h1 : ki = 1
            · subst h1
              have HM := Lib.hid (show (ps.take (k + 1)).countP (fun p => decide (p.2.coil = (n : Int)) && decide (p.2.kind = 1)) = m + 1 by rw [HT.out]; simp)
              go_wp2
              exact ⟨⟨k + 1, by omega, by go_num, by rw [HM.out]; go_num, by first | rfl | trivial⟩, by simp [intOf]; omega⟩
            · have e1 : (ki == 1) = false := by simpa using h1
              have HM := Lib.hid (show (ps.take (k + 1)).countP (fun p => decide (p.2.coil = (n : Int)) && decide (p.2.kind = 1)) = m by rw [HT.out]; simp [h1])
              clear h1
              go_wp2
              exact ⟨⟨k + 1, by omega, by go_num, by rw [HM.out], by first | rfl | trivial⟩, by simp [intOf]; omega⟩
          · have e2 : (co == (n : Int)) = false := by simpa using h2
            have HM := Lib.hid (show (ps.take (k + 1)).countP (fun p => decide (p.2.coil = (n : Int)) && decide (p.2.kind = 1)) = m by rw [HT.out]; simp [h2])
            clear h2
            go_wp2
            exact ⟨⟨k + 1, by omega, by go_num, by rw [HM.out], by first | rfl | trivial⟩, by simp [intOf]; omega⟩
        · obtain rfl : k = ps.length := by omega
          rw [List.take_length]
          have hcl : ps.countP (fun p => decide (p.2.coil = (n : Int)) && decide (p.2.kind = 1)) ≤ ps.length := List.countP_le_length
          generalize ps.countP (fun p => decide (p.2.coil = (n : Int)) && decide (p.2.kind = 1)) = m at *
          by_cases hm : 1 < m
          · have hm' : (1 : Int) < (m : Int) := by omega
            have HS1 := Lib.hid (show doubleTo (lads ps) (n + 1) = doubleTo (lads ps) n ++ [(n : Int)] by rw [hS.out, if_pos hm])
            clear hS hm
            go_wp2_with (at_builtin; refine wpl_append rfl _ _ 36 rfl elI rfl (hown'.alloc _) rfl (Rd.new1 _ _ _) ?_ ?_ ?_ ?_ ?_)
            · first | rfl | (intro u hu; simp at hu; subst hu; rfl)
            · omega
            · omega
            · first | omega | (simp; omega)
            intro v' w1 hown1 hg1 _
            have R : OwnI w1 w.heap.size v' (doubleTo (lads ps) (n + 1)) := by
              unfold OwnI; rw [HS1.out]
              have h := hown1
              rw [HQ.out] at h
              simpa using h
            have hb1 : Below w.heap.size w w1 := (hbr.alloc hsz _).grown hg1 (by simp; omega) (fun j hj => (hown'.lt j hj).1)
            clear hown1 hg1 hown' hbr
            go_wp2
            exact ⟨⟨n + 1, by omega, by go_num, R, hb1⟩, by simp [intOf]; omega⟩
          · have hm' : ¬ (1 : Int) < (m : Int) := by omega
            have R : ∀ W, OwnI W w.heap.size (.slice SA (doubleTo (lads ps) n).length sc) (doubleTo (lads ps) n) → OwnI W w.heap.size (.slice SA q sc) (doubleTo (lads ps) (n + 1)) := fun W h => by
              rw [hS.out, if_neg hm, HQ.out]
              exact h
            have HR := Lib.hid (R _ HO.out)
            clear R hm hown' hS
            go_wp2
            exact ⟨⟨n + 1, by omega, by go_num, HR.out, hbr⟩, by simp [intOf]; omega⟩
    · go_wp2
      go_ret
      obtain rfl : n = 16 := by omega
      exact ⟨_, rfl, hown, hbr⟩
end Go.Proofs.Ytlpoeijjlkdceaa
