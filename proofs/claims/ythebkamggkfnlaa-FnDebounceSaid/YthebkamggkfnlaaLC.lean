/- Chapter 4: the filter of a signal, in the program and in the specification. -/
import Derived.Test.YthebkamggkfnlaaLB
import Derived.Test.YthebkamggkfnlaaR
namespace Go.Proofs.Ythebkamggkfnlaa
open Go.RowKit
attribute [local go_sem ↓] Go.wp_at_zero Go.wp_at_succ

theorem blk2d {w : World} {k t : Nat} {x y : Value} (h : w.heap[k]? = some (.cells #[x, y] t (0, 0))) :
    (w.cell? ⟨k, 0, none⟩ = some x ∧ w.cell? ⟨k, 1, none⟩ = some y) ∧ w.frozen? ⟨k, 0, none⟩ = false ∧ w.frozen? ⟨k, 1, none⟩ = false :=
  ⟨⟨blk_cell h 0, blk_cell h 1⟩, blk_frozen h 0, blk_frozen h 1⟩
theorem dstep_any (o : Bool) (d : Nat) (x : Bool) (h : Int) (w : World) (hd : d ≤ 100) (hh : h ≤ 20) :
    Calls Try.prog 43 #[.agg #[.bool o, .int .i64 d], .bool x, .int .i64 h] w fun e w' => e = .returned (.agg #[.bool (debStep h (o, d) x).1, .int .i64 ((debStep h (o, d) x).2 : Nat)]) ∧ Below w.heap.size w w' := by
  have B0 : ∀ a b : Obj, Below w.heap.size w ((w.alloc a).alloc b) := fun a b => ((Below.refl _ _).alloc (Nat.le_refl _) _).alloc (by simp) _
  by_cases hx : x = o
  · obtain ⟨r, hr⟩ : ∃ r, r = debStep h (o, d) x := ⟨_, rfl⟩
    have e1 : r = (o, 0) := by rw [hr]; unfold debStep; rw [if_pos hx]
    rw [← hr, e1]
    subst hx
    clear hr e1
    go_enter Try.func43, Try.ntmps43
    go_wp2
    refine bodyPost_ret (v := .agg #[.bool x, .int .i64 0]) (by simp [results, Try.results43, go_sem, *]) rfl ⟨rfl, B0 _ _⟩
  · have hq : (x == o) = false := by cases x <;> cases o <;> simp at hx ⊢
    by_cases h1 : (d : Int) + 1 < h
    · obtain ⟨r, hr⟩ : ∃ r, r = debStep h (o, d) x := ⟨_, rfl⟩
      have e1 : r = (o, d + 1) := by rw [hr]; unfold debStep; rw [if_neg hx, if_pos h1]
      rw [← hr, e1]
      clear hr e1
      go_enter Try.func43, Try.ntmps43
      go_wp2
      refine bodyPost_ret (v := .agg #[.bool o, .int .i64 ((d : Int) + 1)]) (by simp [results, Try.results43, go_sem, *]) rfl ⟨rfl, B0 _ _⟩
    · obtain ⟨r, hr⟩ : ∃ r, r = debStep h (o, d) x := ⟨_, rfl⟩
      have e1 : r = (x, 0) := by rw [hr]; unfold debStep; rw [if_neg hx, if_neg h1]
      rw [← hr, e1]
      clear hr e1
      go_enter Try.func43, Try.ntmps43
      go_wp2
      refine bodyPost_ret (v := .agg #[.bool x, .int .i64 0]) (by simp [results, Try.results43, go_sem, *]) rfl ⟨rfl, B0 _ _⟩
/-- Both cells of a block written. -/
theorem two_set {w : World} {k t : Nat} {x y u u' : Value} (h : w.heap[k]? = some (.cells #[x, y] t (0, 0))) : ((w.setCell ⟨k, 0, none⟩ u).setCell ⟨k, 1, none⟩ u').heap[k]? = some (.cells #[u, u'] t (0, 0)) := by
  have h1 := heap_setCell_same w k 0 _ _ u h
  exact heap_setCell_same _ k 1 _ _ u' h1
set_option maxHeartbeats 1000000 in
theorem iDebounce_any (f : Bool) (v : Value) (l : List Bool) (h : Int) (w : World) (hv : BoolsR w w.heap.size v l) :
    Calls Try.prog 29 #[.bool f, v, .int .i64 h] w (OwnBP (debL f l h) w) := by
  obtain ⟨A, c, rfl, hr, hl⟩ := hv
  by_cases h2 : 200 < l.length
  · have HE := Lib.hid (show debL f l h = [] by unfold debL; rw [if_pos (.inl h2)])
    go_enter Try.func29, Try.ntmps29
    go_wp2
    go_ret
    refine ⟨_, rfl, ?_, Below.refl _ _⟩
    rw [HE.out]; exact World.ownsRow_nil _ _ _ _
  by_cases h3 : h < 1
  · have HE := Lib.hid (show debL f l h = [] by unfold debL; rw [if_pos (.inr (.inl h3))])
    go_enter Try.func29, Try.ntmps29
    go_wp2
    go_ret
    refine ⟨_, rfl, ?_, Below.refl _ _⟩
    rw [HE.out]; exact World.ownsRow_nil _ _ _ _
  by_cases h4 : 20 < h
  · have HE := Lib.hid (show debL f l h = [] by unfold debL; rw [if_pos (.inr (.inr h4))])
    go_enter Try.func29, Try.ntmps29
    go_wp2
    go_ret
    refine ⟨_, rfl, ?_, Below.refl _ _⟩
    rw [HE.out]; exact World.ownsRow_nil _ _ _ _
  have HE := Lib.hid (show debL f l h = debTo f h l l.length by unfold debL; rw [if_neg (by omega)])
  have HLT := Lib.hid (fun k => debAt_lt f h l (by omega) k)
  go_enter Try.func29, Try.ntmps29
  go_wp2_with (at_make; refine wpl_make rfl _ _ 30 rfl elB l.length rfl rfl (by omega) (by omega) ?_)
  intro w1 hown hb1
  rw [toList_madeCells_one] at hown
  have hs1 := (hown.lt _ rfl).2
  have hown2 := World.ownsRow.alloc hown (.cells #[.bool f, .int .i64 0] 62)
  have hb2 := hb1.alloc hb1.size (.cells #[.bool f, .int .i64 0] 62)
  have hD2 := heap_alloc_new w1 (.cells #[.bool f, .int .i64 0] 62)
  clear hown hb1
  go_wp2_with fail
  go_loopw [29] (fun i wr => ∃ k : Nat, k ≤ l.length ∧ i = .int .i64 k ∧ wr.heap[w1.heap.size]? = some (.cells #[.bool (debAt f h l k).1, .int .i64 ((debAt f h l k).2 : Nat)] 62 (0, 0)) ∧ wr.ownsRow w.heap.size 4 1 (.slice (some ⟨w.heap.size, 0, none⟩) l.length l.length) l.length ((List.range k).map (fun i => Value.bool (debAt f h l (i + 1)).1) ++ (List.replicate l.length (Value.bool false)).drop k) ∧ Below w.heap.size w wr) (fun i _ => l.length - (intOf i).toNat)
  case atStart => exact ⟨0, by omega, rfl, hD2, by simpa using hown2, hb2⟩
  case round =>
    obtain ⟨k, hk, rfl, hD, hown', hbr⟩ := hrel
    clear hown2 hb2 hD2
    by_cases hlt : k < l.length
    · obtain ⟨p, rfl, hpb, hc⟩ := cell_bool hr hlt
      have g1 := (hbr.cell (p := p.add k) (by rw [add_block]; exact hpb)).trans hc
      have hlk := HLT.out k
      have HS := Lib.hid (debAt_succ f h l k hlt)
      obtain ⟨s, hs⟩ : ∃ s, s = debAt f h l k := ⟨_, rfl⟩
      rw [← hs] at hD hlk HS
      clear hs
      obtain ⟨o, d⟩ := s
      simp only at hD hlk
      obtain ⟨⟨c0, c1⟩, z0, z1⟩ := blk2d hD
      have hDs := blk_lt hD
      have hz := hbr.size
      have i1 : (k : Int) < (l.length : Int) := by omega
      have HO := Lib.hid hown'
      clear hown' hc
      go_wp2_with fail
      refine (dstep_any o d l[k] h _ (by omega) (by omega)).mono ?_
      rintro e w2 ⟨rfl, hb2⟩
      rw [← HS.out]
      have hD2 := (hb2.block _ hDs).trans hD
      have hown2 := own_below HO.out hb2
      have hb3 := hbr.trans (hb2.mono hz)
      clear hb2 c0 c1 z0 z1 hD HO hbr g1
      obtain ⟨⟨c0, c1⟩, z0, z1⟩ := blk2d hD2
      have hDs2 := blk_lt hD2
      have hown3 := own_setCell (p := ⟨w1.heap.size, 1, none⟩) (own_setCell (p := ⟨w1.heap.size, 0, none⟩) hown2 hD2 (by decide) (.bool (debAt f h l (k + 1)).1)) (heap_setCell_same w2 w1.heap.size 0 _ _ (.bool (debAt f h l (k + 1)).1) hD2) (by decide) (.int .i64 ((debAt f h l (k + 1)).2 : Nat))
      have hD3 := two_set (u := .bool (debAt f h l (k + 1)).1) (u' := .int .i64 ((debAt f h l (k + 1)).2 : Nat)) hD2
      have hb4 := (hb3.setCell (p := ⟨w1.heap.size, 0, none⟩) (by show w.heap.size ≤ w1.heap.size; omega) (.bool (debAt f h l (k + 1)).1)).setCell (p := ⟨w1.heap.size, 1, none⟩) (by show w.heap.size ≤ w1.heap.size; omega) (.int .i64 ((debAt f h l (k + 1)).2 : Nat))
      have hst := hown3.stored k (Value.bool (debAt f h l (k + 1)).1)
      rw [mark_step (fun i => Value.bool (debAt f h l (i + 1)).1) _ k (by simpa using hlt)] at hst
      have hc' := hown3.cellAt k (by omega)
      have hzz := hown3.frozenAt k
      obtain ⟨y, hy⟩ : ∃ y, ((List.range k).map (fun i => Value.bool (debAt f h l (i + 1)).1) ++ (List.replicate l.length (Value.bool false)).drop k)[k]? = some y := ⟨_, List.getElem?_eq_getElem (by simp; omega)⟩
      rw [hy] at hc'
      have hD4 := (Below.heap_setCell _ ⟨w.heap.size, k, none⟩ (Value.bool (debAt f h l (k + 1)).1) w1.heap.size (by show w1.heap.size ≠ w.heap.size; omega)).trans hD3
      have H := Lib.hid hst
      have HB := Lib.hid hb4
      have HD := Lib.hid hD4
      obtain ⟨⟨e0, e1⟩, -, -⟩ := blk2d hD3
      clear hst hy hown2 hown3 hb3 hb4 hD2 hD3 hD4
      go_wp2
      go_roundw
      case rel => exact ⟨k + 1, by omega, by go_num, HD.out, H.out.1, HB.out.setCell (by simp) _⟩
      case measure => simp [intOf]; omega
    · go_wp2
      go_ret
      obtain rfl : k = l.length := by omega
      refine ⟨_, rfl, ?_, hbr⟩
      rw [HE.out]
      unfold OwnB debTo
      rw [List.length_map, List.length_range, List.map_map]
      simpa [Function.comp_def] using hown'
set_option maxHeartbeats 1000000 in
theorem sDebounce_any (f : Bool) (v : Value) (l : List Bool) (h : Int) (w : World) (hv : BoolsR w w.heap.size v l) :
    Calls Try.prog 30 #[.bool f, v, .int .i64 h] w (OwnBP (debL f l h) w) := by
  obtain ⟨A, c, rfl, hr, hl⟩ := hv
  have hO0 := own_lit0 (W := w) (e := 4) (sz := 1) (base := w.heap.size) rfl (Nat.le_refl _)
  have hb0 : Below w.heap.size w (w.alloc (.cells #[] 4)) := (Below.refl _ _).alloc (Nat.le_refl _) _
  by_cases h2 : 200 < l.length
  · have HE := Lib.hid (show debL f l h = [] by unfold debL; rw [if_pos (.inl h2)])
    go_enter Try.func30, Try.ntmps30
    go_wp2
    go_ret
    refine ⟨_, rfl, ?_, hb0⟩
    rw [HE.out]; exact hO0
  cases hin : inB h 1 20
  · have HE := Lib.hid (show debL f l h = [] by unfold debL; rw [if_pos]; unfold inB at hin; simp at hin; omega)
    go_enter Try.func30, Try.ntmps30
    go_wp2_with fail
    refine (l1In_any h 1 20 _).mono ?_
    rw [hin]
    rintro e w1 ⟨rfl, rfl⟩
    go_wp2
    go_ret
    refine ⟨_, rfl, ?_, hb0⟩
    rw [HE.out]; exact hO0
  have hh : 1 ≤ h ∧ h ≤ 20 := by unfold inB at hin; simp at hin; exact hin
  have HE := Lib.hid (show debL f l h = debTo f h l l.length by unfold debL; rw [if_neg (by omega)])
  have HLT := Lib.hid (fun k => debAt_lt f h l (by omega) k)
  go_enter Try.func30, Try.ntmps30
  go_wp2_with fail
  refine (l1In_any h 1 20 _).mono ?_
  rw [hin]
  rintro e w1 ⟨rfl, rfl⟩
  have q0 : ((0 : Int) == h) = false := by rw [beq_eq_false_iff_ne]; omega
  clear hin
  go_wp2_with fail
  go_loopw [7, 8, 9, 10] (fun v b m i wr => ∃ (k : Nat) (E : List Bool), k ≤ l.length ∧ i = .int .i64 k ∧ b = .bool (debAt f h l k).1 ∧ m = .int .i64 ((debAt f h l k).2 : Nat) ∧ E.length = k ∧ E = debTo f h l k ∧ OwnB wr w.heap.size v E ∧ Below w.heap.size w wr) (fun _ _ _ i _ => l.length - (intOf i).toNat)
  case atStart => exact ⟨0, [], by omega, rfl, rfl, rfl, rfl, rfl, hO0, hb0⟩
  case round =>
    obtain ⟨k, E, hk, rfl, rfl, rfl, hEl, hE, hO, hbr⟩ := hrel
    have HEl := Lib.hid hEl
    have HEE := Lib.hid hE
    have hsz := hbr.size
    clear hO0 hb0 hEl hE
    obtain ⟨A1, c1, rfl, -, -⟩ := own_form hO
    by_cases hlt : k < l.length
    · obtain ⟨p, rfl, hpb, hc⟩ := cell_bool hr hlt
      have g1 := (hbr.cell (p := p.add k) (by rw [add_block]; exact hpb)).trans hc
      have hlk := HLT.out k
      have HS := Lib.hid (debAt_succ f h l k hlt)
      have HT := Lib.hid (debTo_succ f h l k)
      obtain ⟨s, hs⟩ : ∃ s, s = debAt f h l k := ⟨_, rfl⟩
      rw [← hs] at hlk HS ⊢
      clear hs
      obtain ⟨o, d⟩ := s
      simp only at hlk ⊢
      have i1 : (k : Int) < (l.length : Int) := by omega
      obtain ⟨x, hx⟩ : ∃ x, x = l[k] := ⟨_, rfl⟩
      rw [← hx] at g1 HS
      clear hc hx
      have done : ∀ (o' : Bool) (d' : Nat) (v' : Value) (w3 : World), debStep h (o, d) x = (o', d') → w3.ownsRow w.heap.size 4 1 v' (E.length + 1) (E.map .bool ++ [.bool o']) →
          (debAt f h l (k + 1)).1 = o' ∧ (debAt f h l (k + 1)).2 = d' ∧ (E ++ [o']).length = k + 1 ∧ E ++ [o'] = debTo f h l (k + 1) ∧ OwnB w3 w.heap.size v' (E ++ [o']) := by
        intro o' d' v' w3 h1 h2
        have e1 := HS.out
        rw [h1] at e1
        refine ⟨by rw [e1], by rw [e1], by simp [HEl.out], by rw [HT.out, e1, HEE.out], ?_⟩
        unfold OwnB; simpa using h2
      have DN := Lib.hid done
      clear done
      by_cases hxo : x = o
      · have hS := Lib.hid (show debStep h (o, d) x = (o, 0) by unfold debStep; rw [if_pos hxo])
        have hq : (x == o) = true := by simp [hxo]
        clear hxo hlk
        go_wp2_with (at_builtin; refine wpl_append rfl _ _ 30 rfl elB rfl (World.ownsRow.alloc hO _) rfl (Rd.new1 _ _ _) ?c1 ?c2 ?c3 ?c4 ?_)
        case c1 => first | rfl | (simp; rfl)
        case c2 => have := HEl.out; omega
        case c3 => have := HEl.out; omega
        case c4 => first | omega | (simp; omega)
        intro v' w3 hO3 hg3 _
        have R := Lib.hid (DN.out o 0 v' w3 hS.out hO3)
        have hb3 : Below w.heap.size w w3 := (hbr.alloc hsz _).grown hg3 (by simp; omega) (fun j hj => (hO.lt j hj).1)
        clear hO3 hg3 hO hbr g1
        go_wp2
        go_roundw
        case rel => exact ⟨k + 1, _, by omega, by go_num, by rw [R.out.1], by rw [R.out.2.1]; rfl, R.out.2.2.1, R.out.2.2.2.1, R.out.2.2.2.2, hb3⟩
        case measure => simp [intOf]; omega
      · have hq : (x == o) = false := by cases x <;> cases o <;> simp at hxo ⊢
        by_cases hd : (d : Int) + 1 < h
        · have hS := Lib.hid (show debStep h (o, d) x = (o, d + 1) by unfold debStep; rw [if_neg hxo, if_pos hd])
          have q1 : (((d : Int) + 1) == h) = false := by rw [beq_eq_false_iff_ne]; omega
          clear hxo
          go_wp2_with (at_builtin; refine wpl_append rfl _ _ 30 rfl elB rfl (World.ownsRow.alloc hO _) rfl (Rd.new1 _ _ _) ?c1 ?c2 ?c3 ?c4 ?_)
          case c1 => first | rfl | (simp; rfl)
          case c2 => have := HEl.out; omega
          case c3 => have := HEl.out; omega
          case c4 => first | omega | (simp; omega)
          intro v' w3 hO3 hg3 _
          have R := Lib.hid (DN.out o (d + 1) v' w3 hS.out hO3)
          have hb3 : Below w.heap.size w w3 := (hbr.alloc hsz _).grown hg3 (by simp; omega) (fun j hj => (hO.lt j hj).1)
          clear hO3 hg3 hO hbr g1
          go_wp2
          go_roundw
          case rel => exact ⟨k + 1, _, by omega, by go_num, by rw [R.out.1], by rw [R.out.2.1]; rfl, R.out.2.2.1, R.out.2.2.2.1, R.out.2.2.2.2, hb3⟩
          case measure => simp [intOf]; omega
        · have hS := Lib.hid (show debStep h (o, d) x = (x, 0) by unfold debStep; rw [if_neg hxo, if_neg hd])
          have q1 : (((d : Int) + 1) == h) = true := by rw [beq_iff_eq]; omega
          clear hxo
          go_wp2_with (at_builtin; refine wpl_append rfl _ _ 30 rfl elB rfl (World.ownsRow.alloc hO _) rfl (Rd.new1 _ _ _) ?c1 ?c2 ?c3 ?c4 ?_)
          case c1 => first | rfl | (simp; rfl)
          case c2 => have := HEl.out; omega
          case c3 => have := HEl.out; omega
          case c4 => first | omega | (simp; omega)
          intro v' w3 hO3 hg3 _
          have R := Lib.hid (DN.out x 0 v' w3 hS.out hO3)
          have hb3 : Below w.heap.size w w3 := (hbr.alloc hsz _).grown hg3 (by simp; omega) (fun j hj => (hO.lt j hj).1)
          clear hO3 hg3 hO hbr g1
          go_wp2
          go_roundw
          case rel => exact ⟨k + 1, _, by omega, by go_num, by rw [R.out.1], by rw [R.out.2.1]; rfl, R.out.2.2.1, R.out.2.2.2.1, R.out.2.2.2.2, hb3⟩
          case measure => simp [intOf]; omega
    · go_wp2
      go_ret
      obtain rfl : k = l.length := by omega
      refine ⟨_, rfl, ?_, hbr⟩
      rw [HE.out, ← HEE.out]
      exact hO
end Go.Proofs.Ythebkamggkfnlaa
