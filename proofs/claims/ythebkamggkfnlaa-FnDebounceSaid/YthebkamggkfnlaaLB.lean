/- Chapter 4: edge traces and filters of signals, in the program and in the specification. -/
import Derived.Test.YthebkamggkfnlaaLA
import Derived.Test.YthebkamggkfnlaaF
import Derived.Test.YthebkamggkfnlaaEB
import Derived.Test.YthebkamggkfnlaaIq
namespace Go.Proofs.Ythebkamggkfnlaa
open Go.RowKit
attribute [local go_sem ↓] Go.wp_at_zero Go.wp_at_succ

theorem cell_bool {w : World} {B : Nat} {A : Option Addr} {l : List Bool} (h : Rd w B 1 A l.length (l.map .bool)) {k : Nat} (hk : k < l.length) : ∃ p, A = some p ∧ p.block < B ∧ w.cell? (p.add k) = some (.bool l[k]) := by
  obtain ⟨p, u, rfl, hpb, hu, hc⟩ := h.one hk
  have hx : u = Value.bool l[k] := by rw [List.getElem?_map, List.getElem?_eq_getElem hk] at hu; simpa using hu.symm
  subst hx
  exact ⟨p, rfl, hpb, hc⟩
set_option maxHeartbeats 400000 in
theorem iEdgeTrace_any (f : Bool) (v : Value) (l : List Bool) (w : World) (h : BoolsR w w.heap.size v l) :
    Calls Try.prog 24 #[.bool f, v] w (OwnBP (edgesL f l) w) := by
  obtain ⟨A, c, rfl, hr, hl⟩ := h
  by_cases h2 : 200 < l.length
  · have HE := Lib.hid (show edgesL f l = [] by unfold edgesL; rw [if_pos h2])
    go_enter Try.func24, Try.ntmps24
    go_wp2
    go_ret
    refine ⟨_, rfl, ?_, Below.refl _ _⟩
    rw [HE.out]; exact World.ownsRow_nil _ _ _ _
  · have HE := Lib.hid (show edgesL f l = edgesTo f l l.length by unfold edgesL; rw [if_neg h2])
    go_enter Try.func24, Try.ntmps24
    go_wp2_with (at_make; refine wpl_make rfl _ _ 30 rfl elB l.length rfl rfl ?c1 ?c2 ?_)
    case c1 => omega
    case c2 => omega
    intro w1 hown hb1
    rw [toList_madeCells_one] at hown
    have hs1 := hb1.size
    go_wp2
    go_loopw [6, 18] (fun b i wr => ∃ k : Nat, k ≤ l.length ∧ i = .int .i64 k ∧ b = .bool (befAt f l k) ∧ wr.ownsRow w.heap.size 4 1 (.slice (some ⟨w.heap.size, 0, none⟩) l.length l.length) l.length ((List.range k).map (fun i => Value.bool (edgeAt f l i)) ++ (List.replicate l.length (Value.bool false)).drop k) ∧ Below w.heap.size w wr) (fun _ i _ => l.length - (intOf i).toNat)
    case atStart => exact ⟨0, by omega, rfl, rfl, by simpa using hown, hb1⟩
    case round =>
      obtain ⟨k, hk, rfl, rfl, hown', hbr⟩ := hrel
      clear hown hb1 hs1
      by_cases hlt : k < l.length
      · obtain ⟨p, rfl, hpb, hc⟩ := cell_bool hr hlt
        have g1 := (hbr.cell (p := p.add k) (by rw [add_block]; exact hpb)).trans hc
        have hst := hown'.stored k (Value.bool (edgeAt f l k))
        rw [mark_step (fun i => Value.bool (edgeAt f l i)) _ k (by simpa using hlt)] at hst
        have hc' := hown'.cellAt k (by omega)
        have hz := hown'.frozenAt k
        obtain ⟨y, hy⟩ : ∃ y, ((List.range k).map (fun i => Value.bool (edgeAt f l i)) ++ (List.replicate l.length (Value.bool false)).drop k)[k]? = some y := ⟨_, List.getElem?_eq_getElem (by simp; omega)⟩
        rw [hy] at hc'
        have e1 : edgeAt f l k = riseB (befAt f l k) l[k] := by unfold edgeAt; simp [List.getD, List.getElem?_eq_getElem hlt]
        rw [e1] at hst
        have H := Lib.hid hst
        have HB := Lib.hid (befAt_succ f l k hlt)
        have i1 : (k : Int) < (l.length : Int) := by omega
        clear hst hy hown' hc e1
        go_wp2_with fail
        refine (iRisingEdge_any (befAt f l k) l[k] _).mono ?_
        rintro e w2 ⟨rfl, rfl⟩
        go_wp2
        go_roundw
        case rel => exact ⟨k + 1, by omega, by go_num, by rw [HB.out], H.out.1, hbr.setCell (by simp) _⟩
        case measure => simp [intOf]; omega
      · go_wp2
        go_ret
        obtain rfl : k = l.length := by omega
        refine ⟨_, rfl, ?_, hbr⟩
        rw [HE.out]
        unfold OwnB edgesTo
        rw [List.length_map, List.length_range, List.map_map]
        simpa [Function.comp_def] using hown'
set_option maxHeartbeats 400000 in
theorem sEdgeTrace_any (f : Bool) (v : Value) (l : List Bool) (w : World) (h : BoolsR w w.heap.size v l) :
    Calls Try.prog 26 #[.bool f, v] w (OwnBP (edgesL f l) w) := by
  obtain ⟨A, c, rfl, hr, hl⟩ := h
  have hO0 := own_lit0 (W := w) (e := 4) (sz := 1) (base := w.heap.size) rfl (Nat.le_refl _)
  have hb0 : Below w.heap.size w (w.alloc (.cells #[] 4)) := (Below.refl _ _).alloc (Nat.le_refl _) _
  by_cases h2 : 200 < l.length
  · have HE := Lib.hid (show edgesL f l = [] by unfold edgesL; rw [if_pos h2])
    go_enter Try.func26, Try.ntmps26
    go_wp2
    go_ret
    refine ⟨_, rfl, ?_, hb0⟩
    rw [HE.out]; exact hO0
  · have HE := Lib.hid (show edgesL f l = edgesTo f l l.length by unfold edgesL; rw [if_neg h2])
    go_enter Try.func26, Try.ntmps26
    go_wp2_with fail
    go_loopw [5, 6, 7] (fun v b i wr => ∃ (k : Nat) (E : List Bool), k ≤ l.length ∧ i = .int .i64 k ∧ b = .bool (befAt f l k) ∧ E.length = k ∧ E = edgesTo f l k ∧ OwnB wr w.heap.size v E ∧ Below w.heap.size w wr) (fun _ _ i _ => l.length - (intOf i).toNat)
    case atStart => exact ⟨0, [], by omega, rfl, rfl, rfl, rfl, hO0, hb0⟩
    case round =>
      obtain ⟨k, E, hk, rfl, rfl, hEl, hE, hO, hbr⟩ := hrel
      have HEl := Lib.hid hEl
      have HEE := Lib.hid hE
      have hsz := hbr.size
      clear hO0 hb0 hEl hE
      obtain ⟨A1, c1, rfl, -, -⟩ := own_form hO
      by_cases hlt : k < l.length
      · obtain ⟨p, rfl, hpb, hc⟩ := cell_bool hr hlt
        have g1 := (hbr.cell (p := p.add k) (by rw [add_block]; exact hpb)).trans hc
        have HB := Lib.hid (befAt_succ f l k hlt)
        have HS := Lib.hid (edgesTo_succ f l k hlt)
        have i1 : (k : Int) < (l.length : Int) := by omega
        have GC := Lib.hid (fun (W : World) (hb : Below w.heap.size w W) => (hb.cell (p := p.add k) (by rw [add_block]; exact hpb)).trans hc)
        clear hc
        go_wp2_with fail
        refine (sRisingEdge_any (befAt f l k) l[k] _).mono ?_
        rintro e w2 ⟨rfl, rfl⟩
        go_wp2_with (at_builtin; refine wpl_append rfl _ _ 30 rfl elB rfl (World.ownsRow.alloc hO _) rfl (Rd.new1 _ _ _) ?c1 ?c2 ?c3 ?c4 ?_)
        case c1 => simp; rfl
        case c2 => have := HEl.out; omega
        case c3 => have := HEl.out; omega
        case c4 => simp; omega
        intro v' w3 hO3 hg3 _
        have R : OwnB w3 w.heap.size v' (E ++ [riseB (befAt f l k) l[k]]) := by unfold OwnB; simpa using hO3
        have hb3 : Below w.heap.size w w3 := (hbr.alloc hsz _).grown hg3 (by simp; omega) (fun j hj => (hO.lt j hj).1)
        have g3 := GC.out w3 hb3
        clear hO3 hg3 hO hbr g1
        go_wp2
        go_roundw
        case rel => exact ⟨k + 1, _, by omega, by go_num, by rw [HB.out], by simp [HEl.out], by rw [HEE.out, HS.out], R, hb3⟩
        case measure => simp [intOf]; omega
      · go_wp2
        go_ret
        obtain rfl : k = l.length := by omega
        refine ⟨_, rfl, ?_, hbr⟩
        rw [HE.out, ← HEE.out]
        exact hO
end Go.Proofs.Ythebkamggkfnlaa
