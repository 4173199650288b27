/- Chapter 4: edge traces and filters of signals, in the program and in the specification. -/
import Derived.Test.YtldlfailmmmdmaaLA
import Derived.Test.YtldlfailmmmdmaaE
import Derived.Test.YtldlfailmmmdmaaEA
import Derived.Test.YtldlfailmmmdmaaIq
namespace Go.Proofs.Ytldlfailmmmdmaa
open Go.RowKit
attribute [local go_sem ↓] Go.wp_at_zero Go.wp_at_succ

theorem cell_bool {w : World} {B : Nat} {A : Option Addr} {l : List Bool} (h : Rd w B 1 A l.length (l.map .bool)) {k : Nat} (hk : k < l.length) : ∃ p, A = some p ∧ p.block < B ∧ w.cell? (p.add k) = some (.bool l[k]) := by
  obtain ⟨p, u, rfl, hpb, hu, hc⟩ := h.one hk
  have hx : u = Value.bool l[k] := by rw [List.getElem?_map, List.getElem?_eq_getElem hk] at hu; simpa using hu.symm
  subst hx
  exact ⟨p, rfl, hpb, hc⟩
set_option maxHeartbeats 400000 in
theorem iEdgeTrace_any (f : Bool) (v : Value) (l : List Bool) (w : World) (h : BoolsR w w.heap.size v l) :
    Calls Try.prog 30 #[.bool f, v] w (OwnBP (edgesL f l) w) := by
  obtain ⟨A, c, rfl, hr, hl⟩ := h
  by_cases h2 : 200 < l.length
  · have HE := Lib.hid (show edgesL f l = [] by unfold edgesL; rw [if_pos h2])
    go_enter Try.func30, Try.ntmps30
    go_wp2
    go_ret
    refine ⟨_, rfl, ?_, Below.refl _ _⟩
    rw [HE.out]; exact World.ownsRow_nil _ _ _ _
  · have HE := Lib.hid (show edgesL f l = edgesTo f l l.length by unfold edgesL; rw [if_neg h2])
    go_enter Try.func30, Try.ntmps30
    go_wp2_with (at_make; refine wpl_make rfl _ _ 33 rfl elB l.length rfl rfl ?c1 ?c2 ?_)
    case c1 => omega
    case c2 => omega
    intro w1 hown hb1
    rw [toList_madeCells_one] at hown
    have hs1 := hb1.size
    go_wp2
    go_loopw [6, 18] (fun b i wr => ∃ k : Nat, k ≤ l.length ∧ i = .int .i64 k ∧ b = .bool (befAt f l k) ∧ wr.ownsRow w.heap.size 4 1 (.slice (some ⟨w.heap.size, 0, none⟩) l.length l.length) l.length ((List.range k).map (fun i => Value.bool (edgeAt f l i)) ++ (List.replicate l.length (Value.bool false)).drop k) ∧ Below w.heap.size w wr) (fun _ i _ => l.length - (intOf i).toNat)
    case atStart => exact ⟨0, by omega, rfl, rfl, by simpa using hown, hb1⟩
    case round =>
      obtain ⟨k, hk, rfl, rfl, hown', hbr⟩ := hrel
      clear hown hb1 hs1
      by_cases hlt : k < l.length
      · obtain ⟨p, rfl, hpb, hc⟩ := cell_bool hr hlt
        have g1 := (hbr.cell (p := p.add k) (by rw [add_block]; exact hpb)).trans hc
        have hst := hown'.stored k (Value.bool (edgeAt f l k))
        rw [mark_step (fun i => Value.bool (edgeAt f l i)) _ k (by simpa using hlt)] at hst
        have hc' := hown'.cellAt k (by omega)
        have hz := hown'.frozenAt k
        obtain ⟨y, hy⟩ : ∃ y, ((List.range k).map (fun i => Value.bool (edgeAt f l i)) ++ (List.replicate l.length (Value.bool false)).drop k)[k]? = some y := ⟨_, List.getElem?_eq_getElem (by simp; omega)⟩
        rw [hy] at hc'
        have e1 : edgeAt f l k = riseB (befAt f l k) l[k] := by unfold edgeAt; simp [List.getD, List.getElem?_eq_getElem hlt]
        rw [e1] at hst
        have H := Lib.hid hst
        have HB := Lib.hid (befAt_succ f l k hlt)
        have i1 : (k : Int) < (l.length : Int) := by omega
        clear hst hy hown' hc e1
        go_wp2_with fail
        refine (iRisingEdge_any (befAt f l k) l[k] _).mono ?_
        rintro e w2 ⟨rfl, rfl⟩
        go_wp2
        go_roundw
        case rel => exact ⟨k + 1, by omega, by go_num, by rw [HB.out], H.out.1, hbr.setCell (by simp) _⟩
        case measure => simp [intOf]; omega
      · go_wp2
        go_ret
        obtain rfl : k = l.length := by omega
        refine ⟨_, rfl, ?_, hbr⟩
        rw [HE.out]
        unfold OwnB edgesTo
        rw [List.length_map, List.length_range, List.map_map]
        simpa [Function.comp_def] using hown'
end Go.Proofs.Ytldlfailmmmdmaa
