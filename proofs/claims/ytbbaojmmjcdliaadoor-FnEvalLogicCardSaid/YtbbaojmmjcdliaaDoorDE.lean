/- Contracts of the draws of EvalLogic, LogicEquivalent and NegateLogic. -/
import Derived.Test.YtbbaojmmjcdliaaDoorDD
import Derived.Test.YtbbaojmmjcdliaaDoorV
namespace Go.Proofs.YtbbaojmmjcdliaaDoor
open Go.RowKit
attribute [local go_sem ↓] Go.wp_at_zero Go.wp_at_succ

theorem Rd.new2N (w : World) (x y : Nd) (t : TypeId) : Rd (w.alloc (.cells #[.int .i64 x.op, .int .i64 x.bit, .int .i64 y.op, .int .i64 y.bit] t)) (w.heap.size + 1) 2 (some ⟨w.heap.size, 0, none⟩) 2 (cellsN [x, y]) := by
  refine ⟨rfl, fun _ => ⟨_, rfl, Nat.lt_succ_self _, fun j v hj => ?_⟩⟩
  match j, hj with
  | 0, hj => simp [cellsN] at hj; subst hj; simp [Addr.add]
  | 1, hj => simp [cellsN] at hj; subst hj; simp [Addr.add]
  | 2, hj => simp [cellsN] at hj; subst hj; simp [Addr.add]
  | 3, hj => simp [cellsN] at hj; subst hj; simp [Addr.add]
theorem OwnS.set_other {w : World} {base : Nat} {v : Value} {l : List Nd} (h : OwnS w base v l) {p : Addr} (hp : p.block < base) (u : Value) : OwnS (w.setCell p u) base v l :=
  h.kept fun k hk => Below.heap_setCell _ _ _ _ (by have := (h.lt k hk).1; omega)
theorem fit_app {l l2 : List Nd} (h : ∀ y ∈ l, ndFit y) (h2 : ∀ y ∈ l2, ndFit y) : ∀ y ∈ l ++ l2, ndFit y := by
  intro y hy
  rcases List.mem_append.1 hy with h' | h'
  · exact h y h'
  · exact h2 y h'
def DrawQP (w : World) (e : Ending) (w' : World) : Prop := ∃ v1 v2 l1 l2 n, e = .returned (.tuple #[v1, v2, .int .i64 n]) ∧ NodesR w' w'.heap.size v1 l1 ∧ NodesR w' w'.heap.size v2 l2 ∧ (l1.length ≤ 50 ∧ l2.length ≤ 50) ∧ (1 ≤ n ∧ n ≤ 3) ∧ Below w.heap.size w w'
def DrawEP (w : World) (e : Ending) (w' : World) : Prop := ∃ v1 v2 m l, e = .returned (.tuple #[v1, v2]) ∧ OwnM w' w.heap.size v1 m ∧ smallM m 17 9 ∧ NodesR w' w'.heap.size v2 l ∧ l.length ≤ 50 ∧ Below w.heap.size w w'
set_option maxHeartbeats 1000000 in
theorem drawNegateLogic_any (v : Value) (l : List Int) (w : World) (h : BytesR w w.heap.size v l) :
    Calls Tryd.prog 26 #[v] w (DrawNN w) := by
  have HO := Lib.hid (l20Open_any v l w h)
  obtain ⟨A, n0, c, rfl⟩ := h.form
  clear h
  go_enter Tryd.func26, Tryd.ntmps26
  go_wp2_with fail
  refine HO.out.mono ?_
  rintro e w1 ⟨rfl, hR1, hb1⟩
  have hF1 : Fr w.heap.size w.heap.size w w1 := Fr.of_below _ hb1
  have hs1 := hR1.lt
  clear HO hb1
  go_wp2_with fail
  refine (pick_any _ 0 6 _ hR1 (by omega) (by omega)).mono ?_
  rintro e w2 ⟨r2, rfl, hr2, hR2, hF2⟩
  replace hF2 := hF1.trans (hF2.mono hF1.size)
  clear hR1 hF1
  go_wp2_with fail
  refine (expr_z _ 1 _ 9 _ hR2 (by omega) (by omega) (by omega) (by omega) (by omega)).mono ?_
  rintro e w3 ⟨V, L, rfl, hO, hL, hsm, hR3, hF3⟩
  replace hO := hO.mono (b' := w.heap.size + 1) (by have := hR2.lt; omega)
  replace hF3 := hF2.trans (hF3.mono hF2.size)
  clear hR2 hF2

  go_wp2_with fail
  refine (odd_any _ 51 12 _ hR3 (by omega) (by omega) (by omega)).mono ?_
  rintro e w4 ⟨b, rfl, hb, hR4, hF4⟩
  replace hO := hF4.ownS hO (by omega)
  replace hF4 := hF3.trans (hF4.mono hF3.size)
  clear hR3 hF3 hb
  obtain ⟨B, off, cap, rfl, ⟨hB1, hB2⟩, hcap, -⟩ := hO.form
  cases b
  · go_wp2
    go_ret
    exact ⟨_, L, rfl, hO.mono (by omega), by omega, hsm, hF4.below (Nat.le_refl _)⟩
  · by_cases h24 : L.length < 24
    · clear hR4
      have e24 : decide ((L.length : Int) < 24) = true := by simp; omega
      go_wp2_with fail
      go_loopw [4] (fun v wr => ∃ l' : List Nd, OwnS wr (w.heap.size + 1) v l' ∧ l'.length ≤ 23 ∧ (∀ x ∈ l', smN x) ∧ Fr w.heap.size w.heap.size w wr) (fun v _ => 23 - slLen v)
      case atStart => exact ⟨L, hO, by omega, hsm, hF4⟩
      case round =>
        obtain ⟨l', hO', hl', hs', hF⟩ := hrel
        clear hF4 hO hB1 hB2 hcap hsm hL h24 e24
        have hsF := hF.size
        obtain ⟨B', off', cap', rfl, ⟨hB1', hB2'⟩, hcap', -⟩ := hO'.form
        have hlt := hO'.lt
        by_cases h23 : l'.length < 23
        · go_wp2_with (at_builtin; refine wpl_appendS rfl _ _ 27 rfl elN (l2 := [⟨2, 0⟩]) rfl (hO'.alloc _) rfl rfl (Rd.newN _ ⟨2, 0⟩ _) (by omega) (by omega) ?_ ?_)
          · simp; omega
          intro v7 w7 hO7 hg7
          have hF7 := (hF.alloc hsF _).grown hg7 (by simp; omega) (fun j hj => .inl (by have := (hlt j hj).1; omega))
          obtain ⟨B7, off7, cap7, rfl, -, -, -⟩ := hO7.form
          go_wp2
          go_roundw
          case rel => exact ⟨l' ++ [⟨2, 0⟩], hO7, by rw [List.length_append]; simp; omega, sm_add hs' (by unfold smN; simp), hF7⟩
          case measure => simp [slLen]; omega
        · go_wp2_with (at_builtin; refine wpl_appendS rfl _ _ 27 rfl elN (l2 := [⟨6, 0⟩, ⟨3, 0⟩]) rfl (hO'.alloc _) rfl rfl (Rd.new2N _ ⟨6, 0⟩ ⟨3, 0⟩ _) (by omega) (by omega) ?_ ?_)
          · simp; omega
          intro v7 w7 hO7 hg7
          have hF7 := (hF.alloc hsF _).grown hg7 (by simp; omega) (fun j hj => .inl (by have := (hlt j hj).1; omega))
          obtain ⟨L7, hL7⟩ : ∃ l7, l7 = l' ++ [(⟨6, 0⟩ : Nd), ⟨3, 0⟩] := ⟨_, rfl⟩
          rw [← hL7] at hO7
          have hlen7 : L7.length = 25 := by rw [hL7, List.length_append]; simp; omega
          have hs7 : ∀ x ∈ L7, smN x := by rw [hL7]; exact smN_app hs' (by intro x hx; simp at hx; rcases hx with rfl | rfl <;> simp [smN])
          obtain ⟨B7, off7, cap7, rfl, -, hcap7, -⟩ := hO7.form
          have hD := hO7.drop 2 (by omega)
          rw [if_neg (by omega), hlen7] at hD
          rw [hlen7]
          have hsD : ∀ x ∈ L7.drop 2, smN x := fun x hx => hs7 x (List.mem_of_mem_drop hx)
          have hlD : (L7.drop 2).length = 23 := by simp; omega
          rw [hlen7] at hcap7
          clear hL7 hO7
          go_wp2
          go_ret
          exact ⟨_, L7.drop 2, rfl, hD.mono (by omega), by omega, hsD, hF7.below (Nat.le_refl _)⟩
    · go_wp2
      go_ret
      exact ⟨_, L, rfl, hO.mono (by omega), by omega, hsm, hF4.below (Nat.le_refl _)⟩
set_option maxHeartbeats 1000000 in
theorem drawLogicEquivalent_any (v : Value) (l : List Int) (w : World) (h : BytesR w w.heap.size v l) :
    Calls Tryd.prog 23 #[v] w (DrawQP w) := by
  have HO := Lib.hid (l20Open_any v l w h)
  obtain ⟨A, n0, c, rfl⟩ := h.form
  clear h
  go_enter Tryd.func23, Tryd.ntmps23
  go_wp2_with fail
  refine HO.out.mono ?_
  rintro e w1 ⟨rfl, hR1, hb1⟩
  have hF1 : Fr w.heap.size w.heap.size w w1 := Fr.of_below _ hb1
  have hs1 := hR1.lt
  clear HO hb1
  go_wp2_with fail
  refine (pick_any _ 0 3 _ hR1 (by omega) (by omega)).mono ?_
  rintro e w2 ⟨r2, rfl, hr2, hR2, hF2⟩
  replace hF2 := hF1.trans (hF2.mono hF1.size)
  clear hR1 hF1
  go_wp2_with fail
  refine (expr_z _ 1 _ 14 _ hR2 (by omega) (by omega) (by omega) (by omega) (by omega)).mono ?_
  rintro e w3 ⟨V, L, rfl, hO, hL, hsm, hR3, hF3⟩
  replace hO := hO.mono (b' := w.heap.size + 1) (by have := hR2.lt; omega)
  replace hF3 := hF2.trans (hF3.mono hF2.size)
  clear hR2 hF2
  obtain ⟨B, off, cap, rfl, ⟨hB1, hB2⟩, hcap, -⟩ := hO.form
  go_wp2_with fail
  refine (expr_z _ 51 _ 14 _ hR3 (by omega) (by omega) (by omega) (by omega) (by omega)).mono ?_
  rintro e w4 ⟨V2, L2, rfl, hO2, hL2, hsm2, hR4, hF4⟩
  replace hO := hF4.ownS hO (by omega)
  replace hO2 := hO2.mono (b' := w.heap.size + 1) (by have := hR3.lt; omega)
  replace hF4 := hF3.trans (hF4.mono hF3.size)
  clear hR3 hF3
  obtain ⟨B2, off2, cap2, rfl, ⟨hC1, hC2⟩, hcap2, -⟩ := hO2.form
  go_wp2_with fail
  refine (pick_any _ 101 3 _ hR4 (by omega) (by omega)).mono ?_
  rintro e w5 ⟨r5, rfl, hr5, hR5, hF5⟩
  replace hO := hF5.ownS hO (by omega)
  replace hO2 := hF5.ownS hO2 (by omega)
  replace hF5 := hF4.trans (hF5.mono hF4.size)
  have hs5 := hF5.size
  clear hR4 hF4
  by_cases h0 : r5 = 0
  · subst h0
    have HN := Lib.hid fun (w' : World) (hb : Below w5.heap.size w5 w') => (hO.below hb).read (by omega) hsm
    have HD := Lib.hid fun (w' : World) (hb : Below w5.heap.size w5 w') => hO.rdB hb
    have HF := Lib.hid (show ∀ x ∈ L, ndFit x from fun x hx => (hsm x hx).fit)
    clear hO hO2 hsm hsm2 hR5
    go_wp2_with (at_builtin; refine wpl_append rfl _ _ 27 rfl elN (base := w5.heap.size) rfl (own_lit0 rfl (by omega)) rfl (HD.out _ ((Below.refl _ _).alloc (Nat.le_refl _) _)) (one_n L) ?_ ?_ ?_ ?_)
    · omega
    · omega
    · simp
    intro v6 w6 hown hg6 _
    have hb6 : Below w5.heap.size w5 w6 := ((Below.refl _ _).alloc (Nat.le_refl _) _).grown hg6 (by simp) (by simp [Value.ownBlock])
    have hz6 := hb6.size
    obtain ⟨A6, c6, rfl, -, -⟩ := own_form hown
    have hlt6 := hown.lt
    go_wp2_with (at_builtin; refine wpl_append rfl _ _ 27 rfl elN (base := w5.heap.size) rfl (World.ownsRow.alloc hown _) rfl (Rd.new2N _ ⟨2, 0⟩ ⟨2, 0⟩ _) (one_n _) ?_ ?_ ?_ ?_)
    · omega
    · omega
    · simp; omega
    intro v7 w7 hown7 hg7 _
    have hb7 : Below w5.heap.size w5 w7 := (hb6.alloc (by omega) _).grown hg7 (by simp; omega) (fun j hj => (hlt6 j hj).1)
    have hOA : OwnN w7 w5.heap.size v7 (L ++ [⟨2, 0⟩, ⟨2, 0⟩]) := by unfold OwnN; rw [cellsN_append, List.length_append]; exact hown7
    have hNA := OwnN.read hOA (by rw [List.length_append]; simp; omega) (fit_app HF.out (by intro x hx; simp at hx; rcases hx with rfl | rfl <;> simp [ndFit]))
    obtain ⟨A7, c7, rfl, -, -⟩ := own_form hOA
    have hl7 : (L ++ [(⟨2, 0⟩ : Nd), ⟨2, 0⟩]).length = L.length + 2 := by simp
    rw [hl7] at hNA
    have hb07 := (hF5.below (Nat.le_refl _)).trans (hb7.mono hs5)
    clear hown hg6 hown7 hg7 hb6 hz6 hlt6 hOA
    rw [hl7]
    go_wp2
    exact bodyPost_ret (v := .tuple #[.slice (some ⟨B, off, none⟩) L.length cap, .slice A7 (L.length + 2) c7, .int .i64 (1 + r2)]) (by simp [results, Tryd.results23, go_sem, *]) rfl ⟨_, _, L, _, _, rfl, HN.out _ hb7, hNA, by rw [hl7]; omega, by omega, hb07⟩
  · have e5 : (r5 == 0) = false := by simpa using h0
    go_wp2
    exact bodyPost_ret (v := .tuple #[.slice (some ⟨B, off, none⟩) L.length cap, .slice (some ⟨B2, off2, none⟩) L2.length cap2, .int .i64 (1 + r2)]) (by simp [results, Tryd.results23, go_sem, *]) rfl ⟨_, _, L, L2, _, rfl, hO.read (by omega) hsm, hO2.read (by omega) hsm2, by omega, by omega, hF5.below (Nat.le_refl _)⟩
set_option maxHeartbeats 1000000 in
theorem drawEvalLogic_any (v : Value) (l : List Int) (w : World) (h : BytesR w w.heap.size v l) :
    Calls Tryd.prog 12 #[v] w (DrawEP w) := by
  have ho := open_any2 v l w
  have HO := Lib.hid (fun o => ho o h)
  obtain ⟨A, c, rfl, -⟩ := h
  clear ho
  have tok1 : True := trivial
  go_enter Tryd.func12, Tryd.ntmps12
  go_wp2_with fail
  refine (HO.out _).mono ?_
  rintro e w1 ⟨rfl, hR1, hb1⟩
  have hx1 := (hb1.block w.heap.size (by omega)).trans (heap_alloc_new w _)
  have hF1 : Fr w.heap.size (w.heap.size + 1) w w1 := Fr.of_below _ (((Below.refl _ _).alloc (Nat.le_refl _) _).trans (hb1.mono (by omega)))
  have hs1 := hR1.lt
  clear hb1 HO
  go_wp2_with fail
  refine (image_any _ 0 12 _ hR1 (by omega) (by omega) (by omega)).mono ?_
  rintro e w2 ⟨v, m, rfl, hO2, hS2, hR2, hF2⟩
  obtain ⟨A1, c1, A2, c2, rfl, h1, h2⟩ := hO2.form
  have hx2 := (hF2.block _ (by omega) (by omega)).trans hx1
  have hI2 := ImgAt.new h1 h2 hx2
  replace hF2 := hF1.trans (hF2.mono (by omega))
  have hs2 := hR2.lt
  have hbl := hS2.1
  have hwl := hS2.2.1
  clear hO2 h1 h2 hx1 hx2 hF1 hR1
  obtain ⟨c0, c1', z0, z1, d0, d1, y0, y1⟩ := hI2.facts
  have hne := hI2.ne
  have hne' := hne.symm
  go_wp2_with fail
  go_region_held3 (fun w' => w'.cell? ⟨w2.heap.size, 0, none⟩ = some (.slice A1 m.bits.length c1) ∧ w'.cell? ⟨w2.heap.size, 1, none⟩ = some (.slice A2 m.words.length c2)) (first | go_keep)
    (first
      | (go_at_call 46; have tok := tok1; refine (expr_z (w.heap.size + 1) 100 _ 12 _ ((hR2.below ((Below.refl _ _).alloc (Nat.le_refl _) _)).drew.mono (by omega)) (by omega) (by omega) (by omega) (by omega) (by omega)).mono ?_; rintro e w3 ⟨V, L, rfl, hO, hL, hsm, hR3, hF3⟩; have hO' := hO.mono (b' := w.heap.size + 1) (by show _ ≤ (w2.alloc _).heap.size; simp; omega); have hI3 := (ImgAt.drew hI2).fr hF3 (by omega) (by omega) (by omega); obtain ⟨e0, e1', a0, a1, f0, f1, b0, b1⟩ := hI3.facts; have hF3' := ((hF2.alloc (by omega) _).drew).trans (hF3.mono (by show w.heap.size ≤ (w2.alloc _).heap.size; simp; omega)); obtain ⟨B, off, cap, rfl, -, -, -⟩ := hO'.form; clear tok tok1 hO)
)
  go_wp2
  exact bodyPost_ret (v := .tuple #[.agg #[.slice A1 m.bits.length c1, .slice A2 m.words.length c2], .slice (some ⟨B, off, none⟩) L.length cap]) (by simp [results, Tryd.results12, go_sem, *]) rfl ⟨_, _, m, L, rfl, hI3.done.mono (by omega), hS2, OwnS.read (OwnS.set_other (OwnS.set_other hO' (by simp) _) (by simp) _) (by omega) hsm, by omega, (((hF3').setCell (.inl (Nat.le_refl _)) _).setCell (.inl (Nat.le_refl _)) _).below (by omega)⟩
end Go.Proofs.YtbbaojmmjcdliaaDoor
