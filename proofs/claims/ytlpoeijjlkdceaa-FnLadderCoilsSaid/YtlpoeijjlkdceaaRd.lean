/- Rungs: the program's way to execute one rung; the list of steps. -/
import Derived.Test.YtlpoeijjlkdceaaRc
namespace Go.Proofs.Ytlpoeijjlkdceaa
open Go.RowKit
attribute [local go_sem ↓] Go.wp_at_zero Go.wp_at_succ

/-- A rung executed on a set of bits. -/
def runS (s : Nat) (r : Rg) : Nat := if r.kind = 1 then withN s r.coil (evs s r.logic) else if evs s r.logic = true then withN s r.coil (r.kind == 2) else s
theorem runS_lt (s : Nat) (r : Rg) (h : s < 65536) : runS s r < 65536 := by
  unfold runS
  repeat' split
  all_goals first | exact withN_lt _ _ _ h | exact h
theorem boolsOf_get (s n k : Nat) (hk : k < n) (h16 : n ≤ 16) : (boolsOf s n).getD k false = s.testBit k := by
  unfold boolsOf
  rw [List.getD_eq_getElem?_getD, List.getElem?_map, List.getElem?_range hk]
  simp; omega
theorem boolsOf_length (s n : Nat) : (boolsOf s n).length = n := by simp [boolsOf]
theorem evs_evL (s n : Nat) (l : List Nd) (hv : lvalid l n = true) (h16 : n ≤ 16) : evs s l = evL (boolsOf s n) l := by
  unfold evs evL
  exact evb_valid hv _ _ fun k h0 h1 => (boolsOf_get s n k.toNat (by omega) h16).symm
theorem boolsOf_with (s n : Nat) (co : Int) (b : Bool) (hs : s < 65536) (hc : 0 ≤ co ∧ co < n) (h16 : n ≤ 16) : boolsOf (withN s co b) n = (boolsOf s n).set co.toNat b := by
  have e : withN s co b = bset s co.toNat b := by unfold withN; rw [if_pos (by omega)]
  rw [e]
  unfold boolsOf
  apply List.ext_getElem
  · simp
  · intro j h1 h2
    have hj : j < n := by simpa using h1
    rw [List.getElem_set]
    simp only [List.getElem_map, List.getElem_range]
    rw [testBit_bset s _ j b hs (by omega)]
    by_cases e : co.toNat = j
    · subst e; simp; omega
    · rw [if_neg e, if_neg (fun h => e h.symm)]
theorem runS_bools (s n : Nat) (r : Rg) (hs : s < 65536) (hv : rvalid r n = true) (h16 : n ≤ 16) : boolsOf (runS s r) n = runB (boolsOf s n) r := by
  obtain ⟨h1, h2, -⟩ := rvalid_parts hv
  unfold runS runB
  rw [← evs_evL s n r.logic h1 h16]
  split
  · exact boolsOf_with s n _ _ hs h2 h16
  · split
    · rw [boolsOf_with s n _ _ hs h2 h16]; rfl
    · rfl
def runSL (s : Nat) (l : List Rg) : Nat := l.foldl runS s
theorem runSL_lt (s : Nat) (l : List Rg) (h : s < 65536) : runSL s l < 65536 := by
  unfold runSL
  induction l generalizing s with
  | nil => exact h
  | cons r l ih => exact ih _ (runS_lt s r h)
theorem runSL_snoc (s : Nat) (l : List Rg) (r : Rg) : runSL s (l ++ [r]) = runS (runSL s l) r := by unfold runSL; rw [List.foldl_append]; rfl
theorem runSL_bools (s n : Nat) (l : List Rg) (hs : s < 65536) (hv : ∀ r ∈ l, rvalid r n = true) (h16 : n ≤ 16) : boolsOf (runSL s l) n = runL (boolsOf s n) l := by
  unfold runSL runL
  induction l generalizing s with
  | nil => rfl
  | cons r l ih =>
    rw [List.foldl_cons, List.foldl_cons, ih _ (runS_lt s r hs) (fun x hx => hv x (List.mem_cons_of_mem _ hx)), runS_bools s n r hs (hv r List.mem_cons_self) h16]
def DriveP (s : Nat) (r : Rg) (w : World) (e : Ending) (w' : World) : Prop := e = .returned (.int .u16 (runS s r)) ∧ Below w.heap.size w w'
set_option maxHeartbeats 1000000 in
theorem drive_any (v : Value) (r : Rg) (s n : Nat) (w : World) (hs : s < 65536) (h : NodesR w w.heap.size v r.logic) (hv : rvalid r n = true) (h16 : n ≤ 16) :
    Calls Try.prog 114 #[rgV v r, .int .u16 s] w (DriveP s r w) := by
  have HN := Lib.hid (fun (w' : World) (hb : Below w.heap.size w w') => h.below hb)
  obtain ⟨hl, -, -⟩ := rvalid_parts hv
  obtain ⟨A, c, rfl, -⟩ := h
  obtain ⟨lg, co, ki⟩ := r
  have HL := Lib.hid hl
  have HR := Lib.hid (show runS s ⟨lg, co, ki⟩ = if ki = 1 then withN s co (evs s lg) else if evs s lg = true then withN s co (ki == 2) else s from rfl)
  unfold rgV
  simp only at HN HL ⊢
  clear hl hv
  go_enter Try.func114, Try.ntmps114
  go_wp2_with fail
  refine (logicValue_any s _ lg n _ hs (HN.out _ ((Below.refl _ _).alloc (Nat.le_refl _) _)) HL.out h16).mono ?_
  rintro e w1 ⟨rfl, hb1⟩
  have m0 := heap_alloc_new w (.cells #[.slice A lg.length c, .int .i64 co, .int .i64 ki] 25)
  have m1 := (hb1.block _ (blk_lt m0)).trans m0
  have b1 : Below w.heap.size w w1 := ((Below.refl _ _).alloc (Nat.le_refl _) _).trans (hb1.mono (by simp))
  obtain ⟨a0, a1, a2⟩ := blk3k m1
  clear m0 m1 hb1
  by_cases h1 : ki = 1
  · subst h1
    have HZ := Lib.hid (show runS s ⟨lg, co, 1⟩ = withN s co (evs s lg) by rw [HR.out, if_pos rfl])
    generalize evs s lg = V at *
    go_wp2_with fail
    refine (with_any s co V _ hs).mono ?_
    rintro e w2 ⟨rfl, rfl⟩
    go_wp2
    go_ret
    exact ⟨u16_ret (by rw [HZ.out]), b1⟩
  · have e1 : (ki == 1) = false := by simpa using h1
    cases hV : evs s lg
    · have HZ := Lib.hid (show runS s ⟨lg, co, ki⟩ = s by rw [HR.out, if_neg h1, hV]; rfl)
      clear h1 hV
      go_wp2
      go_ret
      exact ⟨u16_ret (by rw [HZ.out]), b1⟩
    · have HZ := Lib.hid (show runS s ⟨lg, co, ki⟩ = withN s co (ki == 2) by rw [HR.out, if_neg h1, hV]; rfl)
      clear h1 hV
      go_wp2_with fail
      refine (with_any s co (ki == 2) _ hs).mono ?_
      rintro e w2 ⟨rfl, rfl⟩
      go_wp2
      go_ret
      exact ⟨u16_ret (by rw [HZ.out]), b1⟩
/-- The step of a rung: the method's value, the rung bound to it. -/
def stepV (p : Value × Rg) : Value := .func (.func 114) #[rgV p.1 p.2] #[]
theorem elF : Elem Try.prog 100 103 .nilFunc 1 8 := ⟨Try.underlying100, by kernel_rfl, rfl, by decide⟩
/-- The first k steps are laid. -/
def stepsTo (ps : List (Value × Rg)) (k : Nat) : List Value := (ps.take k).map stepV ++ List.replicate (ps.length - k) .nilFunc
theorem stepsTo_zero (ps : List (Value × Rg)) : (madeCells #[Value.nilFunc] ps.length).toList = stepsTo ps 0 := by
  refine (toList_madeCells_one _ _).trans ?_
  simp [stepsTo]
theorem stepsTo_set (ps : List (Value × Rg)) (k : Nat) (h : k < ps.length) : (stepsTo ps k).set k (stepV ps[k]) = stepsTo ps (k + 1) := by
  unfold stepsTo
  rw [List.take_succ_eq_append_getElem h, List.map_append, List.set_append_right _ _ (by simp; omega)]
  have e : ps.length - k = (ps.length - (k + 1)) + 1 := by omega
  rw [e, List.replicate_succ]
  simp [Nat.min_eq_left (Nat.le_of_lt h)]
theorem stepsTo_all (ps : List (Value × Rg)) : stepsTo ps ps.length = ps.map stepV := by simp [stepsTo]
def StepsP (ps : List (Value × Rg)) (w : World) (e : Ending) (w' : World) : Prop := ∃ v, e = .returned v ∧ w'.ownsRow w.heap.size 103 1 v ps.length (ps.map stepV) ∧ Below w.heap.size w w'
set_option maxHeartbeats 1000000 in
theorem rungSteps_any (v : Value) (ps : List (Value × Rg)) (w : World) (h : LadR w w.heap.size v ps) (hl24 : ps.length ≤ 12) :
    Calls Try.prog 83 #[v] w (StepsP ps w) := by
  obtain ⟨A, c, rfl, hr, hl, h3⟩ := h
  have H3 := Lib.hid (fun (p : Value × Rg) (hp : p ∈ ps) => (h3 p hp).1)
  clear h3
  have hmf : ∀ (fn : Fn) (first cap : Array Value) (w : World), (Instr.makeFunc fn first cap).run Try.prog w = .ok (.func fn first cap) w := fun _ _ _ _ => rfl
  have hsf := fun (a : Addr) (fn : Fn) (x c : Array Value) (w : World) => run_store Try.prog w a (.func fn x c) .plain rfl
  go_enter Try.func83, Try.ntmps83
  go_wp2_with (at_make; refine wpl_make rfl _ _ 100 rfl elF ps.length rfl rfl ?c1 ?c2 ?_)
  case c1 => omega
  case c2 => omega
  intro w1 hown hb1
  rw [stepsTo_zero] at hown
  have hsz1 : w.heap.size < w1.heap.size := (hown.lt _ rfl).2
  go_wp2
  go_loopw [11] (fun i wr => ∃ k : Nat, k ≤ ps.length ∧ i = .int .i64 k ∧ wr.ownsRow w.heap.size 103 1 (.slice (some ⟨w.heap.size, 0, none⟩) ps.length ps.length) ps.length (stepsTo ps k) ∧ Below w.heap.size w wr ∧ w.heap.size < wr.heap.size) (fun i _ => ps.length - (intOf i).toNat)
  case atStart => exact ⟨0, by omega, rfl, hown, hb1, hsz1⟩
  case round =>
    obtain ⟨k, hk, rfl, hownr, hbr, hszr⟩ := hrel
    by_cases hlt : k < ps.length
    · obtain ⟨p, rfl, hpb, c0, c1, c2⟩ := hr.three hlt
      have hn := H3.out ps[k] (List.getElem_mem hlt)
      have hS := stepsTo_set ps k hlt
      generalize ps[k] = x at c0 c1 c2 hn hS
      obtain ⟨u, lg, co, ki⟩ := x
      simp only at c0 c1 c2 hn hS
      obtain ⟨Au, cu, rfl, -⟩ := hn
      have g0 := (hbr.cell (p := p.add (k * 3)) (by rw [add_block]; exact hpb)).trans c0
      have g1 := (hbr.cell (p := ⟨(p.add (k * 3)).block, (p.add (k * 3)).off + 1, none⟩) (by show (p.add (k * 3)).block < _; rw [add_block]; exact hpb)).trans c1
      have g2 := (hbr.cell (p := ⟨(p.add (k * 3)).block, (p.add (k * 3)).off + 2, none⟩) (by show (p.add (k * 3)).block < _; rw [add_block]; exact hpb)).trans c2
      have i1 : (k : Int) < (ps.length : Int) := by omega
      have hc := hownr.cellAt k (by omega)
      have hz := hownr.frozenAt k
      have hst := (hownr.stored k (stepV (.slice Au lg.length cu, ⟨lg, co, ki⟩))).1
      rw [hS] at hst
      obtain ⟨u0, hu0⟩ : ∃ u0, (stepsTo ps k)[k]? = some u0 := ⟨_, List.getElem?_eq_getElem (by simp [stepsTo]; omega)⟩
      rw [hu0] at hc
      have HST := Lib.hid hst
      clear c0 c1 c2 hr hS hst hu0 hownr hown
      go_wp2
      go_roundw
      case rel => exact ⟨k + 1, by omega, by go_num, HST.out.alloc _, (hbr.setCell (by simp) _).alloc (by simp; omega) _, by simp; omega⟩
      case measure => simp [intOf]; omega
    · obtain rfl : k = ps.length := by omega
      rw [stepsTo_all] at hownr
      go_wp2
      go_ret
      exact ⟨_, rfl, hownr, hbr⟩
end Go.Proofs.Ytlpoeijjlkdceaa
