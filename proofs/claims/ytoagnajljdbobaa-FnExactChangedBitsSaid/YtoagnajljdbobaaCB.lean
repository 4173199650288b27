/- ChangedBits, of the implementation and of the specification. -/
import Derived.Test.YtoagnajljdbobaaE
namespace Go.Proofs.Ytoagnajljdbobaa
open Go.RowKit

theorem xor16 (s t : Nat) (hs : s < 65536) (ht : t < 65536) : bits .xor .u16 (s : Int) (t : Int) = ((s ^^^ t : Nat) : Int) := u16_xor_nat s t hs ht



theorem xor_lt {s t : Nat} (hs : s < 65536) (ht : t < 65536) : s ^^^ t < 65536 := Nat.xor_lt_two_pow (n := 16) (by omega) (by omega)

/-- The numbers of the bits in which two lists of bits differ, up to the n-th. -/
def diffTo (a b : List Bool) (n : Nat) : List Int := ((List.range n).filter fun k => a.getD k false != b.getD k false).map fun (k : Nat) => (k : Int)
theorem diffTo_succ (a b : List Bool) (n : Nat) : diffTo a b (n + 1) = if a.getD n false != b.getD n false then diffTo a b n ++ [(n : Int)] else diffTo a b n := by
  unfold diffTo; rw [List.range_succ, List.filter_append]
  cases h : (a.getD n false != b.getD n false) <;> simp only [List.filter_cons, List.filter_nil, h, if_true, List.map_append, List.map_cons, List.map_nil, List.append_nil, Bool.false_eq_true, if_false]
theorem diffTo_length (a b : List Bool) (n : Nat) : (diffTo a b n).length ≤ n := by
  unfold diffTo; rw [List.length_map]
  exact Nat.le_trans (List.length_filter_le _ _) (by simp)
theorem diffTo_more (a b : List Bool) (n m : Nat) (h : n ≤ m) (ha : a.length ≤ n) (hb : b.length ≤ n) : diffTo a b m = diffTo a b n := by
  induction m with
  | zero => obtain rfl : n = 0 := by omega
            rfl
  | succ m ih =>
    by_cases e : n = m + 1
    · rw [e]
    · have e1 : a.getD m false = false := by simp [List.getD, show a.length ≤ m by omega]
      have e2 : b.getD m false = false := by simp [List.getD, show b.length ≤ m by omega]
      rw [diffTo_succ, e1, e2, ih (by omega)]; rfl
def diffM (a b : Img) : List Int := if imgOK a && imgOK b && decide (a.bits.length = b.bits.length) then diffTo a.bits b.bits a.bits.length else []
theorem diff_bound (a b : List Bool) (n : Nat) : ∀ x ∈ diffTo a b n, 0 ≤ x ∧ x < n := by
  intro x hx
  unfold diffTo at hx
  simp only [List.mem_map, List.mem_filter, List.mem_range] at hx
  obtain ⟨k, ⟨h, _⟩, rfl⟩ := hx
  omega
theorem numsTo_xor (a b : List Bool) (ha : a.length ≤ 16) (hab : a.length = b.length) : numsTo (setTo a a.length ^^^ setTo b b.length) 16 = diffTo a b a.length := by
  rw [← diffTo_more a b a.length 16 ha (Nat.le_refl _) (by omega)]
  unfold numsTo diffTo
  congr 1
  apply List.filter_congr
  intro k hk
  have hk' : k < 16 := by simpa using hk
  rw [Nat.testBit_xor, testBit_setTo, testBit_setTo]
  by_cases h : k < a.length
  · have h2 : k < b.length := by omega
    simp [h, h2, hk']
  · have h2 : ¬ k < b.length := by omega
    have e1 : a.getD k false = false := by simp [List.getD, show a.length ≤ k by omega]
    have e2 : b.getD k false = false := by simp [List.getD, show b.length ≤ k by omega]
    rw [e1, e2]
    simp [h, h2]
def IntsPost (w : World) (l : List Int) (e : Ending) (w' : World) : Prop := ∃ v', e = .returned v' ∧ OwnI w' w.heap.size v' l ∧ Below w.heap.size w w'

theorem bitSetOf_b (v : Value) (l : List Bool) (w : World) (h : BoolsR w w.heap.size v l) (s : Nat) (hs : Hid (setTo l l.length = s)) :
    Calls Try.prog 84 #[v] w fun e w' => e = .returned (.int .u16 s) ∧ Below w.heap.size w w' :=
  (bitSetOf_any v l w h).mono fun _ _ ⟨h1, h2⟩ => ⟨hs.out ▸ h1, h2 ▸ Below.refl _ _⟩
set_option maxHeartbeats 400000 in
theorem iChangedBits_any (v1 v2 : Value) (a b : Img) (w : World) (h1 : ImgR w w.heap.size v1 a) (h2 : ImgR w w.heap.size v2 b) :
    Calls Try.prog 39 #[v1, v2] w (IntsPost w (diffM a b)) := by
  have g1 : ∀ w1, Below w.heap.size w w1 → ImgR w1 w1.heap.size v1 a := fun w1 h => h1.below h
  have g2 : ∀ w1, Below w.heap.size w w1 → ImgR w1 w1.heap.size v2 b := fun w1 h => h2.below h
  obtain ⟨x1, x2, rfl, hx1, hx2⟩ := h1
  obtain ⟨y1, y2, rfl, hy1, hy2⟩ := h2
  obtain ⟨A1, c1, e1⟩ := hx1.form
  obtain ⟨A2, c2, e2⟩ := hx2.form
  obtain ⟨A3, c3, e3⟩ := hy1.form
  obtain ⟨A4, c4, e4⟩ := hy2.form
  subst e1; subst e2; subst e3; subst e4
  have f1 : ∀ w1, Below w.heap.size w w1 → BoolsR w1 w1.heap.size _ a.bits := fun w1 h => hx1.below h
  have f3 : ∀ w1, Below w.heap.size w w1 → BoolsR w1 w1.heap.size _ b.bits := fun w1 h => hy1.below h
  clear hx1 hx2 hy1 hy2
  have B0 : ∀ o p, Below w.heap.size w ((w.alloc o).alloc p) := fun o p => (((Below.refl _ _).alloc (Nat.le_refl _) _).alloc (by simp) _)
  obtain ⟨s1, t1⟩ : ∃ s, setTo a.bits a.bits.length = s := ⟨_, rfl⟩
  obtain ⟨s2, t2⟩ : ∃ s, setTo b.bits b.bits.length = s := ⟨_, rfl⟩
  have hs1 := t1 ▸ setTo_lt a.bits a.bits.length
  have hs2 := t2 ▸ setTo_lt b.bits b.bits.length
  have T1 := Lib.hid t1
  have T2 := Lib.hid t2
  clear t1 t2
  obtain ⟨s3, t3⟩ : ∃ s, s1 ^^^ s2 = s := ⟨_, rfl⟩
  have hs3 := xor_lt hs1 hs2
  have hx := xor16 _ _ hs1 hs2
  rw [t3] at hs3 hx
  have T3 := Lib.hid t3
  clear t3
  have none_ : ∀ w1, Below w.heap.size w w1 → diffM a b = [] → IntsPost w (diffM a b) (.returned (.slice none 0 0)) w1 := fun w1 hb e => ⟨_, rfl, by rw [e]; exact World.ownsRow_nil _ _ _ _, hb⟩
  go_enter Try.func39, Try.ntmps39
  go_wp2_with fail
  refine (iImageValid_any _ a _ (g1 _ (B0 _ _))).mono ?_
  rintro e w1 ⟨rfl, hb1⟩
  have B1 : Below w.heap.size w w1 := (B0 _ _).trans (hb1.mono (by simp; omega))
  obtain ⟨k0, k1, k2⟩ := kept hb1 w.heap.size (by simp; omega)
  obtain ⟨k3, k4, k5⟩ := kept hb1 (w.heap.size + 1) (by simp)
  clear hb1
  cases ha : imgOK a
  · have Ha := Lib.hid ha
    clear ha
    go_wp2
    go_ret
    exact none_ _ B1 (by unfold diffM; rw [Ha.out]; rfl)
  have Ha := Lib.hid ha
  clear ha
  go_wp2_with fail
  refine (iImageValid_any _ b _ (g2 _ B1)).mono ?_
  rintro e w2 ⟨rfl, hb2⟩
  have B2 : Below w.heap.size w w2 := B1.trans (hb2.mono B1.size)
  obtain ⟨k6, k7, k8⟩ := kept hb2 w.heap.size k2
  obtain ⟨k9, k10, k11⟩ := kept hb2 (w.heap.size + 1) k5
  clear hb2
  cases hb : imgOK b
  · have Hb := Lib.hid hb
    clear hb
    go_wp2
    go_ret
    exact none_ _ B2 (by unfold diffM; rw [Hb.out]; simp)
  have Hb := Lib.hid hb
  clear hb
  by_cases hlen : a.bits.length = b.bits.length
  · have Hlen := Lib.hid hlen
    have la : a.bits.length ≤ 16 := by have := Ha.out; simp [imgOK] at this; omega
    have hq : ((a.bits.length : Int) != (b.bits.length : Int)) = false := by rw [bne_eq_false_iff_eq]; omega
    clear hlen
    go_wp2
    go_region_held3 (fun w' => w'.cell? ⟨w.heap.size, 0, none⟩ = some (.slice A1 a.bits.length c1) ∧ w'.cell? ⟨w.heap.size + 1, 0, none⟩ = some (.slice A3 b.bits.length c3)) (first | go_keep)
      (first
        | (go_at_call 84; have B3' := B3; refine (bitSetOf_b (.slice A3 b.bits.length c3) b.bits _ (f3 _ B3) s2 T2).mono ?_; rintro e w4 ⟨rfl, hb4⟩; have B4 := B3.trans (hb4.mono (Nat.le_of_lt l30)); obtain ⟨c40, f40, l40⟩ := kept hb4 w.heap.size l30; obtain ⟨c41, f41, l41⟩ := kept hb4 (w.heap.size + 1) l31)
        | (go_at_call 84; refine (bitSetOf_b (.slice A1 a.bits.length c1) a.bits _ (f1 _ (B2.drew)) s1 T1).mono ?_; rintro e w3 ⟨rfl, hb3⟩; obtain ⟨c30, f30, l30⟩ := kept hb3 w.heap.size k8; obtain ⟨c31, f31, l31⟩ := kept hb3 (w.heap.size + 1) k11; have B3 := (B2.drew).trans (hb3.mono (show w.heap.size ≤ w2.heap.size by omega)))
        | (go_at_call 93; refine (numbers_any _ _ hs3).mono ?_; rintro e w5 ⟨v', rfl, hown, hb5⟩; obtain ⟨A', c', rfl, -, -⟩ := own_form hown; obtain ⟨c50, f50, l50⟩ := kept hb5 w.heap.size l40; obtain ⟨c51, f51, l51⟩ := kept hb5 (w.heap.size + 1) l41))
    go_wp2
    go_ret
    refine ⟨_, rfl, ?_, B4.trans (hb5.mono B4.size)⟩
    have e : diffM a b = numsTo s3 16 := by
      unfold diffM; rw [← T3.out, ← T1.out, ← T2.out, Ha.out, Hb.out, if_pos (by simp [Hlen.out]), numsTo_xor _ _ la Hlen.out]
    rw [e]
    exact mono_own hown B4.size
  · have Hlen := Lib.hid hlen
    have hq : ((a.bits.length : Int) != (b.bits.length : Int)) = true := by rw [bne_iff_ne]; omega
    clear hlen
    go_wp2
    go_ret
    exact none_ _ B2 (by unfold diffM; rw [if_neg (by simp [Hlen.out])])

set_option maxHeartbeats 800000 in
theorem sChangedBits_any (v1 v2 : Value) (a b : Img) (w : World) (h1 : ImgR w w.heap.size v1 a) (h2 : ImgR w w.heap.size v2 b) :
    Calls Try.prog 40 #[v1, v2] w (IntsPost w (diffM a b)) := by
  have g1 : ∀ w1, Below w.heap.size w w1 → ImgR w1 w1.heap.size v1 a := fun w1 h => h1.below h
  have g2 : ∀ w1, Below w.heap.size w w1 → ImgR w1 w1.heap.size v2 b := fun w1 h => h2.below h
  obtain ⟨x1, x2, rfl, hx1, hx2⟩ := h1
  obtain ⟨y1, y2, rfl, hy1, hy2⟩ := h2
  obtain ⟨A2, c2, e2⟩ := hx2.form
  obtain ⟨A4, c4, e4⟩ := hy2.form
  subst e2; subst e4
  clear hx2 hy2
  obtain ⟨A1, c1, rfl, hr1, hl1⟩ := hx1
  obtain ⟨A3, c3, rfl, hr3, hl3⟩ := hy1
  have B0 : ∀ o p q, Below w.heap.size w (((w.alloc o).alloc p).alloc q) := fun o p q => ((((Below.refl _ _).alloc (Nat.le_refl _) _).alloc (by simp) _).alloc (by simp; omega) _)
  have none_ : ∀ w1 v, Below w.heap.size w w1 → OwnI w1 (w.heap.size + 2) v [] → diffM a b = [] → IntsPost w (diffM a b) (.returned v) w1 := fun w1 v hb ho e => ⟨_, rfl, by rw [e]; exact mono_own ho (by omega), hb⟩
  go_enter Try.func40, Try.ntmps40
  go_wp2_with fail
  refine (sImageValid_any _ a _ (g1 _ (B0 _ _ _))).mono ?_
  rintro e w1 ⟨rfl, hb1⟩
  have B1 : Below w.heap.size w w1 := (B0 _ _ _).trans (hb1.mono (by simp; omega))
  have O1 : OwnI w1 (w.heap.size + 2) (.slice (some ⟨w.heap.size + 2, 0, none⟩) 0 0) [] := own_below (own_lit0 (by simp) (Nat.le_refl _)) hb1
  obtain ⟨k0, k1, k2⟩ := kept hb1 w.heap.size (by simp <;> omega)
  obtain ⟨k3, k4, k5⟩ := kept hb1 (w.heap.size + 1) (by simp <;> omega)
  have k12 : w.heap.size + 2 < w1.heap.size := by have := hb1.size; simp at this; omega
  clear hb1
  cases ha : imgOK a
  · have Ha := Lib.hid ha
    clear ha
    go_wp2
    go_ret
    exact none_ _ _ B1 O1 (by unfold diffM; rw [Ha.out]; rfl)
  have Ha := Lib.hid ha
  clear ha
  go_wp2_with fail
  refine (sImageValid_any _ b _ (g2 _ B1)).mono ?_
  rintro e w2 ⟨rfl, hb2⟩
  have B2 : Below w.heap.size w w2 := B1.trans (hb2.mono B1.size)
  have O2 : OwnI w2 (w.heap.size + 2) (.slice (some ⟨w.heap.size + 2, 0, none⟩) 0 0) [] := own_below O1 hb2
  obtain ⟨k6, k7, k8⟩ := kept hb2 w.heap.size k2
  obtain ⟨k9, k10, k11⟩ := kept hb2 (w.heap.size + 1) k5
  have k13 : w.heap.size + 2 < w2.heap.size := by have := hb2.size; omega
  clear hb2 B1 O1
  cases hb : imgOK b
  · have Hb := Lib.hid hb
    clear hb
    go_wp2
    go_ret
    exact none_ _ _ B2 O2 (by unfold diffM; rw [Hb.out]; simp)
  have Hb := Lib.hid hb
  clear hb
  by_cases hlen : a.bits.length = b.bits.length
  · have Hlen := Lib.hid hlen
    have la : a.bits.length ≤ 16 := by have := Ha.out; simp [imgOK] at this; omega
    have hq : ((a.bits.length : Int) != (b.bits.length : Int)) = false := by rw [bne_eq_false_iff_eq]; omega
    clear hlen
    go_wp2
    have hlen := Hlen.out
    go_loopw [5, 6] (fun v i wr => ∃ k : Nat, k ≤ a.bits.length ∧ i = .int .i64 k ∧ OwnI wr (w.heap.size + 2) v (diffTo a.bits b.bits k) ∧ Below (w.heap.size + 2) w2 wr) (fun _ i _ => a.bits.length - (intOf i).toNat)
    case atStart => exact ⟨0, by omega, rfl, O2, Below.refl _ _⟩
    case round =>
      obtain ⟨k, hk, rfl, hown, hbr⟩ := hrel
      have hsz := hbr.size
      have kk := diffTo_length a.bits b.bits k
      have r1 : ∀ o, wr.cell? ⟨w.heap.size, o, none⟩ = w2.cell? ⟨w.heap.size, o, none⟩ := fun o => hbr.cell (p := ⟨w.heap.size, o, none⟩) (by simp)
      have r2 : ∀ o, wr.cell? ⟨w.heap.size + 1, o, none⟩ = w2.cell? ⟨w.heap.size + 1, o, none⟩ := fun o => hbr.cell (p := ⟨w.heap.size + 1, o, none⟩) (by simp)
      by_cases hlt : k < a.bits.length
      · obtain ⟨p, u, rfl, hpb, hu, hc⟩ := hr1.one hlt
        obtain ⟨p', u', rfl, hpb', hu', hc'⟩ := hr3.one (show k < b.bits.length by omega)
        have e1 : u = .bool (a.bits.getD k false) := by rw [List.getElem?_map, List.getElem?_eq_getElem hlt] at hu; rw [List.getD_eq_getElem?_getD, List.getElem?_eq_getElem hlt]; simpa using hu.symm
        have e2 : u' = .bool (b.bits.getD k false) := by rw [List.getElem?_map, List.getElem?_eq_getElem (show k < b.bits.length by omega)] at hu'; rw [List.getD_eq_getElem?_getD, List.getElem?_eq_getElem (show k < b.bits.length by omega)]; simpa using hu'.symm
        subst e1; subst e2
        have Bw : Below w.heap.size w wr := B2.trans (hbr.mono (by omega))
        have d1 : wr.cell? (p.add k) = some (.bool (a.bits.getD k false)) := (Bw.cell (by rw [add_block]; exact hpb)).trans hc
        have d2 : wr.cell? (p'.add k) = some (.bool (b.bits.getD k false)) := (Bw.cell (by rw [add_block]; exact hpb')).trans hc'
        clear hc hc' hu hu' hr1 hr3
        have i1 : (k : Int) < (a.bits.length : Int) := by omega
        have i2 : (k : Int) < (b.bits.length : Int) := by omega
        obtain ⟨x, hx⟩ : ∃ x, x = a.bits.getD k false := ⟨_, rfl⟩
        obtain ⟨y, hy⟩ : ∃ y, y = b.bits.getD k false := ⟨_, rfl⟩
        rw [← hx] at d1
        rw [← hy] at d2
        have E1 := Lib.hid hx.symm
        have E2 := Lib.hid hy.symm
        clear hx hy hlen
        cases x <;> cases y
        · go_wp2
          go_quiet (fail)
          go_wp2
          go_roundw
          case rel => exact ⟨k + 1, by omega, by go_num, by rw [diffTo_succ, E1.out, E2.out]; exact hown, by exact hbr.trans ⟨rfl, rfl, rfl, Nat.le_refl _, fun _ _ => rfl⟩⟩
          case measure => simp [intOf]; omega
        · go_wp2
          go_quiet (fail)
          go_wp2_with (at_builtin; refine wpl_append rfl _ _ 24 rfl elI rfl (hown.alloc _) rfl (Rd.new1 _ _ _) ?c1 ?c2 ?c3 ?c4 ?_)
          case c1 => simp; rfl
          case c2 => omega
          case c3 => omega
          case c4 => simp; omega
          intro v' w4 hown1 hg1 _
          have R : OwnI w4 (w.heap.size + 2) v' (diffTo a.bits b.bits (k + 1)) := by
            unfold OwnI; rw [diffTo_succ, E1.out, E2.out]; simpa using hown1
          have hb1 : Below (w.heap.size + 2) w2 w4 := ((show Below (w.heap.size + 2) w2 (wr.drewN nq) from hbr.trans ⟨rfl, rfl, rfl, Nat.le_refl _, fun _ _ => rfl⟩).alloc (show w.heap.size + 2 ≤ wr.heap.size by omega) _).grown hg1 (by simp; omega) (fun j hj => (hown.lt j hj).1)
          clear hown1 hg1 hown hbr
          go_wp2
          go_roundw
          case rel => exact ⟨k + 1, by omega, by go_num, R, hb1⟩
          case measure => simp [intOf]; omega
        · go_wp2
          go_quiet (fail)
          go_wp2_with (at_builtin; refine wpl_append rfl _ _ 24 rfl elI rfl (hown.alloc _) rfl (Rd.new1 _ _ _) ?c1 ?c2 ?c3 ?c4 ?_)
          case c1 => simp; rfl
          case c2 => omega
          case c3 => omega
          case c4 => simp; omega
          intro v' w4 hown1 hg1 _
          have R : OwnI w4 (w.heap.size + 2) v' (diffTo a.bits b.bits (k + 1)) := by
            unfold OwnI; rw [diffTo_succ, E1.out, E2.out]; simpa using hown1
          have hb1 : Below (w.heap.size + 2) w2 w4 := ((show Below (w.heap.size + 2) w2 (wr.drewN nq) from hbr.trans ⟨rfl, rfl, rfl, Nat.le_refl _, fun _ _ => rfl⟩).alloc (show w.heap.size + 2 ≤ wr.heap.size by omega) _).grown hg1 (by simp; omega) (fun j hj => (hown.lt j hj).1)
          clear hown1 hg1 hown hbr
          go_wp2
          go_roundw
          case rel => exact ⟨k + 1, by omega, by go_num, R, hb1⟩
          case measure => simp [intOf]; omega
        · go_wp2
          go_quiet (fail)
          go_wp2
          go_roundw
          case rel => exact ⟨k + 1, by omega, by go_num, by rw [diffTo_succ, E1.out, E2.out]; exact hown, by exact hbr.trans ⟨rfl, rfl, rfl, Nat.le_refl _, fun _ _ => rfl⟩⟩
          case measure => simp [intOf]; omega
      · go_wp2
        go_ret
        obtain rfl : k = a.bits.length := by omega
        refine ⟨_, rfl, ?_, B2.trans (hbr.mono (by omega))⟩
        rw [show diffM a b = diffTo a.bits b.bits a.bits.length by unfold diffM; rw [Ha.out, Hb.out, if_pos (by simp [Hlen.out])]]
        exact mono_own hown (by omega)
  · have Hlen := Lib.hid hlen
    have hq : ((a.bits.length : Int) != (b.bits.length : Int)) = true := by rw [bne_iff_ne]; omega
    clear hlen
    go_wp2
    go_ret
    exact none_ _ _ B2 O2 (by unfold diffM; rw [if_neg (by simp [Hlen.out])])
end Go.Proofs.Ytoagnajljdbobaa
