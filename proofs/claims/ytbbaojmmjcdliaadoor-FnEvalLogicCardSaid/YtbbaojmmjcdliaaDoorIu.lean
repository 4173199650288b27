/- Used bits, evaluation: the program's functions. -/
import Derived.Test.YtbbaojmmjcdliaaDoorIr
namespace Go.Proofs.YtbbaojmmjcdliaaDoor
open Go.RowKit
attribute [local go_sem ↓] Go.wp_at_zero Go.wp_at_succ

def useStep (s : Nat) (x : Nd) : Nat := if x.op = 1 then withN s x.bit true else s
def usedS (l : List Nd) : Nat := l.foldl useStep 0
theorem useStep_lt (s : Nat) (x : Nd) (h : s < 65536) : useStep s x < 65536 := by
  unfold useStep; split
  · exact withN_lt _ _ _ h
  · exact h
theorem usedS_lt (l : List Nd) : usedS l < 65536 := by
  unfold usedS
  suffices all : ∀ (l : List Nd) (s : Nat), s < 65536 → l.foldl useStep s < 65536 from all l 0 (by omega)
  intro l
  induction l with
  | nil => exact fun s h => h
  | cons x l ih => exact fun s h => ih _ (useStep_lt s x h)
theorem usedS_take (l : List Nd) (k : Nat) (h : k < l.length) : usedS (l.take (k + 1)) = useStep (usedS (l.take k)) l[k] := by
  unfold usedS; rw [take_snocN l k h, List.foldl_append]; rfl
def isBit (n : Int) (x : Nd) : Bool := decide (x.op = 1) && decide (x.bit = n)
theorem usedS_bit (l : List Nd) (n : Nat) (hn : n < 16) : (usedS l).testBit n = l.any (isBit n) := by
  unfold usedS
  suffices all : ∀ (l : List Nd) (s : Nat), s < 65536 → (l.foldl useStep s).testBit n = (s.testBit n || l.any (isBit n)) by
    rw [all l 0 (by omega)]; simp
  intro l
  induction l with
  | nil => intro s _; simp
  | cons x l ih =>
    intro s hs
    rw [List.foldl_cons, ih _ (useStep_lt s x hs), List.any_cons, ← Bool.or_assoc]
    congr 1
    unfold useStep isBit withN
    by_cases h1 : x.op = 1
    · simp only [h1, if_true, decide_true, Bool.true_and]
      split
      · rename_i hb
        rw [testBit_bset s _ n true hs (by omega)]
        by_cases e : n = x.bit.toNat
        · rw [if_pos e, decide_eq_true (by omega)]; simp
        · rw [if_neg e, decide_eq_false (by omega)]; simp
      · rw [decide_eq_false (by omega)]; simp
    · simp [h1]
set_option maxHeartbeats 400000 in
theorem usedSet_any (v : Value) (l : List Nd) (w : World) (h : NodesR w w.heap.size v l) :
    Calls Tryd.prog 62 #[v] w fun e w' => e = .returned (.int .u16 (usedS l)) ∧ Below w.heap.size w w' := by
  obtain ⟨A, c, rfl, hr, hl, hf⟩ := h
  go_enter Tryd.func62, Tryd.ntmps62
  go_wp2
  go_loopw [3, 8] (fun s i wr => ∃ k : Nat, k ≤ l.length ∧ i = .int .i64 k ∧ s = .int .u16 (usedS (l.take k)) ∧ Below w.heap.size w wr) (fun _ i _ => l.length - (intOf i).toNat)
  case atStart => exact ⟨0, by omega, rfl, rfl, Below.refl _ _⟩
  case round =>
    obtain ⟨k, hk, rfl, rfl, hbr⟩ := hrel
    have hsz := hbr.size
    by_cases hlt : k < l.length
    · obtain ⟨p, rfl, hpb, hc1, hc2⟩ := hr.two hlt
      have hst := usedS_take l k hlt
      obtain ⟨x, hx⟩ : ∃ x, x = l[k] := ⟨_, rfl⟩
      rw [← hx] at hc1 hc2 hst
      clear hx
      obtain ⟨op, bit⟩ := x
      have g1 := (hbr.cell (p := p.add (k * 2)) (by rw [add_block]; exact hpb)).trans hc1
      have g2 := (hbr.cell (p := ⟨(p.add (k * 2)).block, (p.add (k * 2)).off + 1, none⟩) (by show (p.add (k * 2)).block < _; rw [add_block]; exact hpb)).trans hc2
      have HS := Lib.hid hst
      have hlt16 := usedS_lt (l.take k)
      obtain ⟨s, hs⟩ : ∃ s, s = usedS (l.take k) := ⟨_, rfl⟩
      rw [← hs] at hlt16 ⊢
      have Hs := Lib.hid hs
      clear hc1 hc2 hst hr hf hs
      by_cases h1 : op = 1
      · subst h1
        go_wp2_with (go_at_call 74; refine (with_any _ _ _ _ hlt16).mono ?_; rintro e w' ⟨rfl, rfl⟩)
        go_roundw
        case rel => exact ⟨k + 1, by omega, by go_num, by rw [HS.out, ← Hs.out]; rfl, hbr.alloc (by omega) _⟩
        case measure => simp [intOf]; omega
      · have e1 : (op == 1) = false := by simpa using h1
        have H1 := Lib.hid h1
        clear h1
        go_wp2
        go_roundw
        case rel => exact ⟨k + 1, by omega, by go_num, by rw [HS.out, ← Hs.out]; unfold useStep; rw [if_neg H1.out], hbr.alloc (by omega) _⟩
        case measure => simp [intOf]; omega
    · go_wp2
      go_ret
      obtain rfl : k = l.length := by omega
      exact ⟨by rw [List.take_length]; rfl, hbr⟩
def usedL (l : List Nd) : List Int := numsTo (usedS l) 16
def OwnIP (l : List Int) (w : World) (e : Ending) (w' : World) : Prop := ∃ v, e = .returned v ∧ OwnI w' w.heap.size v l ∧ Below w.heap.size w w'
theorem iUsedBits_any (v : Value) (l : List Nd) (w : World) (h : NodesR w w.heap.size v l) :
    Calls Tryd.prog 31 #[v] w (OwnIP (usedL l) w) := by
  have HS := Lib.hid (usedS_lt l)
  go_enter Tryd.func31, Tryd.ntmps31
  go_wp2_with fail
  refine (usedSet_any v l _ h).mono ?_
  rintro e w1 ⟨rfl, hb1⟩
  go_wp2_with fail
  refine (numbers_any (usedS l) _ HS.out).mono ?_
  rintro e w2 ⟨v2, rfl, hO, hb2⟩
  go_wp2
  go_ret
  exact ⟨_, rfl, mono_own hO hb1.size, hb1.trans (hb2.mono hb1.size)⟩

def evI (m : Img) (l : List Nd) : Bool := imgOK m && (lvalid l m.bits.length && evb l fun k => m.bits.getD k.toNat false)
def colB (bs : List Bool) (k : Nat) (j : Nat) : Int := if (decide (j < k) && bs.getD j false) = true then 18446744073709551615 else 0
def rowB (bs : List Bool) (k : Int) : Nat := if bs.getD k.toNat false = true then 18446744073709551615 else 0
theorem colB_zero (bs : List Bool) : mCells (colB bs 0) (.slice none 0 0) = [.int .u64 0, .int .u64 0, .int .u64 0, .int .u64 0, .int .u64 0, .int .u64 0, .int .u64 0, .int .u64 0, .int .u64 0, .int .u64 0, .int .u64 0, .int .u64 0, .int .u64 0, .int .u64 0, .int .u64 0, .int .u64 0, .slice none 0 0] := by
  have h : colB bs 0 = fun _ => 0 := by funext j; simp [colB]
  rw [h]; rfl
theorem colB_put (bs : List Bool) (k : Nat) (h : k < bs.length) (hb : bs[k] = true) : (fun j => if j = k then 18446744073709551615 else colB bs k j) = colB bs (k + 1) := by
  funext j
  unfold colB
  by_cases e : j = k
  · subst e; simp [h, hb]
  · rw [if_neg e, decide_eq_decide.2 (show j < k + 1 ↔ j < k by omega)]
theorem colB_skip (bs : List Bool) (k : Nat) (h : k < bs.length) (hb : bs[k] = false) : colB bs (k + 1) = colB bs k := by
  funext j
  unfold colB
  by_cases e : j = k
  · subst e; simp [h, hb]
  · rw [decide_eq_decide.2 (show j < k + 1 ↔ j < k by omega)]
theorem rowB_lt (bs : List Bool) (k : Int) : rowB bs k < 18446744073709551616 := by unfold rowB; split <;> omega
theorem evB_val (bs : List Bool) (l : List Nd) (hv : lvalid l bs.length = true) : val (iAlg (colB bs bs.length)) l = ((val (rowAlg (rowB bs)) l : Nat) : Int) ∧ (val (rowAlg (rowB bs)) l).testBit 0 = evb l (fun k => bs.getD k.toNat false) ∧ val (rowAlg (rowB bs)) l < 18446744073709551616 := by
  refine ⟨iAlg_val _ _ l fun x hx h1 => ?_, ?_, val_lt _ l fun _ _ _ => rowB_lt _ _⟩
  · have := valid_bits (lvalid_dep hv) x hx h1
    refine ⟨?_, rowB_lt _ _⟩
    unfold colB rowB
    rw [decide_eq_true (show x.bit.toNat < bs.length by omega), Bool.true_and]
    split <;> rfl
  · rw [val_row _ l 0 (by omega)]
    congr 1
    funext k
    unfold rowB
    split
    · rename_i h; rw [h]; exact testBit_all 0 (by omega)
    · rename_i h; simp at h; simp [h]
def EvIP (b : Bool) (w : World) (e : Ending) (w' : World) : Prop := e = .returned (.bool b) ∧ Below w.heap.size w w'
set_option maxHeartbeats 2000000 in
theorem iEvalLogic_any (vm v : Value) (m : Img) (l : List Nd) (w : World) (hm : ImgR w w.heap.size vm m) (h : NodesR w w.heap.size v l) :
    Calls Tryd.prog 13 #[vm, v] w (EvIP (evI m l) w) := by
  have HM := Lib.hid (fun (w' : World) (hb : Below w.heap.size w w') => hm.below hb)
  have HN := Lib.hid (fun (w' : World) (hb : Below w.heap.size w w') => h.below hb)
  have HK := Lib.hid (fun (w' : World) (hb : Below w.heap.size w w') => h.keep (B' := w.heap.size) (fun _ hp => hb.cell hp) (Nat.le_refl _))
  obtain ⟨v1, v2, rfl, ⟨A, c, rfl, hr, hl⟩, ⟨A2, c2, rfl, hr2, hl2, hb2⟩⟩ := hm
  have B0 : ∀ o, Below w.heap.size w (w.alloc o) := fun o => (Below.refl _ _).alloc (Nat.le_refl _) o
  clear hr2 hb2 h
  cases hi : imgOK m
  · have hE : evI m l = false := by unfold evI; rw [hi]; rfl
    go_enter Tryd.func13, Tryd.ntmps13
    go_wp2_with fail
    refine (iImageValid_any _ m _ (HM.out _ (B0 _))).mono ?_
    rintro e w1 ⟨rfl, hb1⟩
    go_wp2
    go_ret
    exact ⟨ret_bool hE.symm, (B0 _).trans (hb1.mono (by simp))⟩
  · have h16 : m.bits.length ≤ 16 := by unfold imgOK at hi; simp at hi; exact hi.1
    have HI := Lib.hid hi
    clear hi
    cases hv : lvalid l m.bits.length
    · have hE : evI m l = false := by unfold evI; rw [hv]; simp
      have HV := Lib.hid hv
      clear hv
      go_enter Tryd.func13, Tryd.ntmps13
      go_wp2_with fail
      refine (iImageValid_any _ m _ (HM.out _ (B0 _))).mono ?_
      rintro e w1 ⟨rfl, hb1⟩
      obtain ⟨k0, f0, l0⟩ := kept hb1 w.heap.size (by simp)
      have hb1' := (B0 (.cells #[.slice A m.bits.length c, .slice A2 m.words.length c2] 26)).trans (hb1.mono (by simp))
      have hi := HI.out
      go_wp2_with fail
      refine (iLogicValid_any v l m.bits.length _ (HN.out _ hb1')).mono ?_
      rintro e w2 ⟨rfl, hb2⟩
      have hv := HV.out
      go_wp2
      go_ret
      exact ⟨ret_bool hE.symm, hb1'.trans (hb2.mono hb1'.size)⟩
    · obtain ⟨hE1, hE2, hE3⟩ := evB_val m.bits l hv
      have hE : evI m l = (val (rowAlg (rowB m.bits)) l).testBit 0 := by unfold evI; rw [hv, HI.out, hE2]; rfl
      have HE := Lib.hid hE
      have HE1 := Lib.hid hE1
      have HE3 := Lib.hid hE3
      have HV := Lib.hid hv
      clear hv hE hE1 hE2 hE3
      go_enter Tryd.func13, Tryd.ntmps13
      go_wp2_with fail
      refine (iImageValid_any _ m _ (HM.out _ (B0 _))).mono ?_
      rintro e w1 ⟨rfl, hb1⟩
      obtain ⟨k0, f0, l0⟩ := kept hb1 w.heap.size (by simp)
      have hb1' := (B0 (.cells #[.slice A m.bits.length c, .slice A2 m.words.length c2] 26)).trans (hb1.mono (by simp))
      have hi := HI.out
      go_wp2_with fail
      refine (iLogicValid_any v l m.bits.length _ (HN.out _ hb1')).mono ?_
      rintro e w2 ⟨rfl, hb2⟩
      obtain ⟨k1, f1, l1⟩ := kept hb2 w.heap.size l0
      have hb2' := hb1'.trans (hb2.mono hb1'.size)
      have hv := HV.out
      clear hb1 hb2 hb1'
      go_wp2
      clear hv hi
      go_loopw [22] (fun i wr => ∃ k : Nat, k ≤ m.bits.length ∧ i = .int .i64 k ∧ wr.heap[w2.heap.size]? = some (.cells (mCells (colB m.bits k) (.slice none 0 0)).toArray 69 (0, 0)) ∧ Below w2.heap.size w2 wr ∧ wr.heap.size = w2.heap.size + 1) (fun i _ => m.bits.length - (intOf i).toNat)
      case atStart => exact ⟨0, by omega, rfl, by rw [colB_zero]; exact heap_alloc_new _ _, (Below.refl _ _).alloc (Nat.le_refl _) _, by simp⟩
      case round =>
        obtain ⟨k, hk, rfl, hblk, hbr, hsz⟩ := hrel
        have HZ := Lib.hid hsz
        clear hsz
        by_cases hlt : k < m.bits.length
        · obtain ⟨p, u, rfl, hpb, hu, hcb⟩ := hr.one hlt
          have hx : u = .bool m.bits[k] := by rw [List.getElem?_map, List.getElem?_eq_getElem hlt] at hu; simpa using hu.symm
          subst hx
          have g1 := ((hb2'.trans (hbr.mono hb2'.size)).cell (p := p.add k) (by rw [add_block]; exact hpb)).trans hcb
          have i1 : (k : Int) < (m.bits.length : Int) := by omega
          have i2 : (k : Int) < 16 := by omega
          have c1 : wr.cell? ⟨w2.heap.size, k, none⟩ = some (.int .u64 (colB m.bits k k)) := by rw [cell_of_row wr _ k _ _ _ hblk, List.getElem?_toArray]; exact mCells_col _ _ k (by omega)
          have z1 : wr.frozen? ⟨w2.heap.size, k, none⟩ = false := frozen_of_row wr _ k _ _ hblk
          clear hu hcb
          cases hy : m.bits[k]
          · have HB := Lib.hid hblk
            have HS := Lib.hid (colB_skip m.bits k hlt hy)
            rw [hy] at g1
            clear hblk hy
            go_wp2
            go_roundw
            case rel => exact ⟨k + 1, by omega, by go_num, by rw [HS.out]; exact HB.out, hbr, HZ.out⟩
            case measure => simp [intOf]; omega
          · have R := heap_setCell_same wr _ k _ _ (.int .u64 18446744073709551615) hblk
            rw [List.setIfInBounds_toArray, mCells_put _ _ k _ (by omega), colB_put m.bits k hlt hy] at R
            have HR := Lib.hid R
            rw [hy] at g1
            clear R hblk hy
            go_wp2
            go_roundw
            case rel => exact ⟨k + 1, by omega, by go_num, HR.out, hbr.setCell (Nat.le_refl _) _, by simp [World.setCell]; exact HZ.out⟩
            case measure => simp [intOf]; omega
        · obtain rfl : k = m.bits.length := by omega
          have hM : Mach wr w2.heap.size wr.heap.size (colB m.bits m.bits.length) [] := ⟨_, hblk, World.ownsRow_nil _ _ _ _, by have := HZ.out; omega⟩
          have hb3 := hb2'.trans (hbr.mono hb2'.size)
          have HNr := Lib.hid (HK.out wr hb3)
          clear hblk
          go_wp2_with fail
          refine (run_any w2.heap.size wr.heap.size w.heap.size (colB m.bits m.bits.length) v l m.bits.length wr hM HNr.out hb2'.size HV.out h16 (Nat.le_refl _)).mono ?_
          rintro e w3 ⟨rfl, hb4⟩
          rw [HE1.out]
          go_wp2_with fail
          refine (rhas_any (val (rowAlg (rowB m.bits)) l) 0 _ HE3.out (by omega)).mono ?_
          rintro e w4 ⟨rfl, rfl⟩
          go_wp2
          go_ret
          exact ⟨ret_bool (by rw [HE.out, Nat.testBit_zero]), hb3.trans hb4⟩
end Go.Proofs.YtbbaojmmjcdliaaDoor
