/- Negation, used bits, evaluation: the program's functions. -/
import Derived.Test.YtoagnajljdbobabDoorIq
import Derived.Test.YtoagnajljdbobabDoorE
import Derived.WalkSpells
namespace Go.Proofs.YtoagnajljdbobabDoor
open Go.RowKit
attribute [local go_sem ↓] Go.wp_at_zero Go.wp_at_succ

/-- A row of the call's own: elements. -/
def OwnN (w : World) (base : Nat) (v : Value) (l : List Nd) : Prop := w.ownsRow base 49 2 v l.length (cellsN l)
theorem elN : Elem Tryd.prog 27 49 (.agg #[.int .i64 0, .int .i64 0]) 2 16 := ⟨Tryd.underlying27, by kernel_rfl, rfl, by decide⟩
theorem OwnN.read {w : World} {b : Nat} {v : Value} {l : List Nd} (h : OwnN w b v l) (hl : l.length ≤ 8796093022208) (hf : ∀ x ∈ l, ndFit x) : NodesR w w.heap.size v l := by
  obtain ⟨A, c, rfl, hc, hr⟩ := own_form h; exact ⟨A, c, rfl, hr, ⟨hc, hl⟩, hf⟩
theorem OwnN.nil (w : World) (b : Nat) : OwnN w b (.slice none 0 0) [] := World.ownsRow_nil _ _ _ _
def OwnNP (l : List Nd) (w : World) (e : Ending) (w' : World) : Prop := ∃ v, e = .returned v ∧ OwnN w' w.heap.size v l ∧ Below w.heap.size w w'
theorem rd_none {w : World} {B sz n : Nat} {xs : List Value} (h : Rd w B sz none n xs) : n = 0 := by
  rcases Nat.eq_zero_or_pos n with h0 | h0
  · exact h0
  · obtain ⟨p, h, _⟩ := h.at_ h0; cases h
theorem eq_nil {P : Program} (w : World) (t e : TypeId) (a : Option Addr) (n c : Nat) (h : P.underlying t = some (.slice e)) :
    (binOp .eql t (.slice a n c) (.slice none 0 0)).run P w = .ok (.bool a.isNone) w := by
  simp only [binOp]
  simp [Op.equal, Op.maxDepth, Lib.run_equalIn_slice_nil w 9999 t e a n c 0 0 h]
set_option maxHeartbeats 400000 in
theorem nclone_any (v : Value) (l : List Nd) (w : World) (h : NodesR w w.heap.size v l) (hl : l.length ≤ 1000000) :
    Calls Tryd.prog 23 #[v] w (OwnNP l w) := by
  obtain ⟨A, c, rfl, hr, -, hf⟩ := h
  have hq := fun (a : Option Addr) (n c : Nat) (w : World) => eq_nil (P := Tryd.prog) w 27 49 a n c Tryd.underlying27
  rcases A with _ | p
  · obtain h0 := rd_none hr
    obtain rfl : l = [] := List.eq_nil_of_length_eq_zero h0
    go_enter Tryd.func23, Tryd.ntmps23
    go_wp2
    go_ret
    exact ⟨_, rfl, OwnN.nil _ _, Below.refl _ _⟩
  · have hr1 : ∀ o, Rd (w.alloc o) w.heap.size 2 (some p) l.length (cellsN l) := fun o => hr.alloc (Nat.le_refl _) o
    have HR := Lib.hid hr1
    clear hr1 hr hf
    go_enter Tryd.func23, Tryd.ntmps23
    go_wp2_with (at_builtin; refine wpl_append rfl _ _ 27 rfl elN (base := w.heap.size) rfl (own_lit0 rfl (by omega)) rfl (HR.out _) (one_n l) ?_ ?_ ?_ ?_)
    · omega
    · omega
    · simp
    intro v' w1 hown hg1 _
    have hb1 : Below w.heap.size w w1 := ((Below.refl _ _).alloc (Nat.le_refl _) _).grown hg1 (by simp) (by simp [Value.ownBlock])
    obtain ⟨VA, vc, rfl, -, -⟩ := own_form hown
    go_wp2
    go_ret
    exact ⟨_, rfl, by unfold OwnN; simpa using hown, hb1⟩
theorem cellsN_take (l : List Nd) (k : Nat) : (cellsN l).take (k * 2) = cellsN (l.take k) := by
  induction k generalizing l with
  | zero => simp [cellsN]
  | succ k ih =>
    cases l with
    | nil => simp [cellsN]
    | cons x l => rw [cellsN_cons, List.take_succ_cons, cellsN_cons, show (k + 1) * 2 = k * 2 + 1 + 1 by omega, List.take_succ_cons, List.take_succ_cons, ih]
theorem Rd.take {w : World} {B sz : Nat} {A : Option Addr} {n m : Nat} {xs : List Value} (h : Rd w B sz A n xs) (hm : m ≤ n) : Rd w B sz A m (xs.take (m * sz)) := by
  refine ⟨?_, fun h0 => ?_⟩
  · rw [List.length_take, h.len, Nat.min_eq_left (Nat.mul_le_mul_right _ hm)]
  · obtain ⟨p, e, hb, hc⟩ := h.at_ (by omega)
    refine ⟨p, e, hb, fun j u hu => hc j u ?_⟩
    rw [List.getElem?_take] at hu
    split at hu
    · exact hu
    · cases hu
theorem NodesR.front {w : World} {B : Nat} {A : Option Addr} {c : Nat} {l : List Nd} (h : NodesR w B (.slice A l.length c) l) (k : Nat) (hk : k ≤ l.length) : NodesR w B (.slice A k c) (l.take k) := by
  obtain ⟨A', c', e, hr, hl, hf⟩ := h
  injection e with e1 _ e2
  subst e1; subst e2
  have hlen : (l.take k).length = k := by rw [List.length_take]; omega
  refine ⟨A, c, by rw [hlen], ?_, by rw [hlen]; omega, fun x hx => hf x (List.mem_of_mem_take hx)⟩
  have := hr.take hk
  rw [cellsN_take] at this
  rwa [hlen]
theorem Rd.newN (w : World) (x : Nd) (t : TypeId) : Rd (w.alloc (.cells #[.int .i64 x.op, .int .i64 x.bit] t)) (w.heap.size + 1) 2 (some ⟨w.heap.size, 0, none⟩) 1 (cellsN [x]) := by
  refine ⟨rfl, fun _ => ⟨_, rfl, Nat.lt_succ_self _, fun j v hj => ?_⟩⟩
  match j, hj with
  | 0, hj => simp [cellsN] at hj; subst hj; simp [Addr.add]
  | 1, hj => simp [cellsN] at hj; subst hj; simp [Addr.add]
theorem lastOp (l : List Nd) (h : 0 < l.length) : (l.getLastD ⟨0, 0⟩) = l[l.length - 1] := by
  rw [List.getLastD_eq_getLast?, List.getLast?_eq_getElem?, List.getElem?_eq_getElem (by omega)]; rfl
theorem dropTake (l : List Nd) : l.dropLast = l.take (l.length - 1) := List.dropLast_eq_take
set_option maxHeartbeats 1000000 in
theorem iNegate_any (v : Value) (l : List Nd) (w : World) (h : NodesR w w.heap.size v l) :
    Calls Tryd.prog 10 #[v] w (OwnNP (negL l) w) := by
  have HK := Lib.hid (fun (w' : World) (hb : Below w.heap.size w w') => h.below hb)
  obtain ⟨A, c, rfl, hr, hl, hf⟩ := id h
  cases hv : lvalid l 16
  · have hN : negL l = [] := by unfold negL; rw [if_neg (by rw [hv]; simp)]
    go_enter Tryd.func10, Tryd.ntmps10
    go_wp2_with fail
    refine (iLogicValid_any _ l 16 _ h).mono ?_
    rintro e w1 ⟨rfl, hb1⟩
    go_wp2
    go_ret
    exact ⟨_, rfl, by rw [hN]; exact OwnN.nil _ _, hb1⟩
  · have hlen := lvalid_len hv
    have hne := lvalid_ne hv
    obtain ⟨m, hm⟩ : ∃ m, m = l.length - 1 := ⟨_, rfl⟩
    have hml : m < l.length := by omega
    obtain ⟨p, rfl, hpb, hc1, -⟩ := hr.two hml
    obtain ⟨op, hop⟩ : ∃ op, op = l[m].op := ⟨_, rfl⟩
    rw [← hop] at hc1
    have hL : (l.getLastD ⟨0, 0⟩).op = op := by rw [lastOp l hne, hop]; simp [hm]
    have HL := Lib.hid hL
    have HM := Lib.hid hm
    have HV := Lib.hid hv
    have i1 : (l.length : Int) - 1 = (m : Int) := by omega
    have hcap : m ≤ c := by omega
    have hc0 : ¬ c = 0 := by omega
    have hcl := hl.1
    clear hL hop hm hr hf hl
    by_cases ho : op = 2
    · subst ho
      have hN : negL l = l.take m := by unfold negL; rw [if_pos HV.out, if_pos HL.out, dropTake, HM.out]
      have HN := Lib.hid hN
      have H := Lib.hid h
      clear hN h
      go_enter Tryd.func10, Tryd.ntmps10
      go_wp2_with fail
      refine (iLogicValid_any _ l 16 _ H.out).mono ?_
      rintro e w1 ⟨rfl, hb1⟩
      have g1 := (hb1.cell (p := p.add (m * 2)) (by rw [add_block]; exact hpb)).trans hc1
      have hF := (HK.out w1 hb1).front m (by omega)
      have HF := Lib.hid hF
      clear hF hc1
      go_wp2_with fail
      refine (nclone_any _ _ _ HF.out (by rw [List.length_take]; omega)).mono ?_
      rintro e w2 ⟨v2, rfl, hO, hb2⟩
      go_wp2
      go_ret
      exact ⟨_, rfl, by rw [HN.out]; exact mono_own hO hb1.size, hb1.trans (hb2.mono hb1.size)⟩
    · have e2 : (op == 2) = false := by simpa using ho
      by_cases h24 : l.length = 24
      · have hN : negL l = [] := by unfold negL; rw [if_pos HV.out, if_neg (by rw [HL.out]; exact ho), if_pos h24]
        have HN := Lib.hid hN
        have H := Lib.hid h
        have q24 : ((l.length : Int) == 24) = true := by simp [h24]
        have H24 := Lib.hid h24
        clear hN h h24
        go_enter Tryd.func10, Tryd.ntmps10
        go_wp2_with fail
        refine (iLogicValid_any _ l 16 _ H.out).mono ?_
        rintro e w1 ⟨rfl, hb1⟩
        have g1 := (hb1.cell (p := p.add (m * 2)) (by rw [add_block]; exact hpb)).trans hc1
        go_wp2
        go_ret
        exact ⟨_, rfl, by rw [HN.out]; exact OwnN.nil _ _, hb1⟩
      · have hN : negL l = l ++ [⟨2, 0⟩] := by unfold negL; rw [if_pos HV.out, if_neg (by rw [HL.out]; exact ho), if_neg h24]
        have HN := Lib.hid hN
        have H := Lib.hid h
        have q24 : ((l.length : Int) == 24) = false := by rw [beq_eq_false_iff_ne]; omega
        clear hN h h24
        go_enter Tryd.func10, Tryd.ntmps10
        go_wp2_with fail
        refine (iLogicValid_any _ l 16 _ H.out).mono ?_
        rintro e w1 ⟨rfl, hb1⟩
        have g1 := (hb1.cell (p := p.add (m * 2)) (by rw [add_block]; exact hpb)).trans hc1
        clear hc1
        go_wp2_with fail
        refine (nclone_any _ l _ (HK.out w1 hb1) (by omega)).mono ?_
        rintro e w2 ⟨v2, rfl, hO, hb2⟩
        obtain ⟨VA, vc, rfl, -, -⟩ := own_form hO
        have hO' := hO
        unfold OwnN at hO'
        go_wp2_with (at_builtin; refine wpl_append rfl _ _ 27 rfl elN (base := w1.heap.size) rfl (World.ownsRow.alloc hO' _) rfl (Rd.newN _ ⟨2, 0⟩ _) (one_n _) ?_ ?_ ?_ ?_)
        · omega
        · omega
        · have := hb2.size; simp; omega
        intro v3 w3 hown hg3 _
        have hb3 : Below w.heap.size w w3 := (((hb1.trans (hb2.mono hb1.size))).alloc (by have := hb2.size; have := hb1.size; omega) _).grown hg3 (by have := hb2.size; have := hb1.size; simp; omega) (fun j hj => by have := (hO'.lt j hj).1; have := hb1.size; omega)
        obtain ⟨VB, vd, rfl, -, -⟩ := own_form hown
        have hR : OwnN w3 w.heap.size (.slice VB (l.length + 1) vd) (l ++ [⟨2, 0⟩]) := by
          have := mono_own hown hb1.size
          unfold OwnN; rw [cellsN_append, List.length_append]; exact this
        have HR := Lib.hid hR
        clear hown hg3 hO hO' hR
        go_wp2
        go_ret
        exact ⟨_, rfl, by rw [HN.out]; exact HR.out, hb3⟩
end Go.Proofs.YtoagnajljdbobabDoor
