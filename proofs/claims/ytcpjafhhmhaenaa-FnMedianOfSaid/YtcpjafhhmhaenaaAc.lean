/- The law FnMedianOf: its walk. -/
import Derived.Test.YtcpjafhhmhaenaaAJ
import Derived.Test.YtcpjafhhmhaenaaAY
import Derived.Test.YtcpjafhhmhaenaaAa
namespace Go.Proofs.Ytcpjafhhmhaenaa
open Go.RowKit
attribute [local go_sem ↓] Go.wp_at_zero Go.wp_at_succ

def gtC (l : List Int) (x : Int) (j : Nat) : Nat := (l.take j).countP fun y => decide (x < y)
theorem gtC_le (l : List Int) (x : Int) (j : Nat) : gtC l x j ≤ l.length := Nat.le_trans List.countP_le_length (by simp; omega)
theorem gtC_yes {l : List Int} {x : Int} {j : Nat} (hj : j < l.length) (h : x < l[j]) : gtC l x (j + 1) = gtC l x j + 1 := by
  unfold gtC; rw [List.take_succ_eq_append_getElem hj, List.countP_append]; simp [h]
theorem gtC_no {l : List Int} {x : Int} {j : Nat} (hj : j < l.length) (h : ¬ x < l[j]) : gtC l x (j + 1) = gtC l x j := by
  unfold gtC; rw [List.take_succ_eq_append_getElem hj, List.countP_append]; simp; omega
def okT (l : List Int) (j : Nat) : Bool := decide (l.length % 2 = 1) && (l.take j).all inW
theorem okT_succ {l : List Int} {j : Nat} (hj : j < l.length) : okT l (j + 1) = (okT l j && inW l[j]) := by
  unfold okT; rw [List.take_succ_eq_append_getElem hj, List.all_append, Bool.and_assoc]; simp
theorem okT_end {l : List Int} (h : l.length ≤ 15) : okT l.reverse l.length = medOK l := by
  unfold okT medOK
  rw [show l.reverse.take l.length = l.reverse by rw [List.take_of_length_le (by simp)], decide_eq_true h]
  simp
theorem ltC_rev (l : List Int) (x : Int) : ltC l.reverse x l.length = l.countP fun y => decide (y < x) := by
  unfold ltC; rw [List.take_of_length_le (by simp), List.countP_reverse]
theorem gtC_rev (l : List Int) (x : Int) : gtC l.reverse x l.length = l.countP fun y => decide (x < y) := by
  unfold gtC; rw [List.take_of_length_le (by simp), List.countP_reverse]
theorem FnMedianOf_long (a : Option Addr) (n c : Nat) (w : World) (h : 1048576 < n) (_hn : n ≤ 9223372036854775807) : Calls Try.prog 9 #[.slice a n c] w (LawPost w) := by
  go_enter Try.func9, Try.ntmps9
  go_wp2
  go_ret
  exact ⟨rfl, Below.refl _ _⟩
set_option maxRecDepth 100000 in
set_option maxHeartbeats 8000000 in
theorem FnMedianOf_core (v : Value) (bl : List Int) (w : World) (h : BytesR w w.heap.size v bl) (hl : bl.length ≤ 1048576) :
    Calls Try.prog 9 #[v] w (LawPost w) := by
  have HO := Lib.hid (drawDrawMedianOf_any v bl w h)
  obtain ⟨A0, c0, rfl, -⟩ := h
  go_enter Try.func9, Try.ntmps9
  go_wp2_with fail
  refine HO.out.mono ?_
  rintro e w1 ⟨v1, l, rfl, hO, hll, hsm, hB⟩
  clear HO
  have hR1 : IntsR w1 w1.heap.size v1 l := hO.read (by omega) hsm.read
  have HRD := Lib.hid hsm.read
  obtain ⟨A, c, rfl, -, -⟩ := own_form hO
  have HI := Lib.hid (iMedianOf_any _ l w1 hR1)
  clear hO hsm
  go_wp2_with fail
  refine HI.out.mono ?_
  rintro e w2 ⟨n, rfl, hm, hc⟩
  have hR2 := hR1.below hc
  replace hB := hB.trans (hc.mono hB.size)
  have HS := Lib.hid (sMedianOf_any _ l w2 hR2)
  have Hm := Lib.hid hm
  clear HI hc hR1 hm
  go_wp2_with fail
  refine HS.out.mono ?_
  rintro e w3 ⟨n2, rfl, hm2, hc⟩
  have hR3 := hR2.below hc
  replace hB := hB.trans (hc.mono hB.size)
  obtain rfl := medOf_unique Hm.out hm2
  clear HS hc hR2 hm2
  have hO0 := own_lit0 (W := w3) (e := 3) (sz := 1) (base := w3.heap.size) rfl (Nat.le_refl _)
  have hb0 : Below w3.heap.size w3 (w3.alloc (.cells #[] 3)) := (Below.refl _ _).alloc (Nat.le_refl _) _
  have hmod : ((l.length : Int)).tmod 2 = ((l.length % 2 : Nat) : Int) := by rw [Int.tmod_eq_emod_of_nonneg (by omega)]; omega
  have hdiv : ((l.length : Int)).tdiv 2 = ((l.length / 2 : Nat) : Int) := by rw [Int.tdiv_eq_ediv_of_nonneg (by omega)]; omega
  have hLl : l.reverse.length = l.length := List.length_reverse
  have HC := Lib.hid (fun (r : Nat) (hr : r < l.length) => show ∃ p, A = some p ∧ p.block < w3.heap.size ∧ w3.cell? (p.add r) = some (.int .i64 (l.reverse.getD (l.length - 1 - r) 0)) by
    obtain ⟨A', c', e', hr', -, -⟩ := hR3
    cases e'
    obtain ⟨p, hp, hpb, hc⟩ := cell_int7 hr' hr
    refine ⟨p, hp, hpb, ?_⟩
    rw [hc, List.getD_eq_getElem?_getD, List.getElem?_eq_getElem (by simp; omega), List.getElem_reverse]
    congr 2
    simp
    congr 1
    omega)
  have HR3 := Lib.hid hR3
  have hok0 : okT l.reverse 0 = decide (l.length % 2 = 1) := by unfold okT; simp
  have HK0 := Lib.hid hok0
  have HLL := Lib.hid hLl
  obtain ⟨L, hL⟩ : ∃ L, L = l.reverse := ⟨_, rfl⟩
  have HL := Lib.hid hL
  rw [← hL] at HC HK0 HLL
  have hsz3 : w3.heap.size ≤ (w3.alloc (.cells #[] 3)).heap.size := hb0.size
  clear hok0 hLl hL hR3
  have hod : l.length % 2 = 0 ∨ l.length % 2 = 1 := by omega
  rcases hod with hod | hod
  all_goals
    rw [hod] at hmod
    have i15 : (l.length : Int) ≤ 15 := by omega
    have HK := Lib.hid (show okT L 0 = decide (l.length % 2 = 1) from HK0.out)
    rw [hod] at HK
    go_wp2
    go_loopw [5, 6, 7, 8, 9] (fun T a b o i wr => ∃ (q : Nat) (z : Int) (B : Bool) (ca cb : Nat), q ≤ l.length ∧ i = .int .i64 z ∧ z = (q : Int) - 1 ∧ OwnI wr w3.heap.size T (L.take (l.length - q)) ∧ a = .int .i64 ca ∧ b = .int .i64 cb ∧ o = .bool B ∧ ca = ltC L n (l.length - q) ∧ cb = gtC L n (l.length - q) ∧ B = okT L (l.length - q) ∧ Below w3.heap.size w3 wr) (fun _ _ _ _ i _ => (intOf i + 1).toNat)
    case atStart => exact ⟨l.length, _, _, 0, 0, Nat.le_refl _, rfl, rfl, by rw [Nat.sub_self]; exact hO0, rfl, rfl, rfl, by rw [Nat.sub_self]; rfl, by rw [Nat.sub_self]; rfl, by rw [Nat.sub_self, HK.out]; rfl, hb0⟩
    case round =>
      obtain ⟨q, z, B, ca, cb, hq, rfl, hz, hO, rfl, rfl, rfl, hca, hcb, hBq, hbr⟩ := hrel
      clear hO0 hb0 hsz3
      have hsz := hbr.size
      rcases Nat.eq_zero_or_pos q with rfl | hq0
      · obtain rfl : z = -1 := by omega
        rw [Nat.sub_zero] at hO hca hcb hBq
        have hBm : B = medOK l := by rw [hBq, HL.out, okT_end (by omega)]
        have hca2 : ca = l.countP fun y => decide (y < n) := by rw [hca, HL.out, ltC_rev]
        have hcb2 : cb = l.countP fun y => decide (n < y) := by rw [hcb, HL.out, gtC_rev]
        have hTl : L.take l.length = l.reverse := by rw [HL.out, List.take_of_length_le (by simp)]
        rw [hTl] at hO
        have HBm := Lib.hid hBm
        have HCa := Lib.hid hca2
        have HCb := Lib.hid hcb2
        clear hBq hca hcb hBm hca2 hcb2 hTl hz hq
        cases B
        · obtain rfl : n = 0 := by
            have h := Hm.out; unfold MedOf at h; rw [← HBm.out] at h; simpa using h
          go_wp2_with fail
          refine (alive_any _).mono ?_
          rintro e w5 ⟨rfl, hc⟩
          go_wp2
          go_ret
          exact ⟨rfl, (hB.trans (hbr.mono hB.size)).trans (hc.mono (Nat.le_trans hB.size hsz))⟩
        · have hmed : IsMed l n := by have h := Hm.out; unfold MedOf at h; rwa [if_pos HBm.out.symm] at h
          have k1 : ca ≤ l.length / 2 := by rw [HCa.out]; exact hmed.2.1
          have k2 : cb ≤ l.length / 2 := by
            rw [HCb.out]
            rcases med_more hmed with h | h
            · exact h
            · have h2 := HBm.out; unfold medOK at h2; rw [decide_eq_false (show ¬ l.length % 2 = 1 by omega)] at h2; simp at h2
          have hRr := OwnI.read hO (by simp; omega) (fun x hx => HRD.out x (List.mem_reverse.1 hx))
          have HI := Lib.hid (iMedianOf_any _ l.reverse wr hRr)
          unfold OwnI at hO
          rw [List.length_reverse] at hO
          obtain ⟨A6, c6, rfl, -, -⟩ := own_form hO
          clear hmed HBm HCa HCb
          go_wp2_with fail
          refine HI.out.mono ?_
          rintro e w5 ⟨n3, rfl, hm3, hc⟩
          obtain rfl := medOf_unique (medOf_reverse Hm.out) hm3
          clear hm3 HI hRr hO
          go_wp2
          go_ret
          exact ⟨rfl, (hB.trans (hbr.mono hB.size)).trans (hc.mono (Nat.le_trans hB.size hsz))⟩
      · obtain ⟨r, rfl⟩ : ∃ r, q = r + 1 := ⟨q - 1, by omega⟩
        obtain rfl : z = (r : Int) := by omega
        obtain ⟨m, hm⟩ : ∃ m, m = l.length - (r + 1) := ⟨_, rfl⟩
        rw [← hm] at hO hca hcb hBq
        have hmr : l.length - r = m + 1 := by omega
        have hmL : m < L.length := by rw [HLL.out]; omega
        obtain ⟨p, rfl, hpb, hc⟩ := HC.out r (by omega)
        rw [show l.length - 1 - r = m by omega, List.getD_eq_getElem?_getD, List.getElem?_eq_getElem hmL, Option.getD_some] at hc
        have E0 := Lib.hid (List.take_succ_eq_append_getElem hmL)
        have E1 := Lib.hid (fun h : L[m] < n => ltC_yes hmL h)
        have E2 := Lib.hid (fun h : ¬ L[m] < n => ltC_no hmL h)
        have E3 := Lib.hid (fun h : n < L[m] => gtC_yes hmL h)
        have E4 := Lib.hid (fun h : ¬ n < L[m] => gtC_no hmL h)
        have E5 := Lib.hid (okT_succ hmL)
        obtain ⟨x, hx⟩ : ∃ x, x = L[m] := ⟨_, rfl⟩
        rw [← hx] at hc E0 E1 E2 E3 E4 E5
        have GC := Lib.hid (fun (W : World) (hb : Below w3.heap.size w3 W) => (hb.cell (p := p.add r) (by rw [add_block]; exact hpb)).trans hc)
        have g1 := GC.out wr hbr
        have hTl : (L.take m).length = m := by rw [List.length_take]; omega
        have HTl := Lib.hid hTl
        have hca3 : ca ≤ 10 := by rw [hca]; exact Nat.le_trans (ltC_le _ _ _) (by have := HLL.out; omega)
        have hcb3 : cb ≤ 10 := by rw [hcb]; exact Nat.le_trans (gtC_le _ _ _) (by have := HLL.out; omega)
        have HCa := Lib.hid hca
        have HCb := Lib.hid hcb
        have HBq := Lib.hid hBq
        have HM := Lib.hid hmr
        have i1 : (r : Int) < (l.length : Int) := by omega
        have i2 : m ≤ 10 := by omega
        have HRL := Lib.hid (show r ≤ l.length by omega)
        unfold OwnI at hO
        rw [hTl] at hO
        obtain ⟨A6, c6, rfl, -, -⟩ := own_form hO
        clear hx hc hca hcb hBq hm hmr hq hz hTl hq0
        go_wp2_with (at_builtin; refine wpl_append rfl _ _ 39 rfl elI rfl (World.ownsRow.alloc hO _) rfl (Rd.new1 _ _ _) ?c1 ?c2 ?c3 ?c4 ?_)
        case c1 => first | rfl | (simp; rfl)
        case c2 => have := HTl.out; omega
        case c3 => have := HTl.out; omega
        case c4 => first | omega | (simp; omega)
        intro v' w5 hO5 hg5 _
        have R : OwnI w5 w3.heap.size v' (L.take (m + 1)) := by unfold OwnI; rw [E0.out]; simpa [HTl.out] using hO5
        have hb5 : Below w3.heap.size w3 w5 := (hbr.alloc hsz _).grown hg5 (by simp; omega) (fun j hj => (hO.lt j hj).1)
        have g5 := GC.out w5 hb5
        have HR5 := Lib.hid R
        clear hO5 hg5 hO hbr g1 R
        cases B
        · have E6 := Lib.hid (show false = okT L (m + 1) by rw [E5.out, ← HBq.out]; rfl)
          clear E5 HBq
          rcases Int.lt_trichotomy x n with h | h | h
          · have E7 := Lib.hid (E1.out h)
            have E8 := Lib.hid (E4.out (by omega))
            clear E1 E2 E3 E4
            have h2 : ¬ n < x := by omega
            go_wp2
            go_roundw
            case rel => exact ⟨r, _, _, ca + 1, cb, HRL.out, rfl, rfl, by rw [HM.out]; exact HR5.out, by go_num, by go_num, rfl, by rw [HM.out, E7.out, ← HCa.out], by rw [HM.out, E8.out, ← HCb.out], by rw [HM.out]; exact E6.out, hb5⟩
            case measure => simp [intOf]
          · have E7 := Lib.hid (E2.out (by omega))
            have E8 := Lib.hid (E4.out (by omega))
            clear E1 E2 E3 E4
            subst h
            go_wp2
            go_roundw
            case rel => exact ⟨r, _, _, ca, cb, HRL.out, rfl, rfl, by rw [HM.out]; exact HR5.out, by go_num, by go_num, rfl, by rw [HM.out, E7.out, ← HCa.out], by rw [HM.out, E8.out, ← HCb.out], by rw [HM.out]; exact E6.out, hb5⟩
            case measure => simp [intOf]
          · have E7 := Lib.hid (E2.out (by omega))
            have E8 := Lib.hid (E3.out h)
            clear E1 E2 E3 E4
            have h2 : ¬ x < n := by omega
            go_wp2
            go_roundw
            case rel => exact ⟨r, _, _, ca, cb + 1, HRL.out, rfl, rfl, by rw [HM.out]; exact HR5.out, by go_num, by go_num, rfl, by rw [HM.out, E7.out, ← HCa.out], by rw [HM.out, E8.out, ← HCb.out], by rw [HM.out]; exact E6.out, hb5⟩
            case measure => simp [intOf]
        · have HW := Lib.hid (fun W : World => lisWord_any x W)
          go_wp2_with fail
          refine (HW.out _).mono ?_
          rintro e w6 ⟨rfl, rfl⟩
          cases hx : inW x
          · have E6 := Lib.hid (show false = okT L (m + 1) by rw [E5.out, ← HBq.out, hx]; rfl)
            clear E5 HBq hx
            rcases Int.lt_trichotomy x n with h | h | h
            · have E7 := Lib.hid (E1.out h)
              have E8 := Lib.hid (E4.out (by omega))
              clear E1 E2 E3 E4
              have h2 : ¬ n < x := by omega
              go_wp2
              go_roundw
              case rel => exact ⟨r, _, _, ca + 1, cb, HRL.out, rfl, rfl, by rw [HM.out]; exact HR5.out, by go_num, by go_num, rfl, by rw [HM.out, E7.out, ← HCa.out], by rw [HM.out, E8.out, ← HCb.out], by rw [HM.out]; exact E6.out, hb5⟩
              case measure => simp [intOf]
            · have E7 := Lib.hid (E2.out (by omega))
              have E8 := Lib.hid (E4.out (by omega))
              clear E1 E2 E3 E4
              subst h
              go_wp2
              go_roundw
              case rel => exact ⟨r, _, _, ca, cb, HRL.out, rfl, rfl, by rw [HM.out]; exact HR5.out, by go_num, by go_num, rfl, by rw [HM.out, E7.out, ← HCa.out], by rw [HM.out, E8.out, ← HCb.out], by rw [HM.out]; exact E6.out, hb5⟩
              case measure => simp [intOf]
            · have E7 := Lib.hid (E2.out (by omega))
              have E8 := Lib.hid (E3.out h)
              clear E1 E2 E3 E4
              have h2 : ¬ x < n := by omega
              go_wp2
              go_roundw
              case rel => exact ⟨r, _, _, ca, cb + 1, HRL.out, rfl, rfl, by rw [HM.out]; exact HR5.out, by go_num, by go_num, rfl, by rw [HM.out, E7.out, ← HCa.out], by rw [HM.out, E8.out, ← HCb.out], by rw [HM.out]; exact E6.out, hb5⟩
              case measure => simp [intOf]
          · have E6 := Lib.hid (show true = okT L (m + 1) by rw [E5.out, ← HBq.out, hx]; rfl)
            clear E5 HBq hx
            rcases Int.lt_trichotomy x n with h | h | h
            · have E7 := Lib.hid (E1.out h)
              have E8 := Lib.hid (E4.out (by omega))
              clear E1 E2 E3 E4
              have h2 : ¬ n < x := by omega
              go_wp2
              go_roundw
              case rel => exact ⟨r, _, _, ca + 1, cb, HRL.out, rfl, rfl, by rw [HM.out]; exact HR5.out, by go_num, by go_num, rfl, by rw [HM.out, E7.out, ← HCa.out], by rw [HM.out, E8.out, ← HCb.out], by rw [HM.out]; exact E6.out, hb5⟩
              case measure => simp [intOf]
            · have E7 := Lib.hid (E2.out (by omega))
              have E8 := Lib.hid (E4.out (by omega))
              clear E1 E2 E3 E4
              subst h
              go_wp2
              go_roundw
              case rel => exact ⟨r, _, _, ca, cb, HRL.out, rfl, rfl, by rw [HM.out]; exact HR5.out, by go_num, by go_num, rfl, by rw [HM.out, E7.out, ← HCa.out], by rw [HM.out, E8.out, ← HCb.out], by rw [HM.out]; exact E6.out, hb5⟩
              case measure => simp [intOf]
            · have E7 := Lib.hid (E2.out (by omega))
              have E8 := Lib.hid (E3.out h)
              clear E1 E2 E3 E4
              have h2 : ¬ x < n := by omega
              go_wp2
              go_roundw
              case rel => exact ⟨r, _, _, ca, cb + 1, HRL.out, rfl, rfl, by rw [HM.out]; exact HR5.out, by go_num, by go_num, rfl, by rw [HM.out, E7.out, ← HCa.out], by rw [HM.out, E8.out, ← HCb.out], by rw [HM.out]; exact E6.out, hb5⟩
              case measure => simp [intOf]
end Go.Proofs.Ytcpjafhhmhaenaa
