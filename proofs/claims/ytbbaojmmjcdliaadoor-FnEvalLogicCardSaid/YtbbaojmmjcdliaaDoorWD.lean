/- The law of LogicDepends: its walk. -/
import Derived.Test.YtbbaojmmjcdliaaDoorWT
import Derived.Test.YtbbaojmmjcdliaaDoorSo
namespace Go.Proofs.YtbbaojmmjcdliaaDoor
open Go.RowKit
attribute [local go_sem ↓] Go.wp_at_zero Go.wp_at_succ

theorem negL_len (l : List Nd) : (negL l).length ≤ l.length + 1 := by
  unfold negL
  repeat' split
  all_goals simp
  omega
theorem negL_sm (l : List Nd) (h : ∀ x ∈ l, smN x) : ∀ x ∈ negL l, smN x := by
  intro x hx
  unfold negL at hx
  split at hx
  · split at hx
    · exact h x ((List.dropLast_sublist l).mem hx)
    · split at hx
      · simp at hx
      · rcases List.mem_append.1 hx with h' | h'
        · exact h x h'
        · obtain rfl := List.mem_singleton.1 h'; simp [smN]
  · simp at hx
theorem OwnN.readS {w : World} {b : Nat} {v : Value} {l : List Nd} (h : OwnN w b v l) (hl : l.length ≤ 100) (hs : ∀ x ∈ l, smN x) : NodesR w w.heap.size v l :=
  h.read (by omega) fun x hx => (hs x hx).fit
/-- the first k rows do not turn with bit j -/
def stillB (l : List Nd) (j k : Nat) : Bool := (List.range k).all fun x => row l x == row l (x ^^^ 2 ^ j)
theorem stillB_succ (l : List Nd) (j k : Nat) : stillB l j (k + 1) = (stillB l j k && (row l k == row l (k ^^^ 2 ^ j))) := by
  unfold stillB; rw [List.range_succ, List.all_append]; simp
theorem FnLogicDepends_long (a : Option Addr) (n c : Nat) (w : World) (h : 1048576 < n) (_hn : n ≤ 9223372036854775807) : Calls Tryd.prog 8 #[.slice a n c] w (LawPost w) := by
  go_enter Tryd.func8, Tryd.ntmps8
  go_wp2
  go_ret
  exact ⟨rfl, Below.refl _ _⟩
set_option maxHeartbeats 2000000 in
theorem FnLogicDepends_core (v : Value) (bl : List Int) (w : World) (h : BytesR w w.heap.size v bl) (hl : bl.length ≤ 1048576) (hT : Tab w) :
    Calls Tryd.prog 8 #[v] w (LawPost w) := by
  have HO := Lib.hid (drawLogicDepends_any v bl w h)
  have HT := Lib.hid (fun (w' : World) (hb : Below w.heap.size w w') => hT.next hb)
  have h2 := h.form
  obtain ⟨A, c, rfl, -⟩ := h
  clear h2 hT
  go_enter Tryd.func8, Tryd.ntmps8
  go_wp2_with fail
  refine HO.out.mono ?_
  rintro e w1 ⟨v, l, n, b, rfl, hO, hL, hsm, hn, hbb, hb1⟩
  clear HO
  obtain ⟨B, off, cap, rfl, ⟨hB1, hB2⟩, hcap, -⟩ := hO.form
  have HR := Lib.hid fun (w' : World) (hb : Below w1.heap.size w1 w') => (hO.below hb).read (by omega) hsm
  have HS := Lib.hid (negL_sm l hsm)
  have hnl := negL_len l
  clear hO hsm
  go_wp2_with fail
  refine (iLogicDepends_any _ l n b _ (HR.out _ (Below.refl _ _)) (HT.out _ hb1)).mono ?_
  rintro e w2 ⟨rfl, hb2⟩
  go_wp2_with fail
  refine (sLogicDepends_any _ l n b _ (HR.out _ hb2)).mono ?_
  rintro e w3 ⟨rfl, hb3⟩
  have hb3' := hb2.trans (hb3.mono hb2.size)
  have hb13 := hb1.trans (hb3'.mono hb1.size)
  clear hb2 hb3
  generalize hD : depI l n b = D
  have LT := Lib.hid ((iLogicTable_any (.slice (some ⟨B, off, none⟩) l.length cap) l n w3 (HR.out _ hb3') (HT.out _ hb13)))
  have HR4 := Lib.hid fun (w' : World) (hb : Below w3.heap.size w3 w') => HR.out w' (hb3'.trans (hb.mono hb3'.size))
  have HT4 := Lib.hid fun (w' : World) (hb : Below w3.heap.size w3 w') => HT.out w' (hb13.trans (hb.mono hb13.size))
  have hz13 := hb13.size
  clear HR HT hb3' hb1
  by_cases hok : ttOK l n = true ∧ 0 ≤ b ∧ b < n
  · obtain ⟨ht, hb0, hbn⟩ := hok
    have hDB := depI_yes ht hb0 hbn
    obtain ⟨h0, h6, -⟩ := ttOK_parts ht
    obtain ⟨j, rfl⟩ := Int.eq_ofNat_of_zero_le hb0
    obtain ⟨m, rfl⟩ := Int.eq_ofNat_of_zero_le h0
    have hTL := tabF_len ht
    have HG := Lib.hid (tabF_get ht)
    have hAll := same_all l m j
    have hX : ∀ x, x < 2 ^ m → x ^^^ 2 ^ j < 2 ^ m := fun x hx => xor_lt_pow hx (by omega)
    have HN := Lib.hid fun (hne : 0 < (negL l).length) => (depI_neg (negL_ok hne).2 (m : Int) (j : Int)).trans hD
    rw [hD] at hDB
    rw [Int.toNat_natCast, Int.toNat_natCast] at hDB
    rw [← hDB] at hAll
    clear hDB
    have hTL' : (tabF l m).length = 2 ^ m := hTL
    have hG' := Lib.hid (show ∀ x, x < 2 ^ m → (tabF l m)[x]? = some (row l x) from HG.out)
    have h64 := pow_le64 (show m ≤ 6 by omega)
    have hpos := Nat.two_pow_pos m
    obtain ⟨T, hT⟩ : ∃ T, T = tabF l m := ⟨_, rfl⟩
    obtain ⟨q, hq⟩ : ∃ q, q = 2 ^ m := ⟨_, rfl⟩
    rw [← hT] at hTL' hG'
    have hq' : 2 ^ m = q := hq.symm
    rw [← hq] at hTL'
    rw [← hq] at hX hAll h64 hpos
    go_wp2_with fail
    refine LT.out.mono ?_
    rintro e w4 ⟨v4, rfl, hO4, hb4⟩
    rw [← hT] at hO4
    obtain ⟨A4, c4, rfl, -, -⟩ := own_form hO4
    have g1 := OwnB.rdA hO4 rfl
    have hz4 := hb4.size
    rw [hTL'] at g1 ⊢
    have hq' := Lib.hid hq'
    clear LT hO4 hD HG hT hq hTL ht
    have c1 : ((q : Int) == 0) = false := by simp; omega
    have c2 : decide ((j : Int) < 0) = false := by simp
    have c3 : decide (m ≤ j) = false := by simp; omega
    have c4' : decide ((m : Int) ≤ (j : Int)) = false := by simp; omega
    have h7 : j = 0 ∨ j = 1 ∨ j = 2 ∨ j = 3 := by omega
    go_wp2_with fail
    go_loopw [8, 9] (fun s i wr => ∃ k : Nat, k ≤ q ∧ i = .int .i64 k ∧ s = .bool (stillB l j k) ∧ Below w4.heap.size w4 wr) (fun _ i _ => q - (intOf i).toNat)
    case atStart => exact ⟨0, by omega, rfl, rfl, Below.refl _ _⟩
    case round =>
      obtain ⟨k, hk, rfl, rfl, hbr⟩ := hrel
      by_cases hlt : k < q
      · have hlt2 := hX k hlt
        obtain ⟨p, u, rfl, hpb, hu, hc⟩ := g1.one hlt
        obtain ⟨p', u2, e2, -, hu2, hc2⟩ := g1.one hlt2
        injection e2 with e2
        subst e2
        have hx : u = .bool (row l k) := by rw [List.getElem?_map, hG'.out k (by rw [hq'.out]; exact hlt)] at hu; simpa using hu.symm
        have hx2 : u2 = .bool (row l (k ^^^ 2 ^ j)) := by rw [List.getElem?_map, hG'.out _ (by rw [hq'.out]; exact hlt2)] at hu2; simpa using hu2.symm
        subst hx; subst hx2
        have q1 := (hbr.cell (p := p.add k) (by rw [add_block]; exact hpb)).trans hc
        have q2 := (hbr.cell (p := p.add (k ^^^ 2 ^ j)) (by rw [add_block]; exact hpb)).trans hc2
        have hS := Lib.hid (stillB_succ l j k)
        obtain ⟨x, hx⟩ : ∃ x, x = row l k := ⟨_, rfl⟩
        obtain ⟨z, hz⟩ : ∃ z, z = row l (k ^^^ 2 ^ j) := ⟨_, rfl⟩
        obtain ⟨y, hy⟩ : ∃ y, y = k ^^^ 2 ^ j := ⟨_, rfl⟩
        obtain ⟨s, hs⟩ : ∃ s, s = stillB l j k := ⟨_, rfl⟩
        have hxr : Value.int .i64 (bits .xor .i64 (k : Int) (IntKind.i64.wrap ((2 : Int) ^ j))) = Value.int .i64 (y : Int) := by
          have h2 := pow_le64 (show j ≤ 6 by omega)
          have e : ((2 : Int) ^ j) = ((2 ^ j : Nat) : Int) := by rw [Int.natCast_pow]; rfl
          rw [hy, e]
          generalize (2 ^ j : Nat) = c at h2 ⊢
          rw [IntWalk.i64_in _ (by omega), xor64 k c (by omega) (by omega)]
        rw [← hx, ← hz, ← hs] at hS
        rw [← hx] at q1
        rw [← hz] at q2
        rw [← hy] at q2 hlt2
        rw [← hs]
        have i1 : (k : Int) < (q : Int) := by omega
        have i2 : (y : Int) < (q : Int) := by omega
        clear hu hu2 hc hc2 g1 hx hz hy hs
        rcases h7 with rfl | rfl | rfl | rfl
        all_goals
          simp only [Int.reducePow] at hxr
          cases s <;> cases x <;> cases z
          all_goals
            go_wp2
            go_quiet (fail)
            go_wp2
            go_roundw
            case rel => first | exact ⟨k + 1, by omega, by go_num, by rw [hS.out]; rfl, by exact hbr.trans ⟨rfl, rfl, rfl, Nat.le_refl _, fun _ _ => rfl⟩⟩ | ((repeat apply Exists.intro); exact ⟨⟨k + 1, by omega, by go_num, by rw [hS.out]; rfl, by exact hbr.trans ⟨rfl, rfl, rfl, Nat.le_refl _, fun _ _ => rfl⟩⟩, rfl⟩)
            case measure => simp [intOf]; omega
      · obtain rfl : k = q := by omega
        have hSt : stillB l j k = !D := hAll
        rw [hSt]
        have hb3r := hb4.trans (hbr.mono hz4)
        have hz3r := hb3r.size
        have HN2 := Lib.hid (iNegate_any (.slice (some ⟨B, off, none⟩) l.length cap) l wr (HR4.out _ hb3r))
        clear hAll hSt g1 hG' hX c1 c2 c3 c4' h7
        cases D
        all_goals
          go_wp2_with fail
          refine HN2.out.mono ?_
          rintro e w5 ⟨v5, rfl, hO5, hb5⟩
          have hN5 := OwnN.readS hO5 (by omega) HS.out
          obtain ⟨A5, c5, rfl, -, -⟩ := own_form hO5
          have hb35 := hb3r.trans (hb5.mono hz3r)
          have hT5 := HT4.out _ hb35
          have hb15 := hb13.trans (hb35.mono hz13)
          clear hO5 hb5
          by_cases hne : (negL l).length = 0
          · rw [hne]
            go_wp2
            go_ret
            exact ⟨rfl, hb15⟩
          · have e0 : (((negL l).length : Int) == 0) = false := by rw [beq_eq_false_iff_ne]; omega
            have HNe := HN.out (by omega)
            generalize negL l = X at *
            go_wp2_with fail
            refine (iLogicDepends_any _ X m j _ hN5 hT5).mono ?_
            rintro e w6 ⟨rfl, hb6⟩
            rw [HNe]
            go_wp2
            go_ret
            exact ⟨rfl, hb15.trans (hb6.mono hb15.size)⟩
  · obtain rfl : D = false := by
      rw [← hD]
      cases ht : ttOK l n
      · exact depI_no (.inl ht)
      · exact depI_no (.inr (by
          by_cases hx : 0 ≤ b ∧ b < n
          · exact absurd ⟨ht, hx.1, hx.2⟩ hok
          · omega))
    go_wp2_with fail
    refine LT.out.mono ?_
    rintro e w4 ⟨v4, rfl, hO4, hb4⟩
    obtain ⟨A4, c4, rfl, -, -⟩ := own_form hO4
    have hb14 := hb13.trans (hb4.mono hz13)
    clear hO4 hb4 LT
    have fin : ∀ (W : World), Below w.heap.size w W → Calls Tryd.prog 17 #[] W fun e w' => e = .returned (.bool true) ∧ Below w.heap.size w w' := fun W hb =>
      (alive_any W).mono fun e w' ⟨h1, h2⟩ => ⟨h1, hb.trans (h2.mono hb.size)⟩
    cases ht : ttOK l n
    · have e0 : (tabF l n).length = 0 := by rw [tabF_no ht]; rfl
      rw [e0]
      go_wp2_with fail
      refine (fin _ hb14).mono ?_
      rintro e w5 ⟨rfl, hb5⟩
      go_wp2
      go_ret
      exact ⟨rfl, hb5⟩
    · obtain ⟨h0, h6, -⟩ := ttOK_parts ht
      have e0 := tabF_len ht
      have hp : 0 < 2 ^ n.toNat := Nat.two_pow_pos _
      generalize (tabF l n).length = q at e0
      have e1 : ((q : Int) == 0) = false := by simp; omega
      by_cases hb0 : b < 0
      · go_wp2_with fail
        all_goals
          refine (fin _ hb14).mono ?_
          rintro e w5 ⟨rfl, hb5⟩
          go_wp2
          go_ret
          exact ⟨rfl, hb5⟩
      · have e2 : n ≤ b := by
          by_cases hx : b < n
          · exact absurd ⟨ht, by omega, hx⟩ hok
          · omega
        go_wp2_with fail
        all_goals
          refine (fin _ hb14).mono ?_
          rintro e w5 ⟨rfl, hb5⟩
          go_wp2
          go_ret
          exact ⟨rfl, hb5⟩
end Go.Proofs.YtbbaojmmjcdliaaDoor
